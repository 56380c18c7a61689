
import Derived.Test.YtpdaekmbpafenaaGreatDoorLaidQ
import Derived.Test.YtpdaekmbpafenaaGreatDoorGridMnQ
namespace Go.Proofs.YtpdaekmbpafenaaGreatDoor
open Go.ChangeShapes Go.WideShapes Go.ChangeAt Go.RowKit Go.Joins Go.Deep Go.WideMaps Go.WideElems
theorem gStr:Tryz.prog.cellsOf 9=1:=by kernel_rfl
theorem gInt:Tryz.prog.cellsOf 3=1:=by kernel_rfl
theorem gBool:Tryz.prog.cellsOf 4=1:=by kernel_rfl
theorem gAttr:Tryz.prog.cellsOf 26=3:=by kernel_rfl
theorem gCell:Tryz.prog.cellsOf 57=5:=by kernel_rfl
theorem gLine:Tryz.prog.cellsOf 55=2:=by kernel_rfl
theorem gCells:Tryz.prog.cellsOf 53=1:=by kernel_rfl
theorem qjt {α:Type} {P:Nat→α→Prop}:∀ n,(∀ i,i < n→∃ e,P i e)→∃ l:List α,l.length=n∧∀ i e,l[i]?=some e→P i e
 | 0,_=>⟨[],rfl,fun i e h=>by simp at h⟩
 | n+1,h=>by
  obtain⟨l,hl,hp⟩:=qjt n fun i hi=>h i (by omega)
  obtain⟨e,he⟩:=h n (by omega)
  refine⟨l ++ [e],by simp[hl],fun i x hx=>?_⟩
  by_cases hi:i < l.length
  ·rw[List.getElem?_append_left hi] at hx
   exact hp i x hx
  ·rw[List.getElem?_append_right (by omega)] at hx
   have h0:i - l.length=0:=by
    rcases Nat.eq_zero_or_pos (i - l.length) with h | h
    ·exact h
    ·rw[List.getElem?_eq_none (by simp;omega)] at hx;cases hx
   rw[h0] at hx
   simp at hx
   subst hx
   rw[show i=n by omega]
   exact he
theorem open_ce {H : Type} {enc : TypeId × Value → H} {W : World} {base : Nat} {sp : Nat → Bool} {held : Bool} {fuel : Nat} {cs : List Value} {y : DataW H × List MemPlace} (h : DataW.trod enc Tryz.prog W base sp held fuel 57 cs = some y) (hl : cs.length = 5) :
  ∃ e:Ce,cs=e.cells.toList∧e.tx.size≤maxLen:=by
 match cs,hl with
 | [k0,k1,k2,k3,k4],_ =>
  obtain⟨y0,y1,y2,m,_,_,t0,t1,t2⟩:=trod_struct3 Tryz.underlying57 h
  have t0':DataW.trod enc Tryz.prog W base sp held m 9 [k0]=some y0:=by simpa [gStr] using t0
  have t1':DataW.trod enc Tryz.prog W base sp held m 3 [k1]=some y1:=by simpa [gInt] using t1
  have t2':DataW.trod enc Tryz.prog W base sp held m 26 [k2,k3,k4]=some y2:=by simpa [gAttr] using t2
  obtain⟨tx,e0,_,hs⟩:=DataW.trod_string Tryz.underlying9 t0'
  obtain⟨wd,e1,_,_⟩:=DataW.trod_int Tryz.underlying3 t1'
  obtain⟨z0,z1,z2,m2,_,_,s0,s1,s2⟩:=trod_struct3 Tryz.underlying26 t2'
  have s0':DataW.trod enc Tryz.prog W base sp held m2 3 [k2]=some z0:=by simpa [gInt] using s0
  have s1':DataW.trod enc Tryz.prog W base sp held m2 3 [k3]=some z1:=by simpa [gInt] using s1
  have s2':DataW.trod enc Tryz.prog W base sp held m2 3 [k4]=some z2:=by simpa [gInt] using s2
  obtain⟨fg,e2,_,_⟩:=DataW.trod_int Tryz.underlying3 s0'
  obtain⟨bg,e3,_,_⟩:=DataW.trod_int Tryz.underlying3 s1'
  obtain⟨fl,e4,_,_⟩:=DataW.trod_int Tryz.underlying3 s2'
  simp at e0 e1 e2 e3 e4
  subst e0 e1 e2 e3 e4
  exact⟨⟨tx,wd,fg,bg,fl⟩,rfl,hs⟩
theorem spot_none {w:World} {a:Addr} {v:Value} (h:w.cell? a=some v):∃ g o,a=⟨g,o,none⟩:=by
 obtain⟨g,o,s⟩:=a
 cases s with
 | none=>exact⟨g,o,rfl⟩
 | some s =>
  unfold World.cell? at h
  split at h
  ·simp at h
  ·cases h
theorem open_cells {H : Type} {enc : TypeId × Value → H} {W : World} {base : Nat} {sp : Nat → Bool} {held : Bool} {fuel : Nat} {k : Value} {y : DataW H × List MemPlace} (h : DataW.trod enc Tryz.prog W base sp held fuel 53 [k] = some y) :
  ∃ l,CeRow W k l∧l.length≤maxLen∧∀ c∈l,c.tx.size≤maxLen:=by
 rcases Deep.open_slice Tryz.underlying53 h with ⟨h0,_⟩ | ⟨a,len,cap,m,n,D,Pl,hcs,hb,hl,hm,hmm,hx,hi⟩
 ·simp at h0
  subst h0
  exact⟨[],CeRow.nil _ _ _,Nat.zero_le _,by simp⟩
 ·simp at hcs
  subst hcs
  obtain⟨l,hll,hp⟩:=qjt (P:=fun i (e:Ce)=>e.tx.size≤maxLen∧∀ j u,e.cells[j]?=some u→W.cell? (a.add (i * 5+j))=some u) len (fun i hil=>by
   have him:i < m:=by rw[hmm];split <;> omega
   obtain⟨cs',hc,ht'⟩:=hi i him
   rw[gCell] at hc
   obtain⟨_,hcl,hat⟩:=World.cells?_some hc
   obtain⟨e,rfl,hs⟩:=open_ce ht' hcl
   refine⟨e,hs,fun j u hu=>?_⟩
   have hj:j < 5:=by have:=(Array.getElem?_eq_some_iff.1 hu).1;simpa [Ce.cells] using this
   rw[← Go.Deep.add_add,hat j hj]
   simpa using hu)
  refine⟨l,⟨some a,cap,by rw[hll],by omega,fun hne=>?_⟩,by omega,fun c hc=>?_⟩
  ·have hpos:0 < l.length:=List.length_pos_iff.2 hne
   have h0:=List.getElem?_eq_getElem hpos
   have hc0:=(hp 0 _ h0).2 0 _ rfl
   have hbl:=qe3 hc0
   have hadd:a.add (0 * 5+0)=a:=by unfold Addr.add;simp
   rw[hadd] at hc0 hbl
   obtain⟨g,o,rfl⟩:=spot_none hc0
   refine⟨g,o,rfl,hbl,fun j e hj i u hu=>?_⟩
   have:=(hp j e hj).2 i u hu
   rw[qca] at this
   rwa [show o+j * 5+i=o+(j * 5+i) by omega]
  ·obtain⟨i,hi'⟩:=List.mem_iff_getElem?.1 hc
   exact(hp i c hi').1
theorem open_ln {H : Type} {enc : TypeId × Value → H} {W : World} {base : Nat} {sp : Nat → Bool} {held : Bool} {fuel : Nat} {cs : List Value} {y : DataW H × List MemPlace} (h : DataW.trod enc Tryz.prog W base sp held fuel 55 cs = some y) (hl : cs.length = 2) :
  ∃ (v:Value) (l:List Ce) (soft:Bool),cs=[v,.bool soft]∧CeRow W v l∧l.length≤maxLen∧∀ c∈l,c.tx.size≤maxLen:=by
 match cs,hl with
 | [k0,k1],_ =>
  obtain⟨ys,m,_,_,_,hyl,hat⟩:=DataW.trod_struct Tryz.underlying55 h
  have hyl':ys.length=2:=hyl
  have e0:=(hat 0 _ rfl).trans (List.getElem?_eq_getElem (by omega))
  have e1:=(hat 1 _ rfl).trans (List.getElem?_eq_getElem (by omega))
  have t0:DataW.trod enc Tryz.prog W base sp held m 53 [k0]=some (ys[0]):=by simpa [gCells] using e0
  have t1:DataW.trod enc Tryz.prog W base sp held m 4 [k1]=some (ys[1]):=by simpa [gBool] using e1
  obtain⟨l,h1,h2,h3⟩:=open_cells t0
  obtain⟨b,h4,_⟩:=DataW.trod_bool Tryz.underlying4 t1
  simp at h4
  subst h4
  exact⟨k0,l,b,rfl,h1,h2,h3⟩
end Go.Proofs.YtpdaekmbpafenaaGreatDoor

namespace Go.Proofs.YtpdaekmbpafenaaGreatDoor
open Go.ChangeShapes Go.WideShapes Go.ChangeAt Go.RowKit Go.Joins Go.Deep Go.WideMaps Go.WideElems
theorem gLines:Tryz.prog.cellsOf 22=1:=by kernel_rfl
theorem qnd {H : Type} {enc : TypeId × Value → H} {W : World} {base : Nat} {sp : Nat → Bool} {held : Bool} {fuel : Nat} {k : Value} {y : DataW H × List MemPlace} (h : DataW.trod enc Tryz.prog W base sp held fuel 22 [k] = some y) :
  ∃ lv,LR W k lv∧CesOf W lv∧lv.length≤maxLen∧∀ e∈lv,e.1.cs.length≤maxLen∧∀ c∈e.1.cs,c.tx.size≤maxLen:=by
 rcases Deep.open_slice Tryz.underlying22 h with ⟨h0,_⟩ | ⟨a,len,cap,m,n,D,Pl,hcs,hb,hl,hm,hmm,hx,hi⟩
 ·simp at h0
  subst h0
  exact⟨[],LR.nil _ _ _,by intro e h;simp at h,Nat.zero_le _,by simp⟩
 ·simp at hcs
  subst hcs
  obtain⟨lv,hll,hp⟩:=qjt (P:=fun i (e:Ln×Value)=>(CeRow W e.2 e.1.cs∧e.1.cs.length≤maxLen∧∀ c∈e.1.cs,c.tx.size≤maxLen)∧W.cell? (a.add (i * 2+0))=some e.2∧W.cell? (a.add (i * 2+1))=some (.bool e.1.soft)) len (fun i hil=>by
   have him:i < m:=by rw[hmm];split <;> omega
   obtain⟨cs',hc,ht'⟩:=hi i him
   rw[gLine] at hc
   obtain⟨_,hcl,hat⟩:=World.cells?_some hc
   obtain⟨u,l,soft,rfl,h1,h2,h3⟩:=open_ln ht' hcl
   refine⟨(⟨l,soft⟩,u),⟨h1,h2,h3⟩,?_,?_⟩
   ·rw[← Go.Deep.add_add,hat 0 (by omega)];rfl
   ·rw[← Go.Deep.add_add,hat 1 (by omega)];rfl)
  refine⟨lv,⟨some a,cap,by rw[hll],by omega,fun hne=>?_⟩,fun e he=>?_,by omega,fun e he=>?_⟩
  ·have hpos:0 < lv.length:=List.length_pos_iff.2 hne
   have h0:=List.getElem?_eq_getElem hpos
   have hc0:=(hp 0 _ h0).2.1
   have hbl:=qe3 hc0
   have hadd:a.add (0 * 2+0)=a:=by unfold Addr.add;simp
   rw[hadd] at hc0 hbl
   obtain⟨g,o,rfl⟩:=spot_none hc0
   refine⟨g,o,rfl,hbl,fun j e hj=>?_⟩
   obtain⟨_,q0,q1⟩:=hp j e hj
   rw[qca] at q0 q1
   exact⟨by rwa [show o+j * 2=o+(j * 2+0) by omega],by rwa [show o+j * 2+1=o+(j * 2+1) by omega]⟩
  ·obtain⟨i,hi'⟩:=List.mem_iff_getElem?.1 he
   exact(hp i e hi').1.1
  ·obtain⟨i,hi'⟩:=List.mem_iff_getElem?.1 he
   exact(hp i e hi').1.2
theorem gGrid:Tryz.prog.cellsOf 24=2:=by kernel_rfl
end Go.Proofs.YtpdaekmbpafenaaGreatDoor

namespace Go.Proofs.YtpdaekmbpafenaaGreatDoor
open Go.ChangeShapes Go.WideShapes Go.ChangeAt Go.RowKit Go.Joins Go.Deep Go.WideMaps Go.WideElems
theorem gBack:Tryz.prog.cellsOf 33=2:=by kernel_rfl
end Go.Proofs.YtpdaekmbpafenaaGreatDoor
