
import Derived.Test.YtpdaekmbpafenaaGreatDoorGridFQ
import Derived.Test.YtpdaekmbpafenaaGreatDoorParseFQ
import Derived.Laws.OwnMore
namespace Go.Proofs.YtpdaekmbpafenaaGreatDoor
set_option maxHeartbeats 1000000
set_option maxRecDepth 100000
open Go.RowKit
def qb0:List Ce→List Value
 | []=>[]
 | e :: l=>e.cells.toList ++ qb0 l
theorem qdc:∀ l,(qb0 l).length=l.length * 5
 | []=>rfl
 | e :: l=>by rw[qb0,List.length_append,qdc l];simp[Ce.cells];omega
theorem qjl:∀ a b,qb0 (a ++ b)=qb0 a ++ qb0 b
 | [],_=>rfl
 | e :: a,b=>by rw[List.cons_append,qb0,qb0,qjl a b,List.append_assoc]
theorem cflat_at:∀ (l:List Ce) (j:Nat) (e:Ce) (i:Nat) (u:Value),l[j]?=some e→e.cells[i]?=some u→(qb0 l)[j * 5+i]?=some u
 | [],_,_,_,_,h,_=>by simp at h
 | x :: l,0,e,i,u,h,hu=>by
  simp at h
  subst h
  have hi:i < 5:=by have:=(Array.getElem?_eq_some_iff.1 hu).1;simpa [Ce.cells] using this
  rw[qb0,List.getElem?_append_left (by simp[Ce.cells];omega)]
  simpa using hu
 | x :: l,j+1,e,i,u,h,hu=>by
  rw[qb0,List.getElem?_append_right (by simp[Ce.cells];omega)]
  have:x.cells.toList.length=5:=by simp[Ce.cells]
  rw[this,show (j+1) * 5+i - 5=j * 5+i by omega]
  exact cflat_at l j e i u (by simpa using h) hu
theorem qil:∀ (l:List Ce) (j:Nat) (u:Value),(qb0 l)[j]?=some u→∃ e,l[j / 5]?=some e∧e.cells[j % 5]?=some u
 | [],j,u,h=>by simp[qb0] at h
 | x :: l,j,u,h=>by
  rw[qb0] at h
  have hx:x.cells.toList.length=5:=by simp[Ce.cells]
  by_cases hj:j < 5
  ·rw[List.getElem?_append_left (by omega)] at h
   refine⟨x,by rw[show j / 5=0 by omega];rfl,?_⟩
   rw[show j % 5=j by omega]
   simpa using h
  ·rw[List.getElem?_append_right (by omega),hx] at h
   obtain⟨e,h1,h2⟩:=qil l (j - 5) u h
   refine⟨e,?_,?_⟩
   ·rw[show j / 5=(j - 5) / 5+1 by omega]
    simpa using h1
   ·rw[show j % 5=(j - 5) % 5 by omega]
    exact h2
theorem ce_one {e:Ce} {i:Nat} {u:Value} (h:e.cells[i]?=some u):u.oneCell'=true:=by
 have hm:u∈e.cells.toList:=by
  rw[← Array.getElem?_toList] at h
  exact List.mem_of_getElem? h
 simp only[Ce.cells,List.mem_cons,List.mem_nil_iff,or_false] at hm
 rcases hm with rfl | rfl | rfl | rfl | rfl <;> rfl
theorem cflat_one {l:List Ce}:∀ u∈qb0 l,u.oneCell'=true:=by
 intro u hu
 obtain⟨j,hj⟩:=List.mem_iff_getElem?.1 hu
 obtain⟨e,_,h2⟩:=qil l j u hj
 exact ce_one h2
theorem qc4 (g o j:Nat):(⟨g,o,none⟩:Addr).add j=⟨g,o+j,none⟩:=by unfold Addr.add;split <;> simp_all
def OwnC (W:World) (base:Nat) (v:Value) (l:List Ce):Prop:=W.ownsRow base 57 5 v l.length (qb0 l)
theorem ce_info:(Tryz.prog.info? 57).map (fun i=>(i.zero,i.size,i.bytes))=some (some (.agg #[.string ⟨#[]⟩,.int .i64 0,.int .i64 0,.int .i64 0,.int .i64 0]),5,48):=by kernel_rfl
theorem OwnC.spell {W:World} {base:Nat} {v:Value} {l:List Ce} (h:OwnC W base v l):∃ A c,v=.slice A l.length c:=by
 rcases h.2 with ⟨rfl,h0⟩ | ⟨g,cap,cur,rfl,_⟩
 ·exact⟨_,_,by rw[h0]⟩
 ·exact⟨_,_,rfl⟩
theorem OwnC.nil (W:World) (base:Nat):OwnC W base (.slice none 0 0) []:=⟨rfl,.inl ⟨rfl,rfl⟩⟩
theorem OwnC.kept {W W':World} {base:Nat} {v:Value} {l:List Ce} (h:OwnC W base v l) (hb:Below W.heap.size W W'):OwnC W' base v l :=
 World.ownsRow.kept h ⟨hb.os,hb.tape,hb.output,hb.size,fun k hk _=>hb.block k hk⟩ (row:=none) (by cases v.ownBlock <;> simp)
theorem OwnC.not_box {W:World} {base b:Nat} {t:TypeId} {cs:Array Value} {v:Value} {l:List Ce} (h:OwnC W base v l) (hb:Box W b t cs) (ht:t≠57):some b≠v.ownBlock:=by
 rcases h.2 with ⟨rfl,_⟩ | ⟨g,cap,cur,rfl,_,hg,_⟩
 ·simp[Value.ownBlock]
 ·simp only[Value.ownBlock,ne_eq,Option.some.injEq]
  rintro rfl
  have hb':W.heap[b]?=some (.cells cs t (0,0)):=hb
  rw[hg] at hb'
  cases hb'
  exact ht rfl
theorem OwnC.set {W:World} {base b i:Nat} {t:TypeId} {cs:Array Value} {v:Value} {l:List Ce} (h:OwnC W base v l) (hb:Box W b t cs) (ht:t≠57) (u:Value):OwnC (W.setCell ⟨b,i,none⟩ u) base v l :=
 World.ownsRow.kept h (row:=some b) ⟨rfl,rfl,rfl,by simp[World.setCell],fun k _ hk=>Below.heap_setCell _ _ _ _ (fun e=>hk (by rw[e]))⟩ (.inr (h.not_box hb ht).symm)
theorem OwnC.lit {W:World} {base:Nat} (l:List Ce) (hl:l.length≤1000) (hb:base≤W.heap.size):OwnC (W.alloc (.cells (qb0 l).toArray 57)) base (.slice (some ⟨W.heap.size,0,none⟩) l.length l.length) l:=by
 have h:=World.ownsRow_lit (base:=base) (e:=57) (size:=5) W (qb0 l).toArray l.length hb (by unfold maxLen;omega) (by simp[qdc])
 unfold OwnC
 simpa using h
def CSl (W:World) (base:Nat) (v:Value) (l:List Ce):Prop :=
 (l=[]∧v=.slice none 0 0)∨∃ g cap,v=.slice (some ⟨g,0,none⟩) l.length cap∧base≤g∧CBox W g l cap
theorem OwnC.csl {W:World} {base:Nat} {v:Value} {l:List Ce} (h:OwnC W base v l):CSl W base v l:=by
 have hall:=h.1
 rcases h.2 with ⟨rfl,h0⟩ | ⟨g,cap,cur,rfl,hb,hg,hn,_,hs,ht⟩
 ·exact .inl ⟨List.length_eq_zero_iff.1 h0,rfl⟩
 ·refine .inr ⟨g,cap,rfl,hb,cur,hg,hs,hn,fun j e hj i u hu=>?_⟩
  have:=cflat_at l j e i u hj hu
  have hi:i < 5:=by have:=(Array.getElem?_eq_some_iff.1 hu).1;simpa [Ce.cells] using this
  have hj':j < l.length:=(List.getElem?_eq_some_iff.1 hj).1
  rw[← ht,List.getElem?_take,if_pos (by omega)] at this
  simpa using this
theorem CSl.spell {W:World} {base:Nat} {v:Value} {l:List Ce} (h:CSl W base v l):∃ A c,v=.slice A l.length c:=by
 rcases h with ⟨rfl,rfl⟩ | ⟨g,cap,rfl,_⟩
 ·exact⟨_,_,rfl⟩
 ·exact⟨_,_,rfl⟩
theorem CSl.set {W:World} {base b i:Nat} {t:TypeId} {cs:Array Value} {v:Value} {l:List Ce} (h:CSl W base v l) (hb:Box W b t cs) (ht:t≠57) (u:Value):CSl (W.setCell ⟨b,i,none⟩ u) base v l:=by
 rcases h with h | ⟨g,cap,rfl,h1,cur,hg,h2⟩
 ·exact .inl h
 ·refine .inr ⟨g,cap,rfl,h1,cur,hg.other ?_ u,h2⟩
  rintro rfl
  have hb':W.heap[g]?=some (.cells cs t (0,0)):=hb
  have hg':W.heap[g]?=some (.cells cur 57 (0,0)):=hg
  rw[hg'] at hb'
  cases hb'
  exact ht rfl
theorem CSl.row {W:World} {base:Nat} {v:Value} {l:List Ce} (h:CSl W base v l):CeRow W v l:=by
 rcases h with ⟨rfl,rfl⟩ | ⟨g,cap,rfl,_,hc⟩
 ·exact CeRow.nil _ _ _
 ·exact hc.row
theorem CSl.below {W W':World} {base B:Nat} {v:Value} {l:List Ce} (h:CSl W base v l) (hb:Below B W W') (hB:W.heap.size≤B):CSl W' base v l:=by
 rcases h with h | ⟨g,cap,rfl,h1,hc⟩
 ·exact .inl h
 ·exact .inr ⟨g,cap,rfl,h1,hc.below hb (Nat.lt_of_lt_of_le hc.lt hB)⟩
theorem CSl.mono {W:World} {base base':Nat} {v:Value} {l:List Ce} (h:CSl W base v l) (hb:base'≤base):CSl W base' v l:=by
 rcases h with h | ⟨g,cap,rfl,h1,hc⟩
 ·exact .inl h
 ·exact .inr ⟨g,cap,rfl,Nat.le_trans hb h1,hc⟩
theorem qix (w : World) (base : Nat) (v x : Value) (l m : List Ce) (hown : OwnC w base v l) (hx : CeRow w x m) (ty : TypeId) (hb : l.length + m.length ≤ 1000000) (hbase : base ≤ w.heap.size) :
  ∃ v' w',(Builtin.append_ #[53,53] ty #[v,x]).run Tryz.prog w=.ok v' w'∧OwnC w' base v' (l ++ m)∧w.grownBy w' v.ownBlock:=by
 obtain⟨i0,hi,hz0,hz1,hz2⟩:=info_parts ce_info
 obtain⟨A,c,rfl,_,hl⟩:=hx
 rcases A with _ | ad
 ·have hm : m = [] := by
   apply Classical.byContradiction
   intro hne
   obtain⟨g,o,h,_⟩:=hl hne
   cases h
  subst hm
  refine⟨v,w,?_,by simpa using hown,World.grownBy.refl w _⟩
  have ht:=Tryz.underlying53
  rcases hown.2 with ⟨rfl,_⟩ | ⟨g,cap,cur,rfl,_,_,hnc,_⟩
  ·simp[Builtin.append_,run_underlying ht,typeInfo,hi,Builtin.lenOf,Builtin.firstCells]
  ·simp[Builtin.append_,run_underlying ht,typeInfo,hi,Builtin.lenOf,Builtin.firstCells,hnc,storeCells]
 ·have hcells : ∀ j u, (qb0 m)[j]? = some u → w.cell? (ad.add j) = some u := by
   intro j u hu
   obtain⟨e,h1,h2⟩:=qil m j u hu
   obtain⟨g,o,h,_,hc⟩:=hl (by intro h;rw[h] at h1;simp at h1)
   cases h
   rw[qc4]
   have:=hc (j / 5) e h1 (j % 5) u h2
   rwa [show o+j / 5 * 5+j % 5=o+j by omega] at this
  obtain⟨v',w',hrun,h2,h3,_⟩:=run_append_own (P:=Tryz.prog) w base 53 ty 57 i0 _ 5 48 Tryz.underlying53 hi hz0 hz1 hz2 rfl (by decide) v l.length (qb0 l) hown ad m.length c (qb0 m) (qdc m) hcells cflat_one (by unfold maxLen;omega) (by omega) hbase
  refine⟨v',w',hrun,?_,h3⟩
  unfold OwnC
  rw[List.length_append,qjl]
  exact h2
theorem qek {ops : Array Oper} {rest : List Oper} {o : Oper} {a : Act} {w : World} {Q : Exit → Act → World → Prop} (hw : Region.wanted o (yielded ops a.tmps) = true) (s x : Operand)
  (ho:o.op=.call { callee:=.builtin .append,args:=#[s,x],argTypes:=#[53,53] }) (base:Nat) (v xv:Value) (l m:List Ce)
  (hs:a.eval s=v) (hown:OwnC w base v l) (hxe:a.eval x=xv) (hx:CeRow w xv m) (hb:l.length+m.length≤1000000) (hbase:base≤w.heap.size)
  (h:∀ v' w',OwnC w' base v' (l ++ m)→w.grownBy w' v.ownBlock→wpList Tryz.prog ops Q rest (a.put o.dst v') w'):wpList Tryz.prog ops Q (o :: rest) a w:=by
 obtain⟨v',w',hrun,h2,h3⟩:=qix w base v xv l m hown hx o.type hb hbase
 simp only[wpList,hw,if_true]
 left
 unfold Oper.wp
 simp[execOp,ho,resolve,invoke,builtin,hs,hxe,hrun,Result.andThen]
 exact h v' w' h2 h3
def ClonePost (W:World) (l:List Ce) (e:Ending) (w':World):Prop:=∃ v,e=.returned v∧CSl w' W.heap.size v l∧Below W.heap.size W w'
theorem cclone_any (v : Value) (l : List Ce) (W : World) (hr : CeRow W v l) (hn : l.length ≤ 1000000) :
  Calls Tryz.prog 186 #[v] W (ClonePost W l):=by
 have hr':=hr
 obtain⟨A,c,rfl,_,hA⟩:=hr
 cases A with
 | none =>
  have hl:l=[]:=by
   apply Classical.byContradiction
   intro h
   obtain⟨_,_,h1,_⟩:=hA h
   cases h1
  subst hl
  clear hA hr'
  have hq:=fun W=>Lib.run_eql_slice_nil (P:=Tryz.prog) W 53 57 none 0 c 0 0 Tryz.underlying53
  simp only[List.length_nil]
  go_enter Tryz.func186,Tryz.ntmps186
  go_wp2
  go_ret
  exact⟨_,rfl,.inl ⟨rfl,rfl⟩,Below.refl _ _⟩
 | some ad =>
  have HC:=hid (hr'.below (qa W (.cells #[] 57)))
  have HO:Hid (OwnC (W.alloc (.cells #[] 57)) W.heap.size (.slice (some ⟨W.heap.size,0,none⟩) 0 0) []):=OwnC.lit [] (by simp) (Nat.le_refl _)
  have HN:=hid hn
  clear hA hr' hn
  have hq:=fun W=>Lib.run_eql_slice_nil (P:=Tryz.prog) W 53 57 (some ad) l.length c 0 0 Tryz.underlying53
  go_enter Tryz.func186,Tryz.ntmps186
  go_wp2_with (at_builtin;refine qek rfl _ _ rfl W.heap.size _ _ [] l rfl HO.out rfl HC.out (by have:=HN.out;simp;omega) (by simp) ?_;intro v' w' h1 h2;have H1:=hid h1;clear h1)
  go_ret
  have hb:=(qa W (.cells #[] 57)).grown h2 (by simp) (fun k e=>by cases e;exact Nat.le_refl _)
  have h1:=H1.out
  rw[List.nil_append] at h1
  exact⟨_,rfl,h1.csl,hb⟩
def MendPost (W:World) (base:Nat) (v:Value) (l:List Ce) (e:Ending) (w':World):Prop:=e=.returned (.tuple #[])∧CSl w' base v l∧Below base W w'
theorem mend_any (base : Nat) (v : Value) (l : List Ce) (W : World) (h : CSl W base v l) (hl : l.length ≤ 1000000) (hB : base ≤ W.heap.size) :
  Calls Tryz.prog 187 #[v] W (MendPost W base v (qac 1 l)):=by
 rcases h with ⟨rfl,rfl⟩ | ⟨g,cap,rfl,h1,hc⟩
 ·exact(mend_none none 0 W).mono fun _ _ ⟨he,hb⟩=>⟨he,.inl ⟨rfl,rfl⟩,hb.mono hB⟩
 ·exact(mend_some g l.length cap l W hc rfl hl).mono fun _ _ ⟨he,h2,h3⟩=>⟨he,.inr ⟨g,cap,by rw[qe5],h1,h2⟩,h3.below hB h1⟩
set_option maxHeartbeats 1000000
set_option maxRecDepth 100000
def CesOf (W:World) (lv:List (Ln×Value)):Prop:=∀ e∈lv,CeRow W e.2 e.1.cs
theorem CesOf.below {W W':World} {lv:List (Ln×Value)} (h:CesOf W lv) (hb:Below W.heap.size W W'):CesOf W' lv:=fun e he=>(h e he).below hb
def LR (W:World) (v:Value) (lv:List (Ln×Value)):Prop :=
 ∃ A c,v=.slice A lv.length c∧lv.length≤c∧(lv≠[]→∃ g o,A=some ⟨g,o,none⟩∧g < W.heap.size∧∀ j e,lv[j]?=some e→W.cell? ⟨g,o+j * 2,none⟩=some e.2∧W.cell? ⟨g,o+j * 2+1,none⟩=some (.bool e.1.soft))
theorem LR.below {W W':World} {v:Value} {l:List (Ln×Value)} (h:LR W v l) (hb:Below W.heap.size W W'):LR W' v l:=by
 obtain⟨A,c,rfl,hc,hl⟩:=h
 refine⟨A,c,rfl,hc,fun hn=>?_⟩
 obtain⟨g,o,hA,hg,hc⟩:=hl hn
 exact⟨g,o,hA,Nat.lt_of_lt_of_le hg hb.size,fun j e he=>⟨(hb.cell (p:=⟨g,o+j * 2,none⟩) hg).trans (hc j e he).1,(hb.cell (p:=⟨g,o+j * 2+1,none⟩) hg).trans (hc j e he).2⟩⟩
theorem LR.spell {W:World} {v:Value} {l:List (Ln×Value)} (h:LR W v l):∃ A c,v=.slice A l.length c:=by
 obtain⟨A,c,e,_⟩:=h
 exact⟨A,c,e⟩
theorem LR.nil (W:World) (A:Option Addr) (c:Nat):LR W (.slice A 0 c) []:=⟨A,c,rfl,Nat.zero_le _,fun h=>absurd rfl h⟩
def LBox (W:World) (g:Nat) (l:List (Ln×Value)) (cap:Nat):Prop :=
 ∃ cur:Array Value,Box W g 55 cur∧cur.size=cap * 2∧l.length≤cap∧∀ j e,l[j]?=some e→cur[j * 2]?=some e.2∧cur[j * 2+1]?=some (.bool e.1.soft)
theorem LBox.lt {W:World} {g cap:Nat} {l:List (Ln×Value)} (h:LBox W g l cap):g < W.heap.size:=by obtain⟨cur,hb,_⟩:=h;exact hb.lt
theorem LBox.len {W:World} {g cap:Nat} {l:List (Ln×Value)} (h:LBox W g l cap):l.length≤cap:=by obtain⟨cur,_,_,hl,_⟩:=h;exact hl
theorem LBox.two {W : World} {g cap : Nat} {l : List (Ln × Value)} (h : LBox W g l cap) {j : Nat} {e : Ln × Value} (hj : l[j]? = some e) :
  (W.cell? ⟨g,j * 2,none⟩=some e.2∧W.cell? ⟨g,j * 2+1,none⟩=some (.bool e.1.soft))∧(W.frozen? ⟨g,j * 2,none⟩=false∧W.frozen? ⟨g,j * 2+1,none⟩=false):=by
 obtain⟨cur,hb,_,_,hc⟩:=h
 exact⟨⟨by rw[hb.cell];exact(hc j e hj).1,by rw[hb.cell];exact(hc j e hj).2⟩,hb.free _,hb.free _⟩
theorem LBox.below {W W':World} {g cap B:Nat} {l:List (Ln×Value)} (h:LBox W g l cap) (hb:Below B W W') (hB:g < B):LBox W' g l cap:=by
 obtain⟨cur,h1,h2⟩:=h
 exact⟨cur,h1.below hb hB,h2⟩
theorem LBox.only {W W':World} {g cap b:Nat} {l:List (Ln×Value)} (h:LBox W g l cap) (hb:Only b W W') (hne:g≠b):LBox W' g l cap:=by
 obtain⟨cur,h1,h2⟩:=h
 exact⟨cur,h1.only hb hne,h2⟩
theorem LBox.row {W:World} {g cap:Nat} {l:List (Ln×Value)} (h:LBox W g l cap):LR W (.slice (some ⟨g,0,none⟩) l.length cap) l :=
 ⟨_,_,rfl,h.len,fun _=>⟨g,0,rfl,h.lt,fun j e he=>by rw[Nat.zero_add];exact(h.two he).1⟩⟩
theorem LBox.set2 {W : World} {g cap : Nat} {l : List (Ln × Value)} (h : LBox W g l cap) {k : Nat} (hk : k < l.length) (e : Ln × Value) :
  LBox ((W.setCell ⟨g,k * 2,none⟩ e.2).setCell ⟨g,k * 2+1,none⟩ (.bool e.1.soft)) g (l.set k e) cap:=by
 obtain⟨cur,hb,hs,hl,hc⟩:=h
 refine⟨_,(hb.set (i:=k * 2) _).set (i:=k * 2+1) _,by simp[hs],by rw[List.length_set];exact hl,?_⟩
 intro j e' hj
 simp only[Array.getElem?_setIfInBounds,Array.size_setIfInBounds]
 by_cases hjk:j=k
 ·subst hjk
  rw[List.getElem?_set_self hk] at hj
  cases hj
  refine⟨?_,?_⟩
  ·rw[if_neg (by omega),if_pos rfl,if_pos (by omega)]
  ·rw[if_pos rfl,if_pos (by omega)]
 ·rw[List.getElem?_set_ne (Ne.symm hjk)] at hj
  have:=hc j e' hj
  refine⟨?_,?_⟩
  ·rw[if_neg (by omega),if_neg (by omega)];exact this.1
  ·rw[if_neg (by omega),if_neg (by omega)];exact this.2
def qr:List (Ln×Value)→List Value
 | []=>[]
 | e :: l=>[e.2,.bool e.1.soft] ++ qr l
theorem qaa:∀ l,(qr l).length=l.length * 2
 | []=>rfl
 | e :: l=>by rw[qr,List.length_append,qaa l];simp;omega
theorem qck:∀ a b,qr (a ++ b)=qr a ++ qr b
 | [],_=>rfl
 | e :: a,b=>by rw[List.cons_append,qr,qr,qck a b,List.append_assoc]
theorem lflat_at:∀ (l:List (Ln×Value)) (j:Nat) (e:Ln×Value),l[j]?=some e→(qr l)[j * 2]?=some e.2∧(qr l)[j * 2+1]?=some (.bool e.1.soft)
 | [],_,_,h=>by simp at h
 | x :: l,0,e,h=>by
  simp at h
  subst h
  exact⟨rfl,rfl⟩
 | x :: l,j+1,e,h=>by
  have:=lflat_at l j e (by simpa using h)
  rw[qr,show (j+1) * 2=j * 2+1+1 by omega]
  exact this
theorem qgj:∀ (l:List (Ln×Value)) (q:Nat) (u:Value),(qr l)[q]?=some u→∃ e,l[q / 2]?=some e∧((q % 2=0∧u=e.2)∨(q % 2=1∧u=.bool e.1.soft))
 | [],_,_,h=>by simp[qr] at h
 | x :: l,0,u,h=>by simp[qr] at h;exact⟨x,rfl,.inl ⟨rfl,h.symm⟩⟩
 | x :: l,1,u,h=>by simp[qr] at h;exact⟨x,rfl,.inr ⟨rfl,h.symm⟩⟩
 | x :: l,q+2,u,h=>by
  have h':(qr l)[q]?=some u:=by simpa [qr] using h
  obtain⟨e,h1,h2⟩:=qgj l q u h'
  refine⟨e,?_,?_⟩
  ·rw[show (q+2) / 2=q / 2+1 by omega];simpa using h1
  ·rwa [show (q+2) % 2=q % 2 by omega]
def OwnL (W:World) (base:Nat) (v:Value) (l:List (Ln×Value)):Prop:=W.ownsRow base 55 2 v l.length (qr l)
theorem qik:(Tryz.prog.info? 55).map (fun i=>(i.zero,i.size,i.bytes))=some (some (.agg #[.slice none 0 0,.bool false]),2,32):=by kernel_rfl
theorem OwnL.spell {W:World} {base:Nat} {v:Value} {l:List (Ln×Value)} (h:OwnL W base v l):∃ A c,v=.slice A l.length c:=by
 rcases h.2 with ⟨rfl,h0⟩ | ⟨g,cap,cur,rfl,_⟩
 ·exact⟨_,_,by rw[h0]⟩
 ·exact⟨_,_,rfl⟩
theorem OwnL.nil (W:World) (base:Nat):OwnL W base (.slice none 0 0) []:=⟨rfl,.inl ⟨rfl,rfl⟩⟩
theorem OwnL.kept {W W':World} {base:Nat} {v:Value} {l:List (Ln×Value)} (h:OwnL W base v l) (hb:Below W.heap.size W W'):OwnL W' base v l :=
 World.ownsRow.kept h ⟨hb.os,hb.tape,hb.output,hb.size,fun k hk _=>hb.block k hk⟩ (row:=none) (by cases v.ownBlock <;> simp)
theorem OwnL.not_box {W:World} {base b:Nat} {t:TypeId} {cs:Array Value} {v:Value} {l:List (Ln×Value)} (h:OwnL W base v l) (hb:Box W b t cs) (ht:t≠55):some b≠v.ownBlock:=by
 rcases h.2 with ⟨rfl,_⟩ | ⟨g,cap,cur,rfl,_,hg,_⟩
 ·simp[Value.ownBlock]
 ·simp only[Value.ownBlock,ne_eq,Option.some.injEq]
  rintro rfl
  have hb':W.heap[b]?=some (.cells cs t (0,0)):=hb
  rw[hg] at hb'
  cases hb'
  exact ht rfl
theorem OwnL.lit {W:World} {base:Nat} (l:List (Ln×Value)) (hl:l.length≤1000) (hb:base≤W.heap.size):OwnL (W.alloc (.cells (qr l).toArray 55)) base (.slice (some ⟨W.heap.size,0,none⟩) l.length l.length) l:=by
 have h:=World.ownsRow_lit (base:=base) (e:=55) (size:=2) W (qr l).toArray l.length hb (by unfold maxLen;omega) (by simp[qaa])
 unfold OwnL
 simpa using h
def LSl (W:World) (base:Nat) (v:Value) (l:List (Ln×Value)):Prop :=
 (l=[]∧v=.slice none 0 0)∨∃ g cap,v=.slice (some ⟨g,0,none⟩) l.length cap∧base≤g∧LBox W g l cap
theorem OwnL.lsl {W:World} {base:Nat} {v:Value} {l:List (Ln×Value)} (h:OwnL W base v l):LSl W base v l:=by
 rcases h.2 with ⟨rfl,h0⟩ | ⟨g,cap,cur,rfl,hb,hg,hn,_,hs,ht⟩
 ·exact .inl ⟨List.length_eq_zero_iff.1 h0,rfl⟩
 ·refine .inr ⟨g,cap,rfl,hb,cur,hg,hs,hn,fun j e hj=>?_⟩
  obtain⟨h1,h2⟩:=lflat_at l j e hj
  have hj':j < l.length:=(List.getElem?_eq_some_iff.1 hj).1
  rw[← ht,List.getElem?_take,if_pos (by omega)] at h1 h2
  exact⟨by simpa using h1,by simpa using h2⟩
theorem LSl.row {W:World} {base:Nat} {v:Value} {l:List (Ln×Value)} (h:LSl W base v l):LR W v l:=by
 rcases h with ⟨rfl,rfl⟩ | ⟨g,cap,rfl,_,hc⟩
 ·exact LR.nil _ _ _
 ·exact hc.row
theorem LSl.spell {W:World} {base:Nat} {v:Value} {l:List (Ln×Value)} (h:LSl W base v l):∃ A c,v=.slice A l.length c:=h.row.spell
theorem LSl.set {W:World} {base b i:Nat} {t:TypeId} {cs:Array Value} {v:Value} {l:List (Ln×Value)} (h:LSl W base v l) (hb:Box W b t cs) (ht:t≠55) (u:Value):LSl (W.setCell ⟨b,i,none⟩ u) base v l:=by
 rcases h with h | ⟨g,cap,rfl,h1,cur,hg,h2⟩
 ·exact .inl h
 ·refine .inr ⟨g,cap,rfl,h1,cur,hg.other ?_ u,h2⟩
  rintro rfl
  have hb':W.heap[g]?=some (.cells cs t (0,0)):=hb
  have hg':W.heap[g]?=some (.cells cur 55 (0,0)):=hg
  rw[hg'] at hb'
  cases hb'
  exact ht rfl
theorem LSl.mono {W:World} {base base':Nat} {v:Value} {l:List (Ln×Value)} (h:LSl W base v l) (hb:base'≤base):LSl W base' v l:=by
 rcases h with h | ⟨g,cap,rfl,h1,hc⟩
 ·exact .inl h
 ·exact .inr ⟨g,cap,rfl,Nat.le_trans hb h1,hc⟩
def NewOf (W:World) (base:Nat) (lv lv':List (Ln×Value)):Prop:=∀ x∈lv',x∈lv∨CSl W base x.2 x.1.cs
theorem NewOf.set {W:World} {base b i:Nat} {t:TypeId} {cs:Array Value} {lv lv':List (Ln×Value)} (h:NewOf W base lv lv') (hb:Box W b t cs) (ht:t≠57) (u:Value):NewOf (W.setCell ⟨b,i,none⟩ u) base lv lv' :=
 fun x hx=>(h x hx).imp id fun h=>h.set hb ht u
theorem NewOf.mono {W:World} {base base':Nat} {lv lv':List (Ln×Value)} (h:NewOf W base lv lv') (hb:base'≤base):NewOf W base' lv lv':=fun x hx=>(h x hx).imp id fun h=>h.mono hb
theorem NewOf.ces {W:World} {base:Nat} {lv lv':List (Ln×Value)} (h:NewOf W base lv lv') (hc:CesOf W lv):CesOf W lv':=fun x hx=>(h x hx).elim (hc x) fun h=>h.row
def Bxs (W:World) (l:List (Nat×TypeId×Array Value)):Prop:=∀ x∈l,Box W x.1 x.2.1 x.2.2
theorem Bxs.below {W W':World} {l:List (Nat×TypeId×Array Value)} (h:Bxs W l) (hb:Below W.heap.size W W'):Bxs W' l:=fun x hx=>(h x hx).below hb (h x hx).lt
theorem Bxs.get {W:World} {l:List (Nat×TypeId×Array Value)} (h:Bxs W l) (i:Nat) {x:Nat×TypeId×Array Value} (hi:l[i]?=some x):Box W x.1 x.2.1 x.2.2:=h x (List.mem_of_getElem? hi)
theorem Bxs.alloc {W:World} {l:List (Nat×TypeId×Array Value)} (h:Bxs W l) (t:TypeId) (cs:Array Value):Bxs (W.alloc (.cells cs t)) (l ++ [(W.heap.size,t,cs)]):=by
 intro x hx
 rw[List.mem_append,List.mem_singleton] at hx
 rcases hx with hx | rfl
 ·exact(h x hx).alloc _
 ·exact Box.new W t cs
theorem Bxs.nil (W:World):Bxs W []:=fun _ h=>by simp at h
theorem qfe {W:World} {l:List (Ln×Value)} (h:CesOf W l):∀ u∈qr l,u.oneCell'=true:=by
 intro u hu
 obtain⟨q,hq⟩:=List.mem_iff_getElem?.1 hu
 obtain⟨e,h1,h2⟩:=qgj l q u hq
 rcases h2 with ⟨_,rfl⟩ | ⟨_,rfl⟩
 ·obtain⟨A,c,he⟩:=(h e (List.mem_of_getElem? h1)).spell
  rw[he];rfl
 ·rfl
theorem qiv (w : World) (base : Nat) (v x : Value) (l m : List (Ln × Value)) (hown : OwnL w base v l) (hx : LR w x m) (hm : CesOf w m) (ty : TypeId) (hb : l.length + m.length ≤ 1000000) (hbase : base ≤ w.heap.size) :
  ∃ v' w',(Builtin.append_ #[22,22] ty #[v,x]).run Tryz.prog w=.ok v' w'∧OwnL w' base v' (l ++ m)∧w.grownBy w' v.ownBlock:=by
 obtain⟨i0,hi,hz0,hz1,hz2⟩:=info_parts qik
 obtain⟨A,c,rfl,_,hl⟩:=hx
 rcases A with _ | ad
 ·have hm : m = [] := by
   apply Classical.byContradiction
   intro hne
   obtain⟨g,o,h,_⟩:=hl hne
   cases h
  subst hm
  refine⟨v,w,?_,by simpa using hown,World.grownBy.refl w _⟩
  have ht:=Tryz.underlying22
  rcases hown.2 with ⟨rfl,_⟩ | ⟨g,cap,cur,rfl,_,_,hnc,_⟩
  ·simp[Builtin.append_,run_underlying ht,typeInfo,hi,Builtin.lenOf,Builtin.firstCells]
  ·simp[Builtin.append_,run_underlying ht,typeInfo,hi,Builtin.lenOf,Builtin.firstCells,hnc,storeCells]
 ·have hcells : ∀ j u, (qr m)[j]? = some u → w.cell? (ad.add j) = some u := by
   intro j u hu
   obtain⟨e,h1,h2⟩:=qgj m j u hu
   obtain⟨g,o,h,_,hc⟩:=hl (by intro h;rw[h] at h1;simp at h1)
   cases h
   rw[qc4]
   have:=hc (j / 2) e h1
   rcases h2 with ⟨h3,rfl⟩ | ⟨h3,rfl⟩
   ·have:=this.1
    rwa [show o+j / 2 * 2=o+j by omega] at this
   ·have:=this.2
    rwa [show o+j / 2 * 2+1=o+j by omega] at this
  obtain⟨v',w',hrun,h2,h3,_⟩:=run_append_own (P:=Tryz.prog) w base 22 ty 55 i0 _ 2 32 Tryz.underlying22 hi hz0 hz1 hz2 rfl (by decide) v l.length (qr l) hown ad m.length c (qr m) (qaa m) hcells (qfe hm) (by unfold maxLen;omega) (by omega) hbase
  refine⟨v',w',hrun,?_,h3⟩
  unfold OwnL
  rw[List.length_append,qck]
  exact h2
theorem qej {ops : Array Oper} {rest : List Oper} {o : Oper} {a : Act} {w : World} {Q : Exit → Act → World → Prop} (hw : Region.wanted o (yielded ops a.tmps) = true) (s x : Operand)
  (ho:o.op=.call { callee:=.builtin .append,args:=#[s,x],argTypes:=#[22,22] }) (base:Nat) (v xv:Value) (l m:List (Ln×Value))
  (hs:a.eval s=v) (hown:OwnL w base v l) (hxe:a.eval x=xv) (hx:LR w xv m) (hm:CesOf w m) (hb:l.length+m.length≤1000000) (hbase:base≤w.heap.size)
  (h:∀ v' w',OwnL w' base v' (l ++ m)→w.grownBy w' v.ownBlock→wpList Tryz.prog ops Q rest (a.put o.dst v') w'):wpList Tryz.prog ops Q (o :: rest) a w:=by
 obtain⟨v',w',hrun,h2,h3⟩:=qiv w base v xv l m hown hx hm o.type hb hbase
 simp only[wpList,hw,if_true]
 left
 unfold Oper.wp
 simp[execOp,ho,resolve,invoke,builtin,hs,hxe,hrun,Result.andThen]
 exact h v' w' h2 h3
def LClonePost (W:World) (l:List (Ln×Value)) (e:Ending) (w':World):Prop:=∃ v,e=.returned v∧LSl w' W.heap.size v l∧Below W.heap.size W w'
theorem qiw (v : Value) (l : List (Ln × Value)) (W : World) (hr : LR W v l) (hm : CesOf W l) (hn : l.length ≤ 1000000) :
  Calls Tryz.prog 223 #[v] W (LClonePost W l):=by
 have hr':=hr
 obtain⟨A,c,rfl,_,hA⟩:=hr
 cases A with
 | none =>
  have hl:l=[]:=by
   apply Classical.byContradiction
   intro h
   obtain⟨_,_,h1,_⟩:=hA h
   cases h1
  subst hl
  clear hA hr'
  have hq:=fun W=>Lib.run_eql_slice_nil (P:=Tryz.prog) W 22 55 none 0 c 0 0 Tryz.underlying22
  simp only[List.length_nil]
  go_enter Tryz.func223,Tryz.ntmps223
  go_wp2
  go_ret
  exact⟨_,rfl,.inl ⟨rfl,rfl⟩,Below.refl _ _⟩
 | some ad =>
  have HC:=hid (hr'.below (qa W (.cells #[] 55)))
  have HM:=hid (hm.below (qa W (.cells #[] 55)))
  have HO:Hid (OwnL (W.alloc (.cells #[] 55)) W.heap.size (.slice (some ⟨W.heap.size,0,none⟩) 0 0) []):=OwnL.lit [] (by simp) (Nat.le_refl _)
  have HN:=hid hn
  clear hA hr' hn hm
  have hq:=fun W=>Lib.run_eql_slice_nil (P:=Tryz.prog) W 22 55 (some ad) l.length c 0 0 Tryz.underlying22
  go_enter Tryz.func223,Tryz.ntmps223
  go_wp2_with (at_builtin;refine qej rfl _ _ rfl W.heap.size _ _ [] l rfl HO.out rfl HC.out HM.out (by have:=HN.out;simp;omega) (by simp) ?_;intro v' w' h1 h2;have H1:=hid h1;clear h1)
  go_ret
  have hb:=(qa W (.cells #[] 55)).grown h2 (by simp) (fun k e=>by cases e;exact Nat.le_refl _)
  have h1:=H1.out
  rw[List.nil_append] at h1
  exact⟨_,rfl,h1.lsl,hb⟩
end Go.Proofs.YtpdaekmbpafenaaGreatDoor
