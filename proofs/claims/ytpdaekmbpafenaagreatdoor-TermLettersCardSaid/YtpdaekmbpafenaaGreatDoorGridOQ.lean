
import Derived.Test.YtpdaekmbpafenaaGreatDoorGridLQ
import Derived.Test.YtpdaekmbpafenaaGreatDoorCellHQ
import Derived.Deep.RegionWith
namespace Go.Proofs.YtpdaekmbpafenaaGreatDoor
set_option maxHeartbeats 1000000
set_option maxRecDepth 100000
open Go.RowKit
def FitRel (l:List Ce) (k:Nat):Prop :=
 ∃ done rest:List Ce,done.length=k∧done ++ rest=l∧(qa6 l && qa3 1 l)=(qa6 rest && qa3 (qd1 done) rest)
theorem FitRel.start (l:List Ce):FitRel l 0:=⟨[],l,rfl,rfl,rfl⟩
theorem FitRel.stop {l:List Ce} (h:FitRel l l.length):(qa6 l && qa3 1 l)=true:=by
 obtain⟨done,rest,h1,h2,h3⟩:=h
 have:rest=[]:=by
  have:=congrArg List.length h2
  rw[List.length_append] at this
  exact List.length_eq_zero_iff.1 (by omega)
 subst this
 rw[h3]
 rfl
theorem FitRel.step {l : List Ce} {k : Nat} (h : FitRel l k) (hk : k < l.length) :
  (qq l[k]=false→(qa6 l && qa3 1 l)=false)∧(qf0 l k=true→(qa6 l && qa3 1 l)=false)∧(qq l[k]=true→qf0 l k=false→FitRel l (k+1)):=by
 obtain⟨done,rest,h1,h2,h3⟩:=h
 subst h2
 cases rest with
 | nil=>simp at hk;omega
 | cons c r =>
  have hc:(done ++ c :: r)[k]=c:=by simp[← h1]
  have hh:qf0 (done ++ c :: r) k=hf (qd1 done) c r:=by rw[← h1];exact half_at done c r
  rw[hc,hh]
  rw[qfz,ql1] at h3
  refine⟨fun h=>?_,fun h=>?_,fun h h'=>?_⟩
  ·rw[h3,h];rfl
  ·rw[h3,h];simp
  ·refine⟨done ++ [c],r,by simp[h1],by simp,?_⟩
   rw[h3,h,h'];rfl
theorem pFits_any (cols : Int) (v : Value) (l : List Ce) (soft : Bool) (W : World) (hr : CeRow W v l) (ht : ∀ c ∈ l, c.tx.size ≤ 1000) (hn : l.length ≤ 1000000) (hT : Tab W) (hW : TabW W) :
  Calls Tryz.prog 178 #[.agg #[v,.bool soft],.int .i64 cols] W fun e w'=>e=.returned (.bool (qbv cols l))∧Below W.heap.size W w':=by
 have hB:=Box.new W 55 #[v,.bool soft]
 have hbel:Below W.heap.size W (W.alloc (.cells #[v,.bool soft] 55)):=qa _ _
 obtain⟨A,c0,rfl⟩:=hr.spell
 have hF:qbv cols l=(decide ((l.length:Int)=cols) && (qa6 l && qa3 1 l)):=rfl
 by_cases hlen:(l.length:Int)=cols
 ·rw[decide_eq_true hlen,Bool.true_and] at hF
  have HF:=hid hF
  have HF':=hid hF
  have HN:=hid hn
  have HB:=hid hB
  have HBL:=hid hbel
  have hq:((l.length:Int) != cols)=false:=by simp[hlen]
  obtain⟨n,hnl⟩:∃ n,l.length=n:=⟨_,rfl⟩
  have HL:=hid hnl
  rw[hnl] at hq hB hbel hn HB HBL
  rw[hnl]
  clear hF hnl hlen hbel hB
  go_enter Tryz.func178,Tryz.ntmps178
  go_wp2
  go_loopw [15] (fun i wr=>∃ k:Nat,k≤n∧i=.int .i64 k∧Box wr W.heap.size 55 #[.slice A n c0,.bool soft]∧Below W.heap.size W wr∧FitRel l k) (fun i _=>n - (intOf i).toNat)
  case atStart=>exact⟨0,by omega,rfl,HB.out,HBL.out,FitRel.start l⟩
  case round =>
   obtain⟨k,hk,rfl,hb,hbl,hrel'⟩:=hrel
   have HREL:=hid hrel'
   clear hrel'
   by_cases hlt:k < n
   ·have hki:(k:Int) < n:=by omega
    have hkl:k < l.length:=by rw[HL.out];exact hlt
    obtain⟨s1,s2,s3⟩:=HREL.out.step hkl
    have hx:=List.getElem?_eq_getElem hkl
    have htx:=ht l[k] (List.getElem_mem _)
    have hrb:=hr.below hbl
    have hrb':=hrb
    obtain⟨A',c',hA',_,hcell⟩:=hrb'
    cases hA'
    obtain⟨g,o,rfl,hg,hcell⟩:=hcell (by intro e;subst e;simp at hkl)
    obtain⟨p0,p1,p2,p3,p4⟩:=qdp (W:=wr) (g:=g) (o:=o+k * 5) (e:=l[k]) (fun i u hu=>hcell k l[k] hx i u hu)
    have hri:=qde l[k] (wr.alloc (.cells l[k].cells 57)) (by unfold maxLen;omega) (hT.below (hbl.alloc hbl.size _)) (hW.below (hbl.alloc hbl.size _))
    have hcb:=fun W2 (hb2:Below (wr.alloc (.cells l[k].cells 57)).heap.size (wr.alloc (.cells l[k].cells 57)) W2)=>cut_any _ l k W2 (hrb.below (Below.behind hb2)) hkl HN.out
    rw[HL.out] at hcb
    have hbx:=Box.new wr 57 l[k].cells
    have HRB:=hid hrb
    generalize l[k]=x at *
    obtain⟨tx,wd,fg,bg,fl⟩:=x
    unfold Ce.agg Ce.cells at *
    simp only at *
    have HX:=hid hbx
    obtain⟨⟨a0,a1,a2,a3,a4⟩,_⟩:=hbx.five
    have hb1:=hb.below (qa wr (.cells #[.string tx,.int .i64 wd,.int .i64 fg,.int .i64 bg,.int .i64 fl] 57)) hb.lt
    have hbl1:=hbl.alloc hbl.size (.cells #[.string tx,.int .i64 wd,.int .i64 fg,.int .i64 bg,.int .i64 fl] 57)
    have HB1:=hid hb1
    have HBL1:=hid hbl1
    have HXS:=hid hx
    have HHC:=hid hcell
    clear hbx hb1 hbl1 hx hcell hrb HF
    have hblt:=hb.lt
    cases h1:qq ⟨tx,wd,fg,bg,fl⟩
    ·have HE:Hid (qbv cols l=false):=by unfold Hid;rw[show qbv cols l=(qa6 l && qa3 1 l) from HF'.out];exact s1 h1
     rw[h1] at hri
     clear s1 s2 s3 h1 hcb
     go_wp2_with fail
     with_reducible refine hri.mono ?_
     rintro e w2 ⟨rfl,hb2⟩
     dsimp only
     go_wp2
     go_ret
     exact⟨qe HE.out.symm,HBL1.out.trans (hb2.mono HBL1.out.size)⟩
    ·rw[h1] at hri
     cases h2:qf0 l k
     ·have HE:=hid (s3 h1 h2)
      rw[h2] at hcb
      clear s1 s2 s3 h1 h2
      go_wp2_with fail
      with_reducible refine hri.mono ?_
      rintro e w2 ⟨rfl,hb2⟩
      dsimp only
      have d1:=HB1.out.below hb2 (by simp <;> omega)
      obtain⟨⟨c0,c1⟩,f0,f1⟩:=d1.two
      go_wp2_with fail
      with_reducible refine(hcb _ hb2).mono ?_
      rintro e w3 ⟨rfl,rfl⟩
      dsimp only
      go_wp2
      go_roundw
      case rel=>exact⟨k+1,by omega,by go_num,d1,HBL1.out.trans (hb2.mono HBL1.out.size),HE.out⟩
      case measure=>simp[intOf];omega
     ·have HE:Hid (qbv cols l=false):=by unfold Hid;rw[show qbv cols l=(qa6 l && qa3 1 l) from HF'.out];exact s2 h2
      rw[h2] at hcb
      clear s1 s2 s3 h1 h2
      go_wp2_with fail
      with_reducible refine hri.mono ?_
      rintro e w2 ⟨rfl,hb2⟩
      dsimp only
      have d1:=HB1.out.below hb2 (by simp <;> omega)
      obtain⟨⟨c0,c1⟩,f0,f1⟩:=d1.two
      go_wp2_with fail
      with_reducible refine(hcb _ hb2).mono ?_
      rintro e w3 ⟨rfl,rfl⟩
      dsimp only
      go_wp2
      go_ret
      exact⟨qe HE.out.symm,HBL1.out.trans (hb2.mono HBL1.out.size)⟩
   ·have hkm:k=n:=by omega
    subst hkm
    have HE:Hid (qbv cols l=true):=by
     have h:=HREL.out
     rw[← HL.out] at h
     unfold Hid
     rw[HF.out]
     exact h.stop
    go_wp2
    go_ret
    exact⟨qe HE.out.symm,hbl⟩
 ·rw[decide_eq_false hlen,Bool.false_and] at hF
  have HF:=hid hF
  have hq:((l.length:Int) != cols)=true:=by simp[hlen]
  generalize l.length=n at *
  clear hF hlen ht hr hn
  go_enter Tryz.func178,Tryz.ntmps178
  go_wp2
  go_ret
  exact⟨qe HF.out.symm,hbel⟩
set_option maxHeartbeats 1000000
set_option maxRecDepth 100000
def qbl (cols rows:Int):Bool:=decide (1≤cols∧cols≤80) && decide (1≤rows∧rows≤50)
theorem sizeB_t {cols rows:Int} (h:(1≤cols∧cols≤80)∧1≤rows∧rows≤50):qbl cols rows=true:=by
 unfold qbl
 rw[decide_eq_true h.1,decide_eq_true h.2];rfl
theorem sizeB_f {cols rows:Int} (h:¬ ((1≤cols∧cols≤80)∧1≤rows∧rows≤50)):qbl cols rows=false:=by
 unfold qbl
 by_cases h1:1≤cols∧cols≤80
 ·rw[decide_eq_false (fun h2=>h ⟨h1,h2⟩),Bool.and_false]
 ·rw[decide_eq_false h1,Bool.false_and]
theorem size_any (cols rows : Int) (w : World) :
  Calls Tryz.prog 53 #[.int .i64 cols,.int .i64 rows] w fun e w'=>e=.returned (.bool (qbl cols rows))∧w=w':=by
 have hc:cols < 1∨(1≤cols∧80 < cols)∨((1≤cols∧cols≤80)∧rows < 1)∨((1≤cols∧cols≤80)∧1≤rows∧50 < rows)∨((1≤cols∧cols≤80)∧1≤rows∧rows≤50):=by omega
 rcases hc with h | h | h | h | h
 case inr.inr.inr.inr =>
  have HR:=hid (sizeB_t h)
  obtain⟨⟨h1,h2⟩,h3,h4⟩:=h
  go_enter Tryz.func53,Tryz.ntmps53
  go_wp2
  go_ret
  exact⟨qe (by rw[HR.out]),rfl⟩
 case inr.inr.inr.inl =>
  have HR:=hid (sizeB_f (cols:=cols) (rows:=rows) (by omega))
  obtain⟨⟨h1,h2⟩,h3,h4⟩:=h
  have hd:decide (rows≤50)=false:=decide_eq_false (by omega)
  go_enter Tryz.func53,Tryz.ntmps53
  go_wp2
  go_ret
  exact⟨qe (by rw[HR.out]),rfl⟩
 all_goals
  have HR:=hid (sizeB_f (cols:=cols) (rows:=rows) (by omega))
  first | (obtain⟨⟨h1,h2⟩,h3,h4⟩:=h) | (obtain⟨⟨h1,h2⟩,h3⟩:=h) | (obtain⟨h1,h2⟩:=h) | skip
  go_enter Tryz.func53,Tryz.ntmps53
  go_wp2
  go_ret
  exact⟨qe (by rw[HR.out]),rfl⟩
def qcx (row:Int) (n:Nat):Bool:=decide (0≤row∧row < n)
theorem qbs (cols row : Int) (A : Option Addr) (n c : Nat) (w : World) :
  Calls Tryz.prog 224 #[.agg #[.int .i64 cols,.slice A n c],.int .i64 row] w fun e w'=>e=.returned (.bool (qcx row n))∧Below w.heap.size w w':=by
 have hc:row < 0∨(0≤row∧¬ row < n)∨(0≤row∧row < n):=by omega
 rcases hc with h | ⟨h,h2⟩ | ⟨h,h2⟩
 ·have HR:Hid (qcx row n=false):=decide_eq_false (by omega)
  go_enter Tryz.func224,Tryz.ntmps224
  go_wp2
  go_ret
  exact⟨qe (by rw[HR.out]),qa _ _⟩
 ·have HR:Hid (qcx row n=false):=decide_eq_false (by omega)
  have hd:decide (row < (n:Int))=false:=decide_eq_false h2
  go_enter Tryz.func224,Tryz.ntmps224
  go_wp2
  go_ret
  exact⟨qe (by rw[HR.out]),qa _ _⟩
 ·have HR:Hid (qcx row n=true):=decide_eq_true (by omega)
  go_enter Tryz.func224,Tryz.ntmps224
  go_wp2
  go_ret
  exact⟨qe (by rw[HR.out]),qa _ _⟩
def colB (col cols:Int):Bool:=decide (0≤col∧col < cols)
theorem qei (cols col : Int) (A : Option Addr) (n c : Nat) (w : World) :
  Calls Tryz.prog 243 #[.agg #[.int .i64 cols,.slice A n c],.int .i64 col] w fun e w'=>e=.returned (.bool (colB col cols))∧Below w.heap.size w w':=by
 have hc:col < 0∨(0≤col∧¬ col < cols)∨(0≤col∧col < cols):=by omega
 rcases hc with h | ⟨h,h2⟩ | ⟨h,h2⟩
 ·have HR:Hid (colB col cols=false):=decide_eq_false (by omega)
  go_enter Tryz.func243,Tryz.ntmps243
  go_wp2
  go_ret
  exact⟨qe (by rw[HR.out]),qa _ _⟩
 ·have HR:Hid (colB col cols=false):=decide_eq_false (by omega)
  have hd:decide (col < cols)=false:=decide_eq_false h2
  go_enter Tryz.func243,Tryz.ntmps243
  go_wp2
  go_ret
  exact⟨qe (by rw[HR.out]),qa _ _⟩
 ·have HR:Hid (colB col cols=true):=decide_eq_true (by omega)
  go_enter Tryz.func243,Tryz.ntmps243
  go_wp2
  go_ret
  exact⟨qe (by rw[HR.out]),qa _ _⟩
def Sm (lv:List (Ln×Value)):Prop:=lv.length≤1000∧∀ e∈lv,e.1.cs.length≤1000∧∀ c∈e.1.cs,c.tx.size≤1000
def qed (cols:Int) (lv:List (Ln×Value)):Bool:=lv.all fun e=>qbv cols e.1.cs
theorem allB_stop {cols:Int} {lv:List (Ln×Value)} (h:qed cols (lv.take lv.length)=true):qed cols lv=true:=by rwa [List.take_length] at h
theorem allB_step {cols:Int} {lv:List (Ln×Value)} {k:Nat} {e:Ln×Value} (h:qed cols (lv.take k)=true) (he:lv[k]?=some e) (hf:qbv cols e.1.cs=true):qed cols (lv.take (k+1))=true:=by
 obtain⟨hk,rfl⟩:=List.getElem?_eq_some_iff.1 he
 rw[List.take_succ_eq_append_getElem hk]
 unfold qed at *
 rw[List.all_append,h]
 simp[hf]
theorem allB_no {cols:Int} {lv:List (Ln×Value)} {k:Nat} {e:Ln×Value} (he:lv[k]?=some e) (hf:qbv cols e.1.cs=false):qed cols lv=false:=by
 unfold qed
 rw[List.all_eq_false]
 exact⟨e,List.mem_of_getElem? he,by simp[hf]⟩
theorem qa7 (cols : Int) (v : Value) (lv : List (Ln × Value)) (W : World) (hr : LR W v lv) (hc : CesOf W lv) (hs : Sm lv) (hT : Tab W) (hW : TabW W) :
  Calls Tryz.prog 108 #[.agg #[.int .i64 cols,v]] W fun e w'=>e=.returned (.bool (qbl cols lv.length && qed cols lv))∧Below W.heap.size W w':=by
 have hB:=Box.new W 24 #[.int .i64 cols,v]
 have hbel:Below W.heap.size W (W.alloc (.cells #[.int .i64 cols,v] 24)):=qa _ _
 obtain⟨A,c0,rfl⟩:=hr.spell
 have hsz:=fun W=>size_any cols lv.length W
 obtain⟨n,hnl⟩:∃ n,lv.length=n:=⟨_,rfl⟩
 have HL:=hid hnl
 rw[hnl] at hsz hB hbel
 rw[hnl]
 obtain⟨hs1,hs2⟩:=hs
 rw[hnl] at hs1
 have HB:=hid hB
 have HBL:=hid hbel
 clear hbel hB hnl
 cases hq:qbl cols n
 ·rw[hq] at hsz
  clear hq
  go_enter Tryz.func108,Tryz.ntmps108
  go_wp2_with (with_reducible refine(hsz _).mono ?_;rintro e w2 ⟨rfl,rfl⟩)
  go_ret
  exact⟨rfl,HBL.out⟩
 ·rw[hq] at hsz
  clear hq
  rw[Bool.true_and]
  go_enter Tryz.func108,Tryz.ntmps108
  go_wp2_with (with_reducible refine(hsz _).mono ?_;rintro e w2 ⟨rfl,rfl⟩)
  go_loopw [15] (fun i wr=>∃ k:Nat,k≤n∧i=.int .i64 k∧Box wr W.heap.size 24 #[.int .i64 cols,.slice A n c0]∧Below W.heap.size W wr∧qed cols (lv.take k)=true) (fun i _=>n - (intOf i).toNat)
  case atStart=>exact⟨0,by omega,rfl,HB.out,HBL.out,rfl⟩
  case round =>
   obtain⟨k,hk,rfl,hb,hbl,hrel'⟩:=hrel
   have HREL:=hid hrel'
   clear hrel'
   by_cases hlt:k < n
   ·have hki:(k:Int) < n:=by omega
    have hkl:k < lv.length:=by rw[HL.out];exact hlt
    have hx:=List.getElem?_eq_getElem hkl
    obtain⟨z1,z2⟩:=hs2 lv[k] (List.getElem_mem _)
    have hce:=hc lv[k] (List.getElem_mem _)
    obtain⟨A',c',hA',_,hcell⟩:=hr.below hbl
    cases hA'
    obtain⟨g,o,rfl,hg,hcell⟩:=hcell (by intro e;subst e;simp at hkl)
    obtain⟨p0,p1⟩:=hcell k _ hx
    generalize lv[k]=x at *
    obtain⟨⟨cs,soft⟩,cv⟩:=x
    simp only at *
    have hF:=pFits_any cols cv cs soft (wr.alloc (.cells #[cv,.bool soft] 55)) (hce.below (hbl.alloc hbl.size _)) z2 (by omega) (hT.below (hbl.alloc hbl.size _)) (hW.below (hbl.alloc hbl.size _))
    obtain⟨cA,cc,rfl⟩:=hce.spell
    have hbx:=Box.new wr 55 #[.slice cA cs.length cc,.bool soft]
    have hb1:=hb.below (qa wr (.cells #[.slice cA cs.length cc,.bool soft] 55)) hb.lt
    have hbl1:=hbl.alloc hbl.size (.cells #[.slice cA cs.length cc,.bool soft] 55)
    have HB1:=hid hb1
    have HBL1:=hid hbl1
    have HX:=hid hx
    obtain⟨⟨a0,a1⟩,_⟩:=hbx.two
    obtain⟨⟨b0,b1⟩,_⟩:=hb1.two
    have hblt:=hb.lt
    clear hbx hb1 hbl1 hx hcell hce
    cases h1:qbv cols cs
    ·rw[h1] at hF
     have HE:=hid (allB_no HX.out h1)
     clear h1
     go_wp2_with (with_reducible refine hF.mono ?_;rintro e w2 ⟨rfl,hb2⟩)
     go_ret
     exact⟨qe HE.out.symm,HBL1.out.trans (hb2.mono HBL1.out.size)⟩
    ·rw[h1] at hF
     have HE:=hid (allB_step HREL.out HX.out h1)
     clear h1
     go_wp2_with (with_reducible refine hF.mono ?_;rintro e w2 ⟨rfl,hb2⟩)
     go_roundw
     case rel=>exact⟨k+1,by omega,by go_num,HB1.out.below hb2 (by simp <;> omega),HBL1.out.trans (hb2.mono HBL1.out.size),HE.out⟩
     case measure=>simp[intOf];omega
   ·have hkm:k=n:=by omega
    subst hkm
    have HE:Hid (qed cols lv=true):=by
     have h:=HREL.out
     rw[← HL.out] at h
     exact allB_stop h
    go_wp2
    go_ret
    exact⟨qe HE.out.symm,hbl⟩
set_option maxHeartbeats 1000000
set_option maxRecDepth 100000
def Chg (K:Nat) (caps:Array Value) (B:Nat) (w:World) (cs cs':List Ce) (soft soft':Bool):Prop :=
 (∀ (args:Array Value) (W:World),Sem.run Tryz.prog (callFunc K args) W=.ok (.enter K args) W)∧∀ (W:World) (b:Nat) (v:Value),Below B w W→B≤b→Box W b 55 #[v,.bool soft]→CSl W (b+1) v cs →
  Calls Tryz.prog K (#[.pointer (some ⟨b,0,none⟩)] ++ caps) W fun e w'=>e=.returned (.tuple #[])∧(∃ v',Box w' b 55 #[v',.bool soft']∧CSl w' (b+1) v' cs')∧Below b W w'
def ChgPost (W:World) (cols:Int) (lv:List (Ln×Value)) (ls:List Ln) (e:Ending) (w':World):Prop :=
 ∃ v lv',e=.returned (.agg #[.int .i64 cols,v])∧lv'.map Prod.fst=ls∧LSl w' W.heap.size v lv'∧NewOf w' W.heap.size lv lv'∧Below W.heap.size W w'
theorem qdw (cols : Int) (v : Value) (lv : List (Ln × Value)) (row : Nat) (K : Nat) (caps : Array Value) (W : World) (cs cs' : List Ce) (soft soft' : Bool) (lvl : Value)
  (hr:LR W v lv) (hc:CesOf W lv) (hs:Sm lv) (hx:lv[row]?=some (⟨cs,soft⟩,lvl)) (hch:Chg K caps W.heap.size W cs cs' soft soft') (hn':cs'.length≤1000) :
  Calls Tryz.prog 225 #[.agg #[.int .i64 cols,v],.int .i64 row,.func (.func K) #[] caps] W (ChgPost W cols lv ((lv.map Prod.fst).set row ⟨qac 1 cs',soft'⟩)):=by
 obtain⟨A,c0,rfl⟩:=hr.spell
 obtain⟨hrow,_⟩:=List.getElem?_eq_some_iff.1 hx
 have hrow':(row:Int) < lv.length:=by omega
 have hlc:=hc _ (List.mem_of_getElem? hx)
 obtain⟨hs1,hs2⟩:=hs
 have hcl:=(hs2 _ (List.mem_of_getElem? hx)).1
 obtain⟨lA,lc,hlv⟩:∃ A c,lvl=.slice A cs.length c:=hlc.spell
 subst hlv
 simp only at hlc hcl
 have HR:=hid hr
 obtain⟨A',c',hA',_,hcell⟩:=hr
 cases hA'
 obtain⟨g,o,rfl,hg,hcell⟩:=hcell (by intro e;subst e;simp at hrow)
 obtain⟨p0,p1⟩:=hcell row _ hx
 simp only at p0 p1
 have hG:=((Box.new W 24 #[.int .i64 cols,.slice (some ⟨g,o,none⟩) lv.length c0]).alloc (.cells #[.int .i64 0,.slice none 0 0] 24)).alloc (.cells #[.slice lA cs.length lc,.bool soft] 55)
 have hZ:=(Box.new (W.alloc (.cells #[.int .i64 cols,.slice (some ⟨g,o,none⟩) lv.length c0] 24)) 24 #[.int .i64 0,.slice none 0 0]).alloc (.cells #[.slice lA cs.length lc,.bool soft] 55)
 have hL:=Box.new ((W.alloc (.cells #[.int .i64 cols,.slice (some ⟨g,o,none⟩) lv.length c0] 24)).alloc (.cells #[.int .i64 0,.slice none 0 0] 24)) 55 #[.slice lA cs.length lc,.bool soft]
 have hb3:Below W.heap.size W (((W.alloc (.cells #[.int .i64 cols,.slice (some ⟨g,o,none⟩) lv.length c0] 24)).alloc (.cells #[.int .i64 0,.slice none 0 0] 24)).alloc (.cells #[.slice lA cs.length lc,.bool soft] 55)):=((qa _ _).alloc (by simp) _).alloc (by simp <;> omega) _
 have hcn:=cclone_any _ cs _ (hlc.below hb3) (by omega)
 have hsz:(((W.alloc (.cells #[.int .i64 cols,.slice (some ⟨g,o,none⟩) lv.length c0] 24)).alloc (.cells #[.int .i64 0,.slice none 0 0] 24)).alloc (.cells #[.slice lA cs.length lc,.bool soft] 55)).heap.size=W.heap.size+3:=by simp
 simp only[World.size_alloc] at hZ hL
 have HG:=hid hG
 have HZ:=hid hZ
 have HL:=hid hL
 have H3:=hid hb3
 have HS:=hid hsz
 have HX:=hid hx
 have HC:=hid hc
 have HS2:=hid hs2
 clear hG hZ hL hb3 hsz hx hc hs2 hcell hlc hcl
 have hK:=hch.1
 go_enter Tryz.func225,Tryz.ntmps225
 go_wp2_with fail
 with_reducible refine hcn.mono ?_
 rintro e w4 ⟨v2,rfl,hc4,hb4⟩
 dsimp only
 rw[HS.out] at hc4 hb4
 have g4:=HG.out.below hb4 (by omega)
 have z4:=HZ.out.below hb4 (by omega)
 have l4:=HL.out.below hb4 (by omega)
 have n4:=H3.out.trans (hb4.mono (by omega))
 have hz4:W.heap.size+3≤w4.heap.size:=by have:=hb4.size;rw[HS.out] at this;exact this
 obtain⟨A2,c2,rfl⟩:=hc4.spell
 have l5:=l4.set (i:=0) (.slice A2 cs.length c2)
 simp only[List.setIfInBounds_toArray,List.set_cons_zero] at l5
 have hcall:=hch.2 (w4.setCell ⟨W.heap.size+1+1,0,none⟩ (.slice A2 cs.length c2)) (W.heap.size+1+1) _ (n4.setCell (p:=⟨W.heap.size+1+1,0,none⟩) (by show W.heap.size≤W.heap.size+1+1;omega) _) (by omega) l5 (hc4.set l4 (by decide) _)
 have HCALL:=hid hcall
 have g5:=g4.other (b':=W.heap.size+1+1) (i:=0) (by omega) (.slice A2 cs.length c2)
 have z5:=z4.other (b':=W.heap.size+1+1) (i:=0) (by omega) (.slice A2 cs.length c2)
 have n5:=n4.setCell (p:=⟨W.heap.size+1+1,0,none⟩) (by show W.heap.size≤W.heap.size+1+1;omega) (.slice A2 cs.length c2)
 have hz5:W.heap.size+3≤(w4.setCell ⟨W.heap.size+1+1,0,none⟩ (.slice A2 cs.length c2)).heap.size:=by rw[qfn];exact hz4
 obtain⟨⟨k0,k1⟩,f0,f1⟩:=l4.two
 have HG5:=hid g5
 have HZ5:=hid z5
 have H5:=hid n5
 have HZ5':=hid hz5
 clear hcall hch hb4 g4 z4 l4 n4 hz4 hc4 l5 g5 z5 n5 hz5
 go_wp2_with fail
 with_reducible refine HCALL.out.mono ?_
 rintro e w5 ⟨rfl,⟨v5,l6,hc6⟩,hb6⟩
 dsimp only
 clear k0 k1 f0 f1 hK
 have g6:=HG5.out.below hb6 (by omega)
 have z6:=HZ5.out.below hb6 (by omega)
 have n6:=H5.out.trans (hb6.mono (by omega))
 have hz6:W.heap.size+1+1+1≤w5.heap.size:=Nat.le_trans HZ5'.out hb6.size
 have hmend:=mend_any _ v5 cs' w5 hc6 (by omega) hz6
 obtain⟨A5,c5,rfl⟩:=hc6.spell
 obtain⟨⟨k0,k1⟩,f0,f1⟩:=l6.two
 obtain⟨⟨q0,q1⟩,r0,r1⟩:=g6.two
 have HG6:=hid g6
 have HZ6:=hid z6
 have HL6:=hid l6
 have H6:=hid n6
 have HZ6':=hid hz6
 clear g6 z6 l6 n6 hz6 hb6 hc6
 go_wp2_with fail
 with_reducible refine hmend.mono ?_
 rintro e w7 ⟨rfl,hc7,hb7⟩
 dsimp only
 clear k0 k1 f0 f1 q0 q1 r0 r1 hmend
 have g7:=HG6.out.below hb7 (by omega)
 have z7:=HZ6.out.below hb7 (by omega)
 have l7:=HL6.out.below hb7 (by omega)
 have n7:=H6.out.trans (hb7.mono (by omega))
 have hz7:W.heap.size+1+1+1≤w7.heap.size:=Nat.le_trans HZ6'.out hb7.size
 have hlcl:=qiw _ lv w7 (HR.out.below n7) (HC.out.below n7) (by omega)
 obtain⟨⟨q0,q1⟩,r0,r1⟩:=g7.two
 have HG7:=hid g7
 have HZ7:=hid z7
 have HL7:=hid l7
 have H7:=hid n7
 have HZ7':=hid hz7
 clear g7 z7 l7 n7 hz7 hb7
 go_wp2_with fail
 with_reducible refine hlcl.mono ?_
 rintro e w8 ⟨v8,rfl,hl8,hb8⟩
 dsimp only
 clear q0 q1 r0 r1 hlcl
 rcases hl8 with ⟨rfl,rfl⟩ | ⟨g8,cap8,rfl,hg8,hl8⟩
 ·simp at hrow
 have g9:=HG7.out.below hb8 (by have:=HZ7'.out;omega)
 have z9:=HZ7.out.below hb8 (by have:=HZ7'.out;omega)
 have l9:=HL7.out.below hb8 (by have:=HZ7'.out;omega)
 have hc9:=hc7.below hb8 (Nat.le_refl _)
 have n9:=H7.out.trans (hb8.mono H7.out.size)
 have hz9:=HZ7'.out
 have hg9:=hl8.lt
 obtain⟨⟨q0,q1⟩,r0,r1⟩:=g9.two
 obtain⟨⟨s0,s1⟩,t0,t1⟩:=l9.two
 obtain⟨⟨m0,m1⟩,u0,u1⟩:=hl8.two HX.out
 simp only at m0 m1
 have HG9:=hid g9
 have HZ9:=hid z9
 have HL9:=hid l9
 have H9:=hid n9
 have HC9:=hid hc9
 have HB8:=hid hl8
 obtain⟨⟨x0,x1⟩,y0,y1⟩:=z9.two
 clear g9 z9 l9 n9 hc9 hb8 hc7 hl8
 have ne1:¬ g8=W.heap.size:=by omega
 have ne2:¬ g8=W.heap.size+1:=by omega
 have ne3:¬ g8=W.heap.size+1+1:=by omega
 have ne4:¬ W.heap.size+1=g8:=by omega
 have ne5:¬ W.heap.size+1+1=g8:=by omega
 have e1:=HG9.out.set (i:=1) (.slice (some ⟨g8,0,none⟩) lv.length cap8)
 have bA:=HB8.out.only (Only.set (Only.refl W.heap.size w8) (i:=1) (.slice (some ⟨g8,0,none⟩) lv.length cap8)) ne1
 have bB:=bA.set2 hrow (⟨qac 1 cs',soft'⟩,.slice A5 cs'.length c5)
 have bC:=(bB.only (Only.set (Only.refl (W.heap.size+1) _) (i:=0) (.int .i64 cols)) ne2).only (Only.set (Only.refl (W.heap.size+1) _) (i:=1) (.slice (some ⟨g8,0,none⟩) lv.length cap8)) ne2
 have HBC:=hid bC
 obtain⟨cA,hA,_⟩:=bA
 have c1:=HC9.out.set HG9.out (by decide) (i:=1) (.slice (some ⟨g8,0,none⟩) lv.length cap8)
 have c2:=c1.set hA (by decide) (i:=row * 2) (.slice A5 cs'.length c5)
 have c3:=c2.set (hA.set (i:=row * 2) (.slice A5 cs'.length c5)) (by decide) (i:=row * 2+1) (.bool soft')
 have zz:=((HZ9.out.other (b':=W.heap.size) (i:=1) (by omega) (.slice (some ⟨g8,0,none⟩) lv.length cap8)).other (i:=row * 2) ne4 (.slice A5 cs'.length c5)).other (i:=row * 2+1) ne4 (.bool soft')
 have c4:=c3.set zz (by decide) (i:=0) (.int .i64 cols)
 have c6:=c4.set (zz.set (i:=0) (.int .i64 cols)) (by decide) (i:=1) (.slice (some ⟨g8,0,none⟩) lv.length cap8)
 have H9':Below W.heap.size W (((((w8.setCell ⟨W.heap.size,1,none⟩ (.slice (some ⟨g8,0,none⟩) lv.length cap8)).setCell ⟨g8,row * 2,none⟩ (.slice A5 cs'.length c5)).setCell ⟨g8,row * 2+1,none⟩ (.bool soft')).setCell ⟨W.heap.size+1,0,none⟩ (.int .i64 cols)).setCell ⟨W.heap.size+1,1,none⟩ (.slice (some ⟨g8,0,none⟩) lv.length cap8)) :=
  ((((H9.out.setCell (p:=⟨W.heap.size,1,none⟩) (Nat.le_refl _) _).setCell (p:=⟨g8,row * 2,none⟩) (by show W.heap.size≤g8;omega) _).setCell (p:=⟨g8,row * 2+1,none⟩) (by show W.heap.size≤g8;omega) _).setCell (p:=⟨W.heap.size+1,0,none⟩) (by show W.heap.size≤W.heap.size+1;omega) _).setCell (p:=⟨W.heap.size+1,1,none⟩) (by show W.heap.size≤W.heap.size+1;omega) _
 have HCC:=hid c6
 have HEND:=hid H9'
 clear e1 bB bC c1 c2 c3 c4 c6 zz hA H9'
 go_wp2
 refine bodyPost_ret (v:=.agg #[.int .i64 cols,.slice (some ⟨g8,0,none⟩) lv.length cap8]) (by simp[results,Tryz.results225,go_sem,x0,x1]) rfl ⟨_,lv.set row (⟨qac 1 cs',soft'⟩,.slice A5 cs'.length c5),rfl,by rw[List.map_set],?_,?_,?_⟩
 ·exact .inr ⟨g8,cap8,by rw[List.length_set],by omega,HBC.out⟩
 ·intro e he
  rcases List.mem_or_eq_of_mem_set he with h | rfl
  ·exact .inl h
  ·exact .inr (HCC.out.mono (by omega))
 ·exact HEND.out
end Go.Proofs.YtpdaekmbpafenaaGreatDoor
