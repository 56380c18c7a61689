
import Derived.Test.YtpdaekmbpafenaaGreatDoorUtfCQ
import Derived.Deep.DeepCutAuto
import Derived.Test.YtpdaekmbpafenaaGreatDoorIRowQ
import Derived.Laws.Rows
import Derived.BigQuiet
import Derived.Deep.RegionWith
import Derived.Lib.QuietBelow
namespace Go.Proofs.YtpdaekmbpafenaaGreatDoor
set_option maxHeartbeats 800000
set_option maxRecDepth 100000
open Go.RowKit
def qg (r:Int):Int :=
 if ¬ ((0≤r∧r≤55295)∨(57344≤r∧r≤1114111))∨r < 32∨(127≤r∧r≤159) then -1
 else if (768≤r∧r≤879)∨(8203≤r∧r≤8205)∨(65024≤r∧r≤65039) then 0
 else if (4352≤r∧r≤4447)∨(12353≤r∧r≤19903)∨(19968≤r∧r≤40959)∨(44032≤r∧r≤55203)∨(63744≤r∧r≤64255)∨(65281≤r∧r≤65376)∨(127744≤r∧r≤129791)∨(131072≤r∧r≤262141) then 2
 else 1
theorem qgl {r:Int} (h:¬ ((0≤r∧r≤55295)∨(57344≤r∧r≤1114111))∨r < 32∨(127≤r∧r≤159)):qg r=-1:=by
 unfold qg;rw[if_pos h]
theorem widthI_0 {r:Int} (h:(768≤r∧r≤879)∨(8203≤r∧r≤8205)∨(65024≤r∧r≤65039)):qg r=0:=by
 unfold qg;rw[if_neg (by omega),if_pos h]
theorem widthI_2 {r:Int} (h:(4352≤r∧r≤4447)∨(12353≤r∧r≤19903)∨(19968≤r∧r≤40959)∨(44032≤r∧r≤55203)∨(63744≤r∧r≤64255)∨(65281≤r∧r≤65376)∨(127744≤r∧r≤129791)∨(131072≤r∧r≤262141)):qg r=2:=by
 unfold qg;rw[if_neg (by omega),if_neg (by omega),if_pos h]
theorem widthI_1 {r : Int} (h1 : (0 ≤ r ∧ r ≤ 55295) ∨ (57344 ≤ r ∧ r ≤ 1114111)) (h2 : ¬ r < 32) (h3 : ¬ (127 ≤ r ∧ r ≤ 159)) (h4 : ¬ ((768 ≤ r ∧ r ≤ 879) ∨ (8203 ≤ r ∧ r ≤ 8205) ∨ (65024 ≤ r ∧ r ≤ 65039)))
  (h5:¬ ((4352≤r∧r≤4447)∨(12353≤r∧r≤19903)∨(19968≤r∧r≤40959)∨(44032≤r∧r≤55203)∨(63744≤r∧r≤64255)∨(65281≤r∧r≤65376)∨(127744≤r∧r≤129791)∨(131072≤r∧r≤262141))):qg r=1:=by
 unfold qg;rw[if_neg (by omega),if_neg h4,if_neg h5]
def TabW (w:World):Prop:=∃ t,w.heap[0]?=some (.cells #[.int .i32 0,.int .i32 31,.int .i32 (-1),.int .i32 127,.int .i32 159,.int .i32 (-1),.int .i32 768,.int .i32 879,.int .i32 0,.int .i32 8203,.int .i32 8205,.int .i32 0,.int .i32 65024,.int .i32 65039,.int .i32 0,.int .i32 4352,.int .i32 4447,.int .i32 2,.int .i32 12353,.int .i32 19903,.int .i32 2,.int .i32 19968,.int .i32 40959,.int .i32 2,.int .i32 44032,.int .i32 55203,.int .i32 2,.int .i32 63744,.int .i32 64255,.int .i32 2,.int .i32 65281,.int .i32 65376,.int .i32 2,.int .i32 127744,.int .i32 129791,.int .i32 2,.int .i32 131072,.int .i32 262141,.int .i32 2] t (0,0))
theorem TabW.below {w w':World} (h:TabW w) (hb:Below w.heap.size w w'):TabW w':=by
 obtain⟨t,h⟩:=h
 exact⟨t,(hb.block _ (Array.getElem?_eq_some_iff.1 h).1).trans h⟩
def lo13 (k:Nat):Int:=[0,127,768,8203,65024,4352,12353,19968,44032,63744,65281,127744,131072].getD k 0
def hi13 (k:Nat):Int:=[31,159,879,8205,65039,4447,19903,40959,55203,64255,65376,129791,262141].getD k 0
def v13 (k:Nat):Int:=[-1,-1,0,0,0,2,2,2,2,2,2,2,2].getD k 0
theorem qlg {k:Nat} (hk:k < 13):k=0∨k=1∨k=2∨k=3∨k=4∨k=5∨k=6∨k=7∨k=8∨k=9∨k=10∨k=11∨k=12:=by omega
theorem v13_bd {k:Nat} (hk:k < 13):-1≤v13 k∧v13 k≤2:=by
 rcases qlg hk with rfl | rfl | rfl | rfl | rfl | rfl | rfl | rfl | rfl | rfl | rfl | rfl | rfl <;> decide
theorem width_hit {r:Int} {k:Nat} (hk:k < 13) (h:qbn r (lo13 k) (hi13 k)=true):v13 k=qg r:=by
 have h:=of_decide_eq_true h
 rcases qlg hk with rfl | rfl | rfl | rfl | rfl | rfl | rfl | rfl | rfl | rfl | rfl | rfl | rfl <;> simp only[lo13,hi13,List.getD_cons_zero,List.getD_cons_succ] at h <;>
  first
  | exact(qgl (by omega)).symm
  | exact(widthI_0 (by omega)).symm
  | exact(widthI_2 (by omega)).symm
theorem width_none {r:Int} (hr:qak r=true) (h:∀ j < 13,qbn r (lo13 j) (hi13 j)=false):(1:Int)=qg r:=by
 have g:∀ j < 13,¬ (lo13 j≤r∧r≤hi13 j):=fun j hj=>of_decide_eq_false (h j hj)
 have g0:=g 0 (by omega);have g1:=g 1 (by omega);have g2:=g 2 (by omega);have g3:=g 3 (by omega);have g4:=g 4 (by omega);have g5:=g 5 (by omega);have g6:=g 6 (by omega)
 have g7:=g 7 (by omega);have g8:=g 8 (by omega);have g9:=g 9 (by omega);have g10:=g 10 (by omega);have g11:=g 11 (by omega);have g12:=g 12 (by omega)
 simp only[lo13,hi13,List.getD_cons_zero,List.getD_cons_succ] at g0 g1 g2 g3 g4 g5 g6 g7 g8 g9 g10 g11 g12
 have hl:=letter_iff.1 hr
 exact(widthI_1 hl (by omega) (by omega) (by omega) (by omega)).symm
theorem ix13 (k:Nat) (hk:k < 13) (w:World):(Instr.index 188 (.agg #[.int .i32 0,.int .i32 31,.int .i32 (-1),.int .i32 127,.int .i32 159,.int .i32 (-1),.int .i32 768,.int .i32 879,.int .i32 0,.int .i32 8203,.int .i32 8205,.int .i32 0,.int .i32 65024,.int .i32 65039,.int .i32 0,.int .i32 4352,.int .i32 4447,.int .i32 2,.int .i32 12353,.int .i32 19903,.int .i32 2,.int .i32 19968,.int .i32 40959,.int .i32 2,.int .i32 44032,.int .i32 55203,.int .i32 2,.int .i32 63744,.int .i32 64255,.int .i32 2,.int .i32 65281,.int .i32 65376,.int .i32 2,.int .i32 127744,.int .i32 129791,.int .i32 2,.int .i32 131072,.int .i32 262141,.int .i32 2]) (.int .i64 (k:Int))).run Tryz.prog w=.ok (.agg #[.int .i32 (lo13 k),.int .i32 (hi13 k),.int .i32 (v13 k)]) w:=by
 rcases qlg hk with rfl | rfl | rfl | rfl | rfl | rfl | rfl | rfl | rfl | rfl | rfl | rfl | rfl <;> (show _=_;kernel_rfl)
theorem qel (r : Int) (w : World) (hT : Tab w) (hW : TabW w) :
  Calls Tryz.prog 171 #[.int .i32 r] w fun e w'=>e=.returned (.int .i64 (qg r))∧Below w.heap.size w w':=by
 have hl:=ql2 r w hT
 cases hr:qak r
 ·rw[hr] at hl
  have HM:=hid (qgl (r:=r) (Or.inl (of_decide_eq_false hr)))
  clear hr
  go_enter Tryz.func171,Tryz.ntmps171
  go_wp2_with (go_at_call 209;refine hl.mono ?_;rintro e w' ⟨rfl,hb⟩)
  go_ret
  exact⟨qaw HM.out.symm,hb⟩
 ·rw[hr] at hl
  have hWb:=fun w' (hb:Below w.heap.size w w')=>hW.below hb
  have HR:=hid hr
  clear hr hW
  go_enter Tryz.func171,Tryz.ntmps171
  go_upto_region 3 with (go_at_call 209;refine hl.mono ?_;rintro e w' ⟨rfl,hb⟩)
  obtain⟨tt,hg⟩:=hWb _ hb
  clear hWb hl
  go_wp2_with (refine wpList_load_row rfl 188 _ rfl 0 rfl tt _ (0,0) _ hg Tryz.underlying188 rfl (by kernel_rfl) ?_)
  clear hg
  go_loopw [9] (fun i wr=>∃ k:Nat,k≤13∧i=.int .i64 k∧(∀ j < k,qbn r (lo13 j) (hi13 j)=false)∧Below w.heap.size w wr) (fun i _=>13 - (intOf i).toNat)
  case atStart=>exact⟨0,by omega,rfl,fun j h=>absurd h (by omega),hb⟩
  case round =>
   obtain⟨k,hk,rfl,hno,hbr⟩:=hrel
   have hsz:=hbr.size
   have HN:=hid hno
   clear hno hb
   by_cases hlt:k < 13
   ·have hix:=ix13 k hlt
    obtain⟨hv1,hv2⟩:=v13_bd hlt
    by_cases hw:qbn r (lo13 k) (hi13 k)=true
    ·have HV:=hid (width_hit hlt hw)
     go_wp2_with (go_at_call 210;refine(qg8 _ _ _ _ _).mono ?_;rintro e w' ⟨rfl,hb1⟩;have hc:w'.cell? ⟨wr.heap.size,2,none⟩=some (.int .i32 (v13 k)):=(hb1.cell (p:=⟨wr.heap.size,2,none⟩) (by simp)).trans (by simp[World.cell?_alloc_new]))
     go_ret
     exact⟨qaw HV.out,(hbr.alloc hsz _).trans (hb1.mono (by simp;omega))⟩
    ·have hw:qbn r (lo13 k) (hi13 k)=false:=by simpa using hw
     go_wp2_with (go_at_call 210;refine(qg8 _ _ _ _ _).mono ?_;rintro e w' ⟨rfl,hb1⟩)
     go_roundw
     case rel=>exact⟨k+1,by omega,by go_num,step5 HN.out hw,(hbr.alloc hsz _).trans (hb1.mono (by simp;omega))⟩
     case measure=>simp[intOf];omega
   ·have HV:=hid (width_none HR.out (fun j hj=>HN.out j (by omega)))
    go_wp2
    go_ret
    exact⟨qaw HV.out,hbr⟩
def qay:Nat→ByteArray→Nat→Option Nat
 | 0,s,m=>if s.size=0 then some m else none
 | f+1,s,m=>if s.size=0 then some m else if (qi s).e=0∧qg (qi s).r=0 then qay f (s.extract (qi s).n.toNat s.size) (m+1) else none
def qaz (s:ByteArray):Int×Nat :=
 if (qi s).e=0∧1≤qg (qi s).r then
  match qay 2 (s.extract (qi s).n.toNat s.size) 0 with
  | some k=>(qg (qi s).r,k)
  | none=>(0,0)
 else (0,0)
def qq (c:Ce):Bool:=qab c.at && (if c.tx.size=0 then decide (c.wd=0∨c.wd=1) else decide (0 < (qaz c.tx).1∧(qaz c.tx).1=c.wd))
theorem qa8 {r:Int} (h:0≤qg r):qak r=true:=by
 cases hl:qak r
 ·have:=qgl (r:=r) (Or.inl (of_decide_eq_false hl))
  omega
 ·rfl
theorem marks_front {f m:Nat} {r:Int} {s:ByteArray} (h:qg r=0):qay (f+1) (Utf8.encode r ++ s) m=qay f s (m+1):=by
 have hr:=qa8 (r:=r) (by omega)
 have hz:=qim hr
 rw[qay,if_neg (by rw[qn];omega),qhx hr]
 simp only
 rw[if_pos ⟨trivial,h⟩,Int.toNat_natCast,ql3 hr]
theorem parts_front {r:Int} (s:ByteArray) (h:1≤qg r):qaz (Utf8.encode r ++ s)=match qay 2 s 0 with | some k=>(qg r,k) | none=>(0,0):=by
 have hr:=qa8 (r:=r) (by omega)
 unfold qaz
 rw[qhx hr]
 simp only
 rw[if_pos ⟨trivial,h⟩,Int.toNat_natCast,ql3 hr]
theorem parts_0 {r:Int} (h:1≤qg r):qaz (Utf8.encode r)=(qg r,0):=by
 have:=parts_front ⟨#[]⟩ h
 rw[qlf] at this
 rw[this];rfl
def qd0 (a:At):Ce:=⟨⟨#[]⟩,1,0,a.bg,0⟩
def rhC (a:At):Ce:=⟨⟨#[]⟩,0,a.fg,a.bg,a.fl⟩
def hf (p:Int) (c:Ce) (r:List Ce):Bool :=
 if c.wd=2 then (match r with | []=>true | d :: _=>decide (d.wd≠0)) else if c.wd=0 then decide (p≠2) else false
def qac (p:Int):List Ce→List Ce
 | []=>[]
 | c :: r=>if hf p c r=true then qd0 c.at :: qac 1 r else c :: qac c.wd r
def qa3 (p:Int):List Ce→Bool
 | []=>true
 | c :: r=>!hf p c r && qa3 c.wd r
def qa6 (l:List Ce):Bool:=l.all qq
def qbv (cols:Int) (l:List Ce):Bool:=decide ((l.length:Int)=cols) && (qa6 l && qa3 1 l)
def qd1:List Ce→Int
 | []=>1
 | [c]=>c.wd
 | _ :: r=>qd1 r
theorem qi8 (c:Ce):∀ l,qd1 (l ++ [c])=c.wd
 | []=>rfl
 | [_]=>rfl
 | _ :: b :: r=>by
  have:=qi8 c (b :: r)
  show qd1 (_ :: (b :: r ++ [c]))=_
  rw[List.cons_append] at this ⊢
  exact this
theorem qly:∀ (l:List Ce) (h:l≠[]),qd1 l=(l[l.length - 1]'(by have:=List.length_pos_iff.2 h;omega)).wd
 | [c],_=>rfl
 | a :: b :: r,h=>by
  have:=qly (b :: r) (by simp)
  show qd1 (b :: r)=_
  rw[this]
  rfl
theorem qe5:∀ (l:List Ce) (p:Int),(qac p l).length=l.length
 | [],_=>rfl
 | c :: r,p=>by
  unfold qac
  split
  ·rw[List.length_cons,qe5 r,List.length_cons]
  ·rw[List.length_cons,qe5 r,List.length_cons]
theorem hf_blk (p:Int) (a:At) (r:List Ce):hf p (qd0 a) r=false:=by
 unfold hf qd0
 simp
theorem hf_mend {p:Int} {c:Ce} {r:List Ce} (h:hf p c r=false):hf p c (qac c.wd r)=false:=by
 unfold hf at *
 by_cases h2:c.wd=2
 ·rw[if_pos h2] at *
  cases r with
  | nil=>exact h
  | cons d q =>
   have hd:d.wd=0:=by simpa using h
   rw[h2]
   unfold qac
   have:hf 2 d q=false:=by unfold hf;rw[if_neg (by omega),if_pos hd];simp
   rw[this]
   simp[hd]
 ·rw[if_neg h2] at *
  exact h
theorem qi9:∀ (l:List Ce) (p:Int),qa3 p (qac p l)=true
 | [],_=>rfl
 | c :: r,p=>by
  unfold qac
  cases h:hf p c r
  ·rw[if_neg (by simp)]
   unfold qa3
   rw[hf_mend h,qi9 r];rfl
  ·rw[if_pos rfl]
   unfold qa3
   rw[hf_blk,show (qd0 c.at).wd=1 from rfl,qi9 r];rfl
theorem qlz:∀ (l:List Ce) (p:Int),qa3 p l=true→qac p l=l
 | [],_,_=>rfl
 | c :: r,p,h=>by
  unfold qa3 at h
  rw[Bool.and_eq_true] at h
  unfold qac
  rw[if_neg (by simpa using h.1),qlz r _ h.2]
theorem qgk {a:At} (h:qab a=true):qq (qd0 a)=true:=by
 rw[qd2] at h
 have:qab (Ce.at ⟨⟨#[]⟩,1,0,a.bg,0⟩)=true:=by rw[qd2];simp only[Ce.at];omega
 unfold qq qd0
 rw[this]
 rfl
theorem right_rh {a:At} (h:qab a=true):qq (rhC a)=true:=by
 have:qab (Ce.at ⟨⟨#[]⟩,0,a.fg,a.bg,a.fl⟩)=true:=h
 unfold qq rhC
 rw[this]
 rfl
theorem ql0 {c:Ce} (h:qq c=true):qab c.at=true:=by
 unfold qq at h
 rw[Bool.and_eq_true] at h
 exact h.1
theorem qfz {c:Ce} {l:List Ce}:qa6 (c :: l)=(qq c && qa6 l):=rfl
theorem rights_iff {l:List Ce}:qa6 l=true↔∀ c∈l,qq c=true:=List.all_eq_true
theorem qhv:∀ (l:List Ce) (p:Int),qa6 l=true→qa6 (qac p l)=true
 | [],_,_=>rfl
 | c :: r,p,h=>by
  rw[qfz,Bool.and_eq_true] at h
  unfold qac
  split
  ·rw[qfz,qgk (ql0 h.1),qhv r _ h.2];rfl
  ·rw[qfz,h.1,qhv r _ h.2];rfl
theorem fits_iff {cols:Int} {l:List Ce}:qbv cols l=true↔(l.length:Int)=cols∧qa6 l=true∧qa3 1 l=true:=by
 unfold qbv
 rw[Bool.and_eq_true,Bool.and_eq_true,decide_eq_true_iff]
theorem fits_mend {l:List Ce} (h:qa6 l=true):qbv l.length (qac 1 l)=true :=
 fits_iff.2 ⟨by rw[qe5],qhv l 1 h,qi9 l 1⟩
theorem mend_fits {cols:Int} {l:List Ce} (h:qbv cols l=true):qac 1 l=l:=qlz l 1 (fits_iff.1 h).2.2
def qf0 (l:List Ce) (i:Nat):Bool :=
 match l[i]? with
 | none=>false
 | some c=>if c.wd=2 then (match l[i+1]? with | none=>true | some d=>decide (d.wd≠0)) else if c.wd=0 then (if i=0 then true else match l[i - 1]? with | none=>false | some d=>decide (d.wd≠2)) else false
theorem half_at (done:List Ce) (c:Ce) (r:List Ce):qf0 (done ++ c :: r) done.length=hf (qd1 done) c r:=by
 have h0:(done ++ c :: r)[done.length]?=some c:=by simp
 have h1:(done ++ c :: r)[done.length+1]?=r[0]?:=by rw[List.getElem?_append_right (by omega)];simp
 unfold qf0 hf
 rw[h0,h1]
 simp only
 by_cases h2:c.wd=2
 ·rw[if_pos h2,if_pos h2]
  cases r <;> rfl
 ·rw[if_neg h2,if_neg h2]
  by_cases h3:c.wd=0
  ·rw[if_pos h3,if_pos h3]
   by_cases hd:done=[]
   ·subst hd;simp[qd1]
   ·have hp:=List.length_pos_iff.2 hd
    rw[if_neg (by omega),List.getElem?_append_left (by omega),List.getElem?_eq_getElem (by omega),qly done hd]
  ·rw[if_neg h3,if_neg h3]
theorem mend_step (done:List Ce) (c:Ce) (r:List Ce):done ++ qac (qd1 done) (c :: r)=(done ++ [if hf (qd1 done) c r=true then qd0 c.at else c]) ++ qac (qd1 (done ++ [if hf (qd1 done) c r=true then qd0 c.at else c])) r:=by
 rw[qi8,qac]
 split <;> simp[qd0]
theorem ql1 (done:List Ce) (c:Ce) (r:List Ce):qa3 (qd1 done) (c :: r)=(!hf (qd1 done) c r && qa3 (qd1 (done ++ [c])) r):=by
 rw[qi8,qa3]
structure Ln where
 cs:List Ce
 soft:Bool
structure Gd where
 cols:Int
 ls:List Ln
def qm (g:Gd):Bool:=decide (1≤g.cols∧g.cols≤80) && (decide (1≤g.ls.length∧g.ls.length≤50) && g.ls.all fun l=>qbv g.cols l.cs)
theorem rightG_iff {g:Gd}:qm g=true↔(1≤g.cols∧g.cols≤80)∧(1≤g.ls.length∧g.ls.length≤50)∧∀ l∈g.ls,qbv g.cols l.cs=true:=by
 unfold qm
 rw[Bool.and_eq_true,Bool.and_eq_true,decide_eq_true_iff,decide_eq_true_iff,List.all_eq_true]
def Box (W:World) (b:Nat) (t:TypeId) (cs:Array Value):Prop:=W.heap[b]?=some (.cells cs t (0,0))
theorem Box.lt {W:World} {b:Nat} {t:TypeId} {cs:Array Value} (h:Box W b t cs):b < W.heap.size:=(Array.getElem?_eq_some_iff.1 h).1
theorem Box.new (W:World) (t:TypeId) (cs:Array Value):Box (W.alloc (.cells cs t)) W.heap.size t cs:=heap_alloc_new W _
theorem Box.alloc {W:World} {b:Nat} {t:TypeId} {cs:Array Value} (h:Box W b t cs) (o:Obj):Box (W.alloc o) b t cs:=(Below.heap_alloc W o b h.lt).trans h
theorem Box.below {W W':World} {b B:Nat} {t:TypeId} {cs:Array Value} (h:Box W b t cs) (hb:Below B W W') (hB:b < B):Box W' b t cs:=(hb.block b hB).trans h
theorem Box.set {W:World} {b i:Nat} {t:TypeId} {cs:Array Value} (h:Box W b t cs) (u:Value):Box (W.setCell ⟨b,i,none⟩ u) b t (cs.setIfInBounds i u):=by
 unfold Box at *
 simp[World.setCell,Array.getElem?_modify,h]
theorem Box.other {W:World} {b b' i:Nat} {t:TypeId} {cs:Array Value} (h:Box W b t cs) (hne:b≠b') (u:Value):Box (W.setCell ⟨b',i,none⟩ u) b t cs:=(Below.heap_setCell W ⟨b',i,none⟩ u b hne).trans h
theorem Box.drewN {W:World} {b n:Nat} {t:TypeId} {cs:Array Value} (h:Box W b t cs):Box (W.drewN n) b t cs:=h
theorem Box.drew {W:World} {b:Nat} {t:TypeId} {cs:Array Value} (h:Box W b t cs):Box W.drew b t cs:=h
theorem Box.grown {W W':World} {b:Nat} {t:TypeId} {cs:Array Value} {row:Option Nat} (h:Box W b t cs) (hg:W.grownBy W' row) (hne:some b≠row):Box W' b t cs:=(hg.block b h.lt hne).trans h
theorem Box.cell {W:World} {b:Nat} {t:TypeId} {cs:Array Value} (h:Box W b t cs) (i:Nat):W.cell? ⟨b,i,none⟩=cs[i]?:=cell_of_row _ _ i _ _ _ h
theorem Box.free {W:World} {b:Nat} {t:TypeId} {cs:Array Value} (h:Box W b t cs) (i:Nat):W.frozen? ⟨b,i,none⟩=false:=by
 have h':W.heap[b]?=some (.cells cs t (0,0)):=h
 simp[World.frozen?,h']
theorem Box.two {W : World} {b : Nat} {t : TypeId} {x y : Value} (h : Box W b t #[x, y]) :
  (W.cell? ⟨b,0,none⟩=some x∧W.cell? ⟨b,1,none⟩=some y)∧(W.frozen? ⟨b,0,none⟩=false∧W.frozen? ⟨b,1,none⟩=false):=⟨⟨h.cell 0,h.cell 1⟩,h.free 0,h.free 1⟩
theorem Box.three {W : World} {b : Nat} {t : TypeId} {x y z : Value} (h : Box W b t #[x, y, z]) :
  (W.cell? ⟨b,0,none⟩=some x∧W.cell? ⟨b,1,none⟩=some y∧W.cell? ⟨b,2,none⟩=some z)∧(W.frozen? ⟨b,0,none⟩=false∧W.frozen? ⟨b,1,none⟩=false∧W.frozen? ⟨b,2,none⟩=false) :=
 ⟨⟨h.cell 0,h.cell 1,h.cell 2⟩,h.free 0,h.free 1,h.free 2⟩
theorem Box.five {W : World} {b : Nat} {t : TypeId} {x y z u v : Value} (h : Box W b t #[x, y, z, u, v]) :
  (W.cell? ⟨b,0,none⟩=some x∧W.cell? ⟨b,1,none⟩=some y∧W.cell? ⟨b,2,none⟩=some z∧W.cell? ⟨b,3,none⟩=some u∧W.cell? ⟨b,4,none⟩=some v)∧(W.frozen? ⟨b,0,none⟩=false∧W.frozen? ⟨b,1,none⟩=false∧W.frozen? ⟨b,2,none⟩=false∧W.frozen? ⟨b,3,none⟩=false∧W.frozen? ⟨b,4,none⟩=false) :=
 ⟨⟨h.cell 0,h.cell 1,h.cell 2,h.cell 3,h.cell 4⟩,h.free 0,h.free 1,h.free 2,h.free 3,h.free 4⟩
theorem qcu {w W:World} {B b i:Nat} (h:Below B w W) (hb:B≤b) (u:Value):Below B w (W.setCell ⟨b,i,none⟩ u):=h.setCell hb u
theorem qfn (W:World) (b i:Nat) (u:Value):(W.setCell ⟨b,i,none⟩ u).heap.size=W.heap.size:=by simp[World.setCell]
set_option maxHeartbeats 1000000
set_option maxRecDepth 100000
def CeRow (W:World) (v:Value) (l:List Ce):Prop :=
 ∃ A c,v=.slice A l.length c∧l.length≤c∧(l≠[]→∃ g o,A=some ⟨g,o,none⟩∧g < W.heap.size∧∀ j e,l[j]?=some e→∀ i u,e.cells[i]?=some u→W.cell? ⟨g,o+j * 5+i,none⟩=some u)
theorem CeRow.below {W W':World} {v:Value} {l:List Ce} (h:CeRow W v l) (hb:Below W.heap.size W W'):CeRow W' v l:=by
 obtain⟨A,c,rfl,hc,hl⟩:=h
 refine⟨A,c,rfl,hc,fun hn=>?_⟩
 obtain⟨g,o,hA,hg,hc⟩:=hl hn
 exact⟨g,o,hA,Nat.lt_of_lt_of_le hg hb.size,fun j e he i u hu=>(hb.cell (p:=⟨g,o+j * 5+i,none⟩) hg).trans (hc j e he i u hu)⟩
theorem CeRow.nil (W:World) (A:Option Addr) (c:Nat):CeRow W (.slice A 0 c) []:=⟨A,c,rfl,Nat.zero_le _,fun h=>absurd rfl h⟩
theorem CeRow.spell {W:World} {v:Value} {l:List Ce} (h:CeRow W v l):∃ A c,v=.slice A l.length c:=by
 obtain⟨A,c,e,_⟩:=h
 exact⟨A,c,e⟩
theorem qdp {W : World} {g o : Nat} {e : Ce} (h : ∀ i u, e.cells[i]? = some u → W.cell? ⟨g, o + i, none⟩ = some u) :
  W.cell? ⟨g,o,none⟩=some (.string e.tx)∧W.cell? ⟨g,o+1,none⟩=some (.int .i64 e.wd)∧W.cell? ⟨g,o+2,none⟩=some (.int .i64 e.fg)∧W.cell? ⟨g,o+3,none⟩=some (.int .i64 e.bg)∧W.cell? ⟨g,o+4,none⟩=some (.int .i64 e.fl) :=
 ⟨h 0 _ rfl,h 1 _ rfl,h 2 _ rfl,h 3 _ rfl,h 4 _ rfl⟩
theorem rSameLine_eq (v1 v2 : Value) (soft : Bool) (l : List Ce) (w : World) (h1 : CeRow w v1 l) (h2 : CeRow w v2 l) (n1 : l.length ≤ 1000000) :
  Calls Tryz.prog 52 #[.agg #[v1,.bool soft],.agg #[v2,.bool soft]] w fun e w'=>e=.returned (.bool true)∧Below w.heap.size w w':=by
 have hA:=(Box.new w 55 #[v1,.bool soft]).alloc (.cells #[v2,.bool soft] 55)
 have hB:=Box.new (w.alloc (.cells #[v1,.bool soft] 55)) 55 #[v2,.bool soft]
 rw[World.size_alloc] at hB
 have hbel:Below w.heap.size w ((w.alloc (.cells #[v1,.bool soft] 55)).alloc (.cells #[v2,.bool soft] 55)):=(qa _ _).alloc (by simp) _
 obtain⟨A1,c1,rfl,_,hA1⟩:=h1
 obtain⟨A2,c2,rfl,_,hA2⟩:=h2
 obtain⟨m,hm⟩:∃ m,l.length=m:=⟨_,rfl⟩
 rw[hm] at n1 hA hB hbel ⊢
 have HM:=hid hm
 have HA:=hid hA
 have HB:=hid hB
 have HBL:=hid hbel
 clear hm hA hB hbel
 go_enter Tryz.func52,Tryz.ntmps52
 go_wp2
 go_loopw [23] (fun i wr=>∃ k:Nat,k≤m∧i=.int .i64 k∧Box wr w.heap.size 55 #[.slice A1 m c1,.bool soft]∧Box wr (w.heap.size+1) 55 #[.slice A2 m c2,.bool soft]∧Below w.heap.size w wr) (fun i _=>m - (intOf i).toNat)
 case atStart=>exact⟨0,by omega,rfl,HA.out,HB.out,HBL.out⟩
 case round =>
  obtain⟨k,hk,rfl,hbA,hbB,hb⟩:=hrel
  by_cases hlt:k < m
  ·have k1:k < l.length:=by rw[HM.out];exact hlt
   obtain⟨g1,o1,rfl,hg1,hc1⟩:=hA1 (by intro e;subst e;simp at k1)
   obtain⟨g2,o2,rfl,hg2,hc2⟩:=hA2 (by intro e;subst e;simp at k1)
   have hx:=List.getElem?_eq_getElem k1
   generalize l[k]=x at *
   obtain⟨p0,p1,p2,p3,p4⟩:=qdp (W:=wr) (g:=g1) (o:=o1+k * 5) (e:=x) (fun i u hu=>(hb.cell (p:=⟨g1,o1+k * 5+i,none⟩) hg1).trans (hc1 k x hx i u hu))
   obtain⟨q0,q1,q2,q3,q4⟩:=qdp (W:=wr) (g:=g2) (o:=o2+k * 5) (e:=x) (fun i u hu=>(hb.cell (p:=⟨g2,o2+k * 5+i,none⟩) hg2).trans (hc2 k x hx i u hu))
   obtain⟨⟨a0,a1⟩,af0,af1⟩:=hbA.two
   obtain⟨⟨b0,b1⟩,bf0,bf1⟩:=hbB.two
   obtain⟨tx,wd,fg,bg,fl⟩:=x
   simp only at p0 p1 p2 p3 p4 q0 q1 q2 q3 q4
   have hne:=run_neqC tx wd fg bg fl
   have hki:(k:Int) < m:=by omega
   clear hc1 hc2 hA1 hA2 hx k1
   go_wp2
   go_quiet (fail)
   go_wp2
   go_roundw
   case rel=>exact⟨k+1,by omega,by go_num,hbA.drewN,hbB.drewN,hb.trans ((qf _ _).mono hb.size)⟩
   case measure=>simp[intOf];omega
  ·have hkm:k=m:=by omega
   subst hkm
   clear hA1 hA2
   go_wp2
   go_ret
   exact⟨rfl,hb⟩
set_option maxHeartbeats 1000000
set_option maxRecDepth 100000
theorem cut_any (v : Value) (l : List Ce) (i : Nat) (w : World) (h : CeRow w v l) (hi : i < l.length) (hn : l.length ≤ 1000000) :
  Calls Tryz.prog 217 #[v,.int .i64 i] w fun e w'=>e=.returned (.bool (qf0 l i))∧w=w':=by
 obtain⟨A,c,rfl,_,hA⟩:=h
 obtain⟨g,o,rfl,hg,hc⟩:=hA (by intro e;subst e;simp at hi)
 have hx:=List.getElem?_eq_getElem hi
 have hH:qf0 l i=(match l[i]? with
  | none=>false
  | some c=>if c.wd=2 then (match l[i+1]? with | none=>true | some d=>decide (d.wd≠0)) else if c.wd=0 then (if i=0 then true else match l[i - 1]? with | none=>false | some d=>decide (d.wd≠2)) else false):=rfl
 rw[hx] at hH
 simp only at hH
 generalize l[i]=x at *
 have c1:w.cell? ⟨g,o+i * 5+1,none⟩=some (.int .i64 x.wd):=hc i x hx 1 _ rfl
 have hii:(i:Int) < l.length:=by omega
 by_cases h2:x.wd=2
 ·rw[if_pos h2] at hH
  rw[h2] at c1
  by_cases hl:i+1=l.length
  ·rw[List.getElem?_eq_none (by omega)] at hH
   simp only at hH
   have HH:=hid hH
   have hle:((i:Int)+1 == (l.length:Int))=true:=by rw[beq_iff_eq];omega
   generalize l.length=m at *
   clear hH hA hc hx h2 hl
   go_enter Tryz.func217,Tryz.ntmps217
   go_wp2
   go_ret
   exact⟨qe (by rw[HH.out]),rfl⟩
  ·have hi1:i+1 < l.length:=by omega
   have hy:=List.getElem?_eq_getElem hi1
   rw[hy] at hH
   simp only at hH
   generalize l[i+1]=y at *
   have d1:w.cell? ⟨g,o+(i+1) * 5+1,none⟩=some (.int .i64 y.wd):=hc (i+1) y hy 1 _ rfl
   have hle:((i:Int)+1 == (l.length:Int))=false:=by rw[beq_eq_false_iff_ne];omega
   have hii1:(i:Int)+1 < l.length:=by omega
   generalize y.wd=yw at *
   generalize l.length=m at *
   clear hA hc hx hy h2 hl
   by_cases h0:yw=0
   ·subst h0
    have HH:=hid hH
    clear hH
    go_enter Tryz.func217,Tryz.ntmps217
    go_wp2
    go_ret
    exact⟨qe (by rw[HH.out];simp),rfl⟩
   ·have HH:=hid (hH.trans (decide_eq_true h0))
    have q:(yw != 0)=true:=by simp[h0]
    clear hH h0
    go_enter Tryz.func217,Tryz.ntmps217
    go_wp2
    go_ret
    exact⟨qe (by rw[HH.out]),rfl⟩
 ·rw[if_neg h2] at hH
  have q2:(x.wd == 2)=false:=by simp[h2]
  by_cases h0:x.wd=0
  ·rw[if_pos h0] at hH
   rw[h0] at c1
   by_cases hz:i=0
   ·subst hz
    rw[if_pos rfl] at hH
    have HH:=hid hH
    generalize l.length=m at *
    clear hH hA hc hx h2 h0 q2
    simp only[Nat.zero_mul,Nat.add_zero] at c1
    go_enter Tryz.func217,Tryz.ntmps217
    go_wp2
    go_ret
    exact⟨qe (by rw[HH.out]),rfl⟩
   ·rw[if_neg hz] at hH
    obtain⟨k,rfl⟩:∃ k,i=k+1:=⟨i - 1,by omega⟩
    have hk:k < l.length:=by omega
    have hy:=List.getElem?_eq_getElem hk
    rw[show k+1 - 1=k by omega,hy] at hH
    simp only at hH
    generalize l[k]=y at *
    have d1:w.cell? ⟨g,o+k * 5+1,none⟩=some (.int .i64 y.wd):=hc k y hy 1 _ rfl
    have hii1:(k:Int) < l.length:=by omega
    have hkz:((k:Int)+1 == 0)=false:=by rw[beq_eq_false_iff_ne];omega
    generalize y.wd=yw at *
    generalize l.length=m at *
    clear hA hc hx hy h2 h0 q2 hz
    by_cases h3:yw=2
    ·subst h3
     have HH:=hid hH
     clear hH
     go_enter Tryz.func217,Tryz.ntmps217
     go_wp2
     go_ret
     exact⟨qe (by rw[HH.out];simp),rfl⟩
    ·have HH:=hid (hH.trans (decide_eq_true h3))
     have q:(yw != 2)=true:=by simp[h3]
     clear hH h3
     go_enter Tryz.func217,Tryz.ntmps217
     go_wp2
     go_ret
     exact⟨qe (by rw[HH.out]),rfl⟩
  ·rw[if_neg h0] at hH
   have HH:=hid hH
   have q0:(x.wd == 0)=false:=by simp[h0]
   generalize x.wd=xw at *
   generalize l.length=m at *
   clear hH hA hc hx h2 h0
   go_enter Tryz.func217,Tryz.ntmps217
   go_wp2
   go_ret
   exact⟨qe (by rw[HH.out]),rfl⟩
set_option maxHeartbeats 1600000
theorem refIn_any (r a b : Int) (w : World) :
  Calls Tryz.prog 49 #[.int .i32 r,.int .i32 a,.int .i32 b] w fun e w'=>e=.returned (.bool (qbn r a b))∧w=w':=by
 by_cases h1:a≤r
 ·by_cases h2:r≤b
  all_goals
   go_enter Tryz.func49,Tryz.ntmps49
   go_wp2
   go_ret
   exact⟨qe (by simp[qbn];omega),rfl⟩
 ·go_enter Tryz.func49,Tryz.ntmps49
  go_wp2
  go_ret
  exact⟨qe (by simp[qbn];omega),rfl⟩
theorem qb2 {r a b:Int} (h:a≤r∧r≤b):qbn r a b=true:=decide_eq_true h
theorem qb3 {r a b:Int} (h:¬ (a≤r∧r≤b)):qbn r a b=false:=decide_eq_false h
theorem refIs_any (r : Int) (w : World) :
  Calls Tryz.prog 16 #[.int .i32 r] w fun e w'=>e=.returned (.bool (qak r))∧w=w':=by
 have hc:r < 0∨1114111 < r∨(0≤r∧r < 55296)∨(57343 < r∧r≤1114111)∨(55296≤r∧r≤57343):=by omega
 rcases hc with h | h | ⟨h,h'⟩ | ⟨h,h'⟩ | ⟨h,h'⟩
 all_goals
  go_enter Tryz.func16,Tryz.ntmps16
  go_wp2
  go_ret
  exact⟨qe (by unfold qak;first | exact(decide_eq_true (by omega)).symm | exact(decide_eq_false (by omega)).symm | (rw[Bool.eq_iff_iff];simp;omega)),rfl⟩
theorem refWidth_any (r : Int) (w : World) :
  Calls Tryz.prog 17 #[.int .i32 r] w fun e w'=>e=.returned (.int .i64 (qg r))∧w=w':=by
 have hIs:=refIs_any r
 have hIn:=refIn_any r
 cases hl:qak r
 ·have HM:=hid (qgl (r:=r) (Or.inl (of_decide_eq_false hl)))
  rw[hl] at hIs
  clear hl
  go_enter Tryz.func17,Tryz.ntmps17
  go_wp2_with (go_at_call 16;refine(hIs _).mono ?_;rintro e w' ⟨rfl,rfl⟩)
  go_ret
  exact⟨qaw HM.out.symm,rfl⟩
 ·have hlr:=letter_iff.1 hl
  rw[hl] at hIs
  clear hl
  have HLR:=hid hlr
  have e0:=hIn 127 159
  have e1:=hIn 768 879
  have e2:=hIn 8203 8205
  have e3:=hIn 65024 65039
  have e4:=hIn 4352 4447
  have e5:=hIn 12353 19903
  have e6:=hIn 19968 40959
  have e7:=hIn 44032 55203
  have e8:=hIn 63744 64255
  have e9:=hIn 65281 65376
  have e10:=hIn 127744 129791
  have e11:=hIn 131072 262141
  clear hlr
  by_cases c0:127≤r∧r≤159
  ·rw[qb2 c0] at e0
   have HM:=hid (qgl (r:=r) (Or.inr (Or.inr c0)))
   have h32:¬ r < 32:=by omega
   clear e1 e2 e3 e4 e5 e6 e7 e8 e9 e10 e11 hIn c0
   go_enter Tryz.func17,Tryz.ntmps17
   go_wp2_with (first | (go_at_call 16;refine(hIs _).mono ?_;rintro e w' ⟨rfl,rfl⟩) | (go_at_call 49;refine(e0 _).mono ?_;rintro e w' ⟨rfl,rfl⟩))
   go_ret
   exact⟨qaw HM.out.symm,rfl⟩
  ·rw[qb3 c0] at e0
   by_cases h32:r < 32
   ·have HM:=hid (qgl (r:=r) (Or.inr (Or.inl h32)))
    clear e1 e2 e3 e4 e5 e6 e7 e8 e9 e10 e11 hIn c0
    go_enter Tryz.func17,Tryz.ntmps17
    go_wp2_with (go_at_call 16;refine(hIs _).mono ?_;rintro e w' ⟨rfl,rfl⟩)
    go_ret
    exact⟨qaw HM.out.symm,rfl⟩
   ·clear hIn
    have hcs:(768≤r∧r≤879)∨(8203≤r∧r≤8205)∨(65024≤r∧r≤65039)∨(4352≤r∧r≤4447)∨(12353≤r∧r≤19903)∨(19968≤r∧r≤40959)∨(44032≤r∧r≤55203)∨(63744≤r∧r≤64255)∨(65281≤r∧r≤65376)∨(127744≤r∧r≤129791)∨(131072≤r∧r≤262141)∨((r < 768∨879 < r)∧(r < 8203∨8205 < r)∧(r < 65024∨65039 < r)∧(r < 4352∨4447 < r)∧(r < 12353∨19903 < r)∧(r < 19968∨40959 < r)∧(r < 44032∨55203 < r)∧(r < 63744∨64255 < r)∧(r < 65281∨65376 < r)∧(r < 127744∨129791 < r)∧(r < 131072∨262141 < r)):=by omega
    rcases hcs with h | h | h | h | h | h | h | h | h | h | h | h
    all_goals
     (first | rw[qb2 (by omega)] at e1 | rw[qb3 (by omega)] at e1)
     (first | rw[qb2 (by omega)] at e2 | rw[qb3 (by omega)] at e2)
     (first | rw[qb2 (by omega)] at e3 | rw[qb3 (by omega)] at e3)
     (first | rw[qb2 (by omega)] at e4 | rw[qb3 (by omega)] at e4)
     (first | rw[qb2 (by omega)] at e5 | rw[qb3 (by omega)] at e5)
     (first | rw[qb2 (by omega)] at e6 | rw[qb3 (by omega)] at e6)
     (first | rw[qb2 (by omega)] at e7 | rw[qb3 (by omega)] at e7)
     (first | rw[qb2 (by omega)] at e8 | rw[qb3 (by omega)] at e8)
     (first | rw[qb2 (by omega)] at e9 | rw[qb3 (by omega)] at e9)
     (first | rw[qb2 (by omega)] at e10 | rw[qb3 (by omega)] at e10)
     (first | rw[qb2 (by omega)] at e11 | rw[qb3 (by omega)] at e11)
     have HH:=hid h
     have H0:=hid c0
     clear h c0
     go_enter Tryz.func17,Tryz.ntmps17
     go_wp2_with (first | (go_at_call 16;refine(hIs _).mono ?_;rintro e w' ⟨rfl,rfl⟩) | (go_at_call_of 49 (Value.int .i32 127);refine(e0 _).mono ?_;rintro e w' ⟨rfl,rfl⟩) | (go_at_call_of 49 (Value.int .i32 768);refine(e1 _).mono ?_;rintro e w' ⟨rfl,rfl⟩) | (go_at_call_of 49 (Value.int .i32 8203);refine(e2 _).mono ?_;rintro e w' ⟨rfl,rfl⟩) | (go_at_call_of 49 (Value.int .i32 65024);refine(e3 _).mono ?_;rintro e w' ⟨rfl,rfl⟩) | (go_at_call_of 49 (Value.int .i32 4352);refine(e4 _).mono ?_;rintro e w' ⟨rfl,rfl⟩) | (go_at_call_of 49 (Value.int .i32 12353);refine(e5 _).mono ?_;rintro e w' ⟨rfl,rfl⟩) | (go_at_call_of 49 (Value.int .i32 19968);refine(e6 _).mono ?_;rintro e w' ⟨rfl,rfl⟩) | (go_at_call_of 49 (Value.int .i32 44032);refine(e7 _).mono ?_;rintro e w' ⟨rfl,rfl⟩) | (go_at_call_of 49 (Value.int .i32 63744);refine(e8 _).mono ?_;rintro e w' ⟨rfl,rfl⟩) | (go_at_call_of 49 (Value.int .i32 65281);refine(e9 _).mono ?_;rintro e w' ⟨rfl,rfl⟩) | (go_at_call_of 49 (Value.int .i32 127744);refine(e10 _).mono ?_;rintro e w' ⟨rfl,rfl⟩) | (go_at_call_of 49 (Value.int .i32 131072);refine(e11 _).mono ?_;rintro e w' ⟨rfl,rfl⟩))
     go_ret
     have h1:=HH.out
     have h2:=H0.out
     have h3:=HLR.out
     first
     | exact⟨qaw (widthI_0 (by omega)).symm,rfl⟩
     | exact⟨qaw (widthI_2 (by omega)).symm,rfl⟩
     | exact⟨qaw (widthI_1 (by omega) (by omega) (by omega) (by omega) (by omega)).symm,rfl⟩
def Dn.cells (d:Dn) (v:Value):Array Value:=#[.int .i64 d.kind,.int .i32 d.rune,.int .i64 d.code,.int .i64 d.priv,v,.int .i64 d.inter,.string d.text]
def Pa.cells (p:Pa) (v:Value):Array Value:=#[.int .i64 p.st,.int .i64 p.priv,v,.int .i64 p.inter,.string p.osc,.string p.pend]
def DRow (W:World) (v:Value) (l:List (Dn×Value)):Prop :=
 ∃ A c,v=.slice A l.length c∧(l≠[]→∃ g,A=some ⟨g,0,none⟩∧g < W.heap.size∧∀ j e,l[j]?=some e→(∀ i u,(e.1.cells e.2)[i]?=some u→W.cell? ⟨g,j * 7+i,none⟩=some u)∧IRow W e.2 e.1.params∧e.1.params.length≤1000000)
theorem dcells {W : World} {g o : Nat} {d : Dn} {v : Value} (h : ∀ i u, (d.cells v)[i]? = some u → W.cell? ⟨g, o + i, none⟩ = some u) :
  W.cell? ⟨g,o,none⟩=some (.int .i64 d.kind)∧W.cell? ⟨g,o+1,none⟩=some (.int .i32 d.rune)∧W.cell? ⟨g,o+2,none⟩=some (.int .i64 d.code)∧W.cell? ⟨g,o+3,none⟩=some (.int .i64 d.priv) ∧
  W.cell? ⟨g,o+4,none⟩=some v∧W.cell? ⟨g,o+5,none⟩=some (.int .i64 d.inter)∧W.cell? ⟨g,o+6,none⟩=some (.string d.text) :=
 ⟨h 0 _ rfl,h 1 _ rfl,h 2 _ rfl,h 3 _ rfl,h 4 _ rfl,h 5 _ rfl,h 6 _ rfl⟩
def Typed (W:World) (v:Value) (l:List Int):Prop:=l≠[]→∀ A k c,v=.slice (some A) k c→∃ cur,W.heap[A.block]?=some (.cells cur 3 (0,0))
theorem Typed.below {W W':World} {v:Value} {l:List Int} (h:Typed W v l) (hb:Below W.heap.size W W'):Typed W' v l:=fun hl A k c e=>by
 obtain⟨cur,hc⟩:=h hl A k c e
 exact⟨cur,(hb.block A.block (Array.getElem?_eq_some_iff.1 hc).1).trans hc⟩
theorem Typed.nil (W:World) (v:Value):Typed W v []:=fun h=>absurd rfl h
theorem Typed.off {W:World} {b:Nat} {t:TypeId} {cs:Array Value} {v:Value} {l:List Int} (h:Typed W v l) (hb:Box W b t cs) (ht:t≠3):l≠[]→∀ A n c,v=.slice (some A) n c→A.block≠b:=by
 intro hl A n c e hab
 obtain⟨cur,hc⟩:=h hl A n c e
 rw[hab] at hc
 have hb':W.heap[b]?=some (.cells cs t (0,0)):=hb
 rw[hb'] at hc
 cases hc
 exact ht rfl
theorem qk6 (s t:ByteArray) (h:qi s≠⟨0,0,2⟩):qi (s ++ t)=qi s:=by
 by_cases h0:s.size=0
 ·exact absurd (qe7 h0) h
 have hz:=qn s t
 have h0':(s ++ t).size≠0:=by omega
 have e0:=qam s t 0 (by omega)
 obtain⟨b0,b1⟩:=qbc s 0
 by_cases c1:qb s 0 < 128
 ·rw[qdq h0' (by omega),qdq h0 c1,e0]
 by_cases c2:qb s 0 < 194∨245≤qb s 0
 ·rw[qg6 h0' (by omega),qg6 h0 (by omega)]
 by_cases c3:qb s 0 < 224
 ·have f:=qdr h0 (by omega)
  rw[qdr h0' (by omega),f]
  rw[f] at h
  by_cases d1:1=s.size
  ·rw[if_pos d1] at h;exact absurd rfl h
  ·rw[if_neg d1,if_neg (by omega),e0,qam s t 1 (by omega)]
 by_cases c4:qb s 0 < 240
 ·have f:=qcl h0 (by omega)
  rw[qcl h0' (by omega),f]
  rw[f] at h
  by_cases d1:1=s.size
  ·rw[if_pos d1] at h;exact absurd rfl h
  rw[if_neg d1] at h
  rw[if_neg d1,if_neg (by omega),e0,qam s t 1 (by omega)]
  by_cases g1:qb s 1 / 64=2∧((32≤(qb s 0 - 224) * 64+qb s 1 % 64∧(qb s 0 - 224) * 64+qb s 1 % 64≤863)∨896≤(qb s 0 - 224) * 64+qb s 1 % 64)
  ·rw[if_pos g1] at h
   rw[if_pos g1,if_pos g1]
   by_cases d2:2=s.size
   ·rw[if_pos d2] at h;exact absurd rfl h
   ·rw[if_neg d2,if_neg (by omega),qam s t 2 (by omega)]
  ·rw[if_neg g1,if_neg g1]
 ·have f:=qc5 h0 (by omega)
  rw[qc5 h0' (by omega),f]
  rw[f] at h
  by_cases d1:1=s.size
  ·rw[if_pos d1] at h;exact absurd rfl h
  rw[if_neg d1] at h
  rw[if_neg d1,if_neg (by omega),e0,qam s t 1 (by omega)]
  by_cases g1:qb s 1 / 64=2∧16≤(qb s 0 - 240) * 64+qb s 1 % 64∧(qb s 0 - 240) * 64+qb s 1 % 64≤271
  ·rw[if_pos g1] at h
   rw[if_pos g1,if_pos g1]
   by_cases d2:2=s.size
   ·rw[if_pos d2] at h;exact absurd rfl h
   rw[if_neg d2] at h
   rw[if_neg d2,if_neg (by omega),qam s t 2 (by omega)]
   by_cases g2:qb s 2 / 64=2
   ·rw[if_pos g2] at h
    rw[if_pos g2,if_pos g2]
    by_cases d3:3=s.size
    ·rw[if_pos d3] at h;exact absurd rfl h
    ·rw[if_neg d3,if_neg (by omega),qam s t 3 (by omega)]
   ·rw[if_neg g2,if_neg g2]
  ·rw[if_neg g1,if_neg g1]
def pre (s p:ByteArray):Bool:=decide (p.size≤s.size∧s.extract 0 p.size=p)
theorem pre_byte {s p:ByteArray} (h:pre s p=true) {i:Nat} (hi:i < p.size):qb s i=qb p i∧i < s.size:=by
 unfold pre at h
 obtain⟨h1,h2⟩:=of_decide_eq_true h
 refine⟨?_,by omega⟩
 rw[← h2,qa9 _ _ _ _ (by omega),Nat.zero_add]
set_option maxHeartbeats 400000
theorem beq_str {s t:ByteArray}:(s.toList == t.toList)=decide (s=t):=by
 rw[ByteArray.toList_eq,ByteArray.toList_eq,Bool.eq_iff_iff]
 simp only[beq_iff_eq,decide_eq_true_eq]
 exact⟨fun h=>ByteArray.ext (Array.toList_inj.1 h),fun h=>by rw[h]⟩
theorem lpre_any (s p : ByteArray) (w : World) (_ : s.size ≤ 1000000) (_ : p.size ≤ 1000000) :
  Calls Tryz.prog 241 #[.string s,.string p] w fun e w'=>e=.returned (.bool (pre s p))∧w=w':=by
 by_cases h:p.size≤s.size
 ·by_cases h2:s.extract 0 p.size=p
  ·have HR:Hid (pre s p=true):=by unfold Hid pre;exact decide_eq_true ⟨h,h2⟩
   have HE:(s.extract 0 p.size).toList == p.toList:=by rw[h2];simp
   clear h2
   go_enter Tryz.func241,Tryz.ntmps241
   go_wp2
   go_ret
   exact⟨qe (by rw[HR.out]),rfl⟩
  ·have HR:Hid (pre s p=false):=by unfold Hid pre;exact decide_eq_false (fun e=>h2 e.2)
   have HE:((s.extract 0 p.size).toList == p.toList)=false:=by rw[beq_str];exact decide_eq_false h2
   clear h2
   go_enter Tryz.func241,Tryz.ntmps241
   go_wp2
   go_ret
   exact⟨qe (by rw[HR.out]),rfl⟩
 ·have HR:Hid (pre s p=false):=by unfold Hid pre;exact decide_eq_false (fun e=>h e.1)
  go_enter Tryz.func241,Tryz.ntmps241
  go_wp2
  go_ret
  exact⟨qe (by rw[HR.out]),rfl⟩
set_option maxHeartbeats 800000
set_option maxRecDepth 100000
theorem qlb (r : Int) (w : World) :
  Calls Tryz.prog 50 #[.int .i32 r] w fun e w'=>e=.returned (.int .i64 (sizeOf r))∧w=w':=by
 have hc:r < 128∨(128≤r∧r < 2048)∨(2048≤r∧r < 65536)∨65536≤r:=by omega
 rcases hc with h | h | h | h
 all_goals
  go_enter Tryz.func50,Tryz.ntmps50
  go_wp2
  go_ret
  refine⟨qaw ?_,rfl⟩
  first
  | rw[(qg4 h).1];rfl
  | rw[(qkd h).1];rfl
  | rw[(qke h).1];rfl
  | rw[(qkf h).1];rfl
theorem enc_mk1 {r:Int} (h:0≤r∧r < 128):mkB [r]=Utf8.encode r:=by
 obtain⟨h1,h2⟩:=qct (r:=r) (letter_iff.2 (by omega))
 obtain⟨e,e0⟩:=qg4 h.2
 rw[e] at h1 h2
 apply qdx
 ·rw[qhz,h1];rfl
 ·intro i hi
  rw[qhz] at hi
  have hi1:i < 1:=hi
  obtain rfl:i=0:=by omega
  rw[h2 0 (by omega),qgb _ _ hi ⟨h.1,by show r≤255;omega⟩,e0];rfl
theorem refText_1 (r : Int) (h0 : 0 ≤ r) (h : r < 128) (w : World) :
  Calls Tryz.prog 18 #[.int .i32 r] w fun e w'=>e=.returned (.string (Utf8.encode r))∧Below w.heap.size w w':=by
 have hs:=qlb r w
 rw[(qg4 h).1] at hs
 have hcv:=qgq (P:=Tryz.prog) (src:=95) (dst:=9) (ns:=[r]) Tryz.underlying95 Tryz.underlying5 Tryz.underlying9 (World.ownsRow_lit (e:=5) (size:=1) w #[.int .u8 r] 1 (Nat.le_refl _) (by decide) rfl)
 rw[enc_mk1 ⟨h0,h⟩] at hcv
 go_enter Tryz.func18,Tryz.ntmps18
 go_wp2_with (go_at_call 50;refine hs.mono ?_;rintro e w' ⟨rfl,rfl⟩)
 go_ret
 exact⟨rfl,(Below.refl _ _).alloc (Nat.le_refl _) _⟩
def qey (r:Int):Nat→List Int
 | 0=>[]
 | k+1=>(128+r / 64 ^ k % 64) :: qey r k
theorem qfd (r:Int):∀ k,(qey r k).length=k
 | 0=>rfl
 | k+1=>by rw[qey,List.length_cons,qfd r k]
theorem enc_mkn {r q:Int} {k:Nat} (hl:qak r=true) (hk:sizeOf r=k+1) (hq:r / 64 ^ k=q) (h128:128≤r):mkB (((if k=1 then 192 else if k=2 then 224 else 240)+q) :: qey r k)=Utf8.encode r:=by
 obtain⟨h1,h2⟩:=qct hl
 rw[hk] at h1 h2
 have hlr:=letter_iff.1 hl
 have hr:(k=1∧r < 2048)∨(k=2∧2048≤r∧r < 65536)∨(k=3∧65536≤r):=by
  unfold sizeOf at hk
  split at hk
  ·omega
  ·split at hk
   ·omega
   ·split at hk <;> omega
 apply qdx
 ·rw[qhz,h1,List.length_cons,qfd]
 ·intro i hi
  rw[qhz,List.length_cons,qfd] at hi
  rw[h2 i hi]
  rcases hr with ⟨rfl,h⟩ | ⟨rfl,h⟩ | ⟨rfl,h⟩
  ·obtain⟨_,e0,e1⟩:=qkd (r:=r) ⟨h128,h⟩
   have hi2:i=0∨i=1:=by omega
   rcases hi2 with rfl | rfl
   ·rw[e0,qgb]
    all_goals simp[qey]
    all_goals omega
   ·rw[e1,qgb]
    all_goals simp[qey]
    all_goals omega
  ·obtain⟨_,e0,e1,e2⟩:=qke (r:=r) h
   have hi2:i=0∨i=1∨i=2:=by omega
   rcases hi2 with rfl | rfl | rfl
   ·rw[e0,qgb]
    all_goals simp[qey]
    all_goals omega
   ·rw[e1,qgb]
    all_goals simp[qey]
    all_goals omega
   ·rw[e2,qgb]
    all_goals simp[qey]
    all_goals omega
  ·obtain⟨_,e0,e1,e2,e3⟩:=qkf (r:=r) h
   have hi2:i=0∨i=1∨i=2∨i=3:=by omega
   rcases hi2 with rfl | rfl | rfl | rfl
   ·rw[e0,qgb]
    all_goals simp[qey]
    all_goals omega
   ·rw[e1,qgb]
    all_goals simp[qey]
    all_goals omega
   ·rw[e2,qgb]
    all_goals simp[qey]
    all_goals omega
   ·rw[e3,qgb]
    all_goals simp[qey]
    all_goals omega
theorem refText_n (r : Int) (h0 : 128 ≤ r) (h : r ≤ 1114111) (hlr : (0 ≤ r ∧ r ≤ 55295) ∨ (57344 ≤ r ∧ r ≤ 1114111)) (w : World) :
  Calls Tryz.prog 18 #[.int .i32 r] w fun e w'=>e=.returned (.string (Utf8.encode r))∧Below w.heap.size w w':=by
 have hs:=qlb r w
 obtain⟨n,hn⟩:∃ n,sizeOf r=n:=⟨_,rfl⟩
 rw[hn] at hs
 have hn2:2≤n∧n≤4:=by rw[← hn];unfold sizeOf;repeat (first | omega | split)
 have hn1:((n:Int) == 1)=false:=by simp;omega
 have HN:=hid hn
 clear hn
 go_enter Tryz.func18,Tryz.ntmps18
 go_wp2_with (go_at_call 50;refine hs.mono ?_;rintro e w' ⟨rfl,rfl⟩)
 go_loopw [0,4,5] (fun a t i wr=>∃ k g cap,k+1≤n∧i=.int .i64 ((k+1:Nat):Int)∧a=.int .i32 (r / 64 ^ k)∧t=.slice (some ⟨g,0,none⟩) k cap∧wr.ownsRow w.heap.size 5 1 (.slice (some ⟨g,0,none⟩) k cap) k ((qey r k).map (Value.int .u8))∧Below w.heap.size w wr) (fun _ _ i _=>n - (intOf i).toNat)
 case atStart =>
  refine⟨0,w.heap.size,0,by omega,rfl,by simp,rfl,?_,(Below.refl _ _).alloc (Nat.le_refl _) _⟩
  exact World.ownsRow_lit (e:=5) (size:=1) w #[] 0 (Nat.le_refl _) (by decide) rfl
 case round =>
  obtain⟨k,g,cap,hk,rfl,rfl,rfl,hown,hb⟩:=hrel
  have hsz:=hb.size
  have hq0:0≤r / 64 ^ k:=Int.ediv_nonneg (by omega) (by exact Int.pow_nonneg (by decide))
  have hq1:r / 64 ^ k≤r:=Int.ediv_le_self _ (by omega)
  have hq2:r / 64 ^ (k+1)=r / 64 ^ k / 64:=by
   rw[Int.pow_succ,← Int.ediv_ediv_of_nonneg (by exact Int.pow_nonneg (by decide))]
  have htl:=qfd r k
  obtain⟨q,hq⟩:∃ q,r / 64 ^ k=q:=⟨_,rfl⟩
  obtain⟨L,hL⟩:∃ L,qey r k=L:=⟨_,rfl⟩
  have hL2:qey r (k+1)=(128+q % 64) :: L:=by rw[qey,hq,hL]
  rw[hq] at hq0 hq1 hq2 ⊢
  rw[hL] at hown htl
  have HQ:=hid hq
  have HQ2:=hid hq2
  have HL:=hid hL
  have HL2:=hid hL2
  clear hq hq2 hL hL2
  by_cases hlt:k+1 < n
  ·have C3:=hid (show 1+k≤1000000000 by omega)
   have C5:=hid (show ∀ o,w.heap.size≤(wr.alloc o).heap.size from fun o=>by simp;omega)
   go_wp2_with (at_builtin;refine qcc rfl _ _ 95 rfl w.heap.size 5 Tryz.underlying95 A_info (ns:=[128+q % 64]) (ms:=L) rfl (World.ownsRow_lit wr #[.int .u8 (128+q % 64)] 1 hsz (by decide) rfl) rfl (hown.alloc _) C3.out (C5.out _) ?_;intro g1 cap1 w1 hown1 hb1)
   go_roundw
   case rel =>
    refine⟨k+1,g1,cap1,by omega,by go_num,by rw[HQ2.out],by rw[Nat.add_comm],?_,(hb.alloc hsz _).trans hb1⟩
    rw[HL2.out,Nat.add_comm k 1]
    exact hown1
   case measure=>simp[intOf];omega
  ·have C3:=hid (show 1+k≤1000000000 by omega)
   have C5:=hid (show ∀ o,w.heap.size≤(wr.alloc o).heap.size from fun o=>by simp;omega)
   have HE:=hid (enc_mkn (r:=r) (q:=q) (k:=k) (letter_iff.2 hlr) (by rw[HN.out];omega) HQ.out h0)
   rw[HL.out] at HE
   obtain rfl:n=k+1:=by omega
   have hks:(k=1∧q≤31)∨(k=2∧q≤15)∨(k=3∧q≤4):=by
    have:=HN.out
    have e:=HQ.out
    have hk3:k=1∨k=2∨k=3:=by omega
    rcases hk3 with rfl | rfl | rfl
    ·unfold sizeOf at this;split at this <;> (try split at this) <;> (try split at this) <;> omega
    ·unfold sizeOf at this;split at this <;> (try split at this) <;> (try split at this) <;> omega
    ·omega
   rcases hks with ⟨rfl,hq⟩ | ⟨rfl,hq⟩ | ⟨rfl,hq⟩
   ·have HE2:Hid (mkB ([192+q] ++ L)=Utf8.encode r):=HE
    clear HE HQ HQ2 HL HL2
    go_wp2_with (at_builtin;refine qcc rfl _ _ 95 rfl w.heap.size 5 Tryz.underlying95 A_info (ns:=[192+q]) (ms:=L) rfl (ql5 wr _ [192+q] hsz (by show 1≤_;omega)) rfl ((hown.alloc _).alloc _) C3.out (by simp;omega) ?_;intro g1 cap1 w1 hown1 hb1;have hcv:=qgq (P:=Tryz.prog) (src:=95) (dst:=9) Tryz.underlying95 Tryz.underlying5 Tryz.underlying9 hown1;rw[HE2.out] at hcv)
    go_ret
    exact⟨rfl,((hb.alloc hsz _).alloc (by simp;omega) _).trans hb1⟩
   ·have HE2:Hid (mkB ([224+q] ++ L)=Utf8.encode r):=HE
    clear HE HQ HQ2 HL HL2
    go_wp2_with (at_builtin;refine qcc rfl _ _ 95 rfl w.heap.size 5 Tryz.underlying95 A_info (ns:=[224+q]) (ms:=L) rfl (ql5 wr _ [224+q] hsz (by show 1≤_;omega)) rfl ((hown.alloc _).alloc _) C3.out (by simp;omega) ?_;intro g1 cap1 w1 hown1 hb1;have hcv:=qgq (P:=Tryz.prog) (src:=95) (dst:=9) Tryz.underlying95 Tryz.underlying5 Tryz.underlying9 hown1;rw[HE2.out] at hcv)
    go_ret
    exact⟨rfl,((hb.alloc hsz _).alloc (by simp;omega) _).trans hb1⟩
   ·have HE2:Hid (mkB ([240+q] ++ L)=Utf8.encode r):=HE
    clear HE HQ HQ2 HL HL2
    go_wp2_with (at_builtin;refine qcc rfl _ _ 95 rfl w.heap.size 5 Tryz.underlying95 A_info (ns:=[240+q]) (ms:=L) rfl (ql5 wr _ [240+q] hsz (by show 1≤_;omega)) rfl ((hown.alloc _).alloc _) C3.out (by simp;omega) ?_;intro g1 cap1 w1 hown1 hb1;have hcv:=qgq (P:=Tryz.prog) (src:=95) (dst:=9) Tryz.underlying95 Tryz.underlying5 Tryz.underlying9 hown1;rw[HE2.out] at hcv)
    go_ret
    exact⟨rfl,((hb.alloc hsz _).alloc (by simp;omega) _).trans hb1⟩
theorem qla {r : Int} (hr : qak r = true) (w : World) :
  Calls Tryz.prog 18 #[.int .i32 r] w fun e w'=>e=.returned (.string (Utf8.encode r))∧Below w.heap.size w w':=by
 have h:=letter_iff.1 hr
 by_cases c:r < 128
 ·exact refText_1 r (by omega) c w
 ·exact refText_n r (by omega) (by omega) h w
def LtRow (W:World) (v:Value) (l:List Int):Prop :=
 ∃ A c,v=.slice A l.length c∧(l≠[]→∃ ad:Addr,A=some ad∧ad.block < W.heap.size∧∀ j x,l[j]?=some x→W.cell? (ad.add j)=some (.int .i32 x))
end Go.Proofs.YtpdaekmbpafenaaGreatDoor
