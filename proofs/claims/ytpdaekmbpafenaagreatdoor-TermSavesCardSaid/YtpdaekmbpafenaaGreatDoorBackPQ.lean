
import Derived.Test.YtpdaekmbpafenaaGreatDoorGridMnQ
import Derived.Test.YtpdaekmbpafenaaGreatDoorGridInsQ
import Derived.Deep.DeepCutAuto
import Derived.Test.YtpdaekmbpafenaaGreatDoorHeldIQ
import Derived.Test.YtpdaekmbpafenaaGreatDoorGridOQ
import Derived.Deep.RegionWith
namespace Go.Proofs.YtpdaekmbpafenaaGreatDoor
open Go.RowKit
def qh5 (e:Ln×Value):Bool:=decide (1≤(e.1.cs.length:Int)∧(e.1.cs.length:Int)≤80) && qb6 e.1.cs.length e.1.cs
def qdp (lv:List (Ln×Value)):Bool:=lv.all qh5
theorem keptB_stop {lv:List (Ln×Value)} (h:qdp (lv.take lv.length)=true):qdp lv=true:=by rwa [List.take_length] at h
theorem keptB_step {lv:List (Ln×Value)} {k:Nat} {e:Ln×Value} (h:qdp (lv.take k)=true) (he:lv[k]?=some e) (hf:qh5 e=true):qdp (lv.take (k+1))=true:=by
 obtain⟨hk,rfl⟩:=List.getElem?_eq_some_iff.1 he
 rw[List.take_succ_eq_append_getElem hk]
 unfold qdp at *
 rw[List.all_append,h]
 simp[hf]
theorem ql5 {lv:List (Ln×Value)} {k:Nat} {e:Ln×Value} (he:lv[k]?=some e) (hf:qh5 e=false):qdp lv=false:=by
 unfold qdp
 rw[List.all_eq_false]
 exact⟨e,List.mem_of_getElem? he,by rw[hf];simp⟩
theorem keptE_lo {cs:List Ce} {soft:Bool} {u:Value} (h:(cs.length:Int) < 1):qh5 (⟨cs,soft⟩,u)=false:=by
 unfold qh5
 rw[decide_eq_false (by show ¬ (1≤(cs.length:Int)∧(cs.length:Int)≤80);omega),Bool.false_and]
theorem keptE_hi {cs:List Ce} {soft:Bool} {u:Value} (h:80 < (cs.length:Int)):qh5 (⟨cs,soft⟩,u)=false:=by
 unfold qh5
 rw[decide_eq_false (by show ¬ (1≤(cs.length:Int)∧(cs.length:Int)≤80);omega),Bool.false_and]
theorem keptE_mid {cs:List Ce} {soft:Bool} {u:Value} (h1:1≤(cs.length:Int)) (h2:(cs.length:Int)≤80):qh5 (⟨cs,soft⟩,u)=qb6 cs.length cs:=by
 unfold qh5
 rw[decide_eq_true (by show 1≤(cs.length:Int)∧(cs.length:Int)≤80;omega),Bool.true_and]
def qdt (mx:Int) (lv:List (Ln×Value)):Bool:=decide (0≤mx∧mx≤40) && (decide ((lv.length:Int)≤mx) && qdp lv)
theorem backB_iff {mx:Int} {lv:List (Ln×Value)}:qdt mx lv=true↔(0≤mx∧mx≤40)∧(lv.length:Int)≤mx∧qdp lv=true:=by
 unfold qdt
 rw[Bool.and_eq_true,Bool.and_eq_true,decide_eq_true_iff,decide_eq_true_iff]
section
variable {α:Type}
def qa9 (n:Nat) (l:List α):List α:=l.drop (l.length - n)
theorem qd6 (n:Nat) (l:List α):(qa9 n l).length=min n l.length:=by
 unfold qa9
 rw[List.length_drop]
 omega
theorem lastN_all {n:Nat} {l:List α} (h:l.length≤n):qa9 n l=l:=by
 unfold qa9
 rw[show l.length - n=0 by omega,List.drop_zero]
theorem qkq {n:Nat} {l:List α} {e:α} (h:e∈qa9 n l):e∈l:=List.mem_of_mem_drop h
theorem lastN_le {a b:List α} {n:Nat} (h:b.length≤n):qa9 n (a ++ b)=qa9 (n - b.length) a ++ b:=by
 unfold qa9
 rw[List.length_append,List.drop_append,show a.length+b.length - n=a.length - (n - b.length) by omega,show a.length - (n - b.length) - a.length=0 by omega,List.drop_zero]
theorem lastN_ge {a b:List α} {n:Nat} (h:n≤b.length):qa9 n (a ++ b)=qa9 n b:=by
 unfold qa9
 rw[List.length_append,List.drop_append,List.drop_of_length_le (by omega),List.nil_append]
 congr 1
 omega
theorem push_last (a b:List α) (n:Nat):qa9 (n - (qa9 n b).length) a ++ qa9 n b=qa9 n (a ++ b):=by
 rw[qd6]
 by_cases h:b.length≤n
 ·rw[lastN_le h,lastN_all h,Nat.min_eq_right h]
 ·rw[lastN_ge (by omega),Nat.min_eq_left (by omega),Nat.sub_self]
  have:qa9 0 a=[]:=List.length_eq_zero_iff.1 (by rw[qd6];omega)
  rw[this,List.nil_append]
end
theorem ces_sub {W:World} {a b:List (Ln×Value)} (h:CesOf W b) (hs:∀ e∈a,e∈b):CesOf W a:=fun e he=>h e (hs e he)
set_option maxHeartbeats 1000000
set_option maxRecDepth 100000
theorem ql4 (w:World):(Go.sizeOf (Tryz.prog.elem 22)).run Tryz.prog w=.ok 2 w:=by kernel_rfl
theorem LR.part {W : World} {A : Option Addr} {n c : Nat} {lv : List (Ln × Value)} (hr : LR W (.slice A n c) lv) (hl : lv.length = n) (l h m : Nat) (hlh : l ≤ h) (hhn : h ≤ n) (hm : h ≤ m) :
  ∃ A',sliced A l h m 2=.slice A' (h - l) (m - l)∧LR W (.slice A' (h - l) (m - l)) ((lv.drop l).take (h - l)):=by
 refine⟨_,rfl,?_⟩
 have hlen:((lv.drop l).take (h - l)).length=h - l:=by rw[List.length_take,List.length_drop];omega
 obtain⟨A',c',e,hc,hcell⟩:=hr
 cases e
 refine⟨_,_,by rw[hlen],by rw[hlen];omega,fun hne=>?_⟩
 have hpos:0 < h - l:=by rw[← hlen];exact List.length_pos_iff.2 hne
 obtain⟨g,o,rfl,hg,hcell⟩:=hcell (List.length_pos_iff.1 (by omega))
 refine⟨g,o+l * 2,?_,hg,fun j e he=>?_⟩
 ·rw[if_neg (by omega)]
  show some ((⟨g,o,none⟩:Addr).add (l * 2))=_
  rw[qca]
 ·rw[List.getElem?_take] at he
  split at he
  ·rw[List.getElem?_drop] at he
   have:=hcell (l+j) e he
   rwa [show o+l * 2+j * 2=o+(l+j) * 2 by omega]
  ·cases he
theorem slice_ln_lhm {W : World} {A : Option Addr} {n c : Nat} {lv : List (Ln × Value)} (hr : LR W (.slice A n c) lv) (hl : lv.length = n) (l h m : Nat) (hlh : l ≤ h) (hhn : h ≤ n) (hm : h ≤ m) (hmc : m ≤ c) :
  ∃ A',(∀ w,(Instr.sliceAt 22 (.slice A n c) (some (.int .i64 l)) (some (.int .i64 h)) (some (.int .i64 m))).run Tryz.prog w=.ok (.slice A' (h - l) (m - l)) w)∧LR W (.slice A' (h - l) (m - l)) ((lv.drop l).take (h - l)):=by
 obtain⟨A',h1,h2⟩:=hr.part hl l h m hlh hhn hm
 refine⟨A',fun w=>?_,h2⟩
 rw[run_sliceAt_slice w _ _ _ _ _ Tryz.underlying22,run_slice_lhm w 22 A n c Tryz.underlying22 .i64 .i64 .i64 l h m (by omega) (by omega) (by omega) (by omega),ql4]
 simp only[Result.andThen,Int.toNat_natCast]
 rw[h1]
theorem slice_ln_hm {W : World} {A : Option Addr} {n c : Nat} {lv : List (Ln × Value)} (hr : LR W (.slice A n c) lv) (hl : lv.length = n) (h m : Nat) (hhn : h ≤ n) (hm : h ≤ m) (hmc : m ≤ c) :
  ∃ A',(∀ w,(Instr.sliceAt 22 (.slice A n c) none (some (.int .i64 h)) (some (.int .i64 m))).run Tryz.prog w=.ok (.slice A' h m) w)∧LR W (.slice A' h m) (lv.take h):=by
 obtain⟨A',h1,h2⟩:=hr.part hl 0 h m (Nat.zero_le _) hhn hm
 rw[Nat.sub_zero,Nat.sub_zero,List.drop_zero] at h2
 refine⟨A',fun w=>?_,h2⟩
 rw[run_sliceAt_slice w _ _ _ _ _ Tryz.underlying22,run_slice_hm w 22 A n c Tryz.underlying22 .i64 .i64 h m (by omega) (by omega) (by omega),ql4]
 simp only[Result.andThen,Int.toNat_natCast]
 rw[h1];rfl
theorem slice_ln_h {W : World} {A : Option Addr} {n c : Nat} {lv : List (Ln × Value)} (hr : LR W (.slice A n c) lv) (hl : lv.length = n) (h : Nat) (hhn : h ≤ n) :
  ∃ A',(∀ w,(Instr.sliceAt 22 (.slice A n c) none (some (.int .i64 h)) none).run Tryz.prog w=.ok (.slice A' h c) w)∧LR W (.slice A' h c) (lv.take h):=by
 have hc:n≤c:=by obtain⟨A',c',e,h,_⟩:=hr;cases e;rw[← hl];exact h
 obtain⟨A',h1,h2⟩:=hr.part hl 0 h c (Nat.zero_le _) hhn (by omega)
 rw[Nat.sub_zero,Nat.sub_zero,List.drop_zero] at h2
 refine⟨A',fun w=>?_,h2⟩
 rw[run_sliceAt_slice w _ _ _ _ _ Tryz.underlying22,run_slice_h w 22 A n c Tryz.underlying22 .i64 h (by omega) (by omega),ql4]
 simp only[Result.andThen,Int.toNat_natCast]
 rw[h1];rfl
def BCut (W0 W:World) (lv:List (Ln×Value)) (m:Nat) (e:Ending) (w':World):Prop :=
 ∃ A1 k1 A2 k2,e=.returned (.tuple #[.slice A1 k1 k1,.slice A2 k2 k2])∧k1=lv.length - m∧k2=min m lv.length∧LR W0 (.slice A1 k1 k1) (lv.take (lv.length - m))∧LR W0 (.slice A2 k2 k2) (qa9 m lv)∧Below W.heap.size W w'
theorem bcut_any (v : Value) (lv : List (Ln × Value)) (q : Int) (W0 W : World) (hr : LR W0 v lv) (hq : 0 ≤ q) (hq2 : q ≤ 9223372036854775807) (hn1 : lv.length ≤ 1000) :
  Calls Tryz.prog 123 #[v,.int .i64 q] W (BCut W0 W lv q.toNat):=by
 obtain⟨m,rfl⟩:∃ m:Nat,q=m:=⟨q.toNat,by omega⟩
 rw[Int.toNat_natCast]
 have hc0:∃ A c,v=.slice A lv.length c∧lv.length≤c:=by obtain⟨A,c,e,h,_⟩:=hr;exact⟨A,c,e,h⟩
 obtain⟨A,c,rfl,hc⟩:=hc0
 obtain⟨n,hn⟩:∃ n,lv.length=n:=⟨_,rfl⟩
 rw[hn] at hr hc hn1 ⊢
 have hL:Hid (qa9 m lv=(lv.drop (n - m)).take (n - (n - m))):=by
  unfold Hid qa9
  rw[hn,List.take_of_length_le (by rw[List.length_drop,hn];exact Nat.le_refl _)]
 obtain⟨f,hf⟩:∃ f,n - m=f:=⟨_,rfl⟩
 have hfn:f≤n:=by omega
 obtain⟨A1,h1,r1⟩:=slice_ln_hm hr hn f f hfn (Nat.le_refl _) (by omega)
 obtain⟨A2,h2,r2⟩:=slice_ln_lhm hr hn f n n hfn (Nat.le_refl _) (Nat.le_refl _) hc
 rw[hf] at hL
 have HF:=hid hf
 have HN:=hid hn
 have R1:=hid r1
 have R2:=hid r2
 clear r1 r2 hr hn hf
 have hq3:Hid ((m:Int)≤9223372036854775807):=hq2
 go_enter Tryz.func123,Tryz.ntmps123
 go_upto_region 2 with fail
 go_cut [7] (fun v wx=>v=.int .i64 f∧W=wx)
 case first =>
  have h3:=HF.out
  by_cases hmn:m≤n
  ·have e:((n:Int) - (m:Int))=(f:Int):=by omega
   have E:=hid e
   have hb:0≤(n:Int) - (m:Int):=by omega
   clear e h3 HF
   by_cases hz:(n:Int) - (m:Int)=0
   ·have hb2:(n:Int) - (m:Int)≤0:=by omega
    have E2:Hid ((f:Int)=0):=by have:=E.out;unfold Hid;omega
    clear hz
    go_wp2_with fail
    go_meet
    exact⟨by rw[E2.out],rfl⟩
   ·have hb2:0 < (n:Int) - (m:Int):=by omega
    clear hz
    go_wp2_with fail
    go_meet
    exact⟨by rw[E.out],rfl⟩
  ·have E2:Hid ((f:Int)=0):=by unfold Hid;omega
   have hb2:(n:Int) - (m:Int)≤0:=by omega
   have hb3:-9223372036854775807≤(n:Int) - (m:Int):=by have:=hq3.out;omega
   have hb4:=hq3.out
   clear h3 HF
   go_wp2_with fail
   go_meet
   exact⟨by rw[E2.out],rfl⟩
 case rest =>
  obtain⟨rfl,rfl⟩:=hcut
  go_wp2_with fail
  go_quiet (fail)
  go_wp2
  go_ret2
  refine⟨_,_,_,_,rfl,by rw[HN.out,HF.out],by rw[HN.out,← HF.out];omega,?_,?_,qf _ _⟩
  ·rw[HN.out,HF.out];exact R1.out
  ·rw[hL.out];exact R2.out
set_option maxRecDepth 100000
theorem ce_cells (w:World):(Go.sizeOf (Tryz.prog.elem 53)).run Tryz.prog w=.ok 5 w:=by kernel_rfl
theorem slice_ce_h {W : World} {A : Option Addr} {n c : Nat} {l : List Ce} (hr : CeRow W (.slice A n c) l) (hl : l.length = n) (h : Nat) (hhn : h ≤ n) :
  ∃ A',(∀ w,(Instr.sliceAt 53 (.slice A n c) none (some (.int .i64 h)) none).run Tryz.prog w=.ok (.slice A' h c) w)∧CeRow W (.slice A' h c) (l.take h):=by
 obtain⟨A',c',e,hc,hcell⟩:=hr
 cases e
 have hlen:(l.take h).length=h:=by rw[List.length_take];omega
 refine⟨if c=0 then A else A.map (·.add (0 * 5)),fun w=>?_,?_⟩
 ·rw[run_sliceAt_slice w _ _ _ _ _ Tryz.underlying53,run_slice_h w 53 A _ c Tryz.underlying53 .i64 h (by omega) (by omega),ce_cells]
  simp only[Result.andThen,Int.toNat_natCast,sliced,Nat.sub_zero]
 ·refine⟨_,_,by rw[hlen],by omega,fun hne=>?_⟩
  have hpos:0 < h:=by rw[← hlen];exact List.length_pos_iff.2 hne
  obtain⟨g,o,rfl,hg,hcell⟩:=hcell (List.length_pos_iff.1 (by omega))
  refine⟨g,o,?_,hg,fun j e he=>?_⟩
  ·rw[if_neg (by omega)]
   show some ((⟨g,o,none⟩:Addr).add (0 * 5))=_
   rw[qca]
   rfl
  ·rw[List.getElem?_take] at he
   split at he
   ·exact hcell j e he
   ·cases he
def qd5 (ls:List Ln) (m:Nat):List Ln:=(ls.take m).map cutN
theorem lf_step {W wr w5 w7 : World} {ls : List Ln} {k : Nat} {x : Ln} {ov v5 : Value} {lvk : List (Ln × Value)} {lc : Array Value} (hown : OwnL wr W.heap.size ov lvk)
  (hm:lvk.map Prod.fst=qd5 ls k) (hcs:∀ x∈lvk,CSl wr W.heap.size x.2 x.1.cs) (hx:ls[k]?=some x) (hb5:Below wr.heap.size wr w5) (hc5:CSl w5 wr.heap.size v5 (qh6 x.cs)) (hsz:W.heap.size≤wr.heap.size)
  (hg7:(w5.alloc (.cells lc 55)).grownBy w7 ov.ownBlock) :
  (lvk ++ [(cutN x,v5)]).map Prod.fst=qd5 ls (k+1)∧∀ y∈lvk ++ [(cutN x,v5)],CSl w7 W.heap.size y.2 y.1.cs:=by
 have hb6:=hb5.trans ((qa w5 (.cells lc 55)).mono hb5.size)
 have own6:=hown.kept hb6
 refine⟨?_,fun y hy=>?_⟩
 ·unfold qd5 at *
  rw[List.map_append,hm,take_cutN hx];rfl
 ·rw[List.mem_append,List.mem_singleton] at hy
  rcases hy with hy | rfl
  ·exact((hcs y hy).below hb6 (Nat.le_refl _)).grown own6 hg7
  ·exact(((hc5.mono hsz).below (qa w5 (.cells lc 55)) (Nat.le_refl _)).grown own6 hg7:CSl _ _ v5 (qh6 x.cs))
def LFew (W:World) (ls:List Ln) (e:Ending) (w':World):Prop :=
 ∃ v lv',e=.returned v∧lv'.map Prod.fst=ls∧LSl w' W.heap.size v lv'∧(∀ x∈lv',CSl w' W.heap.size x.2 x.1.cs)∧Below W.heap.size W w'
def BInRel (wr wi:World) (cs:List Ce) (soft:Bool) (q:Nat):Prop :=
 ∃ ov,Box wi (wr.heap.size+1) 55 #[ov,.bool soft]∧OwnC wi wr.heap.size ov ((cs.take q).map cutC)∧Below wr.heap.size wr wi∧wr.heap.size+1+1≤wi.heap.size
def OutRel (W wr:World) (ls:List Ln) (k:Nat) (ov:Value):Prop :=
 ∃ lvk,OwnL wr W.heap.size ov lvk∧lvk.map Prod.fst=qd5 ls k∧(∀ x∈lvk,CSl wr W.heap.size x.2 x.1.cs)∧Below W.heap.size W wr
set_option maxHeartbeats 4000000
set_option maxRecDepth 100000
theorem qjf (v : Value) (lv : List (Ln × Value)) (most : Nat) (W : World) (hr : LR W v lv) (hc : CesOf W lv) (hn : (lv.length : Int) ≤ 9223372036854775807) (hl : ∀ e ∈ lv, (e.1.cs.length : Int) ≤ 9223372036854775807 ∧ ∀ c ∈ e.1.cs, (c.tx.size : Int) ≤ 9223372036854775807) (hmost : most ≤ 100) :
  Calls Tryz.prog 22 #[v,.int .i64 most] W (LFew W (qd5 (lv.map Prod.fst) most)):=by
 obtain⟨m,hmm⟩:∃ m,min lv.length most=m:=⟨_,rfl⟩
 obtain⟨A,c0,rfl⟩:=hr.spell
 obtain⟨A',hs1,hr1⟩:=slice_ln_h hr rfl m (by omega)
 have hcap:lv.length≤c0:=by obtain⟨A',c',e,h,_⟩:=hr;cases e;exact h
 obtain⟨n,hnl⟩:∃ n,lv.length=n:=⟨_,rfl⟩
 have htk:qd5 (lv.map Prod.fst) most=qd5 (lv.map Prod.fst) m:=by
  unfold qd5
  by_cases h:n≤most
  ·rw[List.take_of_length_le (by rw[List.length_map];omega),List.take_of_length_le (by rw[List.length_map];omega)]
  ·rw[show m=most by omega]
 rw[htk]
 rw[hnl] at hs1 hn hmm hcap ⊢
 have HNL:=hid hnl
 have HR:=hid hr1
 have HC:=hid hc
 have HL:=hid hl
 have HMM:=hid hmm
 have HCAP:=hid hcap
 clear hr hc hl hr1 hmm hnl htk hcap
 go_enter Tryz.func22,Tryz.ntmps22
 go_upto_region 2 with fail
 go_cut [5,16,17,18] (fun z a b c wx=>z=.slice none 0 0∧a=.slice A' m c0∧b=.int .i64 m∧c=.int .i64 0∧W=wx)
 case first =>
  have hmm:=HMM.out
  by_cases h:n≤most
  ·have h':(n:Int)≤most:=by omega
   obtain rfl:n=m:=by omega
   clear hmm h
   go_wp2_with fail
   go_meet
   exact⟨rfl,rfl,rfl,rfl,rfl⟩
  ·have h':(most:Int) < n:=by omega
   obtain rfl:most=m:=by omega
   clear hmm h
   go_wp2_with fail
   go_meet
   exact⟨rfl,rfl,rfl,rfl,rfl⟩
 case rest =>
  obtain⟨rfl,rfl,rfl,rfl,rfl⟩:=hcut
  clear hs1
  have hm100:m≤100:=by have:=HMM.out;omega
  go_wp2_with fail
  go_loopw [5,18] (fun z i wr=>∃ k ov,k≤m∧i=.int .i64 (k:Nat)∧z=ov∧OutRel W wr (lv.map Prod.fst) k ov) (fun _ i _=>m - (intOf i).toNat)
  case atStart=>exact⟨0,_,by omega,rfl,rfl,[],OwnL.nil _ _,rfl,by simp,Below.refl _ _⟩
  case round =>
   obtain⟨wo,rfl⟩:∃ wo:World,wo=wr:=⟨_,rfl⟩
   obtain⟨k,ov,hk,rfl,rfl,lvk,hown,hmap,hcs,hbr⟩:=hrel
   obtain⟨oA,oc,rfl⟩:=hown.spell
   have hlo:lvk.length=k:=by have h:=congrArg List.length hmap;unfold qd5 at h;rw[List.length_map,List.length_map,List.length_take,List.length_map,HNL.out] at h;have:=HMM.out;omega
   rw[hlo] at hown ⊢
   by_cases hlt:k < m
   ·have hki:(k:Int) < m:=by omega
    have hkl:k < lv.length:=by rw[HNL.out];have:=HMM.out;omega
    have hxt:(lv.take m)[k]?=some lv[k]:=by rw[List.getElem?_take,if_pos hlt];exact List.getElem?_eq_getElem hkl
    obtain⟨A'',c',e,_,hcell⟩:=HR.out
    rw[show (lv.take m).length=m by rw[List.length_take,HNL.out];have:=HMM.out;omega] at e
    cases e
    obtain⟨g,o,rfl,hg,hcell⟩:=hcell (by intro e;rw[e] at hxt;simp at hxt)
    have hts:=HL.out lv[k] (List.getElem_mem _)
    have hce:=HC.out lv[k] (List.getElem_mem _)
    obtain⟨p0,p1⟩:=hcell k lv[k] hxt
    have p0:=(hbr.cell (p:=⟨g,o+k * 2,none⟩) hg).trans p0
    have p1:=(hbr.cell (p:=⟨g,o+k * 2+1,none⟩) hg).trans p1
    have hxm:(lv.map Prod.fst)[k]?=some lv[k].1:=by rw[List.getElem?_map,List.getElem?_eq_getElem hkl];rfl
    generalize lv[k]=x at *
    obtain⟨⟨cs,soft⟩,cv⟩:=x
    simp only at p0 p1 hts hce hxm
    obtain⟨cA,cc,rfl⟩:=hce.spell
    have hcec:cs.length≤cc:=by obtain⟨A',c',e,h,_⟩:=hce;cases e;exact h
    obtain⟨p,hpp⟩:∃ p,min cs.length 82=p:=⟨_,rfl⟩
    obtain⟨cB,hs2,hr2⟩:=slice_ce_h hce rfl p (by omega)
    obtain⟨cn,hcn⟩:∃ cn,cs.length=cn:=⟨_,rfl⟩
    have hlg:qh6 cs=(cs.take p).map cutC:=by
     unfold qh6
     by_cases h:cn≤82
     ·rw[List.take_of_length_le (by omega),List.take_of_length_le (by omega)]
     ·rw[show p=82 by omega]
    have hts1:=hts.1
    have HTS:=hid hts.2
    have hbw:=hbr.mono (Nat.le_refl W.heap.size)
    have hr2w:=hr2.below hbr
    rw[hcn] at hs2 p0 hts1 hcec
    have HXM:=hid hxm
    have HOWN:=hid hown
    have HBR:=hid hbr
    have HMAP:=hid hmap
    have HCS:=hid hcs
    have HPP:=hid hpp
    have HCN:=hid hcn
    have HR2:=hid hr2w
    have HLG:=hid hlg
    have HLO:=hid hlo
    have HG:=hid hg
    have HCEC:=hid hcec
    clear hxm hown hbr hcell hmap hcs hce hts hpp hr2 hr2w hxt hkl hlo hcn hlg hbw hg hcec
    have hb0:Below wo.heap.size wo ((wo.alloc (.cells #[.slice cA cn cc,.bool soft] 55)).alloc (.cells #[.slice none 0 0,.bool soft] 55)):=(qa _ _).alloc (by simp) _
    have HB0:=hid hb0
    have hbx:=Box.new (wo.alloc (.cells #[.slice cA cn cc,.bool soft] 55)) 55 #[.slice none 0 0,.bool soft]
    rw[World.size_alloc] at hbx
    have HBX:=hid hbx
    have hbx0:=(Box.new wo 55 #[.slice cA cn cc,.bool soft]).alloc (.cells #[.slice none 0 0,.bool soft] 55)
    have HBX0:=hid hbx0
    have hs0:wo.heap.size+1+1≤((wo.alloc (.cells #[.slice cA cn cc,.bool soft] 55)).alloc (.cells #[.slice none 0 0,.bool soft] 55)).heap.size:=by simp
    have HS0:=hid hs0
    clear hb0 hbx hs0 hbx0
    go_upto_region 6 with fail
    generalize ((wo.alloc (.cells #[.slice cA cn cc,.bool soft] 55)).alloc (.cells #[.slice none 0 0,.bool soft] 55))=w0 at *
    go_cut [31,32,33] (fun a b c wx=>a=.slice cB p cc∧b=.int .i64 p∧c=.int .i64 0∧w0=wx)
    case first =>
     have hpp:=HPP.out
     rw[HCN.out] at hpp
     obtain⟨⟨k0,k1⟩,f0,f1⟩:=HBX0.out.two
     by_cases h:cn≤82
     ·have h':(cn:Int)≤82:=by omega
      obtain rfl:cn=p:=by omega
      clear hpp h
      go_wp2_with fail
      go_meet
      exact⟨rfl,rfl,rfl,rfl⟩
     ·have h':(82:Int) < cn:=by omega
      obtain rfl:p=82:=by omega
      have hs3:∀ w,(Instr.sliceAt 53 (.slice cA cn cc) none (some (.int .i64 82)) none).run Tryz.prog w=.ok (.slice cB 82 cc) w:=hs2
      clear hpp h hs2
      go_wp2_with fail
      go_meet
      exact⟨rfl,rfl,rfl,rfl⟩
    case rest =>
     obtain⟨rfl,rfl,rfl,rfl⟩:=hcut
     clear hs2 p0 p1
     have hp82:p≤82:=by have:=HPP.out;omega
     go_wp2_with fail
     go_loopw [33] (fun j wi=>∃ q:Nat,q≤p∧j=.int .i64 q∧BInRel wo wi cs soft q) (fun j _=>p - (intOf j).toNat)
     case atStart=>exact⟨0,by omega,rfl,_,HBX.out,OwnC.nil _ _,HB0.out,HS0.out⟩
     case round =>
      obtain⟨q,hq,rfl,iv,hbo,howi,hbi,hsz⟩:=hrel
      obtain⟨iA,ic,rfl⟩:=howi.spell
      have hli:((cs.take q).map cutC).length=q:=by rw[List.length_map,List.length_take,HCN.out];have h1:=HPP.out;rw[HCN.out] at h1;omega
      rw[hli] at howi hbo
      by_cases hlt2:q < p
      ·have hqi:(q:Int) < p:=by omega
       have hql:q < cs.length:=by have:=HPP.out;omega
       have hx:=List.getElem?_eq_getElem hql
       have htx:=HTS.out cs[q] (List.getElem_mem _)
       have hstep:=take_cut hx
       have hxt:(cs.take p)[q]?=some cs[q]:=by rw[List.getElem?_take,if_pos hlt2];exact hx
       obtain⟨cB',cc',e,_,hcell⟩:=HR2.out
       rw[show (cs.take p).length=p by rw[List.length_take];have:=HPP.out;omega] at e
       cases e
       obtain⟨cg,co,rfl,hcg,hcell⟩:=hcell (by intro e;rw[e] at hxt;simp at hxt)
       obtain⟨p0,p1,p2,p3,p4⟩:=qdr (W:=wr) (g:=cg) (o:=co+q * 5) (e:=cs[q]) (fun i u hu=>(hbi.cell (p:=⟨cg,co+q * 5+i,none⟩) hcg).trans (hcell q cs[q] hxt i u hu))
       generalize cs[q]=x at *
       obtain⟨tx,wd,fg,bg,fl⟩:=x
       simp only at p0 p1 p2 p3 p4 htx
       obtain⟨⟨k0,k1⟩,f0,f1⟩:=hbo.two
       have hne:¬ wo.heap.size+1=wr.heap.size:=by omega
       have hltb:wo.heap.size+1 < wr.heap.size:=by omega
       have hltc:wo.heap.size≤wr.heap.size:=by omega
       have HX:=hid hx
       have HLI:=hid hli
       have HOWI:=hid howi
       have HBO:=hid hbo
       have HBI:=hid hbi
       have HST:=hid hstep
       clear hx hxt hli howi hbo hbi hstep hcell hcg hql
       by_cases hs:tx.size≤20
       ·have hs':(tx.size:Int)≤20:=by omega
        have HC:Hid (cutC ⟨tx,wd,fg,bg,fl⟩=⟨tx,wd,fg,bg,fl⟩):=by unfold Hid cutC;rw[cutC_short hs]
        clear hs
        have hwl:Below wr.heap.size wr ((wr.alloc (.cells #[.string tx,.int .i64 wd,.int .i64 fg,.int .i64 bg,.int .i64 fl] 57)).alloc (.cells #[.string tx,.int .i64 wd,.int .i64 fg,.int .i64 bg,.int .i64 fl] 57)):=(qa _ _).alloc (by simp) _
        have hrow:=ce_lit (wr.alloc (.cells #[.string tx,.int .i64 wd,.int .i64 fg,.int .i64 bg,.int .i64 fl] 57)) ⟨tx,wd,fg,bg,fl⟩
        rw[World.size_alloc] at hrow
        unfold Ce.cells at hrow
        simp only at hrow
        have HROW:=hid hrow
        have HWL:=hid hwl
        clear hrow hwl
        go_wp2_with (at_builtin;refine qet rfl _ _ rfl wo.heap.size _ _ _ [⟨tx,wd,fg,bg,fl⟩] rfl (HOWI.out.kept HWL.out) rfl HROW.out (by rw[HLI.out];simp;omega) (by simp;omega) ?_;intro v' w' h1 h2;obtain⟨A',c',hv'⟩:=h1.spell;rw[List.length_append,HLI.out,List.length_singleton] at hv';subst hv';have H1:=hid h1;have H2:=hid h2;clear h1 h2;have hb7:=(HBO.out.below HWL.out HBO.out.lt).grown H2.out (OwnC.not_box (HOWI.out.kept HWL.out) (HBO.out.below HWL.out HBO.out.lt) (by decide));obtain⟨⟨m0,m1⟩,n0,n1⟩:=hb7.two;have HB7:=hid hb7;clear hb7)
        go_roundw
        case rel =>
         have hst:=HST.out
         rw[HC.out] at hst
         refine⟨q+1,by omega,by go_num,_,HB7.out.set (i:=0) _,?_,?_,?_⟩
         ·rw[hst]
          exact H1.out.set HB7.out (by decide) _
         ·have hlt7:∀ z,(Value.slice iA q ic).ownBlock=some z→wo.heap.size≤z:=fun z hz=>(World.ownsRow.lt (HOWI.out.kept HWL.out) z hz).1
          exact(((HBI.out.trans (HWL.out.mono HBI.out.size)).trans ((Below.refl wo.heap.size _).grown H2.out (by have:=HBI.out.size;have:=HWL.out.size;omega) hlt7))).setCell (p:=⟨wo.heap.size+1,0,none⟩) (by show wo.heap.size≤wo.heap.size+1;omega) _
         ·have:=H2.out.size
          have:=HWL.out.size
          rw[qfy]
          omega
        case measure=>simp[intOf];omega
       ·have hs':(20:Int) < tx.size:=by omega
        have hs2:(20:Int)≤tx.size:=by omega
        obtain⟨y,hy⟩:∃ y,tx.extract 0 20=y:=⟨_,rfl⟩
        have HC:Hid (cutC ⟨tx,wd,fg,bg,fl⟩=⟨y,wd,fg,bg,fl⟩):=by unfold Hid cutC;rw[← hy]
        clear hs
        have hwl:Below wr.heap.size wr ((wr.alloc (.cells #[.string y,.int .i64 wd,.int .i64 fg,.int .i64 bg,.int .i64 fl] 57)).alloc (.cells #[.string y,.int .i64 wd,.int .i64 fg,.int .i64 bg,.int .i64 fl] 57)):=(qa _ _).alloc (by simp) _
        have hrow:=ce_lit (wr.alloc (.cells #[.string y,.int .i64 wd,.int .i64 fg,.int .i64 bg,.int .i64 fl] 57)) ⟨y,wd,fg,bg,fl⟩
        rw[World.size_alloc] at hrow
        unfold Ce.cells at hrow
        simp only at hrow
        have HROW:=hid hrow
        have HWL:=hid hwl
        clear hrow hwl
        go_wp2_with (at_builtin;refine qet rfl _ _ rfl wo.heap.size _ _ _ [⟨y,wd,fg,bg,fl⟩] rfl (HOWI.out.kept HWL.out) rfl HROW.out (by rw[HLI.out];simp;omega) (by simp;omega) ?_;intro v' w' h1 h2;obtain⟨A',c',hv'⟩:=h1.spell;rw[List.length_append,HLI.out,List.length_singleton] at hv';subst hv';have H1:=hid h1;have H2:=hid h2;clear h1 h2;have hb7:=(HBO.out.below HWL.out HBO.out.lt).grown H2.out (OwnC.not_box (HOWI.out.kept HWL.out) (HBO.out.below HWL.out HBO.out.lt) (by decide));obtain⟨⟨m0,m1⟩,n0,n1⟩:=hb7.two;have HB7:=hid hb7;clear hb7)
        go_roundw
        case rel =>
         have hst:=HST.out
         rw[HC.out] at hst
         refine⟨q+1,by omega,by go_num,_,HB7.out.set (i:=0) _,?_,?_,?_⟩
         ·rw[hst]
          exact H1.out.set HB7.out (by decide) _
         ·have hlt7:∀ z,(Value.slice iA q ic).ownBlock=some z→wo.heap.size≤z:=fun z hz=>(World.ownsRow.lt (HOWI.out.kept HWL.out) z hz).1
          exact(((HBI.out.trans (HWL.out.mono HBI.out.size)).trans ((Below.refl wo.heap.size _).grown H2.out (by have:=HBI.out.size;have:=HWL.out.size;omega) hlt7))).setCell (p:=⟨wo.heap.size+1,0,none⟩) (by show wo.heap.size≤wo.heap.size+1;omega) _
         ·have:=H2.out.size
          have:=HWL.out.size
          rw[qfy]
          omega
        case measure=>simp[intOf];omega
      ·have hqp:q=p:=by omega
       subst hqp
       obtain⟨⟨k0,k1⟩,f0,f1⟩:=hbo.two
       have hc5:CSl wr wo.heap.size (.slice iA q ic) (qh6 cs):=by rw[HLG.out];exact howi.csl
       have hlit:=ln_lit wr (cutN ⟨cs,soft⟩,.slice iA q ic)
       have hce5:CesOf (wr.alloc (.cells #[.slice iA q ic,.bool soft] 55)) [(cutN ⟨cs,soft⟩,.slice iA q ic)]:=by
        intro e he
        rw[List.mem_singleton] at he
        subst he
        exact hc5.row.below (qa _ _)
       have hown6:=HOWN.out.kept (hbi.trans ((qa wr (.cells #[.slice iA q ic,.bool soft] 55)).mono hbi.size))
       have HC5:=hid hc5
       have HLIT:Hid (LR (wr.alloc (.cells #[.slice iA q ic,.bool soft] 55)) (.slice (some ⟨wr.heap.size,0,none⟩) 1 1) [(cutN ⟨cs,soft⟩,.slice iA q ic)]):=hlit
       have HCE5:=hid hce5
       have HOWN6:=hid hown6
       have HBI:=hid hbi
       have hltc:wo.heap.size≤wr.heap.size:=by omega
       have HSZ:Hid (W.heap.size≤wo.heap.size):=HBR.out.size
       clear hc5 hlit hce5 hown6 hbi howi hbo hli
       go_wp2_with (at_builtin;refine qgy rfl _ _ rfl W.heap.size _ _ lvk [(cutN ⟨cs,soft⟩,.slice iA q ic)] rfl HOWN6.out rfl HLIT.out HCE5.out (by rw[HLO.out];simp;omega) (by simp;have:=HSZ.out;omega) ?_;intro v' w7 h1 h2;have H1:=hid h1;have H2:=hid h2;clear h1 h2)
       go_roundw
       case rel =>
        have hls:=lf_step HOWN.out HMAP.out HCS.out HXM.out HBI.out HC5.out HSZ.out H2.out
        have hb6:=HBI.out.trans ((qa wr (.cells #[.slice iA q ic,.bool soft] 55)).mono HBI.out.size)
        have hlt7:∀ z,(Value.slice oA k oc).ownBlock=some z→W.heap.size≤z:=fun z hz=>(World.ownsRow.lt HOWN6.out z hz).1
        exact⟨k+1,_,by omega,by go_num,rfl,_,H1.out,hls.1,hls.2,(HBR.out.trans (hb6.mono HBR.out.size)).trans ((Below.refl W.heap.size _).grown H2.out (Nat.le_trans HSZ.out hb6.size) hlt7)⟩
       case measure=>simp[intOf];omega
   ·have hkm:k=m:=by omega
    subst hkm
    go_wp2
    go_ret
    exact⟨_,lvk,rfl,hmap,hown.lsl,hcs,hbr⟩
set_option maxHeartbeats 1000000
set_option maxRecDepth 100000
theorem qlj (v : Value) (lv : List (Ln × Value)) (W : World) (hr : LR W v lv) (hc : CesOf W lv) (hs : Sm lv) (hT : Tab W) (hW : TabW W) :
  Calls Tryz.prog 114 #[v] W fun e w'=>e=.returned (.bool (qdp lv))∧Below W.heap.size W w':=by
 obtain⟨A,c0,rfl⟩:=hr.spell
 obtain⟨n,hnl⟩:∃ n,lv.length=n:=⟨_,rfl⟩
 have HL:=hid hnl
 rw[hnl]
 obtain⟨hs1,hs2⟩:=hs
 rw[hnl] at hs1
 clear hnl
 go_enter Tryz.func114,Tryz.ntmps114
 go_wp2
 go_loopw [8] (fun i wr=>∃ k:Nat,k≤n∧i=.int .i64 k∧Below W.heap.size W wr∧qdp (lv.take k)=true) (fun i _=>n - (intOf i).toNat)
 case atStart=>exact⟨0,by omega,rfl,Below.refl _ _,rfl⟩
 case round =>
  obtain⟨k,hk,rfl,hbl,hrel'⟩:=hrel
  have HREL:=hid hrel'
  clear hrel'
  by_cases hlt:k < n
  ·have hki:(k:Int) < n:=by omega
   have hkl:k < lv.length:=by rw[HL.out];exact hlt
   have hx:=List.getElem?_eq_getElem hkl
   obtain⟨z1,z2⟩:=hs2 lv[k] (List.getElem_mem _)
   have hce:=hc lv[k] (List.getElem_mem _)
   obtain⟨A',c',hA',_,hcell⟩:=hr.below hbl
   cases hA'
   obtain⟨g,o,rfl,hg,hcell⟩:=hcell (by intro e;subst e;simp at hkl)
   obtain⟨p0,p1⟩:=hcell k _ hx
   generalize lv[k]=x at *
   obtain⟨⟨cs,soft⟩,cv⟩:=x
   simp only at *
   have hbl1:=hbl.alloc hbl.size (.cells #[cv,.bool soft] 55)
   have hF:=pFits_any cs.length cv cs soft (wr.alloc (.cells #[cv,.bool soft] 55)) (hce.below hbl1) z2 (by omega) (hT.below hbl1) (hW.below hbl1)
   obtain⟨cA,cc,rfl⟩:=hce.spell
   have hbx:=Box.new wr 55 #[.slice cA cs.length cc,.bool soft]
   have HBL1:=hid hbl1
   have HX:=hid hx
   obtain⟨⟨a0,a1⟩,af0,af1⟩:=hbx.two
   have hlo:=fun h=>ql5 HX.out (keptE_lo (cs:=cs) (soft:=soft) (u:=.slice cA cs.length cc) h)
   have hhi:=fun h=>ql5 HX.out (keptE_hi (cs:=cs) (soft:=soft) (u:=.slice cA cs.length cc) h)
   have hmi:=fun h1 h2=>keptE_mid (cs:=cs) (soft:=soft) (u:=.slice cA cs.length cc) h1 h2
   generalize hm:cs.length=m at *
   clear hbl1 hbx hx hcell hce hc hs2 hm
   have h3:(m:Int) < 1∨(1≤(m:Int)∧80 < (m:Int))∨(1≤(m:Int)∧(m:Int)≤80):=by omega
   rcases h3 with h | ⟨h,h'⟩ | ⟨h,h'⟩
   ·have HE:=hid (hlo h)
    clear hlo hhi hmi hF
    go_wp2
    go_ret
    exact⟨qe HE.out.symm,HBL1.out⟩
   ·have HE:=hid (hhi h')
    clear hlo hhi hmi hF
    go_wp2
    go_ret
    exact⟨qe HE.out.symm,HBL1.out⟩
   ·have hmid:=hmi h h'
    cases h1:qb6 m cs
    ·rw[h1] at hF hmid
     have HE:=hid (ql5 HX.out hmid)
     clear h1 hmid hlo hhi hmi
     go_wp2_with (with_reducible refine hF.mono ?_;rintro e w2 ⟨rfl,hb2⟩)
     go_ret
     exact⟨qe HE.out.symm,HBL1.out.trans (hb2.mono HBL1.out.size)⟩
    ·rw[h1] at hF hmid
     have HE:=hid (keptB_step HREL.out HX.out hmid)
     clear h1 hmid hlo hhi hmi
     go_wp2_with (with_reducible refine hF.mono ?_;rintro e w2 ⟨rfl,hb2⟩)
     go_roundw
     case rel=>exact⟨k+1,by omega,by go_num,HBL1.out.trans (hb2.mono HBL1.out.size),HE.out⟩
     case measure=>simp[intOf];omega
  ·have hkm:k=n:=by omega
   subst hkm
   have HE:Hid (qdp lv=true):=by
    have h:=HREL.out
    rw[← HL.out] at h
    exact keptB_stop h
   go_wp2
   go_ret
   exact⟨qe HE.out.symm,hbl⟩
theorem qjp (mx : Int) (v : Value) (lv : List (Ln × Value)) (W : World) (hr : LR W v lv) (hc : CesOf W lv) (hs : Sm lv) (hT : Tab W) (hW : TabW W) :
  Calls Tryz.prog 47 #[.agg #[.int .i64 mx,v]] W fun e w'=>e=.returned (.bool (qdt mx lv))∧Below W.heap.size W w':=by
 have hbel:Below W.heap.size W (W.alloc (.cells #[.int .i64 mx,v] 33)):=qa _ _
 have hk:=qlj v lv _ (hr.below hbel) (hc.below hbel) hs (hT.below hbel) (hW.below hbel)
 obtain⟨A,c0,rfl⟩:=hr.spell
 have hB:qdt mx lv=(decide (0≤mx∧mx≤40) && (decide ((lv.length:Int)≤mx) && qdp lv)):=rfl
 have HB:=hid hB
 have HK:=hid hk
 have HBL:=hid hbel
 obtain⟨n,hn⟩:∃ n,lv.length=n:=⟨_,rfl⟩
 rw[hn] at HB HK HBL ⊢
 generalize hbb:qdp lv=R at *
 clear hB hk hbel hr hc hs hn hbb
 have h4:mx < 0∨(0≤mx∧40 < mx)∨((0≤mx∧mx≤40)∧mx < n)∨((0≤mx∧mx≤40)∧(n:Int)≤mx):=by omega
 rcases h4 with h | ⟨h,h'⟩ | ⟨⟨h,h'⟩,h2⟩ | ⟨⟨h,h'⟩,h2⟩
 ·have HE:Hid (qdt mx lv=false):=by unfold Hid;rw[HB.out,decide_eq_false (p:=0≤mx∧mx≤40) (by omega),Bool.false_and]
  have hd:decide (0≤mx)=false:=decide_eq_false (by omega)
  go_enter Tryz.func47,Tryz.ntmps47
  go_wp2
  go_ret
  exact⟨qe HE.out.symm,HBL.out⟩
 ·have HE:Hid (qdt mx lv=false):=by unfold Hid;rw[HB.out,decide_eq_false (p:=0≤mx∧mx≤40) (by omega),Bool.false_and]
  have hd:decide (mx≤40)=false:=decide_eq_false (by omega)
  go_enter Tryz.func47,Tryz.ntmps47
  go_wp2
  go_ret
  exact⟨qe HE.out.symm,HBL.out⟩
 ·have HE:Hid (qdt mx lv=false):=by unfold Hid;rw[HB.out,decide_eq_false (p:=(n:Int)≤mx) (by omega),Bool.false_and,Bool.and_false]
  have hd:decide ((n:Int)≤mx)=false:=decide_eq_false (by omega)
  go_enter Tryz.func47,Tryz.ntmps47
  go_wp2
  go_ret
  exact⟨qe HE.out.symm,HBL.out⟩
 ·have HE:Hid (qdt mx lv=R):=by unfold Hid;rw[HB.out,decide_eq_true (p:=0≤mx∧mx≤40) (by omega),decide_eq_true (p:=(n:Int)≤mx) h2];rfl
  go_enter Tryz.func47,Tryz.ntmps47
  go_wp2_with (with_reducible refine HK.out.mono ?_;rintro e w2 ⟨rfl,hb⟩)
  go_ret
  exact⟨qe HE.out.symm,HBL.out.trans (hb.mono HBL.out.size)⟩
set_option maxHeartbeats 1000000
set_option maxRecDepth 100000
theorem qjr {ops : Array Oper} {rest : List Oper} {o : Oper} {a : Act} {w : World} {Q : Exit → Act → World → Prop} (hw : Region.wanted o (yielded ops a.tmps) = true) (s x : Operand)
  (ho:o.op=.call { callee:=.builtin .append,args:=#[s,x],argTypes:=#[22,22] }) (A:Option Addr) (k:Nat) (xv:Value) (l m:List (Ln×Value))
  (hs:a.eval s=.slice A k k) (hk:l.length=k) (hl:LR w (.slice A k k) l) (hxe:a.eval x=xv) (hx:LR w xv m) (hm:CesOf w m) (hb:k+m.length≤1000000)
  (h:∀ v' w',((v'=.slice A k k∧m=[]∧w=w')∨(OwnL w' w.heap.size v' (l ++ m)∧Below w.heap.size w w'))→wpList Tryz.prog ops Q rest (a.put o.dst v') w'):wpList Tryz.prog ops Q (o :: rest) a w:=by
 simp only[wpList,hw,if_true]
 left
 unfold Oper.wp
 by_cases hmn:m=[]
 ·subst hmn
  obtain⟨B,c,rfl⟩:=hx.spell
  simp[execOp,ho,resolve,invoke,builtin,hs,hxe,qb4 w o.type A B k k 0 c rfl (Nat.le_refl _),Result.andThen]
  exact h _ _ (.inl ⟨rfl,rfl,rfl⟩)
 ·have hpos:0 < m.length:=List.length_pos_iff.2 hmn
  obtain⟨v',w',hrun,h2,h3⟩:=qdz w A k k xv l m hl hk hx hm (by omega) (Nat.le_refl _) hb
  simp[execOp,ho,resolve,invoke,builtin,hs,hxe,hrun,Result.andThen]
  exact h v' w' (.inr ⟨h2,h3⟩)
def LQ (W w':World) (v:Value) (l:List (Ln×Value)):Prop:=LR W v l∨LSl w' W.heap.size v l
theorem LSl.spell' {W:World} {base:Nat} {v:Value} {l:List (Ln×Value)} (h:LSl W base v l):∃ A c,v=.slice A l.length c:=h.row.spell
theorem LQ.spell {W w':World} {v:Value} {l:List (Ln×Value)} (h:LQ W w' v l):∃ A c,v=.slice A l.length c:=h.elim LR.spell LSl.spell'
theorem LQ.set {W w':World} {b i:Nat} {t:TypeId} {cs:Array Value} {v:Value} {l:List (Ln×Value)} (h:LQ W w' v l) (hb:Box w' b t cs) (ht:t≠55) (u:Value):LQ W (w'.setCell ⟨b,i,none⟩ u) v l :=
 h.elim .inl (fun h=>.inr (h.set hb ht u))
theorem LQ.row {W w':World} {v:Value} {l:List (Ln×Value)} (h:LQ W w' v l) (hb:Below W.heap.size W w'):LR w' v l:=h.elim (fun h=>h.below hb) LSl.row
def BOut (W:World) (mx:Int) (ok:Bool) (tgt:List (Ln×Value)) (e:Ending) (w':World):Prop :=
 ∃ xc A k c xn,e=.returned (.tuple #[.agg #[.int .i64 xc,.slice A k c],.int .i64 xn])∧Below W.heap.size W w' ∧
  ((ok=true∧xc=mx∧xn=0∧LR w' (.slice A k c) tgt)∨(ok=false∧xc=0∧(.slice A k c:Value)=.slice none 0 0∧xn=1))
theorem BOut.no {W w':World} {mx:Int} {tgt:List (Ln×Value)} {e:Ending} (h:e=.returned (.tuple #[.agg #[.int .i64 0,.slice none 0 0],.int .i64 1])) (hb:Below W.heap.size W w'):BOut W mx false tgt e w' :=
 ⟨0,none,0,0,1,h,hb,.inr ⟨rfl,rfl,rfl,rfl⟩⟩
theorem lq_full {W w w' : World} {A : Option Addr} {k : Nat} {v' : Value} {l m : List (Ln × Value)} (hl : LR W (.slice A k k) l) (hW : Below W.heap.size W w) (h : (v' = .slice A k k ∧ m = [] ∧ w = w') ∨ (OwnL w' w.heap.size v' (l ++ m) ∧ Below w.heap.size w w')) :
  LQ W w' v' (l ++ m)∧Below w.heap.size w w':=by
 rcases h with ⟨rfl,rfl,rfl⟩ | ⟨h1,h2⟩
 ·exact⟨.inl (by rw[List.append_nil];exact hl),Below.refl _ _⟩
 ·refine⟨.inr ?_,h2⟩
  rcases h1.lsl with h | ⟨g,cap,h3,h4,h5⟩
  ·exact .inl h
  ·exact .inr ⟨g,cap,h3,Nat.le_trans hW.size h4,h5⟩
theorem push_any (mx : Int) (v u : Value) (lv ll : List (Ln × Value)) (W : World) (hr : LR W v lv) (hc : CesOf W lv) (hs : Sm lv) (hr2 : LR W u ll) (hc2 : CesOf W ll) (hs2 : Sm ll) (hT : Tab W) (hW : TabW W) :
  Calls Tryz.prog 58 #[.agg #[.int .i64 mx,v],u] W (BOut W mx (qdt mx lv && qdp ll) (qa9 mx.toNat (lv ++ ll))):=by
 have hR:=fun W' (hb:Below W.heap.size W W')=>qjp mx v lv W' (hr.below hb) (hc.below hb) hs (hT.below hb) (hW.below hb)
 have hK:=fun W' (hb:Below W.heap.size W W')=>qlj u ll W' (hr2.below hb) (hc2.below hb) hs2 (hT.below hb) (hW.below hb)
 have hC1:=fun q W' h0 h1=>bcut_any u ll q W W' hr2 h0 h1 hs2.1
 have hC2:=fun q W' h0 h1=>bcut_any v lv q W W' hr h0 h1 hs.1
 have hfin:∀ m:Nat,mx=m→qa9 (m - min m ll.length) lv ++ qa9 m ll=qa9 mx.toNat (lv ++ ll):=by
  rintro m rfl
  rw[Int.toNat_natCast,← push_last,qd6]
 have hsz:=hs.1
 have hsz2:=hs2.1
 have hsp:=hr.spell
 obtain⟨A,c,rfl⟩:=hsp
 have hsp:=hr2.spell
 obtain⟨B,d,rfl⟩:=hsp
 have hbk:=fun h=>backB_iff.1 (show qdt mx lv=true from h)
 have b0:=((Bxs.nil W).alloc 33 #[.int .i64 mx,.slice A lv.length c]).alloc 33 #[.int .i64 0,.slice none 0 0]
 simp only[World.size_alloc,List.nil_append,List.cons_append] at b0
 have h0:Below W.heap.size W ((W.alloc (.cells #[.int .i64 mx,.slice A lv.length c] 33)).alloc (.cells #[.int .i64 0,.slice none 0 0] 33)):=(qa _ _).alloc (by simp) _
 obtain⟨n,hn⟩:∃ n,lv.length=n:=⟨_,rfl⟩
 obtain⟨m,hm⟩:∃ m,ll.length=m:=⟨_,rfl⟩
 rw[hn] at hR hC2 b0 h0 ⊢
 rw[hm] at hK hC1 ⊢
 have HN:=hid hn
 have HM:=hid hm
 have HR:=hid hR
 have HK:=hid hK
 have HC1:=hid hC1
 have HC2:=hid hC2
 have HF:=hid hfin
 have HBK:=hid hbk
 have HL:=hid hr
 have HL2:=hid hr2
 have HCE:=hid hc
 have HCE2:=hid hc2
 have BX0:=hid b0
 have H0:=hid h0
 have HSZ:=hid hsz
 have HSZ2:=hid hsz2
 generalize hRv:qdt mx lv=R at *
 generalize hKv:qdp ll=K at *
 have HRV:=hid hRv
 clear hR hK hC1 hC2 hfin b0 h0 hr hc hs hr2 hc2 hs2 hT hW hn hm hsz hsz2 hbk hRv hKv
 cases R
 ·rw[Bool.false_and]
  go_enter Tryz.func58,Tryz.ntmps58
  go_upto_region 1 with fail
  generalize ((W.alloc (.cells #[.int .i64 mx,.slice A n c] 33)).alloc (.cells #[.int .i64 0,.slice none 0 0] 33))=w0 at *
  obtain⟨⟨k0,k1⟩,f0,f1⟩:=(BX0.out.get 0 rfl).two
  obtain⟨⟨r0,r1⟩,g0,g1⟩:=(BX0.out.get 1 rfl).two
  go_wp2_with fail
  with_reducible refine(HR.out w0 H0.out).mono ?_
  rintro e w1 ⟨rfl,hb⟩
  dsimp only
  clear k0 k1 f0 f1 r0 r1 g0 g1
  have H1:=hid (H0.out.trans (hb.mono H0.out.size))
  obtain⟨⟨r0,r1⟩,g0,g1⟩:=((BX0.out.below hb).get 1 rfl).two
  clear hb
  go_wp2
  refine bodyPost_ret (v:=.tuple #[.agg #[.int .i64 0,.slice none 0 0],.int .i64 1]) (by simp[results,Tryz.results58,go_sem,r0,r1]) rfl (BOut.no rfl ?_)
  exact(H1.out.setCell (p:=⟨W.heap.size+1,0,none⟩) (by show W.heap.size≤W.heap.size+1;omega) _).setCell (p:=⟨W.heap.size+1,1,none⟩) (by show W.heap.size≤W.heap.size+1;omega) _
 ·rw[Bool.true_and]
  have hbk:=HBK.out rfl
  obtain⟨M,rfl⟩:∃ M:Nat,mx=M:=⟨mx.toNat,by omega⟩
  have hM:M≤40:=by omega
  have hM':(M:Int)≤9223372036854775807:=by omega
  have HFF:=hid (HF.out M rfl)
  clear hbk HF HRV HBK
  cases K
  ·go_enter Tryz.func58,Tryz.ntmps58
   go_upto_region 1 with fail
   generalize ((W.alloc (.cells #[.int .i64 (M:Int),.slice A n c] 33)).alloc (.cells #[.int .i64 0,.slice none 0 0] 33))=w0 at *
   obtain⟨⟨k0,k1⟩,f0,f1⟩:=(BX0.out.get 0 rfl).two
   obtain⟨⟨r0,r1⟩,g0,g1⟩:=(BX0.out.get 1 rfl).two
   go_wp2_with fail
   with_reducible refine(HR.out w0 H0.out).mono ?_
   rintro e w1 ⟨rfl,hb⟩
   dsimp only
   clear k0 k1 f0 f1 r0 r1 g0 g1
   have H1:=hid (H0.out.trans (hb.mono H0.out.size))
   have BX1:=hid (BX0.out.below hb)
   clear hb
   obtain⟨⟨k0,k1⟩,f0,f1⟩:=(BX1.out.get 0 rfl).two
   obtain⟨⟨r0,r1⟩,g0,g1⟩:=(BX1.out.get 1 rfl).two
   go_wp2_with fail
   with_reducible refine(HK.out w1 H1.out).mono ?_
   rintro e w2 ⟨rfl,hb⟩
   dsimp only
   clear k0 k1 f0 f1 r0 r1 g0 g1
   have H2:=hid (H1.out.trans (hb.mono H1.out.size))
   obtain⟨⟨r0,r1⟩,g0,g1⟩:=((BX1.out.below hb).get 1 rfl).two
   clear hb
   go_wp2
   refine bodyPost_ret (v:=.tuple #[.agg #[.int .i64 0,.slice none 0 0],.int .i64 1]) (by simp[results,Tryz.results58,go_sem,r0,r1]) rfl (BOut.no rfl ?_)
   exact(H2.out.setCell (p:=⟨W.heap.size+1,0,none⟩) (by show W.heap.size≤W.heap.size+1;omega) _).setCell (p:=⟨W.heap.size+1,1,none⟩) (by show W.heap.size≤W.heap.size+1;omega) _
  ·go_enter Tryz.func58,Tryz.ntmps58
   go_upto_region 1 with fail
   generalize ((W.alloc (.cells #[.int .i64 (M:Int),.slice A n c] 33)).alloc (.cells #[.int .i64 0,.slice none 0 0] 33))=w0 at *
   obtain⟨⟨k0,k1⟩,f0,f1⟩:=(BX0.out.get 0 rfl).two
   obtain⟨⟨r0,r1⟩,g0,g1⟩:=(BX0.out.get 1 rfl).two
   go_wp2_with fail
   with_reducible refine(HR.out w0 H0.out).mono ?_
   rintro e w1 ⟨rfl,hb⟩
   dsimp only
   clear k0 k1 f0 f1 r0 r1 g0 g1
   have H1:=hid (H0.out.trans (hb.mono H0.out.size))
   have BX1:=hid (BX0.out.below hb)
   clear hb
   obtain⟨⟨k0,k1⟩,f0,f1⟩:=(BX1.out.get 0 rfl).two
   obtain⟨⟨r0,r1⟩,g0,g1⟩:=(BX1.out.get 1 rfl).two
   go_wp2_with fail
   with_reducible refine(HK.out w1 H1.out).mono ?_
   rintro e w2 ⟨rfl,hb⟩
   dsimp only
   clear k0 k1 f0 f1 r0 r1 g0 g1
   have H2:=hid (H1.out.trans (hb.mono H1.out.size))
   have BX2:=hid (BX1.out.below hb)
   clear hb
   obtain⟨⟨k0,k1⟩,f0,f1⟩:=(BX2.out.get 0 rfl).two
   obtain⟨⟨r0,r1⟩,g0,g1⟩:=(BX2.out.get 1 rfl).two
   have hcall:=HC1.out M w2 (by omega) hM'
   rw[Int.toNat_natCast] at hcall
   have HCALL:=hid hcall
   clear hcall
   go_wp2_with fail
   with_reducible refine HCALL.out.mono ?_
   rintro e w3 ⟨A1,k1',A2,k2',rfl,hk1,hk2,hl1,hl2,hb⟩
   dsimp only
   clear k0 k1 f0 f1 r0 r1 g0 g1 HCALL hl1 hk1
   have H3:=hid (H2.out.trans (hb.mono H2.out.size))
   have BX3:=hid (BX2.out.below hb)
   have HK2:=hid hk2
   have HLC:=hid hl2
   clear hb hl2
   obtain⟨⟨k0,k1⟩,f0,f1⟩:=(BX3.out.get 0 rfl).two
   obtain⟨⟨r0,r1⟩,g0,g1⟩:=(BX3.out.get 1 rfl).two
   have hge:k2'≤M:=by rw[hk2];omega
   have hge2:(0:Int)≤(M:Int) - (k2':Int):=by omega
   have hle2:(M:Int) - (k2':Int)≤40:=by omega
   have hcall:=HC2.out ((M:Int) - (k2':Int)) w3 hge2 (by omega)
   rw[show ((M:Int) - (k2':Int)).toNat=M - k2' by omega] at hcall
   have HCALL:=hid hcall
   clear hcall hk2
   go_wp2_with fail
   with_reducible refine HCALL.out.mono ?_
   rintro e w4 ⟨A3,k3,A4,k4,rfl,hk3,hk4,hl3,hl4,hb⟩
   dsimp only
   clear k0 k1 f0 f1 r0 r1 g0 g1 HCALL hl3 hk3
   have H4:=hid (H3.out.trans (hb.mono H3.out.size))
   have BX4:=hid (BX3.out.below hb)
   have HK4:=hid hk4
   have HLS:=hid hl4
   clear hb hl4 hk4
   obtain⟨⟨k0,k1⟩,f0,f1⟩:=(BX4.out.get 0 rfl).two
   obtain⟨⟨r0,r1⟩,g0,g1⟩:=(BX4.out.get 1 rfl).two
   have hll4:=HLS.out.below H4.out
   have hlc4:=HLC.out.below H4.out
   have hcc4:=ces_sub (HCE2.out.below H4.out) (fun e (he:e∈qa9 M ll)=>qkq he)
   have hlen4:(qa9 (M - k2') lv).length=k4:=by rw[qd6,HK4.out]
   have HLL4:=hid hll4
   have HLC4:=hid hlc4
   have HCC4:=hid hcc4
   have HLEN4:=hid hlen4
   have hbd:k4+(qa9 M ll).length≤1000000:=by rw[qd6,HK4.out];have:=HSZ.out;have:=HSZ2.out;omega
   have HBD:=hid hbd
   clear hll4 hlc4 hcc4 hlen4 hbd
   go_wp2_with (at_builtin;refine qjr rfl _ _ rfl A4 k4 _ (qa9 (M - k2') lv) (qa9 M ll) rfl HLEN4.out HLL4.out rfl HLC4.out HCC4.out HBD.out ?_;intro v5 w5 h5;have h6:=lq_full HLS.out H4.out h5;have HQ:=hid h6.1;have HB:=hid h6.2;clear h5 h6;obtain⟨A5,c5,hv5⟩:=HQ.out.spell;generalize (qa9 (M - k2') lv ++ qa9 M ll).length=n5 at hv5;subst hv5;clear k0 k1 f0 f1 r0 r1 g0 g1;have HBX:=hid (BX4.out.below HB.out);obtain⟨⟨k0,k1⟩,f0,f1⟩:=(HBX.out.get 0 rfl).two;obtain⟨⟨r0,r1⟩,g0,g1⟩:=(HBX.out.get 1 rfl).two;have hne:¬ W.heap.size+1=W.heap.size:=(by omega);have hne2:¬ W.heap.size=W.heap.size+1:=(by omega))
   refine bodyPost_ret (v:=.tuple #[.agg #[.int .i64 M,.slice A5 n5 c5],.int .i64 0]) (by simp[results,Tryz.results58,go_sem,r0,r1]) rfl ?_
   have q0:Box w5 W.heap.size 33 #[.int .i64 M,.slice A n c]:=HBX.out.get 0 rfl
   have q1:Box w5 (W.heap.size+1) 33 #[.int .i64 0,.slice none 0 0]:=HBX.out.get 1 rfl
   have e2:=q1.other (i:=1) (b':=W.heap.size) (by omega) (.slice A5 n5 c5)
   have hq:=((HQ.out.set q0 (by decide) (i:=1) (.slice A5 n5 c5)).set e2 (by decide) (i:=0) (.int .i64 M)).set (e2.set _) (by decide) (i:=1) (.slice A5 n5 c5)
   have hbb:=(((H4.out.trans (HB.out.mono H4.out.size)).setCell (p:=⟨W.heap.size,1,none⟩) (Nat.le_refl _) (.slice A5 n5 c5)).setCell (p:=⟨W.heap.size+1,0,none⟩) (by show W.heap.size≤W.heap.size+1;omega) (.int .i64 M)).setCell (p:=⟨W.heap.size+1,1,none⟩) (by show W.heap.size≤W.heap.size+1;omega) (.slice A5 n5 c5)
   have hfi:=HFF.out
   rw[← HK2.out,Int.toNat_natCast] at hfi
   rw[hfi] at hq
   exact⟨_,_,_,_,_,rfl,hbb,.inl ⟨rfl,rfl,rfl,hq.row hbb⟩⟩
end Go.Proofs.YtpdaekmbpafenaaGreatDoor
