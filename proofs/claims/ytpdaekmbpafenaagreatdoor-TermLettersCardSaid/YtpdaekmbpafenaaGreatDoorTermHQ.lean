
import Derived.Test.YtpdaekmbpafenaaGreatDoorTermUQ
namespace Go.Proofs.YtpdaekmbpafenaaGreatDoor
set_option maxHeartbeats 2000000
set_option maxRecDepth 100000
open Go.RowKit
section
variable {M:World→Value→Prop} {b:Nat} {mv:Value} {t:Tm} {W:World}
theorem WellT.wipe {t:Tm} (h:WellT t) {row fr tt:Int} (h0:0≤row) (h1:row < t.g.ls.length) (hf:0≤fr) (ht:fr≤tt) (hc:tt≤t.g.cols):WellT (qdy t row fr tt)∧(qdy t row fr tt).g.ls.length=t.g.ls.length∧(qdy t row fr tt).g.cols=t.g.cols∧(qdy t row fr tt).row=t.row∧(qdy t row fr tt).col=t.col:=by
 have he:=h.erase h0 h1 hf ht hc
 have hl:=qii t row fr tt
 unfold qdy
 split
 ·refine⟨he.soft h0 (by rw[hl];exact h1) false,?_,rfl,rfl,rfl⟩
  show (qci _ _ _).length=_
  unfold qci
  rw[List.length_set]
  exact hl
 ·exact⟨he,hl,rfl,rfl,rfl⟩
theorem qem (h : TAt M b mv t W) (hr : WellT t) (row fr tt : Int) (h0 : 0 ≤ row) (h1 : row < t.g.ls.length) (hf : 0 ≤ fr) (ht : fr ≤ tt) (hc : tt ≤ t.g.cols) :
  Calls Tryz.prog 155 #[.pointer (some ⟨b,0,none⟩),.int .i64 row,.int .i64 fr,.int .i64 tt] W (qu M b mv W (qdy t row fr tt)):=by
 have HC:=hid (qkq row fr tt h hr.g h0 h1 hf ht hc hr.lk)
 have HE:=hid (hr.erase h0 h1 hf ht hc)
 have HL:=hid (qii t row fr tt)
 have H1:=hid h1
 unfold qdy
 by_cases hw:tt=t.g.cols
 ·have HW:=hid hw
  rw[if_pos hw]
  clear h hr hf ht hc h1 hw
  go_enter Tryz.func155,Tryz.ntmps155
  go_wp2_with fail
  with_reducible refine HC.out.mono ?_
  rintro e w1 ⟨rfl,q1,q2⟩
  dsimp only
  have k0:w1.cell? ⟨b,0,none⟩=some (.int .i64 tt):=by rw[HW.out];exact q1.c_cols.1
  have HC2:=hid (qk7 row false q1 HE.out.g h0 (by rw[HL.out];exact H1.out))
  clear q1
  go_wp2_with ((with_reducible refine HC2.out.mono ?_);rintro e wn ⟨rfl,h3,h4⟩)
  go_end0
  exact⟨rfl,h3,q2.trans h4⟩
 ·rw[if_neg hw]
  have hne:(tt == t.g.cols)=false:=by simpa using hw
  clear h hr hf ht hc h1
  go_enter Tryz.func155,Tryz.ntmps155
  go_wp2_with fail
  with_reducible refine HC.out.mono ?_
  rintro e w1 ⟨rfl,q1,q2⟩
  dsimp only
  have k0:w1.cell? ⟨b,0,none⟩=some (.int .i64 t.g.cols):=q1.c_cols.1
  have Q1:=hid q1
  clear q1
  go_wp2
  go_end0
  exact⟨rfl,Q1.out,q2⟩
def qf5 (t:Tm) (p:Int):Tm :=
 if p=0 then { qdy t t.row t.col t.g.cols with late:=false } else if p=1 then { qdy t t.row 0 (t.col+1) with late:=false }
 else if p=2 then { qdy t t.row 0 t.g.cols with late:=false } else t
end
section
theorem eraseLine_does:Does 87 (fun t l=>qf5 t (qp l 0)):=by
 intro M b mv t W v l h hr hp _ hl
 dsimp only
 have HP:=hid (qko v l hp hl.1)
 have hpa:=hl.at 0
 generalize qp l 0=p at *
 have hr0:=hr.row0
 have hc0:=hr.col0
 have hc1:=hr.col1
 have hc2:=qd hr.g
 have k5:=h.c_row.1
 have k6:=h.c_col.1
 have k0:=h.c_cols.1
 have HT:=hid h
 have HR:=hid hr
 unfold qf5
 rcases (show p=0∨p=1∨p=2∨2 < p by omega) with rfl | rfl | rfl | hp2
 ·rw[if_pos rfl]
  have HC:=hid (qem HT.out.drew HR.out t.row t.col t.g.cols HR.out.row0 HR.out.row1 (by omega) (by omega) (by omega))
  clear h hr hp
  go_enter Tryz.func87,Tryz.ntmps87
  go_wp2_with ((with_reducible refine HP.out.mono ?_);rintro e w' ⟨rfl,rfl⟩)
  go_still_tail 17,(by kernel_rfl)
  change wpList _ _ _ _ _ W.drew
  go_wp2_with fail
  with_reducible refine HC.out.mono ?_
  rintro e w1 ⟨rfl,q1,q2⟩
  dsimp only
  have HC2:=hid (qcg q1)
  clear q1
  go_wp2_with ((with_reducible refine HC2.out.mono ?_);rintro e wn ⟨rfl,h3,h4⟩)
  go_end0
  exact⟨rfl,h3,((But.refl b W).drew.trans q2).trans h4⟩
 ·rw[if_neg (by omega),if_pos rfl]
  have HC:=hid (qem HT.out.drew HR.out t.row 0 (t.col+1) HR.out.row0 HR.out.row1 (by omega) (by omega) (by omega))
  clear h hr hp
  go_enter Tryz.func87,Tryz.ntmps87
  go_wp2_with ((with_reducible refine HP.out.mono ?_);rintro e w' ⟨rfl,rfl⟩)
  go_still_tail 12,(by kernel_rfl)
  change wpList _ _ _ _ _ W.drew
  go_wp2_with fail
  with_reducible refine HC.out.mono ?_
  rintro e w1 ⟨rfl,q1,q2⟩
  dsimp only
  have HC2:=hid (qcg q1)
  clear q1
  go_wp2_with ((with_reducible refine HC2.out.mono ?_);rintro e wn ⟨rfl,h3,h4⟩)
  go_end0
  exact⟨rfl,h3,((But.refl b W).drew.trans q2).trans h4⟩
 ·rw[if_neg (by omega),if_neg (by omega),if_pos rfl]
  have HC:=hid (qem HT.out.drew HR.out t.row 0 t.g.cols HR.out.row0 HR.out.row1 (by omega) (by omega) (by omega))
  clear h hr hp
  go_enter Tryz.func87,Tryz.ntmps87
  go_wp2_with ((with_reducible refine HP.out.mono ?_);rintro e w' ⟨rfl,rfl⟩)
  go_still_tail 12,(by kernel_rfl)
  change wpList _ _ _ _ _ W.drew
  go_wp2_with fail
  with_reducible refine HC.out.mono ?_
  rintro e w1 ⟨rfl,q1,q2⟩
  dsimp only
  have HC2:=hid (qcg q1)
  clear q1
  go_wp2_with ((with_reducible refine HC2.out.mono ?_);rintro e wn ⟨rfl,h3,h4⟩)
  go_end0
  exact⟨rfl,h3,((But.refl b W).drew.trans q2).trans h4⟩
 ·rw[if_neg (by omega),if_neg (by omega),if_neg (by omega)]
  have n0:(p == 0)=false:=by simp;omega
  have n1:(p == 1)=false:=by simp;omega
  have n2:(p == 2)=false:=by simp;omega
  clear h hr hp
  go_enter Tryz.func87,Tryz.ntmps87
  go_wp2_with ((with_reducible refine HP.out.mono ?_);rintro e w' ⟨rfl,rfl⟩)
  go_end0
  exact⟨rfl,HT.out,But.refl b W⟩
def qhe (t:Tm) (p:Int) (k:Nat):Prop:=((k:Int) < t.row∧(p=1∨p=2))∨(t.row < k∧(p=0∨p=2))
instance (t:Tm) (p:Int) (k:Nat):Decidable (qhe t p k):=by unfold qhe;infer_instance
def qb1 (t:Tm) (p:Int):Nat→Tm
 | 0=>t
 | k+1=>if qhe t p k then qdy (qb1 t p k) k 0 t.g.cols else qb1 t p k
structure ScrW (t u:Tm):Prop where
 well:WellT u
 len:u.g.ls.length=t.g.ls.length
 cols:u.g.cols=t.g.cols
 row:u.row=t.row
 col:u.col=t.col
theorem qid {t:Tm} (h:WellT t) (p:Int):∀ k,k≤t.g.ls.length→ScrW t (qb1 t p k)
 | 0,_=>⟨h,rfl,rfl,rfl,rfl⟩
 | k+1,hk=>by
  have ih:=qid h p k (by omega)
  unfold qb1
  split
  ·have hb:=qd h.g
   have hw:=ih.well.wipe (row:=k) (fr:=0) (tt:=t.g.cols) (by omega) (by rw[ih.len];omega) (by omega) (by omega) (by rw[ih.cols];omega)
   exact⟨hw.1,hw.2.1.trans ih.len,hw.2.2.1.trans ih.cols,hw.2.2.2.1.trans ih.row,hw.2.2.2.2.trans ih.col⟩
  ·exact ih
def qll (t:Tm) (p:Int):Tm:=if p=3 then { t with bls:=[] } else qf5 (qb1 t p t.g.ls.length) p
theorem qm6 : ∀ (M : World → Value → Prop) (b : Nat) (mv : Value) (t : Tm) (W : World) (v : Value) (l : List Int), TAt M b mv t W → IRow W v l → ParsOk l → qp l 0 = 3 →
  Calls Tryz.prog 86 #[.pointer (some ⟨b,0,none⟩),v] W (qu M b mv W { t with bls:=[] }):=by
 intro M b mv t W v l h hp hl h3
 have HP:=hid (qko v l hp hl.1)
 rw[h3] at HP
 have hs:=h.s_b (v:=.slice none 0 0) (GRow.nil b W 0)
 have HE:=hid hs
 have HB:=hid (qbb W b 30 (.slice none 0 0))
 obtain⟨_,_,_,⟨k30,f30⟩,_⟩:=h.c_b
 clear h hp hl h3 hs
 go_enter Tryz.func86,Tryz.ntmps86
 go_wp2_with ((with_reducible refine HP.out.mono ?_);rintro e w' ⟨rfl,rfl⟩)
 go_end0
 exact⟨rfl,HE.out,HB.out⟩
theorem qm7 (M : World → Value → Prop) (b : Nat) (mv : Value) (t : Tm) (W : World) (v : Value) (l : List Int) (p : Int) (h : TAt M b mv t W) (hr : WellT t) (hp : IRow W v l) (hof : (l ≠ [] → qcq b v) ∧ qgv v) (hl : ParsOk l) (hpp : qp l 0 = p) (hq : p = 0) :
  Calls Tryz.prog 86 #[.pointer (some ⟨b,0,none⟩),v] W (qu M b mv W (qf5 (qb1 t p t.g.ls.length) p)):=by
 have HP:=hid (qko v l hp hl.1)
 rw[hpp] at HP
 have hbd:=qd hr.g
 obtain⟨_,_,_,⟨k1,_⟩,_⟩:=h.c_g
 have SW:=hid (qid hr p)
 have hr0:=hr.row0
 have hr1:=hr.row1
 have HT:=hid h
 have HPR:=hid hp
 have HOF:=hid hof
 have HL:=hid hl
 have HPP:=hid hpp
 obtain⟨N,hN⟩:∃ N,t.g.ls.length=N:=⟨_,rfl⟩
 rw[hN] at k1 SW hbd hr1 ⊢
 have HN:=hid hN
 have hN2:N≤50:=by omega
 have hcols:=hbd.1
 clear h hr hp hof hl hpp hN hbd
 subst hq
 go_enter Tryz.func86,Tryz.ntmps86
 go_wp2_with ((with_reducible refine HP.out.mono ?_);rintro e w' ⟨rfl,rfl⟩)
 go_loopw [24] (fun i wr=>∃ k:Nat,k≤N∧i=.int .i64 k∧TAt M b mv (qb1 t 0 k) wr∧But b W wr∧IRow wr v l) (fun i _=>N - (intOf i).toNat)
 case atStart=>exact⟨0,by omega,rfl,HT.out,But.refl b W,HPR.out⟩
 case round =>
  obtain⟨k,hk,rfl,hT,hB,hP⟩:=hrel
  have hw:=SW.out k hk
  have k5:wr.cell? ⟨b,5,none⟩=some (.int .i64 t.row):=by rw[← hw.row];exact hT.c_row.1
  have k0:wr.cell? ⟨b,0,none⟩=some (.int .i64 t.g.cols):=by rw[← hw.cols];exact hT.c_cols.1
  have HTk:=hid hT
  have HBk:=hid hB
  have HPk:=hid hP
  have HWk:=hid hw
  clear hT hB hP hw
  by_cases hlt:k < N
  ·have hki:(k:Int) < N:=by omega
   have hk3:(k:Int)≤1000:=by omega
   rcases (show (k:Int) < t.row∨(k:Int)=t.row∨t.row < (k:Int) by omega) with hc | hc | hc
   ·have hc2:¬ t.row < (k:Int):=by omega
    have HS:=hid (show qb1 t 0 (k+1)=qb1 t 0 k from if_neg (by unfold qhe;omega))
    go_wp2
    go_roundw
    case rel=>exact⟨k+1,by omega,by go_num,by rw[HS.out];exact HTk.out,HBk.out,HPk.out⟩
    case measure=>simp[intOf];omega
   ·have hc2:¬ t.row < (k:Int):=by omega
    have hc3:¬ (k:Int) < t.row:=by omega
    have HS:=hid (show qb1 t 0 (k+1)=qb1 t 0 k from if_neg (by unfold qhe;omega))
    clear hc
    go_wp2
    go_roundw
    case rel=>exact⟨k+1,by omega,by go_num,by rw[HS.out];exact HTk.out,HBk.out,HPk.out⟩
    case measure=>simp[intOf];omega
   ·have hc3:¬ (k:Int) < t.row:=by omega
    have HS:=hid (show qb1 t 0 (k+1)=qdy (qb1 t 0 k) k 0 t.g.cols from if_pos (by unfold qhe;omega))
    have HC:=hid (qem HTk.out HWk.out.well k 0 t.g.cols (by omega) (by have:=HWk.out.len;have:=HN.out;omega) (by omega) (by omega) (by have:=HWk.out.cols;omega))
    go_wp2_with ((with_reducible refine HC.out.mono ?_);rintro e wn ⟨rfl,h3,h4⟩)
    go_roundw
    case rel=>exact⟨k+1,by omega,by go_num,by rw[HS.out];exact h3,HBk.out.trans h4,HPk.out.but h4 HOF.out.1⟩
    case measure=>simp[intOf];omega
  ·have hkN:k=N:=by omega
   subst hkN
   have HC:=hid (eraseLine_does M b mv (qb1 t 0 k) wr v l HTk.out HWk.out.well HPk.out HOF.out HL.out)
   dsimp only at HC
   rw[HPP.out] at HC
   clear k0 k5
   go_wp2_with ((with_reducible refine HC.out.mono ?_);rintro e wn ⟨rfl,h3,h4⟩)
   go_end0
   exact⟨rfl,h3,HBk.out.trans h4⟩
theorem qm8 (M : World → Value → Prop) (b : Nat) (mv : Value) (t : Tm) (W : World) (v : Value) (l : List Int) (p : Int) (h : TAt M b mv t W) (hr : WellT t) (hp : IRow W v l) (hof : (l ≠ [] → qcq b v) ∧ qgv v) (hl : ParsOk l) (hpp : qp l 0 = p) (hq : p = 1) :
  Calls Tryz.prog 86 #[.pointer (some ⟨b,0,none⟩),v] W (qu M b mv W (qf5 (qb1 t p t.g.ls.length) p)):=by
 have HP:=hid (qko v l hp hl.1)
 rw[hpp] at HP
 have hbd:=qd hr.g
 obtain⟨_,_,_,⟨k1,_⟩,_⟩:=h.c_g
 have SW:=hid (qid hr p)
 have hr0:=hr.row0
 have hr1:=hr.row1
 have HT:=hid h
 have HPR:=hid hp
 have HOF:=hid hof
 have HL:=hid hl
 have HPP:=hid hpp
 obtain⟨N,hN⟩:∃ N,t.g.ls.length=N:=⟨_,rfl⟩
 rw[hN] at k1 SW hbd hr1 ⊢
 have HN:=hid hN
 have hN2:N≤50:=by omega
 have hcols:=hbd.1
 clear h hr hp hof hl hpp hN hbd
 subst hq
 go_enter Tryz.func86,Tryz.ntmps86
 go_wp2_with ((with_reducible refine HP.out.mono ?_);rintro e w' ⟨rfl,rfl⟩)
 go_loopw [24] (fun i wr=>∃ k:Nat,k≤N∧i=.int .i64 k∧TAt M b mv (qb1 t 1 k) wr∧But b W wr∧IRow wr v l) (fun i _=>N - (intOf i).toNat)
 case atStart=>exact⟨0,by omega,rfl,HT.out,But.refl b W,HPR.out⟩
 case round =>
  obtain⟨k,hk,rfl,hT,hB,hP⟩:=hrel
  have hw:=SW.out k hk
  have k5:wr.cell? ⟨b,5,none⟩=some (.int .i64 t.row):=by rw[← hw.row];exact hT.c_row.1
  have k0:wr.cell? ⟨b,0,none⟩=some (.int .i64 t.g.cols):=by rw[← hw.cols];exact hT.c_cols.1
  have HTk:=hid hT
  have HBk:=hid hB
  have HPk:=hid hP
  have HWk:=hid hw
  clear hT hB hP hw
  by_cases hlt:k < N
  ·have hki:(k:Int) < N:=by omega
   have hk3:(k:Int)≤1000:=by omega
   rcases (show (k:Int) < t.row∨(k:Int)=t.row∨t.row < (k:Int) by omega) with hc | hc | hc
   ·have hc2:¬ t.row < (k:Int):=by omega
    have HS:=hid (show qb1 t 1 (k+1)=qdy (qb1 t 1 k) k 0 t.g.cols from if_pos (by unfold qhe;omega))
    have HC:=hid (qem HTk.out HWk.out.well k 0 t.g.cols (by omega) (by have:=HWk.out.len;have:=HN.out;omega) (by omega) (by omega) (by have:=HWk.out.cols;omega))
    go_wp2_with ((with_reducible refine HC.out.mono ?_);rintro e wn ⟨rfl,h3,h4⟩)
    go_roundw
    case rel=>exact⟨k+1,by omega,by go_num,by rw[HS.out];exact h3,HBk.out.trans h4,HPk.out.but h4 HOF.out.1⟩
    case measure=>simp[intOf];omega
   ·have hc2:¬ t.row < (k:Int):=by omega
    have hc3:¬ (k:Int) < t.row:=by omega
    have HS:=hid (show qb1 t 1 (k+1)=qb1 t 1 k from if_neg (by unfold qhe;omega))
    clear hc
    go_wp2
    go_roundw
    case rel=>exact⟨k+1,by omega,by go_num,by rw[HS.out];exact HTk.out,HBk.out,HPk.out⟩
    case measure=>simp[intOf];omega
   ·have hc3:¬ (k:Int) < t.row:=by omega
    have HS:=hid (show qb1 t 1 (k+1)=qb1 t 1 k from if_neg (by unfold qhe;omega))
    go_wp2
    go_roundw
    case rel=>exact⟨k+1,by omega,by go_num,by rw[HS.out];exact HTk.out,HBk.out,HPk.out⟩
    case measure=>simp[intOf];omega
  ·have hkN:k=N:=by omega
   subst hkN
   have HC:=hid (eraseLine_does M b mv (qb1 t 1 k) wr v l HTk.out HWk.out.well HPk.out HOF.out HL.out)
   dsimp only at HC
   rw[HPP.out] at HC
   clear k0 k5
   go_wp2_with ((with_reducible refine HC.out.mono ?_);rintro e wn ⟨rfl,h3,h4⟩)
   go_end0
   exact⟨rfl,h3,HBk.out.trans h4⟩
theorem qm9 (M : World → Value → Prop) (b : Nat) (mv : Value) (t : Tm) (W : World) (v : Value) (l : List Int) (p : Int) (h : TAt M b mv t W) (hr : WellT t) (hp : IRow W v l) (hof : (l ≠ [] → qcq b v) ∧ qgv v) (hl : ParsOk l) (hpp : qp l 0 = p) (hq : p = 2) :
  Calls Tryz.prog 86 #[.pointer (some ⟨b,0,none⟩),v] W (qu M b mv W (qf5 (qb1 t p t.g.ls.length) p)):=by
 have HP:=hid (qko v l hp hl.1)
 rw[hpp] at HP
 have hbd:=qd hr.g
 obtain⟨_,_,_,⟨k1,_⟩,_⟩:=h.c_g
 have SW:=hid (qid hr p)
 have hr0:=hr.row0
 have hr1:=hr.row1
 have HT:=hid h
 have HPR:=hid hp
 have HOF:=hid hof
 have HL:=hid hl
 have HPP:=hid hpp
 obtain⟨N,hN⟩:∃ N,t.g.ls.length=N:=⟨_,rfl⟩
 rw[hN] at k1 SW hbd hr1 ⊢
 have HN:=hid hN
 have hN2:N≤50:=by omega
 have hcols:=hbd.1
 clear h hr hp hof hl hpp hN hbd
 subst hq
 go_enter Tryz.func86,Tryz.ntmps86
 go_wp2_with ((with_reducible refine HP.out.mono ?_);rintro e w' ⟨rfl,rfl⟩)
 go_loopw [24] (fun i wr=>∃ k:Nat,k≤N∧i=.int .i64 k∧TAt M b mv (qb1 t 2 k) wr∧But b W wr∧IRow wr v l) (fun i _=>N - (intOf i).toNat)
 case atStart=>exact⟨0,by omega,rfl,HT.out,But.refl b W,HPR.out⟩
 case round =>
  obtain⟨k,hk,rfl,hT,hB,hP⟩:=hrel
  have hw:=SW.out k hk
  have k5:wr.cell? ⟨b,5,none⟩=some (.int .i64 t.row):=by rw[← hw.row];exact hT.c_row.1
  have k0:wr.cell? ⟨b,0,none⟩=some (.int .i64 t.g.cols):=by rw[← hw.cols];exact hT.c_cols.1
  have HTk:=hid hT
  have HBk:=hid hB
  have HPk:=hid hP
  have HWk:=hid hw
  clear hT hB hP hw
  by_cases hlt:k < N
  ·have hki:(k:Int) < N:=by omega
   have hk3:(k:Int)≤1000:=by omega
   rcases (show (k:Int) < t.row∨(k:Int)=t.row∨t.row < (k:Int) by omega) with hc | hc | hc
   ·have hc2:¬ t.row < (k:Int):=by omega
    have HS:=hid (show qb1 t 2 (k+1)=qdy (qb1 t 2 k) k 0 t.g.cols from if_pos (by unfold qhe;omega))
    have HC:=hid (qem HTk.out HWk.out.well k 0 t.g.cols (by omega) (by have:=HWk.out.len;have:=HN.out;omega) (by omega) (by omega) (by have:=HWk.out.cols;omega))
    go_wp2_with ((with_reducible refine HC.out.mono ?_);rintro e wn ⟨rfl,h3,h4⟩)
    go_roundw
    case rel=>exact⟨k+1,by omega,by go_num,by rw[HS.out];exact h3,HBk.out.trans h4,HPk.out.but h4 HOF.out.1⟩
    case measure=>simp[intOf];omega
   ·have hc2:¬ t.row < (k:Int):=by omega
    have hc3:¬ (k:Int) < t.row:=by omega
    have HS:=hid (show qb1 t 2 (k+1)=qb1 t 2 k from if_neg (by unfold qhe;omega))
    clear hc
    go_wp2
    go_roundw
    case rel=>exact⟨k+1,by omega,by go_num,by rw[HS.out];exact HTk.out,HBk.out,HPk.out⟩
    case measure=>simp[intOf];omega
   ·have hc3:¬ (k:Int) < t.row:=by omega
    have HS:=hid (show qb1 t 2 (k+1)=qdy (qb1 t 2 k) k 0 t.g.cols from if_pos (by unfold qhe;omega))
    have HC:=hid (qem HTk.out HWk.out.well k 0 t.g.cols (by omega) (by have:=HWk.out.len;have:=HN.out;omega) (by omega) (by omega) (by have:=HWk.out.cols;omega))
    go_wp2_with ((with_reducible refine HC.out.mono ?_);rintro e wn ⟨rfl,h3,h4⟩)
    go_roundw
    case rel=>exact⟨k+1,by omega,by go_num,by rw[HS.out];exact h3,HBk.out.trans h4,HPk.out.but h4 HOF.out.1⟩
    case measure=>simp[intOf];omega
  ·have hkN:k=N:=by omega
   subst hkN
   have HC:=hid (eraseLine_does M b mv (qb1 t 2 k) wr v l HTk.out HWk.out.well HPk.out HOF.out HL.out)
   dsimp only at HC
   rw[HPP.out] at HC
   clear k0 k5
   go_wp2_with ((with_reducible refine HC.out.mono ?_);rintro e wn ⟨rfl,h3,h4⟩)
   go_end0
   exact⟨rfl,h3,HBk.out.trans h4⟩
theorem qna (M : World → Value → Prop) (b : Nat) (mv : Value) (t : Tm) (W : World) (v : Value) (l : List Int) (p : Int) (h : TAt M b mv t W) (hr : WellT t) (hp : IRow W v l) (hof : (l ≠ [] → qcq b v) ∧ qgv v) (hl : ParsOk l) (hpp : qp l 0 = p) (hq : 3 < p) :
  Calls Tryz.prog 86 #[.pointer (some ⟨b,0,none⟩),v] W (qu M b mv W (qf5 (qb1 t p t.g.ls.length) p)):=by
 have HP:=hid (qko v l hp hl.1)
 rw[hpp] at HP
 have hbd:=qd hr.g
 obtain⟨_,_,_,⟨k1,_⟩,_⟩:=h.c_g
 have SW:=hid (qid hr p)
 have hr0:=hr.row0
 have hr1:=hr.row1
 have HT:=hid h
 have HPR:=hid hp
 have HOF:=hid hof
 have HL:=hid hl
 have HPP:=hid hpp
 obtain⟨N,hN⟩:∃ N,t.g.ls.length=N:=⟨_,rfl⟩
 rw[hN] at k1 SW hbd hr1 ⊢
 have HN:=hid hN
 have hN2:N≤50:=by omega
 have hcols:=hbd.1
 clear h hr hp hof hl hpp hN hbd
 have n0:(p == 0)=false:=by simp;omega
 have n1:(p == 1)=false:=by simp;omega
 have n2:(p == 2)=false:=by simp;omega
 have n3:(p == 3)=false:=by simp;omega
 go_enter Tryz.func86,Tryz.ntmps86
 go_wp2_with ((with_reducible refine HP.out.mono ?_);rintro e w' ⟨rfl,rfl⟩)
 go_loopw [24] (fun i wr=>∃ k:Nat,k≤N∧i=.int .i64 k∧TAt M b mv (qb1 t p k) wr∧But b W wr∧IRow wr v l) (fun i _=>N - (intOf i).toNat)
 case atStart=>exact⟨0,by omega,rfl,HT.out,But.refl b W,HPR.out⟩
 case round =>
  obtain⟨k,hk,rfl,hT,hB,hP⟩:=hrel
  have hw:=SW.out k hk
  have k5:wr.cell? ⟨b,5,none⟩=some (.int .i64 t.row):=by rw[← hw.row];exact hT.c_row.1
  have k0:wr.cell? ⟨b,0,none⟩=some (.int .i64 t.g.cols):=by rw[← hw.cols];exact hT.c_cols.1
  have HTk:=hid hT
  have HBk:=hid hB
  have HPk:=hid hP
  have HWk:=hid hw
  clear hT hB hP hw
  by_cases hlt:k < N
  ·have hki:(k:Int) < N:=by omega
   have hk3:(k:Int)≤1000:=by omega
   rcases (show (k:Int) < t.row∨(k:Int)=t.row∨t.row < (k:Int) by omega) with hc | hc | hc
   ·have hc2:¬ t.row < (k:Int):=by omega
    have HS:=hid (show qb1 t p (k+1)=qb1 t p k from if_neg (by unfold qhe;omega))
    go_wp2
    go_roundw
    case rel=>exact⟨k+1,by omega,by go_num,by rw[HS.out];exact HTk.out,HBk.out,HPk.out⟩
    case measure=>simp[intOf];omega
   ·have hc2:¬ t.row < (k:Int):=by omega
    have hc3:¬ (k:Int) < t.row:=by omega
    have HS:=hid (show qb1 t p (k+1)=qb1 t p k from if_neg (by unfold qhe;omega))
    clear hc
    go_wp2
    go_roundw
    case rel=>exact⟨k+1,by omega,by go_num,by rw[HS.out];exact HTk.out,HBk.out,HPk.out⟩
    case measure=>simp[intOf];omega
   ·have hc3:¬ (k:Int) < t.row:=by omega
    have HS:=hid (show qb1 t p (k+1)=qb1 t p k from if_neg (by unfold qhe;omega))
    go_wp2
    go_roundw
    case rel=>exact⟨k+1,by omega,by go_num,by rw[HS.out];exact HTk.out,HBk.out,HPk.out⟩
    case measure=>simp[intOf];omega
  ·have hkN:k=N:=by omega
   subst hkN
   have HC:=hid (eraseLine_does M b mv (qb1 t p k) wr v l HTk.out HWk.out.well HPk.out HOF.out HL.out)
   dsimp only at HC
   rw[HPP.out] at HC
   clear k0 k5
   go_wp2_with ((with_reducible refine HC.out.mono ?_);rintro e wn ⟨rfl,h3,h4⟩)
   go_end0
   exact⟨rfl,h3,HBk.out.trans h4⟩
theorem eraseScreen_does:Does 86 (fun t l=>qll t (qp l 0)):=by
 intro M b mv t W v l h hr hp hof hl
 dsimp only
 have hpa:=hl.at 0
 unfold qll
 rcases (show qp l 0=3∨qp l 0=0∨qp l 0=1∨qp l 0=2∨3 < qp l 0 by omega) with h3 | h3 | h3 | h3 | h3
 ·rw[if_pos h3]
  exact qm6 M b mv t W v l h hp hl h3
 ·rw[if_neg (by omega)]
  exact qm7 M b mv t W v l _ h hr hp hof hl rfl h3
 ·rw[if_neg (by omega)]
  exact qm8 M b mv t W v l _ h hr hp hof hl rfl h3
 ·rw[if_neg (by omega)]
  exact qm9 M b mv t W v l _ h hr hp hof hl rfl h3
 ·rw[if_neg (by omega)]
  exact qna M b mv t W v l _ h hr hp hof hl rfl h3
end
set_option maxHeartbeats 2000000
set_option maxRecDepth 100000
theorem wf_par {l:List Int} (h:ParsOk l):∀ n∈l,(Lit.int .i64 n).wf=true:=fun n hn=>by
 have:=h.2 n hn
 simp[Lit.wf,IntKind.min,IntKind.max,IntKind.signed,IntKind.bits]
 omega
theorem saveAll_does:Does 99 (fun t _=>qhr t):=by
 intro M b mv t W v l h hr hp _ hl
 dsimp only
 have HC:=hid (qml h)
 clear h hr hp hl
 go_enter Tryz.func99,Tryz.ntmps99
 go_wp2_with ((with_reducible refine HC.out.mono ?_);rintro e wn ⟨rfl,h3,h4⟩)
 go_end0
 exact⟨rfl,h3,h4⟩
theorem restoreAll_does:Does 100 (fun t _=>qco t):=by
 intro M b mv t W v l h hr hp _ hl
 dsimp only
 have HC:=hid (qh9 h hr.g)
 clear h hr hp hl
 go_enter Tryz.func100,Tryz.ntmps100
 go_wp2_with ((with_reducible refine HC.out.mono ?_);rintro e wn ⟨rfl,h3,h4⟩)
 go_end0
 exact⟨rfl,h3,h4⟩
theorem changeLook_does:Does 95 (fun t l=>{ t with lk:=qe6 t.lk l }):=by
 intro M b mv t W v l h hr hp hof hl
 dsimp only
 obtain⟨A,c,rfl,hrow⟩:=hp
 have hcc:=change_yes t.lk A l.length c l W hr.lk ⟨A,c,rfl,hrow⟩ hof.2 (by have:=hl.1;omega) (wf_par hl)
 unfold At.agg at hcc
 have HC:=hid hcc
 have HT:=hid h
 have k8:=h.c_fg.1
 have k9:=h.c_bg.1
 have k10:=h.c_fl.1
 have hlt:=h.lt
 generalize qe6 t.lk l=a at *
 obtain⟨a1,a2,a3⟩:=a
 generalize l.length=N at *
 clear h hr hrow hof hl hcc
 go_enter Tryz.func95,Tryz.ntmps95
 go_wp2_with fail
 with_reducible refine HC.out.mono ?_
 rintro e w1 ⟨he,hb⟩
 have he':e=.returned (.tuple #[.agg #[.int .i64 a1,.int .i64 a2,.int .i64 a3],.int .i64 0]):=he
 subst he'
 dsimp only
 have h1:=HT.out.below hb
 have hs:=h1.s_lk ⟨a1,a2,a3⟩
 have HE:=hid (hs.1.alloc (.cells #[.int .i64 a1,.int .i64 a2,.int .i64 a3] 26))
 have HB:=hid (((But.of_below hb).trans hs.2).trans (But.of_below (qa _ (.cells #[.int .i64 a1,.int .i64 a2,.int .i64 a3] 26))))
 have ⟨j8,f8⟩:=h1.c_fg
 have ⟨j9,f9⟩:=h1.c_bg
 have ⟨j10,f10⟩:=h1.c_fl
 have hlt2:=h1.lt
 clear h1 hs hb k8 k9 k10 he
 go_wp2
 go_end0
 exact⟨rfl,HE.out,HB.out⟩
def regP (t:Tm) (l:List Int):Tm :=
 if orI (qp l 0) 1 - 1 < qe4 t.rows (orI (qp l 1) t.rows) - 1 then qis { t with top:=orI (qp l 0) 1 - 1,bot:=qe4 t.rows (orI (qp l 1) t.rows) - 1 } else t
theorem setRegion_does:Does 98 regP:=by
 intro M b mv t W v l h hr hp hof hl
 have HP1:=hid (qc9 v l hp hl.1)
 have HP2:=hid (fun W' (hb:Below W.heap.size W W')=>param1 v l (hp.below hb) hl.1)
 have hx:=hl.num 0
 have hy:=hl.at 1
 have hbd:=qd hr.g
 obtain⟨A,c,lv,⟨k1,_⟩,_,_⟩:=h.c_g
 unfold regP
 have hrows:t.rows=(t.g.ls.length:Int):=rfl
 rw[hrows]
 generalize orI (qp l 0) 1=x at *
 generalize qp l 1=y at *
 have HT:=hid h
 have HG:=hid hr.g
 obtain⟨N,hN⟩:∃ N,t.g.ls.length=N:=⟨_,rfl⟩
 rw[hN] at k1 hbd ⊢
 have hN1:(1:Int)≤N:=by omega
 have hN2:(N:Int)≤50:=by omega
 obtain⟨z,hz⟩:∃ z,orI y N=z:=⟨_,rfl⟩
 have hz2:1≤z∧z≤9999:=by rw[← hz];unfold orI;split <;> omega
 rw[hz]
 obtain⟨X,hX⟩:∃ X,X=qe4 (N:Int) z:=⟨_,rfl⟩
 rw[← hX]
 have hX1:=hX
 unfold qe4 at hX1
 have HZ:=hid hz
 have hlt:=h.lt
 clear h hr hp hof hl hN hz hX hrows hbd
 have hw1:(z≤(N:Int)∧X=z)∨(¬ z≤(N:Int)∧X=N):=by rw[hX1];split <;> omega
 clear hX1
 have hq:x - 1 < X - 1∨¬ x - 1 < X - 1:=by omega
 rcases hw1 with ⟨a1,rfl⟩ | ⟨a1,rfl⟩ <;> rcases hq with q | q
 ·rw[if_pos q]
  have a3:¬ (N:Int) < X:=by omega
  go_enter Tryz.func98,Tryz.ntmps98
  go_wp2_with fail
  with_reducible refine HP1.out.mono ?_
  rintro e w1 ⟨rfl,hb1⟩
  dsimp only
  have HB1:=hid hb1
  have HC2:=hid (HP2.out w1 hb1)
  clear hb1 k1
  go_wp2_with fail
  with_reducible refine HC2.out.mono ?_
  rintro e w2 ⟨rfl,rfl⟩
  dsimp only
  have hor:=qjw y N w1.heap.size (by omega) (w1.alloc (.cells #[.int .i64 y,.int .i64 N] 3)) (by simp) (by simp)
  rw[HZ.out] at hor
  have HOR:=hid hor
  clear hor
  go_wp2_with fail
  with_reducible refine HOR.out.mono ?_
  rintro e w3 ⟨rfl,rfl⟩
  dsimp only
  have HB2:=hid (HB1.out.alloc HB1.out.size (.cells #[.int .i64 y,.int .i64 N] 3))
  have hx2:=HT.out.below HB2.out
  have hs:=(hx2.s_top (x - 1)).s_bot (X - 1)
  have HH:=hid (qjv hs HG.out)
  have hbt:=((But.of_below HB2.out).trans (qbb _ b 11 (.int .i64 (x - 1)))).set (i:=12) (.int .i64 (X - 1))
  have HBT:=hid hbt
  have ⟨k11,f11⟩:=hx2.c_top
  have ⟨k12,f12⟩:=hx2.c_bot
  generalize w1.alloc (.cells #[.int .i64 y,.int .i64 N] 3)=w4 at *
  clear hx2 hs hbt
  go_wp2_with ((with_reducible refine HH.out.mono ?_);rintro e wn ⟨rfl,h3,h4⟩)
  go_end0
  exact⟨rfl,h3,HBT.out.trans h4⟩
 ·rw[if_neg q]
  have a3:¬ (N:Int) < X:=by omega
  go_enter Tryz.func98,Tryz.ntmps98
  go_wp2_with fail
  with_reducible refine HP1.out.mono ?_
  rintro e w1 ⟨rfl,hb1⟩
  dsimp only
  have HB1:=hid hb1
  have HC2:=hid (HP2.out w1 hb1)
  clear hb1 k1
  go_wp2_with fail
  with_reducible refine HC2.out.mono ?_
  rintro e w2 ⟨rfl,rfl⟩
  dsimp only
  have hor:=qjw y N w1.heap.size (by omega) (w1.alloc (.cells #[.int .i64 y,.int .i64 N] 3)) (by simp) (by simp)
  rw[HZ.out] at hor
  have HOR:=hid hor
  clear hor
  go_wp2_with fail
  with_reducible refine HOR.out.mono ?_
  rintro e w3 ⟨rfl,rfl⟩
  dsimp only
  have HB2:=hid (HB1.out.alloc HB1.out.size (.cells #[.int .i64 y,.int .i64 N] 3))
  have hx2:=HT.out.below HB2.out
  have HX2:=hid hx2
  generalize w1.alloc (.cells #[.int .i64 y,.int .i64 N] 3)=w4 at *
  clear hx2
  go_wp2
  go_end0
  exact⟨rfl,HX2.out,But.of_below HB2.out⟩
 ·rw[if_pos q]
  have a3:(N:Int) < z:=by omega
  go_enter Tryz.func98,Tryz.ntmps98
  go_wp2_with fail
  with_reducible refine HP1.out.mono ?_
  rintro e w1 ⟨rfl,hb1⟩
  dsimp only
  have HB1:=hid hb1
  have HC2:=hid (HP2.out w1 hb1)
  clear hb1 k1
  go_wp2_with fail
  with_reducible refine HC2.out.mono ?_
  rintro e w2 ⟨rfl,rfl⟩
  dsimp only
  have hor:=qjw y N w1.heap.size (by omega) (w1.alloc (.cells #[.int .i64 y,.int .i64 N] 3)) (by simp) (by simp)
  rw[HZ.out] at hor
  have HOR:=hid hor
  clear hor
  go_wp2_with fail
  with_reducible refine HOR.out.mono ?_
  rintro e w3 ⟨rfl,rfl⟩
  dsimp only
  have HB2:=hid (HB1.out.alloc HB1.out.size (.cells #[.int .i64 y,.int .i64 N] 3))
  have hx2:=HT.out.below HB2.out
  have hs:=(hx2.s_top (x - 1)).s_bot ((N:Int) - 1)
  have HH:=hid (qjv hs HG.out)
  have hbt:=((But.of_below HB2.out).trans (qbb _ b 11 (.int .i64 (x - 1)))).set (i:=12) (.int .i64 ((N:Int) - 1))
  have HBT:=hid hbt
  have ⟨k11,f11⟩:=hx2.c_top
  have ⟨k12,f12⟩:=hx2.c_bot
  generalize w1.alloc (.cells #[.int .i64 y,.int .i64 N] 3)=w4 at *
  clear hx2 hs hbt
  go_wp2_with ((with_reducible refine HH.out.mono ?_);rintro e wn ⟨rfl,h3,h4⟩)
  go_end0
  exact⟨rfl,h3,HBT.out.trans h4⟩
 ·rw[if_neg q]
  have a3:(N:Int) < z:=by omega
  go_enter Tryz.func98,Tryz.ntmps98
  go_wp2_with fail
  with_reducible refine HP1.out.mono ?_
  rintro e w1 ⟨rfl,hb1⟩
  dsimp only
  have HB1:=hid hb1
  have HC2:=hid (HP2.out w1 hb1)
  clear hb1 k1
  go_wp2_with fail
  with_reducible refine HC2.out.mono ?_
  rintro e w2 ⟨rfl,rfl⟩
  dsimp only
  have hor:=qjw y N w1.heap.size (by omega) (w1.alloc (.cells #[.int .i64 y,.int .i64 N] 3)) (by simp) (by simp)
  rw[HZ.out] at hor
  have HOR:=hid hor
  clear hor
  go_wp2_with fail
  with_reducible refine HOR.out.mono ?_
  rintro e w3 ⟨rfl,rfl⟩
  dsimp only
  have HB2:=hid (HB1.out.alloc HB1.out.size (.cells #[.int .i64 y,.int .i64 N] 3))
  have hx2:=HT.out.below HB2.out
  have HX2:=hid hx2
  generalize w1.alloc (.cells #[.int .i64 y,.int .i64 N] 3)=w4 at *
  clear hx2
  go_wp2
  go_end0
  exact⟨rfl,HX2.out,But.of_below HB2.out⟩
theorem qj2 (on:Bool):∀ (l:List Int) (n:Int) (t:Tm),insMode t on (l ++ [n])=(if n=4 then { insMode t on l with ins:=on } else insMode t on l)
 | [],_,_=>rfl
 | _ :: l,n,_=>qj2 on l n _
theorem modes_any (M : World → Value → Prop) (b : Nat) (mv : Value) (t : Tm) (W : World) (v : Value) (l : List Int) (on : Bool) (h : TAt M b mv t W) (hp : IRow W v l) (hof : l ≠ [] → qcq b v) (hl : ParsOk l) :
  Calls Tryz.prog 165 #[.pointer (some ⟨b,0,none⟩),v,.bool on] W (qu M b mv W (insMode t on l)):=by
 have HP:=hid hp
 have HOF:=hid hof
 have HT:=hid h
 have hn:=hl.1
 obtain⟨A,c,rfl,hrow⟩:=hp
 have HROW:=hid hrow
 obtain⟨N,hN⟩:∃ N,l.length=N:=⟨_,rfl⟩
 have HN:=hid hN
 rw[hN] at hn HP HOF ⊢
 clear h hof hl hrow hN
 go_enter Tryz.func165,Tryz.ntmps165
 go_wp2
 go_loopw [10] (fun i wr=>∃ k:Nat,k≤N∧i=.int .i64 k∧TAt M b mv (insMode t on (l.take k)) wr∧But b W wr) (fun i _=>N - (intOf i).toNat)
 case atStart=>exact⟨0,by omega,rfl,by rw[List.take_zero];exact HT.out,But.refl b W⟩
 case round =>
  obtain⟨k,hk,rfl,hT,hB⟩:=hrel
  by_cases hlt:k < N
  ·have hlk:k < l.length:=by rw[HN.out];exact hlt
   obtain⟨ad,rfl,hab,hac⟩:=HROW.out (by rintro rfl;simp at hlk)
   have hx:=hac k _ (List.getElem?_eq_getElem hlk)
   have hne:ad.block≠b:=HOF.out (by rintro rfl;simp at hlk) _ _ _ rfl
   have hx2:=(hB.cell (p:=ad.add k) (by rw[qdf];exact hab) (by rw[qdf];exact hne)).trans hx
   have hts:l.take (k+1)=l.take k ++ [l[k]]:=List.take_succ_eq_append_getElem hlk
   have hst:=qj2 on (l.take k) l[k] t
   rw[← hts] at hst
   generalize l[k]=x at *
   have hki:(k:Int) < N:=by omega
   have hk3:(k:Int)≤1000:=by omega
   have HS:=hid hst
   have HTT:=hid hT
   have HBB:=hid hB
   have ⟨k21,f21⟩:=hT.c_ins
   have hE4:=hT.s_ins on
   have HE4:=hid hE4
   have HB4:=hid (hB.set (i:=21) (.bool on))
   clear hac hx hts hst hT hB hE4 hne hab
   by_cases h4:x=4
   ·have HS4:=hid (HS.out.trans (if_pos h4))
    subst h4
    go_wp2
    go_roundw
    case rel=>exact⟨k+1,by omega,by go_num,by rw[HS4.out];exact HE4.out,HB4.out⟩
    case measure=>simp[intOf];omega
   ·have HS4:=hid (HS.out.trans (if_neg h4))
    have hne4:(x == 4)=false:=by simpa using h4
    go_wp2
    go_roundw
    case rel=>exact⟨k+1,by omega,by go_num,by rw[HS4.out];exact HTT.out,HBB.out⟩
    case measure=>simp[intOf];omega
  ·have hkN:k=N:=by omega
   have HF:=hid (show TAt M b mv (insMode t on l) wr by have:=hT;rw[List.take_of_length_le (by rw[HN.out];omega)] at this;exact this)
   have HBB:=hid hB
   clear hT hB
   go_wp2
   go_end0
   exact⟨rfl,HF.out,HBB.out⟩
theorem setModes_does:Does 96 (fun t l=>insMode t true l):=by
 intro M b mv t W v l h hr hp hof hl
 dsimp only
 have HC:=hid (modes_any M b mv t W v l true h hp hof.1 hl)
 clear h hr hp hof hl
 go_enter Tryz.func96,Tryz.ntmps96
 go_wp2_with ((with_reducible refine HC.out.mono ?_);rintro e wn ⟨rfl,h3,h4⟩)
 go_end0
 exact⟨rfl,h3,h4⟩
theorem clearModes_does:Does 97 (fun t l=>insMode t false l):=by
 intro M b mv t W v l h hr hp hof hl
 dsimp only
 have HC:=hid (modes_any M b mv t W v l false h hp hof.1 hl)
 clear h hr hp hof hl
 go_enter Tryz.func97,Tryz.ntmps97
 go_wp2_with ((with_reducible refine HC.out.mono ?_);rintro e wn ⟨rfl,h3,h4⟩)
 go_end0
 exact⟨rfl,h3,h4⟩
end Go.Proofs.YtpdaekmbpafenaaGreatDoor
