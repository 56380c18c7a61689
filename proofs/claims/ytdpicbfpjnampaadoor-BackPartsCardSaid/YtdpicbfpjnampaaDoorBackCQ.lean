/- Layer 7, plain: what may be kept; the last ones. -/
/- Layer 7, the package: lines parted: those ahead, and the last ones. -/
import Derived.Test.YtdpicbfpjnampaaDoorGridFewQ
import Derived.Test.YtdpicbfpjnampaaDoorGridSmQ
import Derived.Test.YtdpicbfpjnampaaDoorGridJQ
import Derived.Deep.DeepCutAuto
namespace Go.Proofs.YtdpicbfpjnampaaDoor
open Go.RowKit

def keptE (e : Ln × Value) : Bool := decide (1 ≤ (e.1.cs.length : Int) ∧ (e.1.cs.length : Int) ≤ 80) && fitsB e.1.cs.length e.1.cs
def keptB (lv : List (Ln × Value)) : Bool := lv.all keptE
theorem keptB_stop {lv : List (Ln × Value)} (h : keptB (lv.take lv.length) = true) : keptB lv = true := by rwa [List.take_length] at h
theorem keptB_step {lv : List (Ln × Value)} {k : Nat} {e : Ln × Value} (h : keptB (lv.take k) = true) (he : lv[k]? = some e) (hf : keptE e = true) : keptB (lv.take (k + 1)) = true := by
  obtain ⟨hk, rfl⟩ := List.getElem?_eq_some_iff.1 he
  rw [List.take_succ_eq_append_getElem hk]
  unfold keptB at *
  rw [List.all_append, h]
  simp [hf]
theorem keptB_no {lv : List (Ln × Value)} {k : Nat} {e : Ln × Value} (he : lv[k]? = some e) (hf : keptE e = false) : keptB lv = false := by
  unfold keptB
  rw [List.all_eq_false]
  exact ⟨e, List.mem_of_getElem? he, by rw [hf]; simp⟩
theorem keptE_lo {cs : List Ce} {soft : Bool} {u : Value} (h : (cs.length : Int) < 1) : keptE (⟨cs, soft⟩, u) = false := by
  unfold keptE
  rw [decide_eq_false (by show ¬ (1 ≤ (cs.length : Int) ∧ (cs.length : Int) ≤ 80); omega), Bool.false_and]
theorem keptE_hi {cs : List Ce} {soft : Bool} {u : Value} (h : 80 < (cs.length : Int)) : keptE (⟨cs, soft⟩, u) = false := by
  unfold keptE
  rw [decide_eq_false (by show ¬ (1 ≤ (cs.length : Int) ∧ (cs.length : Int) ≤ 80); omega), Bool.false_and]
theorem keptE_mid {cs : List Ce} {soft : Bool} {u : Value} (h1 : 1 ≤ (cs.length : Int)) (h2 : (cs.length : Int) ≤ 80) : keptE (⟨cs, soft⟩, u) = fitsB cs.length cs := by
  unfold keptE
  rw [decide_eq_true (by show 1 ≤ (cs.length : Int) ∧ (cs.length : Int) ≤ 80; omega), Bool.true_and]
theorem keptB_append (a b : List (Ln × Value)) : keptB (a ++ b) = (keptB a && keptB b) := List.all_append
theorem keptB_sub {a b : List (Ln × Value)} (h : keptB b = true) (hs : ∀ e ∈ a, e ∈ b) : keptB a = true := by
  unfold keptB at *
  rw [List.all_eq_true] at *
  exact fun e he => h e (hs e he)
def backB (mx : Int) (lv : List (Ln × Value)) : Bool := decide (0 ≤ mx ∧ mx ≤ 40) && (decide ((lv.length : Int) ≤ mx) && keptB lv)
theorem backB_iff {mx : Int} {lv : List (Ln × Value)} : backB mx lv = true ↔ (0 ≤ mx ∧ mx ≤ 40) ∧ (lv.length : Int) ≤ mx ∧ keptB lv = true := by
  unfold backB
  rw [Bool.and_eq_true, Bool.and_eq_true, decide_eq_true_iff, decide_eq_true_iff]

section
variable {α : Type}
def lastN (n : Nat) (l : List α) : List α := l.drop (l.length - n)
theorem lastN_length (n : Nat) (l : List α) : (lastN n l).length = min n l.length := by
  unfold lastN
  rw [List.length_drop]
  omega
theorem lastN_all {n : Nat} {l : List α} (h : l.length ≤ n) : lastN n l = l := by
  unfold lastN
  rw [show l.length - n = 0 by omega, List.drop_zero]
theorem lastN_mem {n : Nat} {l : List α} {e : α} (h : e ∈ lastN n l) : e ∈ l := List.mem_of_mem_drop h
theorem lastN_le {a b : List α} {n : Nat} (h : b.length ≤ n) : lastN n (a ++ b) = lastN (n - b.length) a ++ b := by
  unfold lastN
  rw [List.length_append, List.drop_append, show a.length + b.length - n = a.length - (n - b.length) by omega, show a.length - (n - b.length) - a.length = 0 by omega, List.drop_zero]
theorem lastN_ge {a b : List α} {n : Nat} (h : n ≤ b.length) : lastN n (a ++ b) = lastN n b := by
  unfold lastN
  rw [List.length_append, List.drop_append, List.drop_of_length_le (by omega), List.nil_append]
  congr 1
  omega
theorem push_last (a b : List α) (n : Nat) : lastN (n - (lastN n b).length) a ++ lastN n b = lastN n (a ++ b) := by
  rw [lastN_length]
  by_cases h : b.length ≤ n
  · rw [lastN_le h, lastN_all h, Nat.min_eq_right h]
  · rw [lastN_ge (by omega), Nat.min_eq_left (by omega), Nat.sub_self]
    have : lastN 0 a = [] := List.length_eq_zero_iff.1 (by rw [lastN_length]; omega)
    rw [this, List.nil_append]
theorem lastN_lastN (m n : Nat) (l : List α) : lastN m (lastN n l) = lastN (min m n) l := by
  unfold lastN
  rw [List.drop_drop, List.length_drop]
  congr 1
  omega
theorem lastN_parts (a b : List α) (n : Nat) : lastN n (lastN n a ++ b) = lastN n (a ++ b) := by
  by_cases h : b.length ≤ n
  · rw [lastN_le h, lastN_le h, lastN_lastN, Nat.min_eq_left (by omega)]
  · rw [lastN_ge (by omega), lastN_ge (by omega)]
theorem lastN_app (a b : List α) (n : Nat) (h : n ≤ b.length) : lastN n (a ++ b) = lastN n b := lastN_ge h
theorem lastN_push (a b : List α) (n : Nat) : lastN b.length (lastN n (a ++ b)) = lastN (min b.length n) b := by
  rw [lastN_lastN, lastN_ge (by omega)]
end
theorem sm_sub {a b : List (Ln × Value)} (h : Sm b) (hl : a.length ≤ 1000) (hs : ∀ e ∈ a, e ∈ b) : Sm a := ⟨hl, fun e he => h.2 e (hs e he)⟩
theorem ces_sub {W : World} {a b : List (Ln × Value)} (h : CesOf W b) (hs : ∀ e ∈ a, e ∈ b) : CesOf W a := fun e he => h e (hs e he)
end Go.Proofs.YtdpicbfpjnampaaDoor

namespace Go.Proofs.YtdpicbfpjnampaaDoor
open Go.RowKit

theorem ln_cells (w : World) : (Go.sizeOf (Tryd.prog.elem 22)).run Tryd.prog w = .ok 2 w := by kernel_rfl
/-- A slice of lines. -/
theorem LR.part {W : World} {A : Option Addr} {n c : Nat} {lv : List (Ln × Value)} (hr : LR W (.slice A n c) lv) (hl : lv.length = n) (l h m : Nat) (hlh : l ≤ h) (hhn : h ≤ n) (hm : h ≤ m) :
    ∃ A', sliced A l h m 2 = .slice A' (h - l) (m - l) ∧ LR W (.slice A' (h - l) (m - l)) ((lv.drop l).take (h - l)) := by
  refine ⟨_, rfl, ?_⟩
  have hlen : ((lv.drop l).take (h - l)).length = h - l := by rw [List.length_take, List.length_drop]; omega
  obtain ⟨A', c', e, hc, hcell⟩ := hr
  cases e
  refine ⟨_, _, by rw [hlen], by rw [hlen]; omega, fun hne => ?_⟩
  have hpos : 0 < h - l := by rw [← hlen]; exact List.length_pos_iff.2 hne
  obtain ⟨g, o, rfl, hg, hcell⟩ := hcell (List.length_pos_iff.1 (by omega))
  refine ⟨g, o + l * 2, ?_, hg, fun j e he => ?_⟩
  · rw [if_neg (by omega)]
    show some ((⟨g, o, none⟩ : Addr).add (l * 2)) = _
    rw [addr_add]
  · rw [List.getElem?_take] at he
    split at he
    · rw [List.getElem?_drop] at he
      have := hcell (l + j) e he
      rwa [show o + l * 2 + j * 2 = o + (l + j) * 2 by omega]
    · cases he
set_option maxRecDepth 100000 in
theorem slice_ln_lhm {W : World} {A : Option Addr} {n c : Nat} {lv : List (Ln × Value)} (hr : LR W (.slice A n c) lv) (hl : lv.length = n) (l h m : Nat) (hlh : l ≤ h) (hhn : h ≤ n) (hm : h ≤ m) (hmc : m ≤ c) :
    ∃ A', (∀ w, (Instr.sliceAt 22 (.slice A n c) (some (.int .i64 l)) (some (.int .i64 h)) (some (.int .i64 m))).run Tryd.prog w = .ok (.slice A' (h - l) (m - l)) w) ∧ LR W (.slice A' (h - l) (m - l)) ((lv.drop l).take (h - l)) := by
  obtain ⟨A', h1, h2⟩ := hr.part hl l h m hlh hhn hm
  refine ⟨A', fun w => ?_, h2⟩
  rw [run_sliceAt_slice w _ _ _ _ _ Tryd.underlying22, run_slice_lhm w 22 A n c Tryd.underlying22 .i64 .i64 .i64 l h m (by omega) (by omega) (by omega) (by omega), ln_cells]
  simp only [Result.andThen, Int.toNat_natCast]
  rw [h1]
set_option maxRecDepth 100000 in
theorem slice_ln_hm {W : World} {A : Option Addr} {n c : Nat} {lv : List (Ln × Value)} (hr : LR W (.slice A n c) lv) (hl : lv.length = n) (h m : Nat) (hhn : h ≤ n) (hm : h ≤ m) (hmc : m ≤ c) :
    ∃ A', (∀ w, (Instr.sliceAt 22 (.slice A n c) none (some (.int .i64 h)) (some (.int .i64 m))).run Tryd.prog w = .ok (.slice A' h m) w) ∧ LR W (.slice A' h m) (lv.take h) := by
  obtain ⟨A', h1, h2⟩ := hr.part hl 0 h m (Nat.zero_le _) hhn hm
  rw [Nat.sub_zero, Nat.sub_zero, List.drop_zero] at h2
  refine ⟨A', fun w => ?_, h2⟩
  rw [run_sliceAt_slice w _ _ _ _ _ Tryd.underlying22, run_slice_hm w 22 A n c Tryd.underlying22 .i64 .i64 h m (by omega) (by omega) (by omega), ln_cells]
  simp only [Result.andThen, Int.toNat_natCast]
  rw [h1]; rfl
set_option maxRecDepth 100000 in
theorem slice_ln_h {W : World} {A : Option Addr} {n c : Nat} {lv : List (Ln × Value)} (hr : LR W (.slice A n c) lv) (hl : lv.length = n) (h : Nat) (hhn : h ≤ n) :
    ∃ A', (∀ w, (Instr.sliceAt 22 (.slice A n c) none (some (.int .i64 h)) none).run Tryd.prog w = .ok (.slice A' h c) w) ∧ LR W (.slice A' h c) (lv.take h) := by
  have hc : n ≤ c := by obtain ⟨A', c', e, h, _⟩ := hr; cases e; rw [← hl]; exact h
  obtain ⟨A', h1, h2⟩ := hr.part hl 0 h c (Nat.zero_le _) hhn (by omega)
  rw [Nat.sub_zero, Nat.sub_zero, List.drop_zero] at h2
  refine ⟨A', fun w => ?_, h2⟩
  rw [run_sliceAt_slice w _ _ _ _ _ Tryd.underlying22, run_slice_h w 22 A n c Tryd.underlying22 .i64 h (by omega) (by omega), ln_cells]
  simp only [Result.andThen, Int.toNat_natCast]
  rw [h1]; rfl
set_option maxRecDepth 100000 in
theorem slice_ln_l {W : World} {A : Option Addr} {n c : Nat} {lv : List (Ln × Value)} (hr : LR W (.slice A n c) lv) (hl : lv.length = n) (l : Nat) (hln : l ≤ n) :
    ∃ A', (∀ w, (Instr.sliceAt 22 (.slice A n c) (some (.int .i64 l)) none none).run Tryd.prog w = .ok (.slice A' (n - l) (c - l)) w) ∧ LR W (.slice A' (n - l) (c - l)) (lv.drop l) := by
  have hc : n ≤ c := by obtain ⟨A', c', e, h, _⟩ := hr; cases e; rw [← hl]; exact h
  obtain ⟨A', h1, h2⟩ := hr.part hl l n c hln (Nat.le_refl _) hc
  rw [List.take_of_length_le (by rw [List.length_drop, hl]; exact Nat.le_refl _)] at h2
  refine ⟨A', fun w => ?_, h2⟩
  rw [run_sliceAt_slice w _ _ _ _ _ Tryd.underlying22, run_slice_l w 22 A n c Tryd.underlying22 .i64 l (by omega) (by omega), ln_cells]
  simp only [Result.andThen, Int.toNat_natCast]
  rw [h1]

def BCut (W0 W : World) (lv : List (Ln × Value)) (m : Nat) (e : Ending) (w' : World) : Prop :=
  ∃ A1 k1 A2 k2, e = .returned (.tuple #[.slice A1 k1 k1, .slice A2 k2 k2]) ∧ k1 = lv.length - m ∧ k2 = min m lv.length ∧ LR W0 (.slice A1 k1 k1) (lv.take (lv.length - m)) ∧ LR W0 (.slice A2 k2 k2) (lastN m lv) ∧ Below W.heap.size W w'
set_option maxRecDepth 100000 in
set_option maxHeartbeats 1000000 in
theorem bcut_any (v : Value) (lv : List (Ln × Value)) (q : Int) (W0 W : World) (hr : LR W0 v lv) (hq : 0 ≤ q) (hq2 : q ≤ 9223372036854775807) (hn1 : lv.length ≤ 1000) :
    Calls Tryd.prog 71 #[v, .int .i64 q] W (BCut W0 W lv q.toNat) := by
  obtain ⟨m, rfl⟩ : ∃ m : Nat, q = m := ⟨q.toNat, by omega⟩
  rw [Int.toNat_natCast]
  have hc0 : ∃ A c, v = .slice A lv.length c ∧ lv.length ≤ c := by obtain ⟨A, c, e, h, _⟩ := hr; exact ⟨A, c, e, h⟩
  obtain ⟨A, c, rfl, hc⟩ := hc0
  obtain ⟨n, hn⟩ : ∃ n, lv.length = n := ⟨_, rfl⟩
  rw [hn] at hr hc hn1 ⊢
  have hL : Hid (lastN m lv = (lv.drop (n - m)).take (n - (n - m))) := by
    unfold Hid lastN
    rw [hn, List.take_of_length_le (by rw [List.length_drop, hn]; exact Nat.le_refl _)]
  obtain ⟨f, hf⟩ : ∃ f, n - m = f := ⟨_, rfl⟩
  have hfn : f ≤ n := by omega
  obtain ⟨A1, h1, r1⟩ := slice_ln_hm hr hn f f hfn (Nat.le_refl _) (by omega)
  obtain ⟨A2, h2, r2⟩ := slice_ln_lhm hr hn f n n hfn (Nat.le_refl _) (Nat.le_refl _) hc
  rw [hf] at hL
  have HF := hid hf
  have HN := hid hn
  have R1 := hid r1
  have R2 := hid r2
  clear r1 r2 hr hn hf
  have hq3 : Hid ((m : Int) ≤ 9223372036854775807) := hq2
  go_enter Tryd.func71, Tryd.ntmps71
  go_upto_region 2 with fail
  go_cut [7] (fun v wx => v = .int .i64 f ∧ W = wx)
  case first =>
    have h3 := HF.out
    by_cases hmn : m ≤ n
    · have e : ((n : Int) - (m : Int)) = (f : Int) := by omega
      have E := hid e
      have hb : 0 ≤ (n : Int) - (m : Int) := by omega
      clear e h3 HF
      by_cases hz : (n : Int) - (m : Int) = 0
      · have hb2 : (n : Int) - (m : Int) ≤ 0 := by omega
        have E2 : Hid ((f : Int) = 0) := by have := E.out; unfold Hid; omega
        clear hz
        go_wp2_with fail
        go_meet
        exact ⟨by rw [E2.out], rfl⟩
      · have hb2 : 0 < (n : Int) - (m : Int) := by omega
        clear hz
        go_wp2_with fail
        go_meet
        exact ⟨by rw [E.out], rfl⟩
    · have E2 : Hid ((f : Int) = 0) := by unfold Hid; omega
      have hb2 : (n : Int) - (m : Int) ≤ 0 := by omega
      have hb3 : -9223372036854775807 ≤ (n : Int) - (m : Int) := by have := hq3.out; omega
      have hb4 := hq3.out
      clear h3 HF
      go_wp2_with fail
      go_meet
      exact ⟨by rw [E2.out], rfl⟩
  case rest =>
    obtain ⟨rfl, rfl⟩ := hcut
    go_wp2_with fail
    go_quiet (fail)
    go_wp2
    go_ret2
    refine ⟨_, _, _, _, rfl, by rw [HN.out, HF.out], by rw [HN.out, ← HF.out]; omega, ?_, ?_, below_drew _ _⟩
    · rw [HN.out, HF.out]; exact R1.out
    · rw [hL.out]; exact R2.out
end Go.Proofs.YtdpicbfpjnampaaDoor
