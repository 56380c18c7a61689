/- Layer 4, the package: which looks may be, flags that are set and cleared, colours' rows. -/
import Derived.Test.YtlcahkbbefcjnaaDoorCellM
import Derived.Test.YtlcahkbbefcjnaaDoorBlk
import Derived.Maps.OwnOps
import Derived.Maps.Views
import Derived.Deep.RegionWith
import Derived.DataElems
namespace Go.Proofs.YtlcahkbbefcjnaaDoor
open Go.RowKit Go.Maps

set_option maxHeartbeats 400000 in
theorem pLook_any (a : At) (w : World) :
    Calls Tryd.prog 24 #[a.agg] w fun e w' => e = .returned (.bool (lookB a)) ∧ Below w.heap.size w w' := by
  obtain ⟨fg, bg, fl⟩ := a
  have hc : (0 ≤ fg ∧ fg ≤ 256 ∧ 0 ≤ bg ∧ bg ≤ 256 ∧ 0 ≤ fl ∧ fl ≤ 255) ∨ (fg < 0) ∨ (0 ≤ fg ∧ 256 < fg) ∨ (0 ≤ fg ∧ fg ≤ 256 ∧ bg < 0) ∨ (0 ≤ fg ∧ fg ≤ 256 ∧ 0 ≤ bg ∧ 256 < bg) ∨ (0 ≤ fg ∧ fg ≤ 256 ∧ 0 ≤ bg ∧ bg ≤ 256 ∧ fl < 0) ∨ (0 ≤ fg ∧ fg ≤ 256 ∧ 0 ≤ bg ∧ bg ≤ 256 ∧ 0 ≤ fl ∧ 255 < fl) := by omega
  unfold At.agg
  rcases hc with ⟨h1, h2, h3, h4, h5, h6⟩ | h1 | ⟨h1, h2⟩ | ⟨h1, h2, h3⟩ | ⟨h1, h2, h3, h4⟩ | ⟨h1, h2, h3, h4, h5⟩ | ⟨h1, h2, h3, h4, h5, h6⟩
  · have HR : Hid (lookB ⟨fg, bg, fl⟩ = true) := by unfold Hid; rw [look_iff]; exact ⟨⟨h1, h2⟩, ⟨h3, h4⟩, h5, h6⟩
    go_enter Tryd.func24, Tryd.ntmps24
    go_wp2
    go_ret
    exact ⟨ret_bool (by rw [HR.out]; first | done | (simp; done) | (simp; omega)), below_alloc _ _⟩
  all_goals
    have HR : Hid (lookB ⟨fg, bg, fl⟩ = false) := by
      unfold Hid
      cases hb : lookB ⟨fg, bg, fl⟩
      · rfl
      · rw [look_iff] at hb; simp only at hb; omega
    go_enter Tryd.func24, Tryd.ntmps24
    go_wp2
    go_ret
    exact ⟨ret_bool (by rw [HR.out]; first | done | (simp; done) | (simp; omega)), below_alloc _ _⟩

set_option maxHeartbeats 400000 in
theorem flagOf_any (n : Int) (w : World) :
    Calls Tryd.prog 52 #[.int .i64 n] w fun e w' => e = .returned (.int .i64 (flagG n)) ∧ w = w' := by
  have hc : n = 1 ∨ n = 2 ∨ n = 3 ∨ n = 4 ∨ n = 5 ∨ n = 7 ∨ n = 8 ∨ n = 9 ∨ (¬ n = 1 ∧ ¬ n = 2 ∧ ¬ n = 3 ∧ ¬ n = 4 ∧ ¬ n = 5 ∧ ¬ n = 7 ∧ ¬ n = 8 ∧ ¬ n = 9) := by omega
  rcases hc with rfl | rfl | rfl | rfl | rfl | rfl | rfl | rfl | ⟨h1, h2, h3, h4, h5, h6, h7, h8⟩
  case inr.inr.inr.inr.inr.inr.inr.inr =>
    have HR : Hid (flagG n = 0) := by unfold Hid flagG; simp [h1, h2, h3, h4, h5, h6, h7, h8]
    have g1 : (n == 1) = false := by simp [h1]
    have g2 : (n == 2) = false := by simp [h2]
    have g3 : (n == 3) = false := by simp [h3]
    have g4 : (n == 4) = false := by simp [h4]
    have g5 : (n == 5) = false := by simp [h5]
    have g6 : (n == 7) = false := by simp [h6]
    have g7 : (n == 8) = false := by simp [h7]
    have g8 : (n == 9) = false := by simp [h8]
    clear h1 h2 h3 h4 h5 h6 h7 h8
    go_enter Tryd.func52, Tryd.ntmps52
    go_wp2
    go_ret
    exact ⟨ret_int HR.out.symm, rfl⟩
  all_goals
    go_enter Tryd.func52, Tryd.ntmps52
    go_wp2
    go_ret
    exact ⟨rfl, rfl⟩

theorem lawInt : Keyed Tryd.prog 3 := int_keyed Tryd.underlying3
theorem zeroInt (w : World) : (zeroValue 3).run Tryd.prog w = .ok (.int .i64 0) w := by kernel_rfl
abbrev kz (n : Int) : Lit := .int .i64 n
abbrev dz (n : Int) : DataW Unit := .lit (.int .i64 n)
/-- What the literal's map holds. -/
def clrD : DataW Unit := (((((((DataW.map []).put (kz 22) (dz 3)).put (kz 23) (dz 4)).put (kz 24) (dz 8)).put (kz 25) (dz 16)).put (kz 27) (dz 32)).put (kz 28) (dz 64)).put (kz 29) (dz 128)
theorem clrD_at (n : Int) : clrD.atKey (kz n) (dz 0) = dz (clrG n) := by
  have hc : n = 22 ∨ n = 23 ∨ n = 24 ∨ n = 25 ∨ n = 27 ∨ n = 28 ∨ n = 29 ∨ (¬ n = 22 ∧ ¬ n = 23 ∧ ¬ n = 24 ∧ ¬ n = 25 ∧ ¬ n = 27 ∧ ¬ n = 28 ∧ ¬ n = 29) := by omega
  rcases hc with rfl | rfl | rfl | rfl | rfl | rfl | rfl | ⟨h1, h2, h3, h4, h5, h6, h7⟩
  case inr.inr.inr.inr.inr.inr.inr =>
    unfold clrD clrG
    rw [atKey_put_other (by simp [h7]), atKey_put_other (by simp [h6]), atKey_put_other (by simp [h5]), atKey_put_other (by simp [h4]), atKey_put_other (by simp [h3]), atKey_put_other (by simp [h2]), atKey_put_other (by simp [h1])]
    simp [h1, h2, h3, h4, h5, h6, h7]
    rfl
  all_goals rfl

theorem ins_ {W : World} {b n : Nat} {D : DataW Unit} (hown : W.ownsMap Tryd.prog 3 (plainElem Tryd.prog 3) b n D) (x v : Int) (hn : n < 100) (hwx : (Lit.int .i64 x).wf = true) (hwv : (Lit.int .i64 v).wf = true) :
    ∃ W', (Instr.mapUpdate 92 (.map (some b)) (.int .i64 x) (.int .i64 v)).run Tryd.prog W = .ok () W' ∧ W'.ownsMap Tryd.prog 3 (plainElem Tryd.prog 3) b (n + 1) (D.put (kz x) (dz v)) ∧ W.grownBy W' (some b) :=
  hown.update lawInt Tryd.underlying92 (by unfold maxLen; omega) (keyOf_int_mk Tryd.underlying3 hwx) (plainElem_int Tryd.underlying3 hwv)

set_option maxRecDepth 100000 in
set_option maxHeartbeats 1000000 in
theorem cleared_any (n : Int) (w : World) (hwf : (Lit.int .i64 n).wf = true) :
    Calls Tryd.prog 53 #[.int .i64 n] w fun e w' => e = .returned (.int .i64 (clrG n)) ∧ Below w.heap.size w w' := by
  have hmm := @run_makeMap Tryd.prog
  have hkey : keyOf Tryd.prog 3 (.int .i64 n) = some (.int .i64 n) := keyOf_int_mk Tryd.underlying3 hwf
  have hbel : Below w.heap.size w (w.alloc (.map #[] 0)) := below_alloc _ _
  have hown0 : (w.alloc (.map #[] 0)).ownsMap Tryd.prog 3 (plainElem (H := Unit) Tryd.prog 3) w.heap.size 0 (.map []) := World.ownsMap_made _ _ _ _
  obtain ⟨w1, r1, o1, g1⟩ := ins_ hown0 22 3 (by decide) (by decide) (by decide)
  obtain ⟨w2, r2, o2, g2⟩ := ins_ o1 23 4 (by decide) (by decide) (by decide)
  obtain ⟨w3, r3, o3, g3⟩ := ins_ o2 24 8 (by decide) (by decide) (by decide)
  obtain ⟨w4, r4, o4, g4⟩ := ins_ o3 25 16 (by decide) (by decide) (by decide)
  obtain ⟨w5, r5, o5, g5⟩ := ins_ o4 27 32 (by decide) (by decide) (by decide)
  obtain ⟨w6, r6, o6, g6⟩ := ins_ o5 28 64 (by decide) (by decide) (by decide)
  obtain ⟨w7, r7, o7, g7⟩ := ins_ o6 29 128 (by decide) (by decide) (by decide)
  have b1 := hbel.grown g1 (by simp) (fun k hk => by cases hk; exact Nat.le_refl _)
  have b2 := b1.grown g2 b1.size (fun k hk => by cases hk; exact Nat.le_refl _)
  have b3 := b2.grown g3 b2.size (fun k hk => by cases hk; exact Nat.le_refl _)
  have b4 := b3.grown g4 b3.size (fun k hk => by cases hk; exact Nat.le_refl _)
  have b5 := b4.grown g5 b4.size (fun k hk => by cases hk; exact Nat.le_refl _)
  have b6 := b5.grown g6 b5.size (fun k hk => by cases hk; exact Nat.le_refl _)
  have b7 := b6.grown g7 b6.size (fun k hk => by cases hk; exact Nat.le_refl _)
  obtain ⟨c, r8, hat, _⟩ := o7.lookup_int lawInt Tryd.underlying92 Tryd.underlying3 (zeroInt _) hkey
  have hD : clrD.atKey (kz n) (dz 0) = .lit (.int .i64 c) := hat
  rw [clrD_at] at hD
  have hce : c = clrG n := by cases hD; rfl
  have HC := hid hce
  have HB := hid b7
  clear hkey hbel hown0 hwf hat hD hce b1 b2 b3 b4 b5 b6 b7 g1 g2 g3 g4 g5 g6 g7 o1 o2 o3 o4 o5 o6 o7
  go_enter Tryd.func53, Tryd.ntmps53
  go_wp2
  go_ret
  exact ⟨ret_int HC.out, HB.out⟩
end Go.Proofs.YtlcahkbbefcjnaaDoor
