/- Layer 4, the package: which looks may be, flags that are set and cleared, colours' rows. -/
import Derived.Test.YteebbmmgbjpihaaDoorCellIQ
import Derived.Test.YteebbmmgbjpihaaDoorBlkQ
import Derived.Maps.OwnOps
import Derived.Maps.Views
import Derived.Deep.RegionWith
import Derived.DataElems
namespace Go.Proofs.YteebbmmgbjpihaaDoor
open Go.RowKit Go.Maps

set_option maxHeartbeats 400000 in
theorem pLook_any (a : At) (w : World) :
    Calls Tryd.prog 87 #[a.agg] w fun e w' => e = .returned (.bool (lookB a)) ∧ Below w.heap.size w w' := by
  obtain ⟨fg, bg, fl⟩ := a
  have hc : (0 ≤ fg ∧ fg ≤ 256 ∧ 0 ≤ bg ∧ bg ≤ 256 ∧ 0 ≤ fl ∧ fl ≤ 255) ∨ (fg < 0) ∨ (0 ≤ fg ∧ 256 < fg) ∨ (0 ≤ fg ∧ fg ≤ 256 ∧ bg < 0) ∨ (0 ≤ fg ∧ fg ≤ 256 ∧ 0 ≤ bg ∧ 256 < bg) ∨ (0 ≤ fg ∧ fg ≤ 256 ∧ 0 ≤ bg ∧ bg ≤ 256 ∧ fl < 0) ∨ (0 ≤ fg ∧ fg ≤ 256 ∧ 0 ≤ bg ∧ bg ≤ 256 ∧ 0 ≤ fl ∧ 255 < fl) := by omega
  unfold At.agg
  rcases hc with ⟨h1, h2, h3, h4, h5, h6⟩ | h1 | ⟨h1, h2⟩ | ⟨h1, h2, h3⟩ | ⟨h1, h2, h3, h4⟩ | ⟨h1, h2, h3, h4, h5⟩ | ⟨h1, h2, h3, h4, h5, h6⟩
  · have HR : Hid (lookB ⟨fg, bg, fl⟩ = true) := by unfold Hid; rw [look_iff]; exact ⟨⟨h1, h2⟩, ⟨h3, h4⟩, h5, h6⟩
    go_enter Tryd.func87, Tryd.ntmps87
    go_wp2
    go_ret
    exact ⟨ret_bool (by rw [HR.out]; first | done | (simp; done) | (simp; omega)), below_alloc _ _⟩
  all_goals
    have HR : Hid (lookB ⟨fg, bg, fl⟩ = false) := by
      unfold Hid
      cases hb : lookB ⟨fg, bg, fl⟩
      · rfl
      · rw [look_iff] at hb; simp only at hb; omega
    go_enter Tryd.func87, Tryd.ntmps87
    go_wp2
    go_ret
    exact ⟨ret_bool (by rw [HR.out]; first | done | (simp; done) | (simp; omega)), below_alloc _ _⟩

theorem lawInt : Keyed Tryd.prog 3 := int_keyed Tryd.underlying3
theorem zeroInt (w : World) : (zeroValue 3).run Tryd.prog w = .ok (.int .i64 0) w := by kernel_rfl
abbrev kz (n : Int) : Lit := .int .i64 n
abbrev dz (n : Int) : DataW Unit := .lit (.int .i64 n)
/-- What the literal's map holds. -/
def clrD : DataW Unit := (((((((DataW.map []).put (kz 22) (dz 3)).put (kz 23) (dz 4)).put (kz 24) (dz 8)).put (kz 25) (dz 16)).put (kz 27) (dz 32)).put (kz 28) (dz 64)).put (kz 29) (dz 128)
theorem clrD_at (n : Int) : clrD.atKey (kz n) (dz 0) = dz (clrG n) := by
  have hc : n = 22 ∨ n = 23 ∨ n = 24 ∨ n = 25 ∨ n = 27 ∨ n = 28 ∨ n = 29 ∨ (¬ n = 22 ∧ ¬ n = 23 ∧ ¬ n = 24 ∧ ¬ n = 25 ∧ ¬ n = 27 ∧ ¬ n = 28 ∧ ¬ n = 29) := by omega
  rcases hc with rfl | rfl | rfl | rfl | rfl | rfl | rfl | ⟨h1, h2, h3, h4, h5, h6, h7⟩
  case inr.inr.inr.inr.inr.inr.inr =>
    unfold clrD clrG
    rw [atKey_put_other (by simp [h7]), atKey_put_other (by simp [h6]), atKey_put_other (by simp [h5]), atKey_put_other (by simp [h4]), atKey_put_other (by simp [h3]), atKey_put_other (by simp [h2]), atKey_put_other (by simp [h1])]
    simp [h1, h2, h3, h4, h5, h6, h7]
    rfl
  all_goals rfl

end Go.Proofs.YteebbmmgbjpihaaDoor
