/- Layer 3, the package: a text's beginning, the letter key that stands first, what a sequence holds. -/
import Derived.Test.YteebbmmgbjpihaaDoorKeysMQ
import Derived.Deep.RegionWith
namespace Go.Proofs.YteebbmmgbjpihaaDoor
open Go.RowKit

theorem beq_str {s t : ByteArray} : (s.toList == t.toList) = decide (s = t) := by
  rw [ByteArray.toList_eq, ByteArray.toList_eq, Bool.eq_iff_iff]
  simp only [beq_iff_eq, decide_eq_true_eq]
  exact ⟨fun h => ByteArray.ext (Array.toList_inj.1 h), fun h => by rw [h]⟩

set_option maxHeartbeats 400000 in
theorem lpre_any (s p : ByteArray) (w : World) (_ : s.size ≤ 1000000) (_ : p.size ≤ 1000000) :
    Calls Tryd.prog 45 #[.string s, .string p] w fun e w' => e = .returned (.bool (pre s p)) ∧ w = w' := by
  by_cases h : p.size ≤ s.size
  · by_cases h2 : s.extract 0 p.size = p
    · have HR : Hid (pre s p = true) := by unfold Hid pre; exact decide_eq_true ⟨h, h2⟩
      have HE : (s.extract 0 p.size).toList == p.toList := by rw [h2]; simp
      clear h2
      go_enter Tryd.func45, Tryd.ntmps45
      go_wp2
      go_ret
      exact ⟨ret_bool (by rw [HR.out]), rfl⟩
    · have HR : Hid (pre s p = false) := by unfold Hid pre; exact decide_eq_false (fun e => h2 e.2)
      have HE : ((s.extract 0 p.size).toList == p.toList) = false := by rw [beq_str]; exact decide_eq_false h2
      clear h2
      go_enter Tryd.func45, Tryd.ntmps45
      go_wp2
      go_ret
      exact ⟨ret_bool (by rw [HR.out]), rfl⟩
  · have HR : Hid (pre s p = false) := by unfold Hid pre; exact decide_eq_false (fun e => h e.1)
    go_enter Tryd.func45, Tryd.ntmps45
    go_wp2
    go_ret
    exact ⟨ret_bool (by rw [HR.out]), rfl⟩
theorem pre_any (s p : ByteArray) (w : World) (hs : s.size ≤ 1000000) (hp : p.size ≤ 1000000) :
    Calls Tryd.prog 37 #[.string s, .string p] w fun e w' => e = .returned (.bool (pre s p)) ∧ w = w' := by
  have h := lpre_any s p w hs hp
  generalize pre s p = x at *
  go_enter Tryd.func37, Tryd.ntmps37
  go_wp2_with (go_at_call 45; refine h.mono ?_; rintro e w2 ⟨rfl, rfl⟩)
  go_ret
  exact ⟨rfl, rfl⟩

/-- A letter key that may be one behind M-. -/
def metaB (l : ByteArray) : Bool := decide (l ≠ ⟨#[91]⟩ ∧ l ≠ ⟨#[79]⟩)
end Go.Proofs.YteebbmmgbjpihaaDoor
