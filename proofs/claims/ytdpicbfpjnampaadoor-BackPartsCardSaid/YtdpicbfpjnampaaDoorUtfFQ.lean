/- Plain: a letter's bytes ahead of any others. -/
import Derived.Test.YtdpicbfpjnampaaDoorUtfNQ
namespace Go.Proofs.YtdpicbfpjnampaaDoor
open Go.RowKit

theorem firstG_in (s : ByteArray) : 0 ≤ (firstG s).n ∧ (firstG s).n.toNat ≤ s.size ∧ ((firstG s).e = 0 → 1 ≤ (firstG s).n.toNat) := by
  rcases firstG_cases s with ⟨r, _, h, hs, _⟩ | ⟨h, _⟩ | ⟨n, h, h1, h2, h3⟩
  · have := sizeOf_bd r
    rw [h]
    simp only [Int.toNat_natCast]
    omega
  · rw [h]
    simp
  · rw [h]
    simp only [Int.toNat_natCast]
    omega
theorem first_front {r : Int} (hr : letterB r = true) (s : ByteArray) : firstG (Utf8.encode r ++ s) = ⟨r, sizeOf r, 0⟩ := by
  obtain ⟨hz, hb⟩ := enc_bytes hr
  exact firstG_enc hr (by rw [size_append', hz]; omega) (fun i hi => by rw [byteAt_left _ _ _ (by omega)]; exact hb i hi)
theorem rest_front {r : Int} (hr : letterB r = true) (s : ByteArray) : (Utf8.encode r ++ s).extract (sizeOf r) (Utf8.encode r ++ s).size = s := by
  obtain ⟨hz, _⟩ := enc_bytes hr
  apply bytes_ext
  · rw [size_extract', size_append', hz]; omega
  · intro i hi
    rw [size_extract', size_append', hz] at hi
    rw [byteAt_extract _ _ _ _ (by rw [size_append', hz]; omega), ← hz, byteAt_right _ _ _ (by omega)]
theorem enc_pos {r : Int} (hr : letterB r = true) : (Utf8.encode r).size ≠ 0 := by
  have := (enc_bytes hr).1
  have := sizeOf_bd r
  omega
end Go.Proofs.YtdpicbfpjnampaaDoor
