/- The package wire: Encode; the law's cut and its known frame. -/
import Derived.Test.YthkgflghiooboaaWireC
import Derived.Test.YthkgflghiooboaaRow
namespace Go.Proofs.Ythkgflghiooboaa
open Go.RowKit

def mayB (tag : Int) (n : Nat) : Bool := decide (1 ≤ tag ∧ tag ≤ 12 ∧ n ≤ 512)
def headS (tag : Int) (n : Nat) : ByteArray := mkB [tag, (n : Int) / 256, (n : Int) % 256]
def bodyS (tag : Int) (t : ByteArray) : ByteArray := headS tag t.size ++ t
def encS (tag : Int) (t : ByteArray) : ByteArray := bodyS tag t ++ mkB [sumI (bodyS tag t) (bodyS tag t).size % 256]

theorem hcv3 (a b c : Int) (W : World) : (convert 45 9 (.slice (some ⟨W.heap.size, 0, none⟩) 3 3)).run Try.prog (W.alloc (.cells #[.int .u8 a, .int .u8 b, .int .u8 c] 5)) = .ok (.string (mkB [a, b, c])) (W.alloc (.cells #[.int .u8 a, .int .u8 b, .int .u8 c] 5)) :=
  conv_own (P := Try.prog) (src := 45) (dst := 9) (ns := [a, b, c]) Try.underlying45 Try.underlying5 Try.underlying9 (World.ownsRow_lit (e := 5) (size := 1) W #[.int .u8 a, .int .u8 b, .int .u8 c] 3 (Nat.le_refl _) (by decide) rfl)
theorem hcv1 (a : Int) (W : World) : (convert 45 9 (.slice (some ⟨W.heap.size, 0, none⟩) 1 1)).run Try.prog (W.alloc (.cells #[.int .u8 a] 5)) = .ok (.string (mkB [a])) (W.alloc (.cells #[.int .u8 a] 5)) :=
  conv_own (P := Try.prog) (src := 45) (dst := 9) (ns := [a]) Try.underlying45 Try.underlying5 Try.underlying9 (World.ownsRow_lit (e := 5) (size := 1) W #[.int .u8 a] 1 (Nat.le_refl _) (by decide) rfl)

theorem headS_size (tag : Int) (n : Nat) : (headS tag n).size = 3 := mkB_size _
theorem bodyS_size (tag : Int) (t : ByteArray) : (bodyS tag t).size = 3 + t.size := by unfold bodyS; rw [ByteArray.size_append, headS_size]

set_option maxHeartbeats 1000000 in
theorem encode_yes (tag : Int) (t : ByteArray) (w : World) (h : mayB tag t.size = true) :
    Calls Try.prog 8 #[.agg #[.int .i64 tag, .string t]] w fun e w' => e = .returned (.tuple #[.string (encS tag t), .int .i64 0]) ∧ Below w.heap.size w w' := by
  unfold mayB at h
  simp at h
  obtain ⟨h1, h2, h3⟩ := h
  have h3' : (t.size : Int) ≤ 512 := by omega
  have hu1 : IntKind.u8.wrap tag = tag := IntWalk.u8_in _ (by omega)
  have hu2 : IntKind.u8.wrap ((t.size : Int) / 256) = (t.size : Int) / 256 := IntWalk.u8_in _ (by omega)
  have hsum := fun W => sum_any (bodyS tag t) W (by rw [bodyS_size]; unfold maxLen; omega)
  obtain ⟨x, hx⟩ : ∃ x, sumI (bodyS tag t) (bodyS tag t).size % 256 = x := ⟨_, rfl⟩
  rw [hx] at hsum
  have hB : headS tag t.size ++ t = bodyS tag t := rfl
  have HE : Hid (encS tag t = bodyS tag t ++ mkB [x]) := by unfold Hid; rw [← hx]; rfl
  obtain ⟨B, hB2⟩ : ∃ B, bodyS tag t = B := ⟨_, rfl⟩
  rw [hB2] at hsum HE hB
  have hz1 : (headS tag t.size).size ≤ 3 := Nat.le_of_eq (headS_size _ _)
  have hz2 : (mkB [x]).size ≤ 1 := Nat.le_of_eq (mkB_size _)
  have hz3 : B.size ≤ 600 := by rw [← hB2, bodyS_size]; omega
  have hz4 : (headS tag t.size).size + t.size ≤ 9223372036854775807 := by omega
  have hz5 : B.size + (mkB [x]).size ≤ 9223372036854775807 := by omega
  clear hx hB2
  have hc3 : (convert 45 9 (.slice (some ⟨(w.alloc (.cells #[.int .i64 tag, .string t] 23)).heap.size, 0, none⟩) 3 3)).run Try.prog ((w.alloc (.cells #[.int .i64 tag, .string t] 23)).alloc (.cells #[.int .u8 tag, .int .u8 ((t.size : Int) / 256), .int .u8 ((t.size : Int) % 256)] 5)) = .ok (.string (headS tag t.size)) _ := hcv3 tag ((t.size : Int) / 256) ((t.size : Int) % 256) _
  have hc1 := hcv1 x ((w.alloc (.cells #[.int .i64 tag, .string t] 23)).alloc (.cells #[.int .u8 tag, .int .u8 ((t.size : Int) / 256), .int .u8 ((t.size : Int) % 256)] 5))
  simp only [World.size_alloc] at hc3 hc1
  go_enter Try.func8, Try.ntmps8
  go_wp2_with (go_at_call 17; refine (hsum _).mono ?_; rintro e w2 ⟨rfl, rfl⟩)
  go_ret2
  exact ⟨by rw [HE.out]; rfl, ((below_alloc _ _).alloc (by simp) _).alloc (by simp; omega) _⟩

set_option maxHeartbeats 1000000 in
theorem encode_no (tag : Int) (t : ByteArray) (w : World) (ht : t.size ≤ 1000000000) (h : mayB tag t.size = false) :
    Calls Try.prog 8 #[.agg #[.int .i64 tag, .string t]] w fun e w' => e = .returned (.tuple #[.string ⟨#[]⟩, .int .i64 1]) ∧ Below w.heap.size w w' := by
  unfold mayB at h
  rw [decide_eq_false_iff_not] at h
  by_cases h1 : tag < 1
  · go_enter Try.func8, Try.ntmps8
    go_wp2
    go_ret2
    exact ⟨rfl, below_alloc _ _⟩
  have h1' : 1 ≤ tag := by omega
  by_cases h2 : 12 < tag
  · go_enter Try.func8, Try.ntmps8
    go_wp2
    go_ret2
    exact ⟨rfl, below_alloc _ _⟩
  have h2' : tag ≤ 12 := by omega
  have h3 : 512 < (t.size : Int) := by omega
  go_enter Try.func8, Try.ntmps8
  go_wp2
  go_ret2
  exact ⟨rfl, below_alloc _ _⟩

/-- The law's cut: a frame's text, of at most so many bytes. -/
def cutS (t : ByteArray) : ByteArray := t.extract 0 515
theorem cutS_size (t : ByteArray) : (cutS t).size ≤ 515 := by unfold cutS; rw [size_extract']; omega
theorem cut_all {s : ByteArray} {n : Nat} (h : s.size ≤ n) : s = s.extract 0 n := by
  apply bytes_ext
  · rw [size_extract']; omega
  · intro i hi
    rw [byteAt_extract _ _ _ _ (by omega)]; congr 1; omega

set_option maxHeartbeats 1000000 in
theorem cut_any (tag : Int) (t : ByteArray) (w : World) (ht : t.size ≤ maxLen) :
    Calls Try.prog 7 #[.agg #[.int .i64 tag, .string t]] w fun e w' => e = .returned (.agg #[.int .i64 tag, .string (cutS t)]) ∧ Below w.heap.size w w' := by
  unfold maxLen at ht
  by_cases hle : t.size ≤ 515
  · have HC : Hid (t = cutS t) := cut_all hle
    have h1 : (t.size : Int) ≤ 515 := by omega
    go_enter Try.func7, Try.ntmps7
    go_wp2
    have b1 := heap_alloc_new (w.alloc (.cells #[.int .i64 tag, .string t] 23)) (.cells #[.int .i64 tag, .string t] 23)
    rw [World.size_alloc] at b1
    have c0 := cell_of_row _ _ 0 _ _ _ b1
    have c1 := cell_of_row _ _ 1 _ _ _ b1
    exact bodyPost_ret (v := .agg #[.int .i64 tag, .string t]) (by simp [results, Try.f7, go_sem, c0, c1]) rfl ⟨by rw [← HC.out], (below_alloc _ _).alloc (by simp) _⟩
  · have h1 : 515 < (t.size : Int) := by omega
    have h2 : 515 ≤ t.size := by omega
    have h3 : (515 : Int) ≤ (t.size : Int) := by omega
    go_enter Try.func7, Try.ntmps7
    go_wp2
    have b1 := heap_alloc_new (w.alloc (.cells #[.int .i64 tag, .string (t.extract 0 515)] 23)) (.cells #[.int .i64 tag, .string (t.extract 0 515)] 23)
    rw [World.size_alloc] at b1
    have c0 := cell_of_row _ _ 0 _ _ _ b1
    have c1 := cell_of_row _ _ 1 _ _ _ b1
    exact bodyPost_ret (v := .agg #[.int .i64 tag, .string (t.extract 0 515)]) (by simp [results, Try.f7, go_sem, c0, c1]) rfl ⟨rfl, (below_alloc _ _).alloc (by simp) _⟩

def encI (tag : Int) (t : ByteArray) : ByteArray := if mayB tag t.size = true then encS tag t else ⟨#[]⟩
def encE (tag : Int) (t : ByteArray) : Int := if mayB tag t.size = true then 0 else 1
theorem encode_any (tag : Int) (t : ByteArray) (w : World) (ht : t.size ≤ 1000000000) :
    Calls Try.prog 8 #[.agg #[.int .i64 tag, .string t]] w fun e w' => e = .returned (.tuple #[.string (encI tag t), .int .i64 (encE tag t)]) ∧ Below w.heap.size w w' := by
  unfold encI encE
  cases h : mayB tag t.size
  · exact encode_no tag t w ht h
  · exact encode_yes tag t w h
end Go.Proofs.Ythkgflghiooboaa
