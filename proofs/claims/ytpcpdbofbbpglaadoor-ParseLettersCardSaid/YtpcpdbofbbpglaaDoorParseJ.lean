/- Layer 5, the package: a byte in the ground, one behind what is pending, any byte. -/
import Derived.Test.YtpcpdbofbbpglaaDoorParseI
import Derived.Test.YtpcpdbofbbpglaaDoorParseN
import Derived.Lib.ConvBytes
namespace Go.Proofs.YtpcpdbofbbpglaaDoor
open Go.RowKit

/-- A byte behind a beginning, that spoils it: what is before it is spoilt. -/
theorem short_spoilt {p : ByteArray} {c : Int} (hp : p.size ≠ 0) (h : (firstG p).e = 2) (he : (firstG (p ++ byteB c)).e = 4) : firstG (p ++ byteB c) = ⟨0, (p.size : Int), 4⟩ := by
  have hz := size_append' p (byteB c)
  rw [byteB_size] at hz
  have hs : (p ++ byteB c).size ≠ 0 := by omega
  have e0 := byteAt_left p (byteB c) 0 (by omega)
  have no0 : ¬ (⟨0, 0, 2⟩ : Got).e = 4 := by show ¬ (2 : Int) = 4; decide
  have no1 : ∀ a b, ¬ (⟨a, b, 0⟩ : Got).e = 4 := fun a b => by show ¬ (0 : Int) = 4; decide
  have no2 : ∀ a b, ¬ (⟨a, b, 0⟩ : Got).e = 2 := fun a b => by show ¬ (0 : Int) = 2; decide
  have no3 : ∀ a b, ¬ (⟨a, b, 4⟩ : Got).e = 2 := fun a b => by show ¬ (4 : Int) = 2; decide
  have b0 := byteAt_bd p 0
  by_cases c1 : byteAt p 0 < 128
  · rw [firstG_one hp c1] at h; exact absurd h (no2 _ _)
  by_cases c2 : byteAt p 0 < 194 ∨ 245 ≤ byteAt p 0
  · rw [firstG_bad hp (by omega)] at h; exact absurd h (no3 _ _)
  by_cases c3 : byteAt p 0 < 224
  · rw [firstG_two hp (by omega)] at h
    rw [firstG_two hs (by omega)] at he ⊢
    by_cases d1 : 1 = p.size
    · rw [if_neg (by omega)] at he ⊢
      split at he
      · exact absurd he (no1 _ _)
      · rename_i k; rw [if_neg k, ← d1]; rfl
    · rw [if_neg d1] at h
      split at h
      · exact absurd h (no2 _ _)
      · exact absurd h (no3 _ _)
  by_cases c4 : byteAt p 0 < 240
  · rw [firstG_three hp (by omega)] at h
    rw [firstG_three hs (by omega)] at he ⊢
    by_cases d1 : 1 = p.size
    · rw [if_neg (by omega)] at he ⊢
      split at he
      · rw [if_pos (by omega)] at he; exact absurd he no0
      · rename_i k; rw [if_neg k, ← d1]; rfl
    · rw [if_neg d1] at h
      by_cases g1 : byteAt p 1 / 64 = 2 ∧ ((32 ≤ (byteAt p 0 - 224) * 64 + byteAt p 1 % 64 ∧ (byteAt p 0 - 224) * 64 + byteAt p 1 % 64 ≤ 863) ∨ 896 ≤ (byteAt p 0 - 224) * 64 + byteAt p 1 % 64)
      · rw [if_pos g1] at h
        by_cases d2 : 2 = p.size
        · rw [if_neg (by omega), e0, byteAt_left p (byteB c) 1 (by omega), if_pos g1, if_neg (by omega)] at he ⊢
          split at he
          · exact absurd he (no1 _ _)
          · rename_i k; rw [if_neg k, ← d2]; rfl
        · rw [if_neg d2] at h
          split at h
          · exact absurd h (no2 _ _)
          · exact absurd h (no3 _ _)
      · rw [if_neg g1] at h
        exact absurd h (no3 _ _)
  · rw [firstG_four hp (by omega)] at h
    rw [firstG_four hs (by omega)] at he ⊢
    by_cases d1 : 1 = p.size
    · rw [if_neg (by omega)] at he ⊢
      split at he
      · rw [if_pos (by omega)] at he; exact absurd he no0
      · rename_i k; rw [if_neg k, ← d1]; rfl
    · rw [if_neg d1] at h
      by_cases g1 : byteAt p 1 / 64 = 2 ∧ 16 ≤ (byteAt p 0 - 240) * 64 + byteAt p 1 % 64 ∧ (byteAt p 0 - 240) * 64 + byteAt p 1 % 64 ≤ 271
      · rw [if_pos g1] at h
        by_cases d2 : 2 = p.size
        · rw [if_neg (by omega), e0, byteAt_left p (byteB c) 1 (by omega), if_pos g1, if_neg (by omega)] at he ⊢
          split at he
          · rw [if_pos (by omega)] at he; exact absurd he no0
          · rename_i k; rw [if_neg k, ← d2]; rfl
        · rw [if_neg d2] at h
          by_cases g2 : byteAt p 2 / 64 = 2
          · rw [if_pos g2] at h
            by_cases d3 : 3 = p.size
            · rw [if_neg (by omega), e0, byteAt_left p (byteB c) 1 (by omega), if_pos g1, if_neg (by omega), byteAt_left p (byteB c) 2 (by omega), if_pos g2, if_neg (by omega)] at he ⊢
              split at he
              · exact absurd he (no1 _ _)
              · rename_i k; rw [if_neg k, ← d3]; rfl
            · rw [if_neg d3] at h
              split at h
              · exact absurd h (no2 _ _)
              · exact absurd h (no3 _ _)
          · rw [if_neg g2] at h
            exact absurd h (no3 _ _)
      · rw [if_neg g1] at h
        exact absurd h (no3 _ _)
/-- A letter whose first byte is from 128 on is from 128 on. -/
theorem first_high {s : ByteArray} (h : 128 ≤ byteAt s 0) (he : (firstG s).e = 0) : 128 ≤ (firstG s).r := by
  rcases firstG_cases s with ⟨r, hr, e, _, hb⟩ | ⟨e, _⟩ | ⟨n, e, _⟩
  · rw [e]
    show 128 ≤ r
    have hz := sizeOf_bd r
    have h0 := hb 0 (by omega)
    by_cases hlt : r < 128
    · have := (encB_1 hlt).2
      omega
    · omega
  · rw [e] at he; exact absurd he (by show ¬ (2 : Int) = 0; decide)
  · rw [e] at he; exact absurd he (by show ¬ (4 : Int) = 0; decide)
/-- What is pending begins with a byte from 128 on. -/
theorem short_high {p : ByteArray} (hp : p.size ≠ 0) (h : (firstG p).e = 2) : 128 ≤ byteAt p 0 := by
  by_cases c1 : byteAt p 0 < 128
  · rw [firstG_one hp c1] at h; exact absurd h (by show ¬ (0 : Int) = 2; decide)
  · omega

def TabB (B : Nat) (W : World) : Prop := Tab W ∧ 0 < B
theorem TabB.below {B : Nat} {W W' : World} (h : TabB B W) (hb : Below B W W') : TabB B W' := by
  obtain ⟨⟨t, h⟩, hl⟩ := h
  exact ⟨⟨t, (hb.block _ hl).trans h⟩, hl⟩

/-- The world behind a conversion of a text to bytes. -/
theorem bworld_below {W : World} {B : Nat} (e : TypeId) (s : ByteArray) (hb : B ≤ W.heap.size) : Below B W (Lib.bytesWorld W e s) := by
  refine ⟨?_, ?_, ?_, by rw [Lib.bytesWorld_size]; omega, fun k hk => Lib.bytesWorld_at_old W e s k (by omega)⟩
  all_goals simp only [Lib.bytesWorld, World.freeze]; split <;> rfl

set_option maxRecDepth 100000 in
set_option maxHeartbeats 2000000 in
/-- What is pending is a beginning still. -/
theorem pend_short {B R : Nat} {W : World} {p : Pa} {l : List Dn} (h : Rd B R W p l) (hT : TabB B W) (b : Int) (hz : p.pend.size ≤ 3) (he : (firstG (p.pend ++ byteB b)).e = 2) :
    Calls Tryd.prog 38 #[.pointer (some ⟨R, 0, none⟩), .int .u8 b] W (RdPost B R W { p with pend := p.pend ++ byteB b } l) := by
  have hR := h.lt
  have hB := h.base
  have hcv := one_byte W b
  have hc1 := hcv _ (.inl rfl)
  have hc2 := hcv _ (.inr rfl)
  have hw2 : Below W.heap.size W (W.alloc (.cells #[.int .u8 b] 5)).drew := (below_alloc W _).drew
  have hz1 : (byteB b).size = 1 := rfl
  have hF := first_any (p.pend ++ byteB b) (W.alloc (.cells #[.int .u8 b] 5)).drew (by rw [size_append', hz1]; unfold maxLen; omega) (hT.below (hw2.mono hB)).1
  obtain ⟨g, hg⟩ : ∃ g, firstG (p.pend ++ byteB b) = g := ⟨_, rfl⟩
  rw [hg] at hF he
  obtain ⟨r, n, e⟩ := g
  simp only at he
  subst he
  unfold Got.val at hF
  simp only at hF
  obtain ⟨A, c, dA, m, dc, hbox, _⟩ := h.cells
  have c5 : W.cell? ⟨R, 5, none⟩ = some (.string p.pend) := hbox.cell 5
  have f5 := hbox.free 5
  have HB := hid hbox
  have HF := hid hF
  have HW := hid hw2
  have HS := hid (fun w1 (hb1 : Below W.heap.size W w1) => pend_set h hb1 (p.pend ++ byteB b))
  generalize byteB b = bb at *
  have hsum : p.pend.size + bb.size ≤ 9223372036854775807 := by omega
  clear h hT hbox hcv hF hw2 hg hz
  go_enter Tryd.func38, Tryd.ntmps38
  go_wp2
  go_region
  go_wp2_with (go_at_call 19; refine HF.out.mono ?_; rintro e w1 ⟨rfl, hb1⟩; have hb2 := HW.out.trans (hb1.mono HW.out.size); have bx1 := HB.out.below hb2 hR; have d5 : w1.cell? ⟨R, 5, none⟩ = some (.string p.pend) := bx1.cell 5; have g5 := bx1.free 5; have HX := hid (HS.out _ hb2); clear bx1)
  go_end0
  exact ⟨rfl, HX.out⟩
end Go.Proofs.YtpcpdbofbbpglaaDoor
