/- Layer 5, the package: a byte behind what is pending, a byte in the ground, any byte. Made by wip/gen/parseK.py. -/
import Derived.Test.YtpcpdbofbbpglaaDoorParseJ
namespace Go.Proofs.YtpcpdbofbbpglaaDoor
open Go.RowKit

theorem same_pend {p : Pa} (h : p.pend.size = 0) : { p with pend := nilB } = p := by
  obtain ⟨p1, p2, p3, p4, p5, p6⟩ := p
  have : p6 = nilB := empty_yes h
  rw [this]

set_option maxRecDepth 100000 in
set_option maxHeartbeats 2000000 in
/-- A letter, that is printed. -/
theorem pend_print {B R : Nat} {W : World} {p : Pa} {l : List Dn} (h : Rd B R W p l) (hT : TabB B W) (hn : l.length ≤ 500000) (b : Int) (hz : p.pend.size ≤ 3) (he : (firstG (p.pend ++ byteB b)).e = 0) (hr : 160 ≤ (firstG (p.pend ++ byteB b)).r) :
    Calls Tryd.prog 38 #[.pointer (some ⟨R, 0, none⟩), .int .u8 b] W (RdPost B R W { p with pend := nilB } (l ++ [dPrint (firstG (p.pend ++ byteB b)).r])) := by
  have hR := h.lt
  have hB := h.base
  have hcv := one_byte W b
  have hc1 := hcv _ (.inl rfl)
  have hc2 := hcv _ (.inr rfl)
  have hw2 : Below W.heap.size W (W.alloc (.cells #[.int .u8 b] 5)).drew := (below_alloc W _).drew
  have hz1 : (byteB b).size = 1 := rfl
  have hF := first_any (p.pend ++ byteB b) (W.alloc (.cells #[.int .u8 b] 5)).drew (by rw [size_append', hz1]; unfold maxLen; omega) (hT.below (hw2.mono hB)).1
  obtain ⟨g, hg⟩ : ∃ g, firstG (p.pend ++ byteB b) = g := ⟨_, rfl⟩
  rw [hg] at hF he hr ⊢
  obtain ⟨r, n, e⟩ := g
  simp only at he hr ⊢
  subst he
  clear hg
  unfold Got.val at hF
  simp only at hF
  obtain ⟨A, c, dA, m, dc, hbox, _⟩ := h.cells
  have c5 : W.cell? ⟨R, 5, none⟩ = some (.string p.pend) := hbox.cell 5
  have f5 := hbox.free 5
  have HB := hid hbox
  have HF := hid hF
  have HW := hid hw2
  have HN := hid hn
  have HS := hid (fun w1 (hb1 : Below W.heap.size W w1) => pend_set h hb1 nilB)
  have hnil : nilB = ⟨#[]⟩ := rfl
  rw [hnil] at HS
  have HNIL := hid hnil
  clear hnil hn
  have hwz := size_append' p.pend (byteB b)
  generalize byteB b = bb at *
  have hsum : p.pend.size + bb.size ≤ 9223372036854775807 := by omega
  clear h hT hbox hcv hF hw2
  go_enter Tryd.func38, Tryd.ntmps38
  go_wp2
  go_region
  go_wp2_with (first | (go_at_call 19; refine HF.out.mono ?_; rintro e w1 ⟨rfl, hb1⟩; have hb2 := HW.out.trans (hb1.mono HW.out.size); have bx1 := HB.out.below hb2 hR; have d5 : w1.cell? ⟨R, 5, none⟩ = some (.string p.pend) := bx1.cell 5; have g5 := bx1.free 5; have HX := hid (HS.out _ hb2); have HP := hid (print_any HX.out.1 HN.out r); clear bx1) | (go_at_call 45; refine HP.out.mono ?_; rintro e w3 ⟨rfl, h3, h4⟩; have H3 := hid h3; clear h3))
  go_end0
  rw [HNIL.out]
  exact ⟨rfl, H3.out, HX.out.2.trans h4⟩

set_option maxRecDepth 100000 in
set_option maxHeartbeats 2000000 in
/-- A letter that is a control. -/
theorem pend_left {B R : Nat} {W : World} {p : Pa} {l : List Dn} (h : Rd B R W p l) (hT : TabB B W) (hn : l.length ≤ 500000) (b : Int) (hz : p.pend.size ≤ 3) (he : (firstG (p.pend ++ byteB b)).e = 0) (hr : (firstG (p.pend ++ byteB b)).r < 160) :
    Calls Tryd.prog 38 #[.pointer (some ⟨R, 0, none⟩), .int .u8 b] W (RdPost B R W { p with pend := nilB } l) := by
  have hR := h.lt
  have hB := h.base
  have hcv := one_byte W b
  have hc1 := hcv _ (.inl rfl)
  have hc2 := hcv _ (.inr rfl)
  have hw2 : Below W.heap.size W (W.alloc (.cells #[.int .u8 b] 5)).drew := (below_alloc W _).drew
  have hz1 : (byteB b).size = 1 := rfl
  have hF := first_any (p.pend ++ byteB b) (W.alloc (.cells #[.int .u8 b] 5)).drew (by rw [size_append', hz1]; unfold maxLen; omega) (hT.below (hw2.mono hB)).1
  obtain ⟨g, hg⟩ : ∃ g, firstG (p.pend ++ byteB b) = g := ⟨_, rfl⟩
  rw [hg] at hF he hr
  obtain ⟨r, n, e⟩ := g
  simp only at he hr
  subst he
  clear hg
  unfold Got.val at hF
  simp only at hF
  obtain ⟨A, c, dA, m, dc, hbox, _⟩ := h.cells
  have c5 : W.cell? ⟨R, 5, none⟩ = some (.string p.pend) := hbox.cell 5
  have f5 := hbox.free 5
  have HB := hid hbox
  have HF := hid hF
  have HW := hid hw2
  have HN := hid hn
  have HS := hid (fun w1 (hb1 : Below W.heap.size W w1) => pend_set h hb1 nilB)
  have hnil : nilB = ⟨#[]⟩ := rfl
  rw [hnil] at HS
  have HNIL := hid hnil
  clear hnil hn
  have hwz := size_append' p.pend (byteB b)
  generalize byteB b = bb at *
  have hsum : p.pend.size + bb.size ≤ 9223372036854775807 := by omega
  clear h hT hbox hcv hF hw2
  go_enter Tryd.func38, Tryd.ntmps38
  go_wp2
  go_region
  go_wp2_with (go_at_call 19; refine HF.out.mono ?_; rintro e w1 ⟨rfl, hb1⟩; have hb2 := HW.out.trans (hb1.mono HW.out.size); have bx1 := HB.out.below hb2 hR; have d5 : w1.cell? ⟨R, 5, none⟩ = some (.string p.pend) := bx1.cell 5; have g5 := bx1.free 5; have HX := hid (HS.out _ hb2); clear bx1)
  go_end0
  rw [HNIL.out]
  exact ⟨rfl, HX.out⟩

set_option maxRecDepth 100000 in
set_option maxHeartbeats 2000000 in
/-- Spoilt bytes, nothing behind them. -/
theorem pend_all {B R : Nat} {W : World} {p : Pa} {l : List Dn} (h : Rd B R W p l) (hT : TabB B W) (hn : l.length ≤ 500000) (b : Int) (hz : p.pend.size ≤ 3) (he : firstG (p.pend ++ byteB b) = ⟨0, ((p.pend ++ byteB b).size : Int), 4⟩) :
    Calls Tryd.prog 38 #[.pointer (some ⟨R, 0, none⟩), .int .u8 b] W (RdPost B R W { p with pend := nilB } (l ++ [dPrint 65533])) := by
  have hR := h.lt
  have hB := h.base
  have hcv := one_byte W b
  have hc1 := hcv _ (.inl rfl)
  have hc2 := hcv _ (.inr rfl)
  have hw2 : Below W.heap.size W (W.alloc (.cells #[.int .u8 b] 5)).drew := (below_alloc W _).drew
  have hz1 : (byteB b).size = 1 := rfl
  have hF := first_any (p.pend ++ byteB b) (W.alloc (.cells #[.int .u8 b] 5)).drew (by rw [size_append', hz1]; unfold maxLen; omega) (hT.below (hw2.mono hB)).1
  obtain ⟨g, hg⟩ : ∃ g, firstG (p.pend ++ byteB b) = g := ⟨_, rfl⟩
  rw [he] at hg
  subst hg
  rw [he] at hF
  unfold Got.val at hF
  simp only at hF
  obtain ⟨A, c, dA, m, dc, hbox, _⟩ := h.cells
  have c5 : W.cell? ⟨R, 5, none⟩ = some (.string p.pend) := hbox.cell 5
  have f5 := hbox.free 5
  have HB := hid hbox
  have HF := hid hF
  have HW := hid hw2
  have HN := hid hn
  have HS := hid (fun w1 (hb1 : Below W.heap.size W w1) => pend_set h hb1 nilB)
  have hnil : nilB = ⟨#[]⟩ := rfl
  rw [hnil] at HS
  have HNIL := hid hnil
  clear hnil hn
  have hwz := size_append' p.pend (byteB b)
  clear he
  generalize byteB b = bb at *
  obtain ⟨s, hs⟩ : ∃ s, p.pend ++ bb = s := ⟨_, rfl⟩
  rw [hs] at HF
  have hsum : p.pend.size + bb.size ≤ 9223372036854775807 := by omega
  clear h hT hbox hcv hF hw2
  go_enter Tryd.func38, Tryd.ntmps38
  go_wp2
  go_region
  have hcv0 := fun W => Lib.run_convert_string_bytes (P := Tryd.prog) W 9 42 5 ByteArray.empty Tryd.underlying9 Tryd.underlying42 Tryd.underlying5
  have hes : ByteArray.empty.size = 0 := rfl
  rw [hes] at hcv0
  clear hes
  go_wp2_with (first | (go_at_call 19; refine HF.out.mono ?_; rintro e w1 ⟨rfl, hb1⟩; have hb2 := HW.out.trans (hb1.mono HW.out.size); have bx1 := HB.out.below hb2 hR; have d5 : w1.cell? ⟨R, 5, none⟩ = some (.string p.pend) := bx1.cell 5; have g5 := bx1.free 5; have HX := hid (HS.out _ hb2); have HP := hid (print_any HX.out.1 HN.out 65533); clear bx1) | (go_at_call 45; refine HP.out.mono ?_; rintro e w3 ⟨rfl, h3, h4⟩; skip))
  have hB3 := h3.base
  have hb5 := bworld_below (W := w3) 5 ByteArray.empty (Nat.le_refl _)
  have h5 := h3.below hb5
  have H5 := hid h5
  have hb6 := (HX.out.2.trans h4).trans (hb5.mono hB3)
  clear h3 h5 hb5 hcv0
  generalize Lib.bytesWorld w3 5 ByteArray.empty = w5 at *
  go_loopw [50] (fun i wr => i = .int .i64 0 ∧ wr = w5) (fun _ _ => 0)
  case atStart => exact ⟨rfl, rfl⟩
  case round =>
    obtain ⟨rfl, rfl⟩ := hrel
    go_wp2
    go_end0
    rw [HNIL.out]
    exact ⟨rfl, H5.out, hb6⟩

set_option maxRecDepth 100000 in
set_option maxHeartbeats 2000000 in
/-- Spoilt bytes, and the byte behind them, which is taken anew. -/
theorem pend_more {B R : Nat} {W : World} {p : Pa} {l : List Dn} (h : Rd B R W p l) (hT : TabB B W) (hn : l.length ≤ 500000) (b : Int) (hz : p.pend.size ≤ 3) (he : firstG (p.pend ++ byteB b) = ⟨0, (p.pend.size : Int), 4⟩) {q : Pa} {l2 : List Dn} (hb : 0 ≤ b ∧ b ≤ 255) (ht : ∀ W1, Rd B R W1 { p with pend := nilB } (l ++ [dPrint 65533]) → TabB B W1 → Calls Tryd.prog 18 #[.pointer (some ⟨R, 0, none⟩), .int .u8 b] W1 (RdPost B R W1 q l2)) :
    Calls Tryd.prog 38 #[.pointer (some ⟨R, 0, none⟩), .int .u8 b] W (RdPost B R W q l2) := by
  have hR := h.lt
  have hB := h.base
  have hcv := one_byte W b
  have hc1 := hcv _ (.inl rfl)
  have hc2 := hcv _ (.inr rfl)
  have hw2 : Below W.heap.size W (W.alloc (.cells #[.int .u8 b] 5)).drew := (below_alloc W _).drew
  have hz1 : (byteB b).size = 1 := rfl
  have hF := first_any (p.pend ++ byteB b) (W.alloc (.cells #[.int .u8 b] 5)).drew (by rw [size_append', hz1]; unfold maxLen; omega) (hT.below (hw2.mono hB)).1
  obtain ⟨g, hg⟩ : ∃ g, firstG (p.pend ++ byteB b) = g := ⟨_, rfl⟩
  rw [he] at hg
  subst hg
  rw [he] at hF
  have HT := hid ht
  have HTB := hid hT
  clear ht
  unfold Got.val at hF
  simp only at hF
  obtain ⟨A, c, dA, m, dc, hbox, _⟩ := h.cells
  have c5 : W.cell? ⟨R, 5, none⟩ = some (.string p.pend) := hbox.cell 5
  have f5 := hbox.free 5
  have HB := hid hbox
  have HF := hid hF
  have HW := hid hw2
  have HN := hid hn
  have HS := hid (fun w1 (hb1 : Below W.heap.size W w1) => pend_set h hb1 nilB)
  have hnil : nilB = ⟨#[]⟩ := rfl
  rw [hnil] at HS
  have HNIL := hid hnil
  clear hnil hn
  have hwz := size_append' p.pend (byteB b)
  clear he
  have hbat := byteB_at hb
  generalize byteB b = bb at *
  obtain ⟨k, hk⟩ : ∃ k, p.pend.size = k := ⟨_, rfl⟩
  obtain ⟨s, hs⟩ : ∃ s, p.pend ++ bb = s := ⟨_, rfl⟩
  have hks : k ≤ s.size := by rw [← hs]; omega
  have hex : s.extract k s.size = bb := by
    rw [← hs, ← hk]
    apply bytes_ext
    · rw [size_extract', size_append']; omega
    · intro i hi
      rw [size_extract', size_append'] at hi
      rw [byteAt_extract _ _ _ _ (by rw [size_append']; omega), byteAt_right _ _ _ (by omega)]
  have hcv1 := fun W => Lib.run_convert_string_bytes (P := Tryd.prog) W 9 42 5 (s.extract k s.size) Tryd.underlying9 Tryd.underlying42 Tryd.underlying5
  have hez : (s.extract k s.size).size = 1 := by rw [hex]; exact hz1
  rw [hez] at hcv1
  have HCELL := hid (fun W => Lib.bytesWorld_cell W 5 (s.extract k s.size) 0 (by omega))
  have hd : ((s.extract k s.size).data.toList.getD 0 0).toNat = b := by
    rw [hex]
    have h0 : 0 < bb.size := by omega
    rw [← byteAt_eq h0] at hbat
    have h1 : bb.data.toList.getD 0 0 = bb[0] := by
      rw [List.getD_eq_getElem?_getD, Array.getElem?_toList]
      have : bb.data[0]? = some bb[0] := Array.getElem?_eq_getElem h0
      rw [this]
      rfl
    rw [h1]
    exact hbat
  rw [hd] at HCELL
  rw [hs, hk] at HF
  have hkI : (k : Int) ≤ s.size := by omega
  have hpz : p.pend.size ≤ 3 := hz
  clear hd hex hez hbat hk
  have hsum : p.pend.size + bb.size ≤ 9223372036854775807 := by omega
  clear h hT hbox hcv hF hw2
  go_enter Tryd.func38, Tryd.ntmps38
  go_wp2
  go_region
  go_wp2_with (first | (go_at_call 19; refine HF.out.mono ?_; rintro e w1 ⟨rfl, hb1⟩; have hb2 := HW.out.trans (hb1.mono HW.out.size); have bx1 := HB.out.below hb2 hR; have d5 : w1.cell? ⟨R, 5, none⟩ = some (.string p.pend) := bx1.cell 5; have g5 := bx1.free 5; have HX := hid (HS.out _ hb2); have HP := hid (print_any HX.out.1 HN.out 65533); clear bx1) | (go_at_call 45; refine HP.out.mono ?_; rintro e w3 ⟨rfl, h3, h4⟩; skip))
  have hB3 := h3.base
  have hb5 := bworld_below (W := w3) 5 (s.extract k s.size) (Nat.le_refl _)
  have h5 := h3.below hb5
  have HC := HCELL.out w3
  have HRD := hid h5
  have HBE := hid ((HX.out.2.trans h4).trans (hb5.mono hB3))
  have hsz5 : w3.heap.size < (Lib.bytesWorld w3 5 (s.extract k s.size)).heap.size := by rw [Lib.bytesWorld_size]; omega
  clear h3 h5 hb5
  generalize Lib.bytesWorld w3 5 (s.extract k s.size) = w5 at *
  go_loopw [50] (fun i wr => (i = .int .i64 0 ∧ wr = w5) ∨ (i = .int .i64 1 ∧ Rd B R wr q l2 ∧ Below B W wr)) (fun i _ => 1 - (intOf i).toNat)
  case atStart => exact .inl ⟨rfl, rfl⟩
  case round =>
    rcases hrel with ⟨rfl, rfl⟩ | ⟨rfl, hr, hbr⟩
    · have HT1 := hid (HT.out _ HRD.out (HTB.out.below HBE.out))
      clear hcv1
      go_wp2_with (go_at_call 18; refine HT1.out.mono ?_; rintro e w6 ⟨rfl, h6, h7⟩)
      go_roundw
      case rel => exact .inr ⟨rfl, h6, HBE.out.trans h7⟩
      case measure => simp [intOf]
    · have HR := hid hr
      clear hr hcv1
      go_wp2
      go_end0
      exact ⟨rfl, HR.out, hbr⟩

end Go.Proofs.YtpcpdbofbbpglaaDoor
