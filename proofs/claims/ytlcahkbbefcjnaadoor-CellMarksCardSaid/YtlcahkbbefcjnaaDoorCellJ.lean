/- The law CellMarks, walked. -/
import Derived.Test.YtlcahkbbefcjnaaDoorCellH
import Derived.Test.YtlcahkbbefcjnaaDoorCellS
import Derived.Lib.QuietBelow
namespace Go.Proofs.YtlcahkbbefcjnaaDoor
open Go.RowKit

theorem right_enc {r : Int} {fg bg fl : Int} (h : 1 ≤ widthI r) (hl : lookB ⟨fg, bg, fl⟩ = true) (t : ByteArray) (k : Nat) (hp : partsG t = (widthI r, k)) (ht : t.size ≠ 0) : rightB ⟨t, widthI r, fg, bg, fl⟩ = true := by
  unfold rightB
  show (lookB ⟨fg, bg, fl⟩ && _) = true
  rw [hl, Bool.true_and, if_neg ht]
  simp only
  rw [hp]
  exact decide_eq_true ⟨by show 0 < widthI r; omega, rfl⟩
theorem enc_le {r : Int} (h : 0 ≤ widthI r) : (Utf8.encode r).size ≤ 4 ∧ 1 ≤ (Utf8.encode r).size := by
  have hl := width_letter h
  have := sizeOf_bd r
  have := (enc_bytes hl).1
  omega
theorem zero_eq (W : World) : (binOp .eql 32 (.agg #[.string ⟨#[]⟩, .int .i64 0, .int .i64 0, .int .i64 0, .int .i64 0]) (.agg #[.string ⟨#[]⟩, .int .i64 0, .int .i64 0, .int .i64 0, .int .i64 0])).run Tryd.prog W = .ok (.bool true) W := by kernel_rfl
theorem front_cut (a b : ByteArray) : (a ++ b).extract 0 a.size = a := by
  apply bytes_ext
  · rw [size_extract', size_append']; omega
  · intro i hi
    rw [size_extract', size_append'] at hi
    rw [byteAt_extract _ _ _ _ (by rw [size_append']; omega), Nat.zero_add, byteAt_left _ _ _ (by omega)]

set_option maxRecDepth 100000 in
set_option maxHeartbeats 1000000 in
theorem cmarks_no (r m n k : Int) (a : At) (w : World) (h : widthI r < 1 ∨ lookB a = false) (hT : Tab w) (hW : TabW w) :
    Calls Tryd.prog 5 #[.int .i32 r, .int .i32 m, .int .i32 n, .int .i32 k, a.agg] w fun e w' => e = .returned (.bool true) ∧ Below w.heap.size w w' := by
  have hof := fun W (hb : Below w.heap.size w W) => of_no r a W h (hT.below hb) (hW.below hb)
  obtain ⟨fg, bg, fl⟩ := a
  unfold CePost Ce.zero Ce.agg Ce.cells At.agg at hof
  unfold At.agg
  simp only at hof ⊢
  have hal := alive4_any
  have hz := zero_eq
  have hbx := Box.new w 30 #[.int .i64 fg, .int .i64 bg, .int .i64 fl]
  have n0 := below_alloc w (.cells #[.int .i64 fg, .int .i64 bg, .int .i64 fl] 30)
  have HX := hid hbx
  clear hbx h
  go_enter Tryd.func5, Tryd.ntmps5
  go_upto_region 2 with (go_at_call 10; refine (hof _ n0).mono ?_; rintro e w1 ⟨rfl, hb1⟩)
  have n1 := (n0.trans (hb1.mono n0.size)).alloc (Nat.le_trans n0.size hb1.size) (.cells #[.string ⟨#[]⟩, .int .i64 0, .int .i64 0, .int .i64 0, .int .i64 0] 32)
  have dc := Box.new w1 32 #[.string ⟨#[]⟩, .int .i64 0, .int .i64 0, .int .i64 0, .int .i64 0]
  generalize w1.alloc (.cells #[.string ⟨#[]⟩, .int .i64 0, .int .i64 0, .int .i64 0, .int .i64 0] 32) = W1 at *
  generalize w1.heap.size = N1 at *
  clear hof hb1 n0 HX
  go_wp2_with (go_at_call 16; refine (hal _).mono ?_; rintro e w2 ⟨rfl, hb2⟩; obtain ⟨⟨c0, c1, c2, c3, c4⟩, f0, f1, f2, f3, f4⟩ := (dc.below hb2 dc.lt).five)
  go_ret
  exact ⟨rfl, n1.trans (hb2.mono n1.size)⟩

set_option maxRecDepth 100000 in
set_option maxHeartbeats 4000000 in
theorem cmarks_m (r m n k : Int) (a : At) (w : World) (hr : 1 ≤ widthI r) (hl : lookB a = true) (hm : widthI m ≠ 0) (hT : Tab w) (hW : TabW w) :
    Calls Tryd.prog 5 #[.int .i32 r, .int .i32 m, .int .i32 n, .int .i32 k, a.agg] w fun e w' => e = .returned (.bool true) ∧ Below w.heap.size w w' := by
  obtain ⟨fg, bg, fl⟩ := a
  have hof := fun W (hb : Below w.heap.size w W) => of_yes r ⟨fg, bg, fl⟩ W hr hl (hT.below hb) (hW.below hb)
  have hbl := blank_any ⟨fg, bg, fl⟩
  have hmb := fun W (hb : Below w.heap.size w W) => mark_no ⟨⟨#[]⟩, 1, 0, bg, 0⟩ m W (by show (⟨#[]⟩ : ByteArray).size ≤ 1000; decide) (.inr (.inl rfl)) (hT.below hb) (hW.below hb)
  have er := enc_le (r := r) (by omega)
  have p0 := parts_0 hr
  have g0 := right_enc hr hl (Utf8.encode r) 0 p0 (by omega)
  have hr0 := fun W (hb : Below w.heap.size w W) => right_any ⟨Utf8.encode r, widthI r, fg, bg, fl⟩ W (by unfold maxLen; show (Utf8.encode r).size ≤ _; omega) (hT.below hb) (hW.below hb)
  rw [g0] at hr0
  have hm1 := fun W (hb : Below w.heap.size w W) => mark_no ⟨Utf8.encode r, widthI r, fg, bg, fl⟩ m W (by show (Utf8.encode r).size ≤ _; omega) (.inr (.inr hm)) (hT.below hb) (hW.below hb)
  simp only [CePost, Ce.zero, Ce.agg, Ce.cells, At.agg] at hof hmb hm1 hbl hr0 ⊢
  generalize Utf8.encode r = X0 at *
  generalize widthI r = V at *
  clear er p0 g0 hr hl hm
  have hal := alive4_any
  have hbx := Box.new w 30 #[.int .i64 fg, .int .i64 bg, .int .i64 fl]
  have n0 := below_alloc w (.cells #[.int .i64 fg, .int .i64 bg, .int .i64 fl] 30)
  have HX := hid hbx
  clear hbx
  go_enter Tryd.func5, Tryd.ntmps5
  go_upto_region 2 with (go_at_call 10; refine (hof _ n0).mono ?_; rintro e w1 ⟨rfl, hb1⟩)
  have d0 := HX.out
  have n1 := (n0.trans (hb1.mono n0.size)).alloc (Nat.le_trans n0.size hb1.size) (.cells #[.string X0, .int .i64 V, .int .i64 fg, .int .i64 bg, .int .i64 fl] 32)
  have d0 := (d0.below hb1 d0.lt).alloc (.cells #[.string X0, .int .i64 V, .int .i64 fg, .int .i64 bg, .int .i64 fl] 32)
  have d1 := Box.new w1 32 #[.string X0, .int .i64 V, .int .i64 fg, .int .i64 bg, .int .i64 fl]
  generalize w1.alloc (.cells #[.string X0, .int .i64 V, .int .i64 fg, .int .i64 bg, .int .i64 fl] 32) = W1 at *
  generalize w1.heap.size = N1 at *
  clear hb1
  obtain ⟨⟨a0, a1, a2⟩, af0, af1, af2⟩ := d0.three
  have hd0 := d0.lt
  go_upto_region 5 with (first | (go_at_call 14; refine (hbl _).mono ?_; rintro e w2' ⟨rfl, hb2'⟩; have n2' := n1.trans (hb2'.mono n1.size)) | (go_at_call 11; refine (hmb _ n2').mono ?_; rintro e w2 ⟨rfl, hb2''⟩; have hb2 := hb2'.trans (hb2''.mono hb2'.size)))
  clear hb2' hb2'' n2' hd0 a0 a1 a2 af0 af1 af2 d0
  have n2 := (n1.trans (hb2.mono n1.size)).alloc (Nat.le_trans n1.size hb2.size) (.cells #[.string ⟨#[]⟩, .int .i64 0, .int .i64 0, .int .i64 0, .int .i64 0] 32)
  have d1 := (d1.below hb2 d1.lt).alloc (.cells #[.string ⟨#[]⟩, .int .i64 0, .int .i64 0, .int .i64 0, .int .i64 0] 32)
  have d2 := Box.new w2 32 #[.string ⟨#[]⟩, .int .i64 0, .int .i64 0, .int .i64 0, .int .i64 0]
  generalize w2.alloc (.cells #[.string ⟨#[]⟩, .int .i64 0, .int .i64 0, .int .i64 0, .int .i64 0] 32) = W2 at *
  generalize w2.heap.size = N2 at *
  clear hb2
  obtain ⟨⟨c0, c1, c2, c3, c4⟩, cf0, cf1, cf2, cf3, cf4⟩ := d1.five
  go_upto_region 6 with (go_at_call 11; refine (hm1 _ n2).mono ?_; rintro e w3 ⟨rfl, hb3⟩)
  clear c0 c1 c2 c3 c4 cf0 cf1 cf2 cf3 cf4
  have n3 := (n2.trans (hb3.mono n2.size)).alloc (Nat.le_trans n2.size hb3.size) (.cells #[.string ⟨#[]⟩, .int .i64 0, .int .i64 0, .int .i64 0, .int .i64 0] 32)
  have d1 := (d1.below hb3 d1.lt).alloc (.cells #[.string ⟨#[]⟩, .int .i64 0, .int .i64 0, .int .i64 0, .int .i64 0] 32)
  have d3 := Box.new w3 32 #[.string ⟨#[]⟩, .int .i64 0, .int .i64 0, .int .i64 0, .int .i64 0]
  generalize w3.alloc (.cells #[.string ⟨#[]⟩, .int .i64 0, .int .i64 0, .int .i64 0, .int .i64 0] 32) = W3 at *
  generalize w3.heap.size = N3 at *
  clear hb3
  obtain ⟨⟨c0, c1, c2, c3, c4⟩, cf0, cf1, cf2, cf3, cf4⟩ := d1.five
  go_upto_region 8 with (first | (go_at_call 12; refine (hr0 _ n3).mono ?_; rintro e w4 ⟨rfl, hb4⟩) | (go_at_call 16; refine (hal _).mono ?_; rintro e w5 ⟨rfl, hb5⟩))
  have n5 := (n3.trans (hb4.mono n3.size)).trans (hb5.mono (Nat.le_trans n3.size hb4.size))
  clear c0 c1 c2 c3 c4 cf0 cf1 cf2 cf3 cf4
  go_wp2
  go_ret
  exact ⟨rfl, n5⟩

set_option maxRecDepth 100000 in
set_option maxHeartbeats 4000000 in
theorem cmarks_n (r m n k : Int) (a : At) (w : World) (hr : 1 ≤ widthI r) (hl : lookB a = true) (hm : widthI m = 0) (hn : widthI n ≠ 0) (hT : Tab w) (hW : TabW w) :
    Calls Tryd.prog 5 #[.int .i32 r, .int .i32 m, .int .i32 n, .int .i32 k, a.agg] w fun e w' => e = .returned (.bool true) ∧ Below w.heap.size w w' := by
  obtain ⟨fg, bg, fl⟩ := a
  have hof := fun W (hb : Below w.heap.size w W) => of_yes r ⟨fg, bg, fl⟩ W hr hl (hT.below hb) (hW.below hb)
  have hbl := blank_any ⟨fg, bg, fl⟩
  have hmb := fun W (hb : Below w.heap.size w W) => mark_no ⟨⟨#[]⟩, 1, 0, bg, 0⟩ m W (by show (⟨#[]⟩ : ByteArray).size ≤ 1000; decide) (.inr (.inl rfl)) (hT.below hb) (hW.below hb)
  have er := enc_le (r := r) (by omega)
  have p0 := parts_0 hr
  have g0 := right_enc hr hl (Utf8.encode r) 0 p0 (by omega)
  have hr0 := fun W (hb : Below w.heap.size w W) => right_any ⟨Utf8.encode r, widthI r, fg, bg, fl⟩ W (by unfold maxLen; show (Utf8.encode r).size ≤ _; omega) (hT.below hb) (hW.below hb)
  rw [g0] at hr0
  have hm1 := fun W (hb : Below w.heap.size w W) => mark_yes ⟨Utf8.encode r, widthI r, fg, bg, fl⟩ m W (by show (Utf8.encode r).size ≤ _; omega) g0 (by show (Utf8.encode r).size ≠ 0; omega) hm (by show (partsG (Utf8.encode r)).2 ≠ 2; rw [p0]; simp) (hT.below hb) (hW.below hb)
  have em := enc_le (r := m) (by omega)
  have p1 := parts_1 hr hm
  have z1 : (Utf8.encode r ++ Utf8.encode m).size = (Utf8.encode r).size + (Utf8.encode m).size := size_append' _ _
  have g1 := right_enc hr hl (Utf8.encode r ++ Utf8.encode m) 1 p1 (by omega)
  have hm2 := fun W (hb : Below w.heap.size w W) => mark_no ⟨Utf8.encode r ++ Utf8.encode m, widthI r, fg, bg, fl⟩ n W (by show (Utf8.encode r ++ Utf8.encode m).size ≤ _; omega) (.inr (.inr hn)) (hT.below hb) (hW.below hb)
  simp only [CePost, Ce.zero, Ce.agg, Ce.cells, At.agg] at hof hmb hm1 hm2 hbl hr0 ⊢
  generalize Utf8.encode r ++ Utf8.encode m = X1 at *
  generalize Utf8.encode r = X0 at *
  generalize widthI r = V at *
  clear er p0 g0 hr hl hm em p1 z1 g1 hn
  have hal := alive4_any
  have hbx := Box.new w 30 #[.int .i64 fg, .int .i64 bg, .int .i64 fl]
  have n0 := below_alloc w (.cells #[.int .i64 fg, .int .i64 bg, .int .i64 fl] 30)
  have HX := hid hbx
  clear hbx
  go_enter Tryd.func5, Tryd.ntmps5
  go_upto_region 2 with (go_at_call 10; refine (hof _ n0).mono ?_; rintro e w1 ⟨rfl, hb1⟩)
  have d0 := HX.out
  have n1 := (n0.trans (hb1.mono n0.size)).alloc (Nat.le_trans n0.size hb1.size) (.cells #[.string X0, .int .i64 V, .int .i64 fg, .int .i64 bg, .int .i64 fl] 32)
  have d0 := (d0.below hb1 d0.lt).alloc (.cells #[.string X0, .int .i64 V, .int .i64 fg, .int .i64 bg, .int .i64 fl] 32)
  have d1 := Box.new w1 32 #[.string X0, .int .i64 V, .int .i64 fg, .int .i64 bg, .int .i64 fl]
  generalize w1.alloc (.cells #[.string X0, .int .i64 V, .int .i64 fg, .int .i64 bg, .int .i64 fl] 32) = W1 at *
  generalize w1.heap.size = N1 at *
  clear hb1
  obtain ⟨⟨a0, a1, a2⟩, af0, af1, af2⟩ := d0.three
  have hd0 := d0.lt
  go_upto_region 5 with (first | (go_at_call 14; refine (hbl _).mono ?_; rintro e w2' ⟨rfl, hb2'⟩; have n2' := n1.trans (hb2'.mono n1.size)) | (go_at_call 11; refine (hmb _ n2').mono ?_; rintro e w2 ⟨rfl, hb2''⟩; have hb2 := hb2'.trans (hb2''.mono hb2'.size)))
  clear hb2' hb2'' n2' hd0 a0 a1 a2 af0 af1 af2 d0
  have n2 := (n1.trans (hb2.mono n1.size)).alloc (Nat.le_trans n1.size hb2.size) (.cells #[.string ⟨#[]⟩, .int .i64 0, .int .i64 0, .int .i64 0, .int .i64 0] 32)
  have d1 := (d1.below hb2 d1.lt).alloc (.cells #[.string ⟨#[]⟩, .int .i64 0, .int .i64 0, .int .i64 0, .int .i64 0] 32)
  have d2 := Box.new w2 32 #[.string ⟨#[]⟩, .int .i64 0, .int .i64 0, .int .i64 0, .int .i64 0]
  generalize w2.alloc (.cells #[.string ⟨#[]⟩, .int .i64 0, .int .i64 0, .int .i64 0, .int .i64 0] 32) = W2 at *
  generalize w2.heap.size = N2 at *
  clear hb2
  obtain ⟨⟨c0, c1, c2, c3, c4⟩, cf0, cf1, cf2, cf3, cf4⟩ := d1.five
  go_upto_region 6 with (go_at_call 11; refine (hm1 _ n2).mono ?_; rintro e w3 ⟨rfl, hb3⟩)
  clear c0 c1 c2 c3 c4 cf0 cf1 cf2 cf3 cf4
  have n3 := (n2.trans (hb3.mono n2.size)).alloc (Nat.le_trans n2.size hb3.size) (.cells #[.string X1, .int .i64 V, .int .i64 fg, .int .i64 bg, .int .i64 fl] 32)
  have d1 := (d1.below hb3 d1.lt).alloc (.cells #[.string X1, .int .i64 V, .int .i64 fg, .int .i64 bg, .int .i64 fl] 32)
  have d3 := Box.new w3 32 #[.string X1, .int .i64 V, .int .i64 fg, .int .i64 bg, .int .i64 fl]
  generalize w3.alloc (.cells #[.string X1, .int .i64 V, .int .i64 fg, .int .i64 bg, .int .i64 fl] 32) = W3 at *
  generalize w3.heap.size = N3 at *
  clear hb3
  obtain ⟨⟨c0, c1, c2, c3, c4⟩, cf0, cf1, cf2, cf3, cf4⟩ := d1.five
  go_upto_region 8 with (first | (go_at_call 12; refine (hr0 _ n3).mono ?_; rintro e w4 ⟨rfl, hb4⟩) | (go_at_call 16; refine (hal _).mono ?_; rintro e w5 ⟨rfl, hb5⟩))
  have n5 := (n3.trans (hb4.mono n3.size)).trans (hb5.mono (Nat.le_trans n3.size hb4.size))
  clear c0 c1 c2 c3 c4 cf0 cf1 cf2 cf3 cf4
  have d1 := (d1.below hb4 d1.lt).below hb5 (Nat.lt_of_lt_of_le d1.lt hb4.size)
  have d3 := (d3.below hb4 d3.lt).below hb5 (Nat.lt_of_lt_of_le d3.lt hb4.size)
  clear hb4 hb5
  obtain ⟨⟨c0, c1, c2, c3, c4⟩, cf0, cf1, cf2, cf3, cf4⟩ := d3.five
  go_upto_region 11 with (go_at_call 11; refine (hm2 _ n5).mono ?_; rintro e w6 ⟨rfl, hb6⟩)
  clear c0 c1 c2 c3 c4 cf0 cf1 cf2 cf3 cf4
  have n6 := (n5.trans (hb6.mono n5.size)).alloc (Nat.le_trans n5.size hb6.size) (.cells #[.string ⟨#[]⟩, .int .i64 0, .int .i64 0, .int .i64 0, .int .i64 0] 32)
  have d1 := (d1.below hb6 d1.lt).alloc (.cells #[.string ⟨#[]⟩, .int .i64 0, .int .i64 0, .int .i64 0, .int .i64 0] 32)
  have d3 := (d3.below hb6 d3.lt).alloc (.cells #[.string ⟨#[]⟩, .int .i64 0, .int .i64 0, .int .i64 0, .int .i64 0] 32)
  have d6 := Box.new w6 32 #[.string ⟨#[]⟩, .int .i64 0, .int .i64 0, .int .i64 0, .int .i64 0]
  generalize w6.alloc (.cells #[.string ⟨#[]⟩, .int .i64 0, .int .i64 0, .int .i64 0, .int .i64 0] 32) = W6 at *
  generalize w6.heap.size = N6 at *
  clear hb6
  go_wp2
  go_ret
  exact ⟨rfl, n6⟩

set_option maxRecDepth 100000 in
set_option maxHeartbeats 4000000 in
theorem cmarks_k1 (r m n k : Int) (a : At) (w : World) (hr : 1 ≤ widthI r) (hl : lookB a = true) (hm : widthI m = 0) (hn : widthI n = 0) (hk : widthI k ≠ 0) (hT : Tab w) (hW : TabW w) :
    Calls Tryd.prog 5 #[.int .i32 r, .int .i32 m, .int .i32 n, .int .i32 k, a.agg] w fun e w' => e = .returned (.bool true) ∧ Below w.heap.size w w' := by
  obtain ⟨fg, bg, fl⟩ := a
  have hof := fun W (hb : Below w.heap.size w W) => of_yes r ⟨fg, bg, fl⟩ W hr hl (hT.below hb) (hW.below hb)
  have hbl := blank_any ⟨fg, bg, fl⟩
  have hmb := fun W (hb : Below w.heap.size w W) => mark_no ⟨⟨#[]⟩, 1, 0, bg, 0⟩ m W (by show (⟨#[]⟩ : ByteArray).size ≤ 1000; decide) (.inr (.inl rfl)) (hT.below hb) (hW.below hb)
  have er := enc_le (r := r) (by omega)
  have p0 := parts_0 hr
  have g0 := right_enc hr hl (Utf8.encode r) 0 p0 (by omega)
  have hr0 := fun W (hb : Below w.heap.size w W) => right_any ⟨Utf8.encode r, widthI r, fg, bg, fl⟩ W (by unfold maxLen; show (Utf8.encode r).size ≤ _; omega) (hT.below hb) (hW.below hb)
  rw [g0] at hr0
  have hm1 := fun W (hb : Below w.heap.size w W) => mark_yes ⟨Utf8.encode r, widthI r, fg, bg, fl⟩ m W (by show (Utf8.encode r).size ≤ _; omega) g0 (by show (Utf8.encode r).size ≠ 0; omega) hm (by show (partsG (Utf8.encode r)).2 ≠ 2; rw [p0]; simp) (hT.below hb) (hW.below hb)
  have em := enc_le (r := m) (by omega)
  have p1 := parts_1 hr hm
  have z1 : (Utf8.encode r ++ Utf8.encode m).size = (Utf8.encode r).size + (Utf8.encode m).size := size_append' _ _
  have g1 := right_enc hr hl (Utf8.encode r ++ Utf8.encode m) 1 p1 (by omega)
  have hm2 := fun W (hb : Below w.heap.size w W) => mark_yes ⟨Utf8.encode r ++ Utf8.encode m, widthI r, fg, bg, fl⟩ n W (by show (Utf8.encode r ++ Utf8.encode m).size ≤ _; omega) g1 (by show (Utf8.encode r ++ Utf8.encode m).size ≠ 0; omega) hn (by show (partsG (Utf8.encode r ++ Utf8.encode m)).2 ≠ 2; rw [p1]; simp) (hT.below hb) (hW.below hb)
  have en := enc_le (r := n) (by omega)
  have p2 := parts_2 hr hm hn
  have z2 : (Utf8.encode r ++ Utf8.encode m ++ Utf8.encode n).size = (Utf8.encode r ++ Utf8.encode m).size + (Utf8.encode n).size := size_append' _ _
  have g2 := right_enc hr hl (Utf8.encode r ++ Utf8.encode m ++ Utf8.encode n) 2 p2 (by omega)
  have hr2 := fun W (hb : Below w.heap.size w W) => right_any ⟨Utf8.encode r ++ Utf8.encode m ++ Utf8.encode n, widthI r, fg, bg, fl⟩ W (by unfold maxLen; show (Utf8.encode r ++ Utf8.encode m ++ Utf8.encode n).size ≤ _; omega) (hT.below hb) (hW.below hb)
  rw [g2] at hr2
  have x1 := front_cut (Utf8.encode r) (Utf8.encode m)
  have x2 := front_cut (Utf8.encode r ++ Utf8.encode m) (Utf8.encode n)
  have hm3 := fun W (hb : Below w.heap.size w W) => mark_no ⟨Utf8.encode r ++ Utf8.encode m ++ Utf8.encode n, widthI r, fg, bg, fl⟩ k W (by show (Utf8.encode r ++ Utf8.encode m ++ Utf8.encode n).size ≤ _; omega) (.inr (.inr hk)) (hT.below hb) (hW.below hb)
  simp only [CePost, Ce.zero, Ce.agg, Ce.cells, At.agg] at hof hmb hm1 hm2 hm3 hbl hr0 hr2 ⊢
  generalize Utf8.encode r ++ Utf8.encode m ++ Utf8.encode n = X2 at *
  generalize Utf8.encode r ++ Utf8.encode m = X1 at *
  generalize Utf8.encode r = X0 at *
  generalize widthI r = V at *
  have y1 : (X0.size : Int) ≤ X1.size := by omega
  have y2 : (X1.size : Int) < X2.size := by omega
  have y3 : (X1.size : Int) ≤ X2.size := by omega
  have y4 : (X2.size : Int) ≤ 100 := by omega
  have e1 : (X1.extract 0 X0.size).toList == X0.toList := by rw [x1]; simp
  have e2 : (X2.extract 0 X1.size).toList == X1.toList := by rw [x2]; simp
  clear er p0 g0 hr hl hm em p1 z1 g1 en p2 z2 g2 hn hk
  have hal := alive4_any
  have hbx := Box.new w 30 #[.int .i64 fg, .int .i64 bg, .int .i64 fl]
  have n0 := below_alloc w (.cells #[.int .i64 fg, .int .i64 bg, .int .i64 fl] 30)
  have HX := hid hbx
  clear hbx
  go_enter Tryd.func5, Tryd.ntmps5
  go_upto_region 2 with (go_at_call 10; refine (hof _ n0).mono ?_; rintro e w1 ⟨rfl, hb1⟩)
  have d0 := HX.out
  have n1 := (n0.trans (hb1.mono n0.size)).alloc (Nat.le_trans n0.size hb1.size) (.cells #[.string X0, .int .i64 V, .int .i64 fg, .int .i64 bg, .int .i64 fl] 32)
  have d0 := (d0.below hb1 d0.lt).alloc (.cells #[.string X0, .int .i64 V, .int .i64 fg, .int .i64 bg, .int .i64 fl] 32)
  have d1 := Box.new w1 32 #[.string X0, .int .i64 V, .int .i64 fg, .int .i64 bg, .int .i64 fl]
  generalize w1.alloc (.cells #[.string X0, .int .i64 V, .int .i64 fg, .int .i64 bg, .int .i64 fl] 32) = W1 at *
  generalize w1.heap.size = N1 at *
  clear hb1
  obtain ⟨⟨a0, a1, a2⟩, af0, af1, af2⟩ := d0.three
  have hd0 := d0.lt
  go_upto_region 5 with (first | (go_at_call 14; refine (hbl _).mono ?_; rintro e w2' ⟨rfl, hb2'⟩; have n2' := n1.trans (hb2'.mono n1.size)) | (go_at_call 11; refine (hmb _ n2').mono ?_; rintro e w2 ⟨rfl, hb2''⟩; have hb2 := hb2'.trans (hb2''.mono hb2'.size)))
  clear hb2' hb2'' n2' hd0 a0 a1 a2 af0 af1 af2 d0
  have n2 := (n1.trans (hb2.mono n1.size)).alloc (Nat.le_trans n1.size hb2.size) (.cells #[.string ⟨#[]⟩, .int .i64 0, .int .i64 0, .int .i64 0, .int .i64 0] 32)
  have d1 := (d1.below hb2 d1.lt).alloc (.cells #[.string ⟨#[]⟩, .int .i64 0, .int .i64 0, .int .i64 0, .int .i64 0] 32)
  have d2 := Box.new w2 32 #[.string ⟨#[]⟩, .int .i64 0, .int .i64 0, .int .i64 0, .int .i64 0]
  generalize w2.alloc (.cells #[.string ⟨#[]⟩, .int .i64 0, .int .i64 0, .int .i64 0, .int .i64 0] 32) = W2 at *
  generalize w2.heap.size = N2 at *
  clear hb2
  obtain ⟨⟨c0, c1, c2, c3, c4⟩, cf0, cf1, cf2, cf3, cf4⟩ := d1.five
  go_upto_region 6 with (go_at_call 11; refine (hm1 _ n2).mono ?_; rintro e w3 ⟨rfl, hb3⟩)
  clear c0 c1 c2 c3 c4 cf0 cf1 cf2 cf3 cf4
  have n3 := (n2.trans (hb3.mono n2.size)).alloc (Nat.le_trans n2.size hb3.size) (.cells #[.string X1, .int .i64 V, .int .i64 fg, .int .i64 bg, .int .i64 fl] 32)
  have d1 := (d1.below hb3 d1.lt).alloc (.cells #[.string X1, .int .i64 V, .int .i64 fg, .int .i64 bg, .int .i64 fl] 32)
  have d3 := Box.new w3 32 #[.string X1, .int .i64 V, .int .i64 fg, .int .i64 bg, .int .i64 fl]
  generalize w3.alloc (.cells #[.string X1, .int .i64 V, .int .i64 fg, .int .i64 bg, .int .i64 fl] 32) = W3 at *
  generalize w3.heap.size = N3 at *
  clear hb3
  obtain ⟨⟨c0, c1, c2, c3, c4⟩, cf0, cf1, cf2, cf3, cf4⟩ := d1.five
  go_upto_region 8 with (first | (go_at_call 12; refine (hr0 _ n3).mono ?_; rintro e w4 ⟨rfl, hb4⟩) | (go_at_call 16; refine (hal _).mono ?_; rintro e w5 ⟨rfl, hb5⟩))
  have n5 := (n3.trans (hb4.mono n3.size)).trans (hb5.mono (Nat.le_trans n3.size hb4.size))
  clear c0 c1 c2 c3 c4 cf0 cf1 cf2 cf3 cf4
  have d1 := (d1.below hb4 d1.lt).below hb5 (Nat.lt_of_lt_of_le d1.lt hb4.size)
  have d3 := (d3.below hb4 d3.lt).below hb5 (Nat.lt_of_lt_of_le d3.lt hb4.size)
  clear hb4 hb5
  obtain ⟨⟨c0, c1, c2, c3, c4⟩, cf0, cf1, cf2, cf3, cf4⟩ := d3.five
  go_upto_region 11 with (go_at_call 11; refine (hm2 _ n5).mono ?_; rintro e w6 ⟨rfl, hb6⟩)
  clear c0 c1 c2 c3 c4 cf0 cf1 cf2 cf3 cf4
  have n6 := (n5.trans (hb6.mono n5.size)).alloc (Nat.le_trans n5.size hb6.size) (.cells #[.string X2, .int .i64 V, .int .i64 fg, .int .i64 bg, .int .i64 fl] 32)
  have d1 := (d1.below hb6 d1.lt).alloc (.cells #[.string X2, .int .i64 V, .int .i64 fg, .int .i64 bg, .int .i64 fl] 32)
  have d3 := (d3.below hb6 d3.lt).alloc (.cells #[.string X2, .int .i64 V, .int .i64 fg, .int .i64 bg, .int .i64 fl] 32)
  have d6 := Box.new w6 32 #[.string X2, .int .i64 V, .int .i64 fg, .int .i64 bg, .int .i64 fl]
  generalize w6.alloc (.cells #[.string X2, .int .i64 V, .int .i64 fg, .int .i64 bg, .int .i64 fl] 32) = W6 at *
  generalize w6.heap.size = N6 at *
  clear hb6
  obtain ⟨⟨c0, c1, c2, c3, c4⟩, cf0, cf1, cf2, cf3, cf4⟩ := d6.five
  go_upto_region 14 with (go_at_call 11; refine (hm3 _ n6).mono ?_; rintro e w7 ⟨rfl, hb7⟩)
  clear c0 c1 c2 c3 c4 cf0 cf1 cf2 cf3 cf4
  have n7 := (n6.trans (hb7.mono n6.size)).alloc (Nat.le_trans n6.size hb7.size) (.cells #[.string ⟨#[]⟩, .int .i64 0, .int .i64 0, .int .i64 0, .int .i64 0] 32)
  have d1 := (d1.below hb7 d1.lt).alloc (.cells #[.string ⟨#[]⟩, .int .i64 0, .int .i64 0, .int .i64 0, .int .i64 0] 32)
  have d3 := (d3.below hb7 d3.lt).alloc (.cells #[.string ⟨#[]⟩, .int .i64 0, .int .i64 0, .int .i64 0, .int .i64 0] 32)
  have d6 := (d6.below hb7 d6.lt).alloc (.cells #[.string ⟨#[]⟩, .int .i64 0, .int .i64 0, .int .i64 0, .int .i64 0] 32)
  have d7 := Box.new w7 32 #[.string ⟨#[]⟩, .int .i64 0, .int .i64 0, .int .i64 0, .int .i64 0]
  generalize w7.alloc (.cells #[.string ⟨#[]⟩, .int .i64 0, .int .i64 0, .int .i64 0, .int .i64 0] 32) = W7 at *
  generalize w7.heap.size = N7 at *
  clear hb7
  obtain ⟨⟨c0, c1, c2, c3, c4⟩, cf0, cf1, cf2, cf3, cf4⟩ := d1.five
  obtain ⟨⟨b0, b1, b2, b3, b4⟩, bf0, bf1, bf2, bf3, bf4⟩ := d3.five
  obtain ⟨⟨a0, a1, a2, a3, a4⟩, af0, af1, af2, af3, af4⟩ := d6.five
  have c0 := cell_regrown c0
  have c1 := cell_regrown c1
  have c2 := cell_regrown c2
  have c3 := cell_regrown c3
  have c4 := cell_regrown c4
  have b0 := cell_regrown b0
  have b1 := cell_regrown b1
  have b2 := cell_regrown b2
  have b3 := cell_regrown b3
  have b4 := cell_regrown b4
  have a0 := cell_regrown a0
  have a1 := cell_regrown a1
  have a2 := cell_regrown a2
  have a3 := cell_regrown a3
  have a4 := cell_regrown a4
  have cR : ∀ d os, Calls Tryd.prog 12 #[.agg #[.string X2, .int .i64 V, .int .i64 fg, .int .i64 bg, .int .i64 fl]] (Go.Sort.grow (redrawn W7 d) os) fun e w'' => e = .returned (.bool true) ∧ ∃ p : Regrown, w'' = Go.Sort.grow (redrawn W7 p.d) p.os := fun d os => Calls.regrown_of (hr2 _ (n7.trans ((below_regrown W7 d os).mono n7.size)))
  refine wp_region_quiet_below (by kernel_rfl) (by kernel_rfl) ?_
  repeat (quiet_step (exact cR _ _))
  refine wpQuiet_nil ?_
  intro _ hw'
  obtain ⟨⟨dq, osq⟩, hw''⟩ := hw'
  subst hw''
  have n8 := n7.trans ((below_regrown W7 dq osq).mono n7.size)
  clear cR hr2
  generalize Go.Sort.grow (redrawn W7 dq) osq = w8 at *
  go_wp2
  go_ret
  exact ⟨rfl, n8⟩

set_option maxRecDepth 100000 in
set_option maxHeartbeats 4000000 in
theorem cmarks_k0 (r m n k : Int) (a : At) (w : World) (hr : 1 ≤ widthI r) (hl : lookB a = true) (hm : widthI m = 0) (hn : widthI n = 0) (hk : widthI k = 0) (hT : Tab w) (hW : TabW w) :
    Calls Tryd.prog 5 #[.int .i32 r, .int .i32 m, .int .i32 n, .int .i32 k, a.agg] w fun e w' => e = .returned (.bool true) ∧ Below w.heap.size w w' := by
  obtain ⟨fg, bg, fl⟩ := a
  have hof := fun W (hb : Below w.heap.size w W) => of_yes r ⟨fg, bg, fl⟩ W hr hl (hT.below hb) (hW.below hb)
  have hbl := blank_any ⟨fg, bg, fl⟩
  have hmb := fun W (hb : Below w.heap.size w W) => mark_no ⟨⟨#[]⟩, 1, 0, bg, 0⟩ m W (by show (⟨#[]⟩ : ByteArray).size ≤ 1000; decide) (.inr (.inl rfl)) (hT.below hb) (hW.below hb)
  have er := enc_le (r := r) (by omega)
  have p0 := parts_0 hr
  have g0 := right_enc hr hl (Utf8.encode r) 0 p0 (by omega)
  have hr0 := fun W (hb : Below w.heap.size w W) => right_any ⟨Utf8.encode r, widthI r, fg, bg, fl⟩ W (by unfold maxLen; show (Utf8.encode r).size ≤ _; omega) (hT.below hb) (hW.below hb)
  rw [g0] at hr0
  have hm1 := fun W (hb : Below w.heap.size w W) => mark_yes ⟨Utf8.encode r, widthI r, fg, bg, fl⟩ m W (by show (Utf8.encode r).size ≤ _; omega) g0 (by show (Utf8.encode r).size ≠ 0; omega) hm (by show (partsG (Utf8.encode r)).2 ≠ 2; rw [p0]; simp) (hT.below hb) (hW.below hb)
  have em := enc_le (r := m) (by omega)
  have p1 := parts_1 hr hm
  have z1 : (Utf8.encode r ++ Utf8.encode m).size = (Utf8.encode r).size + (Utf8.encode m).size := size_append' _ _
  have g1 := right_enc hr hl (Utf8.encode r ++ Utf8.encode m) 1 p1 (by omega)
  have hm2 := fun W (hb : Below w.heap.size w W) => mark_yes ⟨Utf8.encode r ++ Utf8.encode m, widthI r, fg, bg, fl⟩ n W (by show (Utf8.encode r ++ Utf8.encode m).size ≤ _; omega) g1 (by show (Utf8.encode r ++ Utf8.encode m).size ≠ 0; omega) hn (by show (partsG (Utf8.encode r ++ Utf8.encode m)).2 ≠ 2; rw [p1]; simp) (hT.below hb) (hW.below hb)
  have en := enc_le (r := n) (by omega)
  have p2 := parts_2 hr hm hn
  have z2 : (Utf8.encode r ++ Utf8.encode m ++ Utf8.encode n).size = (Utf8.encode r ++ Utf8.encode m).size + (Utf8.encode n).size := size_append' _ _
  have g2 := right_enc hr hl (Utf8.encode r ++ Utf8.encode m ++ Utf8.encode n) 2 p2 (by omega)
  have hr2 := fun W (hb : Below w.heap.size w W) => right_any ⟨Utf8.encode r ++ Utf8.encode m ++ Utf8.encode n, widthI r, fg, bg, fl⟩ W (by unfold maxLen; show (Utf8.encode r ++ Utf8.encode m ++ Utf8.encode n).size ≤ _; omega) (hT.below hb) (hW.below hb)
  rw [g2] at hr2
  have x1 := front_cut (Utf8.encode r) (Utf8.encode m)
  have x2 := front_cut (Utf8.encode r ++ Utf8.encode m) (Utf8.encode n)
  have hm3 := fun W (hb : Below w.heap.size w W) => mark_full ⟨Utf8.encode r ++ Utf8.encode m ++ Utf8.encode n, widthI r, fg, bg, fl⟩ k W (by show (Utf8.encode r ++ Utf8.encode m ++ Utf8.encode n).size ≤ _; omega) g2 (by show (Utf8.encode r ++ Utf8.encode m ++ Utf8.encode n).size ≠ 0; omega) hk (by show (partsG (Utf8.encode r ++ Utf8.encode m ++ Utf8.encode n)).2 = 2; rw [p2]) (hT.below hb) (hW.below hb)
  simp only [CePost, Ce.zero, Ce.agg, Ce.cells, At.agg] at hof hmb hm1 hm2 hm3 hbl hr0 hr2 ⊢
  generalize Utf8.encode r ++ Utf8.encode m ++ Utf8.encode n = X2 at *
  generalize Utf8.encode r ++ Utf8.encode m = X1 at *
  generalize Utf8.encode r = X0 at *
  generalize widthI r = V at *
  have y1 : (X0.size : Int) ≤ X1.size := by omega
  have y2 : (X1.size : Int) < X2.size := by omega
  have y3 : (X1.size : Int) ≤ X2.size := by omega
  have y4 : (X2.size : Int) ≤ 100 := by omega
  have e1 : (X1.extract 0 X0.size).toList == X0.toList := by rw [x1]; simp
  have e2 : (X2.extract 0 X1.size).toList == X1.toList := by rw [x2]; simp
  clear er p0 g0 hr hl hm em p1 z1 g1 en p2 z2 g2 hn hk
  have hal := alive4_any
  have hbx := Box.new w 30 #[.int .i64 fg, .int .i64 bg, .int .i64 fl]
  have n0 := below_alloc w (.cells #[.int .i64 fg, .int .i64 bg, .int .i64 fl] 30)
  have HX := hid hbx
  clear hbx
  go_enter Tryd.func5, Tryd.ntmps5
  go_upto_region 2 with (go_at_call 10; refine (hof _ n0).mono ?_; rintro e w1 ⟨rfl, hb1⟩)
  have d0 := HX.out
  have n1 := (n0.trans (hb1.mono n0.size)).alloc (Nat.le_trans n0.size hb1.size) (.cells #[.string X0, .int .i64 V, .int .i64 fg, .int .i64 bg, .int .i64 fl] 32)
  have d0 := (d0.below hb1 d0.lt).alloc (.cells #[.string X0, .int .i64 V, .int .i64 fg, .int .i64 bg, .int .i64 fl] 32)
  have d1 := Box.new w1 32 #[.string X0, .int .i64 V, .int .i64 fg, .int .i64 bg, .int .i64 fl]
  generalize w1.alloc (.cells #[.string X0, .int .i64 V, .int .i64 fg, .int .i64 bg, .int .i64 fl] 32) = W1 at *
  generalize w1.heap.size = N1 at *
  clear hb1
  obtain ⟨⟨a0, a1, a2⟩, af0, af1, af2⟩ := d0.three
  have hd0 := d0.lt
  go_upto_region 5 with (first | (go_at_call 14; refine (hbl _).mono ?_; rintro e w2' ⟨rfl, hb2'⟩; have n2' := n1.trans (hb2'.mono n1.size)) | (go_at_call 11; refine (hmb _ n2').mono ?_; rintro e w2 ⟨rfl, hb2''⟩; have hb2 := hb2'.trans (hb2''.mono hb2'.size)))
  clear hb2' hb2'' n2' hd0 a0 a1 a2 af0 af1 af2 d0
  have n2 := (n1.trans (hb2.mono n1.size)).alloc (Nat.le_trans n1.size hb2.size) (.cells #[.string ⟨#[]⟩, .int .i64 0, .int .i64 0, .int .i64 0, .int .i64 0] 32)
  have d1 := (d1.below hb2 d1.lt).alloc (.cells #[.string ⟨#[]⟩, .int .i64 0, .int .i64 0, .int .i64 0, .int .i64 0] 32)
  have d2 := Box.new w2 32 #[.string ⟨#[]⟩, .int .i64 0, .int .i64 0, .int .i64 0, .int .i64 0]
  generalize w2.alloc (.cells #[.string ⟨#[]⟩, .int .i64 0, .int .i64 0, .int .i64 0, .int .i64 0] 32) = W2 at *
  generalize w2.heap.size = N2 at *
  clear hb2
  obtain ⟨⟨c0, c1, c2, c3, c4⟩, cf0, cf1, cf2, cf3, cf4⟩ := d1.five
  go_upto_region 6 with (go_at_call 11; refine (hm1 _ n2).mono ?_; rintro e w3 ⟨rfl, hb3⟩)
  clear c0 c1 c2 c3 c4 cf0 cf1 cf2 cf3 cf4
  have n3 := (n2.trans (hb3.mono n2.size)).alloc (Nat.le_trans n2.size hb3.size) (.cells #[.string X1, .int .i64 V, .int .i64 fg, .int .i64 bg, .int .i64 fl] 32)
  have d1 := (d1.below hb3 d1.lt).alloc (.cells #[.string X1, .int .i64 V, .int .i64 fg, .int .i64 bg, .int .i64 fl] 32)
  have d3 := Box.new w3 32 #[.string X1, .int .i64 V, .int .i64 fg, .int .i64 bg, .int .i64 fl]
  generalize w3.alloc (.cells #[.string X1, .int .i64 V, .int .i64 fg, .int .i64 bg, .int .i64 fl] 32) = W3 at *
  generalize w3.heap.size = N3 at *
  clear hb3
  obtain ⟨⟨c0, c1, c2, c3, c4⟩, cf0, cf1, cf2, cf3, cf4⟩ := d1.five
  go_upto_region 8 with (first | (go_at_call 12; refine (hr0 _ n3).mono ?_; rintro e w4 ⟨rfl, hb4⟩) | (go_at_call 16; refine (hal _).mono ?_; rintro e w5 ⟨rfl, hb5⟩))
  have n5 := (n3.trans (hb4.mono n3.size)).trans (hb5.mono (Nat.le_trans n3.size hb4.size))
  clear c0 c1 c2 c3 c4 cf0 cf1 cf2 cf3 cf4
  have d1 := (d1.below hb4 d1.lt).below hb5 (Nat.lt_of_lt_of_le d1.lt hb4.size)
  have d3 := (d3.below hb4 d3.lt).below hb5 (Nat.lt_of_lt_of_le d3.lt hb4.size)
  clear hb4 hb5
  obtain ⟨⟨c0, c1, c2, c3, c4⟩, cf0, cf1, cf2, cf3, cf4⟩ := d3.five
  go_upto_region 11 with (go_at_call 11; refine (hm2 _ n5).mono ?_; rintro e w6 ⟨rfl, hb6⟩)
  clear c0 c1 c2 c3 c4 cf0 cf1 cf2 cf3 cf4
  have n6 := (n5.trans (hb6.mono n5.size)).alloc (Nat.le_trans n5.size hb6.size) (.cells #[.string X2, .int .i64 V, .int .i64 fg, .int .i64 bg, .int .i64 fl] 32)
  have d1 := (d1.below hb6 d1.lt).alloc (.cells #[.string X2, .int .i64 V, .int .i64 fg, .int .i64 bg, .int .i64 fl] 32)
  have d3 := (d3.below hb6 d3.lt).alloc (.cells #[.string X2, .int .i64 V, .int .i64 fg, .int .i64 bg, .int .i64 fl] 32)
  have d6 := Box.new w6 32 #[.string X2, .int .i64 V, .int .i64 fg, .int .i64 bg, .int .i64 fl]
  generalize w6.alloc (.cells #[.string X2, .int .i64 V, .int .i64 fg, .int .i64 bg, .int .i64 fl] 32) = W6 at *
  generalize w6.heap.size = N6 at *
  clear hb6
  obtain ⟨⟨c0, c1, c2, c3, c4⟩, cf0, cf1, cf2, cf3, cf4⟩ := d6.five
  go_upto_region 14 with (go_at_call 11; refine (hm3 _ n6).mono ?_; rintro e w7 ⟨rfl, hb7⟩)
  clear c0 c1 c2 c3 c4 cf0 cf1 cf2 cf3 cf4
  have n7 := (n6.trans (hb7.mono n6.size)).alloc (Nat.le_trans n6.size hb7.size) (.cells #[.string ⟨#[]⟩, .int .i64 0, .int .i64 0, .int .i64 0, .int .i64 0] 32)
  have d1 := (d1.below hb7 d1.lt).alloc (.cells #[.string ⟨#[]⟩, .int .i64 0, .int .i64 0, .int .i64 0, .int .i64 0] 32)
  have d3 := (d3.below hb7 d3.lt).alloc (.cells #[.string ⟨#[]⟩, .int .i64 0, .int .i64 0, .int .i64 0, .int .i64 0] 32)
  have d6 := (d6.below hb7 d6.lt).alloc (.cells #[.string ⟨#[]⟩, .int .i64 0, .int .i64 0, .int .i64 0, .int .i64 0] 32)
  have d7 := Box.new w7 32 #[.string ⟨#[]⟩, .int .i64 0, .int .i64 0, .int .i64 0, .int .i64 0]
  generalize w7.alloc (.cells #[.string ⟨#[]⟩, .int .i64 0, .int .i64 0, .int .i64 0, .int .i64 0] 32) = W7 at *
  generalize w7.heap.size = N7 at *
  clear hb7
  obtain ⟨⟨c0, c1, c2, c3, c4⟩, cf0, cf1, cf2, cf3, cf4⟩ := d1.five
  obtain ⟨⟨b0, b1, b2, b3, b4⟩, bf0, bf1, bf2, bf3, bf4⟩ := d3.five
  obtain ⟨⟨a0, a1, a2, a3, a4⟩, af0, af1, af2, af3, af4⟩ := d6.five
  have c0 := cell_regrown c0
  have c1 := cell_regrown c1
  have c2 := cell_regrown c2
  have c3 := cell_regrown c3
  have c4 := cell_regrown c4
  have b0 := cell_regrown b0
  have b1 := cell_regrown b1
  have b2 := cell_regrown b2
  have b3 := cell_regrown b3
  have b4 := cell_regrown b4
  have a0 := cell_regrown a0
  have a1 := cell_regrown a1
  have a2 := cell_regrown a2
  have a3 := cell_regrown a3
  have a4 := cell_regrown a4
  have cR : ∀ d os, Calls Tryd.prog 12 #[.agg #[.string X2, .int .i64 V, .int .i64 fg, .int .i64 bg, .int .i64 fl]] (Go.Sort.grow (redrawn W7 d) os) fun e w'' => e = .returned (.bool true) ∧ ∃ p : Regrown, w'' = Go.Sort.grow (redrawn W7 p.d) p.os := fun d os => Calls.regrown_of (hr2 _ (n7.trans ((below_regrown W7 d os).mono n7.size)))
  refine wp_region_quiet_below (by kernel_rfl) (by kernel_rfl) ?_
  repeat (quiet_step (exact cR _ _))
  refine wpQuiet_nil ?_
  intro _ hw'
  obtain ⟨⟨dq, osq⟩, hw''⟩ := hw'
  subst hw''
  have n8 := n7.trans ((below_regrown W7 dq osq).mono n7.size)
  clear cR hr2
  generalize Go.Sort.grow (redrawn W7 dq) osq = w8 at *
  go_wp2
  go_ret
  exact ⟨rfl, n8⟩

theorem cmarks_any (r m n k : Int) (a : At) (w : World) (hT : Tab w) (hW : TabW w) :
    Calls Tryd.prog 5 #[.int .i32 r, .int .i32 m, .int .i32 n, .int .i32 k, a.agg] w fun e w' => e = .returned (.bool true) ∧ Below w.heap.size w w' := by
  by_cases hr : widthI r < 1
  · exact cmarks_no r m n k a w (.inl hr) hT hW
  · cases hl : lookB a
    · exact cmarks_no r m n k a w (.inr hl) hT hW
    · by_cases hm : widthI m = 0
      · by_cases hn : widthI n = 0
        · by_cases hk : widthI k = 0
          · exact cmarks_k0 r m n k a w (by omega) hl hm hn hk hT hW
          · exact cmarks_k1 r m n k a w (by omega) hl hm hn hk hT hW
        · exact cmarks_n r m n k a w (by omega) hl hm hn hT hW
      · exact cmarks_m r m n k a w (by omega) hl hm hT hW
end Go.Proofs.YtlcahkbbefcjnaaDoor
