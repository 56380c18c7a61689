/- Layer 4, the package: a cell with a mark more. -/
import Derived.Test.YtlcahkbbefcjnaaDoorCellG
namespace Go.Proofs.YtlcahkbbefcjnaaDoor
open Go.RowKit

set_option maxRecDepth 100000 in
set_option maxHeartbeats 1000000 in
theorem mark_no (c : Ce) (r : Int) (w : World) (hs : c.tx.size ≤ 1000) (h : rightB c = false ∨ c.tx.size = 0 ∨ widthI r ≠ 0) (hT : Tab w) (hW : TabW w) :
    Calls Tryd.prog 11 #[c.agg, .int .i32 r] w fun e w' => CePost Ce.zero 1 e ∧ Below w.heap.size w w' := by
  have hri := fun W (hb : Below w.heap.size w W) => right_any c W (by unfold maxLen; omega) (hT.below hb) (hW.below hb)
  have hwd := fun W (hb : Below w.heap.size w W) => width_any r W (hT.below hb) (hW.below hb)
  obtain ⟨tx, wd, fg, bg, fl⟩ := c
  unfold Ce.agg Ce.cells at hri ⊢
  simp only at hri hs h ⊢
  have hbx := (Box.new w 32 #[.string tx, .int .i64 wd, .int .i64 fg, .int .i64 bg, .int .i64 fl]).alloc (.cells #[.string ⟨#[]⟩, .int .i64 0, .int .i64 0, .int .i64 0, .int .i64 0] 32)
  have hre := Box.new (w.alloc (.cells #[.string tx, .int .i64 wd, .int .i64 fg, .int .i64 bg, .int .i64 fl] 32)) 32 #[.string ⟨#[]⟩, .int .i64 0, .int .i64 0, .int .i64 0, .int .i64 0]
  have hbel : Below w.heap.size w ((w.alloc (.cells #[.string tx, .int .i64 wd, .int .i64 fg, .int .i64 bg, .int .i64 fl] 32)).alloc (.cells #[.string ⟨#[]⟩, .int .i64 0, .int .i64 0, .int .i64 0, .int .i64 0] 32)) := (below_alloc _ _).alloc (by simp) _
  rw [World.size_alloc] at hre
  have HX := hid hbx
  have HE := hid hre
  have HB := hid hbel
  clear hbx hre hbel
  cases hr : rightB ⟨tx, wd, fg, bg, fl⟩
  · rw [hr] at hri
    clear h hr hs hwd
    go_enter Tryd.func11, Tryd.ntmps11
    go_upto_region 2 with (go_at_call 12; refine (hri _ HB.out).mono ?_; rintro e w2 ⟨rfl, hb⟩; have n2 := HB.out.trans (hb.mono (by simp; omega)); have d0 := HX.out.below hb (by simp; omega); have d1 := HE.out.below hb (by simp); obtain ⟨⟨b0, b1, b2, b3, b4⟩, g0, g1, g2, g3, g4⟩ := d0.five)
    obtain ⟨⟨c0, c1, c2, c3, c4⟩, f0, f1, f2, f3, f4⟩ := d1.five
    go_wp2
    refine bodyPost_ret (v := .tuple #[Ce.zero.agg, .int .i64 1]) (by simp [results, Tryd.results11, go_sem, Ce.zero, Ce.agg, Ce.cells, c0, c1, c2, c3, c4]) rfl ⟨rfl, ?_⟩
    repeat (first | exact n2 | refine Below.setCell ?_ (by simp) _)
  · rw [hr] at hri h
    clear hr
    by_cases h0 : tx.size = 0
    · have hx := empty_yes h0
      subst hx
      clear h h0 hs hwd
      go_enter Tryd.func11, Tryd.ntmps11
      go_upto_region 2 with (go_at_call 12; refine (hri _ HB.out).mono ?_; rintro e w2 ⟨rfl, hb⟩; have n2 := HB.out.trans (hb.mono (by simp; omega)); have d0 := HX.out.below hb (by simp; omega); have d1 := HE.out.below hb (by simp); obtain ⟨⟨b0, b1, b2, b3, b4⟩, g0, g1, g2, g3, g4⟩ := d0.five)
      obtain ⟨⟨c0, c1, c2, c3, c4⟩, f0, f1, f2, f3, f4⟩ := d1.five
      go_wp2
      refine bodyPost_ret (v := .tuple #[Ce.zero.agg, .int .i64 1]) (by simp [results, Tryd.results11, go_sem, Ce.zero, Ce.agg, Ce.cells, c0, c1, c2, c3, c4]) rfl ⟨rfl, ?_⟩
      repeat (first | exact n2 | refine Below.setCell ?_ (by simp) _)
    · have hne := empty_no h0
      have hv : widthI r ≠ 0 := by
        rcases h with h | h | h
        · exact absurd h (by simp)
        · exact absurd h h0
        · exact h
      generalize widthI r = V at *
      have hv' : (V != 0) = true := by simp [hv]
      clear h h0 hs hv
      go_enter Tryd.func11, Tryd.ntmps11
      go_upto_region 2 with (first | (go_at_call 12; refine (hri _ HB.out).mono ?_; rintro e w2 ⟨rfl, hb⟩; have n2 := HB.out.trans (hb.mono (by simp; omega)); have d0 := HX.out.below hb (by simp; omega); have d1 := HE.out.below hb (by simp); obtain ⟨⟨b0, b1, b2, b3, b4⟩, g0, g1, g2, g3, g4⟩ := d0.five) | (go_at_call 23; refine (hwd _ n2).mono ?_; rintro e w3 ⟨rfl, hb3⟩; have n2 := n2.trans (hb3.mono n2.size); have d0 := d0.below hb3 d0.lt; have d1 := d1.below hb3 d1.lt))
      obtain ⟨⟨c0, c1, c2, c3, c4⟩, f0, f1, f2, f3, f4⟩ := d1.five
      go_wp2
      refine bodyPost_ret (v := .tuple #[Ce.zero.agg, .int .i64 1]) (by simp [results, Tryd.results11, go_sem, Ce.zero, Ce.agg, Ce.cells, c0, c1, c2, c3, c4]) rfl ⟨rfl, ?_⟩
      repeat (first | exact n2 | refine Below.setCell ?_ (by simp) _)

set_option maxRecDepth 100000 in
set_option maxHeartbeats 1000000 in
theorem mark_full (c : Ce) (r : Int) (w : World) (hs : c.tx.size ≤ 1000) (hr : rightB c = true) (h0 : c.tx.size ≠ 0) (hv : widthI r = 0) (hp : (partsG c.tx).2 = 2) (hT : Tab w) (hW : TabW w) :
    Calls Tryd.prog 11 #[c.agg, .int .i32 r] w fun e w' => CePost Ce.zero 7 e ∧ Below w.heap.size w w' := by
  have hri := fun W (hb : Below w.heap.size w W) => right_any c W (by unfold maxLen; omega) (hT.below hb) (hW.below hb)
  have hwd := fun W (hb : Below w.heap.size w W) => width_any r W (hT.below hb) (hW.below hb)
  rw [hr] at hri
  rw [hv] at hwd
  have hpa := fun W (hb : Below w.heap.size w W) => parts_any c.tx W (by unfold maxLen; omega) (hT.below hb) (hW.below hb)
  unfold TwoInts at hpa
  obtain ⟨tx, wd, fg, bg, fl⟩ := c
  unfold Ce.agg Ce.cells at hri ⊢
  simp only at hri hs h0 hp hpa ⊢
  have hbx := (Box.new w 32 #[.string tx, .int .i64 wd, .int .i64 fg, .int .i64 bg, .int .i64 fl]).alloc (.cells #[.string ⟨#[]⟩, .int .i64 0, .int .i64 0, .int .i64 0, .int .i64 0] 32)
  have hre := Box.new (w.alloc (.cells #[.string tx, .int .i64 wd, .int .i64 fg, .int .i64 bg, .int .i64 fl] 32)) 32 #[.string ⟨#[]⟩, .int .i64 0, .int .i64 0, .int .i64 0, .int .i64 0]
  have hbel : Below w.heap.size w ((w.alloc (.cells #[.string tx, .int .i64 wd, .int .i64 fg, .int .i64 bg, .int .i64 fl] 32)).alloc (.cells #[.string ⟨#[]⟩, .int .i64 0, .int .i64 0, .int .i64 0, .int .i64 0] 32)) := (below_alloc _ _).alloc (by simp) _
  rw [World.size_alloc] at hre
  have HX := hid hbx
  have HE := hid hre
  have HB := hid hbel
  clear hbx hre hbel
  have hne := empty_no h0
  generalize partsG tx = P at *
  obtain ⟨pw, pk⟩ := P
  simp only at hpa hp
  clear h0 hr hv
  subst hp
  go_enter Tryd.func11, Tryd.ntmps11
  go_upto_region 3 with (first | (go_at_call 12; refine (hri _ HB.out).mono ?_; rintro e w2 ⟨rfl, hb⟩; have n2 := HB.out.trans (hb.mono (by simp; omega)); have d0 := HX.out.below hb (by simp; omega); have d1 := HE.out.below hb (by simp); obtain ⟨⟨b0, b1, b2, b3, b4⟩, g0, g1, g2, g3, g4⟩ := d0.five) | (go_at_call 23; refine (hwd _ n2).mono ?_; rintro e w3 ⟨rfl, hb3⟩; have n2 := n2.trans (hb3.mono n2.size); have d0 := d0.below hb3 d0.lt; have d1 := d1.below hb3 d1.lt))
  clear b0 b1 b2 b3 b4 g0 g1 g2 g3 g4
  obtain ⟨⟨b0, b1, b2, b3, b4⟩, g0, g1, g2, g3, g4⟩ := d0.five
  go_upto_region 4 with (go_at_call 26; refine (hpa _ n2).mono ?_; rintro e w4 ⟨rfl, hb4⟩)
  have n2 := n2.trans (hb4.mono n2.size)
  have d0 := d0.below hb4 d0.lt
  have d1 := d1.below hb4 d1.lt
  clear hb4 b0 b1 b2 b3 b4 g0 g1 g2 g3 g4
  obtain ⟨⟨c0, c1, c2, c3, c4⟩, f0, f1, f2, f3, f4⟩ := d1.five
  go_wp2
  refine bodyPost_ret (v := .tuple #[Ce.zero.agg, .int .i64 7]) (by simp [results, Tryd.results11, go_sem, Ce.zero, Ce.agg, Ce.cells, c0, c1, c2, c3, c4]) rfl ⟨rfl, ?_⟩
  repeat (first | exact n2 | refine Below.setCell ?_ (by simp) _)

set_option maxRecDepth 100000 in
set_option maxHeartbeats 4000000 in
theorem mark_yes (c : Ce) (r : Int) (w : World) (hs : c.tx.size ≤ 1000) (hr : rightB c = true) (h0 : c.tx.size ≠ 0) (hv : widthI r = 0) (hp : (partsG c.tx).2 ≠ 2) (hT : Tab w) (hW : TabW w) :
    Calls Tryd.prog 11 #[c.agg, .int .i32 r] w fun e w' => CePost ⟨c.tx ++ Utf8.encode r, c.wd, c.fg, c.bg, c.fl⟩ 0 e ∧ Below w.heap.size w w' := by
  have hri := fun W (hb : Below w.heap.size w W) => right_any c W (by unfold maxLen; omega) (hT.below hb) (hW.below hb)
  have hwd := fun W (hb : Below w.heap.size w W) => width_any r W (hT.below hb) (hW.below hb)
  have htx := fun W (hb : Below w.heap.size w W) => utext_yes r (width_letter (by omega)) W (hT.below hb)
  have hez : (Utf8.encode r).size ≤ 4 := by rw [(enc_bytes (width_letter (by omega))).1]; exact (sizeOf_bd r).2
  rw [hr] at hri
  rw [hv] at hwd
  have hpa := fun W (hb : Below w.heap.size w W) => parts_any c.tx W (by unfold maxLen; omega) (hT.below hb) (hW.below hb)
  unfold TwoInts at hpa
  obtain ⟨tx, wd, fg, bg, fl⟩ := c
  unfold Ce.agg Ce.cells at hri ⊢
  simp only at hri hs h0 hp hpa ⊢
  have hbx := (Box.new w 32 #[.string tx, .int .i64 wd, .int .i64 fg, .int .i64 bg, .int .i64 fl]).alloc (.cells #[.string ⟨#[]⟩, .int .i64 0, .int .i64 0, .int .i64 0, .int .i64 0] 32)
  have hre := Box.new (w.alloc (.cells #[.string tx, .int .i64 wd, .int .i64 fg, .int .i64 bg, .int .i64 fl] 32)) 32 #[.string ⟨#[]⟩, .int .i64 0, .int .i64 0, .int .i64 0, .int .i64 0]
  have hbel : Below w.heap.size w ((w.alloc (.cells #[.string tx, .int .i64 wd, .int .i64 fg, .int .i64 bg, .int .i64 fl] 32)).alloc (.cells #[.string ⟨#[]⟩, .int .i64 0, .int .i64 0, .int .i64 0, .int .i64 0] 32)) := (below_alloc _ _).alloc (by simp) _
  rw [World.size_alloc] at hre
  have HX := hid hbx
  have HE := hid hre
  have HB := hid hbel
  clear hbx hre hbel
  have hne := empty_no h0
  generalize partsG tx = P at *
  obtain ⟨pw, pk⟩ := P
  simp only at hpa hp
  clear h0 hr hv
  have hpk : ((pk : Int) == 2) = false := by simp; omega
  generalize Utf8.encode r = E at *
  have hcat : ∀ W, (Op.stringOp .add tx E).run Tryd.prog W = .ok (.string (tx ++ E)) W := fun W => run_string_add W _ _ (by omega) (by omega)
  clear hp hez hs
  go_enter Tryd.func11, Tryd.ntmps11
  go_upto_region 3 with (first | (go_at_call 12; refine (hri _ HB.out).mono ?_; rintro e w2 ⟨rfl, hb⟩; have n2 := HB.out.trans (hb.mono (by simp; omega)); have d0 := HX.out.below hb (by simp; omega); have d1 := HE.out.below hb (by simp); obtain ⟨⟨b0, b1, b2, b3, b4⟩, g0, g1, g2, g3, g4⟩ := d0.five) | (go_at_call 23; refine (hwd _ n2).mono ?_; rintro e w3 ⟨rfl, hb3⟩; have n2 := n2.trans (hb3.mono n2.size); have d0 := d0.below hb3 d0.lt; have d1 := d1.below hb3 d1.lt))
  clear b0 b1 b2 b3 b4 g0 g1 g2 g3 g4
  obtain ⟨⟨b0, b1, b2, b3, b4⟩, g0, g1, g2, g3, g4⟩ := d0.five
  go_upto_region 4 with (go_at_call 26; refine (hpa _ n2).mono ?_; rintro e w4 ⟨rfl, hb4⟩)
  have n2 := n2.trans (hb4.mono n2.size)
  have d0 := d0.below hb4 d0.lt
  have d1 := d1.below hb4 d1.lt
  clear hb4 b0 b1 b2 b3 b4 g0 g1 g2 g3 g4
  go_upto_region 7 with (go_at_call 25; refine (htx _ n2).mono ?_; rintro e w5 ⟨rfl, hb5⟩)
  have n2 := n2.trans (hb5.mono n2.size)
  have d0 := d0.below hb5 d0.lt
  have d1 := d1.below hb5 d1.lt
  clear hb5
  obtain ⟨⟨b0, b1, b2, b3, b4⟩, g0, g1, g2, g3, g4⟩ := d0.five
  obtain ⟨⟨c0, c1, c2, c3, c4⟩, f0, f1, f2, f3, f4⟩ := d1.five
  go_wp2
  refine bodyPost_ret (v := .tuple #[Ce.agg ⟨tx ++ E, wd, fg, bg, fl⟩, .int .i64 0]) (by simp [results, Tryd.results11, go_sem, Ce.agg, Ce.cells, c0, c1, c2, c3, c4]) rfl ⟨rfl, ?_⟩
  repeat (first | exact n2 | refine Below.setCell ?_ (by simp) _)
end Go.Proofs.YtlcahkbbefcjnaaDoor
