/- Layer 4, the package: a letter's cell, a cell with a mark more, a blank one. -/
import Derived.Test.YtlcahkbbefcjnaaDoorCellN
namespace Go.Proofs.YtlcahkbbefcjnaaDoor
open Go.RowKit

def CePost (c : Ce) (n : Int) (e : Ending) : Prop := e = .returned (.tuple #[c.agg, .int .i64 n])

set_option maxHeartbeats 400000 in
theorem utext_yes (r : Int) (hr : letterB r = true) (w : World) (hT : Tab w) :
    Calls Tryd.prog 25 #[.int .i32 r] w fun e w' => e = .returned (.tuple #[.string (Utf8.encode r), .int .i64 0]) ∧ Below w.heap.size w w' := by
  have hl := letter_any r w hT
  rw [hr] at hl
  go_enter Tryd.func25, Tryd.ntmps25
  go_wp2_with (go_at_call 37; refine hl.mono ?_; rintro e w' ⟨rfl, hb⟩)
  go_ret2
  exact ⟨rfl, hb⟩

set_option maxRecDepth 100000 in
set_option maxHeartbeats 1000000 in
theorem of_no (r : Int) (a : At) (w : World) (h : widthI r < 1 ∨ lookB a = false) (hT : Tab w) (hW : TabW w) :
    Calls Tryd.prog 10 #[.int .i32 r, a.agg] w fun e w' => CePost Ce.zero 1 e ∧ Below w.heap.size w w' := by
  have hwd := fun W (hb : Below w.heap.size w W) => width_any r W (hT.below hb) (hW.below hb)
  have hlook := pLook_any a
  obtain ⟨fg, bg, fl⟩ := a
  unfold At.agg at hlook ⊢
  simp only at hlook ⊢
  have hbx := (Box.new w 30 #[.int .i64 fg, .int .i64 bg, .int .i64 fl]).alloc (.cells #[.string ⟨#[]⟩, .int .i64 0, .int .i64 0, .int .i64 0, .int .i64 0] 32)
  have hre := Box.new (w.alloc (.cells #[.int .i64 fg, .int .i64 bg, .int .i64 fl] 30)) 32 #[.string ⟨#[]⟩, .int .i64 0, .int .i64 0, .int .i64 0, .int .i64 0]
  have hbel : Below w.heap.size w ((w.alloc (.cells #[.int .i64 fg, .int .i64 bg, .int .i64 fl] 30)).alloc (.cells #[.string ⟨#[]⟩, .int .i64 0, .int .i64 0, .int .i64 0, .int .i64 0] 32)) := (below_alloc _ _).alloc (by simp) _
  rw [World.size_alloc] at hre
  have HX := hid hbx
  have HE := hid hre
  have HB := hid hbel
  clear hbx hre hbel
  by_cases hv : widthI r < 1
  · generalize widthI r = V at *
    clear h hlook
    go_enter Tryd.func10, Tryd.ntmps10
    go_upto_region 2 with (go_at_call 23; refine (hwd _ HB.out).mono ?_; rintro e w2 ⟨rfl, hb⟩)
    have n2 := HB.out.trans (hb.mono (by simp; omega))
    have d1 := HE.out.below hb (by simp)
    clear hb
    obtain ⟨⟨c0, c1, c2, c3, c4⟩, f0, f1, f2, f3, f4⟩ := d1.five
    go_wp2
    refine bodyPost_ret (v := .tuple #[Ce.zero.agg, .int .i64 1]) (by simp [results, Tryd.results10, go_sem, Ce.zero, Ce.agg, Ce.cells, c0, c1, c2, c3, c4]) rfl ⟨rfl, ?_⟩
    repeat (first | exact n2 | refine Below.setCell ?_ (by simp) _)
  · have hl : lookB ⟨fg, bg, fl⟩ = false := by
      rcases h with h | h
      · exact absurd h hv
      · exact h
    rw [hl] at hlook
    have hv' : 1 ≤ widthI r := by omega
    generalize widthI r = V at *
    clear h hl hv
    go_enter Tryd.func10, Tryd.ntmps10
    go_upto_region 2 with (go_at_call 23; refine (hwd _ HB.out).mono ?_; rintro e w2 ⟨rfl, hb⟩)
    have n2 := HB.out.trans (hb.mono (by simp; omega))
    have d0 := HX.out.below hb (by simp; omega)
    have d1 := HE.out.below hb (by simp)
    clear hb
    obtain ⟨⟨c0, c1, c2⟩, f0, f1, f2⟩ := d0.three
    go_upto_region 3 with (go_at_call 24; refine (hlook _).mono ?_; rintro e w3 ⟨rfl, hb3⟩)
    have n3 := n2.trans (hb3.mono n2.size)
    have d1 := d1.below hb3 d1.lt
    clear hb3 c0 c1 c2 f0 f1 f2
    obtain ⟨⟨c0, c1, c2, c3, c4⟩, f0, f1, f2, f3, f4⟩ := d1.five
    go_wp2
    refine bodyPost_ret (v := .tuple #[Ce.zero.agg, .int .i64 1]) (by simp [results, Tryd.results10, go_sem, Ce.zero, Ce.agg, Ce.cells, c0, c1, c2, c3, c4]) rfl ⟨rfl, ?_⟩
    repeat (first | exact n3 | refine Below.setCell ?_ (by simp) _)

set_option maxRecDepth 100000 in
set_option maxHeartbeats 1000000 in
theorem of_yes (r : Int) (a : At) (w : World) (h1 : 1 ≤ widthI r) (hl : lookB a = true) (hT : Tab w) (hW : TabW w) :
    Calls Tryd.prog 10 #[.int .i32 r, a.agg] w fun e w' => CePost ⟨Utf8.encode r, widthI r, a.fg, a.bg, a.fl⟩ 0 e ∧ Below w.heap.size w w' := by
  have hwd := fun W (hb : Below w.heap.size w W) => width_any r W (hT.below hb) (hW.below hb)
  have htx := fun W (hb : Below w.heap.size w W) => utext_yes r (width_letter (by omega)) W (hT.below hb)
  have hlook := pLook_any a
  rw [hl] at hlook
  obtain ⟨fg, bg, fl⟩ := a
  unfold At.agg at hlook ⊢
  simp only at hlook ⊢
  have hbx := (Box.new w 30 #[.int .i64 fg, .int .i64 bg, .int .i64 fl]).alloc (.cells #[.string ⟨#[]⟩, .int .i64 0, .int .i64 0, .int .i64 0, .int .i64 0] 32)
  have hre := Box.new (w.alloc (.cells #[.int .i64 fg, .int .i64 bg, .int .i64 fl] 30)) 32 #[.string ⟨#[]⟩, .int .i64 0, .int .i64 0, .int .i64 0, .int .i64 0]
  have hbel : Below w.heap.size w ((w.alloc (.cells #[.int .i64 fg, .int .i64 bg, .int .i64 fl] 30)).alloc (.cells #[.string ⟨#[]⟩, .int .i64 0, .int .i64 0, .int .i64 0, .int .i64 0] 32)) := (below_alloc _ _).alloc (by simp) _
  rw [World.size_alloc] at hre
  have HX := hid hbx
  have HE := hid hre
  have HB := hid hbel
  clear hbx hre hbel hl
  generalize widthI r = V at *
  generalize Utf8.encode r = E at *
  go_enter Tryd.func10, Tryd.ntmps10
  go_upto_region 2 with (go_at_call 23; refine (hwd _ HB.out).mono ?_; rintro e w2 ⟨rfl, hb⟩)
  have n2 := HB.out.trans (hb.mono (by simp; omega))
  have d0 := HX.out.below hb (by simp; omega)
  have d1 := HE.out.below hb (by simp)
  clear hb
  obtain ⟨⟨c0, c1, c2⟩, f0, f1, f2⟩ := d0.three
  go_upto_region 4 with (go_at_call 24; refine (hlook _).mono ?_; rintro e w3 ⟨rfl, hb3⟩)
  have n3 := n2.trans (hb3.mono n2.size)
  have d0 := d0.below hb3 d0.lt
  have d1 := d1.below hb3 d1.lt
  clear hb3 c0 c1 c2 f0 f1 f2
  go_upto_region 5 with (go_at_call 25; refine (htx _ n3).mono ?_; rintro e w4 ⟨rfl, hb4⟩)
  have n4 := n3.trans (hb4.mono n3.size)
  have d0 := d0.below hb4 d0.lt
  have d1 := d1.below hb4 d1.lt
  clear hb4
  obtain ⟨⟨b0, b1, b2⟩, g0, g1, g2⟩ := d0.three
  obtain ⟨⟨c0, c1, c2, c3, c4⟩, f0, f1, f2, f3, f4⟩ := d1.five
  go_wp2
  refine bodyPost_ret (v := .tuple #[Ce.agg ⟨E, V, fg, bg, fl⟩, .int .i64 0]) (by simp [results, Tryd.results10, go_sem, Ce.agg, Ce.cells, c0, c1, c2, c3, c4]) rfl ⟨rfl, ?_⟩
  repeat (first | exact n4 | refine Below.setCell ?_ (by simp) _)

set_option maxRecDepth 100000 in
set_option maxHeartbeats 1000000 in
theorem blank_any (a : At) (w : World) :
    Calls Tryd.prog 14 #[a.agg] w fun e w' => e = .returned (Ce.agg ⟨⟨#[]⟩, 1, 0, a.bg, 0⟩) ∧ Below w.heap.size w w' := by
  obtain ⟨fg, bg, fl⟩ := a
  unfold At.agg
  go_enter Tryd.func14, Tryd.ntmps14
  go_wp2
  refine bodyPost_ret (v := Ce.agg ⟨⟨#[]⟩, 1, 0, bg, 0⟩) (by simp [results, Tryd.results14, go_sem, Ce.agg, Ce.cells]) rfl ⟨rfl, ?_⟩
  exact (below_alloc _ _).alloc (by simp) _
end Go.Proofs.YtlcahkbbefcjnaaDoor
