/- The law CellMakes, walked. -/
import Derived.Test.YtlcahkbbefcjnaaDoorCellH
import Derived.Test.YtlcahkbbefcjnaaDoorCellYa
import Derived.Test.YtlcahkbbefcjnaaDoorCellZ
import Derived.Test.YtlcahkbbefcjnaaDoorUtfT
namespace Go.Proofs.YtlcahkbbefcjnaaDoor
open Go.RowKit

set_option maxRecDepth 100000 in
set_option maxHeartbeats 4000000 in
theorem cmakes_2 (c : Ce) (r : Int) (a : At) (w : World) (hs : c.tx.size ≤ maxLen) (h7 : widthI r < 1 ∨ (1 ≤ widthI r ∧ lookB a = false)) (h12 : rightB ⟨c.tx.extract 0 20, c.wd, c.fg, c.bg, c.fl⟩ = false ∨ (c.tx.extract 0 20).size = 0 ∨ widthI r ≠ 0) (hT : Tab w) (hW : TabW w) :
    Calls Tryd.prog 4 #[c.agg, .int .i32 r, a.agg] w fun e w' => e = .returned (.bool true) ∧ Below w.heap.size w w' := by
  have hcu := fun W => lcut_any c W hs
  have hzx : (c.tx.extract 0 20).size ≤ 20 := by rw [size_extract']; omega
  obtain ⟨tx, wd, fg, bg, fl⟩ := c
  obtain ⟨ag, ab, al⟩ := a
  simp only at hcu hzx h12 ⊢
  generalize tx.extract 0 20 = x at *
  have hri := fun W (hb : Below w.heap.size w W) => right_any ⟨x, wd, fg, bg, fl⟩ W (by unfold maxLen; show x.size ≤ _; omega) (hT.below hb) (hW.below hb)
  have hrr := fun W => rright_any ⟨x, wd, fg, bg, fl⟩ W (by show x.size ≤ 1000; omega)
  have hbl := blank_any ⟨ag, ab, al⟩
  have hrb := rblank_any ⟨ag, ab, al⟩
  have hrw := refWidth_any r
  have hrl := rLook_any ⟨ag, ab, al⟩
  have hal := alive4_any
  have hof := fun W (hb : Below w.heap.size w W) => of_no r ⟨ag, ab, al⟩ W (h7.imp id And.right) (hT.below hb) (hW.below hb)
  have hmk := fun W (hb : Below w.heap.size w W) => mark_no ⟨x, wd, fg, bg, fl⟩ r W (by show x.size ≤ 1000; omega) h12 (hT.below hb) (hW.below hb)
  simp only [CePost, Ce.zero, Ce.agg, Ce.cells, At.agg] at hcu hof hmk hri hrr hbl hrb hrl ⊢
  generalize rightB ⟨x, wd, fg, bg, fl⟩ = R at *
  generalize widthI r = V at *
  generalize lookB ⟨ag, ab, al⟩ = LA at *
  have hbc := (Box.new w 32 #[.string tx, .int .i64 wd, .int .i64 fg, .int .i64 bg, .int .i64 fl]).alloc (.cells #[.int .i64 ag, .int .i64 ab, .int .i64 al] 30)
  have hba := Box.new (w.alloc (.cells #[.string tx, .int .i64 wd, .int .i64 fg, .int .i64 bg, .int .i64 fl] 32)) 30 #[.int .i64 ag, .int .i64 ab, .int .i64 al]
  have hbel : Below w.heap.size w ((w.alloc (.cells #[.string tx, .int .i64 wd, .int .i64 fg, .int .i64 bg, .int .i64 fl] 32)).alloc (.cells #[.int .i64 ag, .int .i64 ab, .int .i64 al] 30)) := (below_alloc _ _).alloc (by simp) _
  rw [World.size_alloc] at hba
  have HC := hid hbc
  have HA := hid hba
  have HB := hid hbel
  clear hbc hba hbel hs
  go_enter Tryd.func4, Tryd.ntmps4
  go_upto_region 2 with (go_at_call 9; refine (hcu _).mono ?_; rintro e w1 ⟨rfl, hb1⟩; have m1 := HC.out.below hb1 (by simp; omega); obtain ⟨⟨s0, s1, s2, s3, s4⟩, sf0, sf1, sf2, sf3, sf4⟩ := m1.five)
  have n1 := HB.out.trans (hb1.mono (by simp; omega))
  have dA := HA.out.below hb1 (by simp)
  have m2 : Box (((((w1.setCell ⟨w.heap.size, 0, none⟩ (.string x)).setCell ⟨w.heap.size, 1, none⟩ (.int .i64 wd)).setCell ⟨w.heap.size, 2, none⟩ (.int .i64 fg)).setCell ⟨w.heap.size, 3, none⟩ (.int .i64 bg)).setCell ⟨w.heap.size, 4, none⟩ (.int .i64 fl)) w.heap.size 32 #[.string x, .int .i64 wd, .int .i64 fg, .int .i64 bg, .int .i64 fl] :=
    ((((m1.set (i := 0) (.string x)).set (i := 1) (.int .i64 wd)).set (i := 2) (.int .i64 fg)).set (i := 3) (.int .i64 bg)).set (i := 4) (.int .i64 fl)
  have dA := ((((dA.other (b' := w.heap.size) (i := 0) (by omega) (.string x)).other (b' := w.heap.size) (i := 1) (by omega) (.int .i64 wd)).other (b' := w.heap.size) (i := 2) (by omega) (.int .i64 fg)).other (b' := w.heap.size) (i := 3) (by omega) (.int .i64 bg)).other (b' := w.heap.size) (i := 4) (by omega) (.int .i64 fl)
  have n1 := below_set (i := 4) (below_set (i := 3) (below_set (i := 2) (below_set (i := 1) (below_set (i := 0) n1 (Nat.le_refl _) (.string x)) (Nat.le_refl _) (.int .i64 wd)) (Nat.le_refl _) (.int .i64 fg)) (Nat.le_refl _) (.int .i64 bg)) (Nat.le_refl _) (.int .i64 fl)
  generalize ((((w1.setCell ⟨w.heap.size, 0, none⟩ (.string x)).setCell ⟨w.heap.size, 1, none⟩ (.int .i64 wd)).setCell ⟨w.heap.size, 2, none⟩ (.int .i64 fg)).setCell ⟨w.heap.size, 3, none⟩ (.int .i64 bg)).setCell ⟨w.heap.size, 4, none⟩ (.int .i64 fl) = W1 at *
  clear hb1 m1 s0 s1 s2 s3 s4 sf0 sf1 sf2 sf3 sf4 HC HA HB hcu
  have dC := m2
  clear m2
  obtain ⟨⟨a0, a1, a2⟩, af0, af1, af2⟩ := dA.three
  go_upto_region 3 with (go_at_call 10; refine (hof _ n1).mono ?_; rintro e w2 ⟨rfl, hb2⟩)
  clear a0 a1 a2 af0 af1 af2
  have n2 := (n1.trans (hb2.mono n1.size)).alloc (Nat.le_trans n1.size hb2.size) (.cells #[.string ⟨#[]⟩, .int .i64 0, .int .i64 0, .int .i64 0, .int .i64 0] 32)
  have dC := (dC.below hb2 dC.lt).alloc (.cells #[.string ⟨#[]⟩, .int .i64 0, .int .i64 0, .int .i64 0, .int .i64 0] 32)
  have dA := (dA.below hb2 dA.lt).alloc (.cells #[.string ⟨#[]⟩, .int .i64 0, .int .i64 0, .int .i64 0, .int .i64 0] 32)
  have d2 := Box.new w2 32 #[.string ⟨#[]⟩, .int .i64 0, .int .i64 0, .int .i64 0, .int .i64 0]
  generalize w2.alloc (.cells #[.string ⟨#[]⟩, .int .i64 0, .int .i64 0, .int .i64 0, .int .i64 0] 32) = W2 at *
  generalize w2.heap.size = N2 at *
  clear hb2
  obtain ⟨⟨c0, c1, c2, c3, c4⟩, cf0, cf1, cf2, cf3, cf4⟩ := dC.five
  go_upto_region 4 with (go_at_call 11; refine (hmk _ n2).mono ?_; rintro e w3 ⟨rfl, hb3⟩)
  clear c0 c1 c2 c3 c4 cf0 cf1 cf2 cf3 cf4
  have n3 := (n2.trans (hb3.mono n2.size)).alloc (Nat.le_trans n2.size hb3.size) (.cells #[.string ⟨#[]⟩, .int .i64 0, .int .i64 0, .int .i64 0, .int .i64 0] 32)
  have dC := (dC.below hb3 dC.lt).alloc (.cells #[.string ⟨#[]⟩, .int .i64 0, .int .i64 0, .int .i64 0, .int .i64 0] 32)
  have dA := (dA.below hb3 dA.lt).alloc (.cells #[.string ⟨#[]⟩, .int .i64 0, .int .i64 0, .int .i64 0, .int .i64 0] 32)
  have d2 := (d2.below hb3 d2.lt).alloc (.cells #[.string ⟨#[]⟩, .int .i64 0, .int .i64 0, .int .i64 0, .int .i64 0] 32)
  have d3 := Box.new w3 32 #[.string ⟨#[]⟩, .int .i64 0, .int .i64 0, .int .i64 0, .int .i64 0]
  generalize w3.alloc (.cells #[.string ⟨#[]⟩, .int .i64 0, .int .i64 0, .int .i64 0, .int .i64 0] 32) = W3 at *
  generalize w3.heap.size = N3 at *
  clear hb3
  clear hof hmk
  obtain ⟨⟨c0, c1, c2, c3, c4⟩, cf0, cf1, cf2, cf3, cf4⟩ := dC.five
  obtain ⟨⟨a0, a1, a2⟩, af0, af1, af2⟩ := dA.three
  have c0 := cell_regrown c0
  have c1 := cell_regrown c1
  have c2 := cell_regrown c2
  have c3 := cell_regrown c3
  have c4 := cell_regrown c4
  have a0 := cell_regrown a0
  have a1 := cell_regrown a1
  have a2 := cell_regrown a2
  have k1 : ∀ d os, Calls Tryd.prog 12 #[.agg #[.string x, .int .i64 wd, .int .i64 fg, .int .i64 bg, .int .i64 fl]] (Go.Sort.grow (redrawn W3 d) os) fun e w'' => e = .returned (.bool R) ∧ ∃ p : Regrown, w'' = Go.Sort.grow (redrawn W3 p.d) p.os := fun d os => Calls.regrown_of (hri _ (n3.trans ((below_regrown W3 d os).mono n3.size)))
  have k2 : ∀ d os, Calls Tryd.prog 13 #[.agg #[.string x, .int .i64 wd, .int .i64 fg, .int .i64 bg, .int .i64 fl]] (Go.Sort.grow (redrawn W3 d) os) fun e w'' => e = .returned (.bool R) ∧ ∃ p : Regrown, w'' = Go.Sort.grow (redrawn W3 p.d) p.os := fun d os => Calls.regrown_of (hrr _)
  have k3 : ∀ d os, Calls Tryd.prog 14 #[.agg #[.int .i64 ag, .int .i64 ab, .int .i64 al]] (Go.Sort.grow (redrawn W3 d) os) fun e w'' => e = .returned (.agg #[.string ⟨#[]⟩, .int .i64 1, .int .i64 0, .int .i64 ab, .int .i64 0]) ∧ ∃ p : Regrown, w'' = Go.Sort.grow (redrawn W3 p.d) p.os := fun d os => Calls.regrown_of (hbl _)
  have k4 : ∀ d os, Calls Tryd.prog 15 #[.agg #[.int .i64 ag, .int .i64 ab, .int .i64 al]] (Go.Sort.grow (redrawn W3 d) os) fun e w'' => e = .returned (.agg #[.string ⟨#[]⟩, .int .i64 1, .int .i64 0, .int .i64 ab, .int .i64 0]) ∧ ∃ p : Regrown, w'' = Go.Sort.grow (redrawn W3 p.d) p.os := fun d os => Calls.regrown_of (hrb _)
  have k5 : ∀ d os, Calls Tryd.prog 16 #[] (Go.Sort.grow (redrawn W3 d) os) fun e w'' => e = .returned (.bool true) ∧ ∃ p : Regrown, w'' = Go.Sort.grow (redrawn W3 p.d) p.os := fun d os => Calls.regrown_of (hal _)
  have hnq := run_neqC ⟨#[]⟩ 1 0 ab 0
  have hRR : (R != R) = false := by simp
  refine wp_region_quiet_below (by kernel_rfl) (by kernel_rfl) ?_
  repeat (quiet_step (first | exact k1 _ _ | exact k2 _ _ | exact k3 _ _ | exact k4 _ _ | exact k5 _ _))
  refine wpQuiet_nil ?_
  intro _ hw'
  obtain ⟨⟨dq, osq⟩, hw''⟩ := hw'
  subst hw''
  have hbq := below_regrown W3 dq osq
  have n4 := n3.trans (hbq.mono n3.size)
  have dC := dC.below hbq dC.lt
  have dA := dA.below hbq dA.lt
  have d2 := d2.below hbq d2.lt
  have d3 := d3.below hbq d3.lt
  generalize Go.Sort.grow (redrawn W3 dq) osq = W4 at *
  clear hbq
  clear k1 k2 k3 k4 k5 hnq hri hbl hrb hal
  clear c0 c1 c2 c3 c4 cf0 cf1 cf2 cf3 cf4
  clear a0 a1 a2 af0 af1 af2
  obtain ⟨⟨e0, e1, e2, e3, e4⟩, ef0, ef1, ef2, ef3, ef4⟩ := d2.five
  obtain ⟨⟨a0, a1, a2⟩, af0, af1, af2⟩ := dA.three
  have hz := run_neqC ⟨#[]⟩ 0 0 0 0
  rcases h7 with h7 | ⟨h7, rfl⟩
  · go_upto_region 12 with (go_at_call 17; refine (hrw _).mono ?_; rintro e w5 ⟨rfl, rfl⟩)
    cases R
    · obtain ⟨⟨c0, c1, c2, c3, c4⟩, cf0, cf1, cf2, cf3, cf4⟩ := dC.five
      have heq := run_eqlC ⟨#[]⟩ 0 0 0 0
      go_wp2_with (go_at_call 13; refine (hrr _).mono ?_; rintro e w7 ⟨rfl, hb7⟩; have dC := dC.below hb7 dC.lt; obtain ⟨⟨c0, c1, c2, c3, c4⟩, cf0, cf1, cf2, cf3, cf4⟩ := dC.five; have d3 := d3.below hb7 d3.lt; obtain ⟨⟨b0, b1, b2, b3, b4⟩, bf0, bf1, bf2, bf3, bf4⟩ := d3.five)
      go_ret
      exact ⟨rfl, n4.trans (hb7.mono n4.size)⟩
    · by_cases hx0 : x.size = 0
      · have hxe := empty_yes hx0
        subst hxe
        obtain ⟨⟨c0, c1, c2, c3, c4⟩, cf0, cf1, cf2, cf3, cf4⟩ := dC.five
        have heq := run_eqlC ⟨#[]⟩ 0 0 0 0
        go_wp2_with (go_at_call 13; refine (hrr _).mono ?_; rintro e w7 ⟨rfl, hb7⟩; have dC := dC.below hb7 dC.lt; obtain ⟨⟨c0, c1, c2, c3, c4⟩, cf0, cf1, cf2, cf3, cf4⟩ := dC.five; have d3 := d3.below hb7 d3.lt; obtain ⟨⟨b0, b1, b2, b3, b4⟩, bf0, bf1, bf2, bf3, bf4⟩ := d3.five)
        go_ret
        exact ⟨rfl, n4.trans (hb7.mono n4.size)⟩
      · have hne := empty_no hx0
        have hvn : (V != 0) = true := by
          rcases h12 with h | h | h
          · exact absurd h (by simp)
          · exact absurd h hx0
          · simp [h]
        clear h12
        obtain ⟨⟨c0, c1, c2, c3, c4⟩, cf0, cf1, cf2, cf3, cf4⟩ := dC.five
        clear hx0
        have heq := run_eqlC ⟨#[]⟩ 0 0 0 0
        go_wp2_with (go_at_call 13; refine (hrr _).mono ?_; rintro e w7 ⟨rfl, hb7⟩; have dC := dC.below hb7 dC.lt; obtain ⟨⟨c0, c1, c2, c3, c4⟩, cf0, cf1, cf2, cf3, cf4⟩ := dC.five; have d3 := d3.below hb7 d3.lt; obtain ⟨⟨b0, b1, b2, b3, b4⟩, bf0, bf1, bf2, bf3, bf4⟩ := d3.five)
        go_ret
        exact ⟨rfl, n4.trans (hb7.mono n4.size)⟩
  · have h7' : ¬ V < 1 := by omega
    go_upto_region 12 with (first | (go_at_call 17; refine (hrw _).mono ?_; rintro e w5 ⟨rfl, rfl⟩) | (go_at_call 18; refine (hrl _).mono ?_; rintro e w6 ⟨rfl, hb6⟩; obtain ⟨⟨e0, e1, e2, e3, e4⟩, ef0, ef1, ef2, ef3, ef4⟩ := (d2.below hb6 d2.lt).five))
    have n6 := n4.trans (hb6.mono n4.size)
    have dC := dC.below hb6 dC.lt
    have d3 := d3.below hb6 d3.lt
    cases R
    · obtain ⟨⟨c0, c1, c2, c3, c4⟩, cf0, cf1, cf2, cf3, cf4⟩ := dC.five
      have heq := run_eqlC ⟨#[]⟩ 0 0 0 0
      go_wp2_with (go_at_call 13; refine (hrr _).mono ?_; rintro e w7 ⟨rfl, hb7⟩; have dC := dC.below hb7 dC.lt; obtain ⟨⟨c0, c1, c2, c3, c4⟩, cf0, cf1, cf2, cf3, cf4⟩ := dC.five; have d3 := d3.below hb7 d3.lt; obtain ⟨⟨b0, b1, b2, b3, b4⟩, bf0, bf1, bf2, bf3, bf4⟩ := d3.five)
      go_ret
      exact ⟨rfl, n6.trans (hb7.mono n6.size)⟩
    · by_cases hx0 : x.size = 0
      · have hxe := empty_yes hx0
        subst hxe
        obtain ⟨⟨c0, c1, c2, c3, c4⟩, cf0, cf1, cf2, cf3, cf4⟩ := dC.five
        have heq := run_eqlC ⟨#[]⟩ 0 0 0 0
        go_wp2_with (go_at_call 13; refine (hrr _).mono ?_; rintro e w7 ⟨rfl, hb7⟩; have dC := dC.below hb7 dC.lt; obtain ⟨⟨c0, c1, c2, c3, c4⟩, cf0, cf1, cf2, cf3, cf4⟩ := dC.five; have d3 := d3.below hb7 d3.lt; obtain ⟨⟨b0, b1, b2, b3, b4⟩, bf0, bf1, bf2, bf3, bf4⟩ := d3.five)
        go_ret
        exact ⟨rfl, n6.trans (hb7.mono n6.size)⟩
      · have hne := empty_no hx0
        have hvn : (V != 0) = true := by
          rcases h12 with h | h | h
          · exact absurd h (by simp)
          · exact absurd h hx0
          · simp [h]
        clear h12
        obtain ⟨⟨c0, c1, c2, c3, c4⟩, cf0, cf1, cf2, cf3, cf4⟩ := dC.five
        clear hx0
        have heq := run_eqlC ⟨#[]⟩ 0 0 0 0
        go_wp2_with (go_at_call 13; refine (hrr _).mono ?_; rintro e w7 ⟨rfl, hb7⟩; have dC := dC.below hb7 dC.lt; obtain ⟨⟨c0, c1, c2, c3, c4⟩, cf0, cf1, cf2, cf3, cf4⟩ := dC.five; have d3 := d3.below hb7 d3.lt; obtain ⟨⟨b0, b1, b2, b3, b4⟩, bf0, bf1, bf2, bf3, bf4⟩ := d3.five)
        go_ret
        exact ⟨rfl, n6.trans (hb7.mono n6.size)⟩

end Go.Proofs.YtlcahkbbefcjnaaDoor
