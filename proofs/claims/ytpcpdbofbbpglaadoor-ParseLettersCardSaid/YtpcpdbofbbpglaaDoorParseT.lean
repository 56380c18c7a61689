/- Layer 5, the package: Right. Made by wip/gen/parseT.py. -/
import Derived.Test.YtpcpdbofbbpglaaDoorParseP
namespace Go.Proofs.YtpcpdbofbbpglaaDoor
open Go.RowKit

def rightQ (p : Pa) : Bool :=
  if p.st = 0 then (decide ((firstG p.pend).e = 2) && bareB { p with pend := nilB })
  else if p.st = 4 then (betB p.inter && ((privB p.priv && parsB p.params) && bareB ⟨p.st, 0, [], 0, p.osc, p.pend⟩))
  else if p.st = 3 then ((privB p.priv && parsB p.params) && bareB ⟨p.st, 0, [], p.inter, p.osc, p.pend⟩)
  else if p.st = 2 then (betB p.inter && bareB { p with inter := 0 })
  else if p.st = 6 then (decide (p.osc.size ≤ 64) && bareB { p with osc := nilB })
  else if p.st = 1 ∨ p.st = 5 ∨ p.st = 7 ∨ p.st = 8 then bareB p
  else false
theorem nil_iff {s : ByteArray} : s = nilB ↔ s.size = 0 := ⟨fun h => by rw [h]; rfl, empty_yes⟩
theorem rightQ_iff (p : Pa) : rightQ p = true ↔ rightP p := by
  obtain ⟨st, pr, ps, it, os, pe⟩ := p
  unfold rightQ rightP zeroR parR bareB betB privB parsB
  simp only [nil_iff]
  have hz : nilB.size = 0 := rfl
  by_cases h0 : st = 0
  · subst h0
    rw [if_pos rfl]
    simp [hz]
    constructor
    · rintro ⟨h1, h2, h3, h4, h5⟩; exact ⟨h2, h3, h4, h5, h1⟩
    · rintro ⟨h2, h3, h4, h5, h1⟩; exact ⟨h1, h2, h3, h4, h5⟩
  rw [if_neg h0]
  by_cases h4 : st = 4
  · subst h4
    rw [if_pos rfl]
    simp
    constructor
    · rintro ⟨⟨h1, h2⟩, ⟨h3, h4, h5⟩, h6, h7⟩; exact ⟨⟨h4, h5, h3, h6, h7⟩, h1, h2⟩
    · rintro ⟨⟨h4, h5, h3, h6, h7⟩, h1, h2⟩; exact ⟨⟨h1, h2⟩, ⟨h3, h4, h5⟩, h6, h7⟩
  rw [if_neg h4]
  by_cases h3 : st = 3
  · subst h3
    rw [if_pos rfl]
    simp
    constructor
    · rintro ⟨⟨h3, h4, h5⟩, h1, h6, h7⟩; exact ⟨⟨h4, h5, h3, h6, h7⟩, h1⟩
    · rintro ⟨⟨h4, h5, h3, h6, h7⟩, h1⟩; exact ⟨⟨h3, h4, h5⟩, h1, h6, h7⟩
  rw [if_neg h3]
  by_cases h2 : st = 2
  · subst h2
    rw [if_pos rfl]
    simp
    constructor
    · rintro ⟨⟨h1, h2⟩, h3, h4, h5, h6⟩; exact ⟨h3, h4, ⟨h1, h2⟩, h5, h6⟩
    · rintro ⟨h3, h4, ⟨h1, h2⟩, h5, h6⟩; exact ⟨⟨h1, h2⟩, h3, h4, h5, h6⟩
  rw [if_neg h2]
  by_cases h6 : st = 6
  · subst h6
    rw [if_pos rfl]
    simp [hz]
    constructor
    · rintro ⟨h1, h2, h3, h4, h5⟩; exact ⟨h2, h3, h4, h1, h5⟩
    · rintro ⟨h2, h3, h4, h1, h5⟩; exact ⟨h1, h2, h3, h4, h5⟩
  rw [if_neg h6]
  by_cases h1 : st = 1 ∨ st = 5 ∨ st = 7 ∨ st = 8
  · rw [if_pos h1]
    simp only [h0, h4, h3, h2, h6, h1, false_and, true_and, or_false, false_or, decide_eq_true_eq]
  · rw [if_neg h1]
    simp only [h0, h4, h3, h2, h6, h1, false_and, or_false, Bool.false_eq_true]

set_option maxRecDepth 100000 in
set_option maxHeartbeats 2000000 in
theorem right_s1 (p : Pa) (A : Option Addr) (c : Nat) (w : World) (hs : p.st = 1) :
    Calls Tryd.prog 9 #[.agg (p.cells (.slice A p.params.length c))] w fun e w' => e = .returned (.bool (rightQ p)) ∧ Below w.heap.size w w' := by
  have hb := fun (q : Pa) (A : Option Addr) (c : Nat) W => bare_any q A c W
  have HB := hid hb
  clear hb
  obtain ⟨p1, p2, p3, p4, p5, p6⟩ := p
  simp only at hs
  subst hs
  have HQ : Hid (rightQ ⟨1, p2, p3, p4, p5, p6⟩ = bareB ⟨1, p2, p3, p4, p5, p6⟩) := rfl
  have HBR := hid (fun W => HB.out ⟨1, p2, p3, p4, p5, p6⟩ A c W)
  unfold Pa.cells at *
  simp only at *
  clear HB
  rw [HQ.out]
  generalize bareB _ = r at *
  clear HQ
  generalize p3.length = m at *
  go_enter Tryd.func9, Tryd.ntmps9
  go_wp2_with (go_at_call 23; refine (HBR.out _).mono ?_; rintro e w3 ⟨rfl, hb3⟩)
  go_ret
  exact ⟨rfl, Below.behind hb3⟩

set_option maxRecDepth 100000 in
set_option maxHeartbeats 2000000 in
theorem right_s5 (p : Pa) (A : Option Addr) (c : Nat) (w : World) (hs : p.st = 5) :
    Calls Tryd.prog 9 #[.agg (p.cells (.slice A p.params.length c))] w fun e w' => e = .returned (.bool (rightQ p)) ∧ Below w.heap.size w w' := by
  have hb := fun (q : Pa) (A : Option Addr) (c : Nat) W => bare_any q A c W
  have HB := hid hb
  clear hb
  obtain ⟨p1, p2, p3, p4, p5, p6⟩ := p
  simp only at hs
  subst hs
  have HQ : Hid (rightQ ⟨5, p2, p3, p4, p5, p6⟩ = bareB ⟨5, p2, p3, p4, p5, p6⟩) := rfl
  have HBR := hid (fun W => HB.out ⟨5, p2, p3, p4, p5, p6⟩ A c W)
  unfold Pa.cells at *
  simp only at *
  clear HB
  rw [HQ.out]
  generalize bareB _ = r at *
  clear HQ
  generalize p3.length = m at *
  go_enter Tryd.func9, Tryd.ntmps9
  go_wp2_with (go_at_call 23; refine (HBR.out _).mono ?_; rintro e w3 ⟨rfl, hb3⟩)
  go_ret
  exact ⟨rfl, Below.behind hb3⟩

set_option maxRecDepth 100000 in
set_option maxHeartbeats 2000000 in
theorem right_s7 (p : Pa) (A : Option Addr) (c : Nat) (w : World) (hs : p.st = 7) :
    Calls Tryd.prog 9 #[.agg (p.cells (.slice A p.params.length c))] w fun e w' => e = .returned (.bool (rightQ p)) ∧ Below w.heap.size w w' := by
  have hb := fun (q : Pa) (A : Option Addr) (c : Nat) W => bare_any q A c W
  have HB := hid hb
  clear hb
  obtain ⟨p1, p2, p3, p4, p5, p6⟩ := p
  simp only at hs
  subst hs
  have HQ : Hid (rightQ ⟨7, p2, p3, p4, p5, p6⟩ = bareB ⟨7, p2, p3, p4, p5, p6⟩) := rfl
  have HBR := hid (fun W => HB.out ⟨7, p2, p3, p4, p5, p6⟩ A c W)
  unfold Pa.cells at *
  simp only at *
  clear HB
  rw [HQ.out]
  generalize bareB _ = r at *
  clear HQ
  generalize p3.length = m at *
  go_enter Tryd.func9, Tryd.ntmps9
  go_wp2_with (go_at_call 23; refine (HBR.out _).mono ?_; rintro e w3 ⟨rfl, hb3⟩)
  go_ret
  exact ⟨rfl, Below.behind hb3⟩

set_option maxRecDepth 100000 in
set_option maxHeartbeats 2000000 in
theorem right_s8 (p : Pa) (A : Option Addr) (c : Nat) (w : World) (hs : p.st = 8) :
    Calls Tryd.prog 9 #[.agg (p.cells (.slice A p.params.length c))] w fun e w' => e = .returned (.bool (rightQ p)) ∧ Below w.heap.size w w' := by
  have hb := fun (q : Pa) (A : Option Addr) (c : Nat) W => bare_any q A c W
  have HB := hid hb
  clear hb
  obtain ⟨p1, p2, p3, p4, p5, p6⟩ := p
  simp only at hs
  subst hs
  have HQ : Hid (rightQ ⟨8, p2, p3, p4, p5, p6⟩ = bareB ⟨8, p2, p3, p4, p5, p6⟩) := rfl
  have HBR := hid (fun W => HB.out ⟨8, p2, p3, p4, p5, p6⟩ A c W)
  unfold Pa.cells at *
  simp only at *
  clear HB
  rw [HQ.out]
  generalize bareB _ = r at *
  clear HQ
  generalize p3.length = m at *
  go_enter Tryd.func9, Tryd.ntmps9
  go_wp2_with (go_at_call 23; refine (HBR.out _).mono ?_; rintro e w3 ⟨rfl, hb3⟩)
  go_ret
  exact ⟨rfl, Below.behind hb3⟩

set_option maxRecDepth 100000 in
set_option maxHeartbeats 2000000 in
theorem right_s0 (p : Pa) (A : Option Addr) (c : Nat) (w : World) (hT : Tab w) (hz : p.pend.size ≤ 1000000) (hs : p.st = 0) :
    Calls Tryd.prog 9 #[.agg (p.cells (.slice A p.params.length c))] w fun e w' => e = .returned (.bool (rightQ p)) ∧ Below w.heap.size w w' := by
  have hb := fun (q : Pa) (A : Option Addr) (c : Nat) W => bare_any q A c W
  have HB := hid hb
  clear hb
  obtain ⟨p1, p2, p3, p4, p5, p6⟩ := p
  simp only at hs
  subst hs
  have hW := below_alloc w (.cells #[.int .i64 0, .int .i64 p2, .slice A p3.length c, .int .i64 p4, .string p5, .string p6] 24)
  have hF := first_any p6 (w.alloc (.cells #[.int .i64 0, .int .i64 p2, .slice A p3.length c, .int .i64 p4, .string p5, .string p6] 24)) (by unfold maxLen; simp only at hz; omega) (hT.below hW)
  obtain ⟨g, hg⟩ : ∃ g, firstG p6 = g := ⟨_, rfl⟩
  rw [hg] at hF
  obtain ⟨r, n, e⟩ := g
  unfold Got.val at hF
  simp only at hF
  have hQ : rightQ ⟨0, p2, p3, p4, p5, p6⟩ = (decide (e = 2) && bareB ⟨0, p2, p3, p4, p5, nilB⟩) := by
    show (decide ((firstG p6).e = 2) && _) = _
    rw [hg]
  have HBR := hid (fun W => HB.out ⟨0, p2, p3, p4, p5, nilB⟩ A c W)
  have HF := hid hF
  unfold Pa.cells nilB at *
  simp only at *
  have hlt : w.heap.size < w.heap.size + 1 := by omega
  clear HB hT hF hg hz
  by_cases he : e = 2
  · subst he
    rw [decide_eq_true rfl, Bool.true_and] at hQ
    have HQ := hid hQ
    rw [HQ.out]
    clear hQ
    have bx := Box.new w 24 #[.int .i64 0, .int .i64 p2, .slice A p3.length c, .int .i64 p4, .string p5, .string p6]
    have HX := hid bx
    have HW := hid hW
    clear bx hW
    generalize p3.length = m at *
    generalize bareB _ = r at *
    clear HQ
    go_enter Tryd.func9, Tryd.ntmps9
    go_wp2_with (first | (go_at_call 19; refine HF.out.mono ?_; rintro e w1 ⟨rfl, hb1⟩; have b1 := HX.out.below hb1 (by simp); have c0 : w1.cell? ⟨w.heap.size, 0, none⟩ = _ := b1.cell 0; have c1 : w1.cell? ⟨w.heap.size, 1, none⟩ = _ := b1.cell 1; have c2 : w1.cell? ⟨w.heap.size, 2, none⟩ = _ := b1.cell 2; have c3 : w1.cell? ⟨w.heap.size, 3, none⟩ = _ := b1.cell 3; have c4 : w1.cell? ⟨w.heap.size, 4, none⟩ = _ := b1.cell 4; have c5 : w1.cell? ⟨w.heap.size, 5, none⟩ = _ := b1.cell 5; obtain ⟨f0, f1, f2, f3, f4, f5⟩ := six_cells b1; clear b1; dsimp at c0 c1 c2 c3 c4 c5) | (go_at_call 23; refine (HBR.out _).mono ?_; rintro e w3 ⟨rfl, hb3⟩))
    go_ret
    exact ⟨rfl, (HW.out.trans (hb1.mono HW.out.size)).setCell (Nat.le_refl _) _ |>.trans (hb3.mono (by have := hb1.size; simp at this; simp [World.setCell]; omega))⟩
  · rw [decide_eq_false he, Bool.false_and] at hQ
    have HQ := hid hQ
    rw [HQ.out]
    clear hQ HQ HBR
    have q : (e != 2) = true := by simp; omega
    generalize p3.length = m at *
    go_enter Tryd.func9, Tryd.ntmps9
    go_wp2_with (go_at_call 19; refine HF.out.mono ?_; rintro e w1 ⟨rfl, hb1⟩)
    go_ret
    exact ⟨rfl, hW.trans (hb1.mono hW.size)⟩

set_option maxRecDepth 100000 in
set_option maxHeartbeats 2000000 in
theorem right_s2 (p : Pa) (A : Option Addr) (c : Nat) (w : World) (hs : p.st = 2) :
    Calls Tryd.prog 9 #[.agg (p.cells (.slice A p.params.length c))] w fun e w' => e = .returned (.bool (rightQ p)) ∧ Below w.heap.size w w' := by
  have hb := fun (q : Pa) (A : Option Addr) (c : Nat) W => bare_any q A c W
  have HB := hid hb
  clear hb
  obtain ⟨p1, p2, p3, p4, p5, p6⟩ := p
  simp only at hs
  subst hs
  have hbt := fun W => between_any p4 W
  have HBR := hid (fun W => HB.out ⟨2, p2, p3, 0, p5, p6⟩ A c W)
  unfold Pa.cells at *
  simp only at *
  clear HB
  cases hc : betB p4
  · have hQ : rightQ ⟨2, p2, p3, p4, p5, p6⟩ = false := by show (betB p4 && _) = false; rw [hc]; rfl
    rw [hc] at hbt
    rw [hQ]
    have HBT := hid hbt
    clear hbt hQ hc HBR
    generalize p3.length = m at *
    go_enter Tryd.func9, Tryd.ntmps9
    go_wp2_with (go_at_call 20; refine (HBT.out _).mono ?_; rintro e w1 ⟨rfl, rfl⟩)
    go_ret
    exact ⟨rfl, below_alloc _ _⟩
  · have hQ : rightQ ⟨2, p2, p3, p4, p5, p6⟩ = bareB ⟨2, p2, p3, 0, p5, p6⟩ := by show (betB p4 && _) = _; rw [hc]; rfl
    rw [hc] at hbt
    rw [hQ]
    have HBT := hid hbt
    clear hbt hQ hc
    generalize p3.length = m at *
    generalize bareB _ = r at *
    go_enter Tryd.func9, Tryd.ntmps9
    go_wp2_with (first | (go_at_call 20; refine (HBT.out _).mono ?_; rintro e w1 ⟨rfl, rfl⟩) | (go_at_call 23; refine (HBR.out _).mono ?_; rintro e w3 ⟨rfl, hb3⟩))
    go_ret
    exact ⟨rfl, Below.behind hb3⟩

set_option maxRecDepth 100000 in
set_option maxHeartbeats 2000000 in
theorem right_s6 (p : Pa) (A : Option Addr) (c : Nat) (w : World) (hs : p.st = 6) :
    Calls Tryd.prog 9 #[.agg (p.cells (.slice A p.params.length c))] w fun e w' => e = .returned (.bool (rightQ p)) ∧ Below w.heap.size w w' := by
  have hb := fun (q : Pa) (A : Option Addr) (c : Nat) W => bare_any q A c W
  have HB := hid hb
  clear hb
  obtain ⟨p1, p2, p3, p4, p5, p6⟩ := p
  simp only at hs
  subst hs
  have HBR := hid (fun W => HB.out ⟨6, p2, p3, p4, nilB, p6⟩ A c W)
  unfold Pa.cells nilB at *
  simp only at *
  clear HB
  by_cases hc : p5.size ≤ 64
  · have hQ : rightQ ⟨6, p2, p3, p4, p5, p6⟩ = bareB ⟨6, p2, p3, p4, ⟨#[]⟩, p6⟩ := by show (decide (p5.size ≤ 64) && _) = _; rw [decide_eq_true hc]; rfl
    rw [hQ]
    have hi : ¬ (64 : Int) < p5.size := by omega
    clear hQ hc
    generalize p3.length = m at *
    generalize bareB _ = r at *
    go_enter Tryd.func9, Tryd.ntmps9
    go_wp2_with (go_at_call 23; refine (HBR.out _).mono ?_; rintro e w3 ⟨rfl, hb3⟩)
    go_ret
    exact ⟨rfl, Below.behind hb3⟩
  · have hQ : rightQ ⟨6, p2, p3, p4, p5, p6⟩ = false := by show (decide (p5.size ≤ 64) && _) = _; rw [decide_eq_false hc]; rfl
    rw [hQ]
    have hi : (64 : Int) < p5.size := by omega
    clear hQ hc HBR
    generalize p3.length = m at *
    go_enter Tryd.func9, Tryd.ntmps9
    go_wp2
    go_ret
    exact ⟨rfl, below_alloc _ _⟩

set_option maxRecDepth 100000 in
set_option maxHeartbeats 2000000 in
theorem right_s3 (p : Pa) (A : Option Addr) (c : Nat) (w : World) (hr : IRow w (.slice A p.params.length c) p.params) (hn : p.params.length ≤ 1000000) (hs : p.st = 3) :
    Calls Tryd.prog 9 #[.agg (p.cells (.slice A p.params.length c))] w fun e w' => e = .returned (.bool (rightQ p)) ∧ Below w.heap.size w w' := by
  have hb := fun (q : Pa) (A : Option Addr) (c : Nat) W => bare_any q A c W
  have HB := hid hb
  clear hb
  obtain ⟨p1, p2, p3, p4, p5, p6⟩ := p
  simp only at hs
  subst hs
  have HBR := hid (fun W => HB.out ⟨3, 0, [], p4, p5, p6⟩ none 0 W)
  unfold Pa.cells at *
  simp only [List.length_nil] at *
  clear HB
  have hpv := fun W => private_any p2 W
  have hst := fun W (hb : Below w.heap.size w W) => pars_any (.slice A p3.length c) p3 W (hr.below hb) hn
  cases h1 : privB p2
  · have hQ : rightQ ⟨3, p2, p3, p4, p5, p6⟩ = false := by show ((privB p2 && parsB p3) && _) = _; rw [h1]; rfl
    rw [h1] at hpv
    rw [hQ]
    have HPT := hid hpv
    clear hpv hst hQ h1 HBR hr hn
    generalize p3.length = m at *
    go_enter Tryd.func9, Tryd.ntmps9
    go_wp2_with (first | (go_at_call 21; refine (HPT.out _).mono ?_; rintro e w1 ⟨rfl, rfl⟩))
    go_ret
    exact ⟨rfl, below_alloc _ _⟩
  · cases h2 : parsB p3
    · have hQ : rightQ ⟨3, p2, p3, p4, p5, p6⟩ = false := by show ((privB p2 && parsB p3) && _) = _; rw [h1, h2]; rfl
      rw [h1] at hpv
      rw [h2] at hst
      rw [hQ]
      have HPT := hid hpv
      have HST := hid hst
      clear hpv hst hQ h1 h2 HBR hr hn
      generalize p3.length = m at *
      go_enter Tryd.func9, Tryd.ntmps9
      go_wp2_with (first | (go_at_call 21; refine (HPT.out _).mono ?_; rintro e w1 ⟨rfl, rfl⟩) | (go_at_call 22; refine (HST.out _ (below_alloc _ _)).mono ?_; rintro e w1 ⟨rfl, rfl⟩))
      go_ret
      exact ⟨rfl, below_alloc _ _⟩
    · have hQ : rightQ ⟨3, p2, p3, p4, p5, p6⟩ = bareB ⟨3, 0, [], p4, p5, p6⟩ := by show ((privB p2 && parsB p3) && _) = _; rw [h1, h2]; rfl
      rw [h1] at hpv
      rw [h2] at hst
      rw [hQ]
      have HPT := hid hpv
      have HST := hid hst
      clear hpv hst hQ h1 h2 hr hn
      generalize p3.length = m at *
      generalize bareB _ = r at *
      go_enter Tryd.func9, Tryd.ntmps9
      go_wp2_with (first | (go_at_call 21; refine (HPT.out _).mono ?_; rintro e w1 ⟨rfl, rfl⟩) | (go_at_call 22; refine (HST.out _ (below_alloc _ _)).mono ?_; rintro e w1 ⟨rfl, rfl⟩) | (go_at_call 23; refine (HBR.out _).mono ?_; rintro e w3 ⟨rfl, hb3⟩))
      go_ret
      exact ⟨rfl, Below.behind hb3⟩

set_option maxRecDepth 100000 in
set_option maxHeartbeats 2000000 in
theorem right_s4 (p : Pa) (A : Option Addr) (c : Nat) (w : World) (hr : IRow w (.slice A p.params.length c) p.params) (hn : p.params.length ≤ 1000000) (hs : p.st = 4) :
    Calls Tryd.prog 9 #[.agg (p.cells (.slice A p.params.length c))] w fun e w' => e = .returned (.bool (rightQ p)) ∧ Below w.heap.size w w' := by
  have hb := fun (q : Pa) (A : Option Addr) (c : Nat) W => bare_any q A c W
  have HB := hid hb
  clear hb
  obtain ⟨p1, p2, p3, p4, p5, p6⟩ := p
  simp only at hs
  subst hs
  have HBR := hid (fun W => HB.out ⟨4, 0, [], 0, p5, p6⟩ none 0 W)
  unfold Pa.cells at *
  simp only [List.length_nil] at *
  clear HB
  have hbt := fun W => between_any p4 W
  cases hc : betB p4
  · have hQ : rightQ ⟨4, p2, p3, p4, p5, p6⟩ = false := by show (betB p4 && _) = false; rw [hc]; rfl
    rw [hc] at hbt
    rw [hQ]
    have HBT := hid hbt
    clear hbt hQ hc HBR hr hn
    generalize p3.length = m at *
    go_enter Tryd.func9, Tryd.ntmps9
    go_wp2_with (go_at_call 20; refine (HBT.out _).mono ?_; rintro e w1 ⟨rfl, rfl⟩)
    go_ret
    exact ⟨rfl, below_alloc _ _⟩
  · rw [hc] at hbt
    have HBT := hid hbt
    clear hbt
    have hpv := fun W => private_any p2 W
    have hst := fun W (hb : Below w.heap.size w W) => pars_any (.slice A p3.length c) p3 W (hr.below hb) hn
    cases h1 : privB p2
    · have hQ : rightQ ⟨4, p2, p3, p4, p5, p6⟩ = false := by show (betB p4 && ((privB p2 && parsB p3) && _)) = _; rw [hc]; rw [h1]; rfl
      rw [h1] at hpv
      rw [hQ]
      have HPT := hid hpv
      clear hpv hst hQ h1 HBR hr hn hc
      generalize p3.length = m at *
      go_enter Tryd.func9, Tryd.ntmps9
      go_wp2_with (first | (go_at_call 20; refine (HBT.out _).mono ?_; rintro e w1 ⟨rfl, rfl⟩) | (go_at_call 21; refine (HPT.out _).mono ?_; rintro e w1 ⟨rfl, rfl⟩))
      go_ret
      exact ⟨rfl, below_alloc _ _⟩
    · cases h2 : parsB p3
      · have hQ : rightQ ⟨4, p2, p3, p4, p5, p6⟩ = false := by show (betB p4 && ((privB p2 && parsB p3) && _)) = _; rw [hc]; rw [h1, h2]; rfl
        rw [h1] at hpv
        rw [h2] at hst
        rw [hQ]
        have HPT := hid hpv
        have HST := hid hst
        clear hpv hst hQ h1 h2 HBR hr hn hc
        generalize p3.length = m at *
        go_enter Tryd.func9, Tryd.ntmps9
        go_wp2_with (first | (go_at_call 20; refine (HBT.out _).mono ?_; rintro e w1 ⟨rfl, rfl⟩) | (go_at_call 21; refine (HPT.out _).mono ?_; rintro e w1 ⟨rfl, rfl⟩) | (go_at_call 22; refine (HST.out _ (below_alloc _ _)).mono ?_; rintro e w1 ⟨rfl, rfl⟩))
        go_ret
        exact ⟨rfl, below_alloc _ _⟩
      · have hQ : rightQ ⟨4, p2, p3, p4, p5, p6⟩ = bareB ⟨4, 0, [], 0, p5, p6⟩ := by show (betB p4 && ((privB p2 && parsB p3) && _)) = _; rw [hc]; rw [h1, h2]; rfl
        rw [h1] at hpv
        rw [h2] at hst
        rw [hQ]
        have HPT := hid hpv
        have HST := hid hst
        clear hpv hst hQ h1 h2 hr hn hc
        generalize p3.length = m at *
        generalize bareB _ = r at *
        go_enter Tryd.func9, Tryd.ntmps9
        go_wp2_with (first | (go_at_call 20; refine (HBT.out _).mono ?_; rintro e w1 ⟨rfl, rfl⟩) | (go_at_call 21; refine (HPT.out _).mono ?_; rintro e w1 ⟨rfl, rfl⟩) | (go_at_call 22; refine (HST.out _ (below_alloc _ _)).mono ?_; rintro e w1 ⟨rfl, rfl⟩) | (go_at_call 23; refine (HBR.out _).mono ?_; rintro e w3 ⟨rfl, hb3⟩))
        go_ret
        exact ⟨rfl, Below.behind hb3⟩

set_option maxRecDepth 100000 in
set_option maxHeartbeats 2000000 in
theorem right_no (p : Pa) (A : Option Addr) (c : Nat) (w : World) (hs : p.st ≠ 0 ∧ p.st ≠ 4 ∧ p.st ≠ 3 ∧ p.st ≠ 2 ∧ p.st ≠ 6 ∧ p.st ≠ 1 ∧ p.st ≠ 5 ∧ p.st ≠ 7 ∧ p.st ≠ 8) :
    Calls Tryd.prog 9 #[.agg (p.cells (.slice A p.params.length c))] w fun e w' => e = .returned (.bool (rightQ p)) ∧ Below w.heap.size w w' := by
  obtain ⟨p1, p2, p3, p4, p5, p6⟩ := p
  simp only at hs
  obtain ⟨h0, h4, h3, h2, h6, h1, h5, h7, h8⟩ := hs
  have hQ : rightQ ⟨p1, p2, p3, p4, p5, p6⟩ = false := by
    unfold rightQ
    simp only
    rw [if_neg h0, if_neg h4, if_neg h3, if_neg h2, if_neg h6, if_neg (by omega)]
  rw [hQ]
  have q0 : (p1 == 0) = false := by simp; omega
  have q4 : (p1 == 4) = false := by simp; omega
  have q3 : (p1 == 3) = false := by simp; omega
  have q2 : (p1 == 2) = false := by simp; omega
  have q6 : (p1 == 6) = false := by simp; omega
  have q1 : (p1 == 1) = false := by simp; omega
  have q5 : (p1 == 5) = false := by simp; omega
  have q7 : (p1 == 7) = false := by simp; omega
  have q8 : (p1 == 8) = false := by simp; omega
  unfold Pa.cells
  simp only
  clear hQ h0 h4 h3 h2 h6 h1 h5 h7 h8
  generalize p3.length = m at *
  go_enter Tryd.func9, Tryd.ntmps9
  go_wp2
  go_ret
  exact ⟨rfl, below_alloc _ _⟩

theorem right_any (p : Pa) (v : Value) (w : World) (hT : Tab w) (hr : IRow w v p.params) (hn : p.params.length ≤ 1000000) (hz : p.pend.size ≤ 1000000) :
    Calls Tryd.prog 9 #[.agg (p.cells v)] w fun e w' => e = .returned (.bool (rightQ p)) ∧ Below w.heap.size w w' := by
  have hr0 := hr
  obtain ⟨A, c, rfl, _⟩ := hr0
  have hc : p.st = 0 ∨ p.st = 1 ∨ p.st = 2 ∨ p.st = 3 ∨ p.st = 4 ∨ p.st = 5 ∨ p.st = 6 ∨ p.st = 7 ∨ p.st = 8 ∨ (p.st ≠ 0 ∧ p.st ≠ 4 ∧ p.st ≠ 3 ∧ p.st ≠ 2 ∧ p.st ≠ 6 ∧ p.st ≠ 1 ∧ p.st ≠ 5 ∧ p.st ≠ 7 ∧ p.st ≠ 8) := by omega
  rcases hc with h | h | h | h | h | h | h | h | h | h
  · exact right_s0 p A c w hT hz h
  · exact right_s1 p A c w h
  · exact right_s2 p A c w h
  · exact right_s3 p A c w hr hn h
  · exact right_s4 p A c w hr hn h
  · exact right_s5 p A c w h
  · exact right_s6 p A c w h
  · exact right_s7 p A c w h
  · exact right_s8 p A c w h
  · exact right_no p A c w h

end Go.Proofs.YtpcpdbofbbpglaaDoor
