/- Layer 5, the package: a byte in the ground, and any byte. Made by wip/gen/parseL.py. -/
import Derived.Test.YtpcpdbofbbpglaaDoorParseK
namespace Go.Proofs.YtpcpdbofbbpglaaDoor
open Go.RowKit

theorem byte_first {b : Int} (h : 128 ≤ b ∧ b ≤ 255) : (firstG (byteB b)).e = 2 ∨ firstG (byteB b) = ⟨0, 1, 4⟩ := by
  have hat := byteB_at (c := b) (by omega)
  have hz := byteB_size b
  rcases firstG_cases (byteB b) with ⟨r, hr, e, hs, hb⟩ | ⟨e, _⟩ | ⟨n, e, h1, _, h3⟩
  · have h4 := sizeOf_bd r
    have h5 := hb 0 (by omega)
    by_cases hlt : r < 128
    · have := (encB_1 hlt).2
      omega
    · have : 2 ≤ sizeOf r := by unfold sizeOf; rw [if_neg hlt]; split <;> (try split) <;> omega
      omega
  · exact .inl (by rw [e])
  · obtain rfl : n = 1 := by omega
    exact .inr e
theorem pend_with {p : Pa} {x : ByteArray} (h : p.pend.size = 0) : p.pend ++ x = x := by
  rw [empty_yes h]
  exact nil_app x

set_option maxRecDepth 100000 in
set_option maxHeartbeats 2000000 in
theorem ground_any {B R : Nat} {W : World} {p : Pa} {l : List Dn} (h : Rd B R W p l) (hT : TabB B W) (hn : l.length ≤ 500000) (hs : p.st = 0) (hp : p.pend.size = 0) (b : Int) (hb : 0 ≤ b ∧ b ≤ 255) :
    Calls Tryd.prog 29 #[.pointer (some ⟨R, 0, none⟩), .int .u8 b] W (RdPost B R W (stateP p b).1 (l ++ (stateP p b).2)) := by
  obtain ⟨b0, b1⟩ := hb
  have hc : (b < 32) ∨ (32 ≤ b ∧ b < 127) ∨ (b = 127) ∨ (128 ≤ b) := by omega
  rcases hc with hlt | ⟨g1, g2⟩ | rfl | g1
  · refine post_as (q := p) (d := [dExec b]) (by unfold stateP; repeat (first | rw [if_pos (by omega)] | rw [if_neg (by omega)])) ?_
    have HX := hid (exec_any h hn b ⟨b0, b1⟩)
    clear h hn
    go_enter Tryd.func29, Tryd.ntmps29
    go_wp2_with (go_at_call 39; refine HX.out.mono ?_; rintro e w1 ⟨rfl, h1, h2⟩; have H1 := hid h1; clear h1)
    go_end0
    exact ⟨rfl, H1.out, h2⟩
  · refine post_as (q := p) (d := [dPrint b]) (by unfold stateP; repeat (first | rw [if_pos (by omega)] | rw [if_neg (by omega)])) ?_
    have HX := hid (print_any h hn b)
    clear h hn
    go_enter Tryd.func29, Tryd.ntmps29
    go_wp2_with (go_at_call 45; refine HX.out.mono ?_; rintro e w1 ⟨rfl, h1, h2⟩; have H1 := hid h1; clear h1)
    go_end0
    exact ⟨rfl, H1.out, h2⟩
  · refine post_nil (q := p) (by unfold stateP; repeat (first | rw [if_pos (by omega)] | rw [if_neg (by omega)])) ?_
    have HX := hid h
    clear h hn
    go_enter Tryd.func29, Tryd.ntmps29
    go_wp2
    go_end0
    exact ⟨rfl, HX.out, Below.refl _ _⟩
  · have hS : stateP p b = highP p b := by unfold stateP; repeat (first | rw [if_pos (by omega)] | rw [if_neg (by omega)])
    have hpw := pend_with (x := byteB b) hp
    rcases byte_first ⟨g1, b1⟩ with he | he
    · refine post_nil (q := { p with pend := byteB b }) (by rw [hS]; unfold highP; rw [if_pos he]) ?_
      have hx := pend_short h hT b (by omega) (by rw [hpw]; exact he)
      rw [hpw] at hx
      have HX := hid hx
      clear h hn hx hpw hS he
      go_enter Tryd.func29, Tryd.ntmps29
      go_wp2_with (go_at_call 38; refine HX.out.mono ?_; rintro e w1 ⟨rfl, h1, h2⟩; have H1 := hid h1; clear h1)
      go_end0
      exact ⟨rfl, H1.out, h2⟩
    · refine post_as (q := p) (d := [dPrint 65533]) (by rw [hS]; unfold highP; rw [if_neg (by rw [he]; show ¬ (4 : Int) = 2; decide)]) ?_
      have hx := pend_all h hT hn b (by omega) (by rw [hpw]; exact he)
      rw [same_pend hp] at hx
      have HX := hid hx
      clear h hn hx hpw hS he
      go_enter Tryd.func29, Tryd.ntmps29
      go_wp2_with (go_at_call 38; refine HX.out.mono ?_; rintro e w1 ⟨rfl, h1, h2⟩; have H1 := hid h1; clear h1)
      go_end0
      exact ⟨rfl, H1.out, h2⟩

/-- What a parser that may be keeps. -/
theorem right_keeps {p : Pa} (h : rightP p) : (0 ≤ p.st ∧ p.st ≤ 8) ∧ ((∀ n ∈ p.params, 0 ≤ n ∧ n ≤ 9999) ∧ p.params.length ≤ 16) ∧ p.osc.size ≤ 64 := by
  have hb := right_bounds h
  refine ⟨?_, ⟨?_, hb.1⟩, hb.2.1⟩
  · rcases h with h | h | h | h | h | h <;> (have := h.1; omega)
  · have hnil : p.params = [] → ∀ n ∈ p.params, 0 ≤ n ∧ n ≤ 9999 := fun e n hn => by rw [e] at hn; cases hn
    rcases h with h | h | h | h | h | h
    · exact hnil h.2.2.1
    · exact hnil h.2.2.1
    · exact hnil h.2.2.1
    · exact h.2.1.1
    · exact h.2.1.1
    · exact hnil h.2.2.1

set_option maxRecDepth 100000 in
set_option maxHeartbeats 2000000 in
theorem take_ground {B R : Nat} {W : World} {p : Pa} {l : List Dn} (h : Rd B R W p l) (hT : TabB B W) (hn : l.length ≤ 500000) (hr : rightP p) (hs : p.st = 0) (hp : p.pend.size = 0) (b : Int) (hb : 0 ≤ b ∧ b ≤ 255) (q24 : (b == 24) = false) (q26 : (b == 26) = false) (q27 : (b == 27) = false) :
    Calls Tryd.prog 18 #[.pointer (some ⟨R, 0, none⟩), .int .u8 b] W (RdPost B R W (stateP p b).1 (l ++ (stateP p b).2)) := by
  obtain ⟨b0, b1⟩ := hb
  obtain ⟨_, k3, k6⟩ := right_keeps hr
  have hB := h.base
  have hd : Rd B R W.drew p l := h.below (Below.refl _ _).drew
  have hTd : TabB B W.drew := hT.below (Below.refl _ _).drew
  have hx := ground_any hd hTd hn hs hp b ⟨b0, b1⟩
  have hlo := h.lt
  obtain ⟨A, c, dA, m, dc, hbox, _⟩ := h.cells
  have c0 : W.cell? ⟨R, 0, none⟩ = some (.int .i64 p.st) := hbox.cell 0
  have c5 : W.cell? ⟨R, 5, none⟩ = some (.string p.pend) := hbox.cell 5
  have cs : W.cell? ⟨R, 7, none⟩ = some (.func (.func 29) #[.pointer (some ⟨R, 0, none⟩)] #[]) := hbox.cell 7
  rw [hs] at c0
  rw [empty_yes hp] at c5
  have HX := hid hx
  clear h hT hn hr hs hp hd hTd hx hbox k3 k6
  generalize stateP p b = q at *
  go_enter Tryd.func18, Tryd.ntmps18
  go_wp2
  go_still_tail 11, (by kernel_rfl)
  change wpList _ _ _ _ _ W.drew
  go_wp2_with (go_at_call 29; refine HX.out.mono ?_; rintro e w1 ⟨rfl, h1, h2⟩; have H1 := hid h1; clear h1)
  go_end0
  exact ⟨rfl, H1.out, (Below.refl B W).drew.trans h2⟩

set_option maxRecDepth 100000 in
set_option maxHeartbeats 2000000 in
theorem take_escaped {B R : Nat} {W : World} {p : Pa} {l : List Dn} (h : Rd B R W p l) (hT : TabB B W) (hn : l.length ≤ 500000) (hr : rightP p) (hs : p.st = 1) (hp : p.pend.size = 0) (b : Int) (hb : 0 ≤ b ∧ b ≤ 255) (q24 : (b == 24) = false) (q26 : (b == 26) = false) (q27 : (b == 27) = false) :
    Calls Tryd.prog 18 #[.pointer (some ⟨R, 0, none⟩), .int .u8 b] W (RdPost B R W (stateP p b).1 (l ++ (stateP p b).2)) := by
  obtain ⟨b0, b1⟩ := hb
  obtain ⟨_, k3, k6⟩ := right_keeps hr
  have hB := h.base
  have hd : Rd B R W.drew p l := h.below (Below.refl _ _).drew
  have hTd : TabB B W.drew := hT.below (Below.refl _ _).drew
  have hx := escaped_any hd hn hs b ⟨b0, b1⟩
  have hlo := h.lt
  obtain ⟨A, c, dA, m, dc, hbox, _⟩ := h.cells
  have c0 : W.cell? ⟨R, 0, none⟩ = some (.int .i64 p.st) := hbox.cell 0
  have c5 : W.cell? ⟨R, 5, none⟩ = some (.string p.pend) := hbox.cell 5
  have cs : W.cell? ⟨R, 8, none⟩ = some (.func (.func 30) #[.pointer (some ⟨R, 0, none⟩)] #[]) := hbox.cell 8
  rw [hs] at c0
  rw [empty_yes hp] at c5
  have HX := hid hx
  clear h hT hn hr hs hp hd hTd hx hbox k3 k6
  generalize stateP p b = q at *
  go_enter Tryd.func18, Tryd.ntmps18
  go_wp2
  go_still_tail 11, (by kernel_rfl)
  change wpList _ _ _ _ _ W.drew
  go_wp2_with (go_at_call 30; refine HX.out.mono ?_; rintro e w1 ⟨rfl, h1, h2⟩; have H1 := hid h1; clear h1)
  go_end0
  exact ⟨rfl, H1.out, (Below.refl B W).drew.trans h2⟩

set_option maxRecDepth 100000 in
set_option maxHeartbeats 2000000 in
theorem take_inter {B R : Nat} {W : World} {p : Pa} {l : List Dn} (h : Rd B R W p l) (hT : TabB B W) (hn : l.length ≤ 500000) (hr : rightP p) (hs : p.st = 2) (hp : p.pend.size = 0) (b : Int) (hb : 0 ≤ b ∧ b ≤ 255) (q24 : (b == 24) = false) (q26 : (b == 26) = false) (q27 : (b == 27) = false) :
    Calls Tryd.prog 18 #[.pointer (some ⟨R, 0, none⟩), .int .u8 b] W (RdPost B R W (stateP p b).1 (l ++ (stateP p b).2)) := by
  obtain ⟨b0, b1⟩ := hb
  obtain ⟨_, k3, k6⟩ := right_keeps hr
  have hB := h.base
  have hd : Rd B R W.drew p l := h.below (Below.refl _ _).drew
  have hTd : TabB B W.drew := hT.below (Below.refl _ _).drew
  have hx := inter_any hd hn hs b ⟨b0, b1⟩
  have hlo := h.lt
  obtain ⟨A, c, dA, m, dc, hbox, _⟩ := h.cells
  have c0 : W.cell? ⟨R, 0, none⟩ = some (.int .i64 p.st) := hbox.cell 0
  have c5 : W.cell? ⟨R, 5, none⟩ = some (.string p.pend) := hbox.cell 5
  have cs : W.cell? ⟨R, 9, none⟩ = some (.func (.func 31) #[.pointer (some ⟨R, 0, none⟩)] #[]) := hbox.cell 9
  rw [hs] at c0
  rw [empty_yes hp] at c5
  have HX := hid hx
  clear h hT hn hr hs hp hd hTd hx hbox k3 k6
  generalize stateP p b = q at *
  go_enter Tryd.func18, Tryd.ntmps18
  go_wp2
  go_still_tail 11, (by kernel_rfl)
  change wpList _ _ _ _ _ W.drew
  go_wp2_with (go_at_call 31; refine HX.out.mono ?_; rintro e w1 ⟨rfl, h1, h2⟩; have H1 := hid h1; clear h1)
  go_end0
  exact ⟨rfl, H1.out, (Below.refl B W).drew.trans h2⟩

set_option maxRecDepth 100000 in
set_option maxHeartbeats 2000000 in
theorem take_csi {B R : Nat} {W : World} {p : Pa} {l : List Dn} (h : Rd B R W p l) (hT : TabB B W) (hn : l.length ≤ 500000) (hr : rightP p) (hs : p.st = 3) (hp : p.pend.size = 0) (b : Int) (hb : 0 ≤ b ∧ b ≤ 255) (q24 : (b == 24) = false) (q26 : (b == 26) = false) (q27 : (b == 27) = false) :
    Calls Tryd.prog 18 #[.pointer (some ⟨R, 0, none⟩), .int .u8 b] W (RdPost B R W (stateP p b).1 (l ++ (stateP p b).2)) := by
  obtain ⟨b0, b1⟩ := hb
  obtain ⟨_, k3, k6⟩ := right_keeps hr
  have hB := h.base
  have hd : Rd B R W.drew p l := h.below (Below.refl _ _).drew
  have hTd : TabB B W.drew := hT.below (Below.refl _ _).drew
  have hx := csi_any hd hn hs k3.1 k3.2 b ⟨b0, b1⟩
  have hlo := h.lt
  obtain ⟨A, c, dA, m, dc, hbox, _⟩ := h.cells
  have c0 : W.cell? ⟨R, 0, none⟩ = some (.int .i64 p.st) := hbox.cell 0
  have c5 : W.cell? ⟨R, 5, none⟩ = some (.string p.pend) := hbox.cell 5
  have cs : W.cell? ⟨R, 10, none⟩ = some (.func (.func 32) #[.pointer (some ⟨R, 0, none⟩)] #[]) := hbox.cell 10
  rw [hs] at c0
  rw [empty_yes hp] at c5
  have HX := hid hx
  clear h hT hn hr hs hp hd hTd hx hbox k3 k6
  generalize stateP p b = q at *
  go_enter Tryd.func18, Tryd.ntmps18
  go_wp2
  go_still_tail 11, (by kernel_rfl)
  change wpList _ _ _ _ _ W.drew
  go_wp2_with (go_at_call 32; refine HX.out.mono ?_; rintro e w1 ⟨rfl, h1, h2⟩; have H1 := hid h1; clear h1)
  go_end0
  exact ⟨rfl, H1.out, (Below.refl B W).drew.trans h2⟩

set_option maxRecDepth 100000 in
set_option maxHeartbeats 2000000 in
theorem take_behind {B R : Nat} {W : World} {p : Pa} {l : List Dn} (h : Rd B R W p l) (hT : TabB B W) (hn : l.length ≤ 500000) (hr : rightP p) (hs : p.st = 4) (hp : p.pend.size = 0) (b : Int) (hb : 0 ≤ b ∧ b ≤ 255) (q24 : (b == 24) = false) (q26 : (b == 26) = false) (q27 : (b == 27) = false) :
    Calls Tryd.prog 18 #[.pointer (some ⟨R, 0, none⟩), .int .u8 b] W (RdPost B R W (stateP p b).1 (l ++ (stateP p b).2)) := by
  obtain ⟨b0, b1⟩ := hb
  obtain ⟨_, k3, k6⟩ := right_keeps hr
  have hB := h.base
  have hd : Rd B R W.drew p l := h.below (Below.refl _ _).drew
  have hTd : TabB B W.drew := hT.below (Below.refl _ _).drew
  have hx := behind_any hd hn hs k3.2 b ⟨b0, b1⟩
  have hlo := h.lt
  obtain ⟨A, c, dA, m, dc, hbox, _⟩ := h.cells
  have c0 : W.cell? ⟨R, 0, none⟩ = some (.int .i64 p.st) := hbox.cell 0
  have c5 : W.cell? ⟨R, 5, none⟩ = some (.string p.pend) := hbox.cell 5
  have cs : W.cell? ⟨R, 11, none⟩ = some (.func (.func 33) #[.pointer (some ⟨R, 0, none⟩)] #[]) := hbox.cell 11
  rw [hs] at c0
  rw [empty_yes hp] at c5
  have HX := hid hx
  clear h hT hn hr hs hp hd hTd hx hbox k3 k6
  generalize stateP p b = q at *
  go_enter Tryd.func18, Tryd.ntmps18
  go_wp2
  go_still_tail 11, (by kernel_rfl)
  change wpList _ _ _ _ _ W.drew
  go_wp2_with (go_at_call 33; refine HX.out.mono ?_; rintro e w1 ⟨rfl, h1, h2⟩; have H1 := hid h1; clear h1)
  go_end0
  exact ⟨rfl, H1.out, (Below.refl B W).drew.trans h2⟩

set_option maxRecDepth 100000 in
set_option maxHeartbeats 2000000 in
theorem take_skip {B R : Nat} {W : World} {p : Pa} {l : List Dn} (h : Rd B R W p l) (hT : TabB B W) (hn : l.length ≤ 500000) (hr : rightP p) (hs : p.st = 5) (hp : p.pend.size = 0) (b : Int) (hb : 0 ≤ b ∧ b ≤ 255) (q24 : (b == 24) = false) (q26 : (b == 26) = false) (q27 : (b == 27) = false) :
    Calls Tryd.prog 18 #[.pointer (some ⟨R, 0, none⟩), .int .u8 b] W (RdPost B R W (stateP p b).1 (l ++ (stateP p b).2)) := by
  obtain ⟨b0, b1⟩ := hb
  obtain ⟨_, k3, k6⟩ := right_keeps hr
  have hB := h.base
  have hd : Rd B R W.drew p l := h.below (Below.refl _ _).drew
  have hTd : TabB B W.drew := hT.below (Below.refl _ _).drew
  have hx := skip_any hd hn hs b ⟨b0, b1⟩
  have hlo := h.lt
  obtain ⟨A, c, dA, m, dc, hbox, _⟩ := h.cells
  have c0 : W.cell? ⟨R, 0, none⟩ = some (.int .i64 p.st) := hbox.cell 0
  have c5 : W.cell? ⟨R, 5, none⟩ = some (.string p.pend) := hbox.cell 5
  have cs : W.cell? ⟨R, 12, none⟩ = some (.func (.func 34) #[.pointer (some ⟨R, 0, none⟩)] #[]) := hbox.cell 12
  rw [hs] at c0
  rw [empty_yes hp] at c5
  have HX := hid hx
  clear h hT hn hr hs hp hd hTd hx hbox k3 k6
  generalize stateP p b = q at *
  go_enter Tryd.func18, Tryd.ntmps18
  go_wp2
  go_still_tail 11, (by kernel_rfl)
  change wpList _ _ _ _ _ W.drew
  go_wp2_with (go_at_call 34; refine HX.out.mono ?_; rintro e w1 ⟨rfl, h1, h2⟩; have H1 := hid h1; clear h1)
  go_end0
  exact ⟨rfl, H1.out, (Below.refl B W).drew.trans h2⟩

set_option maxRecDepth 100000 in
set_option maxHeartbeats 2000000 in
theorem take_osc {B R : Nat} {W : World} {p : Pa} {l : List Dn} (h : Rd B R W p l) (hT : TabB B W) (hn : l.length ≤ 500000) (hr : rightP p) (hs : p.st = 6) (hp : p.pend.size = 0) (b : Int) (hb : 0 ≤ b ∧ b ≤ 255) (q24 : (b == 24) = false) (q26 : (b == 26) = false) (q27 : (b == 27) = false) :
    Calls Tryd.prog 18 #[.pointer (some ⟨R, 0, none⟩), .int .u8 b] W (RdPost B R W (stateP p b).1 (l ++ (stateP p b).2)) := by
  obtain ⟨b0, b1⟩ := hb
  obtain ⟨_, k3, k6⟩ := right_keeps hr
  have hB := h.base
  have hd : Rd B R W.drew p l := h.below (Below.refl _ _).drew
  have hTd : TabB B W.drew := hT.below (Below.refl _ _).drew
  have hx := osc_any hd hn hs k6 b ⟨b0, b1⟩
  have hlo := h.lt
  obtain ⟨A, c, dA, m, dc, hbox, _⟩ := h.cells
  have c0 : W.cell? ⟨R, 0, none⟩ = some (.int .i64 p.st) := hbox.cell 0
  have c5 : W.cell? ⟨R, 5, none⟩ = some (.string p.pend) := hbox.cell 5
  have cs : W.cell? ⟨R, 13, none⟩ = some (.func (.func 35) #[.pointer (some ⟨R, 0, none⟩)] #[]) := hbox.cell 13
  rw [hs] at c0
  rw [empty_yes hp] at c5
  have HX := hid hx
  clear h hT hn hr hs hp hd hTd hx hbox k3 k6
  generalize stateP p b = q at *
  go_enter Tryd.func18, Tryd.ntmps18
  go_wp2
  go_still_tail 11, (by kernel_rfl)
  change wpList _ _ _ _ _ W.drew
  go_wp2_with (go_at_call 35; refine HX.out.mono ?_; rintro e w1 ⟨rfl, h1, h2⟩; have H1 := hid h1; clear h1)
  go_end0
  exact ⟨rfl, H1.out, (Below.refl B W).drew.trans h2⟩

set_option maxRecDepth 100000 in
set_option maxHeartbeats 2000000 in
theorem take_text {B R : Nat} {W : World} {p : Pa} {l : List Dn} (h : Rd B R W p l) (hT : TabB B W) (_ : l.length ≤ 500000) (hr : rightP p) (hs : p.st = 7) (hp : p.pend.size = 0) (b : Int) (hb : 0 ≤ b ∧ b ≤ 255) (q24 : (b == 24) = false) (q26 : (b == 26) = false) (q27 : (b == 27) = false) :
    Calls Tryd.prog 18 #[.pointer (some ⟨R, 0, none⟩), .int .u8 b] W (RdPost B R W (stateP p b).1 (l ++ (stateP p b).2)) := by
  obtain ⟨b0, b1⟩ := hb
  obtain ⟨_, k3, k6⟩ := right_keeps hr
  have hB := h.base
  have hd : Rd B R W.drew p l := h.below (Below.refl _ _).drew
  have hTd : TabB B W.drew := hT.below (Below.refl _ _).drew
  have hx := text_any hd hs b
  have hlo := h.lt
  obtain ⟨A, c, dA, m, dc, hbox, _⟩ := h.cells
  have c0 : W.cell? ⟨R, 0, none⟩ = some (.int .i64 p.st) := hbox.cell 0
  have c5 : W.cell? ⟨R, 5, none⟩ = some (.string p.pend) := hbox.cell 5
  have cs : W.cell? ⟨R, 14, none⟩ = some (.func (.func 36) #[.pointer (some ⟨R, 0, none⟩)] #[]) := hbox.cell 14
  rw [hs] at c0
  rw [empty_yes hp] at c5
  have HX := hid hx
  clear h hT hr hs hp hd hTd hx hbox k3 k6
  generalize stateP p b = q at *
  go_enter Tryd.func18, Tryd.ntmps18
  go_wp2
  go_still_tail 11, (by kernel_rfl)
  change wpList _ _ _ _ _ W.drew
  go_wp2_with (go_at_call 36; refine HX.out.mono ?_; rintro e w1 ⟨rfl, h1, h2⟩; have H1 := hid h1; clear h1)
  go_end0
  exact ⟨rfl, H1.out, (Below.refl B W).drew.trans h2⟩

set_option maxRecDepth 100000 in
set_option maxHeartbeats 2000000 in
theorem take_drop {B R : Nat} {W : World} {p : Pa} {l : List Dn} (h : Rd B R W p l) (hT : TabB B W) (hn : l.length ≤ 500000) (hr : rightP p) (hs : p.st = 8) (hp : p.pend.size = 0) (b : Int) (hb : 0 ≤ b ∧ b ≤ 255) (q24 : (b == 24) = false) (q26 : (b == 26) = false) (q27 : (b == 27) = false) :
    Calls Tryd.prog 18 #[.pointer (some ⟨R, 0, none⟩), .int .u8 b] W (RdPost B R W (stateP p b).1 (l ++ (stateP p b).2)) := by
  obtain ⟨b0, b1⟩ := hb
  obtain ⟨_, k3, k6⟩ := right_keeps hr
  have hB := h.base
  have hd : Rd B R W.drew p l := h.below (Below.refl _ _).drew
  have hTd : TabB B W.drew := hT.below (Below.refl _ _).drew
  have hx := drop_any hd hn hs b ⟨b0, b1⟩
  have hlo := h.lt
  obtain ⟨A, c, dA, m, dc, hbox, _⟩ := h.cells
  have c0 : W.cell? ⟨R, 0, none⟩ = some (.int .i64 p.st) := hbox.cell 0
  have c5 : W.cell? ⟨R, 5, none⟩ = some (.string p.pend) := hbox.cell 5
  have cs : W.cell? ⟨R, 15, none⟩ = some (.func (.func 37) #[.pointer (some ⟨R, 0, none⟩)] #[]) := hbox.cell 15
  rw [hs] at c0
  rw [empty_yes hp] at c5
  have HX := hid hx
  clear h hT hn hr hs hp hd hTd hx hbox k3 k6
  generalize stateP p b = q at *
  go_enter Tryd.func18, Tryd.ntmps18
  go_wp2
  go_still_tail 11, (by kernel_rfl)
  change wpList _ _ _ _ _ W.drew
  go_wp2_with (go_at_call 37; refine HX.out.mono ?_; rintro e w1 ⟨rfl, h1, h2⟩; have H1 := hid h1; clear h1)
  go_end0
  exact ⟨rfl, H1.out, (Below.refl B W).drew.trans h2⟩

end Go.Proofs.YtpcpdbofbbpglaaDoor
