/- Layer 5, the package: any byte. -/
import Derived.Test.YtpcpdbofbbpglaaDoorParseL
namespace Go.Proofs.YtpcpdbofbbpglaaDoor
open Go.RowKit

/-- A byte that is none of 24, 26, 27, in any state. -/
theorem take_state {B R : Nat} {W : World} {p : Pa} {l : List Dn} (h : Rd B R W p l) (hT : TabB B W) (hn : l.length ≤ 500000) (hr : rightP p) (hp : p.pend.size = 0) (b : Int) (hb : 0 ≤ b ∧ b ≤ 255) (q24 : (b == 24) = false) (q26 : (b == 26) = false) (q27 : (b == 27) = false) :
    Calls Tryd.prog 18 #[.pointer (some ⟨R, 0, none⟩), .int .u8 b] W (RdPost B R W (stateP p b).1 (l ++ (stateP p b).2)) := by
  obtain ⟨⟨k0, k8⟩, _⟩ := right_keeps hr
  have hc : p.st = 0 ∨ p.st = 1 ∨ p.st = 2 ∨ p.st = 3 ∨ p.st = 4 ∨ p.st = 5 ∨ p.st = 6 ∨ p.st = 7 ∨ p.st = 8 := by omega
  rcases hc with hs | hs | hs | hs | hs | hs | hs | hs | hs
  · exact take_ground h hT hn hr hs hp b hb q24 q26 q27
  · exact take_escaped h hT hn hr hs hp b hb q24 q26 q27
  · exact take_inter h hT hn hr hs hp b hb q24 q26 q27
  · exact take_csi h hT hn hr hs hp b hb q24 q26 q27
  · exact take_behind h hT hn hr hs hp b hb q24 q26 q27
  · exact take_skip h hT hn hr hs hp b hb q24 q26 q27
  · exact take_osc h hT hn hr hs hp b hb q24 q26 q27
  · exact take_text h hT hn hr hs hp b hb q24 q26 q27
  · exact take_drop h hT hn hr hs hp b hb q24 q26 q27

set_option maxRecDepth 100000 in
set_option maxHeartbeats 2000000 in
theorem take_cancel {B R : Nat} {W : World} {p : Pa} {l : List Dn} (h : Rd B R W p l) (hn : l.length ≤ 500000) (hp : p.pend.size = 0) (b : Int) (hb : b = 24 ∨ b = 26) :
    Calls Tryd.prog 18 #[.pointer (some ⟨R, 0, none⟩), .int .u8 b] W (RdPost B R W (.to 0) (l ++ if p.st = 6 ∨ p.st = 7 then [] else [dExec b])) := by
  have hlo := h.lt
  obtain ⟨A, c, dA, m, dc, hbox, _⟩ := h.cells
  have c0 : W.cell? ⟨R, 0, none⟩ = some (.int .i64 p.st) := hbox.cell 0
  have c5 : W.cell? ⟨R, 5, none⟩ = some (.string p.pend) := hbox.cell 5
  rw [empty_yes hp] at c5
  have HE0 := hid (enter_rd h 0)
  have hx := exec_any h hn b (by omega)
  have HX := hid hx
  have hs : p.st = 6 ∨ p.st = 7 ∨ (p.st ≠ 6 ∧ p.st ≠ 7) := by omega
  rcases hs with hs | hs | ⟨h6, h7⟩
  · rw [if_pos (.inl hs), List.append_nil]
    rw [hs] at c0
    clear hx h hn hs hp hbox
    rcases hb with rfl | rfl
    all_goals
      go_enter Tryd.func18, Tryd.ntmps18
      go_wp2_with (go_at_call 40; refine HE0.out.mono ?_; rintro e w1 ⟨rfl, h1, h2⟩; have H1 := hid h1; clear h1)
      go_end0
      exact ⟨rfl, H1.out, h2⟩
  · rw [if_pos (.inr hs), List.append_nil]
    rw [hs] at c0
    clear hx h hn hs hp hbox
    rcases hb with rfl | rfl
    all_goals
      go_enter Tryd.func18, Tryd.ntmps18
      go_wp2_with (go_at_call 40; refine HE0.out.mono ?_; rintro e w1 ⟨rfl, h1, h2⟩; have H1 := hid h1; clear h1)
      go_end0
      exact ⟨rfl, H1.out, h2⟩
  · rw [if_neg (by omega)]
    have q6 : (p.st != 6) = true := by simp; omega
    have q7 : (p.st != 7) = true := by simp; omega
    clear hx h hn hp hbox
    rcases hb with rfl | rfl
    all_goals
      go_enter Tryd.func18, Tryd.ntmps18
      go_wp2_with (first | (go_at_call 39; refine HX.out.mono ?_; rintro e w1 ⟨rfl, h1, h2⟩; have HE := hid (enter_rd h1 0); clear h1) | (go_at_call 40; refine HE.out.mono ?_; rintro e w3 ⟨rfl, h3, h4⟩; have H3 := hid h3; clear h3))
      go_end0
      exact ⟨rfl, H3.out, h2.trans h4⟩
set_option maxRecDepth 100000 in
set_option maxHeartbeats 2000000 in
theorem take_escape {B R : Nat} {W : World} {p : Pa} {l : List Dn} (h : Rd B R W p l) (hn : l.length ≤ 500000) (hp : p.pend.size = 0) :
    Calls Tryd.prog 18 #[.pointer (some ⟨R, 0, none⟩), .int .u8 27] W (RdPost B R W (.to 1) (l ++ if p.st = 6 then [dOsc p.osc] else [])) := by
  have hlo := h.lt
  obtain ⟨A, c, dA, m, dc, hbox, _⟩ := h.cells
  have c0 : W.cell? ⟨R, 0, none⟩ = some (.int .i64 p.st) := hbox.cell 0
  have c5 : W.cell? ⟨R, 5, none⟩ = some (.string p.pend) := hbox.cell 5
  rw [empty_yes hp] at c5
  have HE0 := hid (enter_rd h 1)
  have hx := tellOsc_any h hn
  have HX := hid hx
  by_cases hs : p.st = 6
  · rw [if_pos hs]
    rw [hs] at c0
    clear hx h hn hs hp hbox
    go_enter Tryd.func18, Tryd.ntmps18
    go_wp2_with (first | (go_at_call 41; refine HX.out.mono ?_; rintro e w1 ⟨rfl, h1, h2⟩; have HE := hid (enter_rd h1 1); clear h1) | (go_at_call 40; refine HE.out.mono ?_; rintro e w3 ⟨rfl, h3, h4⟩; have H3 := hid h3; clear h3))
    go_end0
    exact ⟨rfl, H3.out, h2.trans h4⟩
  · rw [if_neg hs, List.append_nil]
    have q6 : (p.st == 6) = false := by simp; omega
    clear hx h hn hs hp hbox
    go_enter Tryd.func18, Tryd.ntmps18
    go_wp2_with (go_at_call 40; refine HE0.out.mono ?_; rintro e w1 ⟨rfl, h1, h2⟩; have H1 := hid h1; clear h1)
    go_end0
    exact ⟨rfl, H1.out, h2⟩
/-- A byte, where nothing is pending. -/
theorem take_one {B R : Nat} {W : World} {p : Pa} {l : List Dn} (h : Rd B R W p l) (hT : TabB B W) (hn : l.length ≤ 500000) (hr : rightP p) (hp : p.pend.size = 0) (b : Int) (hb : 0 ≤ b ∧ b ≤ 255) :
    Calls Tryd.prog 18 #[.pointer (some ⟨R, 0, none⟩), .int .u8 b] W (RdPost B R W (oneP p b).1 (l ++ (oneP p b).2)) := by
  rw [oneP_state]
  by_cases h1 : b = 24 ∨ b = 26
  · rw [if_pos h1]
    exact take_cancel h hn hp b h1
  · rw [if_neg h1]
    by_cases h2 : b = 27
    · rw [if_pos h2, h2]
      exact take_escape h hn hp
    · rw [if_neg h2]
      exact take_state h hT hn hr hp b hb (by simp; omega) (by simp; omega) (by simp; omega)

set_option maxRecDepth 100000 in
set_option maxHeartbeats 2000000 in
/-- Where a letter's beginning is pending, all goes there. -/
theorem take_pends {B R : Nat} {W : World} {p q : Pa} {l l2 : List Dn} (h : Rd B R W p l) (hp : p.pend.size ≠ 0) (b : Int) (hx : Calls Tryd.prog 38 #[.pointer (some ⟨R, 0, none⟩), .int .u8 b] W (RdPost B R W q l2)) :
    Calls Tryd.prog 18 #[.pointer (some ⟨R, 0, none⟩), .int .u8 b] W (RdPost B R W q l2) := by
  have hlo := h.lt
  obtain ⟨A, c, dA, m, dc, hbox, _⟩ := h.cells
  have c5 : W.cell? ⟨R, 5, none⟩ = some (.string p.pend) := hbox.cell 5
  have hne := empty_no hp
  have HX := hid hx
  generalize p.pend = pe at *
  clear hx h hp hbox
  go_enter Tryd.func18, Tryd.ntmps18
  go_wp2_with (go_at_call 38; refine HX.out.mono ?_; rintro e w1 ⟨rfl, h1, h2⟩; have H1 := hid h1; clear h1)
  go_end0
  exact ⟨rfl, H1.out, h2⟩
/-- A byte. -/
theorem take_any {B R : Nat} {W : World} {p : Pa} {l : List Dn} (h : Rd B R W p l) (hT : TabB B W) (hn : l.length ≤ 400000) (hr : rightP p) (b : Int) (hb : 0 ≤ b ∧ b ≤ 255) :
    Calls Tryd.prog 18 #[.pointer (some ⟨R, 0, none⟩), .int .u8 b] W (RdPost B R W (takeP p b).1 (l ++ (takeP p b).2)) := by
  unfold takeP
  by_cases hp : p.pend.size = 0
  · rw [if_pos hp]
    exact take_one h hT (by omega) hr hp b hb
  · rw [if_neg hp]
    have hg := pend_ground hr hp
    have hz := (right_bounds hr).2.2
    have hz0 : rightP { p with pend := nilB } := .inl ⟨hg.1, hg.2.1, hg.2.2.1, hg.2.2.2.1, hg.2.2.2.2.1, nil_short⟩
    have hhigh : 128 ≤ byteAt (p.pend ++ byteB b) 0 := by rw [byteAt_left _ _ _ (by omega)]; exact short_high hp hg.2.2.2.2.2
    by_cases h2 : (firstG (p.pend ++ byteB b)).e = 2
    · rw [if_pos h2]
      exact take_pends h hp b (post_nil rfl (pend_short h hT b hz h2))
    · rw [if_neg h2]
      by_cases h0 : (firstG (p.pend ++ byteB b)).e = 0
      · rw [if_pos h0]
        have hr128 := first_high hhigh h0
        by_cases hr1 : 160 ≤ (firstG (p.pend ++ byteB b)).r
        · rw [if_pos (by omega)]
          exact take_pends h hp b (pend_print h hT (by omega) b hz h0 hr1)
        · rw [if_neg (by omega)]
          exact take_pends h hp b (post_nil rfl (pend_left h hT (by omega) b hz h0 (by omega)))
      · rw [if_neg h0]
        have h4 : (firstG (p.pend ++ byteB b)).e = 4 := by
          rcases firstG_cases (p.pend ++ byteB b) with ⟨r, _, e, _⟩ | ⟨e, _⟩ | ⟨n, e, _⟩
          · rw [e] at h0; exact absurd rfl h0
          · rw [e] at h2; exact absurd rfl h2
          · rw [e]
        have hsp := short_spoilt hp hg.2.2.2.2.2 h4
        have hwz := size_append' p.pend (byteB b)
        rw [byteB_size] at hwz
        rw [if_pos (by rw [hsp]; show (p.pend.size : Int).toNat < _; omega)]
        refine take_pends h hp b (pend_more h hT (by omega) b hz hsp hb (fun W1 h1 hT1 => ?_))
        have := take_one h1 hT1 (by rw [List.length_append, List.length_singleton]; omega) hz0 rfl b hb
        rwa [List.append_assoc] at this
end Go.Proofs.YtpcpdbofbbpglaaDoor
