/- Layer 4, the package: what the first number of a row asks, done. -/
import Derived.Test.YtlcahkbbefcjnaaDoorCellQ
import Derived.Deep.RegionWith
namespace Go.Proofs.YtlcahkbbefcjnaaDoor
open Go.RowKit

/-- How many are taken, and the look. -/
def stepG (a : At) : List Int → Int × At
  | [] => (0, a)
  | n :: r =>
    if n = 38 then ((numG a.fg (n :: r)).1, ⟨(numG a.fg (n :: r)).2, a.bg, a.fl⟩)
    else if n = 48 then ((numG a.bg (n :: r)).1, ⟨a.fg, (numG a.bg (n :: r)).2, a.fl⟩)
    else (1, oneG a n)
theorem numG_bd {x : Int} (l : List Int) (hx : 0 ≤ x ∧ x ≤ 256) : 0 ≤ (numG x l).2 ∧ (numG x l).2 ≤ 256 := by
  unfold numG
  split
  · split
    · show (0 : Int) ≤ _ + 1 ∧ _ + 1 ≤ (256 : Int); omega
    · exact hx
  · exact hx
theorem stepG_look {a : At} (h : lookB a = true) (l : List Int) : lookB (stepG a l).2 = true := by
  cases l with
  | nil => exact h
  | cons n r =>
    simp only [stepG]
    split
    · rw [look_iff] at *
      exact ⟨numG_bd _ h.1, h.2⟩
    · split
      · rw [look_iff] at *
        exact ⟨h.1, numG_bd _ h.2.1, h.2.2⟩
      · exact oneG_look h n
theorem stepG_taken (a : At) {l : List Int} (h : l ≠ []) : 1 ≤ (stepG a l).1 ∧ (stepG a l).1 ≤ l.length := by
  have hn : ∀ (x : Int) (n : Int) (r : List Int), 1 ≤ (numG x (n :: r)).1 ∧ (numG x (n :: r)).1 ≤ ((n :: r).length : Int) := by
    intro x n r
    unfold numG
    split
    · rename_i e
      split
      · have := congrArg List.length e; simp at this ⊢; omega
      · simp; omega
    · simp; omega
  cases l with
  | nil => exact absurd rfl h
  | cons n r =>
    simp only [stepG]
    split
    · exact hn _ _ _
    · split
      · exact hn _ _ _
      · simp; omega
theorem chg_num {a : At} {n x : Int} {r : List Int} (hn : n = 38 ∨ n = 48) (hx : x = if n = 38 then a.fg else a.bg) :
    chgG a (n :: r) = chgG (if n = 38 then ⟨(numG x (n :: r)).2, a.bg, a.fl⟩ else ⟨a.fg, (numG x (n :: r)).2, a.fl⟩) ((n :: r).drop (numG x (n :: r)).1.toNat) := by
  have hid' : (if n = 38 then (⟨x, a.bg, a.fl⟩ : At) else ⟨a.fg, x, a.fl⟩) = a := by
    rw [hx]
    split <;> rfl
  have h0 : (n :: r)[0]? = some n := rfl
  by_cases hl : (n :: r).length < 3
  · rw [numG_short hl]
    have e := chgG_short (a := a) h0 hn (by omega)
    rw [List.drop_zero] at e
    rw [e]
    show a = chgG (if n = 38 then ⟨x, a.bg, a.fl⟩ else ⟨a.fg, x, a.fl⟩) (List.drop (((n :: r).length : Int)).toNat (n :: r))
    rw [hid', chgG_nil (by omega)]
  · match r, hl with
    | [], h => exact absurd (by simp) h
    | [_], h => exact absurd (by simp) h
    | f :: u :: q, _ =>
      rw [numG_long]
      by_cases hg : f = 5 ∧ 0 ≤ u ∧ u ≤ 255
      · rw [if_pos hg]
        have e := chgG_good (a := a) (l := n :: f :: u :: q) (k := 0) h0 hn (f := f) rfl (v := u) rfl hg
        rw [List.drop_zero] at e
        rw [e]
        rfl
      · rw [if_neg hg]
        have e := chgG_bad (a := a) (l := n :: f :: u :: q) (k := 0) h0 hn (f := f) rfl (v := u) rfl hg
        rw [List.drop_zero] at e
        rw [e]
        show a = chgG (if n = 38 then ⟨x, a.bg, a.fl⟩ else ⟨a.fg, x, a.fl⟩) (List.drop (((n :: f :: u :: q).length : Int)).toNat (n :: f :: u :: q))
        rw [hid', chgG_nil (by omega)]
theorem stepG_chg (a : At) {l : List Int} (h : l ≠ []) : chgG a l = chgG (stepG a l).2 (l.drop (stepG a l).1.toNat) := by
  match l, h with
  | n :: r, _ =>
    by_cases h1 : n = 38
    · rw [chg_num (x := a.fg) (.inl h1) (by rw [if_pos h1])]
      simp only [stepG]
      rw [if_pos h1, if_pos h1]
    · by_cases h2 : n = 48
      · rw [chg_num (x := a.bg) (.inr h2) (by rw [if_neg h1])]
        simp only [stepG]
        rw [if_neg h1, if_neg h1, if_pos h2]
      · simp only [stepG]
        rw [if_neg h1, if_neg h2]
        conv => lhs; unfold chgG
        rw [if_neg (by omega)]
        rfl

def AskPost (W : World) (b : Nat) (a : At) (w' : World) : Prop := Box w' b 30 a.cells ∧ But b W w'

set_option maxRecDepth 100000 in
set_option maxHeartbeats 400000 in
theorem ask_0 (b : Nat) (a : At) (ad : Addr) (m c : Nat) (W : World) (hbox : Box W b 30 a.cells) (hpos : 0 < m) (hx : W.cell? ad = some (.int .i64 0)) :
    Calls Tryd.prog 43 #[.pointer (some ⟨b, 0, none⟩), .slice (some ad) m c] W fun e w' => e = .returned (.int .i64 1) ∧ AskPost W b ⟨0, 0, 0⟩ w' := by
  obtain ⟨fg, bg, fl⟩ := a
  have hbox' : Box W b 30 #[.int .i64 fg, .int .i64 bg, .int .i64 fl] := hbox
  obtain ⟨⟨c0, c1, c2⟩, f0, f1, f2⟩ := hbox'.three
  have hpos' : (0 : Int) < m := by omega
  go_enter Tryd.func43, Tryd.ntmps43
  go_wp2
  go_ret
  exact ⟨rfl, ((hbox'.set (i := 0) _).set (i := 1) _).set (i := 2) _, (((But.refl _ _).set _).set _).set _⟩

set_option maxRecDepth 100000 in
set_option maxHeartbeats 400000 in
theorem ask_num (b : Nat) (a : At) (n : Int) (r : List Int) (v : Value) (W : World) (hbox : Box W b 30 a.cells) (hr : IRow W v (n :: r)) (hm : (n :: r).length ≤ 1000000) (hn : n = 38 ∨ n = 48) :
    Calls Tryd.prog 43 #[.pointer (some ⟨b, 0, none⟩), v] W fun e w' => e = .returned (.int .i64 (stepG a (n :: r)).1) ∧ AskPost W b (stepG a (n :: r)).2 w' := by
  obtain ⟨fg, bg, fl⟩ := a
  have hbox' : Box W b 30 #[.int .i64 fg, .int .i64 bg, .int .i64 fl] := hbox
  have hr' := hr
  obtain ⟨A, c, rfl, hA⟩ := hr
  obtain ⟨ad, rfl, had, hcell⟩ := hA (by simp)
  have hx : W.cell? ad = some (.int .i64 n) := hcell 0 n rfl
  rcases hn with rfl | rfl
  · have h1 := askNumber_any b 0 30 _ fg _ (38 :: r) W hbox' rfl hr' hm
    have HS : Hid (stepG ⟨fg, bg, fl⟩ (38 :: r) = ((numG fg (38 :: r)).1, ⟨(numG fg (38 :: r)).2, bg, fl⟩)) := by unfold Hid; simp [stepG]
    have hpos : 0 < (38 :: r).length := by simp
    generalize (38 :: r).length = m at *
    generalize numG fg (38 :: r) = q at *
    generalize stepG ⟨fg, bg, fl⟩ (38 :: r) = z at *
    have hpos' : (0 : Int) < m := by omega
    clear hcell hA hr'
    go_enter Tryd.func43, Tryd.ntmps43
    go_wp2_with (go_at_call 51; refine h1.mono ?_; rintro e w2 ⟨rfl, hb⟩)
    go_ret
    exact ⟨ret_int (by rw [HS.out]), by rw [HS.out]; exact hb⟩
  · have h1 := askNumber_any b 1 30 _ bg _ (48 :: r) W hbox' rfl hr' hm
    have HS : Hid (stepG ⟨fg, bg, fl⟩ (48 :: r) = ((numG bg (48 :: r)).1, ⟨fg, (numG bg (48 :: r)).2, fl⟩)) := by unfold Hid; simp [stepG]
    have hpos : 0 < (48 :: r).length := by simp
    generalize (48 :: r).length = m at *
    generalize numG bg (48 :: r) = q at *
    generalize stepG ⟨fg, bg, fl⟩ (48 :: r) = z at *
    have hpos' : (0 : Int) < m := by omega
    clear hcell hA hr'
    go_enter Tryd.func43, Tryd.ntmps43
    go_wp2_with (go_at_call 51; refine h1.mono ?_; rintro e w2 ⟨rfl, hb⟩)
    go_ret
    exact ⟨ret_int (by rw [HS.out]), by rw [HS.out]; exact hb⟩

set_option maxRecDepth 100000 in
set_option maxHeartbeats 1000000 in
theorem ask_one (b : Nat) (a : At) (n : Int) (ad : Addr) (m c : Nat) (W : World) (hl : lookB a = true) (hbox : Box W b 30 a.cells) (hpos : 0 < m) (had : ad.block < b) (hx : W.cell? ad = some (.int .i64 n))
    (hwf : (Lit.int .i64 n).wf = true) (h0 : ¬ n = 0) (h38 : ¬ n = 38) (h48 : ¬ n = 48) :
    Calls Tryd.prog 43 #[.pointer (some ⟨b, 0, none⟩), .slice (some ad) m c] W fun e w' => e = .returned (.int .i64 1) ∧ AskPost W b (oneG a n) w' := by
  have HR := hid (oneG_rows (a := a) h0)
  rw [look_iff] at hl
  obtain ⟨fg, bg, fl⟩ := a
  obtain ⟨_, _, hfl⟩ := hl
  simp only at hfl
  have hor := or_is (n := n) hfl
  have hob := or_bd (n := n) hfl
  have hnt := not_is (n := n) hob
  have hflag := flagOf_any n
  have hclr := fun W => cleared_any n W hwf
  have hrf := fun W hb => askRow_any b 0 30 #[.int .i64 fg, .int .i64 bg, .int .i64 (woG (woG fl (flagG n) + flagG n) (clrG n))] fg n 30 90 W (.inl ⟨rfl, rfl⟩) hb rfl
  have hrb := fun W hb => askRow_any b 1 30 #[.int .i64 (rowG fg n 30 90), .int .i64 bg, .int .i64 (woG (woG fl (flagG n) + flagG n) (clrG n))] bg n 40 100 W (.inr ⟨rfl, rfl⟩) hb rfl
  generalize flagG n = F at *
  generalize clrG n = C at *
  generalize woG fl F + F = X at *
  generalize woG X C = Y at *
  simp only at HR
  generalize rowG fg n 30 90 = R1 at *
  generalize rowG bg n 40 100 = R2 at *
  have hbox' : Box W b 30 #[.int .i64 fg, .int .i64 bg, .int .i64 fl] := hbox
  have g0 : (n == 0) = false := by simp [h0]
  have g38 : (n == 38) = false := by simp [h38]
  have g48 : (n == 48) = false := by simp [h48]
  have hpos' : (0 : Int) < m := by omega
  obtain ⟨⟨c0, c1, c2⟩, f0, f1, f2⟩ := hbox'.three
  have hW : b < W.heap.size := hbox'.lt
  clear h0 h38 h48 hwf hfl hob
  go_enter Tryd.func43, Tryd.ntmps43
  go_upto_region 9 with fail
  go_cut [] (fun wx => Box wx b 30 #[.int .i64 fg, .int .i64 bg, .int .i64 X] ∧ But b W wx)
  case first =>
    first | go_region_with (go_at_call 52; refine (hflag _).mono ?_; rintro e w2 ⟨rfl, rfl⟩) | fail
    all_goals
      go_wp2_with fail
      go_meet
      exact ⟨(hbox'.drew.set (i := 2) _), (But.refl _ _).drew.set _⟩
  case rest =>
    obtain ⟨hb1, hB1⟩ := hcut
    clear c0 c1 c2 f0 f1 f2 hor hflag hbox hbox'
    obtain ⟨⟨c0, c1, c2⟩, f0, f1, f2⟩ := hb1.three
    have hx1 := ((hB1.below (Nat.le_of_lt hW)).cell (p := ad) had).trans hx
    have hW1 := hb1.lt
    go_upto_region 10 with fail
    go_cut [] (fun wx => Box wx b 30 #[.int .i64 fg, .int .i64 bg, .int .i64 Y] ∧ But b W wx)
    case first =>
      first | go_region_with (go_at_call 53; refine (hclr _).mono ?_; rintro e w4 ⟨rfl, hb⟩; have d0 := hb1.drew.below hb hW1; obtain ⟨⟨k0, k1, k2⟩, q0, q1, q2⟩ := d0.three) | fail
      all_goals
        go_wp2_with fail
        go_meet
        exact ⟨d0.set (i := 2) _, (hB1.drew.trans (But.of_below hb)).set _⟩
    case rest =>
      obtain ⟨hb2, hB2⟩ := hcut
      clear c0 c1 c2 f0 f1 f2 hclr hnt hb1 hx1 hW1
      obtain ⟨⟨c0, c1, c2⟩, f0, f1, f2⟩ := hb2.three
      have hx2 := ((hB2.below (Nat.le_of_lt hW)).cell (p := ad) had).trans hx
      go_upto_region 11 with fail
      go_cut [] (fun wx => Box wx b 30 #[.int .i64 R1, .int .i64 bg, .int .i64 Y] ∧ But b W wx)
      case first =>
        first | go_region_with (go_at_call 54; refine (hrf _ hb2.drew).mono ?_; rintro e w5 ⟨rfl, hb3, hB3⟩) | fail
        all_goals
          go_wp2_with fail
          go_meet
          exact ⟨hb3, hB2.drew.trans hB3⟩
      case rest =>
        obtain ⟨hb4, hB4⟩ := hcut
        clear c0 c1 c2 f0 f1 f2 hb2 hx2 hrf
        obtain ⟨⟨c0, c1, c2⟩, f0, f1, f2⟩ := hb4.three
        have hx4 := ((hB4.below (Nat.le_of_lt hW)).cell (p := ad) had).trans hx
        go_upto_region 12 with fail
        first | go_region_with (go_at_call 54; refine (hrb _ hb4.drew).mono ?_; rintro e w5 ⟨rfl, hb3, hB3⟩) | fail
        all_goals
          go_wp2
          go_ret
          exact ⟨rfl, by rw [HR.out]; exact ⟨hb3, hB4.drew.trans hB3⟩⟩
end Go.Proofs.YtlcahkbbefcjnaaDoor
