/- Layer 5, the package: what a byte does in each state but the ground. Made by wip/gen/parseH.py. -/
import Derived.Test.YtpcpdbofbbpglaaDoorParseG
namespace Go.Proofs.YtpcpdbofbbpglaaDoor
open Go.RowKit

/-- A byte that is none of 24, 26, 27, where nothing is pending. -/
def stateP (p : Pa) (c : Int) : Pa × List Dn :=
  if p.st = 6 then oscP p c
  else if p.st = 7 then (p, [])
  else if c < 32 then (p, [dExec c])
  else if p.st = 0 then (if 127 < c then highP p c else (p, if c < 127 then [dPrint c] else []))
  else if p.st = 1 ∨ p.st = 2 then escP p c
  else if p.st = 3 then csiP p c
  else if p.st = 4 then lastP p c
  else if p.st = 5 then (if 64 ≤ c ∧ c ≤ 126 then (.to 0, []) else (p, []))
  else if (48 ≤ c ∧ c ≤ 126) ∨ 127 < c then (.to 0, []) else (p, [])
theorem oneP_state (p : Pa) (c : Int) : oneP p c = if c = 24 ∨ c = 26 then (.to 0, if p.st = 6 ∨ p.st = 7 then [] else [dExec c]) else if c = 27 then (.to 1, if p.st = 6 then [dOsc p.osc] else []) else stateP p c := rfl
theorem post_as {f : FuncId} {args : Array Value} {B R : Nat} {W : World} {x : Pa × List Dn} {q : Pa} {l d : List Dn} (e : x = (q, d)) (hc : Calls Tryd.prog f args W (RdPost B R W q (l ++ d))) : Calls Tryd.prog f args W (RdPost B R W x.1 (l ++ x.2)) := by rw [e]; exact hc
theorem post_nil {f : FuncId} {args : Array Value} {B R : Nat} {W : World} {x : Pa × List Dn} {q : Pa} {l : List Dn} (e : x = (q, [])) (hc : Calls Tryd.prog f args W (RdPost B R W q l)) : Calls Tryd.prog f args W (RdPost B R W x.1 (l ++ x.2)) := by rw [e]; simpa using hc
theorem rd_inter {B R : Nat} {W : World} {p : Pa} {l : List Dn} (h : Rd B R W p l) (i : Int) : ∃ W', W' = (((((W.setCell ⟨R, 0, none⟩ (.int .i64 2)).setCell ⟨R, 1, none⟩ (.int .i64 0)).setCell ⟨R, 2, none⟩ (.slice none 0 0)).setCell ⟨R, 3, none⟩ (.int .i64 i)).setCell ⟨R, 4, none⟩ (.string ⟨#[]⟩)).setCell ⟨R, 5, none⟩ (.string ⟨#[]⟩) ∧
    Rd B R W' { Pa.to 2 with inter := i } l ∧ Below B W W' := by
  obtain ⟨v, lv, P, rfl, h1, h2, ⟨dv, hBR, h, hown, hnum⟩, hv⟩ := h
  have hg : W.grownBy ((((((W.setCell ⟨R, 0, none⟩ (.int .i64 2)).setCell ⟨R, 1, none⟩ (.int .i64 0)).setCell ⟨R, 2, none⟩ (.slice none 0 0)).setCell ⟨R, 3, none⟩ (.int .i64 i)).setCell ⟨R, 4, none⟩ (.string ⟨#[]⟩)).setCell ⟨R, 5, none⟩ (.string ⟨#[]⟩)) (some R) := grown_set (grown_set (grown_set (grown_set (grown_set (grown_set (World.grownBy.refl W _) _) _) _) _) _) _
  refine ⟨_, rfl, ⟨.slice none 0 0, lv, P, rfl, h1, Nat.le_trans h2 hg.size, RdX.turned hBR h hown hnum ?_ hg, NumO.nil _ _ _⟩, ?_⟩
  · obtain ⟨p1, p2, p3, p4, p5, p6⟩ := p
    have h1 : Box (W.setCell ⟨R, 0, none⟩ (.int .i64 2)) R 50 (rdCells R ⟨2, p2, p3, p4, p5, p6⟩ v dv) := h.set _
    have h2 : Box (_) R 50 (rdCells R ⟨2, 0, p3, p4, p5, p6⟩ v dv) := h1.set (i := 1) (.int .i64 0)
    have h3 : Box (_) R 50 (rdCells R ⟨2, 0, [], p4, p5, p6⟩ (.slice none 0 0) dv) := h2.set (i := 2) (.slice none 0 0)
    have h4 : Box (_) R 50 (rdCells R ⟨2, 0, [], i, p5, p6⟩ (.slice none 0 0) dv) := h3.set (i := 3) (.int .i64 i)
    have h5 : Box (_) R 50 (rdCells R ⟨2, 0, [], i, nilB, p6⟩ (.slice none 0 0) dv) := h4.set (i := 4) (.string nilB)
    exact h5.set (i := 5) (.string nilB)
  · exact ((((((Below.refl B W).setCell hBR _).setCell hBR _).setCell hBR _).setCell hBR _).setCell hBR _).setCell hBR _
/-- A field of the reader's parser alone is another, its numbers the same. -/
theorem rd_field {B R : Nat} {W W' : World} {p p' : Pa} {l : List Dn} (h : Rd B R W p l) (hp : p'.params = p.params) (hb : ∀ v dv, Box W R 50 (rdCells R p v dv) → Box W' R 50 (rdCells R p' v dv)) (hg : W.grownBy W' (some R)) : Rd B R W' p' l ∧ Below B W W' := by
  obtain ⟨v, lv, P, rfl, h1, h2, ⟨dv, hBR, h, hown, hnum⟩, hv⟩ := h
  refine ⟨⟨v, lv, P, rfl, h1, Nat.le_trans h2 hg.size, RdX.turned hBR h hown hnum (hb _ _ h) hg, ?_⟩, (Below.refl B W).grown hg (by omega) (fun k e => by cases e; exact hBR)⟩
  rw [hp]
  exact (hv.kept (Kept.other _ h (by decide) hg)).mono (Nat.le_refl _) hg.size

set_option maxRecDepth 100000 in
set_option maxHeartbeats 2000000 in
theorem drop_any {B R : Nat} {W : World} {p : Pa} {l : List Dn} (h : Rd B R W p l) (hn : l.length ≤ 500000) (hs : p.st = 8) (b : Int) (hb : 0 ≤ b ∧ b ≤ 255) :
    Calls Tryd.prog 37 #[.pointer (some ⟨R, 0, none⟩), .int .u8 b] W (RdPost B R W (stateP p b).1 (l ++ (stateP p b).2)) := by
  obtain ⟨b0, b1⟩ := hb
  have hc : (b < 32) ∨ (32 ≤ b ∧ b < 48) ∨ (48 ≤ b ∧ b < 127) ∨ (b = 127) ∨ (128 ≤ b) := by omega
  rcases hc with hlt | ⟨g1, g2⟩ | ⟨g1, g2⟩ | rfl | g1
  · refine post_as (q := p) (d := [dExec b]) (by unfold stateP; repeat (first | rw [if_pos (by omega)] | rw [if_neg (by omega)])) ?_
    have HX := hid (exec_any h hn b ⟨b0, b1⟩)
    clear h hn
    go_enter Tryd.func37, Tryd.ntmps37
    go_wp2_with (go_at_call 39; refine HX.out.mono ?_; rintro e w1 ⟨rfl, h1, h2⟩; have H1 := hid h1; clear h1)
    go_end0
    exact ⟨rfl, H1.out, h2⟩
  · refine post_nil (q := p) (by unfold stateP; repeat (first | rw [if_pos (by omega)] | rw [if_neg (by omega)])) ?_
    have HX := hid h
    clear h hn
    go_enter Tryd.func37, Tryd.ntmps37
    go_wp2
    go_end0
    exact ⟨rfl, HX.out, Below.refl _ _⟩
  · refine post_nil (q := .to 0) (by unfold stateP; repeat (first | rw [if_pos (by omega)] | rw [if_neg (by omega)])) ?_
    have HX := hid (enter_rd h 0)
    have q127 : (b == 127) = false := by simp; omega
    clear h hn
    go_enter Tryd.func37, Tryd.ntmps37
    go_wp2_with (go_at_call 40; refine HX.out.mono ?_; rintro e w1 ⟨rfl, h1, h2⟩; have H1 := hid h1; clear h1)
    go_end0
    exact ⟨rfl, H1.out, h2⟩
  · refine post_nil (q := p) (by unfold stateP; repeat (first | rw [if_pos (by omega)] | rw [if_neg (by omega)])) ?_
    have HX := hid h
    clear h hn
    go_enter Tryd.func37, Tryd.ntmps37
    go_wp2
    go_end0
    exact ⟨rfl, HX.out, Below.refl _ _⟩
  · refine post_nil (q := .to 0) (by unfold stateP; repeat (first | rw [if_pos (by omega)] | rw [if_neg (by omega)])) ?_
    have HX := hid (enter_rd h 0)
    have q127 : (b == 127) = false := by simp; omega
    clear h hn
    go_enter Tryd.func37, Tryd.ntmps37
    go_wp2_with (go_at_call 40; refine HX.out.mono ?_; rintro e w1 ⟨rfl, h1, h2⟩; have H1 := hid h1; clear h1)
    go_end0
    exact ⟨rfl, H1.out, h2⟩
set_option maxRecDepth 100000 in
set_option maxHeartbeats 2000000 in
theorem skip_any {B R : Nat} {W : World} {p : Pa} {l : List Dn} (h : Rd B R W p l) (hn : l.length ≤ 500000) (hs : p.st = 5) (b : Int) (hb : 0 ≤ b ∧ b ≤ 255) :
    Calls Tryd.prog 34 #[.pointer (some ⟨R, 0, none⟩), .int .u8 b] W (RdPost B R W (stateP p b).1 (l ++ (stateP p b).2)) := by
  obtain ⟨b0, b1⟩ := hb
  have hc : (b < 32) ∨ (32 ≤ b ∧ b < 64) ∨ (64 ≤ b ∧ b < 127) ∨ (b = 127) ∨ (128 ≤ b) := by omega
  rcases hc with hlt | ⟨g1, g2⟩ | ⟨g1, g2⟩ | rfl | g1
  · refine post_as (q := p) (d := [dExec b]) (by unfold stateP; repeat (first | rw [if_pos (by omega)] | rw [if_neg (by omega)])) ?_
    have HX := hid (exec_any h hn b ⟨b0, b1⟩)
    clear h hn
    go_enter Tryd.func34, Tryd.ntmps34
    go_wp2_with (go_at_call 39; refine HX.out.mono ?_; rintro e w1 ⟨rfl, h1, h2⟩; have H1 := hid h1; clear h1)
    go_end0
    exact ⟨rfl, H1.out, h2⟩
  · refine post_nil (q := p) (by unfold stateP; repeat (first | rw [if_pos (by omega)] | rw [if_neg (by omega)])) ?_
    have HX := hid h
    clear h hn
    go_enter Tryd.func34, Tryd.ntmps34
    go_wp2
    go_end0
    exact ⟨rfl, HX.out, Below.refl _ _⟩
  · refine post_nil (q := .to 0) (by unfold stateP; repeat (first | rw [if_pos (by omega)] | rw [if_neg (by omega)])) ?_
    have HX := hid (enter_rd h 0)
    clear h hn
    go_enter Tryd.func34, Tryd.ntmps34
    go_wp2_with (go_at_call 40; refine HX.out.mono ?_; rintro e w1 ⟨rfl, h1, h2⟩; have H1 := hid h1; clear h1)
    go_end0
    exact ⟨rfl, H1.out, h2⟩
  · refine post_nil (q := p) (by unfold stateP; repeat (first | rw [if_pos (by omega)] | rw [if_neg (by omega)])) ?_
    have HX := hid h
    clear h hn
    go_enter Tryd.func34, Tryd.ntmps34
    go_wp2
    go_end0
    exact ⟨rfl, HX.out, Below.refl _ _⟩
  · refine post_nil (q := p) (by unfold stateP; repeat (first | rw [if_pos (by omega)] | rw [if_neg (by omega)])) ?_
    have HX := hid h
    clear h hn
    go_enter Tryd.func34, Tryd.ntmps34
    go_wp2
    go_end0
    exact ⟨rfl, HX.out, Below.refl _ _⟩
set_option maxRecDepth 100000 in
set_option maxHeartbeats 2000000 in
theorem behind_any {B R : Nat} {W : World} {p : Pa} {l : List Dn} (h : Rd B R W p l) (hn : l.length ≤ 500000) (hs : p.st = 4) (hp : p.params.length ≤ 16) (b : Int) (hb : 0 ≤ b ∧ b ≤ 255) :
    Calls Tryd.prog 33 #[.pointer (some ⟨R, 0, none⟩), .int .u8 b] W (RdPost B R W (stateP p b).1 (l ++ (stateP p b).2)) := by
  obtain ⟨b0, b1⟩ := hb
  have hc : (b < 32) ∨ (32 ≤ b ∧ b < 64) ∨ (64 ≤ b ∧ b < 127) ∨ (b = 127) ∨ (128 ≤ b) := by omega
  rcases hc with hlt | ⟨g1, g2⟩ | ⟨g1, g2⟩ | rfl | g1
  · refine post_as (q := p) (d := [dExec b]) (by unfold stateP lastP; repeat (first | rw [if_pos (by omega)] | rw [if_neg (by omega)])) ?_
    have HX := hid (exec_any h hn b ⟨b0, b1⟩)
    clear h hn
    go_enter Tryd.func33, Tryd.ntmps33
    go_wp2_with (go_at_call 39; refine HX.out.mono ?_; rintro e w1 ⟨rfl, h1, h2⟩; have H1 := hid h1; clear h1)
    go_end0
    exact ⟨rfl, H1.out, h2⟩
  · refine post_nil (q := .to 5) (by unfold stateP lastP; repeat (first | rw [if_pos (by omega)] | rw [if_neg (by omega)])) ?_
    have HX := hid (enter_rd h 5)
    have q127 : (b == 127) = false := by simp; omega
    clear h hn
    go_enter Tryd.func33, Tryd.ntmps33
    go_wp2_with (go_at_call 40; refine HX.out.mono ?_; rintro e w1 ⟨rfl, h1, h2⟩; have H1 := hid h1; clear h1)
    go_end0
    exact ⟨rfl, H1.out, h2⟩
  · refine post_as (q := .to 0) (d := [dCsi p b]) (by unfold stateP lastP; repeat (first | rw [if_pos (by omega)] | rw [if_neg (by omega)])) ?_
    have HX := hid (endCsi_any h hn hp b ⟨b0, b1⟩)
    clear h hn
    go_enter Tryd.func33, Tryd.ntmps33
    go_wp2_with (go_at_call 49; refine HX.out.mono ?_; rintro e w1 ⟨rfl, h1, h2⟩; have H1 := hid h1; clear h1)
    go_end0
    exact ⟨rfl, H1.out, h2⟩
  · refine post_nil (q := p) (by unfold stateP lastP; repeat (first | rw [if_pos (by omega)] | rw [if_neg (by omega)])) ?_
    have HX := hid h
    clear h hn
    go_enter Tryd.func33, Tryd.ntmps33
    go_wp2
    go_end0
    exact ⟨rfl, HX.out, Below.refl _ _⟩
  · refine post_nil (q := .to 5) (by unfold stateP lastP; repeat (first | rw [if_pos (by omega)] | rw [if_neg (by omega)])) ?_
    have HX := hid (enter_rd h 5)
    have q127 : (b == 127) = false := by simp; omega
    clear h hn
    go_enter Tryd.func33, Tryd.ntmps33
    go_wp2_with (go_at_call 40; refine HX.out.mono ?_; rintro e w1 ⟨rfl, h1, h2⟩; have H1 := hid h1; clear h1)
    go_end0
    exact ⟨rfl, H1.out, h2⟩
set_option maxRecDepth 100000 in
set_option maxHeartbeats 2000000 in
theorem inter_any {B R : Nat} {W : World} {p : Pa} {l : List Dn} (h : Rd B R W p l) (hn : l.length ≤ 500000) (hs : p.st = 2) (b : Int) (hb : 0 ≤ b ∧ b ≤ 255) :
    Calls Tryd.prog 31 #[.pointer (some ⟨R, 0, none⟩), .int .u8 b] W (RdPost B R W (stateP p b).1 (l ++ (stateP p b).2)) := by
  obtain ⟨b0, b1⟩ := hb
  have hc : (b < 32) ∨ (32 ≤ b ∧ b < 48) ∨ (48 ≤ b ∧ b < 127) ∨ (b = 127) ∨ (128 ≤ b) := by omega
  rcases hc with hlt | ⟨g1, g2⟩ | ⟨g1, g2⟩ | rfl | g1
  · refine post_as (q := p) (d := [dExec b]) (by unfold stateP escP; repeat (first | rw [if_pos (by omega)] | rw [if_neg (by omega)])) ?_
    have HX := hid (exec_any h hn b ⟨b0, b1⟩)
    clear h hn
    go_enter Tryd.func31, Tryd.ntmps31
    go_wp2_with (go_at_call 39; refine HX.out.mono ?_; rintro e w1 ⟨rfl, h1, h2⟩; have H1 := hid h1; clear h1)
    go_end0
    exact ⟨rfl, H1.out, h2⟩
  · refine post_nil (q := .to 8) (by unfold stateP escP; repeat (first | rw [if_pos (by omega)] | rw [if_neg (by omega)])) ?_
    have HX := hid (enter_rd h 8)
    clear h hn
    go_enter Tryd.func31, Tryd.ntmps31
    go_wp2_with (go_at_call 40; refine HX.out.mono ?_; rintro e w1 ⟨rfl, h1, h2⟩; have H1 := hid h1; clear h1)
    go_end0
    exact ⟨rfl, H1.out, h2⟩
  · refine post_as (q := .to 0) (d := [dEsc p.inter b]) (by unfold stateP escP; repeat (first | rw [if_pos (by omega)] | rw [if_neg (by omega)])) ?_
    have HX := hid (endEscape_any h hn b ⟨b0, b1⟩)
    clear h hn
    go_enter Tryd.func31, Tryd.ntmps31
    go_wp2_with (go_at_call 46; refine HX.out.mono ?_; rintro e w1 ⟨rfl, h1, h2⟩; have H1 := hid h1; clear h1)
    go_end0
    exact ⟨rfl, H1.out, h2⟩
  · refine post_nil (q := p) (by unfold stateP escP; repeat (first | rw [if_pos (by omega)] | rw [if_neg (by omega)])) ?_
    have HX := hid h
    clear h hn
    go_enter Tryd.func31, Tryd.ntmps31
    go_wp2
    go_end0
    exact ⟨rfl, HX.out, Below.refl _ _⟩
  · refine post_nil (q := .to 0) (by unfold stateP escP; repeat (first | rw [if_pos (by omega)] | rw [if_neg (by omega)])) ?_
    have HX := hid (enter_rd h 0)
    clear h hn
    go_enter Tryd.func31, Tryd.ntmps31
    go_wp2_with (go_at_call 40; refine HX.out.mono ?_; rintro e w1 ⟨rfl, h1, h2⟩; have H1 := hid h1; clear h1)
    go_end0
    exact ⟨rfl, H1.out, h2⟩
set_option maxRecDepth 100000 in
set_option maxHeartbeats 2000000 in
theorem escaped_any {B R : Nat} {W : World} {p : Pa} {l : List Dn} (h : Rd B R W p l) (hn : l.length ≤ 500000) (hs : p.st = 1) (b : Int) (hb : 0 ≤ b ∧ b ≤ 255) :
    Calls Tryd.prog 30 #[.pointer (some ⟨R, 0, none⟩), .int .u8 b] W (RdPost B R W (stateP p b).1 (l ++ (stateP p b).2)) := by
  obtain ⟨b0, b1⟩ := hb
  have hc : (b < 32) ∨ (32 ≤ b ∧ b < 48) ∨ (b = 91) ∨ (b = 93) ∨ (b = 80) ∨ (b = 88) ∨ (b = 94) ∨ (b = 95) ∨ (48 ≤ b ∧ b < 127 ∧ b ≠ 91 ∧ b ≠ 93 ∧ b ≠ 80 ∧ b ≠ 88 ∧ b ≠ 94 ∧ b ≠ 95) ∨ (b = 127) ∨ (128 ≤ b) := by omega
  rcases hc with hlt | ⟨g1, g2⟩ | rfl | rfl | rfl | rfl | rfl | rfl | ⟨g1, g2, g3⟩ | rfl | g1
  · refine post_as (q := p) (d := [dExec b]) (by unfold stateP escP; repeat (first | rw [if_pos (by omega)] | rw [if_neg (by omega)])) ?_
    have HX := hid (exec_any h hn b ⟨b0, b1⟩)
    clear h hn
    go_enter Tryd.func30, Tryd.ntmps30
    go_wp2_with (go_at_call 39; refine HX.out.mono ?_; rintro e w1 ⟨rfl, h1, h2⟩; have H1 := hid h1; clear h1)
    go_end0
    exact ⟨rfl, H1.out, h2⟩
  · refine post_nil (q := { Pa.to 2 with inter := b }) (by unfold stateP escP; repeat (first | rw [if_pos (by omega)] | rw [if_neg (by omega)])) ?_
    obtain ⟨A, c, dA, n, dc, hbox, _⟩ := h.cells
    have c0 : W.cell? ⟨R, 0, none⟩ = some (.int .i64 p.st) := hbox.cell 0
    have c1 : W.cell? ⟨R, 1, none⟩ = some (.int .i64 p.priv) := hbox.cell 1
    have c2 : W.cell? ⟨R, 2, none⟩ = some (.slice A p.params.length c) := hbox.cell 2
    have c3 : W.cell? ⟨R, 3, none⟩ = some (.int .i64 p.inter) := hbox.cell 3
    have c4 : W.cell? ⟨R, 4, none⟩ = some (.string p.osc) := hbox.cell 4
    have c5 : W.cell? ⟨R, 5, none⟩ = some (.string p.pend) := hbox.cell 5
    have f0 := hbox.free 0
    have f1 := hbox.free 1
    have f2 := hbox.free 2
    have f3 := hbox.free 3
    have f4 := hbox.free 4
    have f5 := hbox.free 5
    obtain ⟨W', hW', hrd, hbel⟩ := rd_inter h b
    have HR := hid hrd
    have HW := hid hW'
    have HL := hid hbel
    clear h hn hbox hs hW' hrd hbel
    go_enter Tryd.func30, Tryd.ntmps30
    go_wp2
    go_end0
    have hw := HW.out
    subst hw
    exact ⟨rfl, HR.out, HL.out⟩
  · refine post_nil (q := .to 3) (by unfold stateP escP; repeat (first | rw [if_pos (by omega)] | rw [if_neg (by omega)])) ?_
    have HX := hid (enter_rd h 3)
    clear h hn
    go_enter Tryd.func30, Tryd.ntmps30
    go_wp2_with (go_at_call 40; refine HX.out.mono ?_; rintro e w1 ⟨rfl, h1, h2⟩; have H1 := hid h1; clear h1)
    go_end0
    exact ⟨rfl, H1.out, h2⟩
  · refine post_nil (q := .to 6) (by unfold stateP escP; repeat (first | rw [if_pos (by omega)] | rw [if_neg (by omega)])) ?_
    have HX := hid (enter_rd h 6)
    clear h hn
    go_enter Tryd.func30, Tryd.ntmps30
    go_wp2_with (go_at_call 40; refine HX.out.mono ?_; rintro e w1 ⟨rfl, h1, h2⟩; have H1 := hid h1; clear h1)
    go_end0
    exact ⟨rfl, H1.out, h2⟩
  · refine post_nil (q := .to 7) (by unfold stateP escP; repeat (first | rw [if_pos (by omega)] | rw [if_neg (by omega)])) ?_
    have HX := hid (enter_rd h 7)
    clear h hn
    go_enter Tryd.func30, Tryd.ntmps30
    go_wp2_with (go_at_call 40; refine HX.out.mono ?_; rintro e w1 ⟨rfl, h1, h2⟩; have H1 := hid h1; clear h1)
    go_end0
    exact ⟨rfl, H1.out, h2⟩
  · refine post_nil (q := .to 7) (by unfold stateP escP; repeat (first | rw [if_pos (by omega)] | rw [if_neg (by omega)])) ?_
    have HX := hid (enter_rd h 7)
    clear h hn
    go_enter Tryd.func30, Tryd.ntmps30
    go_wp2_with (go_at_call 40; refine HX.out.mono ?_; rintro e w1 ⟨rfl, h1, h2⟩; have H1 := hid h1; clear h1)
    go_end0
    exact ⟨rfl, H1.out, h2⟩
  · refine post_nil (q := .to 7) (by unfold stateP escP; repeat (first | rw [if_pos (by omega)] | rw [if_neg (by omega)])) ?_
    have HX := hid (enter_rd h 7)
    clear h hn
    go_enter Tryd.func30, Tryd.ntmps30
    go_wp2_with (go_at_call 40; refine HX.out.mono ?_; rintro e w1 ⟨rfl, h1, h2⟩; have H1 := hid h1; clear h1)
    go_end0
    exact ⟨rfl, H1.out, h2⟩
  · refine post_nil (q := .to 7) (by unfold stateP escP; repeat (first | rw [if_pos (by omega)] | rw [if_neg (by omega)])) ?_
    have HX := hid (enter_rd h 7)
    clear h hn
    go_enter Tryd.func30, Tryd.ntmps30
    go_wp2_with (go_at_call 40; refine HX.out.mono ?_; rintro e w1 ⟨rfl, h1, h2⟩; have H1 := hid h1; clear h1)
    go_end0
    exact ⟨rfl, H1.out, h2⟩
  · refine post_as (q := .to 0) (d := [dEsc p.inter b]) (by unfold stateP escP; repeat (first | rw [if_pos (by omega)] | rw [if_neg (by omega)])) ?_
    have HX := hid (endEscape_any h hn b ⟨b0, b1⟩)
    have q91 : (b == 91) = false := by simp; omega
    have q93 : (b == 93) = false := by simp; omega
    have q80 : (b == 80) = false := by simp; omega
    have q88 : (b == 88) = false := by simp; omega
    have q94 : (b == 94) = false := by simp; omega
    have q95 : (b == 95) = false := by simp; omega
    clear h hn
    go_enter Tryd.func30, Tryd.ntmps30
    go_wp2_with (go_at_call 46; refine HX.out.mono ?_; rintro e w1 ⟨rfl, h1, h2⟩; have H1 := hid h1; clear h1)
    go_end0
    exact ⟨rfl, H1.out, h2⟩
  · refine post_nil (q := p) (by unfold stateP escP; repeat (first | rw [if_pos (by omega)] | rw [if_neg (by omega)])) ?_
    have HX := hid h
    clear h hn
    go_enter Tryd.func30, Tryd.ntmps30
    go_wp2
    go_end0
    exact ⟨rfl, HX.out, Below.refl _ _⟩
  · refine post_nil (q := .to 0) (by unfold stateP escP; repeat (first | rw [if_pos (by omega)] | rw [if_neg (by omega)])) ?_
    have HX := hid (enter_rd h 0)
    have q91 : (b == 91) = false := by simp; omega
    have q93 : (b == 93) = false := by simp; omega
    have q80 : (b == 80) = false := by simp; omega
    have q88 : (b == 88) = false := by simp; omega
    have q94 : (b == 94) = false := by simp; omega
    have q95 : (b == 95) = false := by simp; omega
    clear h hn
    go_enter Tryd.func30, Tryd.ntmps30
    go_wp2_with (go_at_call 40; refine HX.out.mono ?_; rintro e w1 ⟨rfl, h1, h2⟩; have H1 := hid h1; clear h1)
    go_end0
    exact ⟨rfl, H1.out, h2⟩
end Go.Proofs.YtpcpdbofbbpglaaDoor
