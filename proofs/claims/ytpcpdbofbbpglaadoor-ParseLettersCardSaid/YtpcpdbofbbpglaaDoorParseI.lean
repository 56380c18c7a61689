/- Layer 5, the package: what a byte does in a control sequence, and in a title. Made by wip/gen/parseI.py. -/
import Derived.Test.YtpcpdbofbbpglaaDoorParseH
import Derived.Test.YtpcpdbofbbpglaaDoorBytes
namespace Go.Proofs.YtpcpdbofbbpglaaDoor
open Go.RowKit

theorem inter_set {B R : Nat} {W : World} {p : Pa} {l : List Dn} (h : Rd B R W p l) (i : Int) : Rd B R ((W.setCell ⟨R, 0, none⟩ (.int .i64 4)).setCell ⟨R, 3, none⟩ (.int .i64 i)) { p with st := 4, inter := i } l ∧ Below B W ((W.setCell ⟨R, 0, none⟩ (.int .i64 4)).setCell ⟨R, 3, none⟩ (.int .i64 i)) := by
  refine rd_field h rfl (fun v dv hb => ?_) (grown_set (grown_set (World.grownBy.refl W _) _) _)
  obtain ⟨p1, p2, p3, p4, p5, p6⟩ := p
  have h1 : Box (W.setCell ⟨R, 0, none⟩ (.int .i64 4)) R 50 (rdCells R ⟨4, p2, p3, p4, p5, p6⟩ v dv) := hb.set _
  exact h1.set (i := 3) (.int .i64 i)
theorem priv_set {B R : Nat} {W : World} {p : Pa} {l : List Dn} (h : Rd B R W p l) (i : Int) : Rd B R (W.setCell ⟨R, 1, none⟩ (.int .i64 i)) { p with priv := i } l ∧ Below B W (W.setCell ⟨R, 1, none⟩ (.int .i64 i)) := by
  refine rd_field h rfl (fun v dv hb => ?_) (grown_set (World.grownBy.refl W _) _)
  obtain ⟨p1, p2, p3, p4, p5, p6⟩ := p
  exact hb.set (i := 1) (.int .i64 i)
theorem osc_set {B R : Nat} {W W1 : World} {p : Pa} {l : List Dn} (h : Rd B R W p l) (hw : Below W.heap.size W W1) (s : ByteArray) : Rd B R (W1.setCell ⟨R, 4, none⟩ (.string s)) { p with osc := s } l ∧ Below B W (W1.setCell ⟨R, 4, none⟩ (.string s)) := by
  refine rd_field h rfl (fun v dv hb => ?_) (grown_set ⟨hw.os, hw.tape, hw.output, hw.size, fun k hk _ => hw.block k hk⟩ _)
  obtain ⟨p1, p2, p3, p4, p5, p6⟩ := p
  exact (hb.below hw hb.lt).set (i := 4) (.string s)
theorem pend_set {B R : Nat} {W W1 : World} {p : Pa} {l : List Dn} (h : Rd B R W p l) (hw : Below W.heap.size W W1) (s : ByteArray) : Rd B R (W1.setCell ⟨R, 5, none⟩ (.string s)) { p with pend := s } l ∧ Below B W (W1.setCell ⟨R, 5, none⟩ (.string s)) := by
  refine rd_field h rfl (fun v dv hb => ?_) (grown_set ⟨hw.os, hw.tape, hw.output, hw.size, fun k hk _ => hw.block k hk⟩ _)
  obtain ⟨p1, p2, p3, p4, p5, p6⟩ := p
  exact (hb.below hw hb.lt).set (i := 5) (.string s)
theorem Rd.below {B R : Nat} {W W' : World} {p : Pa} {l : List Dn} (h : Rd B R W p l) (hb : Below W.heap.size W W') : Rd B R W' p l := by
  obtain ⟨v, lv, P, rfl, h1, h2, ⟨dv, hBR, hbox, hown, hnum⟩, hv⟩ := h
  exact ⟨v, lv, P, rfl, h1, Nat.le_trans h2 hb.size, ⟨dv, hBR, hbox.below hb hbox.lt, hown.kept hb, fun e he => ⟨(hnum e he).1.kept (Kept.of_below _ hb), (hnum e he).2⟩⟩, (hv.kept (Kept.of_below _ hb)).mono (Nat.le_refl _) hb.size⟩
/-- Behind that, a block that was made ahead. -/
theorem set_new {B R i : Nat} {W : World} {p : Pa} {l : List Dn} {u : Value} (h : Rd B R (W.setCell ⟨R, i, none⟩ u) p l ∧ Below B W (W.setCell ⟨R, i, none⟩ u)) (o : Obj) (n : Nat) : Rd B R (((W.setCell ⟨R, i, none⟩ u).alloc o).drewN n) p l ∧ Below B W (((W.setCell ⟨R, i, none⟩ u).alloc o).drewN n) := by
  have hb := (below_alloc (W.setCell ⟨R, i, none⟩ u) o).trans ((below_drew _ n).mono (by simp))
  exact ⟨h.1.below hb, h.2.trans (hb.mono h.1.base)⟩
theorem one_byte (W : World) (b : Int) : ∀ w1, w1 = W.alloc (.cells #[.int .u8 b] 5) ∨ w1 = (W.alloc (.cells #[.int .u8 b] 5)).drew →
    (convert 42 9 (.slice (some ⟨W.heap.size, 0, none⟩) 1 1)).run Tryd.prog w1 = .ok (.string (byteB b)) w1 := by
  have ho := World.ownsRow_lit (base := W.heap.size) (e := 5) (size := 1) W #[.int .u8 b] 1 (Nat.le_refl _) (by decide) rfl
  rintro w1 (rfl | rfl)
  · exact conv_own (P := Tryd.prog) (ns := [b]) Tryd.underlying42 Tryd.underlying5 Tryd.underlying9 ho
  · exact conv_own (P := Tryd.prog) (ns := [b]) (W := (W.alloc (.cells #[.int .u8 b] 5)).drew) Tryd.underlying42 Tryd.underlying5 Tryd.underlying9 ho

set_option maxRecDepth 100000 in
set_option maxHeartbeats 2000000 in
theorem csi_any {B R : Nat} {W : World} {p : Pa} {l : List Dn} (h : Rd B R W p l) (hn : l.length ≤ 500000) (hs : p.st = 3) (hr : ∀ n ∈ p.params, 0 ≤ n ∧ n ≤ 9999) (hp : p.params.length ≤ 16) (b : Int) (hb : 0 ≤ b ∧ b ≤ 255) :
    Calls Tryd.prog 32 #[.pointer (some ⟨R, 0, none⟩), .int .u8 b] W (RdPost B R W (stateP p b).1 (l ++ (stateP p b).2)) := by
  obtain ⟨b0, b1⟩ := hb
  have hc : (b < 32) ∨ (32 ≤ b ∧ b < 48) ∨ (48 ≤ b ∧ b < 58) ∨ (b = 58) ∨ (b = 59) ∨ (60 ≤ b ∧ b < 64) ∨ (64 ≤ b ∧ b < 127) ∨ (b = 127) ∨ (128 ≤ b) := by omega
  rcases hc with hlt | ⟨g1, g2⟩ | ⟨g1, g2⟩ | rfl | rfl | ⟨g1, g2⟩ | ⟨g1, g2⟩ | rfl | g1
  · refine post_as (q := p) (d := [dExec b]) (by unfold stateP csiP lastP; repeat (first | rw [if_pos (by omega)] | rw [if_neg (by omega)])) ?_
    have HX := hid (exec_any h hn b ⟨b0, b1⟩)
    clear h hn
    go_enter Tryd.func32, Tryd.ntmps32
    go_wp2_with (go_at_call 39; refine HX.out.mono ?_; rintro e w1 ⟨rfl, h1, h2⟩; have H1 := hid h1; clear h1)
    go_end0
    exact ⟨rfl, H1.out, h2⟩
  · refine post_nil (q := { p with st := 4, inter := b }) (by unfold stateP csiP lastP; repeat (first | rw [if_pos (by omega)] | rw [if_neg (by omega)])) ?_
    obtain ⟨A, c, dA, n, dc, hbox, _⟩ := h.cells
    have c0 : W.cell? ⟨R, 0, none⟩ = some (.int .i64 p.st) := hbox.cell 0
    have c3 : W.cell? ⟨R, 3, none⟩ = some (.int .i64 p.inter) := hbox.cell 3
    have f0 := hbox.free 0
    have f3 := hbox.free 3
    have HX := hid (inter_set h b)
    clear h hn hbox hs
    go_enter Tryd.func32, Tryd.ntmps32
    go_wp2
    go_end0
    exact ⟨rfl, HX.out⟩
  · refine post_nil (q := { p with params := parDigit (parOne p.params) (b - 48) }) (by unfold stateP csiP lastP; repeat (first | rw [if_pos (by omega)] | rw [if_neg (by omega)])) ?_
    have HX := hid (digit_any h hr hp (b - 48) (by omega))
    clear h hn hs
    go_enter Tryd.func32, Tryd.ntmps32
    go_wp2_with (go_at_call 47; refine HX.out.mono ?_; rintro e w1 ⟨rfl, h1, h2⟩; have H1 := hid h1; clear h1)
    go_end0
    exact ⟨rfl, H1.out, h2⟩
  · refine post_nil (q := .to 5) (by unfold stateP csiP lastP; repeat (first | rw [if_pos (by omega)] | rw [if_neg (by omega)])) ?_
    have HX := hid (enter_rd h 5)
    clear h hn
    go_enter Tryd.func32, Tryd.ntmps32
    go_wp2_with (go_at_call 40; refine HX.out.mono ?_; rintro e w1 ⟨rfl, h1, h2⟩; have H1 := hid h1; clear h1)
    go_end0
    exact ⟨rfl, H1.out, h2⟩
  · refine post_nil (q := if (parOne p.params).length = 16 then .to 5 else { p with params := parOne p.params ++ [0] }) (by unfold stateP; rw [if_neg (by omega), if_neg (by omega), if_neg (by omega), if_neg (by omega), if_neg (by omega), if_pos (by omega)]; unfold csiP; rw [if_neg (by omega), if_pos rfl]; split <;> rfl) ?_
    have HX := hid (nextParam_any h hp)
    generalize (if (parOne p.params).length = 16 then Pa.to 5 else { p with params := parOne p.params ++ [0] }) = q at *
    clear h hn hs
    go_enter Tryd.func32, Tryd.ntmps32
    go_wp2_with (go_at_call 48; refine HX.out.mono ?_; rintro e w1 ⟨rfl, h1, h2⟩; have H1 := hid h1; clear h1)
    go_end0
    exact ⟨rfl, H1.out, h2⟩
  · obtain ⟨A, c, dA, n, dc, hbox, _⟩ := h.cells
    have c1 : W.cell? ⟨R, 1, none⟩ = some (.int .i64 p.priv) := hbox.cell 1
    have c2 : W.cell? ⟨R, 2, none⟩ = some (.slice A p.params.length c) := hbox.cell 2
    have f1 := hbox.free 1
    have HS : stateP p b = csiP p b := by unfold stateP; rw [if_neg (by omega), if_neg (by omega), if_neg (by omega), if_neg (by omega), if_neg (by omega), if_pos (by omega)]
    have q127 : (b == 127) = false := by simp; omega
    by_cases k1 : p.priv = 0
    · rw [k1] at c1
      by_cases k2 : p.params = []
      · have k3 : p.params.length = 0 := by rw [k2]; rfl
        rw [k3] at c2
        refine post_nil (q := { p with priv := b }) (by rw [HS]; unfold csiP; rw [if_neg (by omega), if_neg (by omega), if_pos ⟨g1, by omega, k2, k1⟩]) ?_
        have HX := hid (priv_set h b)
        clear h hn hbox hs k1 k2 k3 HS hr hp
        go_enter Tryd.func32, Tryd.ntmps32
        go_wp2
        go_end0
        exact ⟨rfl, HX.out⟩
      · refine post_nil (q := .to 5) (by rw [HS]; unfold csiP lastP; rw [if_neg (by omega), if_neg (by omega), if_neg (fun hh => k2 hh.2.2.1), if_neg (by omega), if_neg (by omega), if_neg (by omega)]) ?_
        have k3 : ((p.params.length : Int) == 0) = false := by have := List.length_pos_iff.2 k2; simp; omega
        have HX := hid (enter_rd h 5)
        generalize p.params.length = m at *
        clear h hn hbox hs k1 k2 HS hr hp
        go_enter Tryd.func32, Tryd.ntmps32
        go_wp2_with (go_at_call 40; refine HX.out.mono ?_; rintro e w1 ⟨rfl, h1, h2⟩; have H1 := hid h1; clear h1)
        go_end0
        exact ⟨rfl, H1.out, h2⟩
    · refine post_nil (q := .to 5) (by rw [HS]; unfold csiP lastP; rw [if_neg (by omega), if_neg (by omega), if_neg (fun hh => k1 hh.2.2.2), if_neg (by omega), if_neg (by omega), if_neg (by omega)]) ?_
      have k3 : (p.priv == 0) = false := by simp; omega
      have HX := hid (enter_rd h 5)
      generalize p.params.length = m at *
      clear h hn hbox hs k1 HS hr hp
      go_enter Tryd.func32, Tryd.ntmps32
      go_wp2_with (go_at_call 40; refine HX.out.mono ?_; rintro e w1 ⟨rfl, h1, h2⟩; have H1 := hid h1; clear h1)
      go_end0
      exact ⟨rfl, H1.out, h2⟩
  · refine post_as (q := .to 0) (d := [dCsi p b]) (by unfold stateP csiP lastP; repeat (first | rw [if_pos (by omega)] | rw [if_neg (by omega)])) ?_
    have HX := hid (endCsi_any h hn hp b ⟨b0, b1⟩)
    have q59 : (b == 59) = false := by simp; omega
    clear h hn
    go_enter Tryd.func32, Tryd.ntmps32
    go_wp2_with (go_at_call 49; refine HX.out.mono ?_; rintro e w1 ⟨rfl, h1, h2⟩; have H1 := hid h1; clear h1)
    go_end0
    exact ⟨rfl, H1.out, h2⟩
  · refine post_nil (q := p) (by unfold stateP csiP lastP; repeat (first | rw [if_pos (by omega)] | rw [if_neg (by omega)])) ?_
    have HX := hid h
    clear h hn
    go_enter Tryd.func32, Tryd.ntmps32
    go_wp2
    go_end0
    exact ⟨rfl, HX.out, Below.refl _ _⟩
  · refine post_nil (q := .to 5) (by unfold stateP csiP lastP; repeat (first | rw [if_pos (by omega)] | rw [if_neg (by omega)])) ?_
    have HX := hid (enter_rd h 5)
    have q59 : (b == 59) = false := by simp; omega
    have q127 : (b == 127) = false := by simp; omega
    clear h hn
    go_enter Tryd.func32, Tryd.ntmps32
    go_wp2_with (go_at_call 40; refine HX.out.mono ?_; rintro e w1 ⟨rfl, h1, h2⟩; have H1 := hid h1; clear h1)
    go_end0
    exact ⟨rfl, H1.out, h2⟩
set_option maxRecDepth 100000 in
set_option maxHeartbeats 2000000 in
theorem osc_any {B R : Nat} {W : World} {p : Pa} {l : List Dn} (h : Rd B R W p l) (hn : l.length ≤ 500000) (hs : p.st = 6) (hp : p.osc.size ≤ 64) (b : Int) (hb : 0 ≤ b ∧ b ≤ 255) :
    Calls Tryd.prog 35 #[.pointer (some ⟨R, 0, none⟩), .int .u8 b] W (RdPost B R W (stateP p b).1 (l ++ (stateP p b).2)) := by
  obtain ⟨b0, b1⟩ := hb
  have hc : (b = 7) ∨ (b < 32 ∧ b ≠ 7) ∨ (32 ≤ b) := by omega
  rcases hc with rfl | ⟨g1, g2⟩ | g1
  · refine post_as (q := .to 0) (d := [dOsc p.osc]) (by unfold stateP oscP; rw [if_pos hs, if_pos rfl]) ?_
    have HX := hid (tellOsc_any h hn)
    clear h hn hs
    go_enter Tryd.func35, Tryd.ntmps35
    go_wp2_with (first | (go_at_call 41; refine HX.out.mono ?_; rintro e w1 ⟨rfl, h1, h2⟩; have HE := hid (enter_rd h1 0); clear h1) | (go_at_call 40; refine HE.out.mono ?_; rintro e w3 ⟨rfl, h3, h4⟩; have H3 := hid h3; clear h3))
    go_end0
    exact ⟨rfl, H3.out, h2.trans h4⟩
  · refine post_nil (q := p) (by unfold stateP oscP; repeat (first | rw [if_pos (by omega)] | rw [if_neg (by omega)])) ?_
    have HX := hid h
    have q7 : (b == 7) = false := by simp; omega
    clear h hn
    go_enter Tryd.func35, Tryd.ntmps35
    go_wp2
    go_end0
    exact ⟨rfl, HX.out, Below.refl _ _⟩
  · obtain ⟨A, c, dA, n, dc, hbox, _⟩ := h.cells
    have hR := hbox.lt
    have c4 : W.cell? ⟨R, 4, none⟩ = some (.string p.osc) := hbox.cell 4
    have f4 := hbox.free 4
    have q7 : (b == 7) = false := by simp; omega
    have HS : stateP p b = oscP p b := by unfold stateP; rw [if_pos hs]
    by_cases k : p.osc.size < 64
    · refine post_nil (q := { p with osc := p.osc ++ byteB b }) (by rw [HS]; unfold oscP; rw [if_neg (by omega), if_pos ⟨g1, k⟩]) ?_
      have hcv := one_byte W b
      have hc1 := hcv _ (.inl rfl)
      have hc2 := hcv _ (.inr rfl)
      have HX := hid (set_new (osc_set h (Below.refl _ _) (p.osc ++ byteB b)) (.cells #[.int .u8 b] 5) 1)
      have hz : (byteB b).size = 1 := rfl
      generalize byteB b = bb at *
      have hsum : p.osc.size + bb.size ≤ 9223372036854775807 := by omega
      clear h hn hbox hs HS hcv hp
      go_enter Tryd.func35, Tryd.ntmps35
      go_wp2
      go_region
      all_goals
        go_end0
        exact ⟨rfl, HX.out⟩
    · refine post_nil (q := p) (by rw [HS]; unfold oscP; rw [if_neg (by omega), if_neg (fun hh => k hh.2)]) ?_
      have k2 : ¬ (p.osc.size : Int) < 64 := by omega
      have HX := hid h
      clear h hn hbox hs HS k
      go_enter Tryd.func35, Tryd.ntmps35
      go_wp2
      go_end0
      exact ⟨rfl, HX.out, Below.refl _ _⟩
set_option maxHeartbeats 400000 in
theorem text_any {B R : Nat} {W : World} {p : Pa} {l : List Dn} (h : Rd B R W p l) (hs : p.st = 7) (b : Int) :
    Calls Tryd.prog 36 #[.pointer (some ⟨R, 0, none⟩), .int .u8 b] W (RdPost B R W (stateP p b).1 (l ++ (stateP p b).2)) := by
  refine post_nil (q := p) (by unfold stateP; rw [if_neg (by omega), if_pos hs]) ?_
  have HX := hid h
  clear h hs
  go_enter Tryd.func36, Tryd.ntmps36
  go_wp2
  go_end0
  exact ⟨rfl, HX.out, Below.refl _ _⟩
end Go.Proofs.YtpcpdbofbbpglaaDoor
