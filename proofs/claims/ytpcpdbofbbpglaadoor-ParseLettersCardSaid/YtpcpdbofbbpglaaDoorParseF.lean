/- Layer 5, the package: what is told, and the state's change. -/
import Derived.Test.YtpcpdbofbbpglaaDoorParseE
import Derived.OwnWalk
import Derived.StillTailTactics
namespace Go.Proofs.YtpcpdbofbbpglaaDoor
open Go.RowKit

/-- A reader that stands so, and has done these things. -/
def Rd (B R : Nat) (W : World) (p : Pa) (l : List Dn) : Prop :=
  ∃ v lv P, lv.map Prod.fst = l ∧ B ≤ P ∧ P ≤ W.heap.size ∧ RdX B R P W p v lv ∧ NumO W P W.heap.size v p.params
def RdPost (B R : Nat) (W : World) (p : Pa) (l : List Dn) (e : Ending) (w' : World) : Prop := e = .returned (.tuple #[]) ∧ Rd B R w' p l ∧ Below B W w'
theorem Rd.base {B R : Nat} {W : World} {p : Pa} {l : List Dn} (h : Rd B R W p l) : B ≤ W.heap.size := by
  obtain ⟨_, _, _, _, h1, h2, _⟩ := h
  omega
theorem Rd.lt {B R : Nat} {W : World} {p : Pa} {l : List Dn} (h : Rd B R W p l) : R < W.heap.size := by
  obtain ⟨_, _, _, _, _, _, ⟨_, _, hb, _⟩, _⟩ := h
  exact hb.lt
theorem RdX.mono {B R hi hi' : Nat} {W : World} {p : Pa} {v : Value} {lv : List (Dn × Value)} (h : RdX B R hi W p v lv) (hh : hi ≤ hi') : RdX B R hi' W p v lv := by
  obtain ⟨dv, h1, h2, h3, h4⟩ := h
  exact ⟨dv, h1, h2, h3, fun e he => ⟨(h4 e he).1.mono (Nat.le_refl _) hh, (h4 e he).2⟩⟩

/-- A thing without numbers is told. -/
theorem tell_rd {B R : Nat} {W : World} {p : Pa} {l : List Dn} (h : Rd B R W p l) (hn : l.length ≤ 500000) (d : Dn) (hd : d.params = []) :
    Calls Tryd.prog 50 #[.pointer (some ⟨R, 0, none⟩), .agg (d.cells (.slice none 0 0))] W (RdPost B R W p (l ++ [d])) := by
  have hB := h.base
  obtain ⟨v, lv, P, rfl, h1, h2, hx, hv⟩ := h
  rw [List.length_map] at hn
  refine (tell_any B R P W p v lv d (.slice none 0 0) hx (by rw [hd]; exact NumO.nil _ _ _) (by rw [hd]; exact Nat.zero_le _) hn hB).mono ?_
  rintro e w' ⟨he, hx', hb, hk⟩
  exact ⟨he, ⟨v, _, P, by rw [List.map_append]; rfl, h1, Nat.le_trans h2 hb.size, hx', (hv.kept (hk _)).mono (Nat.le_refl _) hb.size⟩, hb⟩

set_option maxHeartbeats 400000 in
theorem exec_any {B R : Nat} {W : World} {p : Pa} {l : List Dn} (h : Rd B R W p l) (hn : l.length ≤ 500000) (b : Int) (hb : 0 ≤ b ∧ b ≤ 255) :
    Calls Tryd.prog 39 #[.pointer (some ⟨R, 0, none⟩), .int .u8 b] W (RdPost B R W p (l ++ [dExec b])) := by
  have ht := tell_rd h hn (dExec b) rfl
  unfold Dn.cells dExec nilB at ht
  simp only at ht
  have HT := hid ht
  clear ht
  obtain ⟨b0, b1⟩ := hb
  go_enter Tryd.func39, Tryd.ntmps39
  go_wp2_with (go_at_call 50; refine HT.out.mono ?_; rintro e w' ⟨rfl, h1, h2⟩; have H1 := hid h1; clear h1)
  go_end0
  exact ⟨rfl, H1.out, h2⟩
set_option maxHeartbeats 400000 in
theorem print_any {B R : Nat} {W : World} {p : Pa} {l : List Dn} (h : Rd B R W p l) (hn : l.length ≤ 500000) (r : Int) :
    Calls Tryd.prog 45 #[.pointer (some ⟨R, 0, none⟩), .int .i32 r] W (RdPost B R W p (l ++ [dPrint r])) := by
  have ht := tell_rd h hn (dPrint r) rfl
  unfold Dn.cells dPrint nilB at ht
  simp only at ht
  have HT := hid ht
  clear ht
  go_enter Tryd.func45, Tryd.ntmps45
  go_wp2_with (go_at_call 50; refine HT.out.mono ?_; rintro e w' ⟨rfl, h1, h2⟩; have H1 := hid h1; clear h1)
  go_end0
  exact ⟨rfl, H1.out, h2⟩
/-- A reader's cells, as they lie. -/
theorem Rd.cells {B R : Nat} {W : World} {p : Pa} {l : List Dn} (h : Rd B R W p l) : ∃ A c dA n dc, Box W R 50 (rdCells R p (.slice A p.params.length c) (.slice dA n dc)) ∧ IRow W (.slice A p.params.length c) p.params := by
  obtain ⟨v, lv, P, rfl, h1, h2, ⟨dv, _, hb, ho, _⟩, hv⟩ := h
  obtain ⟨A, c, rfl⟩ := hv.spell
  obtain ⟨dA, dc, rfl⟩ := ho.spell
  exact ⟨A, c, dA, _, dc, hb, hv.irow⟩
set_option maxHeartbeats 400000 in
theorem tellOsc_any {B R : Nat} {W : World} {p : Pa} {l : List Dn} (h : Rd B R W p l) (hn : l.length ≤ 500000) :
    Calls Tryd.prog 41 #[.pointer (some ⟨R, 0, none⟩)] W (RdPost B R W p (l ++ [dOsc p.osc])) := by
  obtain ⟨A, c, dA, n, dc, hbox, _⟩ := h.cells
  have c4 : W.cell? ⟨R, 4, none⟩ = some (.string p.osc) := hbox.cell 4
  have ht := tell_rd h hn (dOsc p.osc) rfl
  unfold Dn.cells dOsc at ht
  simp only at ht
  have HT := hid ht
  clear ht hbox
  go_enter Tryd.func41, Tryd.ntmps41
  go_wp2_with (go_at_call 50; refine HT.out.mono ?_; rintro e w' ⟨rfl, h1, h2⟩; have H1 := hid h1; clear h1)
  go_end0
  exact ⟨rfl, H1.out, h2⟩

theorem grown_set {W W1 : World} {b i : Nat} (h : W.grownBy W1 (some b)) (u : Value) : W.grownBy (W1.setCell ⟨b, i, none⟩ u) (some b) :=
  h.trans ⟨rfl, rfl, rfl, by simp [World.setCell], fun k _ hk => Below.heap_setCell _ _ _ _ (fun e => hk (by rw [e]))⟩
theorem rd_to {B R : Nat} {W : World} {p : Pa} {v dv : Value} (s : Int) (h : Box W R 50 (rdCells R p v dv)) (hBR : B ≤ R) : ∃ W', W' = (((((W.setCell ⟨R, 0, none⟩ (.int .i64 s)).setCell ⟨R, 1, none⟩ (.int .i64 0)).setCell ⟨R, 2, none⟩ (.slice none 0 0)).setCell ⟨R, 3, none⟩ (.int .i64 0)).setCell ⟨R, 4, none⟩ (.string ⟨#[]⟩)).setCell ⟨R, 5, none⟩ (.string ⟨#[]⟩) ∧
    Box W' R 50 (rdCells R (.to s) (.slice none 0 0) dv) ∧ W.grownBy W' (some R) ∧ Below B W W' := by
  refine ⟨_, rfl, ?_, grown_set (grown_set (grown_set (grown_set (grown_set (grown_set (World.grownBy.refl W _) _) _) _) _) _) _, ?_⟩
  · obtain ⟨p1, p2, p3, p4, p5, p6⟩ := p
    have h1 : Box (W.setCell ⟨R, 0, none⟩ (.int .i64 s)) R 50 (rdCells R ⟨s, p2, p3, p4, p5, p6⟩ v dv) := h.set _
    have h2 : Box (_) R 50 (rdCells R ⟨s, 0, p3, p4, p5, p6⟩ v dv) := h1.set (i := 1) (.int .i64 0)
    have h3 : Box (_) R 50 (rdCells R ⟨s, 0, [], p4, p5, p6⟩ (.slice none 0 0) dv) := h2.set (i := 2) (.slice none 0 0)
    have h4 : Box (_) R 50 (rdCells R ⟨s, 0, [], 0, p5, p6⟩ (.slice none 0 0) dv) := h3.set (i := 3) (.int .i64 0)
    have h5 : Box (_) R 50 (rdCells R ⟨s, 0, [], 0, nilB, p6⟩ (.slice none 0 0) dv) := h4.set (i := 4) (.string nilB)
    exact h5.set (i := 5) (.string nilB)
  · exact ((((((Below.refl B W).setCell hBR _).setCell hBR _).setCell hBR _).setCell hBR _).setCell hBR _).setCell hBR _
theorem OwnD.other {W W' : World} {base b : Nat} {t : TypeId} {cs : Array Value} {v : Value} {l : List (Dn × Value)} (h : OwnD W base v l) (hb : Box W b t cs) (ht : t ≠ 37) (hg : W.grownBy W' (some b)) : OwnD W' base v l :=
  World.ownsRow.kept h hg (.inr (h.not_box hb ht).symm)
theorem Kept.other {W W' : World} {b : Nat} {t : TypeId} {cs : Array Value} (hi : Nat) (hb : Box W b t cs) (ht : t ≠ 3) (hg : W.grownBy W' (some b)) : Kept hi W W' := by
  refine Kept.grown hi hg (fun g cur e hc => ?_)
  cases e
  have hb' : W.heap[b]? = some (.cells cs t (0, 0)) := hb
  rw [hc] at hb'
  cases hb'
  exact absurd rfl ht
/-- The reader's cells alone turn; its numbers are others. -/
theorem RdX.turned {B R hi : Nat} {W W' : World} {p p' : Pa} {v v' : Value} {lv : List (Dn × Value)} {dv : Value} (hBR : B ≤ R) (hbox : Box W R 50 (rdCells R p v dv)) (hown : OwnD W B dv lv) (hnum : ∀ e ∈ lv, NumO W B hi e.2 e.1.params ∧ e.1.params.length ≤ 16)
    (hb' : Box W' R 50 (rdCells R p' v' dv)) (hg : W.grownBy W' (some R)) : RdX B R hi W' p' v' lv :=
  ⟨dv, hBR, hb', hown.other hbox (by decide) hg, fun e he => ⟨(hnum e he).1.kept (Kept.other hi hbox (by decide) hg), (hnum e he).2⟩⟩

set_option maxHeartbeats 400000 in
theorem enter_any {B R hi : Nat} {W : World} {p : Pa} {v : Value} {lv : List (Dn × Value)} (h : RdX B R hi W p v lv) (hh : hi ≤ W.heap.size) (hB : B ≤ hi) (s : Int) :
    Calls Tryd.prog 40 #[.pointer (some ⟨R, 0, none⟩), .int .i64 s] W (RdPost B R W (.to s) (lv.map Prod.fst)) := by
  obtain ⟨dv, hBR, hbox, hown, hnum⟩ := h
  obtain ⟨W', hW', hb', hg, hbel⟩ := rd_to s hbox hBR
  have hx : RdX B R hi W' (.to s) (.slice none 0 0) lv := RdX.turned hBR hbox hown hnum hb' hg
  have hrd : Rd B R W' (.to s) (lv.map Prod.fst) := ⟨_, lv, hi, rfl, hB, Nat.le_trans hh hg.size, hx, NumO.nil _ _ _⟩
  have c0 : W.cell? ⟨R, 0, none⟩ = some (.int .i64 p.st) := hbox.cell 0
  have c1 : W.cell? ⟨R, 1, none⟩ = some (.int .i64 p.priv) := hbox.cell 1
  have c2 : W.cell? ⟨R, 2, none⟩ = some v := hbox.cell 2
  have c3 : W.cell? ⟨R, 3, none⟩ = some (.int .i64 p.inter) := hbox.cell 3
  have c4 : W.cell? ⟨R, 4, none⟩ = some (.string p.osc) := hbox.cell 4
  have c5 : W.cell? ⟨R, 5, none⟩ = some (.string p.pend) := hbox.cell 5
  have f0 := hbox.free 0
  have f1 := hbox.free 1
  have f2 := hbox.free 2
  have f3 := hbox.free 3
  have f4 := hbox.free 4
  have f5 := hbox.free 5
  have HR := hid hrd
  have HW := hid hW'
  have HL := hid hbel
  clear hbox hown hnum hW' hb' hg hbel hx hrd
  go_enter Tryd.func40, Tryd.ntmps40
  go_wp2
  go_end0
  have hw := HW.out
  subst hw
  exact ⟨rfl, HR.out, HL.out⟩
theorem enter_rd {B R : Nat} {W : World} {p : Pa} {l : List Dn} (h : Rd B R W p l) (s : Int) :
    Calls Tryd.prog 40 #[.pointer (some ⟨R, 0, none⟩), .int .i64 s] W (RdPost B R W (.to s) l) := by
  obtain ⟨v, lv, P, rfl, h1, h2, hx, hv⟩ := h
  exact enter_any hx h2 h1 s

theorem RdPost.then {B R : Nat} {W W1 w' : World} {p : Pa} {l : List Dn} {e : Ending} (h : RdPost B R W1 p l e w') (hb : Below B W W1) : RdPost B R W p l e w' := ⟨h.1, h.2.1, hb.trans h.2.2⟩

set_option maxHeartbeats 400000 in
theorem endEscape_any {B R : Nat} {W : World} {p : Pa} {l : List Dn} (h : Rd B R W p l) (hn : l.length ≤ 500000) (b : Int) (hb : 0 ≤ b ∧ b ≤ 255) :
    Calls Tryd.prog 46 #[.pointer (some ⟨R, 0, none⟩), .int .u8 b] W (RdPost B R W (.to 0) (l ++ [dEsc p.inter b])) := by
  obtain ⟨A, c, dA, n, dc, hbox, _⟩ := h.cells
  have c3 : W.cell? ⟨R, 3, none⟩ = some (.int .i64 p.inter) := hbox.cell 3
  have ht := tell_rd h hn (dEsc p.inter b) rfl
  unfold Dn.cells dEsc nilB at ht
  simp only at ht
  have HT := hid ht
  clear ht hbox
  obtain ⟨b0, b1⟩ := hb
  go_enter Tryd.func46, Tryd.ntmps46
  go_wp2_with (first | (go_at_call 50; refine HT.out.mono ?_; rintro e w' ⟨rfl, h1, h2⟩; have HE := hid (enter_rd h1 0); clear h1) | (go_at_call 40; refine HE.out.mono ?_; rintro e w3 ⟨rfl, h3, h4⟩; have H3 := hid h3; clear h3))
  go_end0
  exact ⟨rfl, H3.out, h2.trans h4⟩

set_option maxRecDepth 100000 in
set_option maxHeartbeats 1000000 in
theorem endCsi_any {B R : Nat} {W : World} {p : Pa} {l : List Dn} (h : Rd B R W p l) (hn : l.length ≤ 500000) (hp : p.params.length ≤ 16) (b : Int) (hb : 0 ≤ b ∧ b ≤ 255) :
    Calls Tryd.prog 49 #[.pointer (some ⟨R, 0, none⟩), .int .u8 b] W (RdPost B R W (.to 0) (l ++ [dCsi p b])) := by
  have hB := h.base
  obtain ⟨v, lv, P, rfl, h1, h2, hx, hv⟩ := h
  rw [List.length_map] at hn
  have ht := tell_any B R W.heap.size W.drew p v lv (dCsi p b) v (show RdX B R W.heap.size W.drew p v lv from hx.mono h2) (show NumO W.drew B W.heap.size v p.params from hv.mono h1 (Nat.le_refl _)) hp hn hB
  obtain ⟨dv, _, hbox, hown, _⟩ := hx
  obtain ⟨A, c, rfl⟩ := hv.spell
  have c1 : W.cell? ⟨R, 1, none⟩ = some (.int .i64 p.priv) := hbox.cell 1
  have c2 : W.cell? ⟨R, 2, none⟩ = some (.slice A p.params.length c) := hbox.cell 2
  have c3 : W.cell? ⟨R, 3, none⟩ = some (.int .i64 p.inter) := hbox.cell 3
  have hle : ∀ w' : World, Below B W.drew w' → W.heap.size ≤ w'.heap.size := fun w' hb => hb.size
  unfold Dn.cells dCsi nilB at ht
  simp only at ht
  have HT := hid ht
  have HL := hid hle
  clear ht hbox hown hv hle hn hp
  obtain ⟨b0, b1⟩ := hb
  go_enter Tryd.func49, Tryd.ntmps49
  go_wp2_with fail
  go_still_tail 19, (by kernel_rfl)
  change wpList _ _ _ _ _ W.drew
  go_wp2_with (first | (go_at_call 50; refine HT.out.mono ?_; rintro e w' ⟨rfl, h1, h2, _⟩; have HE := hid (enter_any h1 (HL.out _ h2) hB 0); clear h1) | (go_at_call 40; refine HE.out.mono ?_; rintro e w3 ⟨rfl, h3, h4⟩; have H3 := hid h3; clear h3))
  go_end0
  exact ⟨rfl, by have := H3.out; rw [List.map_append] at this; exact this, (Below.refl B W).drew.trans (h2.trans h4)⟩
end Go.Proofs.YtpcpdbofbbpglaaDoor
