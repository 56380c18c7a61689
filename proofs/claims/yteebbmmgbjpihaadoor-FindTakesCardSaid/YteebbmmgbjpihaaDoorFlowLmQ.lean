/- Layer 8, the package: Join, Flow, Letters, Fold. Made by wip/gen/flowX.py. -/
/- Layer 10, the package: places; what is in the lines, the next one, the one ahead. -/
/- Layer 10, the package: what a cell says; whether a text stands at the first of some cells. -/
/- Layer 8, the statements' helpers: a long row in two lines. -/
/- Layer 8, what the laws want. Made by wip/gen/flowJn.py. -/
import Derived.Test.YteebbmmgbjpihaaDoorFlowTQ
import Derived.Test.YteebbmmgbjpihaaDoorFlowPQ
import Derived.Test.YteebbmmgbjpihaaDoorFlowSQ
import Derived.Test.YteebbmmgbjpihaaDoorStrsQ
import Derived.Test.YteebbmmgbjpihaaDoorCellEq2Q
import Derived.StillTailTactics
import Derived.Test.YteebbmmgbjpihaaDoorKeysAQ
import Derived.Test.YteebbmmgbjpihaaDoorGridRbQ
import Derived.Test.YteebbmmgbjpihaaDoorFlowLaQ
namespace Go.Proofs.YteebbmmgbjpihaaDoor
open Go.RowKit

def sumL (rs : List (List Ce)) : Nat := (rs.map List.length).sum
theorem sumL_snoc (rs : List (List Ce)) (r : List Ce) : sumL (rs ++ [r]) = sumL rs + r.length := by unfold sumL; rw [List.map_append, List.sum_append]; simp
theorem joinS_sum {ls : List Ln} (h : ∀ l ∈ ls, l.cs.length ≤ 100) : ∀ k, k ≤ ls.length → sumL (joinS ls k).1 + (joinS ls k).2.length ≤ k * 100
  | 0, _ => Nat.le_refl _
  | k + 1, hk => by
    have ih := joinS_sum h k (by omega)
    have hx : ls[k]? = some ls[k] := List.getElem?_eq_getElem (by omega)
    have hl := h _ (List.mem_of_getElem? hx)
    by_cases hs : ls[k].soft = true ∧ k + 1 ≠ ls.length
    · rw [joinS_go hx hs.1 hs.2]
      simp only [List.length_append]
      omega
    · rw [joinS_end hx (by
        cases h0 : ls[k].soft
        · exact .inl rfl
        · exact .inr (Classical.byContradiction fun e => hs ⟨h0, e⟩))]
      have := trimL_length ((joinS ls k).2 ++ ls[k].cs)
      rw [List.length_append] at this
      simp only [sumL_snoc, List.length_nil]
      omega
theorem joinS_ok {ls : List Ln} (h : ∀ l ∈ ls, okR l.cs = true ∧ ∀ c ∈ l.cs, c.tx.size ≤ 1000) : ∀ k, k ≤ ls.length → (∀ r ∈ (joinS ls k).1, okR r = true ∧ ∀ c ∈ r, c.tx.size ≤ 1000) ∧ okR (joinS ls k).2 = true ∧ ∀ c ∈ (joinS ls k).2, c.tx.size ≤ 1000
  | 0, _ => ⟨fun r hr => by simp [joinS] at hr, rfl, fun c hc => by simp [joinS] at hc⟩
  | k + 1, hk => by
    obtain ⟨i1, i2, i3⟩ := joinS_ok h k (by omega)
    have hx : ls[k]? = some ls[k] := List.getElem?_eq_getElem (by omega)
    obtain ⟨l1, l2⟩ := h _ (List.mem_of_getElem? hx)
    have hok := okR_append i2 l1
    have htx : ∀ c ∈ (joinS ls k).2 ++ ls[k].cs, c.tx.size ≤ 1000 := fun c hc => (List.mem_append.1 hc).elim (i3 c) (l2 c)
    by_cases hs : ls[k].soft = true ∧ k + 1 ≠ ls.length
    · rw [joinS_go hx hs.1 hs.2]
      exact ⟨i1, hok, htx⟩
    · rw [joinS_end hx (by
        cases h0 : ls[k].soft
        · exact .inl rfl
        · exact .inr (Classical.byContradiction fun e => hs ⟨h0, e⟩))]
      refine ⟨fun r hr => ?_, rfl, fun c hc => by simp at hc⟩
      rw [List.mem_append, List.mem_singleton] at hr
      rcases hr with hr | rfl
      · exact i1 r hr
      · exact ⟨okR_trim hok, fun c hc => htx c (trimL_mem hc)⟩
theorem kept_ok {lv : List (Ln × Value)} (hs : Sm lv) (h : keptB lv = true) : ∀ l ∈ lv.map Prod.fst, okR l.cs = true ∧ (∀ c ∈ l.cs, c.tx.size ≤ 1000) ∧ 1 ≤ l.cs.length ∧ l.cs.length ≤ 80 := fun l hl => by
  obtain ⟨e, he, rfl⟩ := List.mem_map.1 hl
  have h1 := List.all_eq_true.1 h e he
  unfold keptE at h1
  rw [Bool.and_eq_true] at h1
  have := of_decide_eq_true h1.1
  exact ⟨fits_okR h1.2, (hs.2 e he).2, by omega, by omega⟩
theorem foldP_len_le {row : List Ce} (cols : Nat) (h : okR row = true) : (foldP cols row).length ≤ row.length + 1 := by
  have h1 := foldP_length cols row
  have h2 := (segs_all h).2.2
  omega
theorem flat_len {rs : List (List Ce)} (cols : Nat) (h : ∀ r ∈ rs, okR r = true) : ((rs.map (foldP cols)).flatten).length ≤ sumL rs + rs.length := by
  induction rs with
  | nil => exact Nat.le_refl _
  | cons r l ih =>
    have h1 := foldP_len_le cols (h r (by simp))
    have h2 := ih fun x hx => h x (by simp [hx])
    have h3 : sumL (r :: l) = r.length + sumL l := by unfold sumL; simp
    rw [List.map_cons, List.flatten_cons, List.length_append, h3, List.length_cons]
    omega
theorem sumL_take (rs : List (List Ce)) : ∀ k, sumL (rs.take k) ≤ sumL rs := fun k => by
  have h : sumL rs = sumL (rs.take k) + sumL (rs.drop k) := by
    unfold sumL
    rw [← List.sum_append, ← List.map_append, List.take_append_drop]
  omega
/-- What such lines may be: small, and whole. -/
structure Fl (W : World) (v : Value) (lv : List (Ln × Value)) : Prop where
  lr : LR W v lv
  ces : CesOf W lv
  sm : Sm lv
  n : lv.length ≤ 200
  c : ∀ e ∈ lv, e.1.cs.length ≤ 100
theorem Fl.below {W W' : World} {v : Value} {lv : List (Ln × Value)} (h : Fl W v lv) (hb : Below W.heap.size W W') : Fl W' v lv := ⟨h.lr.below hb, h.ces.below hb, h.sm, h.n, h.c⟩
theorem Fl.c' {W : World} {v : Value} {lv : List (Ln × Value)} (h : Fl W v lv) : ∀ l ∈ lv.map Prod.fst, l.cs.length ≤ 100 := fun l hl => by
  obtain ⟨e, he, rfl⟩ := List.mem_map.1 hl
  exact h.c e he
theorem Fl.rows {W : World} {v : Value} {lv : List (Ln × Value)} (h : Fl W v lv) (hk : keptB lv = true) : (∀ r ∈ joinP (lv.map Prod.fst), okR r = true ∧ ∀ c ∈ r, c.tx.size ≤ 1000) ∧ sumL (joinP (lv.map Prod.fst)) ≤ 20000 ∧ (joinP (lv.map Prod.fst)).length ≤ 200 := by
  have h1 := joinS_ok (fun l hl => ⟨(kept_ok h.sm hk l hl).1, (kept_ok h.sm hk l hl).2.1⟩) (lv.map Prod.fst).length (Nat.le_refl _)
  have h2 := joinS_sum h.c' (lv.map Prod.fst).length (Nat.le_refl _)
  have h3 := (joinS_len h.c' (lv.map Prod.fst).length (Nat.le_refl _)).2
  have h4 := h.n
  rw [List.length_map] at h2 h3
  unfold joinP
  rw [List.length_map] at h1 ⊢
  exact ⟨h1.1, by omega, by omega⟩
def JOut (W : World) (ok : Bool) (tgt : List (List Ce)) (e : Ending) (w' : World) : Prop :=
  ∃ A k c n, e = .returned (.tuple #[.slice A k c, .int .i64 n]) ∧ Below W.heap.size W w' ∧
    ((ok = true ∧ n = 0 ∧ ∃ rv, rv.map Prod.fst = tgt ∧ OwnR w' W.heap.size (.slice A k c) rv ∧ RvC w' W.heap.size rv) ∨ (ok = false ∧ n = 1 ∧ (.slice A k c : Value) = .slice none 0 0))
def FOut (W : World) (ok : Bool) (tgt : List Ln) (e : Ending) (w' : World) : Prop :=
  ∃ A k c n, e = .returned (.tuple #[.slice A k c, .int .i64 n]) ∧ Below W.heap.size W w' ∧
    ((ok = true ∧ n = 0 ∧ ∃ lv', lv'.map Prod.fst = tgt ∧ OwnL w' W.heap.size (.slice A k c) lv' ∧ ∀ x ∈ lv', CSl w' W.heap.size x.2 x.1.cs) ∨ (ok = false ∧ n = 1 ∧ (.slice A k c : Value) = .slice none 0 0))
def SOut (W : World) (ok : Bool) (tgt : List ByteArray) (e : Ending) (w' : World) : Prop :=
  ∃ A k c n, e = .returned (.tuple #[.slice A k c, .int .i64 n]) ∧ Below W.heap.size W w' ∧
    ((ok = true ∧ n = 0 ∧ OwnS w' W.heap.size (.slice A k c) tgt) ∨ (ok = false ∧ n = 1 ∧ (.slice A k c : Value) = .slice none 0 0))
theorem world_own {w : World} {b b' size n : Nat} {t : TypeId} {v : Value} {xs : List Value} (h : w.ownsRow b t size v n xs) (hb : b' ≤ b) : w.ownsRow b' t size v n xs := by
  refine ⟨h.1, ?_⟩
  rcases h.2 with hn | ⟨g, cap, cur, rfl, h1, rest⟩
  · exact .inl hn
  · exact .inr ⟨g, cap, cur, rfl, Nat.le_trans hb h1, rest⟩
set_option maxHeartbeats 1000000 in
theorem join_out (v : Value) (lv : List (Ln × Value)) (W : World) (hf : Fl W v lv) (hT : Tab W) (hW : TabW W) :
    Calls Tryd.prog 30 #[v] W (JOut W (keptB lv) (joinP (lv.map Prod.fst))) := by
  have hm := mayBe_any v lv W hf.lr hf.ces hf.sm hT hW
  have hj := fun W' (hb : Below W.heap.size W W') => joined_any v lv W' (hf.below hb).lr (hf.below hb).ces hf.n hf.c
  have he : mayLs lv = keptB lv := by unfold mayLs; rw [decide_eq_true hf.n, Bool.and_true]
  rw [he] at hm
  obtain ⟨KB, hKB⟩ : ∃ KB, keptB lv = KB := ⟨_, rfl⟩
  rw [hKB] at hm ⊢
  obtain ⟨A, c, rfl⟩ := hf.lr.spell
  have HM := hid hm
  have HJ := hid hj
  clear hm hj he hf hT hW hKB
  cases KB
  · go_enter Tryd.func30, Tryd.ntmps30
    go_wp2_with (with_reducible refine HM.out.mono ?_; rintro e w2 ⟨rfl, hb⟩)
    go_ret2
    exact ⟨none, 0, 0, 1, rfl, hb, .inr ⟨rfl, rfl, rfl⟩⟩
  · go_enter Tryd.func30, Tryd.ntmps30
    go_wp2_with fail
    with_reducible refine HM.out.mono ?_
    rintro e w2 ⟨rfl, hb⟩
    dsimp only
    go_wp2_with fail
    with_reducible refine (HJ.out _ hb).mono ?_
    rintro e w3 ⟨v3, rv, rfl, h1, h2, h3, hb3⟩
    dsimp only
    obtain ⟨A3, c3, rfl⟩ := h2.spell
    go_wp2
    go_ret2
    exact ⟨A3, rv.length, c3, 0, rfl, hb.trans (hb3.mono hb.size), .inl ⟨rfl, rfl, rv, h1, world_own h2 hb.size, fun e he => (h3 e he).mono hb.size⟩⟩
theorem colsB_nat {cols : Int} (h : colsB cols = true) : ∃ C : Nat, cols = C ∧ 1 ≤ C ∧ C ≤ 80 := by
  have := of_decide_eq_true h
  exact ⟨cols.toNat, by omega, by omega, by omega⟩
theorem take_snoc {α : Type} {l : List α} {k : Nat} {x : α} (h : l[k]? = some x) : l.take (k + 1) = l.take k ++ [x] := by
  obtain ⟨hk, rfl⟩ := List.getElem?_eq_some_iff.1 h
  rw [List.take_succ_eq_append_getElem hk]
/-- Lines so far, row by row. -/
def FwRel (wj wr : World) (C : Nat) (rs : List (List Ce)) (k : Nat) (ov : Value) : Prop :=
  ∃ lines, OwnL wr wj.heap.size ov lines ∧ (∀ e ∈ lines, CSl wr wj.heap.size e.2 e.1.cs) ∧ lines.map Prod.fst = ((rs.take k).map (foldP C)).flatten ∧ Below wj.heap.size wj wr
theorem fw_step {wj wr w2 w7 : World} {C : Nat} {rs : List (List Ce)} {k : Nat} {ov v7 : Value} {lines ll : List (Ln × Value)} {r : List Ce} (h1 : OwnL wr wj.heap.size ov lines) (h2 : ∀ e ∈ lines, CSl wr wj.heap.size e.2 e.1.cs) (h3 : lines.map Prod.fst = ((rs.take k).map (foldP C)).flatten) (h4 : Below wj.heap.size wj wr)
    (hx : rs[k]? = some r) (hb : Below wr.heap.size wr w2) (hl : ll.map Prod.fst = foldP C r) (hc : ∀ e ∈ ll, CSl w2 wr.heap.size e.2 e.1.cs) (h7 : OwnL w7 wj.heap.size v7 (lines ++ ll)) (hg : w2.grownBy w7 ov.ownBlock) : FwRel wj w7 C rs (k + 1) v7 := by
  have o2 := h1.kept hb
  refine ⟨_, h7, fun e he => ?_, ?_, ?_⟩
  · rw [List.mem_append] at he
    rcases he with he | he
    · exact ((h2 e he).below hb (Nat.le_refl _)).grown o2 hg
    · exact ((hc e he).mono h4.size).grown o2 hg
  · rw [List.map_append, h3, hl, take_snoc hx, List.map_append, List.flatten_append]
    simp
  · exact (h4.trans (hb.mono h4.size)).grown hg (Nat.le_trans h4.size hb.size) fun q hq => (World.ownsRow.lt o2 q hq).1
/-- Texts so far. -/
def LwRel (wj wr : World) (rs : List (List Ce)) (k : Nat) (ov : Value) : Prop := OwnS wr wj.heap.size ov ((rs.take k).map sayP) ∧ Below wj.heap.size wj wr
end Go.Proofs.YteebbmmgbjpihaaDoor

namespace Go.Proofs.YteebbmmgbjpihaaDoor
open Go.RowKit

theorem lr_at {W : World} {A : Option Addr} {n c : Nat} {lv : List (Ln × Value)} (h : LR W (.slice A n c) lv) (hl : lv.length = n) (k : Nat) (hk : k < n) :
    ∃ g o e, A = some ⟨g, o, none⟩ ∧ g < W.heap.size ∧ lv[k]? = some e ∧ ∀ W', Below W.heap.size W W' → W'.cell? ⟨g, o + k * 2, none⟩ = some e.2 ∧ W'.cell? ⟨g, o + k * 2 + 1, none⟩ = some (.bool e.1.soft) := by
  obtain ⟨A', c', e, _, hc⟩ := h
  cases e
  obtain ⟨g, o, rfl, hg, hc⟩ := hc (by intro e; rw [e] at hk; exact absurd hk (by simp))
  obtain ⟨x, hx⟩ : ∃ x, lv[k]? = some x := ⟨_, List.getElem?_eq_getElem (by omega)⟩
  refine ⟨g, o, x, rfl, hg, hx, fun W' hb => ?_⟩
  exact ⟨(hb.cell (p := ⟨g, o + k * 2, none⟩) hg).trans (hc k x hx).1, (hb.cell (p := ⟨g, o + k * 2 + 1, none⟩) hg).trans (hc k x hx).2⟩
/-- How many cells a line has; by its number. -/
def lenI (ls : List Ln) (r : Int) : Int := (lenP ls r.toNat : Int)
def inP (ls : List Ln) (p : Int × Int) : Bool := decide (0 ≤ p.1 ∧ p.1 < ls.length) && decide (0 ≤ p.2 ∧ p.2 < lenI ls p.1)
theorem inP_iff {ls : List Ln} {p : Int × Int} : inP ls p = true ↔ (0 ≤ p.1 ∧ p.1 < ls.length) ∧ 0 ≤ p.2 ∧ p.2 < lenI ls p.1 := by
  unfold inP
  rw [Bool.and_eq_true, decide_eq_true_iff, decide_eq_true_iff]
theorem lenP_at {ls : List Ln} {r : Nat} {l : Ln} (h : ls[r]? = some l) : lenP ls r = l.cs.length := by unfold lenP; rw [h]
theorem lenI_at {lv : List (Ln × Value)} {r : Nat} {e : Ln × Value} (h : lv[r]? = some e) : lenI (lv.map Prod.fst) r = e.1.cs.length := by
  unfold lenI
  rw [Int.toNat_natCast, lenP_at (l := e.1) (by rw [List.getElem?_map, h]; rfl)]
def plV (p : Int × Int) : Value := .agg #[.int .i64 p.1, .int .i64 p.2]
set_option maxHeartbeats 1000000 in
theorem in_any (r c : Int) (v : Value) (lv : List (Ln × Value)) (W : World) (hr : LR W v lv) (hc : CesOf W lv) (_hn : lv.length ≤ 1000) :
    Calls Tryd.prog 31 #[.agg #[.int .i64 r, .int .i64 c], v] W fun e w' => e = .returned (.bool (inP (lv.map Prod.fst) (r, c))) ∧ Below W.heap.size W w' := by
  obtain ⟨A, cap, rfl⟩ := hr.spell
  obtain ⟨n, hnn⟩ : ∃ n, lv.length = n := ⟨_, rfl⟩
  rw [hnn] at hr ⊢
  have hB := below_alloc W (.cells #[.int .i64 r, .int .i64 c] 50)
  have hbx := Box.new W 50 #[.int .i64 r, .int .i64 c]
  obtain ⟨⟨k0, k1⟩, _⟩ := hbx.two
  have HB := hid (fun (m : Nat) => hB.trans ((below_drew _ m).mono hB.size))
  by_cases h1 : 0 ≤ r ∧ r < n
  · obtain ⟨h1a, h1b⟩ := h1
    obtain ⟨k, rfl⟩ : ∃ k : Nat, r = k := ⟨r.toNat, by omega⟩
    obtain ⟨g, o, e, rfl, hg, he, hcell⟩ := lr_at hr hnn k (by omega)
    obtain ⟨p0, _⟩ := hcell _ hB
    have hle := lenI_at he
    obtain ⟨eA, ec, hev⟩ := (hc e (List.mem_of_getElem? he)).spell
    rw [hev] at p0
    generalize e.1.cs.length = m at *
    by_cases h2 : 0 ≤ c
    · have HE : Hid (inP (lv.map Prod.fst) (↑k, c) = decide (c < m)) := by
        unfold Hid inP; simp only [List.length_map, hnn, hle]; rw [decide_eq_true ⟨h1a, h1b⟩, Bool.true_and]; exact decide_eq_decide.2 ⟨fun h => h.2, fun h => ⟨h2, h⟩⟩
      clear hle hcell hr hc hbx hB he hev
      go_enter Tryd.func31, Tryd.ntmps31
      go_wp2_with fail
      go_quiet (fail)
      go_wp2
      go_ret
      exact ⟨ret_bool HE.out.symm, HB.out _⟩
    · have HE : Hid (inP (lv.map Prod.fst) (↑k, c) = false) := by
        unfold Hid inP; rw [Bool.and_eq_false_iff]; right; exact decide_eq_false (fun h => h2 h.1)
      have h2a : c < 0 := by omega
      have h2b : decide (0 ≤ c) = false := decide_eq_false h2
      clear hle hcell hr hc hbx hB he hev
      go_enter Tryd.func31, Tryd.ntmps31
      go_wp2_with fail
      go_quiet (fail)
      go_wp2
      go_ret
      exact ⟨ret_bool HE.out.symm, HB.out _⟩
  · have HE : Hid (inP (lv.map Prod.fst) (r, c) = false) := by
      unfold Hid inP; rw [Bool.and_eq_false_iff]; left; exact decide_eq_false (fun h => h1 (by simpa [hnn] using h))
    clear hr hc hbx hB
    by_cases h2 : 0 ≤ r
    · have h3 : ¬ r < n := fun h => h1 ⟨h2, h⟩
      have h3a : (n : Int) ≤ r := by omega
      have h3b : decide (r < (n : Int)) = false := decide_eq_false h3
      clear h1
      go_enter Tryd.func31, Tryd.ntmps31
      go_wp2_with fail
      go_quiet (fail)
      go_wp2
      go_ret
      exact ⟨ret_bool HE.out.symm, HB.out _⟩
    · have h2a : r < 0 := by omega
      have h2b : decide (0 ≤ r) = false := decide_eq_false h2
      clear h1
      go_enter Tryd.func31, Tryd.ntmps31
      go_wp2_with fail
      go_quiet (fail)
      go_wp2
      go_ret
      exact ⟨ret_bool HE.out.symm, HB.out _⟩
/-- The next place; the one ahead. -/
def nextP (ls : List Ln) (p : Int × Int) : Int × Int := if p.2 + 1 < lenI ls p.1 then (p.1, p.2 + 1) else (p.1 + 1, 0)
def prevP (ls : List Ln) (p : Int × Int) : Int × Int := if 0 < p.2 ∨ p.1 = 0 then (p.1, p.2 - 1) else (p.1 - 1, lenI ls (p.1 - 1) - 1)
def StepPost (W : World) (q : Int × Int) (e : Ending) (w' : World) : Prop := e = .returned (.agg #[.int .i64 q.1, .int .i64 q.2]) ∧ Below W.heap.size W w'
theorem step_ret {W w' : World} {q q' : Int × Int} (h : q = q') (hb : Below W.heap.size W w') : StepPost W q' (.returned (.agg #[.int .i64 q.1, .int .i64 q.2])) w' := by subst h; exact ⟨rfl, hb⟩
set_option maxHeartbeats 1000000 in
theorem next_any (r c : Int) (v : Value) (lv : List (Ln × Value)) (W : World) (hr : LR W v lv) (hc : CesOf W lv) (hs : Sm lv) (hin : inP (lv.map Prod.fst) (r, c) = true) :
    Calls Tryd.prog 32 #[.agg #[.int .i64 r, .int .i64 c], v] W (StepPost W (nextP (lv.map Prod.fst) (r, c))) := by
  obtain ⟨⟨h1, h2⟩, h3, h4⟩ := inP_iff.1 hin
  simp only [List.length_map] at h1 h2 h3 h4
  obtain ⟨A, cap, rfl⟩ := hr.spell
  obtain ⟨n, hnn⟩ : ∃ n, lv.length = n := ⟨_, rfl⟩
  have hn := hs.1
  rw [hnn] at hr hn h2 ⊢
  obtain ⟨k, rfl⟩ : ∃ k : Nat, r = k := ⟨r.toNat, by omega⟩
  obtain ⟨g, o, e, rfl, hg, he, hcell⟩ := lr_at hr hnn k (by omega)
  have hB := below_alloc W (.cells #[.int .i64 k, .int .i64 c] 50)
  have hB2 := hB.alloc hB.size (.cells #[.int .i64 0, .int .i64 0] 50)
  obtain ⟨p0, _⟩ := hcell _ hB2
  have hle := lenI_at he
  have hme := hs.2 e (List.mem_of_getElem? he)
  obtain ⟨eA, ec, hev⟩ := (hc e (List.mem_of_getElem? he)).spell
  rw [hev] at p0
  have HX : Hid (nextP (lv.map Prod.fst) (↑k, c) = if c + 1 < (e.1.cs.length : Int) then ((k : Int), c + 1) else ((k : Int) + 1, 0)) := by unfold Hid nextP; simp only [hle]
  rw [hle] at h4
  have hmm := hme.1
  generalize e.1.cs.length = m at *
  clear hme hcell hr hc he hev hle hin hs
  by_cases h5 : c + 1 < (m : Int)
  · have HF : Hid (((k : Int), c + 1) = nextP (lv.map Prod.fst) (↑k, c)) := by unfold Hid; rw [HX.out, if_pos h5]
    clear HX
    go_enter Tryd.func32, Tryd.ntmps32
    go_wp2_with fail
    go_quiet (fail)
    go_wp2
    refine bodyPost_ret (v := .agg #[.int .i64 k, .int .i64 (c + 1)]) (by simp [results, Tryd.results32, go_sem]) rfl (step_ret HF.out ?_)
    repeat (first | exact hB2.trans ((below_drew _ _).mono hB2.size) | exact hB | exact hB2 | refine Below.trans ?_ (below_drew _ _) | refine Below.setCell ?_ (by simp) _ | refine Below.alloc ?_ (by simp) _ )
  · have HF : Hid (((k : Int) + 1, (0 : Int)) = nextP (lv.map Prod.fst) (↑k, c)) := by unfold Hid; rw [HX.out, if_neg h5]
    clear HX
    go_enter Tryd.func32, Tryd.ntmps32
    go_wp2_with fail
    go_quiet (fail)
    go_wp2
    refine bodyPost_ret (v := .agg #[.int .i64 ((k : Int) + 1), .int .i64 0]) (by simp [results, Tryd.results32, go_sem]) rfl (step_ret HF.out ?_)
    repeat (first | exact hB2.trans ((below_drew _ _).mono hB2.size) | exact hB | exact hB2 | refine Below.trans ?_ (below_drew _ _) | refine Below.setCell ?_ (by simp) _ | refine Below.alloc ?_ (by simp) _ )
set_option maxRecDepth 100000 in
set_option maxHeartbeats 1000000 in
theorem prev_any (r c : Int) (v : Value) (lv : List (Ln × Value)) (W : World) (hr : LR W v lv) (hc : CesOf W lv) (hs : Sm lv) (hin : inP (lv.map Prod.fst) (r, c) = true) :
    Calls Tryd.prog 33 #[.agg #[.int .i64 r, .int .i64 c], v] W (StepPost W (prevP (lv.map Prod.fst) (r, c))) := by
  obtain ⟨⟨h1, h2⟩, h3, h4⟩ := inP_iff.1 hin
  simp only [List.length_map] at h1 h2 h3 h4
  obtain ⟨A, cap, rfl⟩ := hr.spell
  obtain ⟨n, hnn⟩ : ∃ n, lv.length = n := ⟨_, rfl⟩
  have hn := hs.1
  rw [hnn] at hr hn h2 ⊢
  obtain ⟨k, rfl⟩ : ∃ k : Nat, r = k := ⟨r.toNat, by omega⟩
  have hB := below_alloc W (.cells #[.int .i64 k, .int .i64 c] 50)
  have hB2 := hB.alloc hB.size (.cells #[.int .i64 0, .int .i64 0] 50)
  by_cases h5 : 0 < c ∨ (k : Int) = 0
  · have HF : Hid (((k : Int), c - 1) = prevP (lv.map Prod.fst) (↑k, c)) := by unfold Hid prevP; rw [if_pos h5]
    have h4' : c ≤ 1000000 := by
      obtain ⟨g, o, e, rfl, hg, he, hcell⟩ := lr_at hr hnn k (by omega)
      have hle := lenI_at he
      rw [hle] at h4
      have hme := (hs.2 e (List.mem_of_getElem? he)).1
      omega
    clear h4 hr hc hin hs
    by_cases h6 : 0 < c
    · clear h5
      go_enter Tryd.func33, Tryd.ntmps33
      go_wp2
      refine bodyPost_ret (v := .agg #[.int .i64 k, .int .i64 (c - 1)]) (by simp [results, Tryd.results33, go_sem]) rfl (step_ret HF.out ?_)
      repeat (first | exact hB2.trans ((below_drew _ _).mono hB2.size) | exact hB | exact hB2 | refine Below.trans ?_ (below_drew _ _) | refine Below.setCell ?_ (by simp) _ | refine Below.alloc ?_ (by simp) _ )
    · have h7 : (k : Int) = 0 := by omega
      obtain rfl : k = 0 := by omega
      have h8 : c = 0 := by omega
      subst h8
      clear h5
      go_enter Tryd.func33, Tryd.ntmps33
      go_wp2
      refine bodyPost_ret (v := .agg #[.int .i64 (0 : Nat), .int .i64 ((0 : Int) - 1)]) (by simp [results, Tryd.results33, go_sem]) rfl (step_ret HF.out ?_)
      repeat (first | exact hB2.trans ((below_drew _ _).mono hB2.size) | exact hB | exact hB2 | refine Below.trans ?_ (below_drew _ _) | refine Below.setCell ?_ (by simp) _ | refine Below.alloc ?_ (by simp) _ )
  · obtain ⟨g, o, e, rfl, hg, he, hcell⟩ := lr_at hr hnn (k - 1) (by omega)
    obtain ⟨p0, _⟩ := hcell _ hB2
    have hle := lenI_at he
    have hme := (hs.2 e (List.mem_of_getElem? he)).1
    obtain ⟨eA, ec, hev⟩ := (hc e (List.mem_of_getElem? he)).spell
    rw [hev] at p0
    have hk1 : ((k - 1 : Nat) : Int) = (k : Int) - 1 := by omega
    have HF : Hid (((k : Int) - 1, (e.1.cs.length : Int) - 1) = prevP (lv.map Prod.fst) (↑k, c)) := by unfold Hid prevP; rw [if_neg h5]; rw [hk1] at hle; simp only [hle]
    have hw : IntKind.i64.wrap ((k : Int) - 1) = ((k - 1 : Nat) : Int) := by rw [IntWalk.i64_in _ (by omega), hk1]
    rw [← hk1] at HF
    have h51 : ¬ 0 < c := fun h => h5 (.inl h)
    have h52 : ¬ (k : Int) = 0 := fun h => h5 (.inr h)
    have hkn : k - 1 < n := by omega
    generalize e.1.cs.length = m at *
    generalize k - 1 = j at *
    have hkj : (k : Int) - 1 = (j : Int) := hk1.symm
    have hjn : (j : Int) < n := by omega
    have hj0 : (0 : Int) ≤ j := by omega
    have hjw : IntKind.i64.wrap (j : Int) = (j : Int) := IntWalk.i64_in _ (by omega)
    have hmw : IntKind.i64.wrap ((m : Int) - 1) = (m : Int) - 1 := IntWalk.i64_in _ (by omega)
    clear hcell hr hc he hev hle hin hs h5 h4 hk1
    have hbz : Box ((W.alloc (.cells #[.int .i64 k, .int .i64 c] 50)).alloc (.cells #[.int .i64 0, .int .i64 0] 50)) (W.heap.size + 1) 50 #[.int .i64 0, .int .i64 0] := by
      have := Box.new (W.alloc (.cells #[.int .i64 k, .int .i64 c] 50)) 50 #[.int .i64 0, .int .i64 0]
      rwa [World.size_alloc] at this
    have hbp : Box ((W.alloc (.cells #[.int .i64 k, .int .i64 c] 50)).alloc (.cells #[.int .i64 0, .int .i64 0] 50)) W.heap.size 50 #[.int .i64 k, .int .i64 c] := (Box.new W 50 #[.int .i64 k, .int .i64 c]).alloc _
    go_enter Tryd.func33, Tryd.ntmps33
    go_wp2_with fail
    obtain ⟨W1, hW1⟩ : ∃ W1, W1 = (W.alloc (.cells #[.int .i64 k, .int .i64 c] 50)).alloc (.cells #[.int .i64 0, .int .i64 0] 50) := ⟨_, rfl⟩
    rw [← hW1] at hbz hbp p0 hB2 ⊢
    clear hW1 hB
    obtain ⟨⟨z0, z1⟩, y0, y1⟩ := hbz.two
    obtain ⟨⟨x0, x1⟩, _⟩ := hbp.two
    go_still_tail 13, (by kernel_rfl)
    change wpList _ _ _ _ _ W1.drew
    go_wp2
    have hb1 := hbz.set (i := 0) (.int .i64 (j : Int))
    have hb2 := hb1.set (i := 1) (.int .i64 ((m : Int) - 1))
    have r0 := hb1.cell 0
    have r1 := hb2.cell 1
    have e0 : ((#[Value.int .i64 0, .int .i64 0] : Array Value).setIfInBounds 0 (.int .i64 (j : Int)))[0]? = some (.int .i64 (j : Int)) := by simp
    have e1 : (((#[Value.int .i64 0, .int .i64 0] : Array Value).setIfInBounds 0 (.int .i64 (j : Int))).setIfInBounds 1 (.int .i64 ((m : Int) - 1)))[1]? = some (.int .i64 ((m : Int) - 1)) := by simp
    rw [e0] at r0
    rw [e1] at r1
    refine bodyPost_ret (v := .agg #[.int .i64 (j : Int), .int .i64 ((m : Int) - 1)]) (by simp [results, Tryd.results33, go_sem, r0, r1]) rfl (step_ret HF.out ?_)
    exact (below_set (below_set hB2 (by omega) _) (by omega) _).trans ((below_drew _ 1).mono (by rw [size_set, size_set]; exact hB2.size))
end Go.Proofs.YteebbmmgbjpihaaDoor

namespace Go.Proofs.YteebbmmgbjpihaaDoor
open Go.RowKit

theorem pre_iff {s p : ByteArray} : pre s p = true ↔ p.size ≤ s.size ∧ ∀ i, i < p.size → byteAt s i = byteAt p i := by
  unfold pre
  rw [decide_eq_true_iff]
  refine ⟨fun ⟨h1, h2⟩ => ⟨h1, fun i hi => ?_⟩, fun ⟨h1, h2⟩ => ⟨h1, ?_⟩⟩
  · have := byteAt_extract s 0 p.size i (by omega)
    rw [h2, Nat.zero_add] at this
    exact this.symm
  · apply bytes_ext
    · rw [size_extract']; omega
    · intro i hi
      rw [size_extract'] at hi
      rw [byteAt_extract _ _ _ _ (by omega), Nat.zero_add]
      exact h2 i (by omega)
theorem prefB_pre (s t : ByteArray) : prefB s t = pre t s := by
  unfold prefB pre
  rw [Bool.eq_iff_iff, Bool.and_eq_true, decide_eq_true_iff, decide_eq_true_iff, decide_eq_true_iff]
theorem prefB_nil {s : ByteArray} (h : 0 < s.size) : prefB s ⟨#[]⟩ = false := by
  have e : (⟨#[]⟩ : ByteArray).size = 0 := rfl
  unfold prefB
  rw [decide_eq_false (by omega), Bool.false_and]
theorem prefB_short {s a b : ByteArray} (h : s.size ≤ a.size) : prefB s (a ++ b) = pre a s := by
  rw [prefB_pre, Bool.eq_iff_iff, pre_iff, pre_iff]
  refine ⟨fun ⟨_, h2⟩ => ⟨h, fun i hi => ?_⟩, fun ⟨_, h2⟩ => ⟨by rw [size_append']; omega, fun i hi => ?_⟩⟩
  · rw [← h2 i hi, byteAt_left _ _ _ (by omega)]
  · rw [byteAt_left _ _ _ (by omega)]; exact h2 i hi
theorem prefB_long {s a b : ByteArray} (h : a.size ≤ s.size) : prefB s (a ++ b) = (pre s a && prefB (s.extract a.size s.size) b) := by
  have hz : (s.extract a.size s.size).size = s.size - a.size := by rw [size_extract']; omega
  rw [prefB_pre, prefB_pre, Bool.eq_iff_iff, Bool.and_eq_true, pre_iff, pre_iff, pre_iff, size_append', hz]
  refine ⟨fun ⟨h1, h2⟩ => ⟨⟨h, fun i hi => ?_⟩, by omega, fun i hi => ?_⟩, fun ⟨⟨_, h2⟩, h3, h4⟩ => ⟨by omega, fun i hi => ?_⟩⟩
  · rw [← h2 i (by omega), byteAt_left _ _ _ hi]
  · rw [byteAt_extract _ _ _ _ (by omega), ← h2 (a.size + i) (by omega), byteAt_right _ _ _ (by omega)]
  · by_cases hi2 : i < a.size
    · rw [byteAt_left _ _ _ hi2]; exact (h2 i hi2).symm
    · obtain ⟨j, rfl⟩ : ∃ j, i = a.size + j := ⟨i - a.size, by omega⟩
      rw [byteAt_right _ _ _ (by omega), h4 j (by omega), byteAt_extract _ _ _ _ (by omega)]
theorem foldl_say (l : List Ce) : ∀ s, l.foldl (fun s c => s ++ sayC c) s = s ++ sayCs l := by
  induction l with
  | nil => intro s; exact (app_nil s).symm
  | cons c l ih =>
    intro s
    unfold sayCs
    rw [List.foldl_cons, List.foldl_cons, ih, ih (⟨#[]⟩ ++ sayC c), nil_app, ByteArray.append_assoc]
theorem sayCs_cons (c : Ce) (l : List Ce) : sayCs (c :: l) = sayC c ++ sayCs l := by
  have := foldl_say l (⟨#[]⟩ ++ sayC c)
  rw [nil_app] at this
  unfold sayCs at this ⊢
  rw [List.foldl_cons, nil_app]
  exact this
theorem sayC_right {c : Ce} (h : rightB c = true) : sayC c = if c.wd = 0 then ⟨#[]⟩ else orB c.tx := by
  obtain ⟨h0, h2⟩ := right_tx h
  unfold sayC orB
  rcases right_wd h with e | e | e
  · rw [if_pos e, if_neg (by omega), nil_app, empty_yes (h0 e)]
  · rw [if_neg (show ¬ c.wd = 0 by omega)]
    by_cases hz : c.tx.size = 0
    · rw [if_pos ⟨hz, e⟩, if_pos hz, empty_yes hz]; rfl
    · rw [if_neg (fun h => hz h.1), if_neg hz, nil_app]
  · rw [if_neg (show ¬ c.wd = 0 by omega), if_neg (by omega), nil_app, if_neg (h2 e)]
theorem rightHalf_any (c : Ce) (W : World) : Calls Tryd.prog 35 #[c.agg] W fun e w' => e = .returned (.bool (decide (c.wd = 0))) ∧ Below W.heap.size W w' := by
  obtain ⟨tx, wd, fg, bg, fl⟩ := c
  unfold Ce.agg Ce.cells
  have hB := hid (below_alloc W (.cells #[.string tx, .int .i64 wd, .int .i64 fg, .int .i64 bg, .int .i64 fl] 44))
  by_cases h : wd = 0
  · simp only
    subst h
    go_enter Tryd.func35, Tryd.ntmps35
    go_wp2
    go_ret
    exact ⟨rfl, hB.out⟩
  · simp only
    go_enter Tryd.func35, Tryd.ntmps35
    go_wp2
    go_ret
    exact ⟨ret_bool (by rw [Bool.eq_iff_iff]; simp), hB.out⟩
set_option maxHeartbeats 1000000 in
theorem says_any (c : Ce) (W : World) (hc : rightB c = true) : Calls Tryd.prog 36 #[c.agg] W fun e w' => e = .returned (.string (sayC c)) ∧ Below W.heap.size W w' := by
  have hs := sayC_right hc
  have hR := fun W => rightHalf_any c W
  obtain ⟨x, hx⟩ : ∃ x, sayC c = x := ⟨_, rfl⟩
  rw [hx] at hs ⊢
  clear hc hx
  obtain ⟨tx, wd, fg, bg, fl⟩ := c
  unfold Ce.agg Ce.cells at hR
  unfold Ce.agg Ce.cells
  simp only at hR hs ⊢
  have hB := below_alloc W (.cells #[.string tx, .int .i64 wd, .int .i64 fg, .int .i64 bg, .int .i64 fl] 44)
  have hbx := Box.new W 44 #[.string tx, .int .i64 wd, .int .i64 fg, .int .i64 bg, .int .i64 fl]
  have HR := hid (hR (W.alloc (.cells #[.string tx, .int .i64 wd, .int .i64 fg, .int .i64 bg, .int .i64 fl] 44)))
  clear hR
  by_cases h : wd = 0
  · have HE : Hid (x = ⟨#[]⟩) := by rw [hs, if_pos h]; rfl
    rw [decide_eq_true h] at HR
    have HB := hid hB
    clear hs h hB hbx
    go_enter Tryd.func36, Tryd.ntmps36
    go_wp2_with (refine HR.out.mono ?_; rintro e w1 ⟨rfl, hb⟩)
    go_ret
    exact ⟨ret_str HE.out.symm, HB.out.trans (hb.mono HB.out.size)⟩
  · have HE : Hid (orB tx = x) := by rw [hs, if_neg h]; rfl
    rw [decide_eq_false h] at HR
    have HB := hid hB
    have HBX := hid hbx
    have hlt := hbx.lt
    clear hs h hB hbx
    go_enter Tryd.func36, Tryd.ntmps36
    go_wp2_with fail
    refine HR.out.mono ?_
    rintro e w1 ⟨rfl, hb⟩
    dsimp only
    have hbx1 := HBX.out.below hb hlt
    have c0 := hbx1.cell 0
    rw [show (#[Value.string tx, .int .i64 wd, .int .i64 fg, .int .i64 bg, .int .i64 fl] : Array Value)[0]? = some (.string tx) from rfl] at c0
    have HO := hid (cmpOr_any tx w1.heap.size (w1.alloc (.cells #[.string tx, .string ⟨#[32]⟩] 9)) (cell_of_row _ _ 0 _ _ _ (heap_alloc_new w1 _)) (cell_of_row _ _ 1 _ _ _ (heap_alloc_new w1 _)))
    have HZ := hid ((HB.out.trans (hb.mono HB.out.size)).alloc (Nat.le_trans HB.out.size hb.size) (.cells #[.string tx, .string ⟨#[32]⟩] 9))
    clear hbx1 hb HR HB HBX hlt
    go_wp2_with (refine HO.out.mono ?_; rintro e w2 ⟨rfl, rfl⟩)
    go_ret
    exact ⟨ret_str HE.out, HZ.out⟩
/-- Does a text stand at the first of these cells? -/
def standsC (s : ByteArray) (l : List Ce) : Bool := match l with
  | [] => false
  | c :: r => decide (c.wd ≠ 0) && prefB s (sayCs (c :: r))
theorem standsP_is (ls : List Ln) (s : ByteArray) (r c : Nat) : standsP ls s r c = standsC s (restP ls r c) := by
  unfold standsP standsC cellP restP
  cases h : ls[r]? with
  | none => rfl
  | some l =>
    simp only [Option.bind_some]
    cases h2 : l.cs[c]? with
    | none =>
      rw [List.drop_eq_nil_of_le (List.getElem?_eq_none_iff.1 h2)]
    | some x =>
      obtain ⟨hl, hx⟩ := List.getElem?_eq_some_iff.1 h2
      rw [List.drop_eq_getElem_cons hl, hx]
theorem sayC_size {c : Ce} (h : c.tx.size ≤ 1000) : (sayC c).size ≤ 1001 := by
  unfold sayC
  rw [size_append']
  split
  · have : (⟨#[32]⟩ : ByteArray).size = 1 := rfl
    omega
  · have : (⟨#[]⟩ : ByteArray).size = 0 := rfl
    omega
set_option maxHeartbeats 2000000 in
theorem stands_any (s : ByteArray) (v : Value) (l : List Ce) (W : World) (hr : CeRow W v l) (hc : ∀ c ∈ l, rightB c = true ∧ c.tx.size ≤ 1000) (hn : l ≠ []) (hm : l.length ≤ 1000) (h0 : 0 < s.size) (hs : s.size ≤ 1000) :
    Calls Tryd.prog 21 #[.string s, v] W fun e w' => e = .returned (.bool (standsC s l)) ∧ Below W.heap.size W w' := by
  obtain ⟨A, cap, rfl⟩ := hr.spell
  obtain ⟨n, hnn⟩ : ∃ n, l.length = n := ⟨_, rfl⟩
  have hn0 : 0 < n := by rw [← hnn]; exact List.length_pos_iff.2 hn
  obtain ⟨x, q, hxl⟩ := List.exists_cons_of_ne_nil hn
  rw [hnn] at hr hm ⊢
  obtain ⟨g, o, x', rfl, hg, hx, hcell⟩ := row_cells hr hnn 0 hn0
  have hxx : x' = x := by rw [hxl] at hx; simpa using hx.symm
  subst hxx
  obtain ⟨p0, p1, p2, p3, p4⟩ := ccells (W := W) (g := g) (o := o + 0 * 5) (e := x') (fun i u hu => hcell _ (Below.refl _ _) i u hu)
  rw [Nat.zero_mul, Nat.add_zero] at p0 p1 p2 p3 p4
  have HH := hid (rightHalf_any x' W)
  have hSC : standsC s l = (decide (x'.wd ≠ 0) && prefB s (sayCs l)) := by rw [hxl]; rfl
  have hn0i : (0 : Int) < n := by omega
  have HR := hid hr
  have HN := hid hnn
  have HC := hid hc
  clear hcell hx hr hnn hn hc
  by_cases hw : x'.wd = 0
  · rw [decide_eq_true hw] at HH
    have HE : Hid (standsC s l = false) := by unfold Hid; rw [hSC, decide_eq_false (fun h => h hw), Bool.false_and]
    clear hSC hxl hw
    obtain ⟨tx, wd, fg, bg, fl⟩ := x'
    unfold Ce.agg Ce.cells at HH
    simp only at HH p0 p1 p2 p3 p4
    go_enter Tryd.func21, Tryd.ntmps21
    go_wp2_with (refine HH.out.mono ?_; rintro e w1 ⟨rfl, hb⟩)
    go_ret
    exact ⟨ret_bool HE.out.symm, hb⟩
  · rw [decide_eq_false hw] at HH
    have HE : Hid (standsC s l = prefB s (sayCs (l.drop 0))) := by unfold Hid; rw [hSC, decide_eq_true hw, Bool.true_and, List.drop_zero]
    clear hSC hxl hw
    obtain ⟨tx, wd, fg, bg, fl⟩ := x'
    unfold Ce.agg Ce.cells at HH
    simp only at HH p0 p1 p2 p3 p4
    go_enter Tryd.func21, Tryd.ntmps21
    go_wp2_with (refine HH.out.mono ?_; rintro e w1 ⟨rfl, hb⟩)
    clear HH p0 p1 p2 p3 p4
    go_loopw [0, 14] (fun tv i wr => ∃ (k : Nat) (t : ByteArray), k ≤ n ∧ i = .int .i64 k ∧ tv = .string t ∧ 0 < t.size ∧ t.size ≤ 1000 ∧ standsC s l = prefB t (sayCs (l.drop k)) ∧ Below W.heap.size W wr) (fun _ i _ => n - (intOf i).toNat)
    case atStart => exact ⟨0, s, by omega, rfl, rfl, h0, hs, HE.out, hb⟩
    case round =>
      obtain ⟨k, t, hk, rfl, rfl, ht0, ht1, hst, hbr⟩ := hrel
      by_cases hlt : k < n
      · have hki : (k : Int) < n := by omega
        have hkb : (k : Int) ≤ 1000 := by omega
        obtain ⟨g', o', c, eg, hg', hx, hcell⟩ := row_cells HR.out HN.out k hlt
        cases eg
        obtain ⟨p0, p1, p2, p3, p4⟩ := ccells (W := wr) (g := g) (o := o + k * 5) (e := c) (fun i u hu => hcell _ hbr i u hu)
        obtain ⟨hcr, hct⟩ := HC.out c (List.mem_of_getElem? hx)
        have hld : l.drop k = c :: l.drop (k + 1) := by
          obtain ⟨hl, hx'⟩ := List.getElem?_eq_some_iff.1 hx
          rw [List.drop_eq_getElem_cons hl, hx']
        rw [hld, sayCs_cons] at hst
        have hzz := sayC_size hct
        have HS := hid (fun W => says_any c W hcr)
        obtain ⟨y, hy⟩ : ∃ y, sayC c = y := ⟨_, rfl⟩
        rw [hy] at hst hzz HS
        have hP1 := fun W => pre_any y t W (by omega) (by omega)
        have hP2 := fun W => pre_any t y W (by omega) (by omega)
        clear hx hcell hld hcr hct hy
        obtain ⟨tx', wd', fg', bg', fl'⟩ := c
        unfold Ce.agg Ce.cells at HS
        simp only at HS p0 p1 p2 p3 p4
        have hB := hbr.alloc hbr.size (.cells #[.string tx', .int .i64 wd', .int .i64 fg', .int .i64 bg', .int .i64 fl'] 44)
        have HB := hid hB
        clear hB hbr
        by_cases hsz : t.size ≤ y.size
        · have HV : Hid (standsC s l = pre y t) := by unfold Hid; rw [hst, prefB_short hsz]
          clear hst
          go_upto_region 8 with ((with_reducible refine (HS.out _).mono ?_); rintro e w2 ⟨rfl, hb2⟩)
          have HB2 := hid (HB.out.trans (hb2.mono HB.out.size))
          clear hb2
          go_wp2_with ((with_reducible refine (hP1 _).mono ?_); rintro e w3 ⟨rfl, rfl⟩)
          go_ret
          exact ⟨ret_bool HV.out.symm, HB2.out⟩
        · have hsz2 : ¬ (t.size : Int) ≤ y.size := by omega
          have hsz3 : y.size ≤ t.size := by omega
          have HV := hid (hst.trans (prefB_long hsz3))
          clear hst
          go_upto_region 9 with ((with_reducible refine (HS.out _).mono ?_); rintro e w2 ⟨rfl, hb2⟩)
          have HB2 := hid (HB.out.trans (hb2.mono HB.out.size))
          clear hb2
          cases hp : pre t y
          · rw [hp] at hP2
            have HV2 : Hid (standsC s l = false) := by unfold Hid; rw [HV.out, hp, Bool.false_and]
            clear hp HV
            go_wp2_with ((with_reducible refine (hP2 _).mono ?_); rintro e w3 ⟨rfl, rfl⟩)
            go_ret
            exact ⟨ret_bool HV2.out.symm, HB2.out⟩
          · rw [hp] at hP2
            have HV2 : Hid (standsC s l = prefB (t.extract y.size t.size) (sayCs (l.drop (k + 1)))) := by unfold Hid; rw [HV.out, hp, Bool.true_and]
            have hze : (t.extract y.size t.size).size = t.size - y.size := by rw [size_extract']; omega
            have HZ := hid hze
            have hyi : (y.size : Int) ≤ t.size := by omega
            clear hp HV hze
            go_wp2_with ((with_reducible refine (hP2 _).mono ?_); rintro e w3 ⟨rfl, rfl⟩)
            go_roundw
            case rel => exact ⟨k + 1, _, by omega, by go_num, rfl, by rw [HZ.out]; omega, by rw [HZ.out]; omega, HV2.out, HB2.out⟩
            case measure => simp [intOf]; omega
      · have hkn : k = n := by omega
        subst hkn
        have HV : Hid (standsC s l = false) := by
          unfold Hid
          rw [hst, List.drop_eq_nil_of_le (by rw [HN.out]; omega)]
          exact prefB_nil ht0
        have HBR := hid hbr
        clear hlt hst hbr
        go_wp2
        go_ret
        exact ⟨ret_bool HV.out.symm, HBR.out⟩
end Go.Proofs.YteebbmmgbjpihaaDoor

namespace Go.Proofs.YteebbmmgbjpihaaDoor
open Go.RowKit

def a8C (b : UInt8) : Ce := ⟨⟨#[b]⟩, 1, 0, 0, 0⟩
def abc : List Ce := [a8C 97, a8C 98, a8C 99]
theorem abc_ok : okR abc = true := by decide +kernel
theorem abc_fold : foldP 2 abc = [⟨[a8C 97, a8C 98], true⟩, ⟨[a8C 99, b0C], false⟩] := by rfl
theorem abc_join : (joinP [⟨[a8C 97, a8C 98], true⟩, ⟨[a8C 99, b0C], false⟩]).map sayP = [⟨#[97, 98, 99]⟩] := by decide +kernel
theorem abc_tx : (∀ c ∈ [a8C 97, a8C 98], c.tx.size ≤ 1000) ∧ ∀ c ∈ [a8C 99, b0C], c.tx.size ≤ 1000 := by decide
theorem abc_fits : fitsB 2 [a8C 97, a8C 98] = true ∧ fitsB 2 [a8C 99, b0C] = true := by decide +kernel
end Go.Proofs.YteebbmmgbjpihaaDoor

namespace Go.Proofs.YteebbmmgbjpihaaDoor
open Go.RowKit

theorem cutLs_mem {ls : List Ln} {m : Nat} {x : Ln} (h : x ∈ cutLs ls m) : ∃ y, x = cutN y := by
  unfold cutLs at h
  obtain ⟨y, _, rfl⟩ := List.mem_map.1 h
  exact ⟨y, rfl⟩
/-- Few lines, cut short. -/
theorem few_fl {W : World} {base : Nat} {v : Value} {lv : List (Ln × Value)} {ls : List Ln} (h : lv.map Prod.fst = cutLs ls 30) (hl : LSl W base v lv) (hc : ∀ x ∈ lv, CSl W base x.2 x.1.cs) : Fl W v lv := by
  have hn : lv.length ≤ 30 := by
    have := congrArg List.length h
    unfold cutLs at this
    rw [List.length_map, List.length_map, List.length_take] at this
    omega
  have hx : ∀ e ∈ lv, ∃ y, e.1 = cutN y := fun e he => cutLs_mem (by rw [← h]; exact List.mem_map.2 ⟨e, he, rfl⟩)
  have h82 : ∀ e ∈ lv, e.1.cs.length ≤ 82 ∧ ∀ c ∈ e.1.cs, c.tx.size ≤ 20 := fun e he => by
    obtain ⟨y, hy⟩ := hx e he
    rw [hy]
    exact ⟨by show (lineG y.cs).length ≤ 82; rw [lineG_length]; omega, lineG_size⟩
  exact ⟨hl.row, fun e he => (hc e he).row, ⟨by omega, fun e he => ⟨by have := (h82 e he).1; omega, fun c hcc => by have := (h82 e he).2 c hcc; omega⟩⟩, by omega, fun e he => by have := (h82 e he).1; omega⟩
theorem Fl.may {W : World} {v : Value} {lv : List (Ln × Value)} (h : Fl W v lv) : mayLs lv = keptB lv := by unfold mayLs; rw [decide_eq_true h.n, Bool.and_true]
theorem le_sumL {r : List Ce} : ∀ {rs : List (List Ce)}, r ∈ rs → r.length ≤ sumL rs
  | x :: l, h => by
    have e : sumL (x :: l) = x.length + sumL l := by unfold sumL; simp
    rcases List.mem_cons.1 h with rfl | h
    · omega
    · have := le_sumL h
      omega
/-- The reads of such rows. -/
theorem OwnR.at {W : World} {base : Nat} {A : Option Addr} {n c : Nat} {rv : List (List Ce × Value)} (h : OwnR W base (.slice A n c) rv) : n = rv.length ∧ (rv ≠ [] → ∃ g o, A = some ⟨g, o, none⟩ ∧ g < W.heap.size ∧ ∀ j e, rv[j]? = some e → W.cell? ⟨g, o + j, none⟩ = some e.2) := by
  obtain ⟨A', c', e, _, hcell⟩ := h.row
  cases e
  exact ⟨rfl, hcell⟩
theorem OwnS.at {W : World} {base : Nat} {A : Option Addr} {n c : Nat} {l : List ByteArray} (h : OwnS W base (.slice A n c) l) : n = l.length ∧ (l ≠ [] → ∃ g, A = some ⟨g, 0, none⟩ ∧ g < W.heap.size ∧ ∀ j x, l[j]? = some x → W.cell? ⟨g, j, none⟩ = some (.string x)) := by
  obtain ⟨A', c', e, hcell⟩ := h.any
  cases e
  exact ⟨rfl, hcell⟩
theorem OwnS.below {W W' : World} {base : Nat} {v : Value} {l : List ByteArray} (h : OwnS W base v l) (hb : Below W.heap.size W W') : OwnS W' base v l := h.kept hb
end Go.Proofs.YteebbmmgbjpihaaDoor
