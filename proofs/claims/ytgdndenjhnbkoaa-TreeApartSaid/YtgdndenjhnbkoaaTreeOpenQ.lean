/- A tree by value, as an argument: opened. -/
import Derived.Test.YtgdndenjhnbkoaaPostQ
import Derived.Test.YtgdndenjhnbkoaaTreeAQ
namespace Go.Proofs.Ytgdndenjhnbkoaa
open Go.ChangeShapes Go.WideShapes Go.ChangeAt Go.RowKit Go.Joins Go.Deep Go.WideMaps Go.WideElems

theorem tr_row {α : Type} {P : Nat → α → Prop} (n : Nat) (h : ∀ i, i < n → ∃ e, P i e) : ∃ l : List α, l.length = n ∧ ∀ i e, l[i]? = some e → P i e := by
  refine ⟨(List.range n).pmap (fun i hi => Classical.choose (h i hi)) (fun i hi => List.mem_range.1 hi), by simp, fun i e he => ?_⟩
  obtain ⟨hlt, rfl⟩ := List.getElem?_eq_some_iff.1 he
  have hlt' : i < n := by simpa using hlt
  have := Classical.choose_spec (h i hlt')
  simpa using this
theorem tr_spot {w : World} {a : Addr} {v : Value} (h : w.cell? a = some v) : ∃ g o, a = ⟨g, o, none⟩ := by
  obtain ⟨g, o, s⟩ := a
  cases s with
  | none => exact ⟨g, o, rfl⟩
  | some s =>
    unfold World.cell? at h
    split at h
    · simp at h
    · cases h
theorem tr_add (g o j : Nat) : (⟨g, o, none⟩ : Addr).add j = ⟨g, o + j, none⟩ := by unfold Addr.add; split <;> simp_all
theorem tCells : Try.prog.cellsOf 24 = 4 := by kernel_rfl
theorem tInt : Try.prog.cellsOf 3 = 1 := by kernel_rfl
theorem tKids : Try.prog.cellsOf 22 = 1 := by kernel_rfl
theorem TrsAt.of {W : World} {g : Nat} : ∀ (l : List Tr) (o : Nat), (∀ i t, l[i]? = some t → NodeAt W g (o + i * 4) t) → TrsAt W g o l
  | [], _, _ => by unfold TrsAt; trivial
  | t :: r, o, h => by
    unfold TrsAt
    refine ⟨by simpa [NodeAt] using h 0 t rfl, TrsAt.of r (o + 4) fun i u hu => ?_⟩
    have := h (i + 1) u (by simpa using hu)
    rwa [show o + (i + 1) * 4 = o + 4 + i * 4 by omega] at this
set_option maxRecDepth 100000 in
theorem open_tr {H : Type} {enc : TypeId × Value → H} {W : World} {base : Nat} {sp : Nat → Bool} : ∀ (d fuel : Nat) {held : Bool} {cs : List Value} {y : DataW H × List MemPlace}, fuel ≤ d → cs.length = 4 → DataW.trod enc Try.prog W base sp held fuel 24 cs = some y →
    ∃ (t : Tr) (v : Value), cs = [.int .i64 t.kind, .int .i64 t.pane, .int .i64 t.size, v] ∧ TrAt W t v
  | 0, fuel, held, cs, y, hd, _, h => by
    obtain ⟨_, n, rfl, _⟩ := DataW.trod_struct Try.underlying24 h
    omega
  | d + 1, fuel, held, cs, y, hd, hl, h => by
    obtain ⟨ys, n, rfl, _, _, hyl, hat⟩ := DataW.trod_struct Try.underlying24 h
    have hyl' : ys.length = 4 := hyl
    match cs, hl with
    | [k0, k1, k2, k3], _ =>
    have e0 := (hat 0 _ rfl).trans (List.getElem?_eq_getElem (by omega))
    have e1 := (hat 1 _ rfl).trans (List.getElem?_eq_getElem (by omega))
    have e2 := (hat 2 _ rfl).trans (List.getElem?_eq_getElem (by omega))
    have e3 := (hat 3 _ rfl).trans (List.getElem?_eq_getElem (by omega))
    have t0 : DataW.trod enc Try.prog W base sp held n 3 [k0] = some (ys[0]) := by simpa [tInt] using e0
    have t1 : DataW.trod enc Try.prog W base sp held n 3 [k1] = some (ys[1]) := by simpa [tInt] using e1
    have t2 : DataW.trod enc Try.prog W base sp held n 3 [k2] = some (ys[2]) := by simpa [tInt] using e2
    have t3 : DataW.trod enc Try.prog W base sp held n 22 [k3] = some (ys[3]) := by simpa [tKids] using e3
    obtain ⟨kk, g0, _, _⟩ := DataW.trod_int Try.underlying3 t0
    obtain ⟨kp, g1, _, _⟩ := DataW.trod_int Try.underlying3 t1
    obtain ⟨ks, g2, _, _⟩ := DataW.trod_int Try.underlying3 t2
    simp at g0 g1 g2
    subst g0 g1 g2
    rcases DataW.trod_slice Try.underlying22 t3 with ⟨h0, _⟩ | ⟨a, len, cap, elems, rest, m, rfl, hcs, _, hb, hlc, hcm, hel, hi, _⟩
    · simp at h0
      subst h0
      exact ⟨.mk kk kp ks [], _, rfl, by unfold TrAt; exact ⟨_, _, rfl, Nat.le_refl _, fun h => absurd rfl h⟩⟩
    · simp at hcs
      subst hcs
      obtain ⟨l, hll, hp⟩ := tr_row (P := fun i (t : Tr) => ∃ v, W.cell? (a.add (i * 4)) = some (.int .i64 t.kind) ∧ W.cell? (a.add (i * 4 + 1)) = some (.int .i64 t.pane) ∧ W.cell? (a.add (i * 4 + 2)) = some (.int .i64 t.size) ∧ W.cell? (a.add (i * 4 + 3)) = some v ∧ TrAt W t v) len (fun i hil => by
        have hx := (hi i hil).trans (List.getElem?_eq_getElem (by omega))
        rw [tCells, Option.bind_eq_some_iff] at hx
        obtain ⟨cs', hc, ht'⟩ := hx
        obtain ⟨_, hcl, hat'⟩ := World.cells?_some hc
        obtain ⟨t, v, rfl, htr⟩ := open_tr d m (by omega) hcl ht'
        refine ⟨t, v, ?_, ?_, ?_, ?_, htr⟩
        · have := hat' 0 (by omega); rw [Go.Deep.add_add] at this; exact this
        · have := hat' 1 (by omega); rw [Go.Deep.add_add] at this; exact this
        · have := hat' 2 (by omega); rw [Go.Deep.add_add] at this; exact this
        · have := hat' 3 (by omega); rw [Go.Deep.add_add] at this; exact this)
      refine ⟨.mk kk kp ks l, _, rfl, ?_⟩
      unfold TrAt
      refine ⟨some a, cap, by rw [hll], by omega, fun hne => ?_⟩
      have hpos : 0 < l.length := List.length_pos_iff.2 hne
      obtain ⟨v0, q0, _⟩ := hp 0 _ (List.getElem?_eq_getElem hpos)
      have hadd : a.add (0 * 4) = a := by unfold Addr.add; simp
      rw [hadd] at q0
      obtain ⟨g, o, rfl⟩ := tr_spot q0
      refine ⟨g, o, rfl, TrsAt.of l o fun i t hit => ?_⟩
      obtain ⟨v, c0, c1, c2, c3, hv⟩ := hp i t hit
      rw [tr_add] at c0 c1 c2 c3
      exact ⟨v, c0, by rwa [show o + i * 4 + 1 = o + (i * 4 + 1) by omega], by rwa [show o + i * 4 + 2 = o + (i * 4 + 2) by omega], by rwa [show o + i * 4 + 3 = o + (i * 4 + 3) by omega], hv⟩
theorem tr_arr4 (T : Array Value) (h : T.size = 4) : ∃ a b c d : Value, T = #[a, b, c, d] := by
  obtain ⟨l⟩ := T
  match l, h with
  | [a, b, c, d], _ => exact ⟨a, b, c, d, rfl⟩
theorem open_tree {H : Type} {enc : TypeId × Value → H} {W : World} {r : Reach} {b0 base : Nat} {sp : Nat → Bool} {held : Bool} {v : Value} {d : DataW H} {p : List MemPlace} (hv : Value.okWide Try.prog W r b0 24 v) (h : DataW.Trod enc Try.prog W base sp held 24 v d p) :
    ∃ (t : Tr) (kv : Value), v = .agg #[.int .i64 t.kind, .int .i64 t.pane, .int .i64 t.size, kv] ∧ TrAt W t kv := by
  obtain ⟨cs, rfl, hsz⟩ := okWide_struct Try.underlying24 hv
  obtain ⟨k0, k1, k2, k3, rfl⟩ := tr_arr4 cs (hsz.trans tCells)
  obtain ⟨fuel, hf⟩ := h
  have hf' : DataW.trod enc Try.prog W base sp held fuel 24 [k0, k1, k2, k3] = some (d, p) := hf
  obtain ⟨t, kv, he, ht⟩ := open_tr fuel fuel (Nat.le_refl _) rfl hf'
  simp only [List.cons.injEq, and_true] at he
  obtain ⟨rfl, rfl, rfl, rfl⟩ := he
  exact ⟨t, k3, rfl, ht⟩
end Go.Proofs.Ytgdndenjhnbkoaa
