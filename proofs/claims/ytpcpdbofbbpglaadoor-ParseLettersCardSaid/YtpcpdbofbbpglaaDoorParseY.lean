/- Layer 5, the statements' helpers: a known sequence. -/
import Derived.Test.YtpcpdbofbbpglaaDoorParseX
namespace Go.Proofs.YtpcpdbofbbpglaaDoor
open Go.RowKit

theorem alive_fed : feedP (.to 0) (bytesP ⟨#[27, 91, 49, 59, 51, 49, 109, 65]⟩) = (.to 0, [⟨4, 0, 109, 0, [1, 31], 0, nilB⟩, dPrint 65]) := by rfl
theorem right_0 : rightP (.to 0) := right_to (.inl rfl)
theorem rows_two {lv : List (Dn × Value)} {a b : Dn} (h : lv.map Prod.fst = [a, b]) : ∃ v u, lv = [(a, v), (b, u)] := by
  match lv, h with
  | [(x, v), (y, u)], h =>
    simp only [List.map_cons, List.map_nil, List.cons.injEq, and_true] at h
    exact ⟨v, u, by rw [h.1, h.2]⟩
set_option maxRecDepth 100000 in
set_option maxHeartbeats 4000000 in
theorem alive_any (W : World) (hT : Tab W) : Calls Tryd.prog 8 #[] W fun e w' => e = .returned (.bool true) ∧ Below W.heap.size W w' := by
  have hf := feed_yes (.to 0) (.slice none 0 0) ⟨#[27, 91, 49, 59, 51, 49, 109, 65]⟩ W hT (IRow.nil _ _) right_0 (by decide)
  rw [alive_fed] at hf
  have HF := hid hf
  clear hf hT
  unfold Pa.cells at HF
  simp only [Pa.to, nilB] at HF
  go_enter Tryd.func8, Tryd.ntmps8
  go_wp2_with fail
  refine HF.out.mono ?_
  rintro e w1 ⟨v, dv, lv, rfl, hv, hdv, hlv, hb⟩
  dsimp only
  obtain ⟨v1, v2, rfl⟩ := rows_two hlv
  obtain ⟨dA, dc, rfl, hd⟩ := hdv
  obtain ⟨g, rfl, hg, hc⟩ := hd (by simp)
  obtain ⟨k1, i1, _⟩ := hc 0 _ rfl
  obtain ⟨k2, _, _⟩ := hc 1 _ rfl
  obtain ⟨a0, a1, a2, a3, a4, a5, a6⟩ := dcells (o := 0 * 7) k1
  obtain ⟨b0, b1, b2, b3, b4, b5, b6⟩ := dcells (o := 1 * 7) k2
  clear hc k1 k2 hd hlv
  simp only [Nat.zero_mul, Nat.one_mul, Nat.zero_add, List.length_cons, List.length_nil, Pa.cells, dPrint] at *
  obtain ⟨A1, c1, rfl, _⟩ := i1
  obtain ⟨A, c, rfl, _⟩ := hv
  simp only [List.length_cons, List.length_nil, Nat.zero_add] at *
  go_wp2
  go_ret
  exact ⟨rfl, hb.alloc hb.size _⟩

theorem dflat_inv : ∀ (l : List (Dn × Value)) (j : Nat) (u : Value), (dflat l)[j]? = some u → ∃ e, l[j / 7]? = some e ∧ (e.1.cells e.2)[j % 7]? = some u
  | [], j, u, h => by simp [dflat] at h
  | x :: l, j, u, h => by
    rw [dflat] at h
    have hx : (x.1.cells x.2).toList.length = 7 := by simp [Dn.cells]
    by_cases hj : j < 7
    · rw [List.getElem?_append_left (by omega)] at h
      refine ⟨x, by rw [show j / 7 = 0 by omega]; rfl, ?_⟩
      rw [show j % 7 = j by omega]
      simpa using h
    · rw [List.getElem?_append_right (by omega), hx] at h
      obtain ⟨e, h1, h2⟩ := dflat_inv l (j - 7) u h
      refine ⟨e, ?_, ?_⟩
      · rw [show j / 7 = (j - 7) / 7 + 1 by omega]
        simpa using h1
      · rw [show j % 7 = (j - 7) % 7 by omega]
        exact h2
theorem append_none_dn (w : World) (base : Nat) (ty : TypeId) (v : Value) (l : List (Dn × Value)) (hown : OwnD w base v l) (c : Nat) : (Builtin.append_ #[26, 26] ty #[v, .slice none 0 c]).run Tryd.prog w = .ok v w := by
  obtain ⟨i0, hi, hz0, hz1, hz2⟩ := info_parts do_info
  have ht := Tryd.underlying26
  rcases hown.2 with ⟨rfl, _⟩ | ⟨g, cap, cur, rfl, _, _, hnc, _⟩
  · simp [Builtin.append_, run_underlying ht, typeInfo, hi, Builtin.lenOf, Builtin.firstCells]
  · simp [Builtin.append_, run_underlying ht, typeInfo, hi, Builtin.lenOf, Builtin.firstCells, hnc, storeCells]
/-- Things that lie elsewhere, appended to a row of the call's own. -/
theorem run_append_dl (w : World) (base : Nat) (v x : Value) (l m : List (Dn × Value)) (hown : OwnD w base v l) (hx : DRow w x m) (ty : TypeId) (hb : l.length + m.length ≤ 1000000) (hbase : base ≤ w.heap.size) :
    ∃ v' w', (Builtin.append_ #[26, 26] ty #[v, x]).run Tryd.prog w = .ok v' w' ∧ OwnD w' base v' (l ++ m) ∧ w.grownBy w' v.ownBlock := by
  obtain ⟨i0, hi, hz0, hz1, hz2⟩ := info_parts do_info
  obtain ⟨A, c, rfl, hl⟩ := hx
  rcases A with _ | ad
  · have hm : m = [] := by
      apply Classical.byContradiction
      intro hne
      obtain ⟨g, h, _⟩ := hl hne
      cases h
    subst hm
    exact ⟨v, w, append_none_dn w base ty v l hown c, by simpa using hown, World.grownBy.refl w _⟩
  · have hcells : ∀ j u, (dflat m)[j]? = some u → w.cell? (ad.add j) = some u := by
      intro j u hu
      obtain ⟨e, h1, h2⟩ := dflat_inv m j u hu
      obtain ⟨g, h, _, hc⟩ := hl (by intro h; rw [h] at h1; simp at h1)
      cases h
      have hadd : (⟨g, 0, none⟩ : Addr).add j = ⟨g, j, none⟩ := by unfold Addr.add; split <;> simp_all
      rw [hadd]
      have := (hc (j / 7) e h1).1 (j % 7) u h2
      rwa [show j / 7 * 7 + j % 7 = j by omega] at this
    have hone : ∀ u ∈ dflat m, u.oneCell' = true := by
      intro u hu
      obtain ⟨j, hj⟩ := List.mem_iff_getElem?.1 hu
      obtain ⟨⟨d, dv⟩, h1, h2⟩ := dflat_inv m j u hj
      obtain ⟨g, _, _, hc⟩ := hl (by intro h; rw [h] at h1; simp at h1)
      obtain ⟨A', c', e', _⟩ := (hc (j / 7) _ h1).2.1
      simp only at e'
      subst e'
      have hm : u ∈ (Dn.cells d (.slice A' d.params.length c')).toList := by
        rw [← Array.getElem?_toList] at h2
        exact List.mem_of_getElem? h2
      simp only [Dn.cells, List.mem_cons, List.mem_nil_iff, or_false] at hm
      rcases hm with rfl | rfl | rfl | rfl | rfl | rfl | rfl <;> rfl
    obtain ⟨v', w', hrun, h2, h3, _⟩ := run_append_own (P := Tryd.prog) w base 26 ty 37 i0 _ 7 80 Tryd.underlying26 hi hz0 hz1 hz2 rfl (by decide) v l.length (dflat l) hown ad m.length c (dflat m) (dflat_length m) hcells hone (by unfold maxLen; omega) (by omega) hbase
    refine ⟨v', w', hrun, ?_, h3⟩
    unfold OwnD
    rw [List.length_append, dflat_append]
    exact h2
theorem wpList_append_dl {ops : Array Oper} {rest : List Oper} {o : Oper} {a : Act} {w : World} {Q : Exit → Act → World → Prop} (hw : Region.wanted o (yielded ops a.tmps) = true) (s x : Operand)
    (ho : o.op = .call { callee := .builtin .append, args := #[s, x], argTypes := #[26, 26] }) (base : Nat) (v xv : Value) (l m : List (Dn × Value))
    (hs : a.eval s = v) (hown : OwnD w base v l) (hxe : a.eval x = xv) (hx : DRow w xv m) (hb : l.length + m.length ≤ 1000000) (hbase : base ≤ w.heap.size)
    (h : ∀ v' w', OwnD w' base v' (l ++ m) → w.grownBy w' v.ownBlock → wpList Tryd.prog ops Q rest (a.put o.dst v') w') : wpList Tryd.prog ops Q (o :: rest) a w := by
  obtain ⟨v', w', hrun, h2, h3⟩ := run_append_dl w base v xv l m hown hx o.type hb hbase
  simp only [wpList, hw, if_true]
  left
  unfold Oper.wp
  simp [execOp, ho, resolve, invoke, builtin, hs, hxe, hrun, Result.andThen]
  exact h v' w' h2 h3
theorem DRow.below {W W' : World} {v : Value} {l : List (Dn × Value)} (h : DRow W v l) (hb : Below W.heap.size W W') : DRow W' v l := by
  obtain ⟨A, c, rfl, hl⟩ := h
  refine ⟨A, c, rfl, fun hn => ?_⟩
  obtain ⟨g, hA, hg, hc⟩ := hl hn
  refine ⟨g, hA, Nat.lt_of_lt_of_le hg hb.size, fun j e he => ?_⟩
  obtain ⟨h1, h2, h3⟩ := hc j e he
  exact ⟨fun i u hu => (hb.cell (p := ⟨g, j * 7 + i, none⟩) hg).trans (h1 i u hu), h2.below hb, h3⟩
end Go.Proofs.YtpcpdbofbbpglaaDoor
