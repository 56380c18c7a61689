/- The law WireBack holds for every row of frames and every row of cuts: frames that are written one behind the other are read as they were, however their bytes are cut. No condition. -/
import Derived.Test.YthkgflghiooboaaPost
import Derived.Test.YthkgflghiooboaaWireP
namespace Go.Proofs.Ythkgflghiooboaa.wireBack
open Go.ChangeShapes Go.WideShapes Go.ChangeAt Go.RowKit Go.Joins Go.WideMaps Go.WideElems
open Go.Deep (choose_lt)

instance : Inhabited Fr := ⟨⟨0, ⟨#[]⟩⟩⟩

theorem contract (H : Type) (enc : TypeId × Value → H) (W : World) (base : Nat) (args : Array Value) (ds gs : List (DataW H)) (before : List MemPlace)
    (hval : ∀ (j : Nat) t v, Try.f5.params[j]? = some t → args[j]? = some v → Value.okWide Try.prog W .any base t v)
    (hW : DataW.Whole enc Try.prog Try.f5.params.toList Rows.wireBackSpec.vars false W args.toList ds gs before) :
    Calls Try.prog 5 args W fun e W' => ∃ v, e = .returned v ∧ Rows.wireBackSpec.post enc Try.prog Try.f5 false true false false W args v W' := by
  have hW' := hW
  obtain ⟨p, q, hA0, hV, rfl, hfz, hnd⟩ := hW
  have hA : DataW.TrodAll enc Try.prog W 0 (fun _ => true) true Try.f5.params.toList args.toList ds p := hA0
  rw [Try.params5] at hA hval
  obtain ⟨v0, v1, d0, d1, p0, p1, rfl, rfl, rfl, h0, h1⟩ := trodAll_two hA
  obtain ⟨rfl, rfl⟩ := trodVars_none hV
  obtain ⟨A, n, c1, rfl⟩ := okWide_slice Try.underlying30 (hval 0 30 v0 rfl rfl)
  obtain ⟨B, m, c2, rfl⟩ := okWide_slice Try.underlying43 (hval 1 43 v1 rfl rfl)
  have h0k := h0
  have h1k := h1
  obtain ⟨fuel0, hf0⟩ := h0
  obtain ⟨fuel1, hf1⟩ := h1
  clear hA0
  simp only [List.append_nil] at hW'
  have hlt0 : ∀ x ∈ p0, x.block < W.heap.size := fun x hx => hW'.lt x (List.mem_append_left _ hx)
  have hlt1 : ∀ x ∈ p1, x.block < W.heap.size := fun x hx => hW'.lt x (List.mem_append_right _ hx)
  have harg0 : ∀ W' : World, Below W.heap.size W W' → DataW.Trod enc Try.prog W' 0 (fun b => decide (b < W.heap.size)) true 30 (.slice A n c1) d0 p0 :=
    fun W' hn => Below.trod laidOut (by kernel_rfl) (of_decide_eq_true (by kernel_rfl)) h0k hn hlt0
  have harg1 : ∀ W' : World, Below W.heap.size W W' → DataW.Trod enc Try.prog W' 0 (fun b => decide (b < W.heap.size)) true 43 (.slice B m c2) d1 p1 :=
    fun W' hn => Below.trod laidOut (by kernel_rfl) (of_decide_eq_true (by kernel_rfl)) h1k hn hlt1
  -- the frames
  have hfr : ∃ l : List Fr, l.length = n ∧ n ≤ maxLen ∧ ARow W A l := by
    rcases open_slice_fields Try.underlying30 Try.underlying23 (by kernel_rfl) (by kernel_rfl) hf0 with hcs | ⟨a, len, cap, hcs, hl, hm, hi⟩
    · simp [Value.cells] at hcs
      obtain ⟨rfl, rfl, rfl⟩ := hcs
      exact ⟨[], rfl, Nat.zero_le _, fun k h => absurd h (by simp)⟩
    · simp [Value.cells] at hcs
      obtain ⟨rfl, rfl, rfl⟩ := hcs
      obtain ⟨F, hF⟩ := choose_lt (α := Fr) (p := fun i f => W.cell? (a.add (i * 2)) = some (.int .i64 f.tag) ∧ W.cell? (a.add (i * 2 + 1)) = some (.string f.text) ∧ f.text.size ≤ maxLen) (fun i hil => by
        obtain ⟨k, hk⟩ := hi i hil
        obtain ⟨x0, y0, g0, t0⟩ := hk 0 _ rfl
        obtain ⟨x1, y1, g1, t1⟩ := hk 1 _ rfl
        obtain ⟨tag, e0, rfl, wt⟩ := DataW.trod_int Try.underlying3 t0
        obtain ⟨tx, e1, rfl, hs⟩ := DataW.trod_string Try.underlying9 t1
        simp at e0 e1
        subst e0 e1
        exact ⟨⟨tag, tx⟩, g0, g1, hs⟩)
      refine ⟨(List.range n).map F, by simp, by omega, fun k hk => ?_⟩
      have hk' : k < n := by simpa using hk
      obtain ⟨f1, f2, f3⟩ := hF k hk'
      have hb := block_of_cell f1
      rw [block_add] at hb
      refine ⟨a, rfl, hb, ?_, ?_, ?_⟩
      · simpa using f1
      · simpa using f2
      · simpa using f3
  obtain ⟨l, rfl, hlm, hAR⟩ := hfr
  -- the cuts
  have hct : m ≤ maxLen ∧ AInts W B m := by
    rcases Go.ChangeShapes.open_ints Try.underlying43 Try.underlying3 (by kernel_rfl) hf1 with ⟨hcs, _⟩ | ⟨a, len, cap, zs, hcs, hb, hl, hm, hzl, hx, hc, hw⟩
    · simp [Value.cells] at hcs
      obtain ⟨rfl, rfl, rfl⟩ := hcs
      exact ⟨Nat.zero_le _, fun k h => absurd h (by omega)⟩
    · simp [Value.cells] at hcs
      obtain ⟨rfl, rfl, rfl⟩ := hcs
      refine ⟨by omega, fun k hk => ?_⟩
      have g := hc k (by rw [hzl]; split <;> omega)
      have hb := block_of_cell g
      rw [block_add] at hb
      exact ⟨a, _, rfl, hb, g⟩
  have walk := back_any A B c1 c2 m l W hlm hAR hct.1 hct.2
  refine walk.mono fun e W' ⟨he, hg⟩ => ?_
  subst he
  exact ⟨_, rfl, post_of_same_args (pa := p0 ++ p1) (pv := []) hW' (fun _ _ _ => trodAll_cons_mk (shut_bool Try.underlying4 _) trodAll_mk0)
    (trodAll_mk2 (harg0 _ hg) (harg1 _ hg)) rfl hg⟩

set_option maxRecDepth 100000 in
theorem lifted (os : Os) (started : os.Started) (H : Type) (enc : TypeId × Value → H) :
    ReturnsInHanded {} Try.checked os 5 .any (Rows.wireBackSpec.pre6 enc Try.prog Try.f5 Rows.wireBackRow.domain false) (Rows.wireBackSpec.post enc Try.prog Try.f5 false true false false) := by
  refine returnsInHanded_of_change (C := Try.checked) own started (by kernel_rfl) Try.func5
    (ChangeSpec.witness6 (enc := enc) (C := Try.checked) false ⟨#[], #[.slice none 0 0, .slice none 0 0], []⟩ 8 (by kernel_rfl) (by kernel_rfl) (by kernel_rfl) (by kernel_rfl)) ?_
  intro W base args ds gs before hval hW _ _
  exact contract H enc W base args ds gs before hval hW

theorem said : Rows.WireBackSaid :=
  OpenClaim.holds_of_wide 5 Try.f5 rfl rfl rfl rfl rfl rfl rfl ⟨rfl, rfl, rfl, rfl, rfl⟩ rfl rfl rfl rfl rfl (by kernel_rfl) Try.func5 (by kernel_rfl)
    (of_decide_eq_true (by kernel_rfl)) (by unfold Func.isWrapper; first | (rw [if_pos (by decide +kernel)]; kernel_rfl) | (rw [if_neg (by decide +kernel)]; exact ⟨rfl, rfl⟩))
    (fun os started H enc _ => lifted os started H enc)
end Go.Proofs.Ythkgflghiooboaa.wireBack
