/- The law CellMakes holds for every cell, every number and every look: which cells may be, any letter's cell, any cell with a mark more, and a blank one, is as the document says, or refused. Conditions: the package's tables of letters and of widths hold what their texts lay (the card ties them). -/
import Derived.Test.YtlcahkbbefcjnaaDoorCards
import Derived.Test.YtlcahkbbefcjnaaDoorTie
import Derived.Test.YtlcahkbbefcjnaaDoorCellYc
import Derived.Test.YtlcahkbbefcjnaaDoorPost
import Derived.Test.YtlcahkbbefcjnaaDoorUtfTabW
import Derived.Stop.LaidErr
namespace Go.Proofs.YtlcahkbbefcjnaaDoor.cellMakes
open Go.ChangeShapes Go.WideShapes Go.ChangeAt Go.RowKit Go.Joins Go.Deep Go.WideMaps Go.WideElems
open Go.ChangeMaps (open_string shut_string)

theorem arr5 (T : Array Value) (h : T.size = 5) : ∃ a b c d e : Value, T = #[a, b, c, d, e] := by
  obtain ⟨l⟩ := T
  match l, h with
  | [a, b, c, d, e], _ => exact ⟨a, b, c, d, e, rfl⟩
theorem cStr : Tryd.prog.cellsOf 9 = 1 := by kernel_rfl
theorem cInt : Tryd.prog.cellsOf 3 = 1 := by kernel_rfl
theorem cAttr : Tryd.prog.cellsOf 30 = 3 := by kernel_rfl
theorem cCell : Tryd.prog.cellsOf 32 = 5 := by kernel_rfl

theorem contract (H : Type) (enc : TypeId × Value → H) (W : World) (base : Nat) (args : Array Value) (ds gs : List (DataW H)) (before : List MemPlace)
    (hval : ∀ (j : Nat) t v, Tryd.f4.params[j]? = some t → args[j]? = some v → Value.okWide Tryd.prog W .any base t v)
    (hW : DataW.Whole enc Tryd.prog Tryd.f4.params.toList Rows.cellMakesSpec.vars false W args.toList ds gs before) (hL : laidMetH Tryd.prog Rows.cellMakesRow.laid W) :
    Calls Tryd.prog 4 args W fun e W' => ∃ v, e = .returned v ∧ Rows.cellMakesSpec.post enc Tryd.prog Tryd.f4 false true false false W args v W' := by
  have hW' := hW
  obtain ⟨p, q, hA0, hV, rfl, hfz, hnd⟩ := hW
  have hA : DataW.TrodAll enc Tryd.prog W 0 (fun _ => true) true Tryd.f4.params.toList args.toList ds p := hA0
  rw [Tryd.params4] at hA hval
  obtain ⟨v0, vs0, d0, ds0, p0, q0, hargs, rfl, rfl, h0, r0⟩ := trodAll_cons hA
  obtain ⟨v1, vs1, d1, ds1, p1, q1, rfl, rfl, rfl, h1, r1⟩ := trodAll_cons r0
  obtain ⟨v2, vs2, d2, ds2, p2, q2, rfl, rfl, rfl, h2, r2⟩ := trodAll_cons r1
  obtain ⟨rfl, rfl, rfl⟩ := trodAll_nil r2
  obtain rfl : args = #[v0, v1, v2] := by cases args; simp_all
  obtain ⟨rfl, rfl⟩ := trodVars_none hV
  have h0k := h0
  have h1k := h1
  have h2k := h2
  obtain ⟨cs, rfl, hsz⟩ := okWide_struct Tryd.underlying32 (hval 0 32 v0 rfl rfl)
  obtain ⟨k0, k1, k2, k3, k4, rfl⟩ := arr5 cs (hsz.trans cCell)
  obtain ⟨fuel, hf⟩ := h0
  obtain ⟨y0, y1, y2, m, _, _, t0, t1, t2⟩ := trod_struct3 Tryd.underlying32 hf
  have t0' : DataW.trod enc Tryd.prog W 0 (fun _ => true) true m 9 [k0] = some y0 := by simpa [Value.cells, cStr] using t0
  have t1' : DataW.trod enc Tryd.prog W 0 (fun _ => true) true m 3 [k1] = some y1 := by simpa [Value.cells, cInt] using t1
  have t2' : DataW.trod enc Tryd.prog W 0 (fun _ => true) true m 30 [k2, k3, k4] = some y2 := by simpa [Value.cells, cAttr] using t2
  obtain ⟨tx, e0, _, hs⟩ := DataW.trod_string Tryd.underlying9 t0'
  obtain ⟨wd, e1, _, _⟩ := DataW.trod_int Tryd.underlying3 t1'
  obtain ⟨z0, z1, z2, m2, _, _, s0, s1, s2⟩ := trod_struct3 Tryd.underlying30 t2'
  have s0' : DataW.trod enc Tryd.prog W 0 (fun _ => true) true m2 3 [k2] = some z0 := by simpa [Value.cells, cInt] using s0
  have s1' : DataW.trod enc Tryd.prog W 0 (fun _ => true) true m2 3 [k3] = some z1 := by simpa [Value.cells, cInt] using s1
  have s2' : DataW.trod enc Tryd.prog W 0 (fun _ => true) true m2 3 [k4] = some z2 := by simpa [Value.cells, cInt] using s2
  obtain ⟨fg, e2, _, _⟩ := DataW.trod_int Tryd.underlying3 s0'
  obtain ⟨bg, e3, _, _⟩ := DataW.trod_int Tryd.underlying3 s1'
  obtain ⟨fl, e4, _, _⟩ := DataW.trod_int Tryd.underlying3 s2'
  simp at e0 e1 e2 e3 e4
  subst e0 e1 e2 e3 e4
  obtain ⟨r, rfl, rfl, rfl, wr⟩ := open_int Tryd.underlying21 (hval 1 21 v1 rfl rfl) h1
  obtain ⟨a0, a1, a2, x0, x1, x2, j, rfl, _, _, hy0, hy1, hy2⟩ := open_agg3 Tryd.underlying30 (by kernel_rfl) (by kernel_rfl) (hval 2 30 v2 rfl rfl) h2
  obtain ⟨ag, g0, _, _⟩ := DataW.trod_int Tryd.underlying3 hy0
  obtain ⟨ab, g1, _, _⟩ := DataW.trod_int Tryd.underlying3 hy1
  obtain ⟨al, g2, _, _⟩ := DataW.trod_int Tryd.underlying3 hy2
  simp at g0 g1 g2
  subst g0 g1 g2
  have hlt0 : ∀ x ∈ p0, x.block < W.heap.size := fun x hx => hW'.lt x (by simp [hx])
  have hlt2 : ∀ x ∈ p2, x.block < W.heap.size := fun x hx => hW'.lt x (by simp [hx])
  have harg0 : ∀ W' : World, Below W.heap.size W W' → DataW.Trod enc Tryd.prog W' 0 (fun b => decide (b < W.heap.size)) true 32 (.agg #[.string tx, .int .i64 wd, .int .i64 fg, .int .i64 bg, .int .i64 fl]) d0 p0 :=
    fun W' hn => Below.trod laidOut (by kernel_rfl) (of_decide_eq_true (by kernel_rfl)) h0k hn hlt0
  have harg1 : ∀ W' : World, Below W.heap.size W W' → DataW.Trod enc Tryd.prog W' 0 (fun b => decide (b < W.heap.size)) true 21 (.int .i32 r) (.lit (.int .i32 r)) [] :=
    fun W' hn => Below.trod laidOut (by kernel_rfl) (of_decide_eq_true (by kernel_rfl)) h1k hn (fun x hx => by simp at hx)
  have harg2 : ∀ W' : World, Below W.heap.size W W' → DataW.Trod enc Tryd.prog W' 0 (fun b => decide (b < W.heap.size)) true 30 (.agg #[.int .i64 ag, .int .i64 ab, .int .i64 al]) d2 p2 :=
    fun W' hn => Below.trod laidOut (by kernel_rfl) (of_decide_eq_true (by kernel_rfl)) h2k hn hlt2
  clear hA0
  have walk := cmakes_any ⟨tx, wd, fg, bg, fl⟩ r ⟨ag, ab, al⟩ W hs (tab_of (rest := [("backseat/utf.widths", Rows.laid_backseat_utf_widths)]) hL) (tabW_of (rest := []) (laidMet.tail (show laidMet Tryd.prog [("backseat/utf.letters", Rows.laid_backseat_utf_letters), ("backseat/utf.widths", Rows.laid_backseat_utf_widths)] W from hL)))
  refine walk.mono fun e W' ⟨he, hg⟩ => ?_
  subst he
  exact ⟨_, rfl, post_of_same_args (pv := []) hW' (fun _ _ _ => trodAll_cons_mk (shut_bool Tryd.underlying4 _) trodAll_mk0) (trodAll_cons_mk (harg0 _ hg) (trodAll_cons_mk (harg1 _ hg) (trodAll_cons_mk (harg2 _ hg) trodAll_mk0))) rfl hg⟩

def putCells (cs : Array Value) : Obj → Obj
  | .cells _ t frozen => .cells cs t frozen
  | o => o
noncomputable def laidWorld (os : Os) : World :=
  { World.holding Tryd.prog os ⟨#[], #[], []⟩ with heap := ((World.holding Tryd.prog os ⟨#[], #[], []⟩).heap.modify 1 (putCells lett)).modify 0 (putCells wids) }
theorem laid_met (os : Os) : laidMet Tryd.prog Rows.cellMakesRow.laid ((laidWorld os).forCall (fun _ _ => 0) ⟨#[], #[.agg #[.string ⟨#[]⟩, .int .i64 0, .int .i64 0, .int .i64 0, .int .i64 0], .int .i32 0, .agg #[.int .i64 0, .int .i64 0, .int .i64 0]], []⟩).memory :=
  laidMet_of_run' 8 (by kernel_rfl) (by kernel_rfl)
theorem reads (os : Os) {H : Type} (enc : TypeId × Value → H) : ∃ places, DataW.whole enc Tryd.prog ((laidWorld os).forCall (fun _ _ => 0) ⟨#[], #[.agg #[.string ⟨#[]⟩, .int .i64 0, .int .i64 0, .int .i64 0, .int .i64 0], .int .i32 0, .agg #[.int .i64 0, .int .i64 0, .int .i64 0]], []⟩).memory Tryd.f4.params.toList Rows.cellMakesSpec.vars false #[Value.agg #[.string ⟨#[]⟩, .int .i64 0, .int .i64 0, .int .i64 0, .int .i64 0], .int .i32 0, .agg #[.int .i64 0, .int .i64 0, .int .i64 0]].toList 8 = some ([.agg [.lit (.string []), .lit (.int .i64 0), .agg [.lit (.int .i64 0), .lit (.int .i64 0), .lit (.int .i64 0)]], .lit (.int .i32 0), .agg [.lit (.int .i64 0), .lit (.int .i64 0), .lit (.int .i64 0)]], [], places) :=
  ⟨[], by kernel_rfl⟩

set_option maxRecDepth 100000 in
theorem lifted (os : Os) (started : os.Started) (H : Type) (enc : TypeId × Value → H) (F : Stop.Interp) :
    ReturnsInHanded {} Tryd.checked os 4 .any ((OpenSpec.ofChange Rows.cellMakesSpec).preRow enc Tryd.prog Tryd.f4 Rows.cellMakesRow.domain false Rows.cellMakesRow.laid) (((OpenSpec.ofChange Rows.cellMakesSpec).at F).post enc Tryd.prog Tryd.f4 false true false false) := by
  obtain ⟨places, hx⟩ := reads os enc
  refine returnsInHanded_of_row (C := Tryd.checked) (s := OpenSpec.ofChange Rows.cellMakesSpec) own started (by kernel_rfl) Tryd.func4
    (witness_row_at (enc := enc) (C := Tryd.checked) false (laidWorld os) #[.agg #[.string ⟨#[]⟩, .int .i64 0, .int .i64 0, .int .i64 0, .int .i64 0], .int .i32 0, .agg #[.int .i64 0, .int .i64 0, .int .i64 0]] rfl (by kernel_rfl) (by kernel_rfl) (by kernel_rfl)
      (OpenSpec.preRow_of_cond 8 hx (by kernel_rfl) (fun k hk => by cases hk) (by kernel_rfl) (laid_met os))) ?_
  intro W base args ds gs before hval hW _ _ _ hL _ _
  exact contract H enc W base args ds gs before hval hW hL

theorem said : Rows.CellMakesSaid :=
  OpenClaim.holds_of_cond 4 Tryd.f4 rfl rfl rfl rfl rfl rfl rfl ⟨rfl, rfl, rfl, rfl, rfl⟩ rfl rfl rfl rfl rfl (by kernel_rfl) Tryd.func4 (by kernel_rfl)
    (of_decide_eq_true (by kernel_rfl)) (by unfold Func.isWrapper; first | (rw [if_pos (by decide +kernel)]; kernel_rfl) | (rw [if_neg (by decide +kernel)]; exact ⟨rfl, rfl⟩))
    (fun os started H enc _ F => by rw [OpenClaim.pre_eq_preRow]; exact lifted os started H enc F)

theorem plain (f : FuncId) (fn : Func) (hf : Tryd.pinned.checked.prog.funcNamed "backseat/backseatlaw04.CellMakes" = some f) (hfn : Tryd.pinned.checked.prog.funcs[f]? = some fn) :
    false = Tryd.pinned.checked.prog.looks [] ∧ ∀ (j : Nat) t, fn.params[j]? = some t → Tryd.pinned.checked.prog.wantsStandIn t = false := by
  obtain rfl : f = 4 := Option.some.inj ((show Tryd.prog.funcNamed "backseat/backseatlaw04.CellMakes" = some 4 by kernel_rfl).symm.trans hf) |>.symm
  obtain rfl : fn = Tryd.f4 := (Option.some.inj (Tryd.func4.symm.trans hfn)).symm
  refine ⟨by kernel_rfl, fun j t ht => ?_⟩
  rw [Tryd.params4] at ht
  have ht' := Array.mem_of_getElem? ht
  simp only [List.mem_toArray, List.mem_cons, List.not_mem_nil, or_false] at ht'
  have h1 : Tryd.prog.wantsStandIn 21 = false := by kernel_rfl
  have h2 : Tryd.prog.wantsStandIn 30 = false := by kernel_rfl
  have h3 : Tryd.prog.wantsStandIn 32 = false := by kernel_rfl
  rcases ht' with rfl | rfl | rfl
  · exact h3
  · exact h1
  · exact h2

theorem card : Rows.CellMakesCardSaid :=
  Claim7.holds_tied_plain_at .later [] _ _ _ _ said (fun _ h => by cases h) (by kernel_rfl) (fun _ h => by cases h) cellMakes_row_tie rfl ⟨rfl, rfl⟩ (by kernel_rfl) rfl plain (by kernel_rfl)
end Go.Proofs.YtlcahkbbefcjnaaDoor.cellMakes
