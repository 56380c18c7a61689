/- Layer 8, the package: folded. Made by wip/gen/flowT.py. -/
import Derived.Test.YteebbmmgbjpihaaDoorFlowDQ
import Derived.Test.YteebbmmgbjpihaaDoorHeldRQ
namespace Go.Proofs.YteebbmmgbjpihaaDoor
open Go.RowKit Go.Shelf
attribute [local go_sem] Oper.semAt_some

theorem ownsRow_putObj8 {W : World} {base size n : Nat} {t : TypeId} {v : Value} {xs : List Value} {D : Nat} {o : Obj} (h : W.ownsRow base t size v n xs) (o' : Obj) (hD : W.heap[D]? = some o) (ho : o.isCells = false) : (W.putObj D o').ownsRow base t size v n xs :=
  World.ownsRow.kept h (grownBy_putObj' W D o') (by
    rcases h.2 with ⟨rfl, _⟩ | ⟨g, cap, cur, rfl, _, hgb, _⟩
    · exact .inl rfl
    · refine .inr fun e => ?_
      simp only [Value.ownBlock, Option.some.injEq] at e
      subst e
      rw [hgb] at hD
      cases hD
      cases ho)
theorem csl_not_row {W : World} {base : Nat} {v : Value} {l : List Ce} {D : Nat} {o : Obj} (h : CSl W base v l) (hD : W.heap[D]? = some o) (ho : o.isCells = false) : v.ownBlock = none ∨ v.ownBlock ≠ some D := by
  rcases h with ⟨_, rfl⟩ | ⟨g, cap, rfl, _, cur, hgb, _⟩
  · exact .inl rfl
  · refine .inr fun e => ?_
    simp only [Value.ownBlock, Option.some.injEq] at e
    subst e
    have hgb' : W.heap[g]? = some (Obj.cells cur 44 (0, 0)) := hgb
    rw [hgb'] at hD
    cases hD
    cases ho
def FoPost (W : World) (tgt : List Ln) (e : Ending) (w' : World) : Prop :=
  ∃ v lv, e = .returned v ∧ lv.map Prod.fst = tgt ∧ OwnL w' W.heap.size v lv ∧ (∀ x ∈ lv, CSl w' W.heap.size x.2 x.1.cs) ∧ Below W.heap.size W w'
def FoB (w : World) (cols : Nat) (lv nv : Value) (W : World) : Prop :=
  Boxed W w.heap.size 3 (.int .i64 (cols : Int)) ∧ Boxed W (w.heap.size + 1) 22 lv ∧ Boxed W (w.heap.size + 1 + 1 + 1) 37 nv
theorem wp_append_ln {o : Oper} {a : Act} {w : World} {K : Act → World → Prop} {Q : Exit → Act → World → Prop} (s x : Operand)
    (ho : o.op = .call { callee := .builtin .append, args := #[s, x], argTypes := #[22, 22] }) (base : Nat) (v xv : Value) (l m : List (Ln × Value))
    (hs : a.eval s = v) (hown : OwnL w base v l) (hxe : a.eval x = xv) (hx : LR w xv m) (hm : CesOf w m) (hb : l.length + m.length ≤ 1000000) (hbase : base ≤ w.heap.size)
    (h : ∀ v' w', OwnL w' base v' (l ++ m) → w.grownBy w' v.ownBlock → K (a.put o.dst v') w') : Oper.wp Tryd.prog o a w K Q := by
  obtain ⟨v', w', hrun, h2, h3⟩ := run_append_ln w base v xv l m hown hx hm o.type hb hbase
  unfold Oper.wp
  simp [execOp, ho, resolve, invoke, builtin, hs, hxe, hrun, Result.andThen]
  exact h v' w' h2 h3
section
variable {w W : World} {cols : Nat} {lv : Value} {lines : List (Ln × Value)} {nv : Value} {now : List Ce}
theorem FdS.box4 (h : FdS w W cols lv lines nv now) {w4 : World} (hg : W.drew.grownBy w4 nv.ownBlock) : FoB w cols lv nv w4 := by
  have hnb : ∀ {B : Nat} {t : TypeId} {v : Value}, Boxed W B t v → t ≠ 44 → some B ≠ nv.ownBlock := fun hb ht => hb.not_row ht h.oc
  have k : ∀ {B : Nat} {t : TypeId} {v : Value}, Boxed W B t v → t ≠ 44 → Boxed w4 B t v := fun {B t v} hb ht => by
    have hb' : Boxed W.drew B t v := hb
    exact hb'.kept hg (hnb hb ht)
  exact ⟨k h.x0 (by decide), k h.x1 (by decide), k h.x3 (by decide)⟩
theorem FdS.line4 (h : FdS w W cols lv lines nv now) {w4 : World} {v4 : Value} {x : Ln} (hg : W.drew.grownBy w4 nv.ownBlock) (_hc : CSl w4 w.heap.size v4 x.cs) : OwnL (w4.alloc (.cells #[v4, .bool x.soft] 39)) w.heap.size lv lines := by
  have h := h.below (W' := W.drew) ((Below.refl _ W).drew)
  have hnl : lv.ownBlock = none ∨ lv.ownBlock ≠ nv.ownBlock := by
    rcases h.ol.2 with ⟨rfl, _⟩ | ⟨g, cap, cur, rfl, _, hgb, _⟩
    · exact .inl rfl
    · refine .inr fun e => ?_
      rcases h.oc.2 with ⟨rfl, _⟩ | ⟨g', cap', cur', rfl, _, hgb', _⟩
      · simp [Value.ownBlock] at e
      · simp only [Value.ownBlock, Option.some.injEq] at e
        subst e
        rw [hgb] at hgb'
        cases hgb'
  have ol4 : OwnL w4 w.heap.size lv lines := World.ownsRow.kept h.ol hg hnl
  exact ol4.kept (below_alloc w4 _)
end
theorem fillP_length {cols : Nat} {l : List Ce} (h : l.length ≤ cols) : (fillP cols l).length = cols := by
  unfold fillP
  rw [List.length_append, List.length_replicate]
  omega
theorem wpListIn_append_ce_at {F : Fence} {n : Nat} {ops : Array Oper} {rest : List Oper} {o : Oper} {a : Act} {w : World} {Q : Exit → Act → World → Prop} (hg : o.guard = none) (s x : Operand)
    (ho : o.op = .call { callee := .builtin .append, args := #[s, x], argTypes := #[37, 37] }) (base : Nat) (v xv : Value) (l m : List Ce)
    (hs : a.eval s = v) (hown : OwnC w base v l) (hxe : a.eval x = xv) (hx : CeRow w xv m) (hne : m ≠ []) (hb : l.length + m.length ≤ 1000000) (hbase : base ≤ w.heap.size)
    (h : ∀ v' w', OwnC w' base v' (l ++ m) → w.grownBy w' v.ownBlock → (v'.ownBlock = v.ownBlock ∨ v'.ownBlock = some w.heap.size) → wpListIn F n Tryd.prog ops Q rest (a.put o.dst v') w') : wpListIn F n Tryd.prog ops Q (o :: rest) a w := by
  refine wpListIn_plain hg fun K hK' => ?_
  obtain ⟨v', w', hrun, r1, r2, r3⟩ := run_append_ce_at w base v xv l m hown hx hne o.type hb hbase
  unfold Oper.wpIn
  refine ⟨?_, ?_⟩
  · simp [Oper.about, ho, resolve, Target.leads, Sem.run_pure]
  · rw [Oper.semAt_plain F _ _ (by rw [ho]; intro c hc'; cases hc')]
    simp [execOp, ho, resolve, invoke, builtin, hs, hxe, hrun, Result.andThen]
    exact hK' _ _ (h v' w' r1 r2 r3)
theorem ownFrom_up {β : Type} {B B' : Nat} {I : β → World → Prop} (hB : B ≤ B') (h : OwnFrom B I) : OwnFrom B' I := fun s X Y row hs hg hr => h s X Y row hs hg fun r e => ⟨Nat.le_trans hB (hr r e).1, (hr r e).2⟩
/-- What has come of these letters. -/
def segsOf {w0 : World} (pre : List (Sg w0)) : List (List Ce) := pre.map (·.val.1)
theorem segsOf_snoc {w0 : World} (pre : List (Sg w0)) (x : Sg w0) : segsOf (pre ++ [x]) = segsOf pre ++ [x.val.1] := by unfold segsOf; rw [List.map_append]; rfl
theorem segsOf_len {w0 : World} (pre : List (Sg w0)) : (segsOf pre).length = pre.length := by unfold segsOf; rw [List.length_map]

end Go.Proofs.YteebbmmgbjpihaaDoor
