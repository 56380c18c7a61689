/- Layer 8, the package: what holds while a row is folded. -/
/- Layer 8, the package: folded. Made by wip/gen/flowT.py. -/
import Derived.Test.YteebbmmgbjpihaaDoorFlowEQ
import Derived.Test.YteebbmmgbjpihaaDoorGridRbQ
import Derived.Test.YteebbmmgbjpihaaDoorGridUsQ
import Derived.Test.YteebbmmgbjpihaaDoorHeldRQ
namespace Go.Proofs.YteebbmmgbjpihaaDoor
open Go.RowKit Go.Shelf

theorem CSl.grown_ne {W W' : World} {base : Nat} {v : Value} {l : List Ce} {row : Option Nat} (h : CSl W base v l) (hg : W.grownBy W' row) (hne : v.ownBlock = none ∨ v.ownBlock ≠ row) : CSl W' base v l := by
  rcases h with h | ⟨g, cap, rfl, h1, cur, hb, h2⟩
  · exact .inl h
  · refine .inr ⟨g, cap, rfl, h1, cur, hb.grown hg ?_, h2⟩
    rcases hne with hne | hne
    · simp [Value.ownBlock] at hne
    · exact hne
theorem CSl.lt {W : World} {base : Nat} {v : Value} {l : List Ce} (h : CSl W base v l) : ∀ q, v.ownBlock = Option.some q → q < W.heap.size := fun q hq => by
  rcases h with ⟨_, rfl⟩ | ⟨g, cap, rfl, h1, cur, hb, h2⟩
  · simp [Value.ownBlock] at hq
  · simp only [Value.ownBlock] at hq
    cases hq
    exact hb.lt
def lastB (v : Value) (q : Nat) : Prop := v.ownBlock = none ∨ v.ownBlock ≠ some q
/-- A row's lines so far, and the one under way: each in a box. -/
structure FdS (w W : World) (cols : Nat) (lv : Value) (lines : List (Ln × Value)) (nv : Value) (now : List Ce) : Prop where
  x0 : Boxed W w.heap.size 3 (.int .i64 (cols : Int))
  x1 : Boxed W (w.heap.size + 1) 22 lv
  x3 : Boxed W (w.heap.size + 1 + 1 + 1) 37 nv
  ol : OwnL W w.heap.size lv lines
  cl : ∀ e ∈ lines, CSl W w.heap.size e.2 e.1.cs ∧ (e.2.ownBlock = none ∨ e.2.ownBlock ≠ nv.ownBlock)
  oc : OwnC W w.heap.size nv now
  hb : Below w.heap.size w W
section
variable {w W : World} {cols : Nat} {lv : Value} {lines : List (Ln × Value)} {nv : Value} {now : List Ce}
theorem FdS.grown (h : FdS w W cols lv lines nv now) {W' : World} {row : Option Nat} (hg : W.grownBy W' row) (hr : ∀ r, row = some r → w.heap.size ≤ r ∧ ∃ o : Obj, W.heap[r]? = some o ∧ o.isCells = false) : FdS w W' cols lv lines nv now := by
  have hbox : ∀ {B : Nat} {t : TypeId} {v : Value}, Boxed W B t v → some B ≠ row := fun {B t v} hb e => by
    obtain ⟨_, o, ho, hc⟩ := hr B e.symm
    have hb' : W.heap[B]? = some (.cells #[v] t (0, 0)) := hb
    rw [hb'] at ho
    cases ho
    cases hc
  have hrow : ∀ {base size n : Nat} {t : TypeId} {v : Value} {xs : List Value}, W.ownsRow base t size v n xs → v.ownBlock = none ∨ v.ownBlock ≠ row := fun {base size n t v xs} ho => by
    rcases ho.2 with ⟨rfl, _⟩ | ⟨g, cap, cur, rfl, _, hgb, _⟩
    · exact .inl rfl
    · refine .inr fun e => ?_
      obtain ⟨_, o, ho, hc⟩ := hr g e.symm
      rw [hgb] at ho
      cases ho
      cases hc
  refine ⟨h.x0.kept hg (hbox h.x0), h.x1.kept hg (hbox h.x1), h.x3.kept hg (hbox h.x3), World.ownsRow.kept h.ol hg (hrow h.ol), fun e he => ⟨(h.cl e he).1.grown_ne hg ?_, (h.cl e he).2⟩, World.ownsRow.kept h.oc hg (hrow h.oc), h.hb.grown hg h.hb.size fun q hq => (hr q hq).1⟩
  rcases (h.cl e he).1 with ⟨_, hv⟩ | ⟨g, cap, hv, _, cur, hgb, _⟩
  · rw [hv]; exact .inl rfl
  · rw [hv]
    refine .inr fun e => ?_
    obtain ⟨_, o, ho, hc⟩ := hr g e.symm
    have hgb' : W.heap[g]? = some (.cells cur 44 (0, 0)) := hgb
    rw [hgb'] at ho
    cases ho
    cases hc
theorem FdS.below (h : FdS w W cols lv lines nv now) {W' : World} (hb : Below W.heap.size W W') : FdS w W' cols lv lines nv now :=
  h.grown (row := none) ⟨hb.os, hb.tape, hb.output, hb.size, fun k hk _ => hb.block k hk⟩ (fun r e => by cases e)
theorem fds_own {β : Type} (f : β → List Ln × List Ce) : OwnFrom w.heap.size (fun (pre : β) W => ∃ lv lines nv, FdS w W cols lv lines nv (f pre).2 ∧ lines.map Prod.fst = (f pre).1) := by
  rintro s X Y row ⟨lv, lines, nv, h, hm⟩ hg hr
  exact ⟨lv, lines, nv, h.grown hg hr, hm⟩
/-- A letter more in the line under way. -/
theorem FdS.letter (h : FdS w W cols lv lines nv now) {w2 : World} {v2 : Value} {t : List Ce} (ho : OwnC w2 w.heap.size v2 (now ++ t)) (hg : W.grownBy w2 nv.ownBlock) (hv : v2.ownBlock = nv.ownBlock ∨ v2.ownBlock = some W.heap.size) :
    FdS w (w2.setCell ⟨w.heap.size + 1 + 1 + 1, 0, none⟩ v2) cols lv lines v2 (now ++ t) := by
  have hnb : ∀ {B : Nat} {t : TypeId} {v : Value}, Boxed W B t v → t ≠ 44 → some B ≠ nv.ownBlock := fun hb ht => hb.not_row ht h.oc
  have x3' := h.x3.kept hg (hnb h.x3 (by decide))
  have hnl : lv.ownBlock = none ∨ lv.ownBlock ≠ nv.ownBlock := by
    rcases h.ol.2 with ⟨rfl, _⟩ | ⟨g, cap, cur, rfl, _, hgb, _⟩
    · exact .inl rfl
    · refine .inr fun e => ?_
      rcases h.oc.2 with ⟨rfl, _⟩ | ⟨g', cap', cur', rfl, _, hgb', _⟩
      · simp [Value.ownBlock] at e
      · simp only [Value.ownBlock, Option.some.injEq] at e
        subst e
        rw [hgb] at hgb'
        cases hgb'
  have hne0 : w.heap.size ≠ w.heap.size + 1 + 1 + 1 := by omega
  have hne1 : w.heap.size + 1 ≠ w.heap.size + 1 + 1 + 1 := by omega
  have xb : Box w2 (w.heap.size + 1 + 1 + 1) 37 #[nv] := x3'
  refine ⟨(h.x0.kept hg (hnb h.x0 (by decide))).other hne0 _, (h.x1.kept hg (hnb h.x1 (by decide))).other hne1 _, x3'.set v2, OwnL.set (World.ownsRow.kept h.ol hg hnl) xb (by decide) _, fun e he => ?_, ho.set xb (by decide) _, below_set (h.hb.grown hg h.hb.size fun q hq => (World.ownsRow.lt h.oc q hq).1) (by omega) _⟩
  obtain ⟨h1, h2⟩ := h.cl e he
  refine ⟨(h1.grown_ne hg h2).set xb (by decide) _, ?_⟩
  rcases hv with hv | hv
  · rw [hv]; exact h2
  · cases hq : e.2.ownBlock with
    | none => exact .inl rfl
    | some q => refine .inr fun e' => ?_; rw [hv] at e'; cases e'; exact absurd (h1.lt _ hq) (Nat.lt_irrefl _)
/-- The line under way is full. -/
theorem FdS.full (h : FdS w W cols lv lines nv now) {W1 w4 w6 : World} {v4 lv' : Value} {x : Ln} (h1 : Below W.heap.size W W1) (ho : OwnC w4 w.heap.size v4 x.cs) (hg : W1.grownBy w4 nv.ownBlock) (_hl : OwnL w6 w.heap.size lv' (lines ++ [(x, v4)])) (hg2 : (w4.alloc (.cells #[v4, .bool x.soft] 39)).grownBy w6 lv.ownBlock) :
    Boxed w6 w.heap.size 3 (.int .i64 (cols : Int)) ∧ Boxed w6 (w.heap.size + 1) 22 lv ∧ Boxed w6 (w.heap.size + 1 + 1 + 1) 37 nv ∧ (∀ e ∈ lines ++ [(x, v4)], CSl w6 w.heap.size e.2 e.1.cs) ∧ Below w.heap.size w w6 ∧ OwnL (w4.alloc (.cells #[v4, .bool x.soft] 39)) w.heap.size lv lines := by
  have h := h.below h1
  have hnb : ∀ {B : Nat} {t : TypeId} {v : Value}, Boxed W1 B t v → t ≠ 44 → some B ≠ nv.ownBlock := fun hb ht => hb.not_row ht h.oc
  have hnl : lv.ownBlock = none ∨ lv.ownBlock ≠ nv.ownBlock := by
    rcases h.ol.2 with ⟨rfl, _⟩ | ⟨g, cap, cur, rfl, _, hgb, _⟩
    · exact .inl rfl
    · refine .inr fun e => ?_
      rcases h.oc.2 with ⟨rfl, _⟩ | ⟨g', cap', cur', rfl, _, hgb', _⟩
      · simp [Value.ownBlock] at e
      · simp only [Value.ownBlock, Option.some.injEq] at e
        subst e
        rw [hgb] at hgb'
        cases hgb'
  have ol4 : OwnL w4 w.heap.size lv lines := World.ownsRow.kept h.ol hg hnl
  have ol5 := ol4.kept (below_alloc w4 (.cells #[v4, .bool x.soft] 39))
  have bx : ∀ {B : Nat} {t : TypeId} {v : Value}, Boxed W1 B t v → t ≠ 44 → t ≠ 39 → Boxed w6 B t v := fun hb ht ht2 => by
    have b5 := (hb.kept hg (hnb hb ht)).alloc (.cells #[v4, .bool x.soft] 39)
    exact b5.kept hg2 (b5.not_row ht2 ol5)
  refine ⟨bx h.x0 (by decide) (by decide), bx h.x1 (by decide) (by decide), bx h.x3 (by decide) (by decide), fun e he => ?_, ?_, ol5⟩
  · rw [List.mem_append, List.mem_singleton] at he
    rcases he with he | rfl
    · obtain ⟨q1, q2⟩ := h.cl e he
      exact ((q1.grown_ne hg q2).below (below_alloc w4 _) (Nat.le_refl _)).grown ol5 hg2
    · exact (ho.csl.below (below_alloc w4 _) (Nat.le_refl _)).grown ol5 hg2
  · have hb4 := h.hb.grown hg h.hb.size fun q hq => (World.ownsRow.lt h.oc q hq).1
    exact (hb4.alloc hb4.size _).grown hg2 (by have := hb4.size; simp; omega) fun q hq => (World.ownsRow.lt ol5 q hq).1
/-- What a step that grows such a row leaves. -/
theorem keeps_row {X Y : World} {base size n : Nat} {t : TypeId} {v : Value} {xs : List Value} (h : X.ownsRow base t size v n xs) (hg : X.grownBy Y v.ownBlock) : KeepsOthers X Y :=
  KeepsOthers.of_grownBy hg fun j o hj ho => by
    rcases h.2 with ⟨rfl, _⟩ | ⟨g, cap, cur, rfl, _, hgb, _⟩
    · cases hj
    · cases hj
      have hgb' : X.heap[g]? = some (.cells cur t (0, 0)) := hgb
      rw [hgb'] at ho
      cases ho
      rfl
theorem below_between {B : Nat} {a b c : World} (h1 : Below B a b) (h2 : Below B a c) (hs : b.heap.size ≤ c.heap.size) : Below B b c :=
  ⟨h2.os.trans h1.os.symm, h2.tape.trans h1.tape.symm, h2.output.trans h1.output.symm, hs, fun k hk => (h2.block k hk).trans (h1.block k hk).symm⟩
theorem mk_cells0 (n : Nat) (hn : n ≤ 1000) (W : World) : (Instr.makeSlice 37 (.int .i64 0) (.int .i64 (n : Int))).run Tryd.prog W = .ok (.slice (some ⟨W.heap.size, 0, none⟩) 0 n) (W.alloc (.cells (ceM n) 44)) := by
  obtain ⟨i0, hi, hz0, hz1, hz2⟩ := info_parts ce_info
  have h := run_make (P := Tryd.prog) W 37 44 i0 _ Tryd.underlying37 hi hz0 .i64 .i64 (0 : Int) (n : Int) (by omega) (by omega) (by rw [hz2]; omega) (by omega)
  rw [hz1] at h
  simp only [Int.toNat_natCast] at h
  exact h
theorem own_make (n : Nat) (hn : n ≤ 1000) (base : Nat) (W : World) (hb : base ≤ W.heap.size) : OwnC (W.alloc (.cells (ceM n) 44)) base (.slice (some ⟨W.heap.size, 0, none⟩) 0 n) [] := by
  refine ⟨rfl, .inr ⟨W.heap.size, n, ceM n, rfl, hb, heap_alloc_new W _, Nat.zero_le _, by unfold maxLen; omega, ?_, by simp [cflat]⟩⟩
  unfold ceM
  rw [size_madeCells]
/-- A new line begins. -/
theorem FdS.fresh {w6 : World} {lv' : Value} {ll : List (Ln × Value)} (hc : cols ≤ 100) (hol : OwnL w6 w.heap.size lv' ll) (x0 : Boxed w6 w.heap.size 3 (.int .i64 (cols : Int))) (x1 : Boxed w6 (w.heap.size + 1) 22 lv) (x3 : Boxed w6 (w.heap.size + 1 + 1 + 1) 37 nv) (hcl : ∀ e ∈ ll, CSl w6 w.heap.size e.2 e.1.cs) (hb : Below w.heap.size w w6) :
    FdS w (((w6.setCell ⟨w.heap.size + 1, 0, none⟩ lv').alloc (.cells (ceM cols) 44)).setCell ⟨w.heap.size + 1 + 1 + 1, 0, none⟩ (.slice (some ⟨w6.heap.size, 0, none⟩) 0 cols)) cols lv' ll (.slice (some ⟨w6.heap.size, 0, none⟩) 0 cols) [] := by
  have xb1 : Box w6 (w.heap.size + 1) 22 #[lv] := x1
  have y0 := x0.other (B' := w.heap.size + 1) (by omega) lv'
  have y1 := x1.set lv'
  have y3 := x3.other (B' := w.heap.size + 1) (by omega) lv'
  have o1 := OwnL.set (i := 0) hol xb1 (by decide) lv'
  have c1 : ∀ e ∈ ll, CSl (w6.setCell ⟨w.heap.size + 1, 0, none⟩ lv') w.heap.size e.2 e.1.cs := fun e he => CSl.set (i := 0) (hcl e he) xb1 (by decide) lv'
  have b1 := below_set hb (b := w.heap.size + 1) (i := 0) (by omega) lv'
  have hsz : (w6.setCell ⟨w.heap.size + 1, 0, none⟩ lv').heap.size = w6.heap.size := size_set _ _ _ _
  generalize (w6.setCell ⟨w.heap.size + 1, 0, none⟩ lv') = w7 at *
  rw [← hsz]
  have xb3 : Box (w7.alloc (.cells (ceM cols) 44)) (w.heap.size + 1 + 1 + 1) 37 #[nv] := y3.alloc _
  have hba := below_alloc w7 (.cells (ceM cols) 44)
  refine ⟨(y0.alloc _).other (by omega) _, (y1.alloc _).other (by omega) _, (y3.alloc (.cells (ceM cols) 44)).set _, (o1.kept hba).set xb3 (by decide) _, fun e he => ⟨((c1 e he).below hba (Nat.le_refl _)).set xb3 (by decide) _, ?_⟩, (own_make cols (by omega) w.heap.size w7 b1.size).set xb3 (by decide) _, below_set (b1.alloc b1.size _) (by omega) _⟩
  cases hq : e.2.ownBlock with
  | none => exact .inl rfl
  | some q => refine .inr fun e' => ?_; simp only [Value.ownBlock, Option.some.injEq] at e'; have := (c1 e he).lt _ hq; omega
end
end Go.Proofs.YteebbmmgbjpihaaDoor

namespace Go.Proofs.YteebbmmgbjpihaaDoor
open Go.RowKit Go.Shelf
attribute [local go_sem] Oper.semAt_some

theorem ownsRow_putObj8 {W : World} {base size n : Nat} {t : TypeId} {v : Value} {xs : List Value} {D : Nat} {o : Obj} (h : W.ownsRow base t size v n xs) (o' : Obj) (hD : W.heap[D]? = some o) (ho : o.isCells = false) : (W.putObj D o').ownsRow base t size v n xs :=
  World.ownsRow.kept h (grownBy_putObj' W D o') (by
    rcases h.2 with ⟨rfl, _⟩ | ⟨g, cap, cur, rfl, _, hgb, _⟩
    · exact .inl rfl
    · refine .inr fun e => ?_
      simp only [Value.ownBlock, Option.some.injEq] at e
      subst e
      rw [hgb] at hD
      cases hD
      cases ho)
theorem csl_not_row {W : World} {base : Nat} {v : Value} {l : List Ce} {D : Nat} {o : Obj} (h : CSl W base v l) (hD : W.heap[D]? = some o) (ho : o.isCells = false) : v.ownBlock = none ∨ v.ownBlock ≠ some D := by
  rcases h with ⟨_, rfl⟩ | ⟨g, cap, rfl, _, cur, hgb, _⟩
  · exact .inl rfl
  · refine .inr fun e => ?_
    simp only [Value.ownBlock, Option.some.injEq] at e
    subst e
    have hgb' : W.heap[g]? = some (Obj.cells cur 44 (0, 0)) := hgb
    rw [hgb'] at hD
    cases hD
    cases ho
def FoPost (W : World) (tgt : List Ln) (e : Ending) (w' : World) : Prop :=
  ∃ v lv, e = .returned v ∧ lv.map Prod.fst = tgt ∧ OwnL w' W.heap.size v lv ∧ (∀ x ∈ lv, CSl w' W.heap.size x.2 x.1.cs) ∧ Below W.heap.size W w'
def FoB (w : World) (cols : Nat) (lv nv : Value) (W : World) : Prop :=
  Boxed W w.heap.size 3 (.int .i64 (cols : Int)) ∧ Boxed W (w.heap.size + 1) 22 lv ∧ Boxed W (w.heap.size + 1 + 1 + 1) 37 nv
theorem wp_append_ln {o : Oper} {a : Act} {w : World} {K : Act → World → Prop} {Q : Exit → Act → World → Prop} (s x : Operand)
    (ho : o.op = .call { callee := .builtin .append, args := #[s, x], argTypes := #[22, 22] }) (base : Nat) (v xv : Value) (l m : List (Ln × Value))
    (hs : a.eval s = v) (hown : OwnL w base v l) (hxe : a.eval x = xv) (hx : LR w xv m) (hm : CesOf w m) (hb : l.length + m.length ≤ 1000000) (hbase : base ≤ w.heap.size)
    (h : ∀ v' w', OwnL w' base v' (l ++ m) → w.grownBy w' v.ownBlock → K (a.put o.dst v') w') : Oper.wp Tryd.prog o a w K Q := by
  obtain ⟨v', w', hrun, h2, h3⟩ := run_append_ln w base v xv l m hown hx hm o.type hb hbase
  unfold Oper.wp
  simp [execOp, ho, resolve, invoke, builtin, hs, hxe, hrun, Result.andThen]
  exact h v' w' h2 h3
section
variable {w W : World} {cols : Nat} {lv : Value} {lines : List (Ln × Value)} {nv : Value} {now : List Ce}
theorem FdS.box4 (h : FdS w W cols lv lines nv now) {w4 : World} (hg : W.drew.grownBy w4 nv.ownBlock) : FoB w cols lv nv w4 := by
  have hnb : ∀ {B : Nat} {t : TypeId} {v : Value}, Boxed W B t v → t ≠ 44 → some B ≠ nv.ownBlock := fun hb ht => hb.not_row ht h.oc
  have k : ∀ {B : Nat} {t : TypeId} {v : Value}, Boxed W B t v → t ≠ 44 → Boxed w4 B t v := fun {B t v} hb ht => by
    have hb' : Boxed W.drew B t v := hb
    exact hb'.kept hg (hnb hb ht)
  exact ⟨k h.x0 (by decide), k h.x1 (by decide), k h.x3 (by decide)⟩
theorem FdS.line4 (h : FdS w W cols lv lines nv now) {w4 : World} {v4 : Value} {x : Ln} (hg : W.drew.grownBy w4 nv.ownBlock) (_hc : CSl w4 w.heap.size v4 x.cs) : OwnL (w4.alloc (.cells #[v4, .bool x.soft] 39)) w.heap.size lv lines := by
  have h := h.below (W' := W.drew) ((Below.refl _ W).drew)
  have hnl : lv.ownBlock = none ∨ lv.ownBlock ≠ nv.ownBlock := by
    rcases h.ol.2 with ⟨rfl, _⟩ | ⟨g, cap, cur, rfl, _, hgb, _⟩
    · exact .inl rfl
    · refine .inr fun e => ?_
      rcases h.oc.2 with ⟨rfl, _⟩ | ⟨g', cap', cur', rfl, _, hgb', _⟩
      · simp [Value.ownBlock] at e
      · simp only [Value.ownBlock, Option.some.injEq] at e
        subst e
        rw [hgb] at hgb'
        cases hgb'
  have ol4 : OwnL w4 w.heap.size lv lines := World.ownsRow.kept h.ol hg hnl
  exact ol4.kept (below_alloc w4 _)
end
theorem fillP_length {cols : Nat} {l : List Ce} (h : l.length ≤ cols) : (fillP cols l).length = cols := by
  unfold fillP
  rw [List.length_append, List.length_replicate]
  omega
theorem wpListIn_append_ce_at {F : Fence} {n : Nat} {ops : Array Oper} {rest : List Oper} {o : Oper} {a : Act} {w : World} {Q : Exit → Act → World → Prop} (hg : o.guard = none) (s x : Operand)
    (ho : o.op = .call { callee := .builtin .append, args := #[s, x], argTypes := #[37, 37] }) (base : Nat) (v xv : Value) (l m : List Ce)
    (hs : a.eval s = v) (hown : OwnC w base v l) (hxe : a.eval x = xv) (hx : CeRow w xv m) (hne : m ≠ []) (hb : l.length + m.length ≤ 1000000) (hbase : base ≤ w.heap.size)
    (h : ∀ v' w', OwnC w' base v' (l ++ m) → w.grownBy w' v.ownBlock → (v'.ownBlock = v.ownBlock ∨ v'.ownBlock = some w.heap.size) → wpListIn F n Tryd.prog ops Q rest (a.put o.dst v') w') : wpListIn F n Tryd.prog ops Q (o :: rest) a w := by
  refine wpListIn_plain hg fun K hK' => ?_
  obtain ⟨v', w', hrun, r1, r2, r3⟩ := run_append_ce_at w base v xv l m hown hx hne o.type hb hbase
  unfold Oper.wpIn
  refine ⟨?_, ?_⟩
  · simp [Oper.about, ho, resolve, Target.leads, Sem.run_pure]
  · rw [Oper.semAt_plain F _ _ (by rw [ho]; intro c hc'; cases hc')]
    simp [execOp, ho, resolve, invoke, builtin, hs, hxe, hrun, Result.andThen]
    exact hK' _ _ (h v' w' r1 r2 r3)
theorem ownFrom_up {β : Type} {B B' : Nat} {I : β → World → Prop} (hB : B ≤ B') (h : OwnFrom B I) : OwnFrom B' I := fun s X Y row hs hg hr => h s X Y row hs hg fun r e => ⟨Nat.le_trans hB (hr r e).1, (hr r e).2⟩
/-- What has come of these letters. -/
def segsOf {w0 : World} (pre : List (Sg w0)) : List (List Ce) := pre.map (·.val.1)
theorem segsOf_snoc {w0 : World} (pre : List (Sg w0)) (x : Sg w0) : segsOf (pre ++ [x]) = segsOf pre ++ [x.val.1] := by unfold segsOf; rw [List.map_append]; rfl
theorem segsOf_len {w0 : World} (pre : List (Sg w0)) : (segsOf pre).length = pre.length := by unfold segsOf; rw [List.length_map]

end Go.Proofs.YteebbmmgbjpihaaDoor
