/- A range over a function whose iterator writes boxes of its own between two rounds: its contract asks of the caller's invariant that it abide that. -/
import Derived.Test.YtglfolbimafcaaaBlkQ
import Derived.RangeFuncNested
import Derived.RangeFuncBound
import Derived.RangeFuncCalls
import Derived.RangeFuncLeaves
import Derived.RangeFuncBox
namespace Go.Proofs.Ytglfolbimafcaaa
open Go.RowKit

/-- It abides what an iterator does with boxes of its own, of this type: E: those that it has now. -/
structure AbidesBox {β : Type} (t : TypeId) (B : Nat) (J : List Nat → β → World → Prop) : Prop where
  new : ∀ E s W cs, J E s W → B ≤ W.heap.size → J (W.heap.size :: E) s (W.alloc (.cells cs t))
  set : ∀ E s W b cs i u, J E s W → b ∈ E → B ≤ b → Box W b t cs → J E s (W.setCell ⟨b, i, none⟩ u)
  drop : ∀ E b s W, J (b :: E) s W → J E s W
/-- An iterator's contract: whatever invariant of the caller's abides its steps, and stores into its own boxes. -/
def SeqOwn {α : Type} (t : TypeId) (P : Program) (g : Nat) (lb : Array Value) (encs : α → Array Value) (Kp : List Nat → World → World → Prop) (M : List α → World → Prop) (S Sp : List α → Prop) (N : Nat) (w : World) : Prop :=
  ∀ (l : Nat) (J : List Nat → List α → World → Prop) (Jx : List α → World → Prop) (W : World), Below w.heap.size w W → (∀ E, AbidesFrom W.heap.size (J E)) → AbidesBox t W.heap.size J → (∀ E pre W1, J E pre W1 → M pre W1) →
    (∀ E pre x W1, J E pre W1 → pre.length < N → YieldAt Fence.wide 0 P l (encs x) W1 fun e W' =>
      (e = .returned (.bool true) ∧ J E (pre ++ [x]) W' ∧ Kp E W1 W') ∨ (e = .returned (.bool false) ∧ Jx (pre ++ [x]) W')) →
    J [] [] W →
    Calls P g (#[.func (.yield l) #[] #[]] ++ lb) W fun e W' => (∃ v, e = .returned v) ∧ ((∃ xs, S xs ∧ J [] xs W') ∨ (∃ pre, Sp pre ∧ Jx pre W'))
theorem round_any {P : Program} {m m' l : Nat} {f : FuncId} {tmps : Array Value} {assign body : Code} {w : World} {R : Ending → World → Prop} (h : RoundIn Fence.wide m P l f tmps assign body w R) : RoundIn Fence.wide m' P l f tmps assign body w R :=
  ⟨h.1, fun c cs _ => h.2 c cs (room_wide _)⟩
theorem yield_any {P : Program} {m m' l : Nat} {args : Array Value} {W : World} {R : Ending → World → Prop} (h : YieldAt Fence.wide m P l args W R) : YieldAt Fence.wide m' P l args W R := by
  obtain ⟨fn, tmps, assign, body, h1, h2⟩ := h
  exact ⟨fn, tmps, assign, body, h1, round_any h2⟩
theorem box_not {W : World} {b j : Nat} {t : TypeId} {cs : Array Value} {o : Obj} (hb : Box W b t cs) (ho : W.heap[j]? = some o) (hc : o.isCells = false) : j ≠ b := by
  rintro rfl
  rw [show W.heap[j]? = _ from hb] at ho
  cases ho
  cases hc
/-- The book-keeping of a loop: its record, and the block for what is deferred. -/
def BookAt (W : World) (D : Nat) (r : Loop) : Prop := W.heap[D + 1]? = some (.loop r) ∧ W.heap[D]? = some (.deferred (some []))
theorem BookAt.lt {W : World} {D : Nat} {r : Loop} (h : BookAt W D r) : D + 1 < W.heap.size := (Array.getElem?_eq_some_iff.1 h.1).1
theorem BookAt.put {W : World} {D : Nat} {r r' : Loop} (h : BookAt W D r) : BookAt (W.putObj (D + 1) (.loop r')) D r' :=
  ⟨World.putObj_heap_same h.lt, (World.putObj_heap_other (by omega)).trans h.2⟩
theorem BookAt.keeps {W W' : World} {D : Nat} {r : Loop} (h : BookAt W D r) (k : KeepsFrom D W W') : BookAt W' D r :=
  ⟨k.same _ _ (by omega) h.1 rfl, k.same _ _ (Nat.le_refl _) h.2 rfl⟩
theorem BookAt.grown {W W' : World} {D : Nat} {r : Loop} {row : Option Nat} (h : BookAt W D r) (hg : W.grownBy W' row) (hr : ∀ x, row = some x → ∃ o : Obj, W.heap[x]? = some o ∧ o.isWalk = true) : BookAt W' D r :=
  ⟨(grownBy_keeps hg hr h.1 rfl).trans h.1, (grownBy_keeps hg hr h.2 rfl).trans h.2⟩
theorem BookAt.alloc {W : World} {D : Nat} {r : Loop} (h : BookAt W D r) (o : Obj) : BookAt (W.alloc o) D r :=
  ⟨(Below.heap_alloc W o _ h.lt).trans h.1, (Below.heap_alloc W o _ (by have := h.lt; omega)).trans h.2⟩
theorem BookAt.box {W : World} {D b i : Nat} {r : Loop} {t : TypeId} {cs : Array Value} (h : BookAt W D r) (hb : Box W b t cs) (u : Value) : BookAt (W.setCell ⟨b, i, none⟩ u) D r :=
  ⟨(Below.heap_setCell W ⟨b, i, none⟩ u _ (box_not hb h.1 rfl)).trans h.1, (Below.heap_setCell W ⟨b, i, none⟩ u _ (box_not hb h.2 rfl)).trans h.2⟩

section
variable {α : Type} {P : Program} {n : Nat} {w w0 : World} {g : Operand} {ps : Array Tmp} {assign body : Code} {Q : Exit → Act → World → Prop} {a : Act} {gf : Nat} {lb : Array Value} {encs : α → Array Value} {S Sp : List α → Prop} {N : Nat}
/-- The record of this loop. -/
def recOf (fn : FuncId) (a : Act) (ps : Array Tmp) (assign body : Code) (D : Nat) (st : LoopState) (pe : Option Code) : Loop := { state := st, pending := pe, fn, tmps := a.tmps, params := ps, assign, body, defers := D }
/-- The body's word is the round's word. -/
theorem one_round {Kp : World → World → Prop} {fn : FuncId} {D : Nat} (hKt : ∀ {A B C : World}, Kp A B → Kp B C → Kp A C) (hKb : ∀ (W : World) (l : Nat) (o o' : Obj), D ≤ l → W.heap[l]? = some o → o.isCells = false → o.isWalk = false → Kp W (W.putObj l o'))
    (hps : ∀ x, (encs x).size = ps.size) (I : List α → World → Prop) (Ix : Code → List α → World → Prop) (hI : OwnFrom D I) (hIx : ∀ c, OwnFrom D (Ix c)) (Ax : α → Act → World → Prop) (hAx : ∀ x a', OwnFrom D (fun (_ : Unit) W => Ax x a' W)) (pre : List α) (x : α) (W : World) (m : Nat)
    (hassign : ∀ K : Act → World → Prop, (∀ a' W', KeepsFrom D W W' → Kp W W' → I pre W' → Ax x a' W' → K a' W') →
      assign.wpIn (Fence.wide.inRound (D + 1)) m P (Exit.then K (fun _ _ _ => False)) { tmps := (ps.zip (encs x)).foldl (fun t (p, v) => t.setIfInBounds p v) a.tmps, defers := [] } W)
    (hbody : ∀ (a' : Act) (W' : World), (∃ r, W'.heap[D + 1]? = some (.loop r)) → I pre W' → Ax x a' W' → body.wpIn (Fence.wide.inRound (D + 1)) m P (ownPostG D Kp I Ix (pre ++ [x]) W') a' W')
    (hk : BookAt W D (recOf fn a ps assign body D .ready none)) :
    YieldAt Fence.wide m P (D + 1) (encs x) W fun e W' =>
      (e = .returned (.bool true) ∧ (I (pre ++ [x]) W' ∧ BookAt W' D (recOf fn a ps assign body D .ready none)) ∧ Kp W W') ∨
      (e = .returned (.bool false) ∧ ∃ c, Ix c (pre ++ [x]) W' ∧ BookAt W' D (recOf fn a ps assign body D .done (some c))) := by
  have hy := run_yield (P := P) (args := encs x) hk.1 (hps x)
  refine ⟨fn, _, assign, body, hy, roundIn_of_wpIn trivial (hassign _ ?_)⟩
  intro a1 W1 hk1 hp1 hi1 hx1
  have b1 := hk.keeps hk1
  have b2 : BookAt (W1.putObj (D + 1) (.loop (recOf fn a ps assign body D .busy none))) D (recOf fn a ps assign body D .busy none) := b1.put
  have p2 : Kp W1 (W1.putObj (D + 1) (.loop (recOf fn a ps assign body D .busy none))) := hKb _ _ _ _ (by omega) b1.1 rfl rfl
  refine ⟨_, run_beginRound b1.1 rfl, ?_⟩
  refine wpIn_mono (hbody a1 _ ⟨_, b2.1⟩ (hI.putObj _ hi1 (by omega) b1.1 rfl) ((hAx x a1).putObj (s := ()) _ hx1 (by omega) b1.1 rfl)) ?_
  have left : ∀ (c : Code) (W3 : World), KeepsFrom D (W1.putObj (D + 1) (.loop (recOf fn a ps assign body D .busy none))) W3 → Ix c (pre ++ [x]) W3 →
      ∃ W4, (Instr.endRound (D + 1) (some c)).run P W3 = .ok (.bool false) W4 ∧ Ix c (pre ++ [x]) W4 ∧ BookAt W4 D (recOf fn a ps assign body D .done (some c)) := fun c W3 k3 i3 => by
    have b3 := b2.keeps k3
    exact ⟨_, run_endRound (some c) b3.1, (hIx c).putObj _ i3 (by omega) b3.1 rfl, b3.put⟩
  rintro e a3 W3 hp
  cases e with
  | normal =>
    obtain ⟨k3, p3, i3⟩ := hp
    have b3 := b2.keeps k3
    exact ⟨_, _, run_endRound none b3.1, .inl ⟨rfl, ⟨hI.putObj _ i3 (by omega) b3.1 rfl, b3.put⟩, hKt hp1 (hKt p2 (hKt p3 (hKb _ _ _ _ (by omega) b3.1 rfl rfl)))⟩⟩
  | ret => obtain ⟨W4, r4, i4, b4⟩ := left .ret W3 hp.1 hp.2; exact ⟨_, _, r4, .inr ⟨rfl, _, i4, b4⟩⟩
  | exit id => obtain ⟨W4, r4, i4, b4⟩ := left (.exit id) W3 hp.1 hp.2; exact ⟨_, _, r4, .inr ⟨rfl, _, i4, b4⟩⟩
  | goto t => obtain ⟨W4, r4, i4, b4⟩ := left (.goto t) W3 hp.1 hp.2; exact ⟨_, _, r4, .inr ⟨rfl, _, i4, b4⟩⟩
  | panic ch => exact hp.elim
  | outgrown => exact hp.elim
/-- The law. -/
theorem range_own {Kp : List Nat → World → World → Prop} {M : List α → World → Prop} (t : TypeId) (hg : a.eval g = .func (.func gf) #[] lb) (eg : ∀ args w, (callFunc gf args).run P w = .ok (.enter gf args) w) (hseq : SeqOwn t P gf lb encs Kp M S Sp N w0)
    (hKt : ∀ {E : List Nat} {A B C : World}, Kp E A B → Kp E B C → Kp E A C) (hKb : ∀ (E : List Nat) (W : World) (l : Nat) (o o' : Obj), w.heap.size ≤ l → W.heap[l]? = some o → o.isCells = false → o.isWalk = false → Kp E W (W.putObj l o')) (hb0 : Below w0.heap.size w0 w) (hps : ∀ x, (encs x).size = ps.size)
    (I : List Nat → List α → World → Prop) (Ix : Code → List α → World → Prop) (hI : ∀ E, OwnFrom w.heap.size (I E)) (hIx : ∀ c, OwnFrom w.heap.size (Ix c)) (hIb : AbidesBox t w.heap.size I) (hIM : ∀ E pre W, I E pre W → M pre W) (h0 : I [] [] w)
    (Ax : α → Act → World → Prop) (hAx : ∀ x a', OwnFrom w.heap.size (fun (_ : Unit) W => Ax x a' W))
    (hassign : ∀ (E : List Nat) (l : Nat) (pre : List α) (x : α) (W : World) (K : Act → World → Prop), I E pre W → (∀ a' W', KeepsFrom w.heap.size W W' → Kp E W W' → I E pre W' → Ax x a' W' → K a' W') →
      assign.wpIn (Fence.wide.inRound l) n P (Exit.then K (fun _ _ _ => False)) { tmps := (ps.zip (encs x)).foldl (fun t (p, v) => t.setIfInBounds p v) a.tmps, defers := [] } W)
    (hbody : ∀ (E : List Nat) (l : Nat) (pre : List α) (x : α) (a' : Act) (W : World), w.heap.size ≤ l → (∃ r, W.heap[l]? = some (.loop r)) → I E pre W → Ax x a' W → pre.length < N → body.wpIn (Fence.wide.inRound l) n P (ownPostG w.heap.size (Kp E) (I E) Ix (pre ++ [x]) W) a' W)
    (hdone : ∀ (D : Nat) (xs : List α) (W : World), w.heap.size ≤ D → S xs → I [] xs W → W.heap[D]? = some (.deferred (some [])) → Q .normal { a with defers := { target := .collected D, args := #[] } :: a.defers } W)
    (hstop : ∀ (D : Nat) (c : Code) (pre : List α) (W : World), w.heap.size ≤ D → Sp pre → Ix c pre W → W.heap[D]? = some (.deferred (some [])) → c.wpIn Fence.wide n P Q { a with defers := { target := .collected D, args := #[] } :: a.defers } W) :
    (Code.rangeFunc g ps assign body).wpIn Fence.wide n P Q a w := by
  refine wpIn_rangeFunc fun fn _ => ?_
  have hnew : BookAt ((w.alloc (.deferred (some []))).alloc (.loop (recOf fn a ps assign body w.heap.size .ready none))) w.heap.size (recOf fn a ps assign body w.heap.size .ready none) := by
    refine ⟨?_, (Below.heap_alloc _ _ _ (by simp)).trans (World.alloc_heap_new w _)⟩
    have := World.alloc_heap_new (w.alloc (.deferred (some []))) (.loop (recOf fn a ps assign body w.heap.size .ready none))
    rwa [World.size_alloc] at this
  have hent := run_enterLoop_outer (P := P) (w := w) fn a.tmps ps assign body
  have hi1 : I [] [] ((w.alloc (.deferred (some []))).alloc (.loop (recOf fn a ps assign body w.heap.size .ready none))) := (hI []).alloc _ ((hI []).alloc _ h0)
  have hb1 : Below w.heap.size w ((w.alloc (.deferred (some []))).alloc (.loop (recOf fn a ps assign body w.heap.size .ready none))) := ((Below.refl _ w).alloc (Nat.le_refl _) _).alloc (by simp) _
  generalize hW1 : (w.alloc (.deferred (some []))).alloc (.loop (recOf fn a ps assign body w.heap.size .ready none)) = W1 at hnew hi1 hb1
  have hs1 := hb1.size
  refine ⟨w.heap.size + 1, [{ target := .collected w.heap.size, args := #[] }], W1, { target := .fn (.func gf) lb, args := #[.func (.yield (w.heap.size + 1)) #[] #[]] }, W1, gf,
    #[.func (.yield (w.heap.size + 1)) #[] #[]] ++ lb, W1, ?_, ?_, fun _ _ => trivial, ?_, fun h => (by cases h), ?_⟩
  · rw [← hW1]; exact hent
  · simp only [resolve, hg]
    simp [go_sem]
  · simp [invoke, go_sem, eg]
  · refine callsIn_wide.2 ?_
    refine (hseq (w.heap.size + 1) (fun E pre W => I E pre W ∧ BookAt W w.heap.size (recOf fn a ps assign body w.heap.size .ready none)) (fun pre W => ∃ c, Ix c pre W ∧ BookAt W w.heap.size (recOf fn a ps assign body w.heap.size .done (some c))) W1
      (hb0.trans (hb1.mono hb0.size)) (fun E s A B row hs hg' hr => ⟨hI E s A B row hs.1 hg' fun r e => ?_, hs.2.grown hg' fun r e => (hr r e).2⟩)
      ⟨fun E s A cs hs hB => ⟨hIb.new E s A cs hs.1 (by omega), hs.2.alloc _⟩, fun E s A b cs i u hs hE hB hb => ⟨hIb.set E s A b cs i u hs.1 hE (by omega) hb, hs.2.box hb u⟩, fun E b s A hs => ⟨hIb.drop E b s A hs.1, hs.2⟩⟩ (fun E pre A hs => hIM E pre A hs.1) ?_ ⟨hi1, hnew⟩).mono ?_
    · obtain ⟨h1, o, h2, h3⟩ := hr r e; exact ⟨by omega, o, h2, Obj.not_cells_of_walk h3⟩
    · rintro E pre x W ⟨hi, hk⟩ hlen
      exact yield_any (one_round (Kp := Kp E) (fun h k => hKt h k) (fun W l o o' h => hKb E W l o o' h) hps (I E) Ix (hI E) hIx Ax hAx pre x W n (fun K hK => hassign E _ pre x W K hi hK) (fun a' W' hr hi' hx => hbody E _ pre x a' W' (by omega) hr hi' hx hlen) hk)
    · rintro e W2 ⟨⟨v, rfl⟩, (⟨xs, hS, hi, hk⟩ | ⟨pre, hSp, c, hi, hk⟩)⟩
      · exact ⟨none, _, run_endLoop (P := P) hk.1 (fun h => by cases h), hdone _ xs _ (Nat.le_refl _) hS ((hI []).putObj _ hi (by omega) hk.1 rfl) (hk.put (r' := _)).2⟩
      · exact ⟨some c, _, run_endLoop (P := P) hk.1 (by intro h; cases h), hstop _ c pre _ (Nat.le_refl _) hSp ((hIx c).putObj _ hi (by omega) hk.1 rfl) (hk.put (r' := _)).2⟩
end
end Go.Proofs.Ytglfolbimafcaaa
