/- Layer 11, the package: a pane alone: parts, copyOf, split of one; indexOf. -/
import Derived.Test.YtgdndenjhnbkoaaTreeXQ
import Derived.Test.YtgdndenjhnbkoaaCloneQ
namespace Go.Proofs.Ytgdndenjhnbkoaa
open Go.RowKit Go.Shelf
attribute [local go_sem] Oper.semAt_some

/-- A pane that lies there. -/
def LeafAt (W : World) (g o : Nat) : Prop := ∃ k p A c, W.cell? ⟨g, o, none⟩ = some (.int .i64 k) ∧ W.cell? ⟨g, o + 1, none⟩ = some (.int .i64 p) ∧ W.cell? ⟨g, o + 3, none⟩ = some (.slice A 0 c)
abbrev lfEnc (g o : Nat) (q : Rc) : Array Value := #[.pointer (some ⟨g, o, none⟩), .agg q.row]
theorem LeafAt.alike {W W' : World} {g o : Nat} (h : LeafAt W g o) (hA : Alike W W') : LeafAt W' g o := by
  obtain ⟨k, p, A, c, h1, h2, h3⟩ := h
  exact ⟨k, p, A, c, hA _ _ h1, hA _ _ h2, hA _ _ h3⟩
set_option maxRecDepth 100000 in
set_option maxHeartbeats 4000000 in
theorem leaf_any (B l g o : Nat) (J : List Nat → List Rc → World → Prop) (Jx : List Rc → World → Prop) (hJ : ∀ E, AbidesFrom B (J E)) (hJb : AbidesBox 32 B J) (hM : ∀ E pre W1, J E pre W1 → LeafAt W1 g o)
    (hY : ∀ E pre x W1, J E pre W1 → pre.length < 1 → YieldAt Fence.wide 0 Try.prog l (lfEnc g o x) W1 fun e W' => (e = .returned (.bool true) ∧ J E (pre ++ [x]) W' ∧ True) ∨ (e = .returned (.bool false) ∧ Jx (pre ++ [x]) W'))
    (q : Rc) (W : World) (hB : B ≤ W.heap.size) (hj : J [] [] W) :
    Calls Try.prog 33 #[.pointer (some ⟨g, o, none⟩), .agg q.row, .func (.yield l) #[] #[]] W fun e W' => ∃ b, e = .returned (.bool b) ∧ ((∃ x, J [] [x] W') ∨ ∃ x, Jx [x] W') := by
  refine (callsIn_wide (n := 1)).1 (callsIn_of_wp Try.func33 rfl trivial ?_ rfl)
  simp only [Try.ntmps33, List.size_toArray, List.length_cons, List.length_nil, Nat.reduceAdd, Nat.reduceSub, Array.replicate_succ, Array.replicate_zero, List.push_toArray, List.append_toArray, List.nil_append, List.cons_append]
  obtain ⟨k0, kp, kA, kc, c0, c1, c3⟩ := hM _ _ _ hj
  have hg := t_cell_lt c0
  have hba := below_alloc W (.cells q.row 32)
  have hbx := Box.new W 32 q.row
  have d1 := (hba.cell (p := ⟨g, o + 1, none⟩) hg).trans c1
  have f0 := hbx.free 0
  have b0 := hbx.cell 0
  gi_upto_region 2 with fail
  obtain ⟨q', hq'⟩ : ∃ q' : Rc, ({ q with pane := kp } : Rc) = q' := ⟨_, rfl⟩
  have hrow : q.row.setIfInBounds 0 (.int .i64 kp) = q'.row := by rw [← hq']; rfl
  rw [hrow]
  have hbx1 := Box.new W 32 q'.row
  obtain ⟨bx, hbxe⟩ : ∃ bx, W.heap.size = bx := ⟨_, rfl⟩
  have hj1 := hJb.new [] [] W q'.row hj hB
  rw [hbxe] at hbx1 hj1 ⊢
  generalize W.alloc (.cells q'.row 32) = W1 at *
  have hyy := hY [bx] [] q' W1 hj1 (by simp)
  obtain ⟨⟨l0, l1, l2, l3, l4⟩, _⟩ := Box.five (show Box W1 bx 32 #[.int .i64 q'.pane, .int .i64 q'.x, .int .i64 q'.y, .int .i64 q'.w, .int .i64 q'.h] from hbx1)
  obtain ⟨fn, tmps, assign, body, hy, hR⟩ := hyy
  dsimp only [lfEnc, Rc.row] at hy
  clear hba hbx d1 f0 b0 c0 c1 c3 hj
  gi_wp2
  refine hR.mono ?_
  clear hR hy l0 l1 l2 l3 l4
  rintro e W2 (⟨rfl, hj2, _⟩ | ⟨rfl, hx2⟩)
  · obtain ⟨k2, p2, A2, c2, e0, _, e3⟩ := hM _ _ _ hj2
    have hg2 := t_cell_lt e0
    have HA := hid (fun W' => along_any bx k2 W')
    have HJ := hid hj2
    clear hj1 hj2
    gi_wp2_with ((try refine ⟨trivial, ?_⟩); gi_at_call 29; refine (callsIn_wide.2 (HA.out _)).mono ?_; rintro e w3 ⟨rfl, hb3⟩; have c33 := (hb3.cell (p := ⟨g, o + 3, none⟩) hg2).trans e3)
    have HJ3 := hid (hJb.drop _ _ _ _ (abides_b (hJ _) HJ.out hb3))
    gi_loopw [34] (fun i wr => i = .int .i64 0 ∧ wr = w3) (fun _ _ => 0)
    case atStart => exact ⟨rfl, rfl⟩
    case round =>
      obtain ⟨rfl, rfl⟩ := hrel
      gi_wp2
      go_ret
      exact ⟨_, rfl, .inl ⟨q', HJ3.out⟩⟩
  · gi_wp2
    go_ret
    exact ⟨_, rfl, .inr ⟨q', hx2⟩⟩
theorem parts_leaf (w : World) (g o : Nat) (a b : Int) (B1 B2 B3 : Nat)
    (c1 : w.cell? ⟨B1, 0, none⟩ = some (.pointer (some ⟨g, o, none⟩))) (c2 : w.cell? ⟨B2, 0, none⟩ = some (.int .i64 a)) (c3 : w.cell? ⟨B3, 0, none⟩ = some (.int .i64 b)) :
    SeqOwn 32 Try.prog 32 #[.pointer (some ⟨B1, 0, none⟩), .pointer (some ⟨B2, 0, none⟩), .pointer (some ⟨B3, 0, none⟩)] (lfEnc g o) (fun _ _ _ => True) (fun _ W => LeafAt W g o) (fun ys => ys.length = 1) (fun pre => pre.length = 1) 1 w := by
  intro l J Jx W1 hW hJ hJb hM hY h0
  have hA := Alike.below hW
  have d1 := hA _ _ c1
  have d2 := hA _ _ c2
  have d3 := hA _ _ c3
  have H := hid (show Calls Try.prog 33 #[.pointer (some ⟨g, o, none⟩), .agg #[.int .i64 0, .int .i64 0, .int .i64 0, .int .i64 a, .int .i64 b], .func (.yield l) #[] #[]] W1 _ from leaf_any W1.heap.size l g o J Jx hJ hJb hM hY ⟨0, 0, 0, a, b⟩ W1 (Nat.le_refl _) h0)
  clear hY hJ hJb h0 c1 c2 c3 hA hM
  show Calls Try.prog 32 #[.func (.yield l) #[] #[], .pointer (some ⟨B1, 0, none⟩), .pointer (some ⟨B2, 0, none⟩), .pointer (some ⟨B3, 0, none⟩)] W1 _
  go_enter Try.func32, Try.ntmps32
  go_wp2_with ((with_reducible refine H.out.mono ?_); rintro e w2 ⟨bv, rfl, hq⟩)
  go_end0
  refine ⟨⟨_, rfl⟩, ?_⟩
  rcases hq with ⟨x, h⟩ | ⟨x, h⟩
  · exact .inl ⟨[x], rfl, h⟩
  · exact .inr ⟨[x], rfl, h⟩
theorem clone_nil (W : World) : Calls Try.prog 38 #[.slice none 0 0] W fun e w' => e = .returned (.slice none 0 0) ∧ w' = W := by
  have hq := fun W => Lib.run_eql_slice_nil (P := Try.prog) W 22 24 none 0 0 0 0 Try.underlying22
  go_enter Try.func38, Try.ntmps38
  go_wp2
  go_ret
  exact ⟨rfl, rfl⟩
set_option maxHeartbeats 1000000 in
theorem kid_none (W : World) (g o c : Nat) (A : Option Addr) (p : Int) (h3 : W.cell? ⟨g, o + 3, none⟩ = some (.slice A 0 c)) :
    Calls Try.prog 39 #[.pointer (some ⟨g, o, none⟩), .int .i64 p] W fun e w' => e = .returned (.int .i64 (-1)) ∧ Below W.heap.size W w' := by
  have hI : ∀ (F : Value) (W' : World), Calls Try.prog 45 #[.slice A 0 c, F] W' fun e w' => e = .returned (.int .i64 (-1)) ∧ w' = W' := by
    intro F W'
    go_enter Try.func45, Try.ntmps45
    go_wp2_with fail
    go_loopw [8] (fun i wr => i = .int .i64 0 ∧ wr = W') (fun _ _ => 0)
    case atStart => exact ⟨rfl, rfl⟩
    case round =>
      obtain ⟨rfl, rfl⟩ := hrel
      go_wp2
      go_ret
      exact ⟨rfl, rfl⟩
  have HI := hid hI
  have hb := below_alloc W (.cells #[.int .i64 p] 3)
  have d3 := (hb.cell (p := ⟨g, o + 3, none⟩) (t_cell_lt h3)).trans h3
  have HB := hid hb
  clear hI hb
  go_enter Try.func39, Try.ntmps39
  go_wp2_with ((with_reducible refine (HI.out _ _).mono ?_); rintro e w2 ⟨rfl, rfl⟩)
  go_ret
  exact ⟨rfl, HB.out⟩
theorem box4_five {W : World} {b : Nat} {t : TypeId} {x y z u : Value} (h : Box W b t #[x, y, z, u]) : (W.cell? ⟨b, 0, none⟩ = some x ∧ W.cell? ⟨b, 1, none⟩ = some y ∧ W.cell? ⟨b, 2, none⟩ = some z ∧ W.cell? ⟨b, 3, none⟩ = some u) := h.four.1
/-- A pane alone, copied: its box, and that of the answer. -/
structure CpB (W X : World) (tc rc : Array Value) : Prop where
  hb : Below W.heap.size W X
  b0 : Box X W.heap.size 24 tc
  b1 : Box X (W.heap.size + 1) 24 rc
theorem CpB.own {W X Y : World} {tc rc : Array Value} {row : Option Nat} {B : Nat} (h : CpB W X tc rc) (hB : W.heap.size ≤ B) (hg : X.grownBy Y row) (hr : ∀ r, row = some r → B ≤ r ∧ ∃ o : Obj, X.heap[r]? = some o ∧ o.isCells = false) : CpB W Y tc rc := by
  have k := fun {b : Nat} {t : TypeId} {cs : Array Value} (hb : Box X b t cs) => (grownBy_keeps_cells hg (fun r e => (hr r e).2) hb rfl).trans hb
  exact ⟨h.hb.grown hg h.hb.size (fun j e => by have := (hr j e).1; omega), k h.b0, k h.b1⟩
theorem CpB.below {W X Y : World} {tc rc : Array Value} (h : CpB W X tc rc) (hb : Below X.heap.size X Y) : CpB W Y tc rc := ⟨h.hb.trans (hb.mono h.hb.size), h.b0.below hb h.b0.lt, h.b1.below hb h.b1.lt⟩
theorem CpB.box {W X : World} {tc rc : Array Value} {B b i : Nat} {cs : Array Value} (h : CpB W X tc rc) (hB : W.heap.size ≤ B) (hb : B ≤ b) (hx : Box X b 32 cs) (u : Value) : CpB W (X.setCell ⟨b, i, none⟩ u) tc rc :=
  ⟨below_set h.hb (by omega) u, h.b0.other (box_ne h.b0 hx (by decide)) u, h.b1.other (box_ne h.b1 hx (by decide)) u⟩
set_option maxRecDepth 100000 in
set_option maxHeartbeats 8000000 in
theorem copy_leaf (kk kp ks : Int) (W : World) :
    Calls Try.prog 21 #[.agg #[.int .i64 kk, .int .i64 kp, .int .i64 ks, .slice none 0 0]] W fun e w' => e = .returned (.agg #[.int .i64 kk, .int .i64 kp, .int .i64 0, .slice none 0 0]) ∧ Below W.heap.size W w' := by
  refine (callsIn_wide (n := 3)).1 (callsIn_of_wp_marks Try.func21 rfl trivial ?_ rfl)
  simp only [Try.ntmps21, List.size_toArray, List.length_cons, List.length_nil, Nat.reduceAdd, Nat.reduceSub, Array.replicate_succ, Array.replicate_zero, List.push_toArray, List.append_toArray, List.nil_append, List.cons_append]
  have hC0 : CpB W ((W.alloc (.cells #[.int .i64 kk, .int .i64 kp, .int .i64 0, .slice none 0 0] 24)).alloc (.cells #[.int .i64 0, .int .i64 0, .int .i64 0, .slice none 0 0] 24)) #[.int .i64 kk, .int .i64 kp, .int .i64 0, .slice none 0 0] #[.int .i64 0, .int .i64 0, .int .i64 0, .slice none 0 0] := by
    refine ⟨(below_alloc W _).alloc (by simp) _, (Box.new W _ _).alloc _, ?_⟩
    have := Box.new (W.alloc (.cells #[.int .i64 kk, .int .i64 kp, .int .i64 0, .slice none 0 0] 24)) 24 #[.int .i64 0, .int .i64 0, .int .i64 0, .slice none 0 0]
    rwa [World.size_alloc] at this
  have HC0 := hid hC0
  clear hC0
  gi_wp2_with ((try refine ⟨trivial, ?_⟩); gi_at_call 17; refine (callsIn_wide.2 (parts_any _ _ _ _)).mono ?_; rintro e w2 ⟨rfl, hb2, hz2, c1, c2, c3⟩)
  simp only [World.size_alloc] at hb2 hz2 c1 c2 c3
  have hC2 := HC0.out.below (by simpa only [World.size_alloc] using hb2)
  have hsw : W.heap.size + 1 + 1 ≤ w2.heap.size := by omega
  clear hb2 HC0
  refine range_own (n := 3) 32 (Kp := fun _ _ _ => True) (gf := 32) (lb := #[.pointer (some ⟨W.heap.size + 1 + 1, 0, none⟩), .pointer (some ⟨W.heap.size + 1 + 1 + 1, 0, none⟩), .pointer (some ⟨W.heap.size + 1 + 1 + 1 + 1, 0, none⟩)]) rfl (enters_of Try.func32 (by kernel_rfl) rfl)
    (parts_leaf w2 W.heap.size 0 0 0 _ _ _ c1 c2 c3) (fun _ _ => trivial) (fun _ _ _ _ _ _ _ _ _ => trivial) (Below.refl _ _) (fun _ => rfl)
    (fun _ pre X => CpB W X #[.int .i64 kk, .int .i64 kp, .int .i64 0, .slice none 0 0] #[.int .i64 0, .int .i64 0, .int .i64 0, .slice none 0 0])
    (fun c pre X => False)
    (fun _ pre X Y row h hg hr => h.own (by omega) hg hr) (fun c pre X Y row h hg hr => h)
    ⟨fun E pre X cs h hB => h.below (below_alloc _ _), fun E pre X b cs i u h _ hB hx => h.box (by omega) hB hx u, fun E b pre X h => h⟩
    (fun E pre X h => ⟨kk, kp, none, 0, h.b0.cell 0, h.b0.cell 1, h.b0.cell 3⟩) hC2
    (fun x a' X => a' = { tmps := #[.agg #[.int .i64 kk, .int .i64 kp, .int .i64 ks, .slice none 0 0], .pointer (some ⟨W.heap.size, 0, none⟩), .pointer (some ⟨W.heap.size + 1, 0, none⟩), .pointer (some ⟨W.heap.size, 0, none⟩), .pointer (some ⟨W.heap.size, 2, none⟩),
      .func (.func 32) #[] #[.pointer (some ⟨W.heap.size + 1 + 1, 0, none⟩), .pointer (some ⟨W.heap.size + 1 + 1 + 1, 0, none⟩), .pointer (some ⟨W.heap.size + 1 + 1 + 1 + 1, 0, none⟩)], .pointer (some ⟨W.heap.size, 0, none⟩), .agg x.row, undef, undef, undef, undef, undef, undef, undef, undef, undef], defers := [] })
    (fun x a' _ X Y row hs hg hr => hs)
    ?assign ?body ?done ?stop
  case assign =>
    rintro E l pre x X K h hK
    gi_wp2
    exact hK _ _ (KeepsFrom.refl _ _) trivial h rfl
  case body =>
    rintro E l pre x a' X hl ⟨rr, hrr⟩ h rfl hlt
    have y3 : X.cell? ⟨W.heap.size, 3, none⟩ = some (.slice none 0 0) := h.b0.cell 3
    have f3 := h.b0.free 3
    have H := hid h
    clear h
    gi_wp2_with ((try refine ⟨trivial, ?_⟩); gi_at_call 38; refine (callsIn_wide.2 (clone_nil _)).mono ?_; rintro e w3 ⟨rfl, rfl⟩)
    exact ⟨(KeepsOthers.setCell _ _ _).from _, trivial, below_set H.out.hb (Nat.le_refl _) _, H.out.b0.set (i := 3) (.slice none 0 0), H.out.b1.other (by omega) _⟩
  case done =>
    rintro D ys X hD hys h hK
    obtain ⟨q0, q1, q2, q3⟩ := box4_five h.b0
    obtain ⟨⟨r0, r1, r2, r3⟩, g0, g1, g2, g3⟩ := h.b1.four
    have H := hid h
    have HK := hid hK
    have hz := ((((h.b1.set (i := 0) (.int .i64 kk)).set (i := 1) (.int .i64 kp)).set (i := 2) (.int .i64 0)).set (i := 3) (.slice none 0 0))
    have HZ := hid hz
    clear h hK hz
    gi_wp2
    have dfr : ∀ {Y : World} {i : Nat} {u : Value}, Y.heap[D]? = some (.deferred (some [])) → (Y.setCell ⟨W.heap.size + 1, i, none⟩ u).heap[D]? = some (.deferred (some [])) := fun {Y i u} hY => (Below.heap_setCell Y ⟨W.heap.size + 1, i, none⟩ u D (by show D ≠ W.heap.size + 1; omega)).trans hY
    have hK5 := dfr (i := 3) (u := .slice none 0 0) (dfr (i := 2) (u := .int .i64 0) (dfr (i := 1) (u := .int .i64 kp) (dfr (i := 0) (u := .int .i64 kk) HK.out)))
    have hbf := below_set (i := 3) (below_set (i := 2) (below_set (i := 1) (below_set (i := 0) H.out.hb (show W.heap.size ≤ W.heap.size + 1 by omega) (.int .i64 kk)) (show W.heap.size ≤ W.heap.size + 1 by omega) (.int .i64 kp)) (show W.heap.size ≤ W.heap.size + 1 by omega) (.int .i64 0)) (show W.heap.size ≤ W.heap.size + 1 by omega) (.slice none 0 0)
    have hz2 := (World.putObj_heap_other (o := .deferred none) (show W.heap.size + 1 ≠ D by omega)).trans HZ.out
    obtain ⟨z0, z1, z2, z3⟩ := box4_five (x := .int .i64 kk) (y := .int .i64 kp) (z := .int .i64 0) (u := .slice none 0 0) hz2
    refine ⟨by simp, .inl ⟨_, _, rfl, run_takeDeferred hK5, ?_⟩⟩
    exact ⟨.agg #[.int .i64 kk, .int .i64 kp, .int .i64 0, .slice none 0 0], by simp [results, Try.f21, go_sem, z0, z1, z2, z3], rfl, hbf.trans (belowK_b (w := W) (Nat.le_refl _) _ D _ _ (by omega) hK5 rfl rfl)⟩
  case stop =>
    rintro D c pre X hD hpre h hK
    exact h.elim
/-- Within split: its variables. -/
structure SpB (W X : World) (k p : Int) (hv : Value) : Prop where
  hb : Below W.heap.size W X
  lt : W.heap.size + 1 + 1 < X.heap.size
  b0 : Box X W.heap.size 3 #[.int .i64 k]
  b1 : Box X (W.heap.size + 1) 22 #[hv]
  b2 : Box X (W.heap.size + 1 + 1) 3 #[.int .i64 p]
theorem SpB.own {W X Y : World} {k p : Int} {hv : Value} {row : Option Nat} {B : Nat} (h : SpB W X k p hv) (hB : W.heap.size ≤ B) (hg : X.grownBy Y row) (hr : ∀ r, row = some r → B ≤ r ∧ ∃ o : Obj, X.heap[r]? = some o ∧ o.isCells = false) : SpB W Y k p hv := by
  have k := fun {b : Nat} {t : TypeId} {cs : Array Value} (hb : Box X b t cs) => (grownBy_keeps_cells hg (fun r e => (hr r e).2) hb rfl).trans hb
  exact ⟨h.hb.grown hg h.hb.size (fun j e => by have := (hr j e).1; omega), Nat.lt_of_lt_of_le h.lt hg.size, k h.b0, k h.b1, k h.b2⟩
theorem SpB.below {W X Y : World} {k p : Int} {hv : Value} (h : SpB W X k p hv) (hb : Below X.heap.size X Y) : SpB W Y k p hv := ⟨h.hb.trans (hb.mono h.hb.size), Nat.lt_of_lt_of_le h.lt hb.size, h.b0.below hb h.b0.lt, h.b1.below hb h.b1.lt, h.b2.below hb h.b2.lt⟩
theorem SpB.box {W X : World} {k p : Int} {hv : Value} {B b i : Nat} {cs : Array Value} (h : SpB W X k p hv) (hB : W.heap.size ≤ B) (hb : B ≤ b) (hx : Box X b 32 cs) (u : Value) : SpB W (X.setCell ⟨b, i, none⟩ u) k p hv :=
  ⟨below_set h.hb (by omega) u, by rw [size_set]; exact h.lt, h.b0.other (box_ne h.b0 hx (by decide)) u, h.b1.other (box_ne h.b1 hx (by decide)) u, h.b2.other (box_ne h.b2 hx (by decide)) u⟩
set_option maxRecDepth 100000 in
set_option maxHeartbeats 8000000 in
theorem split_leaf (g hb : Nat) (k kp ks : Int) (W : World) (hg : Box W g 24 #[.int .i64 0, .int .i64 kp, .int .i64 ks, .slice none 0 0]) (hh : W.cell? ⟨hb, 1, none⟩ = some (.int .i64 kp)) :
    Calls Try.prog 30 #[.pointer (some ⟨g, 0, none⟩), .int .i64 k, .slice (some ⟨hb, 0, none⟩) 2 2] W fun e w' => (∃ v, e = .returned v) ∧ W.grownBy w' (some g) ∧ Box w' g 24 #[.int .i64 k, .int .i64 0, .int .i64 ks, .slice (some ⟨hb, 0, none⟩) 2 2] := by
  refine (callsIn_wide (n := 3)).1 (callsIn_of_wp_marks Try.func30 rfl trivial ?_ rfl)
  simp only [Try.ntmps30, List.size_toArray, List.length_cons, List.length_nil, Nat.reduceAdd, Nat.reduceSub, Array.replicate_succ, Array.replicate_zero, List.push_toArray, List.append_toArray, List.nil_append, List.cons_append]
  have hC0 : SpB W (((W.alloc (.cells #[.int .i64 k] 3)).alloc (.cells #[.slice (some ⟨hb, 0, none⟩) 2 2] 22)).alloc (.cells #[.int .i64 kp] 3)) k kp (.slice (some ⟨hb, 0, none⟩) 2 2) := by
    refine ⟨((below_alloc W _).alloc (by simp) _).alloc (by simp; omega) _, by simp, ((Box.new W _ _).alloc _).alloc _, ?_, ?_⟩
    · have := (Box.new (W.alloc (.cells #[.int .i64 k] 3)) 22 #[.slice (some ⟨hb, 0, none⟩) 2 2]).alloc (.cells #[.int .i64 kp] 3)
      rwa [World.size_alloc] at this
    · have := Box.new ((W.alloc (.cells #[.int .i64 k] 3)).alloc (.cells #[.slice (some ⟨hb, 0, none⟩) 2 2] 22)) 3 #[.int .i64 kp]
      rwa [World.size_alloc, World.size_alloc] at this
  have HC0 := hid hC0
  have hbl := t_cell_lt hh
  have hB2 := ((Below.refl W.heap.size W).alloc (Nat.le_refl _) (.cells #[.int .i64 k] 3)).alloc (by simp) (.cells #[.slice (some ⟨hb, 0, none⟩) 2 2] 22)
  have hh2 := (hB2.cell (p := ⟨hb, 1, none⟩) hbl).trans hh
  clear hC0 hB2
  gi_wp2_with ((try refine ⟨trivial, ?_⟩); gi_at_call 17; refine (callsIn_wide.2 (parts_any _ _ _ _)).mono ?_; rintro e w2 ⟨rfl, hb2, hz2, c1, c2, c3⟩)
  simp only [World.size_alloc] at hb2 hz2 c1 c2 c3
  have hC2 := HC0.out.below (by simpa only [World.size_alloc] using hb2)
  have hsw : W.heap.size + 1 + 1 + 1 ≤ w2.heap.size := by omega
  have hgl := hg.lt
  have HG := hid hg
  clear hb2 HC0 hg hh hh2
  refine range_own (n := 3) 32 (Kp := fun _ _ _ => True) (gf := 32) (lb := #[.pointer (some ⟨W.heap.size + 1 + 1 + 1, 0, none⟩), .pointer (some ⟨W.heap.size + 1 + 1 + 1 + 1, 0, none⟩), .pointer (some ⟨W.heap.size + 1 + 1 + 1 + 1 + 1, 0, none⟩)]) rfl (enters_of Try.func32 (by kernel_rfl) rfl)
    (parts_leaf w2 g 0 0 0 _ _ _ c1 c2 c3) (fun _ _ => trivial) (fun _ _ _ _ _ _ _ _ _ => trivial) (Below.refl _ _) (fun _ => rfl)
    (fun _ pre X => SpB W X k kp (.slice (some ⟨hb, 0, none⟩) 2 2) ∧ pre.length = 0)
    (fun c pre X => c = .ret ∧ W.grownBy X (some g) ∧ Box X g 24 #[.int .i64 k, .int .i64 0, .int .i64 ks, .slice (some ⟨hb, 0, none⟩) 2 2])
    (fun _ pre X Y row h hg hr => ⟨h.1.own (by omega) hg hr, h.2⟩)
    (fun c pre X Y row h hg hr => ⟨h.1, ⟨hg.os.trans h.2.1.os, hg.tape.trans h.2.1.tape, hg.output.trans h.2.1.output, Nat.le_trans h.2.1.size hg.size, fun j hj hne => (hg.block j (Nat.lt_of_lt_of_le hj h.2.1.size) (fun e => by have := (hr j e.symm).1; omega)).trans (h.2.1.block j hj hne)⟩, (grownBy_keeps_cells hg (fun r e => (hr r e).2) h.2.2 rfl).trans h.2.2⟩)
    ⟨fun E pre X cs h hB => ⟨h.1.below (below_alloc _ _), h.2⟩, fun E pre X b cs i u h _ hB hx => ⟨h.1.box (by omega) hB hx u, h.2⟩, fun E b pre X h => h⟩
    (fun E pre X h => by
      have hb := HG.out.below h.1.hb hgl
      exact ⟨0, kp, none, 0, hb.cell 0, hb.cell 1, hb.cell 3⟩) ⟨hC2, rfl⟩
    (fun x a' X => a' = { tmps := #[.pointer (some ⟨g, 0, none⟩), .int .i64 k, .slice (some ⟨hb, 0, none⟩) 2 2, undef, .pointer (some ⟨W.heap.size, 0, none⟩), .pointer (some ⟨W.heap.size + 1, 0, none⟩), .pointer (some ⟨W.heap.size + 1 + 1, 0, none⟩), .pointer (some ⟨g, 0, none⟩), undef, .slice (some ⟨hb, 0, none⟩) 2 2, .pointer (some ⟨hb, 0, none⟩), .pointer (some ⟨hb, 1, none⟩), .int .i64 kp, .pointer (some ⟨g, 0, none⟩),
      .func (.func 32) #[] #[.pointer (some ⟨W.heap.size + 1 + 1 + 1, 0, none⟩), .pointer (some ⟨W.heap.size + 1 + 1 + 1 + 1, 0, none⟩), .pointer (some ⟨W.heap.size + 1 + 1 + 1 + 1 + 1, 0, none⟩)], .pointer (some ⟨g, 0, none⟩), .agg x.row, undef, undef, undef, undef, undef, undef, undef, undef, undef, undef, undef, undef, undef, undef, undef, undef, undef, undef, undef, undef, undef, undef, undef, undef, undef, undef, undef, undef, undef, undef, undef, undef, undef, undef, undef, undef, undef, undef, undef, undef], defers := [] })
    (fun x a' _ X Y row hs hg hr => hs)
    ?assign ?body ?done ?stop
  case assign =>
    rintro E l pre x X K h hK
    gi_wp2
    exact hK _ _ (KeepsFrom.refl _ _) trivial h rfl
  case body =>
    rintro E l pre x a' X hl ⟨rr, hrr⟩ ⟨h, h0⟩ rfl hlt
    have hgX := HG.out.below h.hb hgl
    have y3 : X.cell? ⟨g, 3, none⟩ = some (.slice none 0 0) := hgX.cell 3
    have y6 : X.cell? ⟨W.heap.size + 1 + 1, 0, none⟩ = some (.int .i64 kp) := h.b2.cell 0
    have HK := hid (kid_none X g 0 0 none kp y3)
    have H := hid h
    clear h y3 hgX
    gi_upto_region 5 with ((try refine ⟨trivial, ?_⟩); gi_at_call 39; refine (callsIn_wide.2 HK.out).mono ?_; rintro e X1 ⟨rfl, hb1⟩)
    have H1 := hid (H.out.below hb1)
    have HO1 := hid (below_others hb1)
    clear hb1 y6 HK H
    have hS0 : Below X1.heap.size X1 X1.drew := below_drew X1 1
    refine wpIn_region_S (fun _ w' => Below X1.heap.size X1 w') (by kernel_rfl) (by kernel_rfl) (by rintro ⟨_, _, h⟩; exact h) ?_
    refine takeC (i := 0) (v := ?v0p) 20 rfl rfl (by kernel_rfl) (by kernel_rfl) (by kernel_rfl) (by kernel_rfl) (fun _ _ _ h => h) (Or.inl ⟨by rfl, fun w' hw' => ?hy0p⟩) hS0 ?rest0p
    case hy0p => go_simp; try with_reducible rfl
    try simp only [Act.put, List.setIfInBounds_toArray, List.set_cons_zero, List.set_cons_succ]
    refine takeC (i := 1) (v := ?v1p) 21 rfl rfl (by kernel_rfl) (by kernel_rfl) (by kernel_rfl) (by kernel_rfl) (fun _ _ _ h => h) (Or.inl ⟨by rfl, fun w' hw' => ?hy1p⟩) hS0 ?rest1p
    case hy1p => go_simp; try with_reducible rfl
    try simp only [Act.put, List.setIfInBounds_toArray, List.set_cons_zero, List.set_cons_succ]
    refine takeC (i := 2) (v := ?v2p) 22 rfl rfl (by kernel_rfl) (by kernel_rfl) (by kernel_rfl) (by kernel_rfl) (fun _ _ _ h => h) (Or.inl ⟨by rfl, fun w' hw' => ?hy2p⟩) hS0 ?rest2p
    case hy2p => go_simp; try with_reducible rfl
    try simp only [Act.put, List.setIfInBounds_toArray, List.set_cons_zero, List.set_cons_succ]
    refine takeC (i := 3) (v := undef) 23 rfl rfl (by kernel_rfl) (by kernel_rfl) (by kernel_rfl) (by kernel_rfl) (fun _ _ _ h => h) (Or.inr ⟨by rfl, by rfl⟩) hS0 ?_
    try simp only [Act.put, List.setIfInBounds_toArray, List.set_cons_zero, List.set_cons_succ]
    refine takeC (i := 4) (v := undef) 24 rfl rfl (by kernel_rfl) (by kernel_rfl) (by kernel_rfl) (by kernel_rfl) (fun _ _ _ h => h) (Or.inr ⟨by rfl, by rfl⟩) hS0 ?_
    try simp only [Act.put, List.setIfInBounds_toArray, List.set_cons_zero, List.set_cons_succ]
    refine takeC (i := 5) (v := undef) 25 rfl rfl (by kernel_rfl) (by kernel_rfl) (by kernel_rfl) (by kernel_rfl) (fun _ _ _ h => h) (Or.inr ⟨by rfl, by rfl⟩) hS0 ?_
    try simp only [Act.put, List.setIfInBounds_toArray, List.set_cons_zero, List.set_cons_succ]
    refine takeC (i := 6) (v := undef) 26 rfl rfl (by kernel_rfl) (by kernel_rfl) (by kernel_rfl) (by kernel_rfl) (fun _ _ _ h => h) (Or.inr ⟨by rfl, by rfl⟩) hS0 ?_
    try simp only [Act.put, List.setIfInBounds_toArray, List.set_cons_zero, List.set_cons_succ]
    refine takeC (i := 7) (v := undef) 27 rfl rfl (by kernel_rfl) (by kernel_rfl) (by kernel_rfl) (by kernel_rfl) (fun _ _ _ h => h) (Or.inr ⟨by rfl, by rfl⟩) hS0 ?_
    try simp only [Act.put, List.setIfInBounds_toArray, List.set_cons_zero, List.set_cons_succ]
    refine takeC (i := 8) (v := undef) 28 rfl rfl (by kernel_rfl) (by kernel_rfl) (by kernel_rfl) (by kernel_rfl) (fun _ _ _ h => h) (Or.inr ⟨by rfl, by rfl⟩) hS0 ?_
    try simp only [Act.put, List.setIfInBounds_toArray, List.set_cons_zero, List.set_cons_succ]
    refine takeC (i := 9) (v := ?v9p) 29 rfl rfl (by kernel_rfl) (by kernel_rfl) (by kernel_rfl) (by kernel_rfl) (fun _ _ _ h => h) (Or.inl ⟨by rfl, fun w' hw' => ?hy9p⟩) hS0 ?rest9p
    case hy9p => go_simp; try with_reducible rfl
    try simp only [Act.put, List.setIfInBounds_toArray, List.set_cons_zero, List.set_cons_succ]
    refine doneS (by kernel_rfl) ?_ _
    gi_upto_region 7 with fail
    have H2 := hid (H1.out.below hS0)
    have HO2 := hid (HO1.out.trans (below_others hS0))
    generalize X1.drew = X2 at *
    have hg2 := HG.out.below H2.out.hb hgl
    have e1 : X2.cell? ⟨g, 1, none⟩ = some (.int .i64 kp) := hg2.cell 1
    have e6 : X2.cell? ⟨W.heap.size + 1 + 1, 0, none⟩ = some (.int .i64 kp) := H2.out.b2.cell 0
    have l6 := H2.out.lt
    have lg := hg2.lt
    clear hS0 H1 HO1
    have hS0 : Below X2.heap.size X2 X2.drew := below_drew X2 1
    refine wpIn_region_S (fun _ w' => Below X2.heap.size X2 w') (by kernel_rfl) (by kernel_rfl) (by rintro ⟨_, _, h⟩; exact h) ?_
    refine takeC (i := 0) (v := ?v0q) 42 rfl rfl (by kernel_rfl) (by kernel_rfl) (by kernel_rfl) (by kernel_rfl) (fun _ _ _ h => h) (Or.inl ⟨by rfl, fun w' hw' => ?hy0q⟩) hS0 ?rest0q
    case hy0q => go_simp; try with_reducible rfl
    try simp only [Act.put, List.setIfInBounds_toArray, List.set_cons_zero, List.set_cons_succ]
    refine takeC (i := 1) (v := ?v1q) 43 rfl rfl (by kernel_rfl) (by kernel_rfl) (by kernel_rfl) (by kernel_rfl) (fun _ _ _ h => h) (Or.inl ⟨by rfl, fun w' hw' => ?hy1q⟩) hS0 ?rest1q
    case hy1q => go_simp; try with_reducible rfl
    try simp only [Act.put, List.setIfInBounds_toArray, List.set_cons_zero, List.set_cons_succ]
    refine takeC (i := 2) (v := ?v2q) 44 rfl rfl (by kernel_rfl) (by kernel_rfl) (by kernel_rfl) (by kernel_rfl) (fun _ _ _ h => h) (Or.inl ⟨by rfl, fun w' hw' => ?hy2q⟩) hS0 ?rest2q
    case hy2q => go_simp; try with_reducible rfl
    try simp only [Act.put, List.setIfInBounds_toArray, List.set_cons_zero, List.set_cons_succ]
    refine takeC (i := 3) (v := ?v3q) 45 rfl rfl (by kernel_rfl) (by kernel_rfl) (by kernel_rfl) (by kernel_rfl) (fun _ _ _ h => h) (Or.inl ⟨by rfl, fun w' hw' => ?hy3q⟩) hS0 ?rest3q
    case hy3q => have a3 := (hw'.cell (p := ⟨g, 1, none⟩) lg).trans e1; go_simp; try with_reducible rfl
    try simp only [Act.put, List.setIfInBounds_toArray, List.set_cons_zero, List.set_cons_succ]
    refine takeC (i := 4) (v := ?v4q) 46 rfl rfl (by kernel_rfl) (by kernel_rfl) (by kernel_rfl) (by kernel_rfl) (fun _ _ _ h => h) (Or.inl ⟨by rfl, fun w' hw' => ?hy4q⟩) hS0 ?rest4q
    case hy4q => have a4 := (hw'.cell (p := ⟨W.heap.size + 1 + 1, 0, none⟩) l6).trans e6; go_simp; try with_reducible rfl
    try simp only [Act.put, List.setIfInBounds_toArray, List.set_cons_zero, List.set_cons_succ]
    refine takeC (i := 5) (v := ?v5q) 47 rfl rfl (by kernel_rfl) (by kernel_rfl) (by kernel_rfl) (by kernel_rfl) (fun _ _ _ h => h) (Or.inl ⟨by rfl, fun w' hw' => ?hy5q⟩) hS0 ?rest5q
    case hy5q => go_simp; try with_reducible rfl
    try simp only [Act.put, List.setIfInBounds_toArray, List.set_cons_zero, List.set_cons_succ]
    refine doneS (by kernel_rfl) ?_ _
    gi_upto_region 8 with fail
    have H3 := hid (H2.out.below hS0)
    have HO3 := hid (HO2.out.trans (below_others hS0))
    generalize X2.drew = X3 at *
    have hg3 := HG.out.below H3.out.hb hgl
    have HG3 := hid hg3
    have i0 : X3.cell? ⟨W.heap.size, 0, none⟩ = some (.int .i64 k) := H3.out.b0.cell 0
    have i2 : X3.cell? ⟨g, 2, none⟩ = some (.int .i64 ks) := hg3.cell 2
    have i5 : X3.cell? ⟨W.heap.size + 1, 0, none⟩ = some (.slice (some ⟨hb, 0, none⟩) 2 2) := H3.out.b1.cell 0
    obtain ⟨⟨s0, s1, s2, s3⟩, t0, t1, t2, t3⟩ := hg3.four
    clear hS0 H2 HO2 e1 e6 l6 lg hg2
    have hS : ∀ L, TwoS 9 9 (fun w' => w'.cell? ⟨W.heap.size, 0, none⟩ = some (.int .i64 k) ∧ w'.cell? ⟨g, 2, none⟩ = some (.int .i64 ks) ∧ w'.cell? ⟨W.heap.size + 1, 0, none⟩ = some (.slice (some ⟨hb, 0, none⟩) 2 2)) (fun w' => w'.cell? ⟨W.heap.size, 0, none⟩ = some (.int .i64 k) ∧ w'.cell? ⟨g, 2, none⟩ = some (.int .i64 ks) ∧ w'.cell? ⟨W.heap.size + 1, 0, none⟩ = some (.slice (some ⟨hb, 0, none⟩) 2 2)) L X3.drew := fun L => ⟨fun _ => ⟨i0, i2, i5⟩, fun _ => ⟨i0, i2, i5⟩⟩
    refine wpIn_region_S (TwoS 9 9 (fun w' => w'.cell? ⟨W.heap.size, 0, none⟩ = some (.int .i64 k) ∧ w'.cell? ⟨g, 2, none⟩ = some (.int .i64 ks) ∧ w'.cell? ⟨W.heap.size + 1, 0, none⟩ = some (.slice (some ⟨hb, 0, none⟩) 2 2)) (fun w' => w'.cell? ⟨W.heap.size, 0, none⟩ = some (.int .i64 k) ∧ w'.cell? ⟨g, 2, none⟩ = some (.int .i64 ks) ∧ w'.cell? ⟨W.heap.size + 1, 0, none⟩ = some (.slice (some ⟨hb, 0, none⟩) 2 2))) (by kernel_rfl) (by kernel_rfl) (by rintro ⟨_, _, h⟩; exact h) ?_
    refine takeS (i := 0) (v := ?v0r) 48 rfl rfl (by kernel_rfl) (by kernel_rfl) (by kernel_rfl) (by kernel_rfl) (by decide) (by decide) (fun _ _ _ h => h) (Or.inl ⟨by rfl, fun w' _ => ?hy0r⟩) (hS _) ?rest0r
    case hy0r => go_simp; try with_reducible rfl
    try simp only [Act.put, List.setIfInBounds_toArray, List.set_cons_zero, List.set_cons_succ]
    refine takeS1 (i := 1) (v := ?v1r) 49 rfl rfl (by kernel_rfl) (by kernel_rfl) (by kernel_rfl) (by kernel_rfl) (by decide) (by decide) (by kernel_rfl) (fun _ _ _ h => h) (Or.inl ⟨by rfl, fun w' hw' => ?hy1r⟩) (hS _) ?rest1r
    case hy1r => have a1 := hw'.1; go_simp; try with_reducible rfl
    try simp only [Act.put, List.setIfInBounds_toArray, List.set_cons_zero, List.set_cons_succ]
    refine takeS (i := 2) (v := ?v2r) 50 rfl rfl (by kernel_rfl) (by kernel_rfl) (by kernel_rfl) (by kernel_rfl) (by decide) (by decide) (fun _ _ _ h => h) (Or.inl ⟨by rfl, fun w' _ => ?hy2r⟩) (hS _) ?rest2r
    case hy2r => go_simp; try with_reducible rfl
    try simp only [Act.put, List.setIfInBounds_toArray, List.set_cons_zero, List.set_cons_succ]
    refine takeS (i := 3) (v := ?v3r) 51 rfl rfl (by kernel_rfl) (by kernel_rfl) (by kernel_rfl) (by kernel_rfl) (by decide) (by decide) (fun _ _ _ h => h) (Or.inl ⟨by rfl, fun w' _ => ?hy3r⟩) (hS _) ?rest3r
    case hy3r => go_simp; try with_reducible rfl
    try simp only [Act.put, List.setIfInBounds_toArray, List.set_cons_zero, List.set_cons_succ]
    refine takeS (i := 4) (v := ?v4r) 52 rfl rfl (by kernel_rfl) (by kernel_rfl) (by kernel_rfl) (by kernel_rfl) (by decide) (by decide) (fun _ _ _ h => h) (Or.inl ⟨by rfl, fun w' _ => ?hy4r⟩) (hS _) ?rest4r
    case hy4r => go_simp; try with_reducible rfl
    try simp only [Act.put, List.setIfInBounds_toArray, List.set_cons_zero, List.set_cons_succ]
    refine takeS1 (i := 5) (v := ?v5r) 53 rfl rfl (by kernel_rfl) (by kernel_rfl) (by kernel_rfl) (by kernel_rfl) (by decide) (by decide) (by kernel_rfl) (fun _ _ _ h => h) (Or.inl ⟨by rfl, fun w' hw' => ?hy5r⟩) (hS _) ?rest5r
    case hy5r => have a2 := hw'.2.1; go_simp; try with_reducible rfl
    try simp only [Act.put, List.setIfInBounds_toArray, List.set_cons_zero, List.set_cons_succ]
    refine takeS1 (i := 6) (v := ?v6r) 54 rfl rfl (by kernel_rfl) (by kernel_rfl) (by kernel_rfl) (by kernel_rfl) (by decide) (by decide) (by kernel_rfl) (fun _ _ _ h => h) (Or.inl ⟨by rfl, fun w' hw' => ?hy6r⟩) (hS _) ?rest6r
    case hy6r => have a3 := hw'.2.2; go_simp; try with_reducible rfl
    try simp only [Act.put, List.setIfInBounds_toArray, List.set_cons_zero, List.set_cons_succ]
    refine takeS (i := 7) (v := ?v7r) 55 rfl rfl (by kernel_rfl) (by kernel_rfl) (by kernel_rfl) (by kernel_rfl) (by decide) (by decide) (fun _ _ _ h => h) (Or.inl ⟨by rfl, fun w' _ => ?hy7r⟩) (hS _) ?rest7r
    case hy7r => go_simp; try with_reducible rfl
    try simp only [Act.put, List.setIfInBounds_toArray, List.set_cons_zero, List.set_cons_succ]
    refine takeS (i := 8) (v := ?v8r) 56 rfl rfl (by kernel_rfl) (by kernel_rfl) (by kernel_rfl) (by kernel_rfl) (by decide) (by decide) (fun _ _ _ h => h) (Or.inl ⟨by rfl, fun w' _ => ?hy8r⟩) (hS _) ?rest8r
    case hy8r => go_simp; try with_reducible rfl
    try simp only [Act.put, List.setIfInBounds_toArray, List.set_cons_zero, List.set_cons_succ]
    refine oneS (k := 9) (by kernel_rfl) rfl (by rfl) (fun K hK => ?_)
    go_simp
    refine hK _ _ ⟨fun e => absurd e (by decide), fun e => absurd e (by decide)⟩ ?_
    clear hK K
    try simp only [Act.put, List.setIfInBounds_toArray, List.set_cons_zero, List.set_cons_succ]
    refine doneS (by kernel_rfl) ?_ _
    have hz := ((((HG3.out.set (i := 0) (.int .i64 k)).set (i := 1) (.int .i64 0)).set (i := 2) (.int .i64 ks)).set (i := 3) (.slice (some ⟨hb, 0, none⟩) 2 2))
    have HZ := hid hz
    clear hz
    have hsz : ((((X3.setCell ⟨g, 0, none⟩ (.int .i64 k)).setCell ⟨g, 1, none⟩ (.int .i64 0)).setCell ⟨g, 2, none⟩ (.int .i64 ks)).setCell ⟨g, 3, none⟩ (.slice (some ⟨hb, 0, none⟩) 2 2)).heap.size = X3.heap.size := by rw [size_set, size_set, size_set, size_set]
    gi_wp2
    refine ⟨(HO3.out.trans ((((KeepsOthers.setCell _ _ _).trans (KeepsOthers.setCell _ _ _)).trans (KeepsOthers.setCell _ _ _)).trans ((KeepsOthers.setCell _ _ _).trans (below_others (below_drew _ 1))))).from _, rfl, ⟨H3.out.hb.os, H3.out.hb.tape, H3.out.hb.output, Nat.le_trans H3.out.hb.size (Nat.le_of_eq hsz.symm), fun j hj hne => ?_⟩, HZ.out⟩
    have ne : j ≠ g := fun e => hne (by rw [e])
    exact (Below.heap_setCell _ ⟨g, 3, none⟩ _ j ne).trans ((Below.heap_setCell _ ⟨g, 2, none⟩ _ j ne).trans ((Below.heap_setCell _ ⟨g, 1, none⟩ _ j ne).trans ((Below.heap_setCell _ ⟨g, 0, none⟩ _ j ne).trans (H3.out.hb.block j hj))))
  case done =>
    rintro D ys X hD hys ⟨h, h0⟩ hK
    rw [h0] at hys
    cases hys
  case stop =>
    rintro D c pre X hD hpre ⟨rfl, h1, h2⟩ hK
    have HH := hid (And.intro h1 h2)
    have HK := hid hK
    clear h1 h2 hK
    gi_wp2
    refine ⟨by simp, .inl ⟨_, _, rfl, run_takeDeferred HK.out, ?_⟩⟩
    refine ⟨.tuple #[], by simp [results, Try.f30], ⟨_, rfl⟩, ⟨HH.out.1.os, HH.out.1.tape, HH.out.1.output, by simp [World.putObj]; exact HH.out.1.size, fun j hj hne => (World.putObj_heap_other (by omega)).trans (HH.out.1.block j hj hne)⟩, (World.putObj_heap_other (by omega)).trans HH.out.2⟩
end Go.Proofs.Ytgdndenjhnbkoaa
