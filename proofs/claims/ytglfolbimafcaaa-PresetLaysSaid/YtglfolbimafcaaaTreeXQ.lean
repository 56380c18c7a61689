/- Layer 11, the package: rects. -/
import Derived.Test.YtglfolbimafcaaaTreeRQ
import Derived.Maps.AppendAt
namespace Go.Proofs.Ytglfolbimafcaaa
open Go.RowKit Go.Shelf
attribute [local go_sem] Oper.semAt_some

def rflat : List Rc → List Value
  | [] => []
  | q :: l => q.row.toList ++ rflat l
theorem rflat_length : ∀ l, (rflat l).length = l.length * 5
  | [] => rfl
  | q :: l => by rw [rflat, List.length_append, rflat_length l]; simp [Rc.row]; omega
theorem rflat_append : ∀ a b, rflat (a ++ b) = rflat a ++ rflat b
  | [], _ => rfl
  | q :: a, b => by rw [List.cons_append, rflat, rflat, rflat_append a b, List.append_assoc]
theorem rflat_at : ∀ (l : List Rc) (j : Nat) (q : Rc) (i : Nat) (u : Value), l[j]? = some q → q.row[i]? = some u → (rflat l)[j * 5 + i]? = some u
  | [], _, _, _, _, h, _ => by simp at h
  | x :: l, 0, q, i, u, h, hu => by
    simp at h
    subst h
    have hi : i < 5 := by have := (Array.getElem?_eq_some_iff.1 hu).1; simpa [Rc.row] using this
    rw [rflat, List.getElem?_append_left (by simp [Rc.row]; omega)]
    simpa using hu
  | x :: l, j + 1, q, i, u, h, hu => by
    rw [rflat, List.getElem?_append_right (by simp [Rc.row]; omega)]
    have : x.row.toList.length = 5 := by simp [Rc.row]
    rw [this, show (j + 1) * 5 + i - 5 = j * 5 + i by omega]
    exact rflat_at l j q i u (by simpa using h) hu
theorem rflat_one : ∀ (l : List Rc) (u : Value), u ∈ rflat l → u.oneCell' = true
  | [], _, h => by cases h
  | q :: l, u, h => by
    rw [rflat, List.mem_append] at h
    rcases h with h | h
    · simp only [Rc.row, List.mem_cons, List.mem_nil_iff, or_false] at h
      rcases h with rfl | rfl | rfl | rfl | rfl <;> rfl
    · exact rflat_one l u h
/-- A slice of the call's own that holds these rects. -/
def OwnQ (W : World) (base : Nat) (v : Value) (l : List Rc) : Prop := W.ownsRow base 50 5 v l.length (rflat l)
theorem rc_info : (Try.prog.info? 50).map (fun i => (i.zero, i.size, i.bytes)) = some (some (.agg #[.int .i64 0, .int .i64 0, .int .i64 0, .int .i64 0, .int .i64 0]), 5, 40) := by kernel_rfl
theorem OwnQ.spell {W : World} {base : Nat} {v : Value} {l : List Rc} (h : OwnQ W base v l) : ∃ A c, v = .slice A l.length c := by
  rcases h.2 with ⟨rfl, h0⟩ | ⟨g, cap, cur, rfl, _⟩
  · exact ⟨_, _, by rw [h0]⟩
  · exact ⟨_, _, rfl⟩
theorem OwnQ.nil (W : World) (base : Nat) : OwnQ W base (.slice none 0 0) [] := ⟨rfl, .inl ⟨rfl, rfl⟩⟩
theorem OwnQ.kept {W W' : World} {base : Nat} {v : Value} {l : List Rc} (h : OwnQ W base v l) (hb : Below W.heap.size W W') : OwnQ W' base v l :=
  World.ownsRow.kept h ⟨hb.os, hb.tape, hb.output, hb.size, fun k hk _ => hb.block k hk⟩ (row := none) (by cases v.ownBlock <;> simp)
theorem OwnQ.not_box {W : World} {base b : Nat} {t : TypeId} {cs : Array Value} {v : Value} {l : List Rc} (h : OwnQ W base v l) (hb : Box W b t cs) (ht : t ≠ 50) : some b ≠ v.ownBlock := by
  rcases h.2 with ⟨rfl, _⟩ | ⟨g, cap, cur, rfl, _, hg, _⟩
  · simp [Value.ownBlock]
  · simp only [Value.ownBlock, ne_eq, Option.some.injEq]
    exact box_ne hb (show Box W g 50 cur from hg) ht
theorem OwnQ.set {W : World} {base b i : Nat} {v : Value} {l : List Rc} (h : OwnQ W base v l) (hne : v.ownBlock ≠ some b) (u : Value) : OwnQ (W.setCell ⟨b, i, none⟩ u) base v l := by
  refine World.ownsRow.kept h (row := some b) ⟨rfl, rfl, rfl, by simp [World.setCell], fun k _ hk => Below.heap_setCell _ _ _ _ (fun e => hk (by rw [e]))⟩ (.inr hne)
theorem OwnQ.grown_cells {X Y : World} {base : Nat} {v : Value} {l : List Rc} (h : OwnQ X base v l) {row : Option Nat} (hg : X.grownBy Y row) (hr : ∀ r, row = some r → ∃ o : Obj, X.heap[r]? = some o ∧ o.isCells = false) : OwnQ Y base v l := by
  refine World.ownsRow.kept h hg ?_
  rcases h.2 with ⟨rfl, _⟩ | ⟨g, cap, cur, rfl, _, hgb, _⟩
  · exact .inl rfl
  · refine .inr fun e => ?_
    obtain ⟨o, ho, hc⟩ := hr g e.symm
    rw [show X.heap[g]? = _ from hgb] at ho
    cases ho
    cases hc
theorem OwnQ.row {W : World} {base : Nat} {v : Value} {l : List Rc} (h : OwnQ W base v l) (hl : l ≠ []) : ∃ g c, v = .slice (some ⟨g, 0, none⟩) l.length c ∧ base ≤ g ∧ g < W.heap.size ∧ l.length ≤ c ∧ ∀ j q i u, l[j]? = some q → q.row[i]? = some u → W.cell? ⟨g, j * 5 + i, none⟩ = some u := by
  have h' : W.ownsRow base 50 5 v l.length (rflat l) := h
  rcases h.2 with ⟨rfl, h0⟩ | ⟨g, cap, cur, rfl, hb, hg, hc, _⟩
  · exact absurd (List.length_eq_zero_iff.1 h0) hl
  · refine ⟨g, cap, rfl, hb, (Array.getElem?_eq_some_iff.1 hg).1, hc, fun j q i u hj hu => ?_⟩
    have hj' : j < l.length := (List.getElem?_eq_some_iff.1 hj).1
    have hi : i < 5 := by have := (Array.getElem?_eq_some_iff.1 hu).1; simpa [Rc.row] using this
    rw [h'.cellAt (j * 5 + i) (by omega)]
    exact rflat_at l j q i u hj hu
theorem run_append_q (w : World) (base : Nat) (v : Value) (l : List Rc) (q : Rc) (g : Nat) (hown : OwnQ w base v l) (ty : TypeId) (hq : Box w g 50 q.row) (hb : l.length ≤ 1000) (hbase : base ≤ w.heap.size) :
    ∃ v' w', (Builtin.append_ #[46, 46] ty #[v, .slice (some ⟨g, 0, none⟩) 1 1]).run Try.prog w = .ok v' w' ∧ OwnQ w' base v' (l ++ [q]) ∧ w.grownBy w' v.ownBlock ∧ (v'.ownBlock = v.ownBlock ∨ v'.ownBlock = some w.heap.size) := by
  obtain ⟨i0, hi, hz0, hz1, hz2⟩ := info_parts rc_info
  obtain ⟨v', w', hrun, h2, h3, _, h5⟩ := run_append_own_at (P := Try.prog) (w := w) base 46 ty 50 i0 _ 5 40 Try.underlying46 hi hz0 hz1 hz2 rfl (by decide) v l.length (rflat l) hown ⟨g, 0, none⟩ 1 1 (rflat [q]) (rflat_length [q]) (lit_at (l := rflat [q]) (by simpa [rflat] using hq)) (rflat_one [q]) (by unfold maxLen; omega) (by omega) hbase
  refine ⟨v', w', hrun, ?_, h3, h5⟩
  unfold OwnQ
  rw [List.length_append, rflat_append]
  exact h2
theorem wpListIn_append_q {F : Fence} {n : Nat} {ops : Array Oper} {rest : List Oper} {o : Oper} {a : Act} {w : World} {Q : Exit → Act → World → Prop} (hg : o.guard = none) (s x : Operand)
    (ho : o.op = .call { callee := .builtin .append, args := #[s, x], argTypes := #[46, 46] }) (base : Nat) (v : Value) (l : List Rc) (q : Rc) (g : Nat)
    (hs : a.eval s = v) (hown : OwnQ w base v l) (hxe : a.eval x = .slice (some ⟨g, 0, none⟩) 1 1) (hx : Box w g 50 q.row) (hb : l.length ≤ 1000) (hbase : base ≤ w.heap.size)
    (h : ∀ v' w', OwnQ w' base v' (l ++ [q]) → w.grownBy w' v.ownBlock → (v'.ownBlock = v.ownBlock ∨ v'.ownBlock = some w.heap.size) → wpListIn F n Try.prog ops Q rest (a.put o.dst v') w') : wpListIn F n Try.prog ops Q (o :: rest) a w := by
  refine wpListIn_plain hg fun K hK' => ?_
  obtain ⟨v', w', hrun, r1, r2, r3⟩ := run_append_q w base v l q g hown o.type hx hb hbase
  unfold Oper.wpIn
  refine ⟨?_, ?_⟩
  · simp [Oper.about, ho, resolve, Target.leads, Sem.run_pure]
  · rw [Oper.semAt_plain F _ _ (by rw [ho]; intro c hc'; cases hc')]
    simp [execOp, ho, resolve, invoke, builtin, hs, hxe, hrun, Result.andThen]
    exact hK' _ _ (h v' w' r1 r2 r3)
/-- The variables of rects: the tree, the panes so far. -/
structure RcB (W X : World) (tc : Array Value) (v : Value) (l : List Rc) : Prop where
  hb : Below W.heap.size W X
  lt : W.heap.size + 1 < X.heap.size
  b0 : Box X W.heap.size 24 tc
  b1 : Box X (W.heap.size + 1) 46 #[v]
  ow : OwnQ X (W.heap.size + 1 + 1) v l
theorem RcB.w0 {W X : World} {tc : Array Value} {v : Value} {l : List Rc} (h : RcB W X tc v l) : Below (W.alloc (.cells tc 24)).heap.size (W.alloc (.cells tc 24)) X := by
  have hl := h.lt
  refine ⟨h.hb.os, h.hb.tape, h.hb.output, by simp; omega, fun k hk => ?_⟩
  rw [World.size_alloc] at hk
  by_cases e : k = W.heap.size
  · subst e; exact (show X.heap[W.heap.size]? = _ from h.b0).trans (heap_alloc_new W _).symm
  · exact (h.hb.block k (by omega)).trans (Below.heap_alloc W _ k (by omega)).symm
theorem RcB.below {W X Y : World} {tc : Array Value} {v : Value} {l : List Rc} (h : RcB W X tc v l) (hb : Below X.heap.size X Y) : RcB W Y tc v l := by
  have hl := h.lt
  exact ⟨h.hb.trans (hb.mono h.hb.size), Nat.lt_of_lt_of_le hl hb.size, h.b0.below hb (by omega), h.b1.below hb (by omega), h.ow.kept hb⟩
theorem RcB.own {W X Y : World} {tc : Array Value} {v : Value} {l : List Rc} {row : Option Nat} {B : Nat} (h : RcB W X tc v l) (hB : W.heap.size ≤ B) (hg : X.grownBy Y row) (hr : ∀ r, row = some r → B ≤ r ∧ ∃ o : Obj, X.heap[r]? = some o ∧ o.isCells = false) : RcB W Y tc v l := by
  have k := fun {b : Nat} {t : TypeId} {cs : Array Value} (hb : Box X b t cs) => (grownBy_keeps_cells hg (fun r e => (hr r e).2) hb rfl).trans hb
  exact ⟨h.hb.grown hg h.hb.size (fun j e => by have := (hr j e).1; omega), Nat.lt_of_lt_of_le h.lt hg.size, k h.b0, k h.b1, h.ow.grown_cells hg fun r e => (hr r e).2⟩
theorem RcB.box {W X : World} {tc : Array Value} {v : Value} {l : List Rc} {B b i : Nat} {cs : Array Value} (h : RcB W X tc v l) (hB : W.heap.size ≤ B) (hb : B ≤ b) (hx : Box X b 50 cs) (hne : v.ownBlock ≠ some b) (u : Value) : RcB W (X.setCell ⟨b, i, none⟩ u) tc v l :=
  ⟨below_set h.hb (by omega) u, by rw [size_set]; exact h.lt, h.b0.other (box_ne h.b0 hx (by decide)) u, h.b1.other (box_ne h.b1 hx (by decide)) u, h.ow.set hne u⟩
theorem RcB.push {W X Z w6 : World} {tc : Array Value} {l : List Rc} {v v' : Value} {q : Rc} (h : RcB W X tc v l) (hZ : Below X.heap.size X Z)
    (g6 : OwnQ w6 (W.heap.size + 1 + 1) v' (l ++ [q])) (k6 : Z.grownBy w6 v.ownBlock) (p6 : v'.ownBlock = v.ownBlock ∨ v'.ownBlock = some Z.heap.size) :
    (w6.cell? ⟨W.heap.size + 1, 0, none⟩ = some v ∧ w6.frozen? ⟨W.heap.size + 1, 0, none⟩ = false) ∧ RcB W (w6.setCell ⟨W.heap.size + 1, 0, none⟩ v') tc v' (l ++ [q]) ∧ KeepsOthers X (w6.setCell ⟨W.heap.size + 1, 0, none⟩ v') ∧
      (∀ E, (∀ b ∈ E, v.ownBlock ≠ some b) → KeptR (W.heap.size + 1) E X (w6.setCell ⟨W.heap.size + 1, 0, none⟩ v')) ∧ (∀ b, b < X.heap.size → v.ownBlock ≠ some b → v'.ownBlock ≠ some b) := by
  have hl := h.lt
  have oZ := h.ow.kept hZ
  have hs := hZ.size
  have bx := fun {b : Nat} {t : TypeId} {cs : Array Value} (hb : Box X b t cs) (ht : t ≠ 50) => ((hb.below hZ hb.lt).grown k6 (oZ.not_box (hb.below hZ hb.lt) ht) : Box w6 b t cs)
  have hbb : Below W.heap.size W w6 := (h.hb.trans (hZ.mono h.hb.size)).grown k6 (by omega) fun q hq => by have := (World.ownsRow.lt oZ q hq).1; omega
  have b2' := bx h.b1 (by decide)
  refine ⟨⟨b2'.cell 0, b2'.free 0⟩, ⟨below_set hbb (by omega) _, by rw [size_set]; have := k6.size; omega, (bx h.b0 (by decide)).other (by omega) _, b2'.set (i := 0) v', g6.set (g6.not_box b2' (by decide)).symm _⟩, ?_, fun E hE => ⟨?_, fun b hb cs hx => ?_⟩, fun b hb hne => ?_⟩
  · exact ((below_others hZ).trans (KeepsOthers.of_grownBy k6 fun j o hj ho => by
      rcases oZ.2 with ⟨rfl, _⟩ | ⟨g, cap, cur, rfl, _, hgb, _⟩
      · cases hj
      · cases hj
        rw [show Z.heap[g]? = _ from hgb] at ho
        cases ho
        rfl)).trans (KeepsOthers.setCell _ _ _)
  · exact below_set (((Below.refl _ X).trans (hZ.mono (by omega))).grown k6 (by omega) fun q hq => by have := (World.ownsRow.lt oZ q hq).1; omega) (by omega) _
  · have h1 := (hx.below hZ hx.lt).grown k6 (hE b hb).symm
    exact h1.other (box_ne b2' h1 (by decide)).symm _
  · rcases p6 with p | p
    · rw [p]; exact hne
    · rw [p]; intro e; cases e; omega
theorem panesOf_append (a b : List (Tr × Rc)) : panesOf (a ++ b) = panesOf a ++ panesOf b := by unfold panesOf; rw [List.filter_append, List.map_append]
/-- What rects comes to. -/
def RcPost (W : World) (l : List Rc) (e : Ending) (w' : World) : Prop := ∃ v, e = .returned v ∧ OwnQ w' (W.heap.size + 1 + 1) v l ∧ Below W.heap.size W w'
set_option maxRecDepth 100000 in
set_option maxHeartbeats 8000000 in
theorem rects_any (t : Tr) (kA : Option Addr) (km kc : Nat) (kk kp ks w h : Int) (W : World) (hkk : t.kind = kk) (hkp : t.pane = kp) (hks : t.size = ks) (ht : TrAt W t (.slice kA km kc)) (hc : cntT t ≤ 1000) :
    Calls Try.prog 28 #[.agg #[.int .i64 kk, .int .i64 kp, .int .i64 ks, .slice kA km kc], .int .i64 w, .int .i64 h] W (RcPost W (rectsT t w h)) := by
  have hnd := node_new t _ W ht
  unfold tcells at hnd
  rw [hkk, hkp, hks] at hnd
  have HND := hid hnd
  clear hnd ht
  obtain ⟨tc, htc⟩ : ∃ tc : Array Value, #[.int .i64 kk, .int .i64 kp, .int .i64 ks, .slice kA km kc] = tc := ⟨_, rfl⟩
  have hR0 : RcB W ((W.alloc (.cells tc 24)).alloc (.cells #[.slice none 0 0] 46)) tc (.slice none 0 0) [] := by
    refine ⟨(below_alloc W _).alloc (by simp) _, by simp, (Box.new W _ _).alloc _, ?_, OwnQ.nil _ _⟩
    have := Box.new (W.alloc (.cells tc 24)) 46 #[.slice none 0 0]
    rwa [World.size_alloc] at this
  have HR0 := hid hR0
  clear hR0
  refine (callsIn_wide (n := 3)).1 (callsIn_of_wp_marks Try.func28 rfl trivial ?_ rfl)
  simp only [Try.ntmps28, List.size_toArray, List.length_cons, List.length_nil, Nat.reduceAdd, Nat.reduceSub, Array.replicate_succ, Array.replicate_zero, List.push_toArray, List.append_toArray, List.nil_append, List.cons_append]
  gi_wp2_with ((try refine ⟨trivial, ?_⟩); gi_at_call 24; refine (callsIn_wide.2 (parts_any _ _ _ _)).mono ?_; rintro e w2 ⟨rfl, hb2, hz2, c1, c2, c3⟩)
  simp only [World.size_alloc] at hb2 hz2 c1 c2 c3
  rw [htc] at HND
  have hR2 := HR0.out.below (by simpa only [World.size_alloc] using hb2)
  have hw0 := hR2.w0
  have hseq := parts_seq (W.alloc (.cells tc 24)) w2 t W.heap.size 0 w h (W.heap.size + 1 + 1) (W.heap.size + 1 + 1 + 1) (W.heap.size + 1 + 1 + 1 + 1) HND.out hc hw0 c1 c2 c3
  have hsw : W.heap.size + 1 ≤ w2.heap.size := by omega
  clear hb2 HR0 hw0 c1 c2 c3
  refine range_own (n := 3) 50 (Kp := KeptR (W.alloc (.cells tc 24)).heap.size) (gf := 47) (lb := #[.pointer (some ⟨W.heap.size + 1 + 1, 0, none⟩), .pointer (some ⟨W.heap.size + 1 + 1 + 1, 0, none⟩), .pointer (some ⟨W.heap.size + 1 + 1 + 1 + 1, 0, none⟩)]) rfl (enters_of Try.func47 (by kernel_rfl) rfl)
    hseq (fun h k => h.trans k) (fun E X l o o' hl h1 h2 h3 => KeptR.put (w := w2) (by simp; omega) E X l o o' hl h1 h2 h3) (Below.refl _ _) (fun _ => rfl)
    (fun E pre X => ∃ v, RcB W X tc v (panesOf (itms pre)) ∧ ∀ b ∈ E, b < X.heap.size ∧ v.ownBlock ≠ some b)
    (fun c pre X => False)
    (fun E pre X Y row h hg hr => by obtain ⟨v, h1, h2⟩ := h; exact ⟨v, h1.own (by omega) hg hr, fun b hb => ⟨Nat.lt_of_lt_of_le (h2 b hb).1 hg.size, (h2 b hb).2⟩⟩)
    (fun c pre X Y row h hg hr => h)
    ⟨fun E pre X cs h hB => (by
        obtain ⟨v, h1, h2⟩ := h
        refine ⟨v, h1.below (below_alloc _ _), fun b hb => ?_⟩
        rcases List.mem_cons.1 hb with rfl | hb
        · exact ⟨by simp, fun e => by have := (World.ownsRow.lt h1.ow _ e).2; omega⟩
        · exact ⟨by have := (h2 b hb).1; simp; omega, (h2 b hb).2⟩),
      fun E pre X b cs i u h hE hB hx => (by obtain ⟨v, h1, h2⟩ := h; exact ⟨v, h1.box (by omega) hB hx (h2 b hE).2 u, fun b' hb => ⟨by rw [size_set]; exact (h2 b' hb).1, (h2 b' hb).2⟩⟩),
      fun E b pre X h => (by obtain ⟨v, h1, h2⟩ := h; exact ⟨v, h1, fun b' hb => h2 b' (List.mem_cons_of_mem _ hb)⟩)⟩
    (fun _ _ _ _ => trivial) ⟨_, hR2, fun b hb => by cases hb⟩
    (fun x a' X => ∃ Bx, W.heap.size + 1 < Bx ∧ Box X Bx 50 x.val.q.row ∧ a' = { tmps := #[.agg tc, .int .i64 w, .int .i64 h, .pointer (some ⟨W.heap.size, 0, none⟩), undef, undef, .slice none 0 0, .pointer (some ⟨W.heap.size + 1, 0, none⟩), .pointer (some ⟨x.val.g, x.val.o, none⟩), .pointer (some ⟨Bx, 0, none⟩), .int .i64 w, .int .i64 h,
      .func (.func 47) #[] #[.pointer (some ⟨W.heap.size + 1 + 1, 0, none⟩), .pointer (some ⟨W.heap.size + 1 + 1 + 1, 0, none⟩), .pointer (some ⟨W.heap.size + 1 + 1 + 1 + 1, 0, none⟩)], .pointer (some ⟨x.val.g, x.val.o, none⟩), .agg x.val.q.row, undef, undef, undef, undef, undef, undef, undef, undef, undef, undef], defers := [] })
    (fun x a' _ X Y row hs hg hr => by obtain ⟨Bx, h1, h2, h3⟩ := hs; exact ⟨Bx, h1, (grownBy_keeps_cells hg (fun r e => (hr r e).2) h2 rfl).trans h2, h3⟩)
    ?assign ?body ?done ?stop
  case assign =>
    rintro E l pre ⟨⟨g, o, pt, q⟩, hok⟩ X K ⟨v, h1, h2⟩ hK
    have hl1 := h1.lt
    obtain ⟨q0, q1, q2, q3, q4⟩ := q
    dsimp only [itEnc, Rc.row]
    gi_wp2
    exact hK _ _ ((KeepsOthers.alloc _ _).from _) (KeptR.of_below (by simp; omega) (below_alloc _ _)) ⟨v, h1.below (below_alloc _ _), fun b hb => ⟨by have := (h2 b hb).1; simp; omega, (h2 b hb).2⟩⟩ ⟨X.heap.size, by omega, Box.new _ _ _, rfl⟩
  case body =>
    rintro E l pre ⟨⟨g, o, pt, q⟩, hok⟩ a' X hl ⟨rr, hrr⟩ ⟨v, h1, h2⟩ ⟨Bx, hBx, bX, rfl⟩ hlt
    dsimp only at bX ⊢
    have hndX := hok.1.below h1.w0
    simp only at hndX
    obtain ⟨xv, x0, x1, x2, x3, _⟩ := hndX
    obtain ⟨⟨l0, l1, l2, l3, l4⟩, _⟩ := Box.five (show Box X Bx 50 #[.int .i64 q.pane, .int .i64 q.x, .int .i64 q.y, .int .i64 q.w, .int .i64 q.h] from bX)
    obtain ⟨pk, hpk⟩ : ∃ pk, pt.kind = pk := ⟨_, rfl⟩
    rw [hpk] at x0
    have hitx : itms (pre ++ [(⟨⟨g, o, pt, q⟩, hok⟩ : It (W.alloc (.cells tc 24)))]) = itms pre ++ [(pt, q)] := itms_append _ _
    have hl1 := h1.lt
    have H1 := hid h1
    have H2 := hid h2
    obtain ⟨vA, vc, hv⟩ := h1.ow.spell
    obtain ⟨pn, hpn⟩ : ∃ pn, (panesOf (itms pre)).length = pn := ⟨_, rfl⟩
    rw [hpn] at hv
    have hp1000 : pn ≤ 1000 := by
      rw [← hpn]
      have a1 : (panesOf (itms pre)).length ≤ (itms pre).length := by unfold panesOf; rw [List.length_map]; exact List.length_filter_le _ _
      have a2 : (itms pre).length = pre.length := List.length_map _
      omega
    have r0 : X.cell? ⟨W.heap.size + 1, 0, none⟩ = some v := h1.b1.cell 0
    clear x1 x2 x3 bX h1 h2
    by_cases hk0 : pk = 0
    · have HX := hid (show panesOf (itms pre ++ [(pt, q)]) = panesOf (itms pre) ++ [q] by rw [panesOf_append]; congr 1; simp [panesOf, hpk, hk0])
      subst hk0
      subst hv
      have HPN := hid hpn
      have hba := below_alloc X (.cells #[.int .i64 q.pane, .int .i64 q.x, .int .i64 q.y, .int .i64 q.w, .int .i64 q.h] 50)
      have HBA := hid hba
      have hq := Box.new X 50 #[.int .i64 q.pane, .int .i64 q.x, .int .i64 q.y, .int .i64 q.w, .int .i64 q.h]
      have HQ := hid hq
      clear hba hq hpn
      gi_wp2_with (gi_at_builtin; refine wpListIn_append_q rfl _ _ rfl (W.heap.size + 1 + 1) _ (panesOf (itms pre)) q X.heap.size rfl (H1.out.ow.kept HBA.out) rfl HQ.out (by rw [HPN.out]; exact hp1000) (by simp; omega) ?_; intro v6 w6 g6 k6 p6; obtain ⟨A6, c6, hv6⟩ := g6.spell; subst hv6; obtain ⟨n6, hn6⟩ : ∃ n6, (panesOf (itms pre) ++ [q]).length = n6 := ⟨_, rfl⟩; rw [hn6] at g6 p6 ⊢; obtain ⟨⟨y2, z2⟩, R6, ko6, kr6, ne6⟩ := H1.out.push HBA.out g6 k6 p6)
      exact ⟨ko6.from _, by rw [World.size_alloc]; exact kr6 E fun b hb => (H2.out b hb).2, _, by rw [hitx, HX.out]; exact R6, fun b hb => ⟨Nat.lt_of_lt_of_le (H2.out b hb).1 ko6.size, ne6 b (H2.out b hb).1 (H2.out b hb).2⟩⟩
    · have HX := hid (show panesOf (itms pre ++ [(pt, q)]) = panesOf (itms pre) by rw [panesOf_append]; simp [panesOf, hpk, hk0])
      gi_wp2
      exact ⟨KeepsFrom.refl _ _, KeptR.of_below (by simp; have := H1.out.lt; omega) (Below.refl _ _), v, by rw [hitx, HX.out]; exact H1.out, H2.out⟩
  case done =>
    rintro D ys X hD hys ⟨v, h1, h2⟩ hK
    rw [hys] at h1
    change RcB W X tc v (rectsT t w h) at h1
    obtain ⟨vA, vc, hv⟩ := h1.ow.spell
    subst hv
    have y0 : X.cell? ⟨W.heap.size + 1, 0, none⟩ = some (.slice vA (rectsT t w h).length vc) := h1.b1.cell 0
    have H1 := hid h1
    have HK := hid hK
    clear h1 h2 hK
    gi_wp2
    refine ⟨by simp, .inl ⟨_, _, rfl, run_takeDeferred HK.out, ?_⟩⟩
    exact ⟨_, by simp [results, Try.f28, go_sem], _, rfl, World.ownsRow.kept H1.out.ow (grownBy_putObj' X D (.deferred none)) (.inr fun e => by
      rcases H1.out.ow.2 with ⟨h0, _⟩ | ⟨g, cap, cur, h0, _, hgb, _⟩
      · rw [h0] at e; cases e
      · rw [h0] at e
        cases e
        rw [HK.out] at hgb
        cases hgb), H1.out.hb.trans (belowK_b (w := W) (Nat.le_refl _) X D _ _ (by omega) HK.out rfl rfl)⟩
  case stop =>
    rintro D c pre X hD hpre h hK
    exact h.elim
end Go.Proofs.Ytglfolbimafcaaa
