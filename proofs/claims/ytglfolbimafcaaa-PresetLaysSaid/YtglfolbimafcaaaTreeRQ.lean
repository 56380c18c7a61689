/- Layer 11, the package: Right. Made by wip/gen/treeR.py. -/
import Derived.Test.YtglfolbimafcaaaTreeIQ
import Derived.Test.YtglfolbimafcaaaHeldRQ
import Derived.Test.YtglfolbimafcaaaHeldSQ
namespace Go.Proofs.Ytglfolbimafcaaa
open Go.RowKit Go.Shelf
attribute [local go_sem] Oper.semAt_some

theorem run_append_int (w : World) (base : Nat) (v : Value) (l : List Int) (x : Int) (hown : OwnI w base v l) (ad : Addr) (ty : TypeId) (hc : w.cell? ad = some (.int .i64 x)) (hb : l.length ≤ 1000) (hbase : base ≤ w.heap.size) :
    ∃ v' w', (Builtin.append_ #[36, 36] ty #[v, .slice (some ad) 1 1]).run Try.prog w = .ok v' w' ∧ OwnI w' base v' (l ++ [x]) ∧ w.grownBy w' v.ownBlock := by
  obtain ⟨i0, hi', hz0, hz1, hz2⟩ := info_parts int_info
  have hnews : ∀ j u, [Value.int .i64 x][j]? = some u → w.cell? (ad.add j) = some u := by
    intro j u hu
    cases j with
    | zero =>
      have hadd : ad.add 0 = ad := by unfold Addr.add; obtain ⟨b, o, k⟩ := ad; cases k <;> rfl
      rw [hadd, hc]
      simpa using hu
    | succ j => simp at hu
  obtain ⟨v', w', hrun, h2, h3, _⟩ := run_append_own (P := Try.prog) w base 36 ty 3 i0 (.int .i64 0) 1 8 Try.underlying36 hi' hz0 hz1 hz2 rfl (by decide) v l.length (ints l) hown ad 1 1 [.int .i64 x] rfl hnews (by simp [Value.oneCell']) (by unfold maxLen; omega) (by omega) hbase
  refine ⟨v', w', hrun, ?_, h3⟩
  unfold OwnI
  rw [List.length_append, ints_append]
  exact h2
theorem wp_append_int {o : Oper} {a : Act} {w : World} {K : Act → World → Prop} {Q : Exit → Act → World → Prop} (s x : Operand)
    (ho : o.op = .call { callee := .builtin .append, args := #[s, x], argTypes := #[36, 36] }) (base : Nat) (v : Value) (l : List Int) (n : Int) (ad : Addr)
    (hs : a.eval s = v) (hown : OwnI w base v l) (hxe : a.eval x = .slice (some ad) 1 1) (hx : w.cell? ad = some (.int .i64 n)) (hb : l.length ≤ 1000) (hbase : base ≤ w.heap.size)
    (h : ∀ v' w', OwnI w' base v' (l ++ [n]) → w.grownBy w' v.ownBlock → K (a.put o.dst v') w') : Oper.wp Try.prog o a w K Q := by
  obtain ⟨v', w', hrun, h2, h3⟩ := run_append_int w base v l n hown ad o.type hx hb hbase
  unfold Oper.wp
  simp [execOp, ho, resolve, invoke, builtin, hs, hxe, hrun, Result.andThen]
  exact h v' w' h2 h3
theorem box_ne {X : World} {j b : Nat} {t t' : TypeId} {c c' : Array Value} (hj : Box X j t c) (hb : Box X b t' c') (ht : t ≠ t') : j ≠ b := by
  rintro rfl
  have h : some (Obj.cells c t (0, 0)) = some (Obj.cells c' t' (0, 0)) := (show X.heap[j]? = _ from hj).symm.trans hb
  injection h with h
  injection h with _ h
  exact ht h
/-- The variables of Right: the tree, the answer, the panes that were met. -/
structure RtB (W X : World) (tc : Array Value) (ps : List Int) : Prop where
  hb : Below W.heap.size W X
  lt : W.heap.size + 1 + 1 < X.heap.size
  b0 : Box X W.heap.size 24 tc
  b1 : Box X (W.heap.size + 1) 4 #[.bool false]
  b2 : ∃ v, Box X (W.heap.size + 1 + 1) 36 #[v] ∧ OwnI X (W.heap.size + 1 + 1 + 1) v ps
theorem RtB.w0 {W X : World} {tc : Array Value} {ps : List Int} (h : RtB W X tc ps) : Below (W.alloc (.cells tc 24)).heap.size (W.alloc (.cells tc 24)) X := by
  have hl := h.lt
  refine ⟨h.hb.os, h.hb.tape, h.hb.output, by simp; omega, fun k hk => ?_⟩
  rw [World.size_alloc] at hk
  by_cases e : k = W.heap.size
  · subst e; exact (show X.heap[W.heap.size]? = _ from h.b0).trans (heap_alloc_new W _).symm
  · exact (h.hb.block k (by omega)).trans (Below.heap_alloc W _ k (by omega)).symm
theorem RtB.others {W X Y : World} {tc : Array Value} {ps : List Int} {row : Option Nat} (_h : RtB W X tc ps) (hg : X.grownBy Y row) (hr : ∀ j o, row = some j → X.heap[j]? = some o → o.isCells = true) : KeepsOthers X Y := KeepsOthers.of_grownBy hg hr
theorem RtB.below {W X Y : World} {tc : Array Value} {ps : List Int} (h : RtB W X tc ps) (hb : Below X.heap.size X Y) : RtB W Y tc ps := by
  have hl := h.lt
  obtain ⟨v, b2, ow⟩ := h.b2
  exact ⟨h.hb.trans (hb.mono h.hb.size), Nat.lt_of_lt_of_le hl hb.size, h.b0.below hb (by omega), h.b1.below hb (by omega), v, b2.below hb (by omega), ow.kept hb⟩
theorem OwnI.grown_cells {X Y : World} {base : Nat} {v : Value} {l : List Int} (h : OwnI X base v l) {row : Option Nat} (hg : X.grownBy Y row) (hr : ∀ r, row = some r → ∃ o : Obj, X.heap[r]? = some o ∧ o.isCells = false) : OwnI Y base v l := by
  refine World.ownsRow.kept h hg ?_
  rcases h.2 with ⟨rfl, _⟩ | ⟨g, cap, cur, rfl, _, hgb, _⟩
  · exact .inl rfl
  · refine .inr fun e => ?_
    obtain ⟨o, ho, hc⟩ := hr g e.symm
    rw [show X.heap[g]? = _ from hgb] at ho
    cases ho
    cases hc
theorem RtB.own {W X Y : World} {tc : Array Value} {ps : List Int} {row : Option Nat} {B : Nat} (h : RtB W X tc ps) (hB : W.heap.size ≤ B) (hg : X.grownBy Y row) (hr : ∀ r, row = some r → B ≤ r ∧ ∃ o : Obj, X.heap[r]? = some o ∧ o.isCells = false) : RtB W Y tc ps := by
  have k := fun {b : Nat} {t : TypeId} {cs : Array Value} (hb : Box X b t cs) => (grownBy_keeps_cells hg (fun r e => (hr r e).2) hb rfl).trans hb
  obtain ⟨v, b2, ow⟩ := h.b2
  exact ⟨h.hb.grown hg h.hb.size (fun j e => by have := (hr j e).1; omega), Nat.lt_of_lt_of_le h.lt hg.size, k h.b0, k h.b1, v, k b2, ow.grown_cells hg fun r e => (hr r e).2⟩
theorem RtB.box {W X : World} {tc : Array Value} {ps : List Int} {B b i : Nat} {cs : Array Value} (h : RtB W X tc ps) (hB : W.heap.size ≤ B) (hb : B ≤ b) (hx : Box X b 50 cs) (u : Value) : RtB W (X.setCell ⟨b, i, none⟩ u) tc ps := by
  have ne := fun {j : Nat} {t : TypeId} {c : Array Value} (hj : Box X j t c) (ht : t ≠ 50) => (box_ne hj hx ht : j ≠ b)
  obtain ⟨v, b2, ow⟩ := h.b2
  exact ⟨below_set h.hb (by omega) u, by rw [size_set]; exact h.lt, h.b0.other (ne h.b0 (by decide)) u, h.b1.other (ne h.b1 (by decide)) u, v, b2.other (ne b2 (by decide)) u, ow.set hx (by decide) u⟩
/-- It is left: the answer is no. -/
structure RtX (W X : World) : Prop where
  hb : Below W.heap.size W X
  b1 : Box X (W.heap.size + 1) 4 #[.bool false]
theorem RtX.own {W X Y : World} {row : Option Nat} {B : Nat} (h : RtX W X) (hB : W.heap.size ≤ B) (hg : X.grownBy Y row) (hr : ∀ r, row = some r → B ≤ r ∧ ∃ o : Obj, X.heap[r]? = some o ∧ o.isCells = false) : RtX W Y :=
  ⟨h.hb.grown hg h.hb.size (fun j e => by have := (hr j e).1; omega), (grownBy_keeps_cells hg (fun r e => (hr r e).2) h.b1 rfl).trans h.b1⟩
theorem RtX.box {W X : World} {B b i : Nat} {cs : Array Value} (h : RtX W X) (hB : W.heap.size ≤ B) (hb : B ≤ b) (hx : Box X b 50 cs) (u : Value) : RtX W (X.setCell ⟨b, i, none⟩ u) :=
  ⟨below_set h.hb (by omega) u, h.b1.other (box_ne h.b1 hx (by decide)) u⟩
theorem below_others {X Y : World} (h : Below X.heap.size X Y) : KeepsOthers X Y := ⟨h.size, fun k _ ho _ => (h.block k (Array.getElem?_eq_some_iff.1 ho).1).trans ho⟩
theorem RtB.push {W X Z w6 : World} {tc : Array Value} {ps : List Int} {v v' : Value} {x : Int} (h : RtB W X tc ps) (b2 : Box X (W.heap.size + 1 + 1) 36 #[v]) (ow : OwnI X (W.heap.size + 1 + 1 + 1) v ps) (hZ : Below X.heap.size X Z)
    (g6 : OwnI w6 (W.heap.size + 1 + 1 + 1) v' (ps ++ [x])) (k6 : Z.grownBy w6 v.ownBlock) :
    (w6.cell? ⟨W.heap.size + 1 + 1, 0, none⟩ = some v ∧ w6.frozen? ⟨W.heap.size + 1 + 1, 0, none⟩ = false) ∧ RtB W (w6.setCell ⟨W.heap.size + 1 + 1, 0, none⟩ v') tc (ps ++ [x]) ∧ KeepsOthers X (w6.setCell ⟨W.heap.size + 1 + 1, 0, none⟩ v') ∧ ∀ E, KeptR (W.heap.size + 1) E X (w6.setCell ⟨W.heap.size + 1 + 1, 0, none⟩ v') := by
  have hl := h.lt
  have oZ := ow.kept hZ
  have hs := hZ.size
  have bx := fun {b : Nat} {t : TypeId} {cs : Array Value} (hb : Box X b t cs) (ht : t ≠ 3) => ((hb.below hZ hb.lt).grown k6 (oZ.not_box (hb.below hZ hb.lt) ht) : Box w6 b t cs)
  have hbb : Below W.heap.size W w6 := (h.hb.trans (hZ.mono h.hb.size)).grown k6 (by omega) fun q hq => by have := (World.ownsRow.lt oZ q hq).1; omega
  have b2' := bx b2 (by decide)
  have hne : ∀ {b : Nat} {cs : Array Value}, Box w6 b 50 cs → b ≠ W.heap.size + 1 + 1 := fun hb => box_ne hb b2' (by decide)
  refine ⟨⟨b2'.cell 0, b2'.free 0⟩, ⟨below_set hbb (by omega) _, by rw [size_set]; have := k6.size; omega, (bx h.b0 (by decide)).other (by omega) _, (bx h.b1 (by decide)).other (by omega) _, v', ?_, g6.set b2' (by decide) _⟩, ?_, fun E => ⟨?_, ?_⟩⟩
  · exact b2'.set (i := 0) v'
  · exact ((below_others hZ).trans (KeepsOthers.of_grownBy k6 fun j o hj ho => by
      rcases oZ.2 with ⟨rfl, _⟩ | ⟨g, cap, cur, rfl, _, hgb, _⟩
      · cases hj
      · cases hj
        rw [show Z.heap[g]? = _ from hgb] at ho
        cases ho
        rfl)).trans (KeepsOthers.setCell _ _ _)
  · exact below_set (((Below.refl _ X).trans (hZ.mono (by omega))).grown k6 (by omega) fun q hq => by have := (World.ownsRow.lt oZ q hq).1; omega) (by omega) _
  · intro b _ cs hb
    have := bx hb (by decide)
    exact this.other (hne this) _
def tcells (t : Tr) (kv : Value) : Array Value := #[.int .i64 t.kind, .int .i64 t.pane, .int .i64 t.size, kv]
theorem node_new (t : Tr) (kv : Value) (W : World) (h : TrAt W t kv) : NodeAt (W.alloc (.cells (tcells t kv) 24)) W.heap.size 0 t := by
  have hb := Box.new W 24 (tcells t kv)
  exact ⟨kv, hb.cell 0, hb.cell 1, hb.cell 2, hb.cell 3, h.below (below_alloc _ _)⟩
theorem rightGo_snoc_no {pre : List (Tr × Rc)} {ps : List Int} {x : Tr × Rc} (h : ∀ rest, rightGo [] (pre ++ rest) = rightGo ps rest) (hx : ∀ rest, rightGo ps (x :: rest) = false) : ∀ rest, rightGo [] ((pre ++ [x]) ++ rest) = false := fun rest => by rw [List.append_assoc]; exact (h _).trans (hx rest)
theorem rightGo_snoc {pre : List (Tr × Rc)} {ps ps' : List Int} {x : Tr × Rc} (h : ∀ rest, rightGo [] (pre ++ rest) = rightGo ps rest) (hx : ∀ rest, rightGo ps (x :: rest) = rightGo ps' rest) : ∀ rest, rightGo [] ((pre ++ [x]) ++ rest) = rightGo ps' rest := fun rest => by rw [List.append_assoc]; exact (h _).trans (hx rest)
set_option maxRecDepth 100000 in
set_option maxHeartbeats 1000000 in
theorem right_small (t : Tr) (kA : Option Addr) (km kc : Nat) (kk kp ks w h : Int) (W : World) (hsz : sizeB w h = false) :
    Calls Try.prog 8 #[.agg #[.int .i64 kk, .int .i64 kp, .int .i64 ks, .slice kA km kc], .int .i64 w, .int .i64 h] W fun e w' => e = .returned (.bool (rightB t w h)) ∧ Below W.heap.size W w' := by
  have HV : Hid (rightB t w h = false) := by unfold Hid rightB; rw [hsz]; rfl
  have hS := hid (fun W' => isSize_any w h W')
  rw [hsz] at hS
  have hB2 := ((Below.refl W.heap.size W).alloc (Nat.le_refl _) (.cells #[.int .i64 kk, .int .i64 kp, .int .i64 ks, .slice kA km kc] 24)).alloc (by simp) (.cells #[.bool false] 4)
  have hbx := Box.new (W.alloc (.cells #[.int .i64 kk, .int .i64 kp, .int .i64 ks, .slice kA km kc] 24)) 4 #[.bool false]
  rw [World.size_alloc] at hbx
  have z1 := hbx.cell 0
  have HB2 := hid hB2
  clear hB2
  refine (callsIn_wide (n := 3)).1 (callsIn_of_wp_marks Try.func8 rfl trivial ?_ rfl)
  simp only [Try.ntmps8, List.size_toArray, List.length_cons, List.length_nil, Nat.reduceAdd, Nat.reduceSub, Array.replicate_succ, Array.replicate_zero, List.push_toArray, List.append_toArray, List.nil_append, List.cons_append]
  gi_wp2_with ((try refine ⟨trivial, ?_⟩); gi_at_call 23; refine (callsIn_wide.2 (hS.out _)).mono ?_; rintro e w1 ⟨rfl, rfl⟩)
  exact ⟨.bool false, by simp [results, Try.f8, go_sem, z1], ret_bool HV.out.symm, HB2.out⟩
set_option maxRecDepth 100000 in
set_option maxHeartbeats 8000000 in
theorem right_big (t : Tr) (kA : Option Addr) (km kc : Nat) (kk kp ks w h : Int) (W : World) (hkk : t.kind = kk) (hkp : t.pane = kp) (hks : t.size = ks) (ht : TrAt W t (.slice kA km kc)) (hc : cntT t ≤ 1000) (hsz : sizeB w h = true) :
    Calls Try.prog 8 #[.agg #[.int .i64 kk, .int .i64 kp, .int .i64 ks, .slice kA km kc], .int .i64 w, .int .i64 h] W fun e w' => e = .returned (.bool (rightB t w h)) ∧ Below W.heap.size W w' := by
  have HV : Hid (rightB t w h = rightGo [] (items ⟨0, 0, 0, w, h⟩ t)) := by unfold Hid rightB; rw [hsz]; rfl
  have hS := hid (fun W' => isSize_any w h W')
  rw [hsz] at hS
  have hnd := node_new t _ W ht
  unfold tcells at hnd
  rw [hkk, hkp, hks] at hnd
  have HND := hid hnd
  clear hnd ht
  obtain ⟨tc, htc⟩ : ∃ tc : Array Value, #[.int .i64 kk, .int .i64 kp, .int .i64 ks, .slice kA km kc] = tc := ⟨_, rfl⟩
  have hR0 : RtB W (((W.alloc (.cells tc 24)).alloc (.cells #[.bool false] 4)).alloc (.cells #[.slice none 0 0] 36)) tc [] := by
    refine ⟨((below_alloc W _).alloc (by simp) _).alloc (by simp; omega) _, by simp, ((Box.new W _ _).alloc _).alloc _, ?_, .slice none 0 0, ?_, ⟨rfl, .inl ⟨rfl, rfl⟩⟩⟩
    · have := (Box.new (W.alloc (.cells tc 24)) 4 #[.bool false]).alloc (.cells #[.slice none 0 0] 36)
      rwa [World.size_alloc] at this
    · have := Box.new ((W.alloc (.cells tc 24)).alloc (.cells #[.bool false] 4)) 36 #[.slice none 0 0]
      rwa [World.size_alloc, World.size_alloc] at this
  have HR0 := hid hR0
  clear hR0
  refine (callsIn_wide (n := 3)).1 (callsIn_of_wp_marks Try.func8 rfl trivial ?_ rfl)
  simp only [Try.ntmps8, List.size_toArray, List.length_cons, List.length_nil, Nat.reduceAdd, Nat.reduceSub, Array.replicate_succ, Array.replicate_zero, List.push_toArray, List.append_toArray, List.nil_append, List.cons_append]
  gi_wp2_with ((try refine ⟨trivial, ?_⟩); first | (gi_at_call 23; refine (callsIn_wide.2 (hS.out _)).mono ?_; rintro e w1 ⟨rfl, rfl⟩) | (gi_at_call 24; refine (callsIn_wide.2 (parts_any _ _ _ _)).mono ?_; rintro e w2 ⟨rfl, hb2, hz2, c1, c2, c3⟩))
  simp only [World.size_alloc] at hb2 hz2 c1 c2 c3
  rw [htc] at HND
  have hR2 := HR0.out.below (by simpa only [World.size_alloc] using hb2)
  have hw0 := hR2.w0
  have hseq := parts_seq (W.alloc (.cells tc 24)) w2 t W.heap.size 0 w h (W.heap.size + 1 + 1 + 1) (W.heap.size + 1 + 1 + 1 + 1) (W.heap.size + 1 + 1 + 1 + 1 + 1) HND.out hc hw0 c1 c2 c3
  have hsw : W.heap.size + 1 ≤ w2.heap.size := by omega
  clear hb2 HR0 hw0 hS c1 c2 c3
  refine range_own (n := 3) 50 (Kp := KeptR (W.alloc (.cells tc 24)).heap.size) (gf := 47) (lb := #[.pointer (some ⟨W.heap.size + 1 + 1 + 1, 0, none⟩), .pointer (some ⟨W.heap.size + 1 + 1 + 1 + 1, 0, none⟩), .pointer (some ⟨W.heap.size + 1 + 1 + 1 + 1 + 1, 0, none⟩)]) rfl (enters_of Try.func47 (by kernel_rfl) rfl)
    hseq (fun h k => h.trans k) (fun E X l o o' hl h1 h2 h3 => KeptR.put (w := w2) (by simp; omega) E X l o o' hl h1 h2 h3) (Below.refl _ _) (fun _ => rfl)
    (fun _ pre X => ∃ ps, RtB W X tc ps ∧ ps.length ≤ 8 ∧ ∀ rest, rightGo [] (itms pre ++ rest) = rightGo ps rest)
    (fun c pre X => c = .ret ∧ RtX W X ∧ ∀ rest, rightGo [] (itms pre ++ rest) = false)
    (fun _ pre X Y row h hg hr => by obtain ⟨ps, h1, h2, h3⟩ := h; exact ⟨ps, h1.own (by omega) hg hr, h2, h3⟩)
    (fun c pre X Y row h hg hr => ⟨h.1, h.2.1.own (by omega) hg hr, h.2.2⟩)
    ⟨fun E pre X cs h hB => (by obtain ⟨ps, h1, h2, h3⟩ := h; exact ⟨ps, h1.below (below_alloc _ _), h2, h3⟩), fun E pre X b cs i u h _ hB hx => (by obtain ⟨ps, h1, h2, h3⟩ := h; exact ⟨ps, h1.box (by omega) hB hx u, h2, h3⟩), fun E b pre X h => h⟩
    (fun _ _ _ _ => trivial) ⟨[], hR2, by simp, fun rest => rfl⟩
    (fun x a' X => ∃ Bx, W.heap.size + 1 + 1 < Bx ∧ Box X Bx 50 x.val.q.row ∧ a' = { tmps := #[.agg tc, .int .i64 w, .int .i64 h, .pointer (some ⟨W.heap.size, 0, none⟩), undef, undef, .pointer (some ⟨W.heap.size + 1, 0, none⟩), .pointer (some ⟨W.heap.size + 1 + 1, 0, none⟩), .pointer (some ⟨x.val.g, x.val.o, none⟩), .pointer (some ⟨Bx, 0, none⟩), .int .i64 w, .int .i64 h, .bool true, .bool false, .int .i64 w, .int .i64 h,
      .func (.func 47) #[] #[.pointer (some ⟨W.heap.size + 1 + 1 + 1, 0, none⟩), .pointer (some ⟨W.heap.size + 1 + 1 + 1 + 1, 0, none⟩), .pointer (some ⟨W.heap.size + 1 + 1 + 1 + 1 + 1, 0, none⟩)], .pointer (some ⟨x.val.g, x.val.o, none⟩), .agg x.val.q.row, undef, undef, undef, undef, undef, undef, undef, undef, undef, undef, undef, undef, undef, undef, undef, undef, undef, undef, undef, undef, undef, undef, undef, undef, undef, undef, undef], defers := [] })
    (fun x a' _ X Y row hs hg hr => by obtain ⟨Bx, h1, h2, h3⟩ := hs; exact ⟨Bx, h1, (grownBy_keeps_cells hg (fun r e => (hr r e).2) h2 rfl).trans h2, h3⟩)
    ?assign ?body ?done ?stop
  case assign =>
    rintro E l pre ⟨⟨g, o, pt, q⟩, hok⟩ X K ⟨ps, h1, h2, h3⟩ hK
    have hl1 := h1.lt
    obtain ⟨q0, q1, q2, q3, q4⟩ := q
    dsimp only [itEnc, Rc.row]
    gi_wp2
    exact hK _ _ ((KeepsOthers.alloc _ _).from _) (KeptR.of_below (by simp; omega) (below_alloc _ _)) ⟨ps, h1.below (below_alloc _ _), h2, h3⟩ ⟨X.heap.size, by omega, Box.new _ _ _, rfl⟩
  case body =>
    rintro E l pre ⟨⟨g, o, pt, q⟩, hok⟩ a' X hl ⟨rr, hrr⟩ ⟨ps, h1, h8, h2⟩ ⟨Bx, hBx, bX, rfl⟩ hlt
    dsimp only at bX ⊢
    have hw0 := h1.w0
    have hndX := hok.1.below hw0
    simp only at hndX
    obtain ⟨xv, x0, x1, x2, x3, _⟩ := hndX
    have hglt : g < X.heap.size := t_cell_lt x0
    have hg0 : g < (W.alloc (.cells tc 24)).heap.size := by obtain ⟨_, y0, _⟩ := hok.1; exact t_cell_lt y0
    have hlen : pt.kids.length ≤ 1000 := by have h1 := len_cnt pt.kids; have h2 := hok.2; simp only at h2; cases pt; simp only [Tr.kids, cntT] at *; omega
    have hM := hid (show Calls Try.prog 25 #[.pointer (some ⟨g, o, none⟩), .agg #[.int .i64 q.pane, .int .i64 q.x, .int .i64 q.y, .int .i64 q.w, .int .i64 q.h]] X _ from made_any pt g o q X (hok.1.below hw0) hlen)
    obtain ⟨⟨l0, l1, l2, l3, l4⟩, _⟩ := Box.five (show Box X Bx 50 #[.int .i64 q.pane, .int .i64 q.x, .int .i64 q.y, .int .i64 q.w, .int .i64 q.h] from bX)
    obtain ⟨pk, hpk⟩ : ∃ pk, pt.kind = pk := ⟨_, rfl⟩
    obtain ⟨pp, hpp⟩ : ∃ pp, pt.pane = pp := ⟨_, rfl⟩
    rw [hpk] at x0
    rw [hpp] at x1
    have hitx : itms (pre ++ [(⟨⟨g, o, pt, q⟩, hok⟩ : It (W.alloc (.cells tc 24)))]) = itms pre ++ [(pt, q)] := itms_append _ _
    have H1 := hid h1
    have H2 := hid h2
    have HG0 := hid hg0
    clear hw0 x2 x3 bX h1 h2 hg0
    cases hmd : madeR pt q
    · rw [hmd] at hM
      have HX := hid (rightGo_snoc_no H2.out (x := (pt, q)) fun rest => by unfold rightGo; rw [if_pos hmd])
      gi_wp2_with ((try refine ⟨trivial, ?_⟩); gi_at_call 25; refine (callsIn_wide.2 hM.out).mono ?_; rintro e X1 ⟨rfl, hb1⟩; have R1 := H1.out.below hb1; have y0 : X1.cell? ⟨W.heap.size + 1, 0, none⟩ = some (.bool false) := R1.b1.cell 0; have y1 := R1.b1.free 0)
      exact ⟨((below_others hb1).trans (KeepsOthers.setCell _ _ _)).from _, rfl, ⟨below_set R1.hb (by omega) _, by have := R1.b1.set (i := 0) (.bool false); exact this⟩, by rw [hitx]; exact HX.out⟩
    · rw [hmd] at hM
      by_cases hk0 : pk = 0
      · subst hk0
        gi_upto_region 10 with ((try refine ⟨trivial, ?_⟩); gi_at_call 25; refine (callsIn_wide.2 hM.out).mono ?_; rintro e X1 ⟨rfl, hb1⟩; have y0 := (hb1.cell (p := ⟨g, o, none⟩) hglt).trans x0)
        have R1 := H1.out.below hb1
        have HK1 := hid (below_others hb1)
        have p1 := (hb1.cell (p := ⟨g, o + 1, none⟩) hglt).trans x1
        have hgl1 : g < X1.heap.size := Nat.lt_of_lt_of_le hglt hb1.size
        have HB1 := hid hb1
        obtain ⟨v2, b2, ow⟩ := R1.b2
        obtain ⟨vA, vc, rfl⟩ := ow.spell
        obtain ⟨pn, hpn⟩ : ∃ pn, ps.length = pn := ⟨_, rfl⟩
        have hb2l := b2.lt
        have HC := hid (fun (X' : World) (hb : Below X1.heap.size X1 X') => (contains_any _ ps pp _ X' (ow.kept hb) (by omega)).mono fun e w9 hw => (show e = .returned (.bool (decide (pp ∈ ps))) ∧ Below X'.heap.size X' w9 from ⟨hw.1, hw.2 ▸ Below.refl _ _⟩))
        rw [hpn] at b2 h8 HC
        have OW := hid ow
        have r0 : X1.cell? ⟨W.heap.size + 1 + 1, 0, none⟩ = some (.slice vA pn vc) := b2.cell 0
        have y0 : X1.cell? ⟨W.heap.size + 1, 0, none⟩ = some (.bool false) := R1.b1.cell 0
        have y1 := R1.b1.free 0
        have HR1 := hid R1
        clear hM x0 x1 l0 l1 l2 l3 l4 hb1 R1
        by_cases hp8 : pn = 8
        · subst hp8
          have HX := hid (rightGo_snoc_no H2.out (x := (pt, q)) fun rest => by unfold rightGo; rw [hmd, hpk, hpn]; rfl)
          have hS0 : Below X1.heap.size X1 _ := below_drew X1 1
          refine wpIn_region_S (fun _ w' => Below X1.heap.size X1 w') (by kernel_rfl) (by kernel_rfl) (by rintro ⟨_, _, h⟩; exact h) ?_
          refine takeC (i := 0) (v := ?v0t) 28 rfl rfl (by kernel_rfl) (by kernel_rfl) (by kernel_rfl) (by kernel_rfl) (fun _ _ _ h => h) (Or.inl ⟨by rfl, fun w' hw' => ?hy0t⟩) hS0 ?rest0t
          case hy0t => have a0 := (hw'.cell (p := ⟨W.heap.size + 1 + 1, 0, none⟩) hb2l).trans r0; go_simp; try with_reducible rfl
          try simp only [Act.put, List.setIfInBounds_toArray, List.set_cons_zero, List.set_cons_succ]
          refine takeC (i := 1) (v := ?v1t) 29 rfl rfl (by kernel_rfl) (by kernel_rfl) (by kernel_rfl) (by kernel_rfl) (fun _ _ _ h => h) (Or.inl ⟨by rfl, fun w' hw' => ?hy1t⟩) hS0 ?rest1t
          case hy1t => go_simp; try with_reducible rfl
          try simp only [Act.put, List.setIfInBounds_toArray, List.set_cons_zero, List.set_cons_succ]
          refine takeC (i := 2) (v := ?v2t) 30 rfl rfl (by kernel_rfl) (by kernel_rfl) (by kernel_rfl) (by kernel_rfl) (fun _ _ _ h => h) (Or.inl ⟨by rfl, fun w' hw' => ?hy2t⟩) hS0 ?rest2t
          case hy2t => go_simp; try with_reducible rfl
          try simp only [Act.put, List.setIfInBounds_toArray, List.set_cons_zero, List.set_cons_succ]
          refine takeC (i := 3) (v := ?v3t) 31 rfl rfl (by kernel_rfl) (by kernel_rfl) (by kernel_rfl) (by kernel_rfl) (fun _ _ _ h => h) (Or.inl ⟨by rfl, fun w' hw' => ?hy3t⟩) hS0 ?rest3t
          case hy3t => go_simp; try with_reducible rfl
          try simp only [Act.put, List.setIfInBounds_toArray, List.set_cons_zero, List.set_cons_succ]
          refine takeC (i := 4) (v := undef) 32 rfl rfl (by kernel_rfl) (by kernel_rfl) (by kernel_rfl) (by kernel_rfl) (fun _ _ _ h => h) (Or.inr ⟨by rfl, by rfl⟩) hS0 ?_
          try simp only [Act.put, List.setIfInBounds_toArray, List.set_cons_zero, List.set_cons_succ]
          refine takeC (i := 5) (v := undef) 33 rfl rfl (by kernel_rfl) (by kernel_rfl) (by kernel_rfl) (by kernel_rfl) (fun _ _ _ h => h) (Or.inr ⟨by rfl, by rfl⟩) hS0 ?_
          try simp only [Act.put, List.setIfInBounds_toArray, List.set_cons_zero, List.set_cons_succ]
          refine takeC (i := 6) (v := undef) 34 rfl rfl (by kernel_rfl) (by kernel_rfl) (by kernel_rfl) (by kernel_rfl) (fun _ _ _ h => h) (Or.inr ⟨by rfl, by rfl⟩) hS0 ?_
          try simp only [Act.put, List.setIfInBounds_toArray, List.set_cons_zero, List.set_cons_succ]
          refine takeC (i := 7) (v := undef) 35 rfl rfl (by kernel_rfl) (by kernel_rfl) (by kernel_rfl) (by kernel_rfl) (fun _ _ _ h => h) (Or.inr ⟨by rfl, by rfl⟩) hS0 ?_
          try simp only [Act.put, List.setIfInBounds_toArray, List.set_cons_zero, List.set_cons_succ]
          refine takeC (i := 8) (v := undef) 36 rfl rfl (by kernel_rfl) (by kernel_rfl) (by kernel_rfl) (by kernel_rfl) (fun _ _ _ h => h) (Or.inr ⟨by rfl, by rfl⟩) hS0 ?_
          try simp only [Act.put, List.setIfInBounds_toArray, List.set_cons_zero, List.set_cons_succ]
          refine takeC (i := 9) (v := undef) 37 rfl rfl (by kernel_rfl) (by kernel_rfl) (by kernel_rfl) (by kernel_rfl) (fun _ _ _ h => h) (Or.inr ⟨by rfl, by rfl⟩) hS0 ?_
          try simp only [Act.put, List.setIfInBounds_toArray, List.set_cons_zero, List.set_cons_succ]
          refine takeC (i := 10) (v := ?v10t) 38 rfl rfl (by kernel_rfl) (by kernel_rfl) (by kernel_rfl) (by kernel_rfl) (fun _ _ _ h => h) (Or.inl ⟨by rfl, fun w' hw' => ?hy10t⟩) hS0 ?rest10t
          case hy10t => go_simp; try with_reducible rfl
          try simp only [Act.put, List.setIfInBounds_toArray, List.set_cons_zero, List.set_cons_succ]
          refine doneS (by kernel_rfl) ?_ _
          gi_wp2
          exact ⟨(HK1.out.trans ((KeepsOthers.setCell X1 ⟨W.heap.size + 1, 0, none⟩ (.bool false)).trans (below_others (below_drew _ 1)))).from _, rfl, ⟨(below_set HR1.out.hb (by omega) _).trans ((below_drew _ 1).mono (by rw [size_set]; exact HR1.out.hb.size)), by have := HR1.out.b1.set (i := 0) (.bool false); exact this⟩, by rw [hitx]; exact HX.out⟩
        · have hp8i : ((pn : Int) == 8) = false := by simp; omega
          have hp8j : ¬ (pn : Int) = 8 := by omega
          have hpi : (pn : Int) ≤ 8 := by omega
          by_cases hin : pp ∈ ps
          · rw [decide_eq_true hin] at HC
            have HX := hid (rightGo_snoc_no H2.out (x := (pt, q)) fun rest => by unfold rightGo; rw [hmd, hpk, hpn, hpp]; simp [hp8, hin])
            have hS0 : Below X1.heap.size X1 _ := below_drew X1 1
            refine wpIn_region_S (fun _ w' => Below X1.heap.size X1 w') (by kernel_rfl) (by kernel_rfl) (by rintro ⟨_, _, h⟩; exact h) ?_
            refine takeC (i := 0) (v := ?v0a) 28 rfl rfl (by kernel_rfl) (by kernel_rfl) (by kernel_rfl) (by kernel_rfl) (fun _ _ _ h => h) (Or.inl ⟨by rfl, fun w' hw' => ?hy0a⟩) hS0 ?rest0a
            case hy0a => have a0 := (hw'.cell (p := ⟨W.heap.size + 1 + 1, 0, none⟩) hb2l).trans r0; go_simp; try with_reducible rfl
            try simp only [Act.put, List.setIfInBounds_toArray, List.set_cons_zero, List.set_cons_succ]
            refine takeC (i := 1) (v := ?v1a) 29 rfl rfl (by kernel_rfl) (by kernel_rfl) (by kernel_rfl) (by kernel_rfl) (fun _ _ _ h => h) (Or.inl ⟨by rfl, fun w' hw' => ?hy1a⟩) hS0 ?rest1a
            case hy1a => go_simp; try with_reducible rfl
            try simp only [Act.put, List.setIfInBounds_toArray, List.set_cons_zero, List.set_cons_succ]
            refine takeC (i := 2) (v := ?v2a) 30 rfl rfl (by kernel_rfl) (by kernel_rfl) (by kernel_rfl) (by kernel_rfl) (fun _ _ _ h => h) (Or.inl ⟨by rfl, fun w' hw' => ?hy2a⟩) hS0 ?rest2a
            case hy2a => go_simp; try with_reducible rfl
            try simp only [Act.put, List.setIfInBounds_toArray, List.set_cons_zero, List.set_cons_succ]
            refine takeC (i := 3) (v := ?v3a) 31 rfl rfl (by kernel_rfl) (by kernel_rfl) (by kernel_rfl) (by kernel_rfl) (fun _ _ _ h => h) (Or.inl ⟨by rfl, fun w' hw' => ?hy3a⟩) hS0 ?rest3a
            case hy3a => go_simp; try with_reducible rfl
            try simp only [Act.put, List.setIfInBounds_toArray, List.set_cons_zero, List.set_cons_succ]
            refine takeC (i := 4) (v := ?v4a) 32 rfl rfl (by kernel_rfl) (by kernel_rfl) (by kernel_rfl) (by kernel_rfl) (fun _ _ _ h => h) (Or.inl ⟨by rfl, fun w' hw' => ?hy4a⟩) hS0 ?rest4a
            case hy4a => have a4 := (hw'.cell (p := ⟨W.heap.size + 1 + 1, 0, none⟩) hb2l).trans r0; go_simp; try with_reducible rfl
            try simp only [Act.put, List.setIfInBounds_toArray, List.set_cons_zero, List.set_cons_succ]
            refine takeC (i := 5) (v := ?v5a) 33 rfl rfl (by kernel_rfl) (by kernel_rfl) (by kernel_rfl) (by kernel_rfl) (fun _ _ _ h => h) (Or.inl ⟨by rfl, fun w' hw' => ?hy5a⟩) hS0 ?rest5a
            case hy5a => go_simp; try with_reducible rfl
            try simp only [Act.put, List.setIfInBounds_toArray, List.set_cons_zero, List.set_cons_succ]
            refine takeC (i := 6) (v := ?v6a) 34 rfl rfl (by kernel_rfl) (by kernel_rfl) (by kernel_rfl) (by kernel_rfl) (fun _ _ _ h => h) (Or.inl ⟨by rfl, fun w' hw' => ?hy6a⟩) hS0 ?rest6a
            case hy6a => go_simp; try with_reducible rfl
            try simp only [Act.put, List.setIfInBounds_toArray, List.set_cons_zero, List.set_cons_succ]
            refine takeC (i := 7) (v := ?v7a) 35 rfl rfl (by kernel_rfl) (by kernel_rfl) (by kernel_rfl) (by kernel_rfl) (fun _ _ _ h => h) (Or.inl ⟨by rfl, fun w' hw' => ?hy7a⟩) hS0 ?rest7a
            case hy7a => go_simp; try with_reducible rfl
            try simp only [Act.put, List.setIfInBounds_toArray, List.set_cons_zero, List.set_cons_succ]
            refine takeC (i := 8) (v := ?v8a) 36 rfl rfl (by kernel_rfl) (by kernel_rfl) (by kernel_rfl) (by kernel_rfl) (fun _ _ _ h => h) (Or.inl ⟨by rfl, fun w' hw' => ?hy8a⟩) hS0 ?rest8a
            case hy8a => have a8 := (hw'.cell (p := ⟨g, o + 1, none⟩) hgl1).trans p1; go_simp; try with_reducible rfl
            try simp only [Act.put, List.setIfInBounds_toArray, List.set_cons_zero, List.set_cons_succ]
            refine oneS (k := 9) (by kernel_rfl) rfl (by rfl) (fun K hK => ?_)
            go_simp
            go_at_call 26
            refine (HC.out _ hS0).mono ?_
            rintro e w9 ⟨rfl, hb⟩
            dsimp only
            have hS1 := hS0.trans (hb.mono hS0.size)
            refine hK _ _ hS1 ?_
            clear hK K
            try simp only [Act.put, List.setIfInBounds_toArray, List.set_cons_zero, List.set_cons_succ]
            clear hS0 hb
            have hS0 := hS1
            clear hS1
            refine takeC (i := 10) (v := ?v10a) 38 rfl rfl (by kernel_rfl) (by kernel_rfl) (by kernel_rfl) (by kernel_rfl) (fun _ _ _ h => h) (Or.inl ⟨by rfl, fun w' hw' => ?hy10a⟩) hS0 ?rest10a
            case hy10a => go_simp; try with_reducible rfl
            try simp only [Act.put, List.setIfInBounds_toArray, List.set_cons_zero, List.set_cons_succ]
            refine doneS (by kernel_rfl) ?_ _
            have y9 := (hS0.cell (p := ⟨W.heap.size + 1, 0, none⟩) (show W.heap.size + 1 < X1.heap.size by omega)).trans y0
            have R9 := HR1.out.below hS0
            have z9 := R9.b1.free 0
            have HS9 := hid (below_others hS0)
            gi_wp2
            exact ⟨((HK1.out.trans HS9.out).trans (KeepsOthers.setCell _ _ _)).from _, rfl, ⟨below_set R9.hb (by omega) _, by have := R9.b1.set (i := 0) (.bool false); exact this⟩, by rw [hitx]; exact HX.out⟩
          · rw [decide_eq_false hin] at HC
            have HX := hid (rightGo_snoc H2.out (ps' := ps ++ [pp]) (x := (pt, q)) fun rest => by conv => lhs; unfold rightGo; rw [hmd, hpk, hpn, hpp]; simp [hp8, hin])
            have hS0 : Below X1.heap.size X1 _ := below_drew X1 1
            refine wpIn_region_S (fun _ w' => Below X1.heap.size X1 w') (by kernel_rfl) (by kernel_rfl) (by rintro ⟨_, _, h⟩; exact h) ?_
            refine takeC (i := 0) (v := ?v0b) 28 rfl rfl (by kernel_rfl) (by kernel_rfl) (by kernel_rfl) (by kernel_rfl) (fun _ _ _ h => h) (Or.inl ⟨by rfl, fun w' hw' => ?hy0b⟩) hS0 ?rest0b
            case hy0b => have a0 := (hw'.cell (p := ⟨W.heap.size + 1 + 1, 0, none⟩) hb2l).trans r0; go_simp; try with_reducible rfl
            try simp only [Act.put, List.setIfInBounds_toArray, List.set_cons_zero, List.set_cons_succ]
            refine takeC (i := 1) (v := ?v1b) 29 rfl rfl (by kernel_rfl) (by kernel_rfl) (by kernel_rfl) (by kernel_rfl) (fun _ _ _ h => h) (Or.inl ⟨by rfl, fun w' hw' => ?hy1b⟩) hS0 ?rest1b
            case hy1b => go_simp; try with_reducible rfl
            try simp only [Act.put, List.setIfInBounds_toArray, List.set_cons_zero, List.set_cons_succ]
            refine takeC (i := 2) (v := ?v2b) 30 rfl rfl (by kernel_rfl) (by kernel_rfl) (by kernel_rfl) (by kernel_rfl) (fun _ _ _ h => h) (Or.inl ⟨by rfl, fun w' hw' => ?hy2b⟩) hS0 ?rest2b
            case hy2b => go_simp; try with_reducible rfl
            try simp only [Act.put, List.setIfInBounds_toArray, List.set_cons_zero, List.set_cons_succ]
            refine takeC (i := 3) (v := ?v3b) 31 rfl rfl (by kernel_rfl) (by kernel_rfl) (by kernel_rfl) (by kernel_rfl) (fun _ _ _ h => h) (Or.inl ⟨by rfl, fun w' hw' => ?hy3b⟩) hS0 ?rest3b
            case hy3b => go_simp; try with_reducible rfl
            try simp only [Act.put, List.setIfInBounds_toArray, List.set_cons_zero, List.set_cons_succ]
            refine takeC (i := 4) (v := ?v4b) 32 rfl rfl (by kernel_rfl) (by kernel_rfl) (by kernel_rfl) (by kernel_rfl) (fun _ _ _ h => h) (Or.inl ⟨by rfl, fun w' hw' => ?hy4b⟩) hS0 ?rest4b
            case hy4b => have a4 := (hw'.cell (p := ⟨W.heap.size + 1 + 1, 0, none⟩) hb2l).trans r0; go_simp; try with_reducible rfl
            try simp only [Act.put, List.setIfInBounds_toArray, List.set_cons_zero, List.set_cons_succ]
            refine takeC (i := 5) (v := ?v5b) 33 rfl rfl (by kernel_rfl) (by kernel_rfl) (by kernel_rfl) (by kernel_rfl) (fun _ _ _ h => h) (Or.inl ⟨by rfl, fun w' hw' => ?hy5b⟩) hS0 ?rest5b
            case hy5b => go_simp; try with_reducible rfl
            try simp only [Act.put, List.setIfInBounds_toArray, List.set_cons_zero, List.set_cons_succ]
            refine takeC (i := 6) (v := ?v6b) 34 rfl rfl (by kernel_rfl) (by kernel_rfl) (by kernel_rfl) (by kernel_rfl) (fun _ _ _ h => h) (Or.inl ⟨by rfl, fun w' hw' => ?hy6b⟩) hS0 ?rest6b
            case hy6b => go_simp; try with_reducible rfl
            try simp only [Act.put, List.setIfInBounds_toArray, List.set_cons_zero, List.set_cons_succ]
            refine takeC (i := 7) (v := ?v7b) 35 rfl rfl (by kernel_rfl) (by kernel_rfl) (by kernel_rfl) (by kernel_rfl) (fun _ _ _ h => h) (Or.inl ⟨by rfl, fun w' hw' => ?hy7b⟩) hS0 ?rest7b
            case hy7b => go_simp; try with_reducible rfl
            try simp only [Act.put, List.setIfInBounds_toArray, List.set_cons_zero, List.set_cons_succ]
            refine takeC (i := 8) (v := ?v8b) 36 rfl rfl (by kernel_rfl) (by kernel_rfl) (by kernel_rfl) (by kernel_rfl) (fun _ _ _ h => h) (Or.inl ⟨by rfl, fun w' hw' => ?hy8b⟩) hS0 ?rest8b
            case hy8b => have a8 := (hw'.cell (p := ⟨g, o + 1, none⟩) hgl1).trans p1; go_simp; try with_reducible rfl
            try simp only [Act.put, List.setIfInBounds_toArray, List.set_cons_zero, List.set_cons_succ]
            refine oneS (k := 9) (by kernel_rfl) rfl (by rfl) (fun K hK => ?_)
            go_simp
            go_at_call 26
            refine (HC.out _ hS0).mono ?_
            rintro e w9 ⟨rfl, hb⟩
            dsimp only
            have hS1 := hS0.trans (hb.mono hS0.size)
            refine hK _ _ hS1 ?_
            clear hK K
            try simp only [Act.put, List.setIfInBounds_toArray, List.set_cons_zero, List.set_cons_succ]
            clear hS0 hb
            have hS0 := hS1
            clear hS1
            refine takeC (i := 10) (v := ?v10b) 38 rfl rfl (by kernel_rfl) (by kernel_rfl) (by kernel_rfl) (by kernel_rfl) (fun _ _ _ h => h) (Or.inl ⟨by rfl, fun w' hw' => ?hy10b⟩) hS0 ?rest10b
            case hy10b => go_simp; try with_reducible rfl
            try simp only [Act.put, List.setIfInBounds_toArray, List.set_cons_zero, List.set_cons_succ]
            refine doneS (by kernel_rfl) ?_ _
            gi_upto_region 12 with fail
            have HR9 := hid (HR1.out.below hS0)
            obtain ⟨v3, b3, ow3⟩ := HR9.out.b2
            obtain ⟨vA3, vc3, rfl⟩ := ow3.spell
            have HB3 := hid b3
            have HO3 := hid ow3
            rw [hpn] at b3
            have c9 : w9.cell? ⟨W.heap.size + 1 + 1, 0, none⟩ = some (.slice vA3 pn vc3) := b3.cell 0
            have p9 := (hS0.cell (p := ⟨g, o + 1, none⟩) hgl1).trans p1
            have HS9 := hid (below_others hS0)
            have HKR := hid (KeptR.of_below (B := W.heap.size + 1) (E := E) (by have := HR1.out.lt; omega) hS0)
            have hs9 := HR9.out.lt
            clear ow b2 r0 y0 y1 p1 hS0 b3 ow3
            have hS : ∀ L, TwoS 7 7 (fun w' => w'.cell? ⟨W.heap.size + 1 + 1, 0, none⟩ = some (.slice vA3 pn vc3) ∧ w'.cell? ⟨g, o + 1, none⟩ = some (.int .i64 pp)) (fun w' => w'.cell? ⟨W.heap.size + 1 + 1, 0, none⟩ = some (.slice vA3 pn vc3) ∧ w'.cell? ⟨g, o + 1, none⟩ = some (.int .i64 pp)) L w9.drew := fun L => ⟨fun _ => ⟨c9, p9⟩, fun _ => ⟨c9, p9⟩⟩
            refine wpIn_region_S (TwoS 7 7 (fun w' => w'.cell? ⟨W.heap.size + 1 + 1, 0, none⟩ = some (.slice vA3 pn vc3) ∧ w'.cell? ⟨g, o + 1, none⟩ = some (.int .i64 pp)) (fun w' => w'.cell? ⟨W.heap.size + 1 + 1, 0, none⟩ = some (.slice vA3 pn vc3) ∧ w'.cell? ⟨g, o + 1, none⟩ = some (.int .i64 pp))) (by kernel_rfl) (by kernel_rfl) (by rintro ⟨_, _, h⟩; exact h) ?_
            refine takeS1 (i := 0) (v := ?v0r) 39 rfl rfl (by kernel_rfl) (by kernel_rfl) (by kernel_rfl) (by kernel_rfl) (by decide) (by decide) (by kernel_rfl) (fun _ _ _ h => h) (Or.inl ⟨by rfl, fun w' hw' => ?hy0r⟩) (hS _) ?rest0r
            case hy0r => have a1 := hw'.1; go_simp; try with_reducible rfl
            try simp only [Act.put, List.setIfInBounds_toArray, List.set_cons_zero, List.set_cons_succ]
            refine takeS (i := 1) (v := ?v1r) 40 rfl rfl (by kernel_rfl) (by kernel_rfl) (by kernel_rfl) (by kernel_rfl) (by decide) (by decide) (fun _ _ _ h => h) (Or.inl ⟨by rfl, fun w' _ => ?hy1r⟩) (hS _) ?rest1r
            case hy1r => go_simp; try with_reducible rfl
            try simp only [Act.put, List.setIfInBounds_toArray, List.set_cons_zero, List.set_cons_succ]
            refine takeS (i := 2) (v := ?v2r) 41 rfl rfl (by kernel_rfl) (by kernel_rfl) (by kernel_rfl) (by kernel_rfl) (by decide) (by decide) (fun _ _ _ h => h) (Or.inl ⟨by rfl, fun w' _ => ?hy2r⟩) (hS _) ?rest2r
            case hy2r => go_simp; try with_reducible rfl
            try simp only [Act.put, List.setIfInBounds_toArray, List.set_cons_zero, List.set_cons_succ]
            refine takeS (i := 3) (v := ?v3r) 42 rfl rfl (by kernel_rfl) (by kernel_rfl) (by kernel_rfl) (by kernel_rfl) (by decide) (by decide) (fun _ _ _ h => h) (Or.inl ⟨by rfl, fun w' _ => ?hy3r⟩) (hS _) ?rest3r
            case hy3r => go_simp; try with_reducible rfl
            try simp only [Act.put, List.setIfInBounds_toArray, List.set_cons_zero, List.set_cons_succ]
            refine takeS1 (i := 4) (v := ?v4r) 43 rfl rfl (by kernel_rfl) (by kernel_rfl) (by kernel_rfl) (by kernel_rfl) (by decide) (by decide) (by kernel_rfl) (fun _ _ _ h => h) (Or.inl ⟨by rfl, fun w' hw' => ?hy4r⟩) (hS _) ?rest4r
            case hy4r => have a2 := hw'.2; go_simp; try with_reducible rfl
            try simp only [Act.put, List.setIfInBounds_toArray, List.set_cons_zero, List.set_cons_succ]
            refine oneS (k := 5) (by kernel_rfl) rfl (by rfl) (fun K hK => ?_)
            go_simp
            have hZ : Below w9.heap.size w9 (w9.drew.alloc (.cells #[.int .i64 pp] 3)) := (below_drew w9 1).alloc (Nat.le_refl _) _
            have s5 : (w9.drew.alloc (.cells #[.int .i64 pp] 3)).cell? ⟨W.heap.size + 1 + 1, 0, none⟩ = some (.slice vA3 pn vc3) ∧ (w9.drew.alloc (.cells #[.int .i64 pp] 3)).cell? ⟨g, o + 1, none⟩ = some (.int .i64 pp) := ⟨(hZ.cell (p := ⟨W.heap.size + 1 + 1, 0, none⟩) (show W.heap.size + 1 + 1 < w9.heap.size by omega)).trans c9, (hZ.cell (p := ⟨g, o + 1, none⟩) (t_cell_lt p9)).trans p9⟩
            have l5 : (w9.drew.alloc (.cells #[.int .i64 pp] 3)).cell? ⟨w9.heap.size, 0, none⟩ = some (.int .i64 pp) := (Box.new w9.drew 3 #[.int .i64 pp]).cell 0
            have o5 := HO3.out.kept hZ
            refine hK _ _ ⟨fun _ => s5, fun _ => s5⟩ ?_
            clear hK K
            try simp only [Act.put, List.setIfInBounds_toArray, List.set_cons_zero, List.set_cons_succ]
            refine oneS (k := 6) (by kernel_rfl) rfl (by rfl) (fun K hK => ?_)
            refine wp_append_int _ _ rfl (W.heap.size + 1 + 1 + 1) (.slice vA3 pn vc3) ps pp ⟨w9.heap.size, 0, none⟩ (by rw [← hpn]; rfl) (by rw [← hpn]; exact o5) rfl l5 (by omega) (by simp; omega) ?_
            intro v6 w6 g6 k6
            obtain ⟨A6, c6, rfl⟩ := g6.spell
            obtain ⟨n6, hn6⟩ : ∃ n6, (ps ++ [pp]).length = n6 := ⟨_, rfl⟩
            rw [hn6] at g6 ⊢
            rw [← hpn] at k6
            obtain ⟨⟨y2, z2⟩, R6, ko6, kr6⟩ := HR9.out.push HB3.out HO3.out hZ g6 k6
            have q6 : w6.cell? ⟨g, o + 1, none⟩ = some (.int .i64 pp) := (World.cell?_of_block (k6.block g (t_cell_lt s5.2) (fun e => by have h1 := (World.ownsRow.lt o5 g e.symm).1; have h2 := HG0.out; simp at h2; omega))).trans s5.2
            rw [hpn] at y2
            refine hK _ _ ⟨fun _ => ⟨y2, q6⟩, fun _ => ⟨y2, q6⟩⟩ ?_
            clear hK K
            try simp only [Act.put, List.setIfInBounds_toArray]
            refine oneS (k := 7) (by kernel_rfl) rfl (by rfl) (fun K hK => ?_)
            go_simp
            refine hK _ _ ⟨fun e => absurd e (by decide), fun e => absurd e (by decide)⟩ ?_
            clear hK K
            try simp only [Act.put, List.setIfInBounds_toArray, List.set_cons_zero, List.set_cons_succ]
            refine doneS (by kernel_rfl) ?_ _
            have HR6 := hid R6
            have HK6 := hid ko6
            have HKR6 := hid kr6
            clear hS s5 l5 o5 k6 g6 y2 z2 q6 c9 p9 R6 ko6 kr6 hZ
            gi_wp2
            exact ⟨(HK1.out.trans (HS9.out.trans HK6.out)).from _, by rw [World.size_alloc]; exact ((KeptR.of_below (by have := H1.out.lt; omega) HB1.out).trans HKR.out).trans (HKR6.out E), ps ++ [pp], HR6.out, by rw [List.length_append, List.length_singleton]; omega, by rw [hitx]; exact HX.out⟩
      · have hk0i : (pk == 0) = false := by simp [hk0]
        have HX := hid (rightGo_snoc H2.out (ps' := ps) (x := (pt, q)) fun rest => by conv => lhs; unfold rightGo; rw [hmd, hpk]; simp [hk0])
        gi_wp2_with ((try refine ⟨trivial, ?_⟩); gi_at_call 25; refine (callsIn_wide.2 hM.out).mono ?_; rintro e X1 ⟨rfl, hb1⟩; have y0 := (hb1.cell (p := ⟨g, o, none⟩) hglt).trans x0)
        exact ⟨(below_others hb1).from _, KeptR.of_below (by simp; have := H1.out.lt; omega) hb1, ps, H1.out.below hb1, h8, by rw [hitx]; exact HX.out⟩
  case done =>
    rintro D ys X hD hys ⟨ps, h1, h8, h2⟩ hK
    have hall := h2 []
    rw [List.append_nil, hys] at hall
    have HVV := hid (HV.out.trans hall)
    have hDl : W.heap.size + 1 + 1 < D := by omega
    have y0 : X.cell? ⟨W.heap.size + 1, 0, none⟩ = some (.bool false) := h1.b1.cell 0
    have y1 := h1.b1.free 0
    have H1 := hid h1
    have HK := hid hK
    clear h1 h2 hys hK hall
    gi_wp2
    have hK5 : (X.setCell ⟨W.heap.size + 1, 0, none⟩ (.bool true)).heap[D]? = some (.deferred (some [])) := (Below.heap_setCell X ⟨W.heap.size + 1, 0, none⟩ (.bool true) D (by show D ≠ W.heap.size + 1; omega)).trans HK.out
    have hz := H1.out.b1.set (i := 0) (.bool true)
    have hz2 : Box ((X.setCell ⟨W.heap.size + 1, 0, none⟩ (.bool true)).putObj D (.deferred none)) (W.heap.size + 1) 4 #[.bool true] := (World.putObj_heap_other (by omega)).trans hz
    have z1 := hz2.cell 0
    have hbb : Below W.heap.size W ((X.setCell ⟨W.heap.size + 1, 0, none⟩ (.bool true)).putObj D (.deferred none)) := (below_set H1.out.hb (by omega) _).trans (belowK_b (w := W) (Nat.le_refl _) _ D _ _ (by omega) hK5 rfl rfl)
    refine ⟨by simp, .inl ⟨_, _, rfl, run_takeDeferred hK5, ?_⟩⟩
    exact ⟨.bool true, by simp [results, Try.f8, go_sem, z1], ret_bool HVV.out.symm, hbb⟩
  case stop =>
    rintro D c pre X hD hpre ⟨rfl, h1, h2⟩ hK
    obtain ⟨tl, htl⟩ := hpre
    have hall := h2 tl
    rw [htl] at hall
    have HVV := hid (HV.out.trans hall)
    have hz2 : Box (X.putObj D (.deferred none)) (W.heap.size + 1) 4 #[.bool false] := (World.putObj_heap_other (by omega)).trans h1.b1
    have z1 := hz2.cell 0
    have hbb : Below W.heap.size W (X.putObj D (.deferred none)) := h1.hb.trans (belowK_b (w := W) (Nat.le_refl _) _ D _ _ (by omega) hK rfl rfl)
    have HK := hid hK
    clear h1 h2 hK hall htl hz2
    gi_wp2
    refine ⟨by simp, .inl ⟨_, _, rfl, run_takeDeferred HK.out, ?_⟩⟩
    exact ⟨.bool false, by simp [results, Try.f8, go_sem, z1], ret_bool HVV.out.symm, hbb⟩
theorem right_any (t : Tr) (kv : Value) (w h : Int) (W : World) (ht : TrAt W t kv) (hc : cntT t ≤ 1000) :
    Calls Try.prog 8 #[.agg #[.int .i64 t.kind, .int .i64 t.pane, .int .i64 t.size, kv], .int .i64 w, .int .i64 h] W fun e w' => e = .returned (.bool (rightB t w h)) ∧ Below W.heap.size W w' := by
  obtain ⟨kA, kc, rfl, hcap⟩ := ht.spell
  cases hsz : sizeB w h
  · exact right_small t kA _ kc _ _ _ w h W hsz
  · exact right_big t kA _ kc _ _ _ w h W rfl rfl rfl ht hc hsz
end Go.Proofs.Ytglfolbimafcaaa
