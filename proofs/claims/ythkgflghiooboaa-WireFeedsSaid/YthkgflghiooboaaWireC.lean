/- The package wire: Feed. -/
import Derived.Test.YthkgflghiooboaaWireB
namespace Go.Proofs.Ythkgflghiooboaa
open Go.RowKit Go.Shelf
attribute [local go_sem] Oper.semAt_some

/-- Frames' cells, one behind the other. -/
def flat : List Fr → List Value
  | [] => []
  | f :: l => .int .i64 f.tag :: .string f.text :: flat l
theorem flat_append : ∀ a b : List Fr, flat (a ++ b) = flat a ++ flat b
  | [], _ => rfl
  | f :: a, b => by simp [flat, flat_append a b]
theorem flat_length : ∀ a : List Fr, (flat a).length = a.length * 2
  | [] => rfl
  | f :: a => by simp [flat, flat_length a]; omega

/-- What Feed answers. -/
structure Fed where
  buf : ByteArray
  dead : Bool
  frames : List Fr
  err : Int
def framesG (s : ByteArray) : List Fr := (pairsG s).map (·.1)
def feedG (buf : ByteArray) (dead : Bool) (s : ByteArray) : Fed :=
  if rightB buf dead = false then ⟨⟨#[]⟩, false, [], 1⟩ else if dead = true then ⟨⟨#[]⟩, false, [], 8⟩
  else if spoiltB (leftG (buf ++ s)) = true then ⟨⟨#[]⟩, true, framesG (buf ++ s), 4⟩ else ⟨leftG (buf ++ s), false, framesG (buf ++ s), 0⟩

/-- What lies behind Feed: the row of frames. -/
def FedAt (r : Fed) (base : Nat) (e : Ending) (w' : World) : Prop :=
  ∃ v, e = .returned (.tuple #[.agg #[.string r.buf, .bool r.dead], v, .int .i64 r.err]) ∧ w'.ownsRow base 23 2 v r.frames.length (flat r.frames)

theorem info_fr : (Try.prog.info? 23).map (fun i => (i.zero, i.size, i.bytes)) = some (some (.agg #[.int .i64 0, .string ⟨#[]⟩]), 2, 24) := by kernel_rfl

theorem cell_two_new (w : World) (x y : Value) (t : TypeId) : ∀ j u, [x, y][j]? = some u → (w.alloc (.cells #[x, y] t)).cell? ((⟨w.heap.size, 0, none⟩ : Addr).add j) = some u := by
  intro j u hj
  have hadd : (⟨w.heap.size, 0, none⟩ : Addr).add j = ⟨w.heap.size, j, none⟩ := by unfold Addr.add; split <;> simp_all
  rw [hadd, cell_of_row _ _ j _ _ _ (heap_alloc_new w _)]
  simpa using hj

theorem ownsRow_nil' (w : World) (base : Nat) (e : TypeId) (size : Nat) : w.ownsRow base e size (.slice none 0 0) 0 [] := ⟨by simp, .inl ⟨rfl, rfl⟩⟩

/-- What is left when so many have come. -/
def lastR (s : ByteArray) (pre : List (Fr × ByteArray)) : ByteArray := (pre.getLast?.map (·.2)).getD s
theorem lastR_nil (s : ByteArray) : lastR s [] = s := rfl
theorem lastR_snoc (s : ByteArray) (pre : List (Fr × ByteArray)) (x : Fr × ByteArray) : lastR s (pre ++ [x]) = x.2 := by simp [lastR]
theorem lastR_all (s : ByteArray) : lastR s (pairsG s) = leftG s := by
  generalize hk : s.size = k
  induction k using Nat.strongRecOn generalizing s with
  | ind k ih =>
    cases h : standsB s
    · rw [pairsG_no h, leftG_no h]; rfl
    · have h1 := ih _ (by have := restOf_lt h; omega) (restOf s) rfl
      rw [pairsG_yes h, leftG_yes h, ← h1]
      unfold lastR
      cases hq : pairsG (restOf s) with
      | nil => simp
      | cons a l =>
        rw [List.getLast?_cons_cons]
        simp [List.getLast?_cons]
theorem leftG_size (s : ByteArray) : (leftG s).size ≤ s.size := by
  generalize hk : s.size = k
  induction k using Nat.strongRecOn generalizing s with
  | ind k ih =>
    cases h : standsB s
    · rw [leftG_no h]; omega
    · have h1 := ih _ (by have := restOf_lt h; omega) (restOf s) rfl
      have := restOf_lt h
      rw [leftG_yes h]; omega
theorem pairsG_length (s : ByteArray) : (pairsG s).length ≤ s.size := by
  generalize hk : s.size = k
  induction k using Nat.strongRecOn generalizing s with
  | ind k ih =>
    cases h : standsB s
    · rw [pairsG_no h]; simp
    · have h1 := ih _ (by have := restOf_lt h; omega) (restOf s) rfl
      have := restOf_lt h
      rw [pairsG_yes h]; simp; omega

theorem blk_own {β : Type} (B : Nat) (o : Obj) (ho : o.isCells = true) : Own (fun (_ : β) W => W.heap[B]? = some o) := fun s X Y row hs hg hrow =>
  (hg.block B (Array.getElem?_eq_some_iff.1 hs).1 (fun e' => by obtain ⟨o', ho', hc⟩ := hrow B e'.symm; rw [hs] at ho'; cases ho'; rw [ho] at hc; cases hc)).trans hs

theorem blk_not_row {W : World} {B : Nat} {t e : TypeId} {cs : Array Value} (h : W.heap[B]? = some (.cells cs t (0, 0))) (hte : t ≠ e) {base size k : Nat} {v : Value} {xs : List Value} (hr : W.ownsRow base e size v k xs) : some B ≠ v.ownBlock := by
  rcases hr.2 with ⟨rfl, _⟩ | ⟨g, cap, cur, rfl, _, hgb, _⟩
  · simp [Value.ownBlock]
  · intro e'
    obtain rfl : B = g := by simpa [Value.ownBlock] using e'
    have := h.symm.trans hgb
    simp at this
    exact hte this.2

theorem heap_set {W : World} {b i : Nat} {t : TypeId} {cs : Array Value} (h : W.heap[b]? = some (.cells cs t (0, 0))) (u : Value) : (W.setCell ⟨b, i, none⟩ u).heap[b]? = some (.cells (cs.setIfInBounds i u) t (0, 0)) := by
  simp [World.setCell, Array.getElem?_modify, h]
theorem stored_two {W : World} {B : Nat} {t : TypeId} {x y : Value} (h : W.heap[B]? = some (.cells #[x, y] t (0, 0))) (u u' : Value) :
    ((W.setCell ⟨B, 0, none⟩ u).setCell ⟨B, 1, none⟩ u').heap[B]? = some (.cells #[u, u'] t (0, 0)) ∧ W.grownBy ((W.setCell ⟨B, 0, none⟩ u).setCell ⟨B, 1, none⟩ u') (some B) := by
  refine ⟨heap_set (heap_set h u) u', rfl, rfl, rfl, by simp [World.setCell], fun k _ hk => ?_⟩
  have hk : k ≠ B := fun e => hk (by rw [e])
  exact (Below.heap_setCell _ _ _ _ hk).trans (Below.heap_setCell _ _ _ _ hk)
theorem stored_two_drew {W : World} {B : Nat} {t : TypeId} {x y : Value} (h : W.heap[B]? = some (.cells #[x, y] t (0, 0))) (u u' : Value) :
    ((W.setCell ⟨B, 0, none⟩ u).setCell ⟨B, 1, none⟩ u').drew.heap[B]? = some (.cells #[u, u'] t (0, 0)) ∧ W.grownBy ((W.setCell ⟨B, 0, none⟩ u).setCell ⟨B, 1, none⟩ u').drew (some B) := by
  obtain ⟨h1, h2⟩ := stored_two h u u'
  exact ⟨h1, h2.os, h2.tape, h2.output, h2.size, h2.block⟩
theorem grown_of {W W' : World} (hb : Below W.heap.size W W') (row : Option Nat) : W.grownBy W' row := ⟨hb.os, hb.tape, hb.output, hb.size, fun k hk _ => hb.block k hk⟩
theorem kept_below {W W' : World} {base : Nat} {e : TypeId} {size : Nat} {v : Value} {n : Nat} {xs : List Value} (h : W.ownsRow base e size v n xs) (hb : Below W.heap.size W W') : W'.ownsRow base e size v n xs :=
  h.kept (grown_of hb none) (by cases v.ownBlock <;> simp)

set_option maxHeartbeats 1000000 in
theorem feed_no (buf s : ByteArray) (dead : Bool) (w : World) (hs : buf.size + s.size ≤ 1000000) (h : rightB buf dead = false ∨ dead = true) :
    Calls Try.prog 9 #[.agg #[.string buf, .bool dead], .string s] w fun e w' => FedAt (feedG buf dead s) w.heap.size e w' ∧ Below w.heap.size w w' := by
  have hr := fun W => right_any buf dead W (by unfold maxLen; omega)
  by_cases hR : rightB buf dead = false
  · have HF : Hid (feedG buf dead s = ⟨⟨#[]⟩, false, [], 1⟩) := by unfold Hid feedG; rw [if_pos hR]
    rw [hR] at hr
    clear h hR
    go_enter Try.func9, Try.ntmps9
    go_wp2_with (go_at_call 11; refine (hr _).mono ?_; rintro e w2 ⟨rfl, hb⟩; obtain ⟨hc, hf⟩ := bcell hb)
    have hz2 : w.heap.size + 1 + 1 ≤ w2.heap.size := by have := hb.size; simp at this; omega
    have bD : w2.heap[w.heap.size + 1]? = some (.cells #[.string ⟨#[]⟩, .bool false] 25 (0, 0)) := by
      refine (hb.block _ (by simp)).trans ?_
      have := heap_alloc_new (w.alloc (.cells #[.string buf, .bool dead] 25)) (.cells #[.string ⟨#[]⟩, .bool false] 25)
      rw [World.size_alloc] at this
      exact this
    obtain ⟨sb, sg⟩ := stored_two bD (.string ⟨#[]⟩) (.bool false)
    have c0 := cell_of_row _ _ 0 _ _ _ sb
    have c1 := cell_of_row _ _ 1 _ _ _ sb
    have hbw : Below w.heap.size w w2 := Below.behind (Below.behind hb)
    exact bodyPost_ret (v := .tuple #[.agg #[.string ⟨#[]⟩, .bool false], .slice none 0 0, .int .i64 1]) (by simp [results, Try.f9, go_sem, c0, c1]) rfl ⟨⟨_, by rw [HF.out], by rw [HF.out]; exact ownsRow_nil' _ _ _ _⟩, hbw.grown sg hbw.size (fun k e => by cases e; omega)⟩
  · obtain rfl : dead = true := h.resolve_left hR
    have hR : rightB buf true = true := by simpa using hR
    have HF : Hid (feedG buf true s = ⟨⟨#[]⟩, false, [], 8⟩) := by unfold Hid feedG; rw [if_neg (by simp [hR]), if_pos rfl]
    rw [hR] at hr
    clear h hR
    go_enter Try.func9, Try.ntmps9
    go_wp2_with (go_at_call 11; refine (hr _).mono ?_; rintro e w2 ⟨rfl, hb⟩; obtain ⟨hc, hf⟩ := bcell hb)
    have hz2 : w.heap.size + 1 + 1 ≤ w2.heap.size := by have := hb.size; simp at this; omega
    have bD : w2.heap[w.heap.size + 1]? = some (.cells #[.string ⟨#[]⟩, .bool false] 25 (0, 0)) := by
      refine (hb.block _ (by simp)).trans ?_
      have := heap_alloc_new (w.alloc (.cells #[.string buf, .bool true] 25)) (.cells #[.string ⟨#[]⟩, .bool false] 25)
      rw [World.size_alloc] at this
      exact this
    obtain ⟨sb, sg⟩ := stored_two bD (.string ⟨#[]⟩) (.bool false)
    have c0 := cell_of_row _ _ 0 _ _ _ sb
    have c1 := cell_of_row _ _ 1 _ _ _ sb
    have hbw : Below w.heap.size w w2 := Below.behind (Below.behind hb)
    exact bodyPost_ret (v := .tuple #[.agg #[.string ⟨#[]⟩, .bool false], .slice none 0 0, .int .i64 8]) (by simp [results, Try.f9, go_sem, c0, c1]) rfl ⟨⟨_, by rw [HF.out], by rw [HF.out]; exact ownsRow_nil' _ _ _ _⟩, hbw.grown sg hbw.size (fun k e => by cases e; omega)⟩

set_option maxRecDepth 100000 in
set_option maxHeartbeats 4000000 in
theorem feed_yes (buf s : ByteArray) (w : World) (hs : buf.size + s.size ≤ 1000000) (h : rightB buf false = true) :
    Calls Try.prog 9 #[.agg #[.string buf, .bool false], .string s] w fun e w' => FedAt (feedG buf false s) w.heap.size e w' ∧ Below w.heap.size w w' := by
  have hr := fun W => right_any buf false W (by unfold maxLen; omega)
  rw [h] at hr
  have hsz : (buf ++ s).size ≤ 1000000 := by rw [ByteArray.size_append]; omega
  have HF : Hid (feedG buf false s = if spoiltB (leftG (buf ++ s)) = true then ⟨⟨#[]⟩, true, framesG (buf ++ s), 4⟩ else ⟨leftG (buf ++ s), false, framesG (buf ++ s), 0⟩) := by
    unfold Hid feedG; rw [if_neg (by simp [h]), if_neg (by simp)]
  refine (callsIn_wide (n := 3)).1 (callsIn_of_wp_marks Try.func9 rfl trivial ?_ rfl)
  simp only [Try.ntmps9, List.size_toArray, List.length_cons, List.length_nil, Nat.reduceAdd, Nat.reduceSub, Array.replicate_succ, Array.replicate_zero, List.push_toArray, List.append_toArray, List.nil_append, List.cons_append]
  gi_wp2_with ((try refine ⟨trivial, ?_⟩); first | (gi_at_call 11; refine (callsIn_wide.2 (hr _)).mono ?_; rintro e w2 ⟨rfl, hb⟩; obtain ⟨hc, hf⟩ := bcell hb) | (gi_at_call 18; refine (callsIn_wide.2 (standing_any _ _)).mono ?_; rintro e w3 ⟨rfl, rfl⟩))
  obtain ⟨q, hq⟩ : ∃ q, buf ++ s = q := ⟨_, rfl⟩
  rw [hq] at hsz HF ⊢
  have hz2 : w.heap.size + 1 + 1 ≤ w2.heap.size := by have := hb.size; simp at this; omega
  have hbw : Below w.heap.size w w2 := Below.behind (Below.behind hb)
  have bD : w2.heap[w.heap.size + 1]? = some (.cells #[.string ⟨#[]⟩, .bool false] 25 (0, 0)) := by
    refine (hb.block _ (by simp)).trans ?_
    have := heap_alloc_new (w.alloc (.cells #[.string buf, .bool false] 25)) (.cells #[.string ⟨#[]⟩, .bool false] 25)
    rw [World.size_alloc] at this
    exact this
  have bR := Boxed.new w2 9 (.string q)
  have bF := Boxed.new (w2.alloc (.cells #[.string q] 9)) 30 (.slice none 0 0)
  have bS := Boxed.new ((w2.alloc (.cells #[.string q] 9)).alloc (.cells #[.slice none 0 0] 30)) 9 (.string q)
  simp only [World.size_alloc] at bF bS
  have bR := (bR.alloc (.cells #[.slice none 0 0] 30)).alloc (.cells #[.string q] 9)
  have bF := bF.alloc (.cells #[.string q] 9)
  have bD := (Below.heap_alloc _ (.cells #[.string q] 9) _ (by simp; omega)).trans ((Below.heap_alloc _ (.cells #[.slice none 0 0] 30) _ (by simp; omega)).trans ((Below.heap_alloc _ (.cells #[.string q] 9) _ (by omega)).trans bD))
  have hB0 : Below w.heap.size w (((w2.alloc (.cells #[.string q] 9)).alloc (.cells #[.slice none 0 0] 30)).alloc (.cells #[.string q] 9)) :=
    ((hbw.alloc hbw.size _).alloc (by simp; omega) _).alloc (by simp; omega) _
  have hsz0 : (((w2.alloc (.cells #[.string q] 9)).alloc (.cells #[.slice none 0 0] 30)).alloc (.cells #[.string q] 9)).heap.size = w2.heap.size + 3 := by simp
  obtain ⟨W0, hW0⟩ : ∃ W0, ((w2.alloc (.cells #[.string q] 9)).alloc (.cells #[.slice none 0 0] 30)).alloc (.cells #[.string q] 9) = W0 := ⟨_, rfl⟩
  rw [hW0] at bR bF bS bD hB0 hsz0 ⊢
  obtain ⟨R, hR⟩ : ∃ R, w2.heap.size = R := ⟨_, rfl⟩
  rw [hR] at bR bF bS hsz0 hz2 ⊢
  clear hW0 hR hb hc hf hbw hq
  obtain ⟨i0, hi, hz0, hz1, hz2'⟩ := info_parts info_fr
  have hH := hid h
  clear h
  refine wpIn_rangeFunc_ownH (by rfl) (by omega) (gf := 26) (lb := #[.pointer (some ⟨R + 1 + 1, 0, none⟩)]) rfl trivial (enters_of Try.func26 (by kernel_rfl) rfl)
    (standing_stops 2 (by omega) (R + 1 + 1) q hsz W0 (by omega) bS.cell) (fun _ _ => trivial) (fun _ _ _ _ _ _ _ _ => trivial) (Below.refl _ _) (fun _ => rfl)
    (fun pre W => (((∃ v, Boxed W (R + 1) 30 v ∧ W.ownsRow w.heap.size 23 2 v pre.length (flat (pre.map (·.1))) ∧ True) ∧ Boxed W R 9 (.string (lastR q pre))) ∧ W.heap[w.heap.size + 1]? = some (.cells #[.string ⟨#[]⟩, .bool false] 25 (0, 0))) ∧ Below w.heap.size w W)
    (fun _ _ _ => False)
    (OwnFrom.and (OwnFrom.and (OwnFrom.and (Own.from (holdsRow_own w.heap.size (R + 1) 30 23 2 (fun pre : List (Fr × ByteArray) => pre.length) (fun pre : List (Fr × ByteArray) => flat (pre.map (·.1))) (fun _ _ => True)) _) (Own.from (boxed_own _ _ _) _)) (Own.from (blk_own _ _ rfl) _)) (ownFrom_below (Nat.le_refl _) (by omega)))
    (fun _ _ _ _ _ hs _ _ => hs.elim)
    ⟨⟨⟨⟨_, bF, ownsRow_nil' _ _ _ _, trivial⟩, bR⟩, bD⟩, hB0⟩
    (fun x a' W => ∃ Bx, R + 1 < Bx ∧ W.heap[Bx]? = some (.cells #[.int .i64 x.1.tag, .string x.1.text] 23 (0, 0)) ∧ a' = { tmps := #[.agg #[.string buf, .bool false], .string s, .pointer (some ⟨w.heap.size, 0, none⟩), undef, .pointer (some ⟨w.heap.size + 1, 0, none⟩), .slice none 0 0, .int .i64 0, .pointer (some ⟨R, 0, none⟩), .pointer (some ⟨R + 1, 0, none⟩), .pointer (some ⟨Bx, 0, none⟩), .string x.2, .agg #[.string buf, .bool false], .bool true, .bool false, undef, .pointer (some ⟨w.heap.size, 1, none⟩), .bool false, undef, .pointer (some ⟨w.heap.size, 0, none⟩), .string buf, .string s, .string q, .string q, .func (.func 26) #[] #[.pointer (some ⟨R + 1 + 1, 0, none⟩)], .agg #[.int .i64 x.1.tag, .string x.1.text], .string x.2, undef, undef, undef, undef, undef, undef, undef, undef, undef, undef, undef, undef, undef], defers := [] })
    (fun x a' _ X Y row hs hg hr => by obtain ⟨Bx, h1, h2, h3⟩ := hs; exact ⟨Bx, h1, blk_own Bx _ rfl () X Y row h2 hg (fun r e => (hr r e).2), h3⟩)
    ?assign ?body ?done ?stop
  case assign =>
    rintro l pre x W K ⟨⟨⟨⟨v, bF1, hrow, _⟩, bR1⟩, bD1⟩, hB1⟩ hK
    gi_wp2
    exact hK _ _ ((KeepsOthers.alloc _ _).from _) trivial ⟨⟨⟨⟨v, bF1.alloc _, hrow.alloc _, trivial⟩, bR1.alloc _⟩, (Below.heap_alloc _ _ _ (Array.getElem?_eq_some_iff.1 bD1).1).trans bD1⟩, hB1.alloc hB1.size _⟩ ⟨W.heap.size, bF1.lt, heap_alloc_new W _, rfl⟩
  case body =>
    rintro l pre x a' W hl ⟨r, hr⟩ ⟨⟨⟨⟨v, bF1, hrow, _⟩, bR1⟩, bD1⟩, hB1⟩ ⟨Bx, hBx, bX, rfl⟩ hlt
    have cF := bF1.cell
    have cX0 := cell_of_row _ _ 0 _ _ _ bX
    have cX1 := cell_of_row _ _ 1 _ _ _ bX
    have hlN : pre.length < 1000000 := by omega
    have hsW := hB1.size
    gi_wp2_with (gi_at_builtin; refine wpListIn_append_own _ rfl _ _ 30 rfl w.heap.size 23 i0 (.agg #[.int .i64 0, .string ⟨#[]⟩]) 2 24 Try.underlying30 hi hz0 hz1 hz2' rfl (by decide) _ _ _ rfl (hrow.alloc _) ⟨W.heap.size, 0, none⟩ 1 1 [.int .i64 x.1.tag, .string x.1.text] rfl rfl (cell_two_new _ _ _ _) (by simp [Value.oneCell']) (by unfold maxLen; omega) (by omega) (by simp; omega) ?_; intro v' w1 hown' hgrow _; obtain ⟨g', cap', rfl⟩ := ownsRow_succ hown'; obtain ⟨hv1, hv2, hr2, hk2, hb2⟩ := bF1.appended (by decide) hrow hB1.size (by omega) hown' hgrow; have hc1 := hv1.cell; have hf1 := hv1.frozen; have bR2 := ((bR1.alloc (.cells #[.int .i64 x.1.tag, .string x.1.text] 23)).kept hgrow ((bR1.not_row (by decide) hrow))).other (B' := R + 1) (by omega) (.slice (some ⟨g', 0, none⟩) (pre.length + 1) cap'); have hcR := bR2.cell; have hfR := bR2.frozen)
    have bD2 := (hgrow.block _ (by have := (Array.getElem?_eq_some_iff.1 bD1).1; simp; omega) (blk_not_row bD1 (by decide) hrow)).trans ((Below.heap_alloc _ _ _ (Array.getElem?_eq_some_iff.1 bD1).1).trans bD1)
    have hfl : flat (pre.map (·.1)) ++ [.int .i64 x.1.tag, .string x.1.text] = flat ((pre ++ [x]).map (·.1)) := by rw [List.map_append, flat_append]; rfl
    rw [hfl] at hr2
    have hlen : pre.length + 1 = (pre ++ [x]).length := by simp
    refine ⟨(hk2.trans (KeepsOthers.setCell _ _ _)).from _, trivial, ⟨⟨⟨_, hv2.other (B' := R) (by omega) _, ?_, trivial⟩, ?_⟩, ?_⟩, (hB1.trans hb2).setCell (p := ⟨R, 0, none⟩) (by show _ ≤ R; omega) _⟩
    · rw [← hlen]
      exact hr2.kept (grownBy_setCell' _ R _) (.inr (bR2.not_row (by decide) hr2).symm)
    · rw [lastR_snoc]; exact bR2.set _
    · exact (Below.heap_setCell _ _ _ _ (by show _ ≠ R; omega)).trans ((Below.heap_setCell _ _ _ _ (by show _ ≠ R + 1; omega)).trans bD2)
  case done =>
    rintro D ys W hD rfl ⟨⟨⟨⟨v, bF1, hrow, _⟩, bR1⟩, bD1⟩, hB1⟩ hK
    rw [lastR_all] at bR1
    have hlz := leftG_size q
    obtain ⟨z, hz⟩ : ∃ z, leftG q = z := ⟨_, rfl⟩
    rw [hz] at hlz bR1 HF
    have hsp := fun W => spoilt_any z W (by unfold maxLen; omega)
    have hcl := fun W => clone_any z W (by omega)
    have cF := bF1.cell
    have cR := bR1.cell
    have cD0 := cell_of_row _ _ 0 _ _ _ bD1
    have cD1 := cell_of_row _ _ 1 _ _ _ bD1
    clear hz
    have hne1 : ¬ R = w.heap.size := by omega
    have hne2 : ¬ w.heap.size = R := by omega
    cases hs' : spoiltB z
    · rw [hs'] at hsp
      have HF2 : Hid (feedG buf false s = ⟨z, false, framesG q, 0⟩) := by unfold Hid; rw [HF.out, if_neg (by simp [hs'])]
      clear HF hs'
      gi_upto_region 14 with ((try refine ⟨trivial, ?_⟩); (gi_at_call 19; refine (callsIn_wide.2 (hsp _)).mono ?_; rintro e w4 ⟨rfl, hb4⟩; have cF4 := (hb4.cell (p := ⟨R + 1, 0, none⟩) bF1.lt).trans cF; have cR4 := (hb4.cell (p := ⟨R, 0, none⟩) bR1.lt).trans cR; have bD4 := (hb4.block _ (Array.getElem?_eq_some_iff.1 bD1).1).trans bD1; have bF4 : Boxed w4 (R + 1) 30 v := (hb4.block _ bF1.lt).trans bF1; have hrow4 := kept_below hrow hb4; have hK4 := (hb4.block _ (Array.getElem?_eq_some_iff.1 hK).1).trans hK; have hB4 := hB1.trans (hb4.mono hB1.size)))
      first | gi_region_with ((try refine ⟨trivial, ?_⟩); gi_at_call 20; refine (callsIn_wide.2 (hcl _)).mono ?_; rintro e w5 ⟨rfl, hb5⟩; have hb5 : Below w4.heap.size w4 w5 := (Below.refl _ w4).drew.trans hb5; have cF5 := (hb5.cell (p := ⟨R + 1, 0, none⟩) bF4.lt).trans cF4; have bD5 := (hb5.block _ (Array.getElem?_eq_some_iff.1 bD4).1).trans bD4; have cD50 := cell_of_row _ _ 0 _ _ _ bD5; have cD51 := cell_of_row _ _ 1 _ _ _ bD5; have fD50 : w5.frozen? ⟨w.heap.size + 1, 0, none⟩ = false := (by simp [World.frozen?, bD5]); have fD51 : w5.frozen? ⟨w.heap.size + 1, 1, none⟩ = false := (by simp [World.frozen?, bD5]); have hrow5 := kept_below hrow4 hb5; have hK5 := (hb5.block _ (Array.getElem?_eq_some_iff.1 hK4).1).trans hK4; have hB5 := hB4.trans (hb5.mono hB4.size)) | fail
      all_goals gi_wp2
      all_goals
        obtain ⟨sb, sg⟩ := stored_two bD5 (.string z) (.bool false)
        have hDn : D ≠ w.heap.size + 1 := by omega
        have hKX := (sg.block D (Array.getElem?_eq_some_iff.1 hK5).1 (by simpa using hDn)).trans hK5
        have rowX := hrow5.kept sg (.inr (blk_not_row bD5 (by decide) hrow5).symm)
        have belX : Below w.heap.size w _ := hB5.grown sg hB5.size (fun k e => by cases e; omega)
        have bX := (World.putObj_heap_other (r := D) (o := .deferred none) hDn.symm).trans sb
        have c0 := cell_of_row _ _ 0 _ _ _ bX
        have c1 := cell_of_row _ _ 1 _ _ _ bX
        refine ⟨by simp, .inl ⟨_, _, rfl, run_takeDeferred hKX, ?_⟩⟩
        exact ⟨.tuple #[.agg #[.string z, .bool false], v, .int .i64 0], by simp [results, Try.f9, go_sem, c0, c1], ⟨v, by rw [HF2.out], by rw [HF2.out]; show World.ownsRow _ _ _ _ _ (framesG q).length _; unfold framesG; rw [List.length_map]; exact ownsRow_putObj rowX _ hKX rfl⟩, belX.trans (belowK_b (w := w) (Nat.le_refl _) _ D _ _ (by omega) hKX rfl rfl)⟩
    · rw [hs'] at hsp
      have HF2 : Hid (feedG buf false s = ⟨⟨#[]⟩, true, framesG q, 4⟩) := by unfold Hid; rw [HF.out, if_pos hs']
      clear HF hs'
      gi_wp2_with ((try refine ⟨trivial, ?_⟩); (gi_at_call 19; refine (callsIn_wide.2 (hsp _)).mono ?_; rintro e w4 ⟨rfl, hb4⟩; have cF4 := (hb4.cell (p := ⟨R + 1, 0, none⟩) bF1.lt).trans cF; have cR4 := (hb4.cell (p := ⟨R, 0, none⟩) bR1.lt).trans cR; have bD4 := (hb4.block _ (Array.getElem?_eq_some_iff.1 bD1).1).trans bD1; have bF4 : Boxed w4 (R + 1) 30 v := (hb4.block _ bF1.lt).trans bF1; have hrow4 := kept_below hrow hb4; have hK4 := (hb4.block _ (Array.getElem?_eq_some_iff.1 hK).1).trans hK; have hB4 := hB1.trans (hb4.mono hB1.size)))
      have cD40 := cell_of_row _ _ 0 _ _ _ bD4
      have cD41 := cell_of_row _ _ 1 _ _ _ bD4
      have fD40 : w4.frozen? ⟨w.heap.size + 1, 0, none⟩ = false := by simp [World.frozen?, bD4]
      have fD41 : w4.frozen? ⟨w.heap.size + 1, 1, none⟩ = false := by simp [World.frozen?, bD4]
      first | gi_region | fail
      all_goals gi_wp2
      all_goals
        obtain ⟨sb, sg⟩ := stored_two_drew bD4 (.string ⟨#[]⟩) (.bool true)
        have hDn : D ≠ w.heap.size + 1 := by omega
        have hKX := (sg.block D (Array.getElem?_eq_some_iff.1 hK4).1 (by simpa using hDn)).trans hK4
        have rowX := hrow4.kept sg (.inr (blk_not_row bD4 (by decide) hrow4).symm)
        have belX : Below w.heap.size w _ := hB4.grown sg hB4.size (fun k e => by cases e; omega)
        have bX := (World.putObj_heap_other (r := D) (o := .deferred none) hDn.symm).trans sb
        have c0 := cell_of_row _ _ 0 _ _ _ bX
        have c1 := cell_of_row _ _ 1 _ _ _ bX
        refine ⟨by simp, .inl ⟨_, _, rfl, run_takeDeferred hKX, ?_⟩⟩
        exact ⟨.tuple #[.agg #[.string ⟨#[]⟩, .bool true], v, .int .i64 4], by simp [results, Try.f9, go_sem, c0, c1], ⟨v, by rw [HF2.out], by rw [HF2.out]; show World.ownsRow _ _ _ _ _ (framesG q).length _; unfold framesG; rw [List.length_map]; exact ownsRow_putObj rowX _ hKX rfl⟩, belX.trans (belowK_b (w := w) (Nat.le_refl _) _ D _ _ (by omega) hKX rfl rfl)⟩
  case stop =>
    rintro D c pre W _ _ h _
    exact h.elim

theorem feed_any (buf s : ByteArray) (dead : Bool) (w : World) (hs : buf.size + s.size ≤ 1000000) :
    Calls Try.prog 9 #[.agg #[.string buf, .bool dead], .string s] w fun e w' => FedAt (feedG buf dead s) w.heap.size e w' ∧ Below w.heap.size w w' := by
  by_cases h : rightB buf dead = false ∨ dead = true
  · exact feed_no buf s dead w hs h
  · cases dead
    · exact feed_yes buf s w hs (by simpa using h)
    · exact absurd (Or.inr rfl) h
end Go.Proofs.Ythkgflghiooboaa
