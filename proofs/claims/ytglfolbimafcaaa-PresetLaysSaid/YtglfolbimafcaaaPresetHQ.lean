/- Layer 12, the package: halved. -/
import Derived.Test.YtglfolbimafcaaaPresetEQ
namespace Go.Proofs.Ytglfolbimafcaaa
open Go.RowKit

theorem NRow.drop1 {W : World} {g o n c : Nat} {p : Int} {r : List Int} (h : NRow W (.slice (some ⟨g, o, none⟩) n c) (p :: r)) : NRow W (.slice (some ⟨g, o + 1, none⟩) (n - 1) (c - 1)) r := by
  obtain ⟨A', c', e, hc, hl⟩ := h
  cases e
  simp only [List.length_cons] at hc
  refine ⟨some ⟨g, o + 1, none⟩, c - 1, by simp, by omega, fun hn => ?_⟩
  obtain ⟨g', o', hA, hg, hx⟩ := hl (by simp)
  cases hA
  refine ⟨g, o + 1, rfl, hg, fun j x hj => ?_⟩
  have := hx (j + 1) x (by simpa using hj)
  rwa [show o + (j + 1) = o + 1 + j by omega] at this
set_option maxRecDepth 100000 in
theorem slice_one (g o n c : Nat) (hn : 2 ≤ n) (hc : n ≤ c) (W : World) : (Instr.sliceAt 36 (.slice (some ⟨g, o, none⟩) n c) (some (.int .i64 1)) none none).run Try.prog W = .ok (.slice (some ⟨g, o + 1, none⟩) (n - 1) (c - 1)) W := by
  rw [run_sliceAt_slice W _ _ _ _ _ Try.underlying36, run_slice_l W 36 (some ⟨g, o, none⟩) n c Try.underlying36 .i64 1 (by omega) (by omega)]
  have hs : (sizeOf (Try.prog.elem 36)).run Try.prog W = .ok 1 W := by kernel_rfl
  rw [hs]
  simp only [Result.andThen, Int.toNat_one, sliced]
  rw [if_neg (by omega)]
  simp [Addr.add]
set_option maxRecDepth 100000 in
set_option maxHeartbeats 4000000 in
theorem halved_one (k : Int) (c : Nat) (v : Value) (p : Int) (fv : Value) (W : World) (hv : NRow W v [p]) : Calls Try.prog 74 #[.int .i64 k, .int .i64 c, v, fv] W (LayP W W.heap.size (some (leafP p 0))) := by
  obtain ⟨A, cc, rfl, hcc, hl⟩ := hv
  obtain ⟨g, o, rfl, hg, hx⟩ := hl (by simp)
  have q0 := hx 0 p rfl
  rw [Nat.add_zero] at q0
  have hb1 := below_alloc W (.cells #[.int .i64 0, .int .i64 0, .int .i64 0, .slice none 0 0] 24)
  have r0 := (hb1.cell (p := ⟨g, o, none⟩) hg).trans q0
  simp only [List.length_singleton] at hcc ⊢
  have hne : ¬ g = W.heap.size := by omega
  clear hl hx hb1
  go_enter Try.func74, Try.ntmps74
  go_wp2
  have hz := (Box.new W 24 #[.int .i64 0, .int .i64 p, .int .i64 0, .slice none 0 0]).alloc (.cells #[.int .i64 0, .int .i64 p, .int .i64 0, .slice none 0 0] 24)
  have d0 := hz.cell 0
  have d1 := hz.cell 1
  have d2 := hz.cell 2
  have d3 := hz.cell 3
  have hb := (below_alloc W (.cells #[.int .i64 0, .int .i64 p, .int .i64 0, .slice none 0 0] 24)).alloc (by simp) (.cells #[.int .i64 0, .int .i64 p, .int .i64 0, .slice none 0 0] 24)
  exact bodyPost_ret (v := .tuple #[.agg #[.int .i64 0, .int .i64 p, .int .i64 0, .slice none 0 0], .int .i64 0]) (by simp [results, Try.f74, go_sem, d0, d1, d2, d3]) rfl ⟨hb, .inr ⟨leafP p 0, _, rfl, rfl, TrB.leaf _ _ _ _⟩⟩
set_option maxRecDepth 100000 in
set_option maxHeartbeats 8000000 in
theorem halved_row (k : Int) (c : Nat) (v : Value) (p : Int) (r : List Int) (sv : Value) (o : Option Tr) (W : World) (hv : NRow W v (p :: r)) (hr : 1 ≤ r.length) (hr8 : r.length ≤ 8) (hc1 : 1 ≤ c) (hc : c ≤ 80)
    (hf : ∀ X v', Below W.heap.size W X → NRow X v' r → Calls Try.prog 60 #[sv, v'] X (LayP X X.heap.size o)) : Calls Try.prog 74 #[.int .i64 k, .int .i64 c, v, .func (.func 60) #[sv] #[]] W (LayP W W.heap.size (halvedT k c p o)) := by
  have hv0 := hv
  obtain ⟨A, cc, rfl, hcc, hl⟩ := hv
  obtain ⟨g, o1, rfl, hg, hx⟩ := hl (by simp)
  have q0 := hx 0 p rfl
  rw [Nat.add_zero] at q0
  have hsl := slice_one g o1 (p :: r).length cc (by simp; omega) hcc
  have hdr := hv0.drop1
  obtain ⟨n, hn⟩ : ∃ n, (p :: r).length = n := ⟨_, rfl⟩
  have hn2 : 2 ≤ n := by rw [← hn]; simp; omega
  have hn9 : n ≤ 9 := by rw [← hn]; simp; omega
  rw [hn] at hsl hdr hcc ⊢
  obtain ⟨nv, hnv⟩ : ∃ nv, Value.slice (some ⟨g, o1 + 1, none⟩) (n - 1) (cc - 1) = nv := ⟨_, rfl⟩
  rw [hnv] at hsl hdr
  have HF := hid (fun X (hb : Below W.heap.size W X) => hf X nv hb (hdr.below hb))
  have hb1 := below_alloc W (.cells #[.int .i64 0, .int .i64 0, .int .i64 0, .slice none 0 0] 24)
  have r0 := (hb1.cell (p := ⟨g, o1, none⟩) hg).trans q0
  have hb2 := hb1.alloc (by simp) (.cells #[.int .i64 0, .int .i64 p, .int .i64 0, .slice none 0 0] 24)
  have HB2 := hid hb2
  have hx8 := (Box.new W 24 #[.int .i64 0, .int .i64 0, .int .i64 0, .slice none 0 0]).alloc (.cells #[.int .i64 0, .int .i64 p, .int .i64 0, .slice none 0 0] 24)
  have HX8 := hid hx8
  have hx10 := Box.new (W.alloc (.cells #[.int .i64 0, .int .i64 0, .int .i64 0, .slice none 0 0] 24)) 24 #[.int .i64 0, .int .i64 p, .int .i64 0, .slice none 0 0]
  rw [World.size_alloc] at hx10
  have HX10 := hid hx10
  have hne : ¬ g = W.heap.size := by omega
  have hn1 : ¬ (n : Int) = 1 := by omega
  obtain ⟨hf2, hhf⟩ : ∃ hf2 : Nat, halfN c = hf2 := ⟨_, rfl⟩
  have hdiv : ((c : Int) - 1).tdiv 2 = hf2 := by
    rw [show (c : Int) - 1 = ((c - 1 : Nat) : Int) by omega, Int.tdiv_eq_ediv_of_nonneg (by omega), ← hhf]
    rfl
  have hhf80 : hf2 ≤ 80 ∧ (1 ≤ hf2 → 2 * hf2 ≤ c - 1) := by unfold halfN at hhf; omega
  have HHF := hid hhf
  have hwr : IntKind.i64.wrap (hf2 : Int) = hf2 := IntWalk.i64_in _ (by omega)
  clear hl hx hb1 hb2 hx8 hx10 hv0 hdr hhf hf hn q0
  go_enter Try.func74, Try.ntmps74
  go_upto_region 5 with (go_at_call 60; (with_reducible refine (HF.out _ HB2.out).mono ?_); rintro e w2 hp; obtain ⟨hb3, t, kA, kn, kc, err, rfl, ht, hcase⟩ := hp.one)
  have hx8 := HX8.out.below hb3 HX8.out.lt
  have hx10 := HX10.out.below hb3 HX10.out.lt
  have HB3 := hid (HB2.out.trans (hb3.mono HB2.out.size))
  have hlx8 := hx8.lt
  have hlx10 := hx10.lt
  have hsz2 : W.heap.size + 1 < w2.heap.size := hx10.lt
  obtain ⟨C11, hC11⟩ : ∃ C11 : Array Value, #[.int .i64 t.kind, .int .i64 t.pane, .int .i64 t.size, .slice kA kn kc] = C11 := ⟨_, rfl⟩
  have hy8 := hx8.alloc (.cells #[.int .i64 t.kind, .int .i64 t.pane, .int .i64 t.size, .slice kA kn kc] 24)
  have hy10 := hx10.alloc (.cells #[.int .i64 t.kind, .int .i64 t.pane, .int .i64 t.size, .slice kA kn kc] 24)
  have hy11 := Box.new w2 24 #[.int .i64 t.kind, .int .i64 t.pane, .int .i64 t.size, .slice kA kn kc]
  have HY := hid (HB3.out.alloc HB3.out.size (.cells #[.int .i64 t.kind, .int .i64 t.pane, .int .i64 t.size, .slice kA kn kc] 24))
  have hzs : (w2.alloc (.cells #[.int .i64 t.kind, .int .i64 t.pane, .int .i64 t.size, .slice kA kn kc] 24)).heap.size = w2.heap.size + 1 := World.size_alloc _ _
  have HIN := hid (show Into w2 (w2.alloc (.cells #[.int .i64 t.kind, .int .i64 t.pane, .int .i64 t.size, .slice kA kn kc] 24)) (fun b => (W.heap.size + 1 + 1) ≤ b ∧ b < w2.heap.size) (fun b => (W.heap.size + 1 + 1) ≤ b ∧ b < w2.heap.size) from Into.block fun b ⟨b1, b2⟩ => ⟨⟨b1, b2⟩, Below.heap_alloc w2 _ b b2⟩)
  have hts : ((W.alloc (.cells #[.int .i64 0, .int .i64 0, .int .i64 0, .slice none 0 0] 24)).alloc (.cells #[.int .i64 0, .int .i64 p, .int .i64 0, .slice none 0 0] 24)).heap.size = W.heap.size + 1 + 1 := by rw [World.size_alloc, World.size_alloc]
  rw [hts] at ht
  have HT := hid (ht.into HIN.out)
  obtain ⟨X, hX⟩ : ∃ X, w2.alloc (.cells #[.int .i64 t.kind, .int .i64 t.pane, .int .i64 t.size, .slice kA kn kc] 24) = X := ⟨_, rfl⟩
  rw [hX] at hy8 hy10 hy11 HY hzs HT ⊢
  have HY8 := hid hy8
  have HY10 := hid hy10
  have HY11 := hid hy11
  obtain ⟨T, hT⟩ : ∃ T, w2.heap.size = T := ⟨_, rfl⟩
  rw [hT] at hy11 hsz2 hzs HT HY11 ⊢
  obtain ⟨⟨a0, a1, a2, a3⟩, fa0, fa1, fa2, fa3⟩ := hy8.four
  obtain ⟨⟨b0, b1, b2, b3⟩, fb0, fb1, fb2, fb3⟩ := hy10.four
  obtain ⟨⟨c0, c1, c2, c3⟩, fc0, fc1, fc2, fc3⟩ := hy11.four
  have hl8 := hy8.lt
  have hl10 := hy10.lt
  have hl11 := hy11.lt
  have hne1 : ¬ T = W.heap.size := by omega
  have hne2 : ¬ T = W.heap.size + 1 := by omega
  have hne3 : ¬ W.heap.size = T := by omega
  have hne4 : ¬ W.heap.size + 1 = T := by omega
  have HZS := hid hzs
  clear hzs
  clear hC11 hX hT hts ht hb3 hx8 hx10 HB3 HX8 HX10 HF HB2 HIN hy8 hy10 hy11 hlx8 hlx10
  rcases hcase with ⟨rfl, rfl, rfl, rfl, rfl, rfl⟩ | ⟨rfl, rfl⟩
  · go_wp2
    have hz := four_cells HY8.out rfl (.int .i64 0) (.int .i64 0) (.int .i64 0) (.slice none 0 0)
    have d0 := hz.cell 0
    have d1 := hz.cell 1
    have d2 := hz.cell 2
    have d3 := hz.cell 3
    have hbZ := below_set (below_set (below_set (below_set HY.out (Nat.le_refl _) (i := 0) (.int .i64 0)) (Nat.le_refl _) (i := 1) (.int .i64 0)) (Nat.le_refl _) (i := 2) (.int .i64 0)) (Nat.le_refl _) (i := 3) (.slice none 0 0)
    exact bodyPost_ret (v := .tuple #[.agg #[.int .i64 0, .int .i64 0, .int .i64 0, .slice none 0 0], .int .i64 9]) (by simp [results, Try.f74, go_sem, d0, d1, d2, d3]) rfl ⟨hbZ, .inl ⟨rfl, rfl⟩⟩
  · by_cases hh : hf2 < 1
    · have HR : Hid (halvedT k c p (some t) = none) := by unfold Hid halvedT; simp only; rw [HHF.out, if_pos hh]
      have hh0 : hf2 = 0 := by omega
      subst hh0
      have hz8 := HY8.out.other (b' := T) (i := 2) hne3 (.int .i64 0)
      have hbZ1 := below_set HY.out (show W.heap.size ≤ T by omega) (i := 2) (.int .i64 0)
      clear HHF hhf80 hh
      go_wp2
      have hz := four_cells hz8 rfl (.int .i64 0) (.int .i64 0) (.int .i64 0) (.slice none 0 0)
      have d0 := hz.cell 0
      have d1 := hz.cell 1
      have d2 := hz.cell 2
      have d3 := hz.cell 3
      have hbZ := below_set (below_set (below_set (below_set hbZ1 (Nat.le_refl _) (i := 0) (.int .i64 0)) (Nat.le_refl _) (i := 1) (.int .i64 0)) (Nat.le_refl _) (i := 2) (.int .i64 0)) (Nat.le_refl _) (i := 3) (.slice none 0 0)
      exact bodyPost_ret (v := .tuple #[.agg #[.int .i64 0, .int .i64 0, .int .i64 0, .slice none 0 0], .int .i64 9]) (by simp [results, Try.f74, go_sem, d0, d1, d2, d3]) rfl ⟨hbZ, .inl ⟨HR.out, rfl⟩⟩
    · have HR : Hid (halvedT k c p (some t) = some (.mk k 0 0 [leafP p ((c - 1 - hf2 : Nat) : Int), t.sized hf2])) := by unfold Hid halvedT; simp only; rw [HHF.out, if_neg hh]
      have hh1 : ¬ (hf2 : Int) < 1 := by omega
      have d9 : decide ((hf2 : Int) < 1) = false := decide_eq_false hh1
      obtain ⟨f1, hf1⟩ : ∃ f1 : Nat, c - 1 - hf2 = f1 := ⟨_, rfl⟩
      have hf1i : (c : Int) - 1 - hf2 = f1 := by omega
      rw [hf1] at HR
      clear HHF hh hf1
      go_wp2
      obtain ⟨R, hR⟩ : ∃ R, X.heap.size = R := ⟨_, rfl⟩
      obtain ⟨Z, hZ⟩ : ∃ Z, (((((X.setCell ⟨T, 2, none⟩ (.int .i64 (hf2 : Int))).setCell ⟨W.heap.size + 1, 2, none⟩ (.int .i64 (f1 : Int))).setCell ⟨W.heap.size, 0, none⟩ (.int .i64 k)).setCell ⟨W.heap.size, 1, none⟩ (.int .i64 0)).setCell ⟨W.heap.size, 2, none⟩ (.int .i64 0)).setCell ⟨W.heap.size, 3, none⟩ (.slice (some ⟨X.heap.size, 0, none⟩) 2 2) = Z := ⟨_, rfl⟩
      have hz8 := four_cells ((HY8.out.other (b' := T) (i := 2) hne3 (.int .i64 (hf2 : Int))).other (b' := W.heap.size + 1) (i := 2) (by omega) (.int .i64 (f1 : Int))) rfl (.int .i64 k) (.int .i64 0) (.int .i64 0) (.slice (some ⟨X.heap.size, 0, none⟩) 2 2)
      have hbZ := below_set (below_set (below_set (below_set (below_set (below_set HY.out (show W.heap.size ≤ T by omega) (i := 2) (.int .i64 (hf2 : Int))) (Nat.le_succ _) (i := 2) (.int .i64 (f1 : Int))) (Nat.le_refl _) (i := 0) (.int .i64 k)) (Nat.le_refl _) (i := 1) (.int .i64 0)) (Nat.le_refl _) (i := 2) (.int .i64 0)) (Nat.le_refl _) (i := 3) (.slice (some ⟨X.heap.size, 0, none⟩) 2 2)
      have hzsz : Z.heap.size = X.heap.size := by rw [← hZ, size_set, size_set, size_set, size_set, size_set, size_set]
      have hzin : ∀ b, W.heap.size + 1 + 1 ≤ b → b < T → Z.heap[b]? = X.heap[b]? := fun b h1 h2 => by
        rw [← hZ, Below.heap_setCell _ _ _ b (show b ≠ W.heap.size by omega), Below.heap_setCell _ _ _ b (show b ≠ W.heap.size by omega), Below.heap_setCell _ _ _ b (show b ≠ W.heap.size by omega), Below.heap_setCell _ _ _ b (show b ≠ W.heap.size by omega), Below.heap_setCell _ _ _ b (show b ≠ W.heap.size + 1 by omega), Below.heap_setCell _ _ _ b (show b ≠ T by omega)]
      rw [hZ] at hz8 hbZ ⊢
      obtain ⟨L, hL⟩ : ∃ L : List (Tr × Value), L = [(leafP p f1, .slice none 0 0), (t.sized hf2, .slice kA kn kc)] := ⟨_, rfl⟩
      have hrow : Box (Z.alloc (.cells (tflat L).toArray 24)) X.heap.size 24 (tflat L).toArray := by
        have := Box.new Z 24 (tflat L).toArray
        rwa [hzsz] at this
      have hw8 := hz8.alloc (.cells (tflat L).toArray 24)
      have d0 := hw8.cell 0
      have d1 := hw8.cell 1
      have d2 := hw8.cell 2
      have d3 := hw8.cell 3
      have hbY := hbZ.alloc hbZ.size (.cells (tflat L).toArray 24)
      have hYs : (Z.alloc (.cells (tflat L).toArray 24)).heap.size = X.heap.size + 1 := by rw [World.size_alloc, hzsz]
      have hTX := HZS.out
      have htr : TrB (Z.alloc (.cells (tflat L).toArray 24)) (fun b => W.heap.size ≤ b ∧ b < (Z.alloc (.cells (tflat L).toArray 24)).heap.size) (.mk k 0 0 (L.map Prod.fst)) (.slice (some ⟨X.heap.size, 0, none⟩) 2 2) := by
        unfold TrB
        refine ⟨_, 2, by rw [hL]; rfl, by rw [hL]; exact Nat.le_refl _, fun _ => ⟨X.heap.size, 0, rfl, ⟨by omega, by omega⟩, TrsB.of L 0 (fun j e i u hj hu => ?_) fun e he => ?_⟩⟩
        · rw [Nat.zero_add, hrow.cell (j * 4 + i)]
          have := tflat_at L j e i u hj hu
          simpa using this
        · rw [hL] at he
          rcases List.mem_cons.1 he with rfl | he
          · exact TrB.leaf _ _ _ _
          · obtain rfl := List.mem_singleton.1 he
            refine (HT.out.sized hf2).into (Into.block fun b ⟨b1, b2⟩ => ⟨⟨by omega, by omega⟩, ?_⟩)
            rw [Below.heap_alloc Z _ b (by omega), hzin b b1 b2]
      have hLm : L.map Prod.fst = [leafP p f1, t.sized hf2] := by rw [hL]; rfl
      rw [hLm] at htr
      have hLa : (tflat L).toArray = #[.int .i64 0, .int .i64 p, .int .i64 (f1 : Int), .slice none 0 0, .int .i64 t.kind, .int .i64 t.pane, .int .i64 (hf2 : Int), .slice kA kn kc] := by rw [hL]; rfl
      rw [hLa] at htr hbY d0 d1 d2 d3
      exact bodyPost_ret (v := .tuple #[.agg #[.int .i64 k, .int .i64 0, .int .i64 0, .slice (some ⟨X.heap.size, 0, none⟩) 2 2], .int .i64 0]) (by simp [results, Try.f74, go_sem, d0, d1, d2, d3]) rfl ⟨hbY, .inr ⟨_, _, HR.out, rfl, htr⟩⟩
set_option maxRecDepth 100000 in
set_option maxHeartbeats 8000000 in
theorem halved_pile (k : Int) (c : Nat) (v : Value) (p : Int) (r : List Int) (sv : Value) (o : Option Tr) (W : World) (hv : NRow W v (p :: r)) (hr : 1 ≤ r.length) (hr8 : r.length ≤ 8) (hc1 : 1 ≤ c) (hc : c ≤ 80)
    (hf : ∀ X v', Below W.heap.size W X → NRow X v' r → Calls Try.prog 61 #[sv, v'] X (LayP X X.heap.size o)) : Calls Try.prog 74 #[.int .i64 k, .int .i64 c, v, .func (.func 61) #[sv] #[]] W (LayP W W.heap.size (halvedT k c p o)) := by
  have hv0 := hv
  obtain ⟨A, cc, rfl, hcc, hl⟩ := hv
  obtain ⟨g, o1, rfl, hg, hx⟩ := hl (by simp)
  have q0 := hx 0 p rfl
  rw [Nat.add_zero] at q0
  have hsl := slice_one g o1 (p :: r).length cc (by simp; omega) hcc
  have hdr := hv0.drop1
  obtain ⟨n, hn⟩ : ∃ n, (p :: r).length = n := ⟨_, rfl⟩
  have hn2 : 2 ≤ n := by rw [← hn]; simp; omega
  have hn9 : n ≤ 9 := by rw [← hn]; simp; omega
  rw [hn] at hsl hdr hcc ⊢
  obtain ⟨nv, hnv⟩ : ∃ nv, Value.slice (some ⟨g, o1 + 1, none⟩) (n - 1) (cc - 1) = nv := ⟨_, rfl⟩
  rw [hnv] at hsl hdr
  have HF := hid (fun X (hb : Below W.heap.size W X) => hf X nv hb (hdr.below hb))
  have hb1 := below_alloc W (.cells #[.int .i64 0, .int .i64 0, .int .i64 0, .slice none 0 0] 24)
  have r0 := (hb1.cell (p := ⟨g, o1, none⟩) hg).trans q0
  have hb2 := hb1.alloc (by simp) (.cells #[.int .i64 0, .int .i64 p, .int .i64 0, .slice none 0 0] 24)
  have HB2 := hid hb2
  have hx8 := (Box.new W 24 #[.int .i64 0, .int .i64 0, .int .i64 0, .slice none 0 0]).alloc (.cells #[.int .i64 0, .int .i64 p, .int .i64 0, .slice none 0 0] 24)
  have HX8 := hid hx8
  have hx10 := Box.new (W.alloc (.cells #[.int .i64 0, .int .i64 0, .int .i64 0, .slice none 0 0] 24)) 24 #[.int .i64 0, .int .i64 p, .int .i64 0, .slice none 0 0]
  rw [World.size_alloc] at hx10
  have HX10 := hid hx10
  have hne : ¬ g = W.heap.size := by omega
  have hn1 : ¬ (n : Int) = 1 := by omega
  obtain ⟨hf2, hhf⟩ : ∃ hf2 : Nat, halfN c = hf2 := ⟨_, rfl⟩
  have hdiv : ((c : Int) - 1).tdiv 2 = hf2 := by
    rw [show (c : Int) - 1 = ((c - 1 : Nat) : Int) by omega, Int.tdiv_eq_ediv_of_nonneg (by omega), ← hhf]
    rfl
  have hhf80 : hf2 ≤ 80 ∧ (1 ≤ hf2 → 2 * hf2 ≤ c - 1) := by unfold halfN at hhf; omega
  have HHF := hid hhf
  have hwr : IntKind.i64.wrap (hf2 : Int) = hf2 := IntWalk.i64_in _ (by omega)
  clear hl hx hb1 hb2 hx8 hx10 hv0 hdr hhf hf hn q0
  go_enter Try.func74, Try.ntmps74
  go_upto_region 5 with (go_at_call 61; (with_reducible refine (HF.out _ HB2.out).mono ?_); rintro e w2 hp; obtain ⟨hb3, t, kA, kn, kc, err, rfl, ht, hcase⟩ := hp.one)
  have hx8 := HX8.out.below hb3 HX8.out.lt
  have hx10 := HX10.out.below hb3 HX10.out.lt
  have HB3 := hid (HB2.out.trans (hb3.mono HB2.out.size))
  have hlx8 := hx8.lt
  have hlx10 := hx10.lt
  have hsz2 : W.heap.size + 1 < w2.heap.size := hx10.lt
  obtain ⟨C11, hC11⟩ : ∃ C11 : Array Value, #[.int .i64 t.kind, .int .i64 t.pane, .int .i64 t.size, .slice kA kn kc] = C11 := ⟨_, rfl⟩
  have hy8 := hx8.alloc (.cells #[.int .i64 t.kind, .int .i64 t.pane, .int .i64 t.size, .slice kA kn kc] 24)
  have hy10 := hx10.alloc (.cells #[.int .i64 t.kind, .int .i64 t.pane, .int .i64 t.size, .slice kA kn kc] 24)
  have hy11 := Box.new w2 24 #[.int .i64 t.kind, .int .i64 t.pane, .int .i64 t.size, .slice kA kn kc]
  have HY := hid (HB3.out.alloc HB3.out.size (.cells #[.int .i64 t.kind, .int .i64 t.pane, .int .i64 t.size, .slice kA kn kc] 24))
  have hzs : (w2.alloc (.cells #[.int .i64 t.kind, .int .i64 t.pane, .int .i64 t.size, .slice kA kn kc] 24)).heap.size = w2.heap.size + 1 := World.size_alloc _ _
  have HIN := hid (show Into w2 (w2.alloc (.cells #[.int .i64 t.kind, .int .i64 t.pane, .int .i64 t.size, .slice kA kn kc] 24)) (fun b => (W.heap.size + 1 + 1) ≤ b ∧ b < w2.heap.size) (fun b => (W.heap.size + 1 + 1) ≤ b ∧ b < w2.heap.size) from Into.block fun b ⟨b1, b2⟩ => ⟨⟨b1, b2⟩, Below.heap_alloc w2 _ b b2⟩)
  have hts : ((W.alloc (.cells #[.int .i64 0, .int .i64 0, .int .i64 0, .slice none 0 0] 24)).alloc (.cells #[.int .i64 0, .int .i64 p, .int .i64 0, .slice none 0 0] 24)).heap.size = W.heap.size + 1 + 1 := by rw [World.size_alloc, World.size_alloc]
  rw [hts] at ht
  have HT := hid (ht.into HIN.out)
  obtain ⟨X, hX⟩ : ∃ X, w2.alloc (.cells #[.int .i64 t.kind, .int .i64 t.pane, .int .i64 t.size, .slice kA kn kc] 24) = X := ⟨_, rfl⟩
  rw [hX] at hy8 hy10 hy11 HY hzs HT ⊢
  have HY8 := hid hy8
  have HY10 := hid hy10
  have HY11 := hid hy11
  obtain ⟨T, hT⟩ : ∃ T, w2.heap.size = T := ⟨_, rfl⟩
  rw [hT] at hy11 hsz2 hzs HT HY11 ⊢
  obtain ⟨⟨a0, a1, a2, a3⟩, fa0, fa1, fa2, fa3⟩ := hy8.four
  obtain ⟨⟨b0, b1, b2, b3⟩, fb0, fb1, fb2, fb3⟩ := hy10.four
  obtain ⟨⟨c0, c1, c2, c3⟩, fc0, fc1, fc2, fc3⟩ := hy11.four
  have hl8 := hy8.lt
  have hl10 := hy10.lt
  have hl11 := hy11.lt
  have hne1 : ¬ T = W.heap.size := by omega
  have hne2 : ¬ T = W.heap.size + 1 := by omega
  have hne3 : ¬ W.heap.size = T := by omega
  have hne4 : ¬ W.heap.size + 1 = T := by omega
  have HZS := hid hzs
  clear hzs
  clear hC11 hX hT hts ht hb3 hx8 hx10 HB3 HX8 HX10 HF HB2 HIN hy8 hy10 hy11 hlx8 hlx10
  rcases hcase with ⟨rfl, rfl, rfl, rfl, rfl, rfl⟩ | ⟨rfl, rfl⟩
  · go_wp2
    have hz := four_cells HY8.out rfl (.int .i64 0) (.int .i64 0) (.int .i64 0) (.slice none 0 0)
    have d0 := hz.cell 0
    have d1 := hz.cell 1
    have d2 := hz.cell 2
    have d3 := hz.cell 3
    have hbZ := below_set (below_set (below_set (below_set HY.out (Nat.le_refl _) (i := 0) (.int .i64 0)) (Nat.le_refl _) (i := 1) (.int .i64 0)) (Nat.le_refl _) (i := 2) (.int .i64 0)) (Nat.le_refl _) (i := 3) (.slice none 0 0)
    exact bodyPost_ret (v := .tuple #[.agg #[.int .i64 0, .int .i64 0, .int .i64 0, .slice none 0 0], .int .i64 9]) (by simp [results, Try.f74, go_sem, d0, d1, d2, d3]) rfl ⟨hbZ, .inl ⟨rfl, rfl⟩⟩
  · by_cases hh : hf2 < 1
    · have HR : Hid (halvedT k c p (some t) = none) := by unfold Hid halvedT; simp only; rw [HHF.out, if_pos hh]
      have hh0 : hf2 = 0 := by omega
      subst hh0
      have hz8 := HY8.out.other (b' := T) (i := 2) hne3 (.int .i64 0)
      have hbZ1 := below_set HY.out (show W.heap.size ≤ T by omega) (i := 2) (.int .i64 0)
      clear HHF hhf80 hh
      go_wp2
      have hz := four_cells hz8 rfl (.int .i64 0) (.int .i64 0) (.int .i64 0) (.slice none 0 0)
      have d0 := hz.cell 0
      have d1 := hz.cell 1
      have d2 := hz.cell 2
      have d3 := hz.cell 3
      have hbZ := below_set (below_set (below_set (below_set hbZ1 (Nat.le_refl _) (i := 0) (.int .i64 0)) (Nat.le_refl _) (i := 1) (.int .i64 0)) (Nat.le_refl _) (i := 2) (.int .i64 0)) (Nat.le_refl _) (i := 3) (.slice none 0 0)
      exact bodyPost_ret (v := .tuple #[.agg #[.int .i64 0, .int .i64 0, .int .i64 0, .slice none 0 0], .int .i64 9]) (by simp [results, Try.f74, go_sem, d0, d1, d2, d3]) rfl ⟨hbZ, .inl ⟨HR.out, rfl⟩⟩
    · have HR : Hid (halvedT k c p (some t) = some (.mk k 0 0 [leafP p ((c - 1 - hf2 : Nat) : Int), t.sized hf2])) := by unfold Hid halvedT; simp only; rw [HHF.out, if_neg hh]
      have hh1 : ¬ (hf2 : Int) < 1 := by omega
      have d9 : decide ((hf2 : Int) < 1) = false := decide_eq_false hh1
      obtain ⟨f1, hf1⟩ : ∃ f1 : Nat, c - 1 - hf2 = f1 := ⟨_, rfl⟩
      have hf1i : (c : Int) - 1 - hf2 = f1 := by omega
      rw [hf1] at HR
      clear HHF hh hf1
      go_wp2
      obtain ⟨R, hR⟩ : ∃ R, X.heap.size = R := ⟨_, rfl⟩
      obtain ⟨Z, hZ⟩ : ∃ Z, (((((X.setCell ⟨T, 2, none⟩ (.int .i64 (hf2 : Int))).setCell ⟨W.heap.size + 1, 2, none⟩ (.int .i64 (f1 : Int))).setCell ⟨W.heap.size, 0, none⟩ (.int .i64 k)).setCell ⟨W.heap.size, 1, none⟩ (.int .i64 0)).setCell ⟨W.heap.size, 2, none⟩ (.int .i64 0)).setCell ⟨W.heap.size, 3, none⟩ (.slice (some ⟨X.heap.size, 0, none⟩) 2 2) = Z := ⟨_, rfl⟩
      have hz8 := four_cells ((HY8.out.other (b' := T) (i := 2) hne3 (.int .i64 (hf2 : Int))).other (b' := W.heap.size + 1) (i := 2) (by omega) (.int .i64 (f1 : Int))) rfl (.int .i64 k) (.int .i64 0) (.int .i64 0) (.slice (some ⟨X.heap.size, 0, none⟩) 2 2)
      have hbZ := below_set (below_set (below_set (below_set (below_set (below_set HY.out (show W.heap.size ≤ T by omega) (i := 2) (.int .i64 (hf2 : Int))) (Nat.le_succ _) (i := 2) (.int .i64 (f1 : Int))) (Nat.le_refl _) (i := 0) (.int .i64 k)) (Nat.le_refl _) (i := 1) (.int .i64 0)) (Nat.le_refl _) (i := 2) (.int .i64 0)) (Nat.le_refl _) (i := 3) (.slice (some ⟨X.heap.size, 0, none⟩) 2 2)
      have hzsz : Z.heap.size = X.heap.size := by rw [← hZ, size_set, size_set, size_set, size_set, size_set, size_set]
      have hzin : ∀ b, W.heap.size + 1 + 1 ≤ b → b < T → Z.heap[b]? = X.heap[b]? := fun b h1 h2 => by
        rw [← hZ, Below.heap_setCell _ _ _ b (show b ≠ W.heap.size by omega), Below.heap_setCell _ _ _ b (show b ≠ W.heap.size by omega), Below.heap_setCell _ _ _ b (show b ≠ W.heap.size by omega), Below.heap_setCell _ _ _ b (show b ≠ W.heap.size by omega), Below.heap_setCell _ _ _ b (show b ≠ W.heap.size + 1 by omega), Below.heap_setCell _ _ _ b (show b ≠ T by omega)]
      rw [hZ] at hz8 hbZ ⊢
      obtain ⟨L, hL⟩ : ∃ L : List (Tr × Value), L = [(leafP p f1, .slice none 0 0), (t.sized hf2, .slice kA kn kc)] := ⟨_, rfl⟩
      have hrow : Box (Z.alloc (.cells (tflat L).toArray 24)) X.heap.size 24 (tflat L).toArray := by
        have := Box.new Z 24 (tflat L).toArray
        rwa [hzsz] at this
      have hw8 := hz8.alloc (.cells (tflat L).toArray 24)
      have d0 := hw8.cell 0
      have d1 := hw8.cell 1
      have d2 := hw8.cell 2
      have d3 := hw8.cell 3
      have hbY := hbZ.alloc hbZ.size (.cells (tflat L).toArray 24)
      have hYs : (Z.alloc (.cells (tflat L).toArray 24)).heap.size = X.heap.size + 1 := by rw [World.size_alloc, hzsz]
      have hTX := HZS.out
      have htr : TrB (Z.alloc (.cells (tflat L).toArray 24)) (fun b => W.heap.size ≤ b ∧ b < (Z.alloc (.cells (tflat L).toArray 24)).heap.size) (.mk k 0 0 (L.map Prod.fst)) (.slice (some ⟨X.heap.size, 0, none⟩) 2 2) := by
        unfold TrB
        refine ⟨_, 2, by rw [hL]; rfl, by rw [hL]; exact Nat.le_refl _, fun _ => ⟨X.heap.size, 0, rfl, ⟨by omega, by omega⟩, TrsB.of L 0 (fun j e i u hj hu => ?_) fun e he => ?_⟩⟩
        · rw [Nat.zero_add, hrow.cell (j * 4 + i)]
          have := tflat_at L j e i u hj hu
          simpa using this
        · rw [hL] at he
          rcases List.mem_cons.1 he with rfl | he
          · exact TrB.leaf _ _ _ _
          · obtain rfl := List.mem_singleton.1 he
            refine (HT.out.sized hf2).into (Into.block fun b ⟨b1, b2⟩ => ⟨⟨by omega, by omega⟩, ?_⟩)
            rw [Below.heap_alloc Z _ b (by omega), hzin b b1 b2]
      have hLm : L.map Prod.fst = [leafP p f1, t.sized hf2] := by rw [hL]; rfl
      rw [hLm] at htr
      have hLa : (tflat L).toArray = #[.int .i64 0, .int .i64 p, .int .i64 (f1 : Int), .slice none 0 0, .int .i64 t.kind, .int .i64 t.pane, .int .i64 (hf2 : Int), .slice kA kn kc] := by rw [hL]; rfl
      rw [hLa] at htr hbY d0 d1 d2 d3
      exact bodyPost_ret (v := .tuple #[.agg #[.int .i64 k, .int .i64 0, .int .i64 0, .slice (some ⟨X.heap.size, 0, none⟩) 2 2], .int .i64 0]) (by simp [results, Try.f74, go_sem, d0, d1, d2, d3]) rfl ⟨hbY, .inr ⟨_, _, HR.out, rfl, htr⟩⟩
end Go.Proofs.Ytglfolbimafcaaa
