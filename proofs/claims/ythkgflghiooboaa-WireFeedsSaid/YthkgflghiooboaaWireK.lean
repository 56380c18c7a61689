/- The law WireFeeds, walked. -/
import Derived.Test.YthkgflghiooboaaWireS
import Derived.Test.YthkgflghiooboaaHeld
import Derived.Test.YthkgflghiooboaaWireI
import Derived.Deep.DeepCutAuto
import Derived.Deep.RegionWith
import Derived.Lib.QuietBelow
namespace Go.Proofs.Ythkgflghiooboaa
open Go.RowKit

theorem extract_min {s : ByteArray} {n : Nat} (h : s.size ≤ n) : s.extract 0 s.size = s.extract 0 n := by
  apply bytes_ext
  · rw [size_extract', size_extract']; omega
  · intro i hi
    rw [size_extract'] at hi
    rw [byteAt_extract _ _ _ _ (by omega), byteAt_extract _ _ _ _ (by omega)]

set_option maxRecDepth 100000 in
set_option maxHeartbeats 8000000 in
theorem feeds_any (tag : Int) (tx buf s : ByteArray) (dead : Bool) (w : World) (h1 : tx.size ≤ maxLen) (h2 : buf.size ≤ maxLen) (h3 : s.size ≤ maxLen) :
    Calls Try.prog 3 #[.agg #[.int .i64 tag, .string tx], .agg #[.string buf, .bool dead], .string s] w fun e w' => e = .returned (.bool true) ∧ Below w.heap.size w w' := by
  have hcut := fun W => cut_any tag tx W h1
  have hcz := cutS_size tx
  obtain ⟨c, hc⟩ : ∃ c, cutS tx = c := ⟨_, rfl⟩
  rw [hc] at hcut hcz
  clear hc
  unfold maxLen at h1 h2 h3
  obtain ⟨b', hb'⟩ : ∃ b', buf.extract 0 600 = b' := ⟨_, rfl⟩
  obtain ⟨s', hs'⟩ : ∃ s', s.extract 0 1200 = s' := ⟨_, rfl⟩
  have z1 : b'.size ≤ 600 := by rw [← hb', size_extract']; omega
  have z2 : s'.size ≤ 1200 := by rw [← hs', size_extract']; omega
  have HB := hid hb'
  have HS := hid hs'
  clear hb' hs'
  go_enter Try.func3, Try.ntmps3
  go_upto_region 1 with fail
  go_cut [2] (fun v wx => v = .string s' ∧ wx.heap[w.heap.size]? = some (.cells #[.int .i64 tag, .string c] 23 (0, 0)) ∧ wx.heap[w.heap.size + 1]? = some (.cells #[.string b', .bool dead] 25 (0, 0)) ∧ Below w.heap.size w wx)
  case first =>
    have bF := (Below.heap_alloc _ (.cells #[.string buf, .bool dead] 25) _ (by simp)).trans (heap_alloc_new w (.cells #[.int .i64 tag, .string tx] 23))
    have bD := heap_alloc_new (w.alloc (.cells #[.int .i64 tag, .string tx] 23)) (.cells #[.string buf, .bool dead] 25)
    rw [World.size_alloc] at bD
    have hbX := (below_alloc w (.cells #[.int .i64 tag, .string tx] 23)).alloc (by simp) (.cells #[.string buf, .bool dead] 25)
    obtain ⟨⟨c0, c1⟩, f0, f1⟩ := blk2 bF
    obtain ⟨⟨d0, d1⟩, e0, e1⟩ := blk2 bD
    obtain ⟨W, hW⟩ : ∃ W, (w.alloc (.cells #[.int .i64 tag, .string tx] 23)).alloc (.cells #[.string buf, .bool dead] 25) = W := ⟨_, rfl⟩
    rw [hW] at bF bD hbX c0 c1 f0 f1 d0 d1 e0 e1 ⊢
    clear hW
    have hm1 : (0 : Int) ≤ if (600 : Int) < buf.size then (600 : Int) else buf.size := by split <;> omega
    have hm2 : (if (600 : Int) < buf.size then (600 : Int) else buf.size) ≤ buf.size := by split <;> omega
    have hm3 : buf.extract 0 (if (600 : Int) < buf.size then (600 : Int) else buf.size).toNat = b' := by
      rw [← HB.out]
      split
      · rfl
      · exact (congrArg (buf.extract 0) (Int.toNat_natCast _)).trans (extract_min (by omega))
    have hn1 : (0 : Int) ≤ if (1200 : Int) < s.size then (1200 : Int) else s.size := by split <;> omega
    have hn2 : (if (1200 : Int) < s.size then (1200 : Int) else s.size) ≤ s.size := by split <;> omega
    have hn3 : s.extract 0 (if (1200 : Int) < s.size then (1200 : Int) else s.size).toNat = s' := by
      rw [← HS.out]
      split
      · rfl
      · exact (congrArg (s.extract 0) (Int.toNat_natCast _)).trans (extract_min (by omega))
    clear HB HS
    refine wp_region_S (TwoS 14 16 (fun w' => w'.heap[w.heap.size]? = some (.cells #[.int .i64 tag, .string tx] 23 (0, 0))) (fun w' => w'.heap[w.heap.size + 1]? = some (.cells #[.string buf, .bool dead] 25 (0, 0)))) (by kernel_rfl) ?_
    have hS : ∀ L, TwoS 14 16 (fun w' => w'.heap[w.heap.size]? = some (.cells #[.int .i64 tag, .string tx] 23 (0, 0))) (fun w' => w'.heap[w.heap.size + 1]? = some (.cells #[.string buf, .bool dead] 25 (0, 0))) L (World.drew W) := fun L => ⟨fun _ => bF, fun _ => bD⟩
    refine takeS1 (i := 0) (v := ?v0) 13 rfl rfl (by kernel_rfl) (by kernel_rfl) (by kernel_rfl) (by kernel_rfl) (by decide) (by decide) (by kernel_rfl) (fun _ _ _ h => h) (Or.inl ⟨by rfl, fun w' hw' => ?hy0⟩) (hS _) ?rest0
    case hy0 => obtain ⟨⟨a0, a1⟩, _⟩ := blk2 hw'; go_simp; try with_reducible rfl
    simp only [Act.put, List.setIfInBounds_toArray, List.set_cons_zero, List.set_cons_succ]
    refine takeS (i := 2) (v := ?v2) 15 rfl rfl (by kernel_rfl) (by kernel_rfl) (by kernel_rfl) (by kernel_rfl) (by decide) (by decide) (fun _ _ _ h => h) (Or.inl ⟨by rfl, fun w' _ => ?hy2⟩) (hS _) ?rest2
    case hy2 => go_simp; try with_reducible rfl
    simp only [Act.put, List.setIfInBounds_toArray, List.set_cons_zero, List.set_cons_succ]
    refine takeS2 (i := 3) (v := ?v3) 16 rfl rfl (by kernel_rfl) (by kernel_rfl) (by kernel_rfl) (by kernel_rfl) (by decide) (by decide) (by kernel_rfl) (fun _ _ _ h => h) (Or.inl ⟨by rfl, fun w' hw' => ?hy3⟩) (hS _) ?rest3
    case hy3 => obtain ⟨⟨a0, a1⟩, _⟩ := blk2 hw'; go_simp; try with_reducible rfl
    simp only [Act.put, List.setIfInBounds_toArray, List.set_cons_zero, List.set_cons_succ]
    refine takeS (i := 4) (v := ?v4) 17 rfl rfl (by kernel_rfl) (by kernel_rfl) (by kernel_rfl) (by kernel_rfl) (by decide) (by decide) (fun _ _ _ h => h) (Or.inl ⟨by rfl, fun w' _ => ?hy4⟩) (hS _) ?rest4
    case hy4 => go_simp; try with_reducible rfl
    simp only [Act.put, List.setIfInBounds_toArray, List.set_cons_zero, List.set_cons_succ]
    refine takeS2 (i := 5) (v := ?v5) 18 rfl rfl (by kernel_rfl) (by kernel_rfl) (by kernel_rfl) (by kernel_rfl) (by decide) (by decide) (by kernel_rfl) (fun _ _ _ h => h) (Or.inl ⟨by rfl, fun w' hw' => ?hy5⟩) (hS _) ?rest5
    case hy5 => obtain ⟨⟨a0, a1⟩, _⟩ := blk2 hw'; go_simp; try with_reducible rfl
    simp only [Act.put, List.setIfInBounds_toArray, List.set_cons_zero, List.set_cons_succ]
    refine takeS (i := 6) (v := ?v6) 19 rfl rfl (by kernel_rfl) (by kernel_rfl) (by kernel_rfl) (by kernel_rfl) (by decide) (by decide) (fun _ _ _ h => h) (Or.inl ⟨by rfl, fun w' _ => ?hy6⟩) (hS _) ?rest6
    case hy6 => go_simp; try with_reducible rfl
    simp only [Act.put, List.setIfInBounds_toArray, List.set_cons_zero, List.set_cons_succ]
    refine takeS (i := 7) (v := ?v7) 20 rfl rfl (by kernel_rfl) (by kernel_rfl) (by kernel_rfl) (by kernel_rfl) (by decide) (by decide) (fun _ _ _ h => h) (Or.inl ⟨by rfl, fun w' _ => ?hy7⟩) (hS _) ?rest7
    case hy7 => go_simp; try with_reducible rfl
    simp only [Act.put, List.setIfInBounds_toArray, List.set_cons_zero, List.set_cons_succ]
    refine takeS (i := 8) (v := ?v8) 21 rfl rfl (by kernel_rfl) (by kernel_rfl) (by kernel_rfl) (by kernel_rfl) (by decide) (by decide) (fun _ _ _ h => h) (Or.inl ⟨by rfl, fun w' _ => ?hy8⟩) (hS _) ?rest8
    case hy8 => go_simp; try with_reducible rfl
    simp only [Act.put, List.setIfInBounds_toArray, List.set_cons_zero, List.set_cons_succ]
    refine takeS (i := 9) (v := ?v9) 22 rfl rfl (by kernel_rfl) (by kernel_rfl) (by kernel_rfl) (by kernel_rfl) (by decide) (by decide) (fun _ _ _ h => h) (Or.inl ⟨by rfl, fun w' _ => ?hy9⟩) (hS _) ?rest9
    case hy9 => go_simp; try with_reducible rfl
    simp only [Act.put, List.setIfInBounds_toArray, List.set_cons_zero, List.set_cons_succ]
    refine takeS (i := 10) (v := ?v10) 23 rfl rfl (by kernel_rfl) (by kernel_rfl) (by kernel_rfl) (by kernel_rfl) (by decide) (by decide) (fun _ _ _ h => h) (Or.inl ⟨by rfl, fun w' _ => ?hy10⟩) (hS _) ?rest10
    case hy10 => go_simp; try with_reducible rfl
    simp only [Act.put, List.setIfInBounds_toArray, List.set_cons_zero, List.set_cons_succ]
    refine takeS (i := 11) (v := ?v11) 24 rfl rfl (by kernel_rfl) (by kernel_rfl) (by kernel_rfl) (by kernel_rfl) (by decide) (by decide) (fun _ _ _ h => h) (Or.inl ⟨by rfl, fun w' _ => ?hy11⟩) (hS _) ?rest11
    case hy11 => go_simp; try with_reducible rfl
    simp only [Act.put, List.setIfInBounds_toArray, List.set_cons_zero, List.set_cons_succ]
    refine takeS (i := 12) (v := ?v12) 25 rfl rfl (by kernel_rfl) (by kernel_rfl) (by kernel_rfl) (by kernel_rfl) (by decide) (by decide) (fun _ _ _ h => h) (Or.inl ⟨by rfl, fun w' _ => ?hy12⟩) (hS _) ?rest12
    case hy12 => go_simp; try with_reducible rfl
    simp only [Act.put, List.setIfInBounds_toArray, List.set_cons_zero, List.set_cons_succ]
    refine takeS (i := 13) (v := ?v13) 26 rfl rfl (by kernel_rfl) (by kernel_rfl) (by kernel_rfl) (by kernel_rfl) (by decide) (by decide) (fun _ _ _ h => h) (Or.inl ⟨by rfl, fun w' _ => ?hy13⟩) (hS _) ?rest13
    case hy13 => go_simp; try with_reducible rfl
    simp only [Act.put, List.setIfInBounds_toArray, List.set_cons_zero, List.set_cons_succ]
    refine oneS (k := 1) (by kernel_rfl) rfl (by rfl) (fun K hK => ?_)
    go_simp
    go_at_call 7
    refine (hcut _).mono ?_
    rintro e w2 ⟨rfl, hb2⟩
    dsimp only
    have hb2 : Below W.heap.size W w2 := (Below.refl _ W).drew.trans hb2
    have bF2 := (hb2.block _ (Array.getElem?_eq_some_iff.1 bF).1).trans bF
    have bD2 := (hb2.block _ (Array.getElem?_eq_some_iff.1 bD).1).trans bD
    have hbY := hbX.trans (hb2.mono hbX.size)
    refine hK _ _ ⟨fun _ => bF2, fun _ => bD2⟩ ?_
    clear hK K hS c0 c1 f0 f1 d0 d1 e0 e1
    obtain ⟨⟨c0, c1⟩, f0, f1⟩ := blk2 bF2
    refine oneS (k := 14) (by kernel_rfl) rfl (by rfl) (fun K hK => ?_)
    go_simp
    obtain ⟨sb, sg⟩ := stored_two bF2 (.int .i64 tag) (.string c)
    have bD3 := (sg.block _ (Array.getElem?_eq_some_iff.1 bD2).1 (by simp)).trans bD2
    have hbZ := hbY.grown sg hbY.size (fun k e => by cases e; exact Nat.le_refl _)
    refine hK _ _ ⟨fun h => absurd h (by decide), fun _ => bD3⟩ ?_
    clear hK K
    obtain ⟨W3, hW3⟩ : ∃ W3, (w2.setCell ⟨w.heap.size, 0, none⟩ (.int .i64 tag)).setCell ⟨w.heap.size, 1, none⟩ (.string c) = W3 := ⟨_, rfl⟩
    rw [hW3] at sb sg bD3 hbZ ⊢
    clear hW3
    obtain ⟨⟨d0, d1⟩, e0, e1⟩ := blk2 bD3
    refine takeS (i := 15) (v := .pointer (some ⟨w.heap.size + 1, 0, none⟩)) 27 rfl rfl (by kernel_rfl) (by kernel_rfl) (by kernel_rfl) (by kernel_rfl) (by decide) (by decide) (fun _ _ _ h => h) (Or.inl ⟨by rfl, fun w' _ => ?hy15⟩) ⟨fun h => absurd h (by decide), fun _ => bD3⟩ ?rest15
    case hy15 => go_simp
    simp only [Act.put, List.setIfInBounds_toArray, List.set_cons_zero, List.set_cons_succ]
    refine oneS (k := 16) (by kernel_rfl) rfl (by rfl) (fun K hK => ?_)
    go_simp
    have bD4 := heap_set (i := 0) bD3 (.string b')
    have sg4 := grown_set W3 (w.heap.size + 1) 0 (.string b')
    have bF4 := (sg4.block _ (Array.getElem?_eq_some_iff.1 sb).1 (by simp)).trans sb
    have hbV := hbZ.grown sg4 hbZ.size (fun k e => by cases e; omega)
    refine hK _ _ ⟨fun h => absurd h (by decide), fun h => absurd h (by decide)⟩ ?_
    clear hK K
    refine oneS (k := 17) (by kernel_rfl) rfl (by rfl) (fun K hK => ?_)
    go_simp
    refine hK _ _ ⟨fun h => absurd h (by decide), fun h => absurd h (by decide)⟩ ?_
    clear hK K
    refine doneS (by kernel_rfl) ?_ _
    go_wp2
    all_goals go_meet
    all_goals exact ⟨rfl, bF4, bD4, hbV⟩
  case rest =>
    obtain ⟨rfl, bF, bD, hbD⟩ := hcut
    clear HB HS hcut
    obtain ⟨wo, rfl⟩ : ∃ wo : World, wo = wc := ⟨_, rfl⟩
    obtain ⟨⟨c0, c1⟩, f0, f1⟩ := blk2 bF
    obtain ⟨⟨d0, d1⟩, e0, e1⟩ := blk2 bD
    have henc := fun W => encode_any tag c W (by omega)
    have hF := fun W => feed_any b' s' dead W (by omega)
    have hR := fun W => rfeed_any b' s' dead W (by omega)
    have hR1 := fun W => right_any b' dead W (by unfold maxLen; omega)
    have hR2 := fun W => rright_any b' dead W (by unfold maxLen; omega)
    have hfl := feed_frames_length b' dead s'
    have hmy := fun W => may_any tag c W (by unfold maxLen; omega)
    obtain ⟨R, hRR⟩ : ∃ R, feedG b' dead s' = R := ⟨_, rfl⟩
    rw [hRR] at hF hR hfl
    obtain ⟨xb, xd, xf, xe⟩ := R
    dsimp only at hfl
    clear hRR
    obtain ⟨rb, hrb⟩ : ∃ rb, rightB b' dead = rb := ⟨_, rfl⟩
    rw [hrb] at hR1 hR2
    clear hrb
    go_upto_region 5 with (first | (go_at_call 8; refine (henc _).mono ?_; rintro e w2 ⟨rfl, hb2⟩; have bD2 := (hb2.block _ (Array.getElem?_eq_some_iff.1 bD).1).trans bD; have bF2 := (hb2.block _ (Array.getElem?_eq_some_iff.1 bF).1).trans bF; obtain ⟨⟨i0, i1⟩, i2, i3⟩ := blk2 bD2; have hbw2 := hbD.trans (hb2.mono hbD.size)) | (go_at_call 9; refine (hF _).mono ?_; rintro e w3 ⟨⟨v3, rfl, hr3⟩, hb3⟩; have bD3 := (hb3.block _ (Array.getElem?_eq_some_iff.1 bD2).1).trans bD2; have bF3 := (hb3.block _ (Array.getElem?_eq_some_iff.1 bF2).1).trans bF2; have bD3' := (Below.heap_alloc w3 (.cells #[.string xb, .bool xd] 25) _ (Array.getElem?_eq_some_iff.1 bD3).1).trans bD3; obtain ⟨⟨j0, j1⟩, j2, j3⟩ := blk2 bD3'; have hbw3 := hbw2.trans (hb3.mono hbw2.size)) | (go_at_call 10; refine (hR _).mono ?_; rintro e w4 ⟨⟨v4, rfl, hr4⟩, hb4⟩; obtain ⟨A4, c4, rfl⟩ := row_of hr4))
    have hb34 : Below w3.heap.size w3 w4 := Below.behind hb4
    have hbw4 := hbw3.trans (hb34.mono hbw3.size)
    have bF4 := (hb34.block _ (Array.getElem?_eq_some_iff.1 bF3).1).trans bF3
    have bD4 := (hb34.block _ (Array.getElem?_eq_some_iff.1 bD3).1).trans bD3
    have bX4 := (hb4.block w3.heap.size (by simp)).trans (heap_alloc_new w3 (.cells #[.string xb, .bool xd] 25))
    have ba := below_alloc w4 (.cells #[.string xb, .bool xd, .slice A4 xf.length c4, .int .i64 xe] 34)
    have bT5 := heap_alloc_new w4 (.cells #[.string xb, .bool xd, .slice A4 xf.length c4, .int .i64 xe] 34)
    have bX5 := (ba.block _ (Array.getElem?_eq_some_iff.1 bX4).1).trans bX4
    have bF5 := (ba.block _ (Array.getElem?_eq_some_iff.1 bF4).1).trans bF4
    have bD5 := (ba.block _ (Array.getElem?_eq_some_iff.1 bD4).1).trans bD4
    have hbw5 := hbw4.trans (ba.mono hbw4.size)
    have r3 := ((FRow.of_own hr3).below hb34).below ba
    have r4 := (FRow.of_own hr4).below ba
    obtain ⟨w5, hw5⟩ : ∃ w5, w4.alloc (.cells #[.string xb, .bool xd, .slice A4 xf.length c4, .int .i64 xe] 34) = w5 := ⟨_, rfl⟩
    rw [hw5] at ba bT5 bX5 bF5 bD5 hbw5 r3 r4 ⊢
    obtain ⟨T, hT⟩ : ∃ T, w4.heap.size = T := ⟨_, rfl⟩
    obtain ⟨X, hX⟩ : ∃ X, w3.heap.size = X := ⟨_, rfl⟩
    rw [hT] at bT5 ⊢
    rw [hX] at bX5 ⊢
    clear hT hX hw5 ba hr3 hr4 hb4 hb34 bX4 bF4 bD4 hbw4 c0 c1 f0 f1 d0 d1 e0 e1 i0 i1 i2 i3 j0 j1 j2 j3
    obtain ⟨⟨d0, d1⟩, _⟩ := blk2 bD5
    obtain ⟨⟨x0, x1⟩, _⟩ := blk2 bX5
    have t0 := cell_of_row w5 T 0 _ _ _ bT5
    have t1 := cell_of_row w5 T 1 _ _ _ bT5
    have t2 := cell_of_row w5 T 2 _ _ _ bT5
    have t3 := cell_of_row w5 T 3 _ _ _ bT5
    have d0 := cell_regrown d0
    have d1 := cell_regrown d1
    have x0 := cell_regrown x0
    have x1 := cell_regrown x1
    have t0 := cell_regrown t0
    have t1 := cell_regrown t1
    have t2 := cell_regrown t2
    have t3 := cell_regrown t3
    have hrn : (rb != rb) = false := by cases rb <;> rfl
    have hneD : ∀ W, (binOp .neq 25 (.agg #[.string xb, .bool xd]) (.agg #[.string xb, .bool xd])).run Try.prog W = .ok (.bool false) W := by
      intro W
      rw [run_neD]
      cases xd <;> simp
    have cR1 : ∀ d os, Calls Try.prog 11 #[.agg #[.string b', .bool dead]] (Go.Sort.grow (redrawn w5 d) os) fun e w'' => e = .returned (.bool rb) ∧ ∃ p : Regrown, w'' = Go.Sort.grow (redrawn w5 p.d) p.os := fun d os => Calls.regrown_of (hR1 _)
    have cR2 : ∀ d os, Calls Try.prog 12 #[.agg #[.string b', .bool dead]] (Go.Sort.grow (redrawn w5 d) os) fun e w'' => e = .returned (.bool rb) ∧ ∃ p : Regrown, w'' = Go.Sort.grow (redrawn w5 p.d) p.os := fun d os => Calls.regrown_of (hR2 _)
    have cS : ∀ d os, Calls Try.prog 13 #[v3, .slice A4 xf.length c4] (Go.Sort.grow (redrawn w5 d) os) fun e w'' => e = .returned (.bool true) ∧ ∃ p : Regrown, w'' = Go.Sort.grow (redrawn w5 p.d) p.os := fun d os => Calls.regrown_of (by
      have h := same_any v3 (.slice A4 xf.length c4) xf xf _ (r3.below (below_regrown w5 d os)) (r4.below (below_regrown w5 d os)) (by omega) (by omega)
      rw [decide_eq_true rfl] at h
      exact h)
    have cA : ∀ d os, Calls Try.prog 14 #[] (Go.Sort.grow (redrawn w5 d) os) fun e w'' => e = .returned (.bool true) ∧ ∃ p : Regrown, w'' = Go.Sort.grow (redrawn w5 p.d) p.os := fun d os => Calls.regrown_of (alive_any _)
    refine wp_region_quiet_below (by kernel_rfl) (by kernel_rfl) ?_
    repeat (quiet_step (first | exact cR1 _ _ | exact cR2 _ _ | exact cS _ _ | exact cA _ _))
    refine wpQuiet_nil ?_
    intro _ hw'
    obtain ⟨⟨dq, osq⟩, hw''⟩ := hw'
    subst hw''
    have hb6 := below_regrown w5 dq osq
    have bF6 := (hb6.block _ (Array.getElem?_eq_some_iff.1 bF5).1).trans bF5
    have hbw6 := hbw5.trans (hb6.mono hbw5.size)
    obtain ⟨w6, hw6⟩ : ∃ w6, Go.Sort.grow (redrawn w5 dq) osq = w6 := ⟨_, rfl⟩
    simp only [hw6] at bF6 hbw6 ⊢
    clear hw6 hb6 cR1 cR2 cS cA d0 d1 x0 x1 t0 t1 t2 t3 hR1 hR2 hF hR henc
    obtain ⟨⟨f0, f1⟩, f2, f3⟩ := blk2 bF6
    clear hrn hneD r3 r4 bT5 bX5 bD5 bF5 hbw5 hfl
    unfold encI encE
    cases hm : mayB tag c.size
    · rw [hm] at hmy
      simp only [Bool.false_eq_true, if_false]
      go_wp2_with (go_at_call 15; refine (hmy _).mono ?_; rintro e w7 ⟨rfl, hb7⟩)
      go_ret
      exact ⟨rfl, hbw6.trans (hb7.mono hbw6.size)⟩
    · rw [hm] at hmy
      simp only [if_true]
      have hby := fun W => bytes_any tag c W hm
      go_wp2_with (first | (go_at_call 15; refine (hmy _).mono ?_; rintro e w7 ⟨rfl, hb7⟩; have bF7 := (hb7.block _ (Array.getElem?_eq_some_iff.1 bF6).1).trans bF6; obtain ⟨⟨g0, g1⟩, g2, g3⟩ := blk2 bF7; have hbw7 := hbw6.trans (hb7.mono hbw6.size)) | (go_at_call 16; refine (hby _).mono ?_; rintro e w8 ⟨rfl, hb8⟩))
      go_ret
      exact ⟨by simp, hbw7.trans (hb8.mono hbw7.size)⟩
end Go.Proofs.Ythkgflghiooboaa
