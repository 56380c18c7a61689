/- Layer 12: the reference's Lay; the law PresetLays. Made by wip/gen/presetV.py. -/
import Derived.Test.YtglfolbimafcaaaPresetUQ
import Derived.Test.YtglfolbimafcaaaPresetPQ
import Derived.Test.YtglfolbimafcaaaTreeSmQ
namespace Go.Proofs.Ytglfolbimafcaaa
open Go.RowKit

set_option maxRecDepth 100000 in
set_option maxHeartbeats 2000000 in
theorem rlay_1 (A : Option Addr) (n c : Nat) (w h : Int) (o : Option Tr) (W : World) (hC : ∀ X, Below W.heap.size W X → Calls Try.prog 44 #[.slice A n c, .int .i64 1, .int .i64 w, .int .i64 h] X (RLay X o)) : Calls Try.prog 21 #[.slice A n c, .int .i64 1, .int .i64 w, .int .i64 h] W (RLay W o) := by
  have HC := hid hC
  have HX := hid (Box.new W 44 #[.int .i64 0, .int .i64 0, .int .i64 0, .slice none 0 0, .bool false])
  have HB := hid (below_alloc W (.cells #[.int .i64 0, .int .i64 0, .int .i64 0, .slice none 0 0, .bool false] 44))
  have hs6 : (W.alloc (.cells #[.int .i64 0, .int .i64 0, .int .i64 0, .slice none 0 0, .bool false] 44)).heap.size = W.heap.size + 1 := World.size_alloc _ _
  clear hC
  go_enter Try.func21, Try.ntmps21
  go_wp2_with ((with_reducible refine (HC.out _ HB.out).mono ?_); rintro e w2 ⟨hb2, t, kA, kn, kc, b, rfl, ht, hcase⟩; have hx := HX.out.below hb2 HX.out.lt; obtain ⟨⟨a0, a1, a2, a3, a4⟩, f0, f1, f2, f3, f4⟩ := hx.five; have hl := hx.lt; have HX2 := hid hx)
  rw [hs6] at ht
  have hz := five_cells HX2.out rfl (.int .i64 t.kind) (.int .i64 t.pane) (.int .i64 t.size) (.slice kA kn kc) (.bool b)
  have d0 := hz.cell 0
  have d1 := hz.cell 1
  have d2 := hz.cell 2
  have d3 := hz.cell 3
  have d4 := hz.cell 4
  exact bodyPost_ret (v := .agg #[.int .i64 t.kind, .int .i64 t.pane, .int .i64 t.size, .slice kA kn kc, .bool b]) (by simp [results, Try.f21, go_sem, d0, d1, d2, d3, d4]) rfl ⟨below_set5 (HB.out.trans (hb2.mono HB.out.size)) (Nat.le_refl _), t, kA, kn, kc, b, rfl, ht.into (five_into (Nat.le_refl _) (fun c h1 _ => by omega) W.heap.size (by omega)), hcase⟩
set_option maxRecDepth 100000 in
set_option maxHeartbeats 2000000 in
theorem rlay_2 (A : Option Addr) (n c : Nat) (w h : Int) (o : Option Tr) (W : World) (hC : ∀ X, Below W.heap.size W X → Calls Try.prog 44 #[.slice A n c, .int .i64 2, .int .i64 w, .int .i64 h] X (RLay X o)) : Calls Try.prog 21 #[.slice A n c, .int .i64 2, .int .i64 w, .int .i64 h] W (RLay W o) := by
  have HC := hid hC
  have HX := hid (Box.new W 44 #[.int .i64 0, .int .i64 0, .int .i64 0, .slice none 0 0, .bool false])
  have HB := hid (below_alloc W (.cells #[.int .i64 0, .int .i64 0, .int .i64 0, .slice none 0 0, .bool false] 44))
  have hs6 : (W.alloc (.cells #[.int .i64 0, .int .i64 0, .int .i64 0, .slice none 0 0, .bool false] 44)).heap.size = W.heap.size + 1 := World.size_alloc _ _
  clear hC
  go_enter Try.func21, Try.ntmps21
  go_wp2_with ((with_reducible refine (HC.out _ HB.out).mono ?_); rintro e w2 ⟨hb2, t, kA, kn, kc, b, rfl, ht, hcase⟩; have hx := HX.out.below hb2 HX.out.lt; obtain ⟨⟨a0, a1, a2, a3, a4⟩, f0, f1, f2, f3, f4⟩ := hx.five; have hl := hx.lt; have HX2 := hid hx)
  rw [hs6] at ht
  have hz := five_cells HX2.out rfl (.int .i64 t.kind) (.int .i64 t.pane) (.int .i64 t.size) (.slice kA kn kc) (.bool b)
  have d0 := hz.cell 0
  have d1 := hz.cell 1
  have d2 := hz.cell 2
  have d3 := hz.cell 3
  have d4 := hz.cell 4
  exact bodyPost_ret (v := .agg #[.int .i64 t.kind, .int .i64 t.pane, .int .i64 t.size, .slice kA kn kc, .bool b]) (by simp [results, Try.f21, go_sem, d0, d1, d2, d3, d4]) rfl ⟨below_set5 (HB.out.trans (hb2.mono HB.out.size)) (Nat.le_refl _), t, kA, kn, kc, b, rfl, ht.into (five_into (Nat.le_refl _) (fun c h1 _ => by omega) W.heap.size (by omega)), hcase⟩
set_option maxRecDepth 100000 in
set_option maxHeartbeats 2000000 in
theorem rlay_3 (A : Option Addr) (n c : Nat) (w h : Int) (o : Option Tr) (W : World) (hC : ∀ X, Below W.heap.size W X → Calls Try.prog 46 #[.slice A n c, .int .i64 1, .int .i64 w, .int .i64 h] X (RLay X o)) : Calls Try.prog 21 #[.slice A n c, .int .i64 3, .int .i64 w, .int .i64 h] W (RLay W o) := by
  have HC := hid hC
  have HX := hid (Box.new W 44 #[.int .i64 0, .int .i64 0, .int .i64 0, .slice none 0 0, .bool false])
  have HB := hid (below_alloc W (.cells #[.int .i64 0, .int .i64 0, .int .i64 0, .slice none 0 0, .bool false] 44))
  have hs6 : (W.alloc (.cells #[.int .i64 0, .int .i64 0, .int .i64 0, .slice none 0 0, .bool false] 44)).heap.size = W.heap.size + 1 := World.size_alloc _ _
  clear hC
  go_enter Try.func21, Try.ntmps21
  go_wp2_with ((with_reducible refine (HC.out _ HB.out).mono ?_); rintro e w2 ⟨hb2, t, kA, kn, kc, b, rfl, ht, hcase⟩; have hx := HX.out.below hb2 HX.out.lt; obtain ⟨⟨a0, a1, a2, a3, a4⟩, f0, f1, f2, f3, f4⟩ := hx.five; have hl := hx.lt; have HX2 := hid hx)
  rw [hs6] at ht
  have hz := five_cells HX2.out rfl (.int .i64 t.kind) (.int .i64 t.pane) (.int .i64 t.size) (.slice kA kn kc) (.bool b)
  have d0 := hz.cell 0
  have d1 := hz.cell 1
  have d2 := hz.cell 2
  have d3 := hz.cell 3
  have d4 := hz.cell 4
  exact bodyPost_ret (v := .agg #[.int .i64 t.kind, .int .i64 t.pane, .int .i64 t.size, .slice kA kn kc, .bool b]) (by simp [results, Try.f21, go_sem, d0, d1, d2, d3, d4]) rfl ⟨below_set5 (HB.out.trans (hb2.mono HB.out.size)) (Nat.le_refl _), t, kA, kn, kc, b, rfl, ht.into (five_into (Nat.le_refl _) (fun c h1 _ => by omega) W.heap.size (by omega)), hcase⟩
set_option maxRecDepth 100000 in
set_option maxHeartbeats 2000000 in
theorem rlay_4 (A : Option Addr) (n c : Nat) (w h : Int) (o : Option Tr) (W : World) (hC : ∀ X, Below W.heap.size W X → Calls Try.prog 46 #[.slice A n c, .int .i64 2, .int .i64 w, .int .i64 h] X (RLay X o)) : Calls Try.prog 21 #[.slice A n c, .int .i64 4, .int .i64 w, .int .i64 h] W (RLay W o) := by
  have HC := hid hC
  have HX := hid (Box.new W 44 #[.int .i64 0, .int .i64 0, .int .i64 0, .slice none 0 0, .bool false])
  have HB := hid (below_alloc W (.cells #[.int .i64 0, .int .i64 0, .int .i64 0, .slice none 0 0, .bool false] 44))
  have hs6 : (W.alloc (.cells #[.int .i64 0, .int .i64 0, .int .i64 0, .slice none 0 0, .bool false] 44)).heap.size = W.heap.size + 1 := World.size_alloc _ _
  clear hC
  go_enter Try.func21, Try.ntmps21
  go_wp2_with ((with_reducible refine (HC.out _ HB.out).mono ?_); rintro e w2 ⟨hb2, t, kA, kn, kc, b, rfl, ht, hcase⟩; have hx := HX.out.below hb2 HX.out.lt; obtain ⟨⟨a0, a1, a2, a3, a4⟩, f0, f1, f2, f3, f4⟩ := hx.five; have hl := hx.lt; have HX2 := hid hx)
  rw [hs6] at ht
  have hz := five_cells HX2.out rfl (.int .i64 t.kind) (.int .i64 t.pane) (.int .i64 t.size) (.slice kA kn kc) (.bool b)
  have d0 := hz.cell 0
  have d1 := hz.cell 1
  have d2 := hz.cell 2
  have d3 := hz.cell 3
  have d4 := hz.cell 4
  exact bodyPost_ret (v := .agg #[.int .i64 t.kind, .int .i64 t.pane, .int .i64 t.size, .slice kA kn kc, .bool b]) (by simp [results, Try.f21, go_sem, d0, d1, d2, d3, d4]) rfl ⟨below_set5 (HB.out.trans (hb2.mono HB.out.size)) (Nat.le_refl _), t, kA, kn, kc, b, rfl, ht.into (five_into (Nat.le_refl _) (fun c h1 _ => by omega) W.heap.size (by omega)), hcase⟩
set_option maxRecDepth 100000 in
set_option maxHeartbeats 2000000 in
theorem rlay_5 (A : Option Addr) (n c : Nat) (w h : Int) (o : Option Tr) (W : World) (hC : ∀ X, Below W.heap.size W X → Calls Try.prog 45 #[.slice A n c, .int .i64 w, .int .i64 h] X (RLay X o)) : Calls Try.prog 21 #[.slice A n c, .int .i64 5, .int .i64 w, .int .i64 h] W (RLay W o) := by
  have HC := hid hC
  have HX := hid (Box.new W 44 #[.int .i64 0, .int .i64 0, .int .i64 0, .slice none 0 0, .bool false])
  have HB := hid (below_alloc W (.cells #[.int .i64 0, .int .i64 0, .int .i64 0, .slice none 0 0, .bool false] 44))
  have hs6 : (W.alloc (.cells #[.int .i64 0, .int .i64 0, .int .i64 0, .slice none 0 0, .bool false] 44)).heap.size = W.heap.size + 1 := World.size_alloc _ _
  clear hC
  go_enter Try.func21, Try.ntmps21
  go_wp2_with ((with_reducible refine (HC.out _ HB.out).mono ?_); rintro e w2 ⟨hb2, t, kA, kn, kc, b, rfl, ht, hcase⟩; have hx := HX.out.below hb2 HX.out.lt; obtain ⟨⟨a0, a1, a2, a3, a4⟩, f0, f1, f2, f3, f4⟩ := hx.five; have hl := hx.lt; have HX2 := hid hx)
  rw [hs6] at ht
  have hz := five_cells HX2.out rfl (.int .i64 t.kind) (.int .i64 t.pane) (.int .i64 t.size) (.slice kA kn kc) (.bool b)
  have d0 := hz.cell 0
  have d1 := hz.cell 1
  have d2 := hz.cell 2
  have d3 := hz.cell 3
  have d4 := hz.cell 4
  exact bodyPost_ret (v := .agg #[.int .i64 t.kind, .int .i64 t.pane, .int .i64 t.size, .slice kA kn kc, .bool b]) (by simp [results, Try.f21, go_sem, d0, d1, d2, d3, d4]) rfl ⟨below_set5 (HB.out.trans (hb2.mono HB.out.size)) (Nat.le_refl _), t, kA, kn, kc, b, rfl, ht.into (five_into (Nat.le_refl _) (fun c h1 _ => by omega) W.heap.size (by omega)), hcase⟩
theorem rmain_any1 (v : Value) (ps : List Int) (w h : Nat) (W : World) (hv : NRow W v ps) (h1 : 1 ≤ ps.length) (h8 : ps.length ≤ 8) (w1 : 1 ≤ w) (w80 : w ≤ 80) (g1 : 1 ≤ h) (h80 : h ≤ 80) : Calls Try.prog 46 #[v, .int .i64 1, .int .i64 w, .int .i64 h] W (RLay W (mainT 1 w ps (lineT 2 h))) := by
  match ps, h1, hv with
  | p :: r, _, hv =>
    by_cases hr : r = []
    · subst hr
      exact rmain_one v p 1 w h W hv
    · have e : mainT 1 w (p :: r) (lineT 2 h) = halvedT 1 w p (lineT 2 h r) := by unfold mainT; simp only; rw [if_neg hr]
      rw [e]
      simp only [List.length_cons] at h8
      exact rmain_left v p r w h W hv (List.length_pos_iff.2 hr) (by omega) w1 w80 g1 h80
theorem rmain_any2 (v : Value) (ps : List Int) (w h : Nat) (W : World) (hv : NRow W v ps) (h1 : 1 ≤ ps.length) (h8 : ps.length ≤ 8) (w1 : 1 ≤ w) (w80 : w ≤ 80) (g1 : 1 ≤ h) (h80 : h ≤ 80) : Calls Try.prog 46 #[v, .int .i64 2, .int .i64 w, .int .i64 h] W (RLay W (mainT 2 h ps (lineT 1 w))) := by
  match ps, h1, hv with
  | p :: r, _, hv =>
    by_cases hr : r = []
    · subst hr
      exact rmain_one v p 2 w h W hv
    · have e : mainT 2 h (p :: r) (lineT 1 w) = halvedT 2 h p (lineT 1 w r) := by unfold mainT; simp only; rw [if_neg hr]
      rw [e]
      simp only [List.length_cons] at h8
      exact rmain_above v p r w h W hv (List.length_pos_iff.2 hr) (by omega) w1 w80 g1 h80
theorem rlay_any (v : Value) (ps : List Int) (how w h : Int) (W : World) (hv : NRow W v ps) (hm : mayP ps w h = true) (h1 : 1 ≤ how) (h5 : how ≤ 5) : Calls Try.prog 21 #[v, .int .i64 how, .int .i64 w, .int .i64 h] W (RLay W (layT ps how w.toNat h.toNat)) := by
  obtain ⟨⟨l1, l8⟩, ⟨w1, w80, g1, g50⟩, _, _⟩ := mayP_iff.1 hm
  obtain ⟨wn, rfl⟩ : ∃ wn : Nat, w = wn := ⟨w.toNat, by omega⟩
  obtain ⟨hn, rfl⟩ : ∃ hn : Nat, h = hn := ⟨h.toNat, by omega⟩
  rw [Int.toNat_natCast, Int.toNat_natCast]
  have hv0 := hv
  obtain ⟨A, c, rfl, _⟩ := hv
  rcases (show how = 1 ∨ how = 2 ∨ how = 3 ∨ how = 4 ∨ how = 5 by omega) with rfl | rfl | rfl | rfl | rfl
  · exact rlay_1 A _ c wn hn _ W fun X hX => rline_any1 _ ps wn hn X (hv0.below hX) l1 l8 (by omega)
  · exact rlay_2 A _ c wn hn _ W fun X hX => rline_any2 _ ps hn wn X (hv0.below hX) l1 l8 (by omega)
  · exact rlay_3 A _ c wn hn _ W fun X hX => rmain_any1 _ ps wn hn X (hv0.below hX) l1 l8 (by omega) (by omega) (by omega) (by omega)
  · exact rlay_4 A _ c wn hn _ W fun X hX => rmain_any2 _ ps wn hn X (hv0.below hX) l1 l8 (by omega) (by omega) (by omega) (by omega)
  · exact rlay_5 A _ c wn hn _ W fun X hX => rrows_any _ ps wn hn X (hv0.below hX) l1 l8 (by omega) (by omega)
def zeroT : Tr := .mk 0 0 0 []
theorem zero_at (W : World) : TrAt W zeroT (.slice none 0 0) := by
  unfold zeroT TrAt
  exact ⟨none, 0, rfl, Nat.le_refl _, fun h => absurd rfl h⟩
theorem same_zero (W : World) : Calls Try.prog 12 #[.agg #[.int .i64 0, .int .i64 0, .int .i64 0, .slice none 0 0], .agg #[.int .i64 0, .int .i64 0, .int .i64 0, .slice none 0 0]] W fun e w' => e = .returned (.bool true) ∧ Below W.heap.size W w' :=
  same_yes 1 zeroT none none 0 0 0 0 0 0 0 W (by decide) (by decide) rfl rfl (zero_at W) (zero_at W)
def LayZ (W : World) (n : Int) (e : Ending) (w' : World) : Prop := e = .returned (.tuple #[.agg #[.int .i64 0, .int .i64 0, .int .i64 0, .slice none 0 0], .int .i64 n]) ∧ Below W.heap.size W w'
set_option maxRecDepth 100000 in
set_option maxHeartbeats 8000000 in
theorem lays_any (v : Value) (ps0 : List Int) (how w h : Int) (W : World) (hv : NRow W v ps0) (hn0 : (ps0.length : Int) ≤ 9223372036854775807) : Calls Try.prog 5 #[v, .int .i64 how, .int .i64 w, .int .i64 h] W (Ok12 W) := by
  have hv0 := hv
  obtain ⟨A0, c0, rfl, hcc, _⟩ := hv
  obtain ⟨n0, hn⟩ : ∃ n0, ps0.length = n0 := ⟨_, rfl⟩
  have htk := fun k hk => hv0.take k hk
  rw [hn] at hcc hv0 hn0 htk ⊢
  have HA := hid alive12_any
  have HZZ := hid same_zero
  have HTK := hid htk
  have HV0 := hid hv0
  have HN0 := hid hn
  clear hv0 htk hn
  go_enter Try.func5, Try.ntmps5
  go_upto_region 1 with fail
  go_cut [0] (fun a wx => ∃ A n c ps, a = .slice A n c ∧ NRow W (.slice A n c) ps ∧ ps.length = n ∧ n ≤ 10 ∧ n ≤ c ∧ W = wx)
  case first =>
    by_cases h10 : n0 ≤ 10
    · have h10i : (n0 : Int) ≤ 10 := by omega
      have hmin : min (n0 : Int) 10 = n0 := Int.min_eq_left h10i
      go_wp2_with fail
      go_meet
      exact ⟨_, _, _, _, rfl, HV0.out, HN0.out, h10, hcc, rfl⟩
    · have h10i : (10 : Int) ≤ n0 := by omega
      have h10j : (10 : Int) < n0 := by omega
      have hmin : min (n0 : Int) 10 = 10 := Int.min_eq_right h10i
      have h10c : (10 : Int) ≤ c0 := by omega
      have h10d : 10 ≤ c0 := by omega
      go_wp2_with fail
      go_meet
      exact ⟨_, 10, _, ps0.take 10, rfl, HTK.out 10 (by omega), by rw [List.length_take, HN0.out]; omega, Nat.le_refl _, by omega, rfl⟩
  case rest =>
    obtain ⟨A, n, c, ps, rfl, hv, hn, hn10, hnc, rfl⟩ := hcut
    have HM := hid (fun X (hb : Below W.heap.size W X) => rmay_any (.slice A n c) ps how w h X (hv.below hb) (by omega))
    have HLY := hid (lay_any (.slice A n c) ps how w h W hv (by omega))
    clear HTK HV0 HN0 hcc hn0
    by_cases hq : mayP ps w h = true ∧ 1 ≤ how ∧ how ≤ 5
    · have hmq : mayQ ps how w h = true := by unfold mayQ; rw [hq.1, Bool.true_and]; exact decide_eq_true hq.2
      rw [hmq] at HM
      have HRL := hid (fun X (hb : Below W.heap.size W X) => rlay_any (.slice A n c) ps how w h X (hv.below hb) hq.1 hq.2.1 hq.2.2)
      cases ho : layT ps how w.toNat h.toNat with
      | none =>
        have HL := hid (HLY.out.mono (R' := LayZ W 9) (by
          rintro e w' (⟨hno, _⟩ | ⟨_, hp⟩)
          · exact absurd hq hno
          · rw [ho] at hp
            rcases hp with ⟨hb, ⟨_, e⟩ | ⟨t, kv, e, _⟩⟩
            · exact ⟨e, hb⟩
            · cases e))
        rw [ho] at HRL
        clear HLY hq hmq ho hv hn
        go_wp2_with (first | ((with_reducible refine HL.out.mono ?_); rintro e w1 ⟨rfl, hb1⟩; have HB1 := hid (hb1.alloc hb1.size (.cells #[.int .i64 0, .int .i64 0, .int .i64 0, .slice none 0 0] 24)); have HX9 := hid (Box.new w1 24 #[.int .i64 0, .int .i64 0, .int .i64 0, .slice none 0 0])) | ((with_reducible refine (HM.out _ HB1.out).mono ?_); rintro e w2 ⟨rfl, rfl⟩) | ((with_reducible refine (HRL.out _ HB1.out).mono ?_); rintro e w3 ⟨hb3, t, kA, kn, kc, b, rfl, _, hcase⟩; obtain rfl : b = false := (by rcases hcase with ⟨_, e⟩ | ⟨e, _⟩; exact e; cases e); have HB3 := hid ((HB1.out.trans (hb3.mono HB1.out.size)).alloc (HB1.out.trans (hb3.mono HB1.out.size)).size (.cells #[.int .i64 t.kind, .int .i64 t.pane, .int .i64 t.size, .slice kA kn kc, .bool false] 44)); have hx93 := (HX9.out.below hb3 HX9.out.lt); have HX93 := hid (hx93.alloc (.cells #[.int .i64 t.kind, .int .i64 t.pane, .int .i64 t.size, .slice kA kn kc, .bool false] 44)); obtain ⟨⟨z0, z1, z2, z3⟩, _⟩ := hx93.four; have hl93 := hx93.lt) | ((with_reducible refine (HA.out _).mono ?_); rintro e w4 ⟨rfl, hb4⟩; have hx94 := HX93.out.below hb4 HX93.out.lt; obtain ⟨⟨y0, y1, y2, y3⟩, _⟩ := hx94.four; have hl94 := hx94.lt) | ((with_reducible refine (HZZ.out _).mono ?_); rintro e w5 ⟨rfl, hb5⟩))
        go_ret
        have h4 := HB3.out.trans (hb4.mono HB3.out.size)
        exact ⟨rfl, h4.trans (hb5.mono h4.size)⟩
      | some t =>
        have hc : cntT t ≤ 1000 := by
          obtain ⟨_, ⟨w1, _, g1, _⟩, _, _⟩ := mayP_iff.1 hq.1
          exact lay_cnt (w := w.toNat) (h := h.toNat) (by rw [Int.toNat_of_nonneg (by omega), Int.toNat_of_nonneg (by omega)]; exact hq.1) ho
        have HL := hid (HLY.out.mono (R' := fun e w' => (∃ kA kn kc, e = .returned (.tuple #[.agg #[.int .i64 t.kind, .int .i64 t.pane, .int .i64 t.size, .slice kA kn kc], .int .i64 0]) ∧ TrAt w' t (.slice kA kn kc)) ∧ Below W.heap.size W w') (by
          rintro e w' (⟨hno, _⟩ | ⟨_, hp⟩)
          · exact absurd hq hno
          · rw [ho] at hp
            obtain ⟨hb, t', kA, kn, kc, err, rfl, ht, ⟨e, _⟩ | ⟨e, rfl⟩⟩ := hp.one
            · cases e
            · cases e
              exact ⟨⟨_, _, _, rfl, TrB.at _ _ ht⟩, hb⟩))
        rw [ho] at HRL
        obtain ⟨tk, htk⟩ : ∃ tk, t.kind = tk := ⟨_, rfl⟩
        obtain ⟨tp, htp⟩ : ∃ tp, t.pane = tp := ⟨_, rfl⟩
        obtain ⟨ts, hts⟩ : ∃ ts, t.size = ts := ⟨_, rfl⟩
        rw [htk, htp, hts] at HL
        have HSM := hid (fun (kA kB : Option Addr) (km kc kd : Nat) (X : World) (ha : TrAt X t (.slice kA km kc)) (hb : TrAt X t (.slice kB km kd)) => same_yes 1000 t kA kB km kc kd tk tp ts ts X hc (Nat.le_refl _) htk htp ha hb)
        have HTK := hid (show t.kind = tk ∧ t.pane = tp ∧ t.size = ts from ⟨htk, htp, hts⟩)
        clear HLY hq hmq ho hv hn hc htk htp hts
        go_upto_region 6 with (first | ((with_reducible refine HL.out.mono ?_); rintro e w1 ⟨⟨kA, kn, kc, rfl, ht1⟩, hb1⟩; have HB1 := hid (hb1.alloc hb1.size (.cells #[.int .i64 tk, .int .i64 tp, .int .i64 ts, .slice kA kn kc] 24)); have HX9 := hid (Box.new w1 24 #[.int .i64 tk, .int .i64 tp, .int .i64 ts, .slice kA kn kc]); have HT1 := hid (ht1.below (below_alloc w1 (.cells #[.int .i64 tk, .int .i64 tp, .int .i64 ts, .slice kA kn kc] 24)))) | ((with_reducible refine (HM.out _ HB1.out).mono ?_); rintro e w2 ⟨rfl, rfl⟩) | ((with_reducible refine (HRL.out _ HB1.out).mono ?_); rintro e w3 ⟨hb3, t', kB, kn', kd, b, rfl, ht', hcase⟩))
        obtain ⟨rfl, rfl⟩ : t' = t ∧ b = true := by
          rcases hcase with ⟨e, _⟩ | ⟨e, hb⟩
          · cases e
          · cases e; exact ⟨rfl, hb⟩
        obtain ⟨e1, e2, e3⟩ := HTK.out
        have hta := HT1.out.below hb3
        have htb := TrB.at _ _ ht'
        obtain ⟨_, _, ea, _⟩ := hta.spell
        obtain ⟨_, _, eb, _⟩ := htb.spell
        obtain ⟨km, hkm⟩ : ∃ km, t'.kids.length = km := ⟨_, rfl⟩
        rw [hkm] at ea eb
        cases ea
        cases eb
        rw [e1, e2, e3]
        have HX93 := hid ((HX9.out.below hb3 HX9.out.lt).alloc (.cells #[.int .i64 tk, .int .i64 tp, .int .i64 ts, .slice kB kn kd, .bool true] 44))
        have HX11 := hid (Box.new w3 44 #[.int .i64 tk, .int .i64 tp, .int .i64 ts, .slice kB kn kd, .bool true])
        have HB3 := hid ((HB1.out.trans (hb3.mono HB1.out.size)).alloc (HB1.out.trans (hb3.mono HB1.out.size)).size (.cells #[.int .i64 tk, .int .i64 tp, .int .i64 ts, .slice kB kn kd, .bool true] 44))
        have hal := below_alloc w3 (.cells #[.int .i64 tk, .int .i64 tp, .int .i64 ts, .slice kB kn kd, .bool true] 44)
        have HTA := hid (hta.below hal)
        have HTB := hid (htb.below hal)
        obtain ⟨T9, hT9⟩ : ∃ T9, w1.heap.size = T9 := ⟨_, rfl⟩
        obtain ⟨T11, hT11⟩ : ∃ T11, w3.heap.size = T11 := ⟨_, rfl⟩
        obtain ⟨X, hXe⟩ : ∃ X, w3.alloc (.cells #[.int .i64 tk, .int .i64 tp, .int .i64 ts, .slice kB kn kd, .bool true] 44) = X := ⟨_, rfl⟩
        rw [hXe] at HX93 HX11 HB3 HTA HTB ⊢
        rw [hT9] at HX93 ⊢
        rw [hT11] at HX11 ⊢
        obtain ⟨⟨z0, z1, z2, z3, z4⟩, _⟩ := HX11.out.five
        have hl11 := HX11.out.lt
        have hl9 := HX93.out.lt
        clear hal hta htb ht' hcase hkm HTK e1 e2 e3 hT9 hT11 hXe hb3 hb1 ht1 HT1 HX9 HB1 HL HM HRL
        go_wp2_with (first | ((with_reducible refine (HA.out _).mono ?_); rintro e w4 ⟨rfl, hb4⟩; have hx94 := HX93.out.below hb4 HX93.out.lt; obtain ⟨⟨y0, y1, y2, y3⟩, _⟩ := hx94.four; have hx114 := HX11.out.below hb4 HX11.out.lt; obtain ⟨⟨x0, x1, x2, x3, x4⟩, _⟩ := hx114.five; have hl94 := hx94.lt; have hl114 := hx114.lt; have HSS := hid (HSM.out kA kB kn kc kd w4 (HTA.out.below hb4) (HTB.out.below hb4))) | ((with_reducible refine HSS.out.mono ?_); rintro e w5 ⟨rfl, hb5⟩))
        go_ret
        have h4 := HB3.out.trans (hb4.mono HB3.out.size)
        exact ⟨rfl, h4.trans (hb5.mono h4.size)⟩
    · have hmq : mayQ ps how w h = false := by
        rw [Bool.eq_false_iff]
        intro e
        unfold mayQ at e
        rw [Bool.and_eq_true, decide_eq_true_eq] at e
        exact hq e
      rw [hmq] at HM
      have HL := hid (HLY.out.mono (R' := LayZ W 1) (by
        rintro e w' (⟨_, e, hb⟩ | ⟨hy, _⟩)
        · exact ⟨e, hb⟩
        · exact absurd hy hq))
      clear HLY hq hmq hv hn
      go_wp2_with (first | ((with_reducible refine HL.out.mono ?_); rintro e w1 ⟨rfl, hb1⟩; have HB1 := hid (hb1.alloc hb1.size (.cells #[.int .i64 0, .int .i64 0, .int .i64 0, .slice none 0 0] 24)); have HX9 := hid (Box.new w1 24 #[.int .i64 0, .int .i64 0, .int .i64 0, .slice none 0 0])) | ((with_reducible refine (HM.out _ HB1.out).mono ?_); rintro e w2 ⟨rfl, rfl⟩) | ((with_reducible refine (HA.out _).mono ?_); rintro e w4 ⟨rfl, hb4⟩; have hx94 := HX9.out.below hb4 HX9.out.lt; obtain ⟨⟨y0, y1, y2, y3⟩, _⟩ := hx94.four; have hl94 := hx94.lt) | ((with_reducible refine (HZZ.out _).mono ?_); rintro e w5 ⟨rfl, hb5⟩))
      go_ret
      have h4 := HB1.out.trans (hb4.mono HB1.out.size)
      exact ⟨rfl, h4.trans (hb5.mono h4.size)⟩
end Go.Proofs.Ytglfolbimafcaaa
