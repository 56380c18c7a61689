/- Layer 5, the statement ParseCuts: in two parts as in one. Made by wip/gen/parseZ.py. -/
import Derived.Test.YtpcpdbofbbpglaaDoorParseY
namespace Go.Proofs.YtpcpdbofbbpglaaDoor
open Go.RowKit

theorem few_sizes (p : Pa) : (fewP p).params.length ≤ 18 ∧ (fewP p).osc.size ≤ 66 ∧ (fewP p).pend.size ≤ 6 := by
  unfold fewP
  refine ⟨?_, ?_, ?_⟩
  · rw [List.length_take]; omega
  · rw [size_extract']; omega
  · rw [size_extract']; omega
/-- A row of the call's own reads as things, if the parts do. -/
theorem own_drow {W : World} {base : Nat} {v u1 u2 : Value} {l m : List (Dn × Value)} (h : OwnD W base v (l ++ m)) (h1 : DRow W u1 l) (h2 : DRow W u2 m) : DRow W v (l ++ m) := by
  have h' : W.ownsRow base 37 7 v (l ++ m).length (dflat (l ++ m)) := h
  have key : ∀ (j : Nat) (e : Dn × Value), (l ++ m)[j]? = some e → IRow W e.2 e.1.params ∧ e.1.params.length ≤ 1000000 := by
    intro j e hj
    by_cases hlt : j < l.length
    · rw [List.getElem?_append_left hlt] at hj
      obtain ⟨_, _, _, hc⟩ := h1
      obtain ⟨g, _, _, hx⟩ := hc (by intro e'; rw [e'] at hlt; simp at hlt)
      exact (hx j e hj).2
    · rw [List.getElem?_append_right (by omega)] at hj
      obtain ⟨_, _, _, hc⟩ := h2
      obtain ⟨g, _, _, hx⟩ := hc (by intro e'; rw [e'] at hj; simp at hj)
      exact (hx _ e hj).2
  rcases h.2 with ⟨rfl, h0⟩ | ⟨g, cap, cur, rfl, _, hg, _⟩
  · exact ⟨_, _, by rw [h0], fun hl => absurd (List.length_eq_zero_iff.1 h0) hl⟩
  · refine ⟨_, _, rfl, fun _ => ⟨g, rfl, (Array.getElem?_eq_some_iff.1 hg).1, fun j e hj => ⟨fun i u hu => ?_, key j e hj⟩⟩⟩
    have hj1 := (List.getElem?_eq_some_iff.1 hj).1
    have hi : i < 7 := by have := (Array.getElem?_eq_some_iff.1 hu).1; simpa [Dn.cells] using this
    rw [h'.cellAt (j * 7 + i) (by omega)]
    exact dflat_at _ j e i u hj hu
set_option maxRecDepth 100000 in
set_option maxHeartbeats 4000000 in
theorem cuts_any (p : Pa) (A : Option Addr) (c : Nat) (s t : ByteArray) (w : World) (hT : Tab w) (hr : IRow w (.slice A p.params.length c) p.params) (hc : p.params.length ≤ c) (ho : p.osc.size ≤ maxLen) (hp : p.pend.size ≤ maxLen) (hs : s.size ≤ maxLen) (ht : t.size ≤ maxLen) :
    Calls Tryd.prog 3 #[.agg (p.cells (.slice A p.params.length c)), .string s, .string t] w fun e w' => e = .returned (.bool true) ∧ Below w.heap.size w w' := by
  unfold maxLen at *
  have hfew := fun W => few_any p A c W hc ho hp
  have hI := hr.take 18
  have hfq : (p.params.take 18) = (fewP p).params := rfl
  rw [hfq] at hI
  obtain ⟨z1, z2, z3⟩ := few_sizes p
  obtain ⟨s', hs'⟩ : ∃ s', s.extract 0 200 = s' := ⟨_, rfl⟩
  obtain ⟨t', ht'⟩ : ∃ t', t.extract 0 200 = t' := ⟨_, rfl⟩
  have zs : s'.size ≤ 200 := by rw [← hs', size_extract']; omega
  have zt : t'.size ≤ 200 := by rw [← ht', size_extract']; omega
  have m1 : (0 : Int) ≤ (if (200 : Int) < s.size then (200 : Int) else s.size) := (min_facts s 200).1
  have m2 : (if (200 : Int) < s.size then (200 : Int) else s.size) ≤ s.size := (min_facts s 200).2.1
  have m3 : s.extract 0 (if (200 : Int) < s.size then (200 : Int) else s.size).toNat = s' := (min_facts s 200).2.2.trans hs'
  have n1 : (0 : Int) ≤ (if (200 : Int) < t.size then (200 : Int) else t.size) := (min_facts t 200).1
  have n2 : (if (200 : Int) < t.size then (200 : Int) else t.size) ≤ t.size := (min_facts t 200).2.1
  have n3 : t.extract 0 (if (200 : Int) < t.size then (200 : Int) else t.size).toNat = t' := (min_facts t 200).2.2.trans ht'
  have HF := hid hfew
  obtain ⟨q, hq⟩ : ∃ q, fewP p = q := ⟨_, rfl⟩
  unfold FewPost at HF
  rw [hq] at HF z1 z2 z3 hI
  have hT0 := hid hT
  clear hfew hs' ht' hq hT hfq
  obtain ⟨p1, p2, p3, p4, p5, p6⟩ := p
  unfold Pa.cells at *
  simp only at *
  clear hr
  generalize p3.length = m at *
  have bx := Box.new w 24 #[.int .i64 p1, .int .i64 p2, .slice A m c, .int .i64 p4, .string p5, .string p6]
  have hbW := below_alloc w (.cells #[.int .i64 p1, .int .i64 p2, .slice A m c, .int .i64 p4, .string p5, .string p6] 24)
  go_enter Tryd.func3, Tryd.ntmps3
  go_upto_region 1 with fail
  go_cut [1, 2] (fun a b wx => a = .string s' ∧ b = .string t' ∧ Box wx w.heap.size 24 (q.cells (.slice A q.params.length c)) ∧ Below w.heap.size w wx)
  case first =>
    generalize (w.alloc (.cells #[.int .i64 p1, .int .i64 p2, .slice A m c, .int .i64 p4, .string p5, .string p6] 24)) = W0 at *
    obtain ⟨b, hb⟩ : ∃ b, w.heap.size = b := ⟨_, rfl⟩
    rw [hb] at bx hbW ⊢
    have hlt := bx.lt
    have HBQ := hid hb
    clear hb
    refine wp_region_S (TwoS 12 13 (fun w' => Box w' b 24 #[.int .i64 p1, .int .i64 p2, .slice A m c, .int .i64 p4, .string p5, .string p6]) (fun _ => True)) (by kernel_rfl) ?_
    have hS : ∀ L, TwoS 12 13 (fun w' => Box w' b 24 #[.int .i64 p1, .int .i64 p2, .slice A m c, .int .i64 p4, .string p5, .string p6]) (fun _ => True) L (World.drew W0) := fun L => ⟨fun _ => bx, fun _ => trivial⟩
    refine takeS1 (i := 0) (v := ?v0) 16 rfl rfl (by kernel_rfl) (by kernel_rfl) (by kernel_rfl) (by kernel_rfl) (by decide) (by decide) (by kernel_rfl) (fun _ _ _ h => h) (Or.inl ⟨by rfl, fun w' hw' => ?hy0⟩) (hS _) ?rest0
    case hy0 => have a0 : w'.cell? ⟨b, 0, none⟩ = some (.int .i64 p1) := hw'.cell 0; have a1 : w'.cell? ⟨b, 1, none⟩ = some (.int .i64 p2) := hw'.cell 1; have a2 : w'.cell? ⟨b, 2, none⟩ = some (.slice A m c) := hw'.cell 2; have a3 : w'.cell? ⟨b, 3, none⟩ = some (.int .i64 p4) := hw'.cell 3; have a4 : w'.cell? ⟨b, 4, none⟩ = some (.string p5) := hw'.cell 4; have a5 : w'.cell? ⟨b, 5, none⟩ = some (.string p6) := hw'.cell 5; go_simp; try with_reducible rfl
    simp only [Act.put, List.setIfInBounds_toArray, List.set_cons_zero, List.set_cons_succ]
    refine takeS (i := 2) (v := ?v2) 18 rfl rfl (by kernel_rfl) (by kernel_rfl) (by kernel_rfl) (by kernel_rfl) (by decide) (by decide) (fun _ _ _ h => h) (Or.inl ⟨by rfl, fun w' _ => ?hy2⟩) (hS _) ?rest2
    case hy2 => go_simp; try with_reducible rfl
    simp only [Act.put, List.setIfInBounds_toArray, List.set_cons_zero, List.set_cons_succ]
    refine takeS (i := 3) (v := ?v3) 19 rfl rfl (by kernel_rfl) (by kernel_rfl) (by kernel_rfl) (by kernel_rfl) (by decide) (by decide) (fun _ _ _ h => h) (Or.inl ⟨by rfl, fun w' _ => ?hy3⟩) (hS _) ?rest3
    case hy3 => go_simp; try with_reducible rfl
    simp only [Act.put, List.setIfInBounds_toArray, List.set_cons_zero, List.set_cons_succ]
    refine takeS (i := 4) (v := ?v4) 20 rfl rfl (by kernel_rfl) (by kernel_rfl) (by kernel_rfl) (by kernel_rfl) (by decide) (by decide) (fun _ _ _ h => h) (Or.inl ⟨by rfl, fun w' _ => ?hy4⟩) (hS _) ?rest4
    case hy4 => go_simp; try with_reducible rfl
    simp only [Act.put, List.setIfInBounds_toArray, List.set_cons_zero, List.set_cons_succ]
    refine takeS (i := 5) (v := ?v5) 21 rfl rfl (by kernel_rfl) (by kernel_rfl) (by kernel_rfl) (by kernel_rfl) (by decide) (by decide) (fun _ _ _ h => h) (Or.inl ⟨by rfl, fun w' _ => ?hy5⟩) (hS _) ?rest5
    case hy5 => go_simp; try with_reducible rfl
    simp only [Act.put, List.setIfInBounds_toArray, List.set_cons_zero, List.set_cons_succ]
    refine takeS (i := 6) (v := ?v6) 22 rfl rfl (by kernel_rfl) (by kernel_rfl) (by kernel_rfl) (by kernel_rfl) (by decide) (by decide) (fun _ _ _ h => h) (Or.inl ⟨by rfl, fun w' _ => ?hy6⟩) (hS _) ?rest6
    case hy6 => go_simp; try with_reducible rfl
    simp only [Act.put, List.setIfInBounds_toArray, List.set_cons_zero, List.set_cons_succ]
    refine takeS (i := 7) (v := ?v7) 23 rfl rfl (by kernel_rfl) (by kernel_rfl) (by kernel_rfl) (by kernel_rfl) (by decide) (by decide) (fun _ _ _ h => h) (Or.inl ⟨by rfl, fun w' _ => ?hy7⟩) (hS _) ?rest7
    case hy7 => go_simp; try with_reducible rfl
    simp only [Act.put, List.setIfInBounds_toArray, List.set_cons_zero, List.set_cons_succ]
    refine takeS (i := 8) (v := ?v8) 24 rfl rfl (by kernel_rfl) (by kernel_rfl) (by kernel_rfl) (by kernel_rfl) (by decide) (by decide) (fun _ _ _ h => h) (Or.inl ⟨by rfl, fun w' _ => ?hy8⟩) (hS _) ?rest8
    case hy8 => go_simp; try with_reducible rfl
    simp only [Act.put, List.setIfInBounds_toArray, List.set_cons_zero, List.set_cons_succ]
    refine takeS (i := 9) (v := ?v9) 25 rfl rfl (by kernel_rfl) (by kernel_rfl) (by kernel_rfl) (by kernel_rfl) (by decide) (by decide) (fun _ _ _ h => h) (Or.inl ⟨by rfl, fun w' _ => ?hy9⟩) (hS _) ?rest9
    case hy9 => go_simp; try with_reducible rfl
    simp only [Act.put, List.setIfInBounds_toArray, List.set_cons_zero, List.set_cons_succ]
    refine takeS (i := 10) (v := ?v10) 26 rfl rfl (by kernel_rfl) (by kernel_rfl) (by kernel_rfl) (by kernel_rfl) (by decide) (by decide) (fun _ _ _ h => h) (Or.inl ⟨by rfl, fun w' _ => ?hy10⟩) (hS _) ?rest10
    case hy10 => go_simp; try with_reducible rfl
    simp only [Act.put, List.setIfInBounds_toArray, List.set_cons_zero, List.set_cons_succ]
    refine takeS (i := 11) (v := ?v11) 27 rfl rfl (by kernel_rfl) (by kernel_rfl) (by kernel_rfl) (by kernel_rfl) (by decide) (by decide) (fun _ _ _ h => h) (Or.inl ⟨by rfl, fun w' _ => ?hy11⟩) (hS _) ?rest11
    case hy11 => go_simp; try with_reducible rfl
    simp only [Act.put, List.setIfInBounds_toArray, List.set_cons_zero, List.set_cons_succ]
    refine oneS (k := 1) (by kernel_rfl) rfl (by rfl) (fun K hK => ?_)
    go_simp
    go_at_call 6
    refine (HF.out _).mono ?_
    rintro e w2 ⟨rfl, hb2⟩
    dsimp only
    have hb2 : Below W0.heap.size W0 w2 := (Below.refl _ W0).drew.trans hb2
    have bx2 := bx.below hb2 hlt
    have hbY := hbW.trans (hb2.mono (by omega))
    refine hK _ _ ⟨fun _ => bx2, fun _ => trivial⟩ ?_
    clear hK K hS bx
    obtain ⟨q1, q2, q3, q4, q5, q6⟩ := q
    clear hI
    simp only at *
    obtain ⟨n, hn⟩ : ∃ n, q3.length = n := ⟨_, rfl⟩
    rw [hn]
    have HNQ := hid hn
    clear hn
    have c0 : w2.cell? ⟨b, 0, none⟩ = some (.int .i64 p1) := bx2.cell 0
    have c1 : w2.cell? ⟨b, 1, none⟩ = some (.int .i64 p2) := bx2.cell 1
    have c2' : w2.cell? ⟨b, 2, none⟩ = some (.slice A m c) := bx2.cell 2
    have c3 : w2.cell? ⟨b, 3, none⟩ = some (.int .i64 p4) := bx2.cell 3
    have c4 : w2.cell? ⟨b, 4, none⟩ = some (.string p5) := bx2.cell 4
    have c5 : w2.cell? ⟨b, 5, none⟩ = some (.string p6) := bx2.cell 5
    obtain ⟨f0, f1, f2, f3, f4, f5⟩ := six_cells bx2
    refine oneS (k := 12) (by kernel_rfl) rfl (by rfl) (fun K hK => ?_)
    go_simp
    refine hK _ _ ⟨fun h => absurd h (by decide), fun _ => trivial⟩ ?_
    clear hK K
    refine oneS (k := 13) (by kernel_rfl) rfl (by rfl) (fun K hK => ?_)
    go_simp
    refine hK _ _ ⟨fun h => absurd h (by decide), fun _ => trivial⟩ ?_
    clear hK K
    refine oneS (k := 14) (by kernel_rfl) rfl (by rfl) (fun K hK => ?_)
    go_simp
    refine hK _ _ ⟨fun h => absurd h (by decide), fun _ => trivial⟩ ?_
    clear hK K
    refine doneS (by kernel_rfl) ?_ _
    have bx5 : Box (((((((w2.setCell ⟨b, 0, none⟩ (.int .i64 q1)).setCell ⟨b, 1, none⟩ (.int .i64 q2)).setCell ⟨b, 2, none⟩ (.slice A n c)).setCell ⟨b, 3, none⟩ (.int .i64 q4)).setCell ⟨b, 4, none⟩ (.string q5)).setCell ⟨b, 5, none⟩ (.string q6))) b 24 #[.int .i64 q1, .int .i64 q2, .slice A n c, .int .i64 q4, .string q5, .string q6] := (((((bx2.set (i := 0) (.int .i64 q1)).set (i := 1) (.int .i64 q2)).set (i := 2) (.slice A n c)).set (i := 3) (.int .i64 q4)).set (i := 4) (.string q5)).set (i := 5) (.string q6)
    have hg5 : w2.grownBy (((((((w2.setCell ⟨b, 0, none⟩ (.int .i64 q1)).setCell ⟨b, 1, none⟩ (.int .i64 q2)).setCell ⟨b, 2, none⟩ (.slice A n c)).setCell ⟨b, 3, none⟩ (.int .i64 q4)).setCell ⟨b, 4, none⟩ (.string q5)).setCell ⟨b, 5, none⟩ (.string q6))) (some b) := grown_set (grown_set (grown_set (grown_set (grown_set (grown_set (World.grownBy.refl w2 _) _) _) _) _) _) _
    generalize (((((((w2.setCell ⟨b, 0, none⟩ (.int .i64 q1)).setCell ⟨b, 1, none⟩ (.int .i64 q2)).setCell ⟨b, 2, none⟩ (.slice A n c)).setCell ⟨b, 3, none⟩ (.int .i64 q4)).setCell ⟨b, 4, none⟩ (.string q5)).setCell ⟨b, 5, none⟩ (.string q6))) = w5 at *
    clear m1 m2 m3 n1 n2 n3
    generalize (if (200 : Int) < s.size then (200 : Int) else s.size) = i1
    generalize (if (200 : Int) < t.size then (200 : Int) else t.size) = i2
    clear c0 c1 c2' c3 c4 c5 f0 f1 f2 f3 f4 f5
    go_wp2
    have hbq := HBQ.out
    subst hbq
    go_meet
    have hn := HNQ.out
    subst hn
    have hz2 := hb2.size
    have hb5 := hbY.grown hg5 (by omega) (fun k e => by cases e; exact Nat.le_refl _)
    exact ⟨rfl, rfl, bx5, hb5⟩
  case rest =>
    obtain ⟨rfl, rfl, bx0, hb0⟩ := hcut
    obtain ⟨w0, rfl⟩ : ∃ w0 : World, w0 = wc := ⟨_, rfl⟩
    clear bx hbW HF hc hs ht ho hp m1 m2 m3 n1 n2 n3
    have hal := fun W (hb : Below w.heap.size w W) => alive_any W (hT0.out.below hb)
    have HAL := hid hal
    clear hal
    by_cases hright : rightP q
    · have hf1 := feed_yes q (.slice A q.params.length c) s' w0 (hT0.out.below hb0) (hI.below hb0) hright (by omega)
      have HF1 := hid hf1
      have hfa := feed_append (bytesP s') (bytesP t') q
      rw [← bytesP_append] at hfa
      have hf3 := fun W (hb : Below w.heap.size w W) => feed_yes q (.slice A q.params.length c) (s' ++ t') W (hT0.out.below hb) (hI.below hb) hright (by rw [size_append']; omega)
      rw [hfa] at hf3
      have hrx := right_feed (bytesP s') q hright
      have hlx := feed_len (bytesP s') q
      rw [bytesP_length] at hlx
      have hf2 := fun v W (hb : Below w.heap.size w W) (hv : IRow W v (feedP q (bytesP s')).1.params) => feed_yes (feedP q (bytesP s')).1 v t' W (hT0.out.below hb) hv hrx (by omega)
      have hry := right_feed (bytesP t') (feedP q (bytesP s')).1 hrx
      have hly := feed_len (bytesP t') (feedP q (bytesP s')).1
      rw [bytesP_length] at hly
      clear hfa hf1
      generalize feedP q (bytesP s') = rx at *
      obtain ⟨x, lx⟩ := rx
      simp only at *
      generalize feedP x (bytesP t') = ry at *
      obtain ⟨y, ly⟩ := ry
      simp only at *
      have HF2 := hid hf2
      have HF3 := hid hf3
      obtain ⟨q1, q2, q3, q4, q5, q6⟩ := q
      unfold Pa.cells at bx0 HF1 HF3
      simp only at bx0 HF1 HF3
      have c0 : w0.cell? ⟨w.heap.size, 0, none⟩ = some (.int .i64 q1) := bx0.cell 0
      have c1 : w0.cell? ⟨w.heap.size, 1, none⟩ = some (.int .i64 q2) := bx0.cell 1
      have c2 : w0.cell? ⟨w.heap.size, 2, none⟩ = some (.slice A q3.length c) := bx0.cell 2
      have c3 : w0.cell? ⟨w.heap.size, 3, none⟩ = some (.int .i64 q4) := bx0.cell 3
      have c4 : w0.cell? ⟨w.heap.size, 4, none⟩ = some (.string q5) := bx0.cell 4
      have c5 : w0.cell? ⟨w.heap.size, 5, none⟩ = some (.string q6) := bx0.cell 5
      have BX0 := hid bx0
      clear hf2 hf3 bx0 hI hright z1 z2 z3
      go_wp2_with fail
      refine HF1.out.mono ?_
      rintro e w1 ⟨v1, dv1, lv1, rfl, hv1, hd1, hlv1, hb1⟩
      dsimp only
      simp only at hv1 hlv1
      have hv1' := hv1
      have hd1' := hd1
      obtain ⟨A1, k1, rfl, _⟩ := hv1'
      obtain ⟨D1, e1, rfl, _⟩ := hd1'
      have hw1 := hb0.trans (hb1.mono hb0.size)
      have b0 := BX0.out.below hb1 BX0.out.lt
      have hW1 := hw1.alloc hw1.size (.cells (x.cells (.slice A1 x.params.length k1)) 24)
      have hs1 := HF2.out (.slice A1 x.params.length k1) _ hW1 (hv1.below (below_alloc _ _))
      have bx7 := Box.new w1 24 (x.cells (.slice A1 x.params.length k1))
      have b0' := b0.alloc (.cells (x.cells (.slice A1 x.params.length k1)) 24)
      have hX := fun W (hb : Below w1.heap.size w1 W) => right_any x (.slice A1 x.params.length k1) W (hT0.out.below (hw1.trans (hb.mono hw1.size))) (hv1.below hb) (by have := (right_bounds hrx).1; omega) (by have := (right_bounds hrx).2.2; omega)
      rw [(rightQ_iff x).2 hrx] at hX
      obtain ⟨x1, x2, x3, x4, x5, x6⟩ := x
      unfold Pa.cells at *
      simp only at *
      have HS1 := hid hs1
      have HX := hid hX
      have HB7 := hid bx7
      have HB0 := hid b0'
      have HD1 := hid hd1
      have HW1 := hid hW1
      have HL1 := hid hlv1
      clear hs1 hX bx7 b0' hd1 hW1 hlv1 hv1 HF2 HF1 b0 c0 c1 c2 c3 c4 c5
      have hsz1 : w1.heap.size < w1.heap.size + 1 := by omega
      go_wp2_with fail
      refine HS1.out.mono ?_
      rintro e w2 ⟨v2, dv2, lv2, rfl, hv2, hd2, hlv2, hb2⟩
      dsimp only
      simp only at hv2 hlv2
      have hv2' := hv2
      have hd2' := hd2
      obtain ⟨A2, k2, rfl, _⟩ := hv2'
      obtain ⟨D2, e2, rfl, _⟩ := hd2'
      have hw2 := HW1.out.trans (hb2.mono HW1.out.size)
      have b0 := HB0.out.below hb2 HB0.out.lt
      have b7 := HB7.out.below hb2 HB7.out.lt
      have b10 := Box.new w2 24 (y.cells (.slice A2 y.params.length k2))
      have hW2 := hw2.alloc hw2.size (.cells (y.cells (.slice A2 y.params.length k2)) 24)
      have h12 : Below w1.heap.size w1 w2 := Below.behind hb2
      have hs3 := HF3.out _ hW2
      have hY := fun W (hb : Below w2.heap.size w2 W) => right_any y (.slice A2 y.params.length k2) W (hT0.out.below (hw2.trans (hb.mono hw2.size))) (hv2.below hb) (by have := (right_bounds hry).1; omega) (by have := (right_bounds hry).2.2; omega)
      rw [(rightQ_iff y).2 hry] at hY
      obtain ⟨yb1, yb2, yb3⟩ := right_bounds hry
      have hLk := fun v3 k3 W (hb : Below w2.heap.size w2 W) (h3 : IRow W (.slice v3 y.params.length k3) y.params) => rLikeP_eq y (.slice A2 y.params.length k2) (.slice v3 y.params.length k3) W (hv2.below hb) h3 (by omega)
      obtain ⟨y1, y2, y3, y4, y5, y6⟩ := y
      unfold Pa.cells at *
      simp only at *
      have HS3 := hid hs3
      have HY := hid hY
      have HLK := hid hLk
      have HB7 := hid b7
      have HB10 := hid b10
      have HD2 := hid hd2
      have HW2 := hid hW2
      have HL2 := hid hlv2
      have H12 := hid h12
      have hsz2 := hw2.size
      have hlt0 := b0.lt
      have bc := b0
      have c0 : w2.cell? ⟨w.heap.size, 0, none⟩ = some (.int .i64 q1) := bc.cell 0
      have c1 : w2.cell? ⟨w.heap.size, 1, none⟩ = some (.int .i64 q2) := bc.cell 1
      have c2 : w2.cell? ⟨w.heap.size, 2, none⟩ = some (.slice A q3.length c) := bc.cell 2
      have c3 : w2.cell? ⟨w.heap.size, 3, none⟩ = some (.int .i64 q4) := bc.cell 3
      have c4 : w2.cell? ⟨w.heap.size, 4, none⟩ = some (.string q5) := bc.cell 4
      have c5 : w2.cell? ⟨w.heap.size, 5, none⟩ = some (.string q6) := bc.cell 5
      clear b0 b7 b10 bc hW2 hs3 hY hLk hv2 hd2 hlv2 h12 HS1 HB0 HF3
      go_wp2_with fail
      refine HS3.out.mono ?_
      rintro e w3 ⟨v3, dv3, lv3, rfl, hv3, hd3, hlv3, hb3⟩
      dsimp only
      unfold Pa.cells
      simp only at hv3 hlv3 ⊢
      have hv3' := hv3
      have hd3' := hd3
      obtain ⟨A3, k3, rfl, _⟩ := hv3'
      obtain ⟨D3, e3, rfl, _⟩ := hd3'
      have h23 : Below w2.heap.size w2 w3 := Below.behind hb3
      have hw3 := HW2.out.trans (hb3.mono HW2.out.size)
      have hz3 : w2.heap.size < w3.heap.size := by have := hb3.size; simp at this; omega
      have hz1 : w1.heap.size < w2.heap.size := by have := HB7.out.lt; exact this
      have b7 := HB7.out.below h23 HB7.out.lt
      have b10 := HB10.out.below hb3 HB10.out.lt
      have b13 := Box.new w3 24 #[.int .i64 y1, .int .i64 y2, .slice A3 y3.length k3, .int .i64 y4, .string y5, .string y6]
      have h3a := below_alloc w3 (.cells #[.int .i64 y1, .int .i64 y2, .slice A3 y3.length k3, .int .i64 y4, .string y5, .string y6] 24)
      clear c0 c1 c2 c3 c4 c5 HS3 HB7 HB10
      have HV3 := hid hv3
      have HD3 := hid hd3
      have HL3 := hid hlv3
      have HX1 := hid (HX.out _ ((H12.out.trans (h23.mono H12.out.size)).trans (h3a.mono (by omega))))
      have HBA7 := hid (b7.alloc (.cells #[.int .i64 y1, .int .i64 y2, .slice A3 y3.length k3, .int .i64 y4, .string y5, .string y6] 24))
      have HBA10 := hid (b10.alloc (.cells #[.int .i64 y1, .int .i64 y2, .slice A3 y3.length k3, .int .i64 y4, .string y5, .string y6] 24))
      have HB13 := hid b13
      have H3A := hid h3a
      have c0 : w3.cell? ⟨w1.heap.size, 0, none⟩ = some (.int .i64 x1) := b7.cell 0
      have c1 : w3.cell? ⟨w1.heap.size, 1, none⟩ = some (.int .i64 x2) := b7.cell 1
      have c2 : w3.cell? ⟨w1.heap.size, 2, none⟩ = some (.slice A1 x3.length k1) := b7.cell 2
      have c3 : w3.cell? ⟨w1.heap.size, 3, none⟩ = some (.int .i64 x4) := b7.cell 3
      have c4 : w3.cell? ⟨w1.heap.size, 4, none⟩ = some (.string x5) := b7.cell 4
      have c5 : w3.cell? ⟨w1.heap.size, 5, none⟩ = some (.string x6) := b7.cell 5
      have hq3 : w1.heap.size < w3.heap.size := by omega
      have g1 : ¬ (16 : Int) < y3.length := by omega
      have g2 : ¬ (64 : Int) < y5.size := by omega
      have g3 : ¬ (3 : Int) < y6.size := by omega
      clear b7 b10 b13 hv3 hd3 hlv3 h3a HX
      go_wp2_with fail
      refine HX1.out.mono ?_
      rintro e w4 ⟨rfl, hb4⟩
      dsimp only
      clear c0 c1 c2 c3 c4 c5
      have h34 : Below w3.heap.size w3 w4 := Below.behind hb4
      have b10 := HBA10.out.below hb4 HBA10.out.lt
      have b13 := HB13.out.below hb4 HB13.out.lt
      have HY1 := hid (HY.out w4 (h23.trans (h34.mono h23.size)))
      have HB10 := hid b10
      have HB13b := hid b13
      have c0 : w4.cell? ⟨w2.heap.size, 0, none⟩ = some (.int .i64 y1) := b10.cell 0
      have c1 : w4.cell? ⟨w2.heap.size, 1, none⟩ = some (.int .i64 y2) := b10.cell 1
      have c2 : w4.cell? ⟨w2.heap.size, 2, none⟩ = some (.slice A2 y3.length k2) := b10.cell 2
      have c3 : w4.cell? ⟨w2.heap.size, 3, none⟩ = some (.int .i64 y4) := b10.cell 3
      have c4 : w4.cell? ⟨w2.heap.size, 4, none⟩ = some (.string y5) := b10.cell 4
      have c5 : w4.cell? ⟨w2.heap.size, 5, none⟩ = some (.string y6) := b10.cell 5
      clear b10 b13 HY HBA7 HBA10 HB13
      go_wp2_with fail
      refine HY1.out.mono ?_
      rintro e w5 ⟨rfl, hb5⟩
      dsimp only
      clear c0 c1 c2 c3 c4 c5
      have b10 := HB10.out.below hb5 HB10.out.lt
      have b13 := HB13b.out.below hb5 HB13b.out.lt
      have h45 := hb5
      have h35 : Below w3.heap.size w3 w5 := h34.trans (hb5.mono h34.size)
      have HAL1 := hid (HAL.out w5 (hw3.trans (h35.mono hw3.size)))
      have HB10 := hid b10
      have HB13 := hid b13
      have d2 : w5.cell? ⟨w2.heap.size, 2, none⟩ = some (.slice A2 y3.length k2) := b10.cell 2
      have d4 : w5.cell? ⟨w2.heap.size, 4, none⟩ = some (.string y5) := b10.cell 4
      have d5 : w5.cell? ⟨w2.heap.size, 5, none⟩ = some (.string y6) := b10.cell 5
      clear b10 b13 HB13b
      go_wp2_with fail
      refine HAL1.out.mono ?_
      rintro e w6 ⟨rfl, hb6⟩
      dsimp only
      clear d2 d4 d5
      have h36 : Below w3.heap.size w3 w6 := h35.trans (hb6.mono h35.size)
      have b10 := HB10.out.below hb6 HB10.out.lt
      have b13 := HB13.out.below hb6 HB13.out.lt
      have hlk := HLK.out A3 k3 w6 (h23.trans (h36.mono h23.size)) (HV3.out.below h36)
      have c0 : w6.cell? ⟨w2.heap.size, 0, none⟩ = some (.int .i64 y1) := b10.cell 0
      have c1 : w6.cell? ⟨w2.heap.size, 1, none⟩ = some (.int .i64 y2) := b10.cell 1
      have c2 : w6.cell? ⟨w2.heap.size, 2, none⟩ = some (.slice A2 y3.length k2) := b10.cell 2
      have c3 : w6.cell? ⟨w2.heap.size, 3, none⟩ = some (.int .i64 y4) := b10.cell 3
      have c4 : w6.cell? ⟨w2.heap.size, 4, none⟩ = some (.string y5) := b10.cell 4
      have c5 : w6.cell? ⟨w2.heap.size, 5, none⟩ = some (.string y6) := b10.cell 5
      have d0 : w6.cell? ⟨w3.heap.size, 0, none⟩ = some (.int .i64 y1) := b13.cell 0
      have d1 : w6.cell? ⟨w3.heap.size, 1, none⟩ = some (.int .i64 y2) := b13.cell 1
      have d2 : w6.cell? ⟨w3.heap.size, 2, none⟩ = some (.slice A3 y3.length k3) := b13.cell 2
      have d3 : w6.cell? ⟨w3.heap.size, 3, none⟩ = some (.int .i64 y4) := b13.cell 3
      have d4 : w6.cell? ⟨w3.heap.size, 4, none⟩ = some (.string y5) := b13.cell 4
      have d5 : w6.cell? ⟨w3.heap.size, 5, none⟩ = some (.string y6) := b13.cell 5
      have HK := hid hlk
      clear b10 b13 hlk HLK HAL1 HB10 HB13
      go_wp2_with fail
      refine HK.out.mono ?_
      rintro e w7 ⟨rfl, hb7⟩
      dsimp only
      have h37 : Below w3.heap.size w3 w7 := h36.trans (hb7.mono h36.size)
      have h27 : Below w2.heap.size w2 w7 := h23.trans (h37.mono h23.size)
      have h17 : Below w1.heap.size w1 w7 := H12.out.trans (h27.mono H12.out.size)
      have hD1 := HD1.out.below h17
      have hD2 := HD2.out.below h27
      have hD3 := HD3.out.below h37
      have hlen1 : lv1.length ≤ 400 := by have := congrArg List.length HL1.out; rw [List.length_map] at this; omega
      have hlen2 : lv2.length ≤ 400 := by have := congrArg List.length HL2.out; rw [List.length_map] at this; omega
      have HO : Hid (OwnD (w7.alloc (.cells #[] 37)) w7.heap.size (.slice (some ⟨w7.heap.size, 0, none⟩) 0 0) []) := ⟨rfl, .inr ⟨w7.heap.size, 0, #[], rfl, Nat.le_refl _, heap_alloc_new w7 _, Nat.le_refl _, by decide, rfl, rfl⟩⟩
      have HE1 := hid hD1
      have HE2 := hid hD2
      have HE3 := hid hD3
      have hba := below_alloc w7 (.cells #[] 37)
      have HBA := hid hba
      have heq : (lv1 ++ lv2).map Prod.fst = lv3.map Prod.fst := by rw [List.map_append, HL1.out, HL2.out, HL3.out]
      have HEQ := hid heq
      have hlen : (lv1 ++ lv2).length ≤ 1000000 := by rw [List.length_append]; omega
      have HLN := hid hlen
      have HN12 := hid (show lv1.length + lv2.length ≤ 1000000 by omega)
      have HN1 := hid (show ([] : List (Dn × Value)).length + lv1.length ≤ 1000000 by simp; omega)
      have hw7 := hw3.trans (h37.mono hw3.size)
      clear c0 c1 c2 c3 c4 c5 d0 d1 d2 d3 d4 d5 hD1 hD2 hD3 hba heq hlen HK HV3 HD1 HD2 HD3
      have hz7 : w7.heap.size ≤ w7.heap.size + 1 := by omega
      go_wp2_with (first
        | (at_builtin; refine wpList_append_dl rfl (.tmp 100) (.tmp 101) rfl w7.heap.size _ _ [] lv1 rfl HO.out rfl (HE1.out.below HBA.out) HN1.out (by simp) ?_; intro v8 w8 ho8 hg8; rw [List.nil_append] at ho8; obtain ⟨A8, c8, rfl⟩ := ho8.spell; have hb8 := HBA.out.grown hg8 (by simp) (fun k e => (World.ownsRow.lt HO.out k e).1); have HO8 := hid ho8; clear ho8)
        | (at_builtin; refine wpList_append_dl rfl (.tmp 102) (.tmp 103) rfl w7.heap.size _ _ lv1 lv2 rfl HO8.out rfl (HE2.out.below hb8) HN12.out hb8.size ?_; intro v9 w9 ho9 hg9; have hb9 := hb8.grown hg9 hb8.size (fun k e => (World.ownsRow.lt HO8.out k e).1); obtain ⟨A9, c9, e9⟩ := ho9.spell; rw [List.length_append] at e9; subst e9; have hsm := rSame_eq _ _ _ _ w9 (own_drow ho9 (HE1.out.below hb9) (HE2.out.below hb9)) (HE3.out.below hb9) HEQ.out HLN.out; have HSM := hid hsm; clear ho9 hsm)
        | (go_at_call 11; refine HSM.out.mono ?_; rintro e w10 ⟨rfl, hb10⟩))
      go_ret
      exact ⟨rfl, hw7.trans ((hb9.trans (hb10.mono hb9.size)).mono hw7.size)⟩
    · have hno : rightQ q = false := by
        cases h : rightQ q
        · rfl
        · exact absurd ((rightQ_iff q).1 h) hright
      have hf := feed_no q (.slice A q.params.length c) s' w0 (hT0.out.below hb0) (hI.below hb0) (by omega) (by omega) hno
      have HF := hid hf
      obtain ⟨q1, q2, q3, q4, q5, q6⟩ := q
      unfold Pa.cells at bx0 HF
      simp only at bx0 HF
      have c0 : w0.cell? ⟨w.heap.size, 0, none⟩ = some (.int .i64 q1) := bx0.cell 0
      have c1 : w0.cell? ⟨w.heap.size, 1, none⟩ = some (.int .i64 q2) := bx0.cell 1
      have c2 : w0.cell? ⟨w.heap.size, 2, none⟩ = some (.slice A q3.length c) := bx0.cell 2
      have c3 : w0.cell? ⟨w.heap.size, 3, none⟩ = some (.int .i64 q4) := bx0.cell 3
      have c4 : w0.cell? ⟨w.heap.size, 4, none⟩ = some (.string q5) := bx0.cell 4
      have c5 : w0.cell? ⟨w.heap.size, 5, none⟩ = some (.string q6) := bx0.cell 5
      clear hf hno hright hI bx0 z1 z2 z3
      generalize q3.length = n at *
      go_wp2_with (first | (go_at_call 7; refine HF.out.mono ?_; rintro e w1 ⟨rfl, hb1⟩; have hw1 := hb0.trans (hb1.mono hb0.size)) | (go_at_call 8; refine (HAL.out _ (hw1.alloc hw1.size _)).mono ?_; rintro e w2 ⟨rfl, hb2⟩))
      go_ret
      exact ⟨rfl, hw1.trans ((Below.behind hb2).mono hw1.size)⟩
end Go.Proofs.YtpcpdbofbbpglaaDoor
