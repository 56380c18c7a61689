/- Layer 5, the statement ParseEnds: a cancel ends all. Made by wip/gen/parseZa.py. -/
import Derived.Test.YtpcpdbofbbpglaaDoorParseZ
import Derived.Test.YtpcpdbofbbpglaaDoorParseWc
namespace Go.Proofs.YtpcpdbofbbpglaaDoor
open Go.RowKit

theorem zero_like (W : World) (v : Value) (h : IRow W v []) : Calls Tryd.prog 10 #[.agg #[.int .i64 0, .int .i64 0, v, .int .i64 0, .string ⟨#[]⟩, .string ⟨#[]⟩], .agg #[.int .i64 0, .int .i64 0, .slice none 0 0, .int .i64 0, .string ⟨#[]⟩, .string ⟨#[]⟩]] W fun e w' => e = .returned (.bool true) ∧ Below W.heap.size W w' :=
  rLikeP_eq (.to 0) v (.slice none 0 0) W h (IRow.nil _ _) (Nat.zero_le _)
/-- What behind a cancel, a cancel and a letter is told: the letter, and ahead of it cancels, at the first place spoilt bytes. -/
theorem ends_list {p : Pa} (h : rightP p) : ∃ L, (feedP p [24, 24, 65]).2.length = L + 1 ∧ 1 ≤ L ∧ L ≤ 3 ∧ (feedP p [24, 24, 65]).2[L]? = some (dPrint 65) ∧ ∀ j, j < L → (feedP p [24, 24, 65]).2[j]? = some (dExec 24) ∨ (j = 0 ∧ (feedP p [24, 24, 65]).2[j]? = some (dPrint 65533)) := by
  rcases (feed_ends h).2 with e | e | e
  · rw [e]
    exact ⟨1, rfl, by omega, by omega, rfl, fun j hj => by
      obtain rfl : j = 0 := by omega
      exact .inl rfl⟩
  · rw [e]
    refine ⟨2, rfl, by omega, by omega, rfl, fun j hj => ?_⟩
    have : j = 0 ∨ j = 1 := by omega
    rcases this with rfl | rfl
    · exact .inl rfl
    · exact .inl rfl
  · rw [e]
    refine ⟨3, rfl, by omega, by omega, rfl, fun j hj => ?_⟩
    have : j = 0 ∨ j = 1 ∨ j = 2 := by omega
    rcases this with rfl | rfl | rfl
    · exact .inr ⟨rfl, rfl⟩
    · exact .inl rfl
    · exact .inl rfl
set_option maxRecDepth 100000 in
set_option maxHeartbeats 4000000 in
theorem ends_any (p : Pa) (A : Option Addr) (c : Nat) (s : ByteArray) (w : World) (hT : Tab w) (hr : IRow w (.slice A p.params.length c) p.params) (hc : p.params.length ≤ c) (ho : p.osc.size ≤ maxLen) (hp : p.pend.size ≤ maxLen) (hs : s.size ≤ maxLen) :
    Calls Tryd.prog 5 #[.agg (p.cells (.slice A p.params.length c)), .string s] w fun e w' => e = .returned (.bool true) ∧ Below w.heap.size w w' := by
  unfold maxLen at *
  have hfew := fun W => few_any p A c W hc ho hp
  have hI := hr.take 18
  have hfq : (p.params.take 18) = (fewP p).params := rfl
  rw [hfq] at hI
  obtain ⟨z1, z2, z3⟩ := few_sizes p
  obtain ⟨s', hs'⟩ : ∃ s', s.extract 0 200 = s' := ⟨_, rfl⟩
  have zs : s'.size ≤ 200 := by rw [← hs', size_extract']; omega
  have m1 : (0 : Int) ≤ (if (200 : Int) < s.size then (200 : Int) else s.size) := (min_facts s 200).1
  have m2 : (if (200 : Int) < s.size then (200 : Int) else s.size) ≤ s.size := (min_facts s 200).2.1
  have m3 : s.extract 0 (if (200 : Int) < s.size then (200 : Int) else s.size).toNat = s' := (min_facts s 200).2.2.trans hs'
  have HF := hid hfew
  obtain ⟨q, hq⟩ : ∃ q, fewP p = q := ⟨_, rfl⟩
  unfold FewPost at HF
  rw [hq] at HF z1 z2 z3 hI
  have hT0 := hid hT
  clear hfew hs' hq hT hfq
  obtain ⟨p1, p2, p3, p4, p5, p6⟩ := p
  unfold Pa.cells at *
  simp only at *
  clear hr
  generalize p3.length = m at *
  have bx := Box.new w 24 #[.int .i64 p1, .int .i64 p2, .slice A m c, .int .i64 p4, .string p5, .string p6]
  have hbW := below_alloc w (.cells #[.int .i64 p1, .int .i64 p2, .slice A m c, .int .i64 p4, .string p5, .string p6] 24)
  go_enter Tryd.func5, Tryd.ntmps5
  go_upto_region 1 with fail
  go_cut [1] (fun a wx => a = .string s' ∧ Box wx w.heap.size 24 (q.cells (.slice A q.params.length c)) ∧ Below w.heap.size w wx)
  case first =>
    generalize (w.alloc (.cells #[.int .i64 p1, .int .i64 p2, .slice A m c, .int .i64 p4, .string p5, .string p6] 24)) = W0 at *
    obtain ⟨b, hb⟩ : ∃ b, w.heap.size = b := ⟨_, rfl⟩
    rw [hb] at bx hbW ⊢
    have hlt := bx.lt
    have HBQ := hid hb
    clear hb
    refine wp_region_S (TwoS 7 8 (fun w' => Box w' b 24 #[.int .i64 p1, .int .i64 p2, .slice A m c, .int .i64 p4, .string p5, .string p6]) (fun _ => True)) (by kernel_rfl) ?_
    have hS : ∀ L, TwoS 7 8 (fun w' => Box w' b 24 #[.int .i64 p1, .int .i64 p2, .slice A m c, .int .i64 p4, .string p5, .string p6]) (fun _ => True) L (World.drew W0) := fun L => ⟨fun _ => bx, fun _ => trivial⟩
    refine takeS1 (i := 0) (v := ?v0) 15 rfl rfl (by kernel_rfl) (by kernel_rfl) (by kernel_rfl) (by kernel_rfl) (by decide) (by decide) (by kernel_rfl) (fun _ _ _ h => h) (Or.inl ⟨by rfl, fun w' hw' => ?hy0⟩) (hS _) ?rest0
    case hy0 => have a0 : w'.cell? ⟨b, 0, none⟩ = some (.int .i64 p1) := hw'.cell 0; have a1 : w'.cell? ⟨b, 1, none⟩ = some (.int .i64 p2) := hw'.cell 1; have a2 : w'.cell? ⟨b, 2, none⟩ = some (.slice A m c) := hw'.cell 2; have a3 : w'.cell? ⟨b, 3, none⟩ = some (.int .i64 p4) := hw'.cell 3; have a4 : w'.cell? ⟨b, 4, none⟩ = some (.string p5) := hw'.cell 4; have a5 : w'.cell? ⟨b, 5, none⟩ = some (.string p6) := hw'.cell 5; go_simp; try with_reducible rfl
    simp only [Act.put, List.setIfInBounds_toArray, List.set_cons_zero, List.set_cons_succ]
    refine takeS (i := 2) (v := ?v2) 17 rfl rfl (by kernel_rfl) (by kernel_rfl) (by kernel_rfl) (by kernel_rfl) (by decide) (by decide) (fun _ _ _ h => h) (Or.inl ⟨by rfl, fun w' _ => ?hy2⟩) (hS _) ?rest2
    case hy2 => go_simp; try with_reducible rfl
    simp only [Act.put, List.setIfInBounds_toArray, List.set_cons_zero, List.set_cons_succ]
    refine takeS (i := 3) (v := ?v3) 18 rfl rfl (by kernel_rfl) (by kernel_rfl) (by kernel_rfl) (by kernel_rfl) (by decide) (by decide) (fun _ _ _ h => h) (Or.inl ⟨by rfl, fun w' _ => ?hy3⟩) (hS _) ?rest3
    case hy3 => go_simp; try with_reducible rfl
    simp only [Act.put, List.setIfInBounds_toArray, List.set_cons_zero, List.set_cons_succ]
    refine takeS (i := 4) (v := ?v4) 19 rfl rfl (by kernel_rfl) (by kernel_rfl) (by kernel_rfl) (by kernel_rfl) (by decide) (by decide) (fun _ _ _ h => h) (Or.inl ⟨by rfl, fun w' _ => ?hy4⟩) (hS _) ?rest4
    case hy4 => go_simp; try with_reducible rfl
    simp only [Act.put, List.setIfInBounds_toArray, List.set_cons_zero, List.set_cons_succ]
    refine takeS (i := 5) (v := ?v5) 20 rfl rfl (by kernel_rfl) (by kernel_rfl) (by kernel_rfl) (by kernel_rfl) (by decide) (by decide) (fun _ _ _ h => h) (Or.inl ⟨by rfl, fun w' _ => ?hy5⟩) (hS _) ?rest5
    case hy5 => go_simp; try with_reducible rfl
    simp only [Act.put, List.setIfInBounds_toArray, List.set_cons_zero, List.set_cons_succ]
    refine takeS (i := 6) (v := ?v6) 21 rfl rfl (by kernel_rfl) (by kernel_rfl) (by kernel_rfl) (by kernel_rfl) (by decide) (by decide) (fun _ _ _ h => h) (Or.inl ⟨by rfl, fun w' _ => ?hy6⟩) (hS _) ?rest6
    case hy6 => go_simp; try with_reducible rfl
    simp only [Act.put, List.setIfInBounds_toArray, List.set_cons_zero, List.set_cons_succ]
    refine oneS (k := 1) (by kernel_rfl) rfl (by rfl) (fun K hK => ?_)
    go_simp
    go_at_call 6
    refine (HF.out _).mono ?_
    rintro e w2 ⟨rfl, hb2⟩
    dsimp only
    have hb2 : Below W0.heap.size W0 w2 := (Below.refl _ W0).drew.trans hb2
    have bx2 := bx.below hb2 hlt
    have hbY := hbW.trans (hb2.mono (by omega))
    refine hK _ _ ⟨fun _ => bx2, fun _ => trivial⟩ ?_
    clear hK K hS bx
    obtain ⟨q1, q2, q3, q4, q5, q6⟩ := q
    clear hI
    simp only at *
    obtain ⟨n, hn⟩ : ∃ n, q3.length = n := ⟨_, rfl⟩
    rw [hn]
    have HNQ := hid hn
    clear hn
    have c0 : w2.cell? ⟨b, 0, none⟩ = some (.int .i64 p1) := bx2.cell 0
    have c1 : w2.cell? ⟨b, 1, none⟩ = some (.int .i64 p2) := bx2.cell 1
    have c2' : w2.cell? ⟨b, 2, none⟩ = some (.slice A m c) := bx2.cell 2
    have c3 : w2.cell? ⟨b, 3, none⟩ = some (.int .i64 p4) := bx2.cell 3
    have c4 : w2.cell? ⟨b, 4, none⟩ = some (.string p5) := bx2.cell 4
    have c5 : w2.cell? ⟨b, 5, none⟩ = some (.string p6) := bx2.cell 5
    obtain ⟨f0, f1, f2, f3, f4, f5⟩ := six_cells bx2
    refine oneS (k := 7) (by kernel_rfl) rfl (by rfl) (fun K hK => ?_)
    go_simp
    refine hK _ _ ⟨fun h => absurd h (by decide), fun _ => trivial⟩ ?_
    clear hK K
    refine oneS (k := 8) (by kernel_rfl) rfl (by rfl) (fun K hK => ?_)
    go_simp
    refine hK _ _ ⟨fun h => absurd h (by decide), fun _ => trivial⟩ ?_
    clear hK K
    refine doneS (by kernel_rfl) ?_ _
    have bx5 : Box (((((((w2.setCell ⟨b, 0, none⟩ (.int .i64 q1)).setCell ⟨b, 1, none⟩ (.int .i64 q2)).setCell ⟨b, 2, none⟩ (.slice A n c)).setCell ⟨b, 3, none⟩ (.int .i64 q4)).setCell ⟨b, 4, none⟩ (.string q5)).setCell ⟨b, 5, none⟩ (.string q6))) b 24 #[.int .i64 q1, .int .i64 q2, .slice A n c, .int .i64 q4, .string q5, .string q6] := (((((bx2.set (i := 0) (.int .i64 q1)).set (i := 1) (.int .i64 q2)).set (i := 2) (.slice A n c)).set (i := 3) (.int .i64 q4)).set (i := 4) (.string q5)).set (i := 5) (.string q6)
    have hg5 : w2.grownBy (((((((w2.setCell ⟨b, 0, none⟩ (.int .i64 q1)).setCell ⟨b, 1, none⟩ (.int .i64 q2)).setCell ⟨b, 2, none⟩ (.slice A n c)).setCell ⟨b, 3, none⟩ (.int .i64 q4)).setCell ⟨b, 4, none⟩ (.string q5)).setCell ⟨b, 5, none⟩ (.string q6))) (some b) := grown_set (grown_set (grown_set (grown_set (grown_set (grown_set (World.grownBy.refl w2 _) _) _) _) _) _) _
    generalize (((((((w2.setCell ⟨b, 0, none⟩ (.int .i64 q1)).setCell ⟨b, 1, none⟩ (.int .i64 q2)).setCell ⟨b, 2, none⟩ (.slice A n c)).setCell ⟨b, 3, none⟩ (.int .i64 q4)).setCell ⟨b, 4, none⟩ (.string q5)).setCell ⟨b, 5, none⟩ (.string q6))) = w5 at *
    clear m1 m2 m3
    generalize (if (200 : Int) < s.size then (200 : Int) else s.size) = i1
    clear c0 c1 c2' c3 c4 c5 f0 f1 f2 f3 f4 f5
    go_wp2
    have hbq := HBQ.out
    subst hbq
    go_meet
    have hn := HNQ.out
    subst hn
    have hz2 := hb2.size
    have hb5 := hbY.grown hg5 (by omega) (fun k e => by cases e; exact Nat.le_refl _)
    exact ⟨rfl, bx5, hb5⟩
  case rest =>
    obtain ⟨rfl, bx0, hb0⟩ := hcut
    obtain ⟨w0, rfl⟩ : ∃ w0 : World, w0 = wc := ⟨_, rfl⟩
    clear bx hbW HF hc hs ho hp m1 m2 m3
    have hal := fun W (hb : Below w.heap.size w W) => alive_any W (hT0.out.below hb)
    have HAL := hid hal
    clear hal
    by_cases hright : rightP q
    · have hf1 := feed_yes q (.slice A q.params.length c) s' w0 (hT0.out.below hb0) (hI.below hb0) hright (by omega)
      have hrx := right_feed (bytesP s') q hright
      have hend : bytesP ⟨#[24, 24, 65]⟩ = [24, 24, 65] := rfl
      have hf2 := fun v W (hb : Below w.heap.size w W) (hv : IRow W v (feedP q (bytesP s')).1.params) => feed_cap (feedP q (bytesP s')).1 v ⟨#[24, 24, 65]⟩ W (hT0.out.below hb) hv hrx (by decide)
      have hlist := ends_list hrx
      have hy := (feed_ends hrx).1
      rw [hend] at hf2
      generalize feedP q (bytesP s') = rx at *
      obtain ⟨x, lx⟩ := rx
      simp only at *
      generalize feedP x [24, 24, 65] = ry at *
      obtain ⟨y, ly⟩ := ry
      simp only at *
      subst hy
      have HF1 := hid hf1
      have HF2 := hid hf2
      obtain ⟨q1, q2, q3, q4, q5, q6⟩ := q
      unfold Pa.cells at bx0 HF1
      simp only at bx0 HF1
      have c0 : w0.cell? ⟨w.heap.size, 0, none⟩ = some (.int .i64 q1) := bx0.cell 0
      have c1 : w0.cell? ⟨w.heap.size, 1, none⟩ = some (.int .i64 q2) := bx0.cell 1
      have c2 : w0.cell? ⟨w.heap.size, 2, none⟩ = some (.slice A q3.length c) := bx0.cell 2
      have c3 : w0.cell? ⟨w.heap.size, 3, none⟩ = some (.int .i64 q4) := bx0.cell 3
      have c4 : w0.cell? ⟨w.heap.size, 4, none⟩ = some (.string q5) := bx0.cell 4
      have c5 : w0.cell? ⟨w.heap.size, 5, none⟩ = some (.string q6) := bx0.cell 5
      have HLI := hid hlist
      clear hf1 hf2 bx0 hI hright z1 z2 z3 hlist hend
      go_wp2_with fail
      refine HF1.out.mono ?_
      rintro e w1 ⟨v1, dv1, lv1, rfl, hv1, hd1, hlv1, hb1⟩
      dsimp only
      simp only at hv1 hlv1
      have hv1' := hv1
      obtain ⟨A1, k1, rfl, _⟩ := hv1'
      obtain ⟨D1, e1, rfl, _⟩ := hd1
      have hw1 := hb0.trans (hb1.mono hb0.size)
      have hW1 := hw1.alloc hw1.size (.cells (x.cells (.slice A1 x.params.length k1)) 24)
      have hs1 := HF2.out (.slice A1 x.params.length k1) _ hW1 (hv1.below (below_alloc _ _))
      obtain ⟨x1, x2, x3, x4, x5, x6⟩ := x
      unfold Pa.cells at *
      simp only at *
      have HS1 := hid hs1
      have HW1 := hid hW1
      clear hs1 hW1 hv1 HF2 HF1 c0 c1 c2 c3 c4 c5 hrx
      have hsz1 : w1.heap.size < w1.heap.size + 1 := by omega
      go_wp2_with fail
      refine HS1.out.mono ?_
      rintro e w2 ⟨v2, D2, e2, lv2, rfl, hcap, hv2, hd2, hlv2, hb2⟩
      dsimp only
      simp only [Pa.to, nilB] at hv2 hlv2 ⊢
      unfold Pa.cells
      simp only
      have hv2' := hv2
      obtain ⟨A2, k2, rfl, _⟩ := hv2'
      simp only [List.length_nil] at *
      have hw2 := HW1.out.trans (hb2.mono HW1.out.size)
      have hW2 := hw2.alloc hw2.size (.cells #[.int .i64 0, .int .i64 0, .slice A2 0 k2, .int .i64 0, .string ⟨#[]⟩, .string ⟨#[]⟩] 24)
      obtain ⟨_, _, hee, hd2'⟩ := hd2
      cases hee
      obtain ⟨L, hL, hL1, hL3, hlast, hall⟩ := HLI.out
      have hlenL : lv2.length = L + 1 := by rw [← hL, ← hlv2, List.length_map]
      obtain ⟨g, rfl, hg, hcl⟩ := hd2' (by intro e; rw [e] at hlenL; simp at hlenL)
      have hzl := zero_like _ (.slice A2 0 k2) (hv2.below (below_alloc w2 (.cells #[.int .i64 0, .int .i64 0, .slice A2 0 k2, .int .i64 0, .string ⟨#[]⟩, .string ⟨#[]⟩] 24)))
      rw [hlenL] at hcap ⊢
      have HZL := hid hzl
      have HC := hid hcl
      have HLV := hid hlv2
      have HALL := hid hall
      have HLAST := hid hlast
      have HW2 := hid hW2
      have HLN := hid hlenL
      have h2a := hid (below_alloc w2 (.cells #[.int .i64 0, .int .i64 0, .slice A2 0 k2, .int .i64 0, .string ⟨#[]⟩, .string ⟨#[]⟩] 24))
      clear hzl hcl hlv2 hall hlast hW2 hlenL hL hv2 hd2' HS1 HLI
      have j1 : ¬ (L : Int) + 1 < 2 := by omega
      have j2 : ¬ (4 : Int) < (L : Int) + 1 := by omega
      go_wp2_with fail
      refine HZL.out.mono ?_
      rintro e w3 ⟨rfl, hb3⟩
      dsimp only
      have h23 := h2a.out.trans (hb3.mono h2a.out.size)
      have hw3 := hw2.trans (h23.mono hw2.size)
      have HA3 := hid (HAL.out w3 hw3)
      go_wp2_with fail
      refine HA3.out.mono ?_
      rintro e w4 ⟨rfl, hb4⟩
      dsimp only
      have h24 : Below w2.heap.size w2 w4 := h23.trans (hb4.mono h23.size)
      have hw4 := hw2.trans (h24.mono hw2.size)
      clear HZL HA3 HAL h2a hb3 hb4 h23
      have hcapI : (L : Int) ≤ e2 := by omega
      have hL0 : (0 : Int) ≤ L := by omega
      go_wp2
      go_loopw [72] (fun i wr => ∃ k : Nat, k ≤ L ∧ i = .int .i64 k ∧ Below w4.heap.size w4 wr) (fun i _ => L - (intOf i).toNat)
      case atStart => exact ⟨0, by omega, rfl, Below.refl _ _⟩
      case round =>
        obtain ⟨k, hk, rfl, hbr⟩ := hrel
        have h2r : Below w2.heap.size w2 wr := h24.trans (hbr.mono h24.size)
        have hwr := hw4.trans (hbr.mono hw4.size)
        by_cases hlt : k < L
        · have hkl : k < lv2.length := by rw [HLN.out]; omega
          obtain ⟨cc, ir, _⟩ := HC.out k _ (List.getElem?_eq_getElem hkl)
          have hdn : (ly[k]? = some (dExec 24) ∨ (k = 0 ∧ ly[k]? = some (dPrint 65533))) := HALL.out k hlt
          have hlk : ly[k]? = some (lv2[k].1) := by rw [← HLV.out, List.getElem?_map, List.getElem?_eq_getElem hkl]; rfl
          rw [hlk] at hdn
          generalize lv2[k] = en at *
          obtain ⟨d, v⟩ := en
          simp only at cc ir hdn hlk
          obtain ⟨a0, a1, a2, a3, a4, a5, a6⟩ := dcells (W := wr) (g := g) (o := k * 7) (d := d) (v := v) (fun i u hu => (h2r.cell (p := ⟨g, k * 7 + i, none⟩) hg).trans (cc i u hu))
          have hir := ir.below h2r
          have hlt7 : g < wr.heap.size := Nat.lt_of_lt_of_le hg h2r.size
          obtain ⟨Av, cv, rfl, _⟩ := ir
          have hki : (k : Int) < L := by omega
          clear hlk hkl cc
          rcases hdn with hdn | ⟨rfl, hdn⟩
          · obtain rfl := Option.some.inj hdn
            simp only [dExec, nilB, List.length_nil] at a0 a1 a2 a3 a4 a5 a6 hir
            have hl1 := fun W (hb : Below wr.heap.size wr W) => rLike_any (dExec 24) (dPrint 65533) (.slice Av 0 cv) (.slice none 0 0) W (hir.below hb) (IRow.nil _ _) (Nat.zero_le _) (Nat.zero_le _)
            have hl2 := fun W (hb : Below wr.heap.size wr W) => rLike_any (dExec 24) (dExec 24) (.slice Av 0 cv) (.slice none 0 0) W (hir.below hb) (IRow.nil _ _) (Nat.zero_le _) (Nat.zero_le _)
            rw [show likeB (dExec 24) (dPrint 65533) = false by rfl] at hl1
            rw [like_iff.2 rfl] at hl2
            unfold Dn.cells dExec dPrint nilB at hl1
            unfold Dn.cells dExec nilB at hl2
            simp only at hl1 hl2
            have HL1 := hid hl1
            have HL2 := hid hl2
            clear hl1 hl2 hdn
            have bx := Box.new wr 37 #[.int .i64 2, .int .i32 0, .int .i64 24, .int .i64 0, .slice Av 0 cv, .int .i64 0, .string ⟨#[]⟩]
            have HBX := hid bx
            have hba := hid (below_alloc wr (.cells #[.int .i64 2, .int .i32 0, .int .i64 24, .int .i64 0, .slice Av 0 cv, .int .i64 0, .string ⟨#[]⟩] 37))
            clear bx
            by_cases hk0 : k = 0
            · subst hk0
              simp only [Nat.zero_mul, Nat.zero_add] at a0 a1 a2 a3 a4 a5 a6
              go_wp2_with fail
              refine (HL1.out _ hba.out).mono ?_
              rintro e w5 ⟨rfl, hb5⟩
              dsimp only
              have b5 := HBX.out.below hb5 HBX.out.lt
              have c0 : w5.cell? ⟨wr.heap.size, 0, none⟩ = some (.int .i64 2) := b5.cell 0
              have c1 : w5.cell? ⟨wr.heap.size, 1, none⟩ = some (.int .i32 0) := b5.cell 1
              have c2 : w5.cell? ⟨wr.heap.size, 2, none⟩ = some (.int .i64 24) := b5.cell 2
              have c3 : w5.cell? ⟨wr.heap.size, 3, none⟩ = some (.int .i64 0) := b5.cell 3
              have c4 : w5.cell? ⟨wr.heap.size, 4, none⟩ = some (.slice Av 0 cv) := b5.cell 4
              have c5 : w5.cell? ⟨wr.heap.size, 5, none⟩ = some (.int .i64 0) := b5.cell 5
              have c6 : w5.cell? ⟨wr.heap.size, 6, none⟩ = some (.string ⟨#[]⟩) := b5.cell 6
              have h25 := hba.out.trans (hb5.mono hba.out.size)
              clear b5 a0 a1 a2 a3 a4 a5 a6
              go_wp2_with fail
              refine (HL2.out _ h25).mono ?_
              rintro e w6 ⟨rfl, hb6⟩
              dsimp only
              clear c0 c1 c2 c3 c4 c5 c6
              have h26 := hbr.trans ((h25.trans (hb6.mono h25.size)).mono hbr.size)
              go_wp2
              go_roundw
              case rel => exact ⟨0 + 1, by omega, by go_num, h26⟩
              case measure => simp [intOf]; omega
            · have hkz : ((k : Int) == 0) = false := by simp; omega
              go_wp2_with fail
              refine (HL2.out _ hba.out).mono ?_
              rintro e w6 ⟨rfl, hb6⟩
              dsimp only
              clear a0 a1 a2 a3 a4 a5 a6
              have h26 := hbr.trans ((hba.out.trans (hb6.mono hba.out.size)).mono hbr.size)
              go_wp2
              go_roundw
              case rel => exact ⟨k + 1, by omega, by go_num, h26⟩
              case measure => simp [intOf]; omega
          · obtain rfl := Option.some.inj hdn
            simp only [dPrint, nilB, List.length_nil, Nat.zero_mul, Nat.zero_add] at a0 a1 a2 a3 a4 a5 a6 hir
            have hl1 := fun W (hb : Below wr.heap.size wr W) => rLike_any (dPrint 65533) (dPrint 65533) (.slice Av 0 cv) (.slice none 0 0) W (hir.below hb) (IRow.nil _ _) (Nat.zero_le _) (Nat.zero_le _)
            rw [like_iff.2 rfl] at hl1
            unfold Dn.cells dPrint nilB at hl1
            simp only at hl1
            have HL1 := hid hl1
            clear hl1 hdn
            have hba := hid (below_alloc wr (.cells #[.int .i64 1, .int .i32 65533, .int .i64 0, .int .i64 0, .slice Av 0 cv, .int .i64 0, .string ⟨#[]⟩] 37))
            go_wp2_with fail
            refine (HL1.out _ hba.out).mono ?_
            rintro e w6 ⟨rfl, hb6⟩
            dsimp only
            clear a0 a1 a2 a3 a4 a5 a6
            have h26 := hbr.trans ((hba.out.trans (hb6.mono hba.out.size)).mono hbr.size)
            go_wp2
            go_roundw
            case rel => exact ⟨0 + 1, by omega, by go_num, h26⟩
            case measure => simp [intOf]; omega
        · obtain rfl : k = L := by omega
          have hkl : k < lv2.length := by rw [HLN.out]; omega
          obtain ⟨cc, ir, _⟩ := HC.out k _ (List.getElem?_eq_getElem hkl)
          have hdn : ly[k]? = some (dPrint 65) := HLAST.out
          have hlk : ly[k]? = some (lv2[k].1) := by rw [← HLV.out, List.getElem?_map, List.getElem?_eq_getElem hkl]; rfl
          rw [hlk] at hdn
          generalize lv2[k] = en at *
          obtain ⟨d, v⟩ := en
          simp only at cc ir hdn hlk
          obtain rfl := Option.some.inj hdn
          obtain ⟨a0, a1, a2, a3, a4, a5, a6⟩ := dcells (W := wr) (g := g) (o := k * 7) (d := dPrint 65) (v := v) (fun i u hu => (h2r.cell (p := ⟨g, k * 7 + i, none⟩) hg).trans (cc i u hu))
          have hir := ir.below h2r
          obtain ⟨Av, cv, rfl, _⟩ := ir
          simp only [dPrint, nilB, List.length_nil] at a0 a1 a2 a3 a4 a5 a6 hir
          have hl1 := rLike_any (dPrint 65) (dPrint 65) (.slice Av 0 cv) (.slice none 0 0) wr hir (IRow.nil _ _) (Nat.zero_le _) (Nat.zero_le _)
          rw [like_iff.2 rfl] at hl1
          unfold Dn.cells dPrint nilB at hl1
          simp only at hl1
          have HL1 := hid hl1
          clear hl1 hdn hlk hkl cc
          have hki : (k : Int) < (k : Int) + 1 := by omega
          go_wp2_with (go_at_call 14; refine HL1.out.mono ?_; rintro e w6 ⟨rfl, hb6⟩)
          go_ret
          exact ⟨rfl, hwr.trans (hb6.mono hwr.size)⟩
    · have hno : rightQ q = false := by
        cases h : rightQ q
        · rfl
        · exact absurd ((rightQ_iff q).1 h) hright
      have hf := feed_no q (.slice A q.params.length c) s' w0 (hT0.out.below hb0) (hI.below hb0) (by omega) (by omega) hno
      have HF := hid hf
      obtain ⟨q1, q2, q3, q4, q5, q6⟩ := q
      unfold Pa.cells at bx0 HF
      simp only at bx0 HF
      have c0 : w0.cell? ⟨w.heap.size, 0, none⟩ = some (.int .i64 q1) := bx0.cell 0
      have c1 : w0.cell? ⟨w.heap.size, 1, none⟩ = some (.int .i64 q2) := bx0.cell 1
      have c2 : w0.cell? ⟨w.heap.size, 2, none⟩ = some (.slice A q3.length c) := bx0.cell 2
      have c3 : w0.cell? ⟨w.heap.size, 3, none⟩ = some (.int .i64 q4) := bx0.cell 3
      have c4 : w0.cell? ⟨w.heap.size, 4, none⟩ = some (.string q5) := bx0.cell 4
      have c5 : w0.cell? ⟨w.heap.size, 5, none⟩ = some (.string q6) := bx0.cell 5
      clear hf hno hright hI bx0 z1 z2 z3
      generalize q3.length = n at *
      go_wp2_with fail
      refine HF.out.mono ?_
      rintro e w1 ⟨rfl, hb1⟩
      dsimp only
      have hw1 := hb0.trans (hb1.mono hb0.size)
      have bx := Box.new w1 24 #[.int .i64 0, .int .i64 0, .slice none 0 0, .int .i64 0, .string ⟨#[]⟩, .string ⟨#[]⟩]
      have hA1 := HAL.out _ (hw1.alloc hw1.size (.cells #[.int .i64 0, .int .i64 0, .slice none 0 0, .int .i64 0, .string ⟨#[]⟩, .string ⟨#[]⟩] 24))
      have HA1 := hid hA1
      have HBX := hid bx
      clear hA1 bx HAL HF
      go_wp2_with fail
      refine HA1.out.mono ?_
      rintro e w2 ⟨rfl, hb2⟩
      dsimp only
      have b2 := HBX.out.below hb2 HBX.out.lt
      clear c0 c1 c2 c3 c4 c5
      have c0 : w2.cell? ⟨w1.heap.size, 0, none⟩ = some (.int .i64 0) := b2.cell 0
      have c1 : w2.cell? ⟨w1.heap.size, 1, none⟩ = some (.int .i64 0) := b2.cell 1
      have c2 : w2.cell? ⟨w1.heap.size, 2, none⟩ = some (.slice none 0 0) := b2.cell 2
      have c3 : w2.cell? ⟨w1.heap.size, 3, none⟩ = some (.int .i64 0) := b2.cell 3
      have c4 : w2.cell? ⟨w1.heap.size, 4, none⟩ = some (.string ⟨#[]⟩) := b2.cell 4
      have c5 : w2.cell? ⟨w1.heap.size, 5, none⟩ = some (.string ⟨#[]⟩) := b2.cell 5
      have HZ := hid (zero_like w2 (.slice none 0 0) (IRow.nil _ _))
      have hw2 := hw1.trans ((Below.behind hb2).mono hw1.size)
      clear b2
      go_wp2_with (go_at_call 10; refine HZ.out.mono ?_; rintro e w3 ⟨rfl, hb3⟩)
      go_ret
      exact ⟨rfl, hw2.trans (hb3.mono hw2.size)⟩
end Go.Proofs.YtpcpdbofbbpglaaDoor
