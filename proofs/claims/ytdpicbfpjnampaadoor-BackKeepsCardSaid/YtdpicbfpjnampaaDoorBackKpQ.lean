/- The law BackKeeps, walked. Made by wip/gen/backKeeps.py. -/
import Derived.Test.YtdpicbfpjnampaaDoorBackLQ
import Derived.Lib.QuietBelow
import Derived.IntWalk
namespace Go.Proofs.YtdpicbfpjnampaaDoor
open Go.RowKit

set_option maxRecDepth 100000 in
set_option maxHeartbeats 16000000 in
theorem keeps_any (mx num : Int) (v u : Value) (lv ll : List (Ln × Value)) (W : World) (hr : LR W v lv) (hc : CesOf W lv) (hn : (lv.length : Int) ≤ 9223372036854775807) (hl : ∀ e ∈ lv, (e.1.cs.length : Int) ≤ 9223372036854775807 ∧ ∀ c ∈ e.1.cs, (c.tx.size : Int) ≤ 9223372036854775807)
    (hr2 : LR W u ll) (hc2 : CesOf W ll) (hn2 : (ll.length : Int) ≤ 9223372036854775807) (hl2 : ∀ e ∈ ll, (e.1.cs.length : Int) ≤ 9223372036854775807 ∧ ∀ c ∈ e.1.cs, (c.tx.size : Int) ≤ 9223372036854775807) (hq : -9223372036854775808 ≤ num ∧ num ≤ 9223372036854775807) (hT : Tab W) (hW : TabW W) :
    Calls Tryd.prog 6 #[.agg #[.int .i64 mx, v], u, .int .i64 num] W fun e w' => e = .returned (.bool true) ∧ Below W.heap.size W w' := by
  have hF1 := fun W' (hb : Below W.heap.size W W') => lcut_any mx v lv W' (hr.below hb) (hc.below hb) hn hl
  have hF2 : ∀ W', Below W.heap.size W W' → Calls Tryd.prog 34 #[u, .int .i64 50] W' (LFew W' (takeN (ll.map Prod.fst) 50)) := fun W' (hb : Below W.heap.size W W') => lfew_any u ll 50 W' (hr2.below hb) (hc2.below hb) hn2 hl2 (by omega)
  obtain ⟨A, c, rfl⟩ := hr.spell
  obtain ⟨B, d, rfl⟩ := hr2.spell
  obtain ⟨n, hnn⟩ : ∃ n, lv.length = n := ⟨_, rfl⟩
  obtain ⟨m, hmm⟩ : ∃ m, ll.length = m := ⟨_, rfl⟩
  rw [hnn] at hF1 ⊢
  rw [hmm] at hF2 ⊢
  have h0 : Below W.heap.size W (W.alloc (.cells #[.int .i64 mx, .slice A n c] 61)) := below_alloc _ _
  have b0 := (Bxs.nil W).alloc 61 #[.int .i64 mx, .slice A n c]
  simp only [List.nil_append] at b0
  have HF1 := hid hF1
  have HF2 := hid hF2
  have HT := hid hT
  have HW := hid hW
  have HQ := hid hq
  have HH := hid h0
  have BX := hid b0
  clear hF1 hF2 hT hW hq h0 b0 hr hr2 hc hc2 hn hn2 hl hl2 hnn hmm
  go_enter Tryd.func6, Tryd.ntmps6
  go_upto_region 1 with fail
  generalize (W.alloc (.cells #[.int .i64 mx, .slice A n c] 61)) = w0 at *
  obtain ⟨⟨k0_0, k0_1⟩, f0_0, f0_1⟩ := (BX.out.get 0 rfl).two
  have hcall := HF1.out w0 HH.out
  have HCALL := hid hcall
  clear hcall
  go_wp2_with fail
  with_reducible refine HCALL.out.mono ?_
  rintro e w1 ⟨v1, lv1, rfl, m1, l1, c1, hb⟩
  clear HCALL
  obtain ⟨A1, a1, rfl⟩ := l1.row.spell
  obtain ⟨n1, hn1⟩ : ∃ n1, lv1.length = n1 := ⟨_, rfl⟩
  rw [hn1] at l1 ⊢
  have HN1 := hid hn1
  have M1 := hid m1
  have hbase : W.heap.size ≤ w0.heap.size := HH.out.size
  have l1 := l1.mono hbase
  have c1 : ∀ x ∈ lv1, CSl w1 W.heap.size x.2 x.1.cs := fun x hx => (c1 x hx).mono hbase
  have S1 := hid l1
  have T1 := hid c1
  clear l1 c1 m1 hn1 hbase
  dsimp only
  clear k0_0 k0_1 f0_0 f0_1
  have HH2 := hid (HH.out.trans (hb.mono HH.out.size))
  have BX2 := hid (BX.out.below hb)
  clear HH BX hb
  have HH := hid HH2.out
  have BX := hid BX2.out
  clear HH2 BX2
  obtain ⟨⟨k0_0, k0_1⟩, f0_0, f0_1⟩ := (BX.out.get 0 rfl).two
  have hcall := HF2.out w1 HH.out
  have HCALL := hid hcall
  clear hcall
  go_wp2_with fail
  with_reducible refine HCALL.out.mono ?_
  rintro e w2 ⟨v2, ll1, rfl, m2, l2, c2, hb⟩
  clear HCALL
  obtain ⟨A2, a2, rfl⟩ := l2.row.spell
  obtain ⟨n2, hn2⟩ : ∃ n2, ll1.length = n2 := ⟨_, rfl⟩
  rw [hn2] at l2 ⊢
  have HN2 := hid hn2
  have M2 := hid m2
  have hbase : W.heap.size ≤ w1.heap.size := HH.out.size
  have l2 := l2.mono hbase
  have c2 : ∀ x ∈ ll1, CSl w2 W.heap.size x.2 x.1.cs := fun x hx => (c2 x hx).mono hbase
  have S2 := hid l2
  have T2 := hid c2
  have l1 := hid (S1.out.below hb (Nat.le_refl _))
  have c1 : Hid (∀ x ∈ lv1, CSl w2 W.heap.size x.2 x.1.cs) := fun x hx => (T1.out x hx).below hb (Nat.le_refl _)
  clear l2 c2 m2 hn2 hbase S1 T1
  dsimp only
  clear k0_0 k0_1 f0_0 f0_1
  have HH2 := hid (HH.out.trans (hb.mono HH.out.size))
  have BX2 := hid (BX.out.below hb)
  clear HH BX hb
  have HH := hid HH2.out
  have BX := hid BX2.out
  clear HH2 BX2
  obtain ⟨⟨k0_0, k0_1⟩, f0_0, f0_1⟩ := (BX.out.get 0 rfl).two
  clear k0_0 k0_1 f0_0 f0_1
  have q0 : Box w2 W.heap.size 61 #[.int .i64 mx, .slice A n c] := BX.out.get 0 rfl
  have hS1 := (l1.out.set q0 (by decide) (i := 0) (.int .i64 mx)).set (q0.set _) (by decide) (i := 1) (.slice A1 n1 a1)
  have hS2 := (S2.out.set q0 (by decide) (i := 0) (.int .i64 mx)).set (q0.set _) (by decide) (i := 1) (.slice A1 n1 a1)
  have hC1 : CesOf ((w2.setCell ⟨W.heap.size, 0, none⟩ (.int .i64 mx)).setCell ⟨W.heap.size, 1, none⟩ (.slice A1 n1 a1)) lv1 := fun x hx => (((c1.out x hx).set q0 (by decide) (i := 0) (.int .i64 mx)).set (q0.set _) (by decide) (i := 1) (.slice A1 n1 a1)).row
  have hC2 : CesOf ((w2.setCell ⟨W.heap.size, 0, none⟩ (.int .i64 mx)).setCell ⟨W.heap.size, 1, none⟩ (.slice A1 n1 a1)) ll1 := fun x hx => (((T2.out x hx).set q0 (by decide) (i := 0) (.int .i64 mx)).set (q0.set _) (by decide) (i := 1) (.slice A1 n1 a1)).row
  have hh : Below W.heap.size W ((w2.setCell ⟨W.heap.size, 0, none⟩ (.int .i64 mx)).setCell ⟨W.heap.size, 1, none⟩ (.slice A1 n1 a1)) := below_set (below_set HH.out (Nat.le_refl _) _) (Nat.le_refl _) _
  have bx : Bxs ((w2.setCell ⟨W.heap.size, 0, none⟩ (.int .i64 mx)).setCell ⟨W.heap.size, 1, none⟩ (.slice A1 n1 a1)) [(W.heap.size, 61, #[.int .i64 mx, .slice A1 n1 a1])] := by
    intro x hx
    simp only [List.mem_cons, List.mem_nil_iff, or_false] at hx
    subst hx
    exact (q0.set (i := 0) _).set (i := 1) _
  have L1 := hid hS1.row
  have L2 := hid hS2.row
  have C1 := hid hC1
  have C2 := hid hC2
  obtain ⟨⟨k0_0, k0_1⟩, f0_0, f0_1⟩ := q0.two
  have HH3 := hid hh
  have BX3 := hid bx
  clear hS1 hS2 hC1 hC2 hh bx l1 c1 S2 T2 q0 HH BX HF1 HF2
  go_upto_region 2 with fail
  generalize ((w2.setCell ⟨W.heap.size, 0, none⟩ (.int .i64 mx)).setCell ⟨W.heap.size, 1, none⟩ (.slice A1 n1 a1)) = w3 at *
  have HH := hid HH3.out
  have BX := hid BX3.out
  clear HH3 BX3 k0_0 k0_1 f0_0 f0_1
  have hs1 := takeN_sm M1.out (by omega)
  have hs2 := takeN_sm M2.out (by omega)
  rw [HN1.out] at hs1
  rw [HN2.out] at hs2
  have N1 := hid hs1.2
  have N2 := hid hs2.2
  have SM1 := hid hs1.1
  have SM2 := hid hs2.1
  clear hs1 hs2 M1 M2
  obtain ⟨⟨k0_0, k0_1⟩, f0_0, f0_1⟩ := (BX.out.get 0 rfl).two
  obtain ⟨R, hR⟩ : ∃ R, backB mx lv1 = R := ⟨_, rfl⟩
  obtain ⟨K, hK⟩ : ∃ K, keptB ll1 = K := ⟨_, rfl⟩
  have HRV := hid hR
  have HKV := hid hK
  clear hR hK
  have hcall := push_any mx _ _ lv1 ll1 w3 L1.out C1.out SM1.out L2.out C2.out SM2.out (HT.out.below HH.out) (HW.out.below HH.out)
  rw [HRV.out, HKV.out] at hcall
  have HCALL := hid hcall
  clear hcall
  go_wp2_with fail
  with_reducible refine HCALL.out.mono ?_
  rintro e w4 ⟨xc, xA, xk, xp, xn, rfl, hb, hx0⟩
  clear HCALL
  have hx : BXP w4 mx (R && K) (lastN mx.toNat (lv1 ++ ll1)) xc xA xk xp xn := hx0
  clear hx0
  dsimp only
  clear k0_0 k0_1 f0_0 f0_1
  have XX2 := hid ((hx).below (below_alloc w4 (.cells #[.int .i64 xc, .slice xA xk xp] 61)))
  have hb2 := hb.alloc hb.size (.cells #[.int .i64 xc, .slice xA xk xp] 61)
  have hbx := (BX.out.below hb).alloc 61 #[.int .i64 xc, .slice xA xk xp]
  simp only [List.cons_append, List.nil_append] at hbx
  have L12 := hid (L1.out.below hb2)
  have C12 := hid (C1.out.below hb2)
  have L22 := hid (L2.out.below hb2)
  have C22 := hid (C2.out.below hb2)
  have HH2 := hid (HH.out.trans (hb2.mono HH.out.size))
  have BX2 := hid hbx
  clear L1 C1 L2 C2 HH BX hb hb2 hbx hx
  go_upto_region 3 with fail
  generalize (w4.alloc (.cells #[.int .i64 xc, .slice xA xk xp] 61)) = v4 at *
  generalize w4.heap.size = q4 at *
  have L1 := hid L12.out
  have C1 := hid C12.out
  have L2 := hid L22.out
  have C2 := hid C22.out
  have XX := hid XX2.out
  have HH := hid HH2.out
  have BX := hid BX2.out
  clear L12 C12 L22 C22 XX2 HH2 BX2
  obtain ⟨⟨k0_0, k0_1⟩, f0_0, f0_1⟩ := (BX.out.get 0 rfl).two
  obtain ⟨⟨k1_0, k1_1⟩, f1_0, f1_1⟩ := (BX.out.get 1 rfl).two
  have hcall := take_any mx num _ lv1 v4 L1.out C1.out SM1.out (HT.out.below HH.out) (HW.out.below HH.out) HQ.out
  rw [HRV.out] at hcall
  have HCALL := hid hcall
  clear hcall
  go_wp2_with fail
  with_reducible refine HCALL.out.mono ?_
  rintro e w5 ⟨yc, yA, yk, yp, zA, zk, zp, yn, rfl, hb, hy0⟩
  clear HCALL
  have hy : TXP w5 mx (R && decide (0 ≤ num)) lv1 num.toNat yc yA yk yp zA zk zp yn := hy0
  clear hy0
  dsimp only
  clear k0_0 k0_1 f0_0 f0_1 k1_0 k1_1 f1_0 f1_1
  have YY2 := hid ((hy).below (below_alloc w5 (.cells #[.int .i64 yc, .slice yA yk yp] 61)))
  have hb2 := hb.alloc hb.size (.cells #[.int .i64 yc, .slice yA yk yp] 61)
  have hbx := (BX.out.below hb).alloc 61 #[.int .i64 yc, .slice yA yk yp]
  simp only [List.cons_append, List.nil_append] at hbx
  have L12 := hid (L1.out.below hb2)
  have C12 := hid (C1.out.below hb2)
  have L22 := hid (L2.out.below hb2)
  have C22 := hid (C2.out.below hb2)
  have XX2 := hid (XX.out.below hb2)
  have HH2 := hid (HH.out.trans (hb2.mono HH.out.size))
  have BX2 := hid hbx
  clear L1 C1 L2 C2 XX HH BX hb hb2 hbx hy
  go_upto_region 4 with fail
  generalize (w5.alloc (.cells #[.int .i64 yc, .slice yA yk yp] 61)) = v5 at *
  generalize w5.heap.size = q5 at *
  have L1 := hid L12.out
  have C1 := hid C12.out
  have L2 := hid L22.out
  have C2 := hid C22.out
  have XX := hid XX2.out
  have YY := hid YY2.out
  have HH := hid HH2.out
  have BX := hid BX2.out
  clear L12 C12 L22 C22 XX2 YY2 HH2 BX2
  obtain ⟨⟨k0_0, k0_1⟩, f0_0, f0_1⟩ := (BX.out.get 0 rfl).two
  obtain ⟨⟨k1_0, k1_1⟩, f1_0, f1_1⟩ := (BX.out.get 1 rfl).two
  obtain ⟨⟨k2_0, k2_1⟩, f2_0, f2_1⟩ := (BX.out.get 2 rfl).two
  have hcall := at_any mx num _ lv1 v5 L1.out C1.out SM1.out (HT.out.below HH.out) (HW.out.below HH.out) HQ.out
  rw [HRV.out] at hcall
  have HCALL := hid hcall
  clear hcall
  go_wp2_with fail
  with_reducible refine HCALL.out.mono ?_
  rintro e w6 ⟨oA, ok, op, os, on, rfl, hb, ho⟩
  clear HCALL
  have AA : Hid (AXP R lv1 num oA ok op os on) := ho
  clear ho
  dsimp only
  clear k0_0 k0_1 f0_0 f0_1 k1_0 k1_1 f1_0 f1_1 k2_0 k2_1 f2_0 f2_1
  have hb2 := hb.alloc hb.size (.cells #[.slice oA ok op, .bool os] 57)
  have hbx := (BX.out.below hb).alloc 57 #[.slice oA ok op, .bool os]
  simp only [List.cons_append, List.nil_append] at hbx
  have L12 := hid (L1.out.below hb2)
  have C12 := hid (C1.out.below hb2)
  have L22 := hid (L2.out.below hb2)
  have C22 := hid (C2.out.below hb2)
  have XX2 := hid (XX.out.below hb2)
  have YY2 := hid (YY.out.below hb2)
  have HH2 := hid (HH.out.trans (hb2.mono HH.out.size))
  have BX2 := hid hbx
  clear L1 C1 L2 C2 XX YY HH BX hb hb2 hbx
  go_upto_region 5 with fail
  generalize (w6.alloc (.cells #[.slice oA ok op, .bool os] 57)) = v6 at *
  generalize w6.heap.size = q6 at *
  have L1 := hid L12.out
  have C1 := hid C12.out
  have L2 := hid L22.out
  have C2 := hid C22.out
  have XX := hid XX2.out
  have YY := hid YY2.out
  have HH := hid HH2.out
  have BX := hid BX2.out
  clear L12 C12 L22 C22 XX2 YY2 HH2 BX2
  obtain ⟨⟨k0_0, k0_1⟩, f0_0, f0_1⟩ := (BX.out.get 0 rfl).two
  obtain ⟨⟨k1_0, k1_1⟩, f1_0, f1_1⟩ := (BX.out.get 1 rfl).two
  obtain ⟨⟨k2_0, k2_1⟩, f2_0, f2_1⟩ := (BX.out.get 2 rfl).two
  obtain ⟨⟨k3_0, k3_1⟩, f3_0, f3_1⟩ := (BX.out.get 3 rfl).two
  have hbn := (below_alloc v6 (.cells #[.int .i64 0, .slice none 0 0] 61))
  have hbx := BX.out.alloc 61 #[.int .i64 0, .slice none 0 0]
  simp only [List.cons_append, List.nil_append] at hbx
  clear k0_0 k0_1 f0_0 f0_1 k1_0 k1_1 f1_0 f1_1 k2_0 k2_1 f2_0 f2_1 k3_0 k3_1 f3_0 f3_1
  have L12 := hid (L1.out.below hbn)
  have C12 := hid (C1.out.below hbn)
  have L22 := hid (L2.out.below hbn)
  have C22 := hid (C2.out.below hbn)
  have XX2 := hid (XX.out.below hbn)
  have YY2 := hid (YY.out.below hbn)
  have HH2 := hid (HH.out.trans (hbn.mono HH.out.size))
  have BX2 := hid hbx
  clear L1 C1 L2 C2 XX YY HH BX hbn hbx
  go_upto_region 6 with fail
  generalize v6.alloc (.cells #[.int .i64 0, .slice none 0 0] 61) = w7 at *
  generalize v6.heap.size = q7 at *
  have L1 := hid L12.out
  have C1 := hid C12.out
  have L2 := hid L22.out
  have C2 := hid C22.out
  have XX := hid XX2.out
  have YY := hid YY2.out
  have HH := hid HH2.out
  have BX := hid BX2.out
  clear L12 C12 L22 C22 XX2 YY2 HH2 BX2
  cases R
  · rcases XX.out with ⟨h, _⟩ | ⟨_, rfl, hxs, rfl⟩
    · cases h
    cases hxs
    rcases YY.out with ⟨h, _⟩ | ⟨_, rfl, hys, hzs, rfl⟩
    · cases h
    cases hys
    cases hzs
    rcases AA.out with ⟨_, rfl, hos, rfl⟩ | ⟨h, _⟩ | ⟨h, _⟩
    rotate_left
    · cases h
    · cases h
    cases hos
    clear XX YY AA
    obtain ⟨⟨k0_0, k0_1⟩, f0_0, f0_1⟩ := (BX.out.get 0 rfl).two
    have rk0_0 := cell_regrown k0_0
    have rk0_1 := cell_regrown k0_1
    have qq0 : ∀ d os, Calls Tryd.prog 38 #[.agg #[.int .i64 mx, .slice A1 n1 a1]] (Go.Sort.grow (redrawn w7 d) os) fun e w'' => e = .returned (.bool false) ∧ ∃ p : Regrown, w'' = Go.Sort.grow (redrawn w7 p.d) p.os := fun d os => Calls.regrown_of (by have hb := below_regrown w7 d os; exact (by have h := bRight_any mx _ lv1 _ (L1.out.below hb) (C1.out.below hb) SM1.out (HT.out.below (HH.out.trans (hb.mono HH.out.size))) (HW.out.below (HH.out.trans (hb.mono HH.out.size))); rw [HRV.out] at h; exact h))
    have qq1 : ∀ d os, Calls Tryd.prog 39 #[.agg #[.int .i64 mx, .slice A1 n1 a1]] (Go.Sort.grow (redrawn w7 d) os) fun e w'' => e = .returned (.bool false) ∧ ∃ p : Regrown, w'' = Go.Sort.grow (redrawn w7 p.d) p.os := fun d os => Calls.regrown_of (by have hb := below_regrown w7 d os; exact (by have h := lawRight_any mx _ lv1 _ (L1.out.below hb) (C1.out.below hb) SM1.out; rw [HRV.out] at h; exact h))
    have qq2 : ∀ d os, Calls Tryd.prog 40 #[] (Go.Sort.grow (redrawn w7 d) os) fun e w'' => e = .returned (.bool true) ∧ ∃ p : Regrown, w'' = Go.Sort.grow (redrawn w7 p.d) p.os := fun d os => Calls.regrown_of (by have hb := below_regrown w7 d os; exact balive_any _ (HT.out.below (HH.out.trans (hb.mono HH.out.size))) (HW.out.below (HH.out.trans (hb.mono HH.out.size))))
    refine wp_region_quiet_below (by kernel_rfl) (by kernel_rfl) ?_
    iterate 9 (go_big_quiet_step (first | with_reducible exact qq0 _ _ | with_reducible exact qq1 _ _ | with_reducible exact qq2 _ _))
    refine wpQuiet_nil ?_
    intro _ hw'
    obtain ⟨⟨dq, osq⟩, hw''⟩ := hw'
    subst hw''
    have hbq := below_regrown w7 dq osq
    clear qq0 qq1 qq2 rk0_0 rk0_1
    clear k0_0 k0_1 f0_0 f0_1
    have L12 := hid (L1.out.below hbq)
    have C12 := hid (C1.out.below hbq)
    have L22 := hid (L2.out.below hbq)
    have C22 := hid (C2.out.below hbq)
    have HH2 := hid (HH.out.trans (hbq.mono HH.out.size))
    have BX2 := hid (BX.out.below hbq)
    clear L1 C1 L2 C2 HH BX
    have L1 := hid L12.out
    have C1 := hid C12.out
    have L2 := hid L22.out
    have C2 := hid C22.out
    have HH := hid HH2.out
    have BX := hid BX2.out
    clear L12 C12 L22 C22 HH2 BX2
    generalize Go.Sort.grow (redrawn w7 dq) osq = w8 at *
    clear hbq
    obtain ⟨⟨k0_0, k0_1⟩, f0_0, f0_1⟩ := (BX.out.get 0 rfl).two
    have hcall := lawRight_any mx _ lv1 w8 L1.out C1.out SM1.out
    rw [HRV.out] at hcall
    have HCALL := hid hcall
    clear hcall
    go_wp2_with fail
    with_reducible refine HCALL.out.mono ?_
    rintro e w9 ⟨rfl, hb⟩
    clear HCALL
    dsimp only
    clear k0_0 k0_1 f0_0 f0_1
    have L12 := hid (L1.out.below hb)
    have C12 := hid (C1.out.below hb)
    have L22 := hid (L2.out.below hb)
    have C22 := hid (C2.out.below hb)
    have HH2 := hid (HH.out.trans (hb.mono HH.out.size))
    have BX2 := hid (BX.out.below hb)
    clear L1 C1 L2 C2 HH BX hb
    have L1 := hid L12.out
    have C1 := hid C12.out
    have L2 := hid L22.out
    have C2 := hid C22.out
    have HH := hid HH2.out
    have BX := hid BX2.out
    clear L12 C12 L22 C22 HH2 BX2
    obtain ⟨⟨k0_0, k0_1⟩, f0_0, f0_1⟩ := (BX.out.get 0 rfl).two
    obtain ⟨⟨k1_0, k1_1⟩, f1_0, f1_1⟩ := (BX.out.get 1 rfl).two
    obtain ⟨⟨k2_0, k2_1⟩, f2_0, f2_1⟩ := (BX.out.get 2 rfl).two
    obtain ⟨⟨k3_0, k3_1⟩, f3_0, f3_1⟩ := (BX.out.get 3 rfl).two
    obtain ⟨⟨k4_0, k4_1⟩, f4_0, f4_1⟩ := (BX.out.get 4 rfl).two
    have hcall := blike_nil w9
    have HCALL := hid hcall
    clear hcall
    go_wp2_with fail
    with_reducible refine HCALL.out.mono ?_
    rintro e w10 ⟨rfl, hb⟩
    clear HCALL
    dsimp only
    clear k0_0 k0_1 f0_0 f0_1 k1_0 k1_1 f1_0 f1_1 k2_0 k2_1 f2_0 f2_1 k3_0 k3_1 f3_0 f3_1 k4_0 k4_1 f4_0 f4_1
    have L12 := hid (L1.out.below hb)
    have C12 := hid (C1.out.below hb)
    have L22 := hid (L2.out.below hb)
    have C22 := hid (C2.out.below hb)
    have HH2 := hid (HH.out.trans (hb.mono HH.out.size))
    have BX2 := hid (BX.out.below hb)
    clear L1 C1 L2 C2 HH BX hb
    have L1 := hid L12.out
    have C1 := hid C12.out
    have L2 := hid L22.out
    have C2 := hid C22.out
    have HH := hid HH2.out
    have BX := hid BX2.out
    clear L12 C12 L22 C22 HH2 BX2
    obtain ⟨⟨k0_0, k0_1⟩, f0_0, f0_1⟩ := (BX.out.get 0 rfl).two
    obtain ⟨⟨k1_0, k1_1⟩, f1_0, f1_1⟩ := (BX.out.get 1 rfl).two
    obtain ⟨⟨k2_0, k2_1⟩, f2_0, f2_1⟩ := (BX.out.get 2 rfl).two
    obtain ⟨⟨k3_0, k3_1⟩, f3_0, f3_1⟩ := (BX.out.get 3 rfl).two
    obtain ⟨⟨k4_0, k4_1⟩, f4_0, f4_1⟩ := (BX.out.get 4 rfl).two
    have hcall := blike_nil w10
    have HCALL := hid hcall
    clear hcall
    go_wp2_with fail
    with_reducible refine HCALL.out.mono ?_
    rintro e w11 ⟨rfl, hb⟩
    clear HCALL
    dsimp only
    clear k0_0 k0_1 f0_0 f0_1 k1_0 k1_1 f1_0 f1_1 k2_0 k2_1 f2_0 f2_1 k3_0 k3_1 f3_0 f3_1 k4_0 k4_1 f4_0 f4_1
    have L12 := hid (L1.out.below hb)
    have C12 := hid (C1.out.below hb)
    have L22 := hid (L2.out.below hb)
    have C22 := hid (C2.out.below hb)
    have HH2 := hid (HH.out.trans (hb.mono HH.out.size))
    have BX2 := hid (BX.out.below hb)
    clear L1 C1 L2 C2 HH BX hb
    have L1 := hid L12.out
    have C1 := hid C12.out
    have L2 := hid L22.out
    have C2 := hid C22.out
    have HH := hid HH2.out
    have BX := hid BX2.out
    clear L12 C12 L22 C22 HH2 BX2
    obtain ⟨⟨k0_0, k0_1⟩, f0_0, f0_1⟩ := (BX.out.get 0 rfl).two
    obtain ⟨⟨k1_0, k1_1⟩, f1_0, f1_1⟩ := (BX.out.get 1 rfl).two
    obtain ⟨⟨k2_0, k2_1⟩, f2_0, f2_1⟩ := (BX.out.get 2 rfl).two
    obtain ⟨⟨k3_0, k3_1⟩, f3_0, f3_1⟩ := (BX.out.get 3 rfl).two
    obtain ⟨⟨k4_0, k4_1⟩, f4_0, f4_1⟩ := (BX.out.get 4 rfl).two
    go_wp2
    go_ret
    exact ⟨rfl, HH.out⟩
  · obtain ⟨⟨k0_0, k0_1⟩, f0_0, f0_1⟩ := (BX.out.get 0 rfl).two
    have rk0_0 := cell_regrown k0_0
    have rk0_1 := cell_regrown k0_1
    have qq0 : ∀ d os, Calls Tryd.prog 38 #[.agg #[.int .i64 mx, .slice A1 n1 a1]] (Go.Sort.grow (redrawn w7 d) os) fun e w'' => e = .returned (.bool true) ∧ ∃ p : Regrown, w'' = Go.Sort.grow (redrawn w7 p.d) p.os := fun d os => Calls.regrown_of (by have hb := below_regrown w7 d os; exact (by have h := bRight_any mx _ lv1 _ (L1.out.below hb) (C1.out.below hb) SM1.out (HT.out.below (HH.out.trans (hb.mono HH.out.size))) (HW.out.below (HH.out.trans (hb.mono HH.out.size))); rw [HRV.out] at h; exact h))
    have qq1 : ∀ d os, Calls Tryd.prog 39 #[.agg #[.int .i64 mx, .slice A1 n1 a1]] (Go.Sort.grow (redrawn w7 d) os) fun e w'' => e = .returned (.bool true) ∧ ∃ p : Regrown, w'' = Go.Sort.grow (redrawn w7 p.d) p.os := fun d os => Calls.regrown_of (by have hb := below_regrown w7 d os; exact (by have h := lawRight_any mx _ lv1 _ (L1.out.below hb) (C1.out.below hb) SM1.out; rw [HRV.out] at h; exact h))
    have qq2 : ∀ d os, Calls Tryd.prog 40 #[] (Go.Sort.grow (redrawn w7 d) os) fun e w'' => e = .returned (.bool true) ∧ ∃ p : Regrown, w'' = Go.Sort.grow (redrawn w7 p.d) p.os := fun d os => Calls.regrown_of (by have hb := below_regrown w7 d os; exact balive_any _ (HT.out.below (HH.out.trans (hb.mono HH.out.size))) (HW.out.below (HH.out.trans (hb.mono HH.out.size))))
    refine wp_region_quiet_below (by kernel_rfl) (by kernel_rfl) ?_
    iterate 9 (go_big_quiet_step (first | with_reducible exact qq0 _ _ | with_reducible exact qq1 _ _ | with_reducible exact qq2 _ _))
    refine wpQuiet_nil ?_
    intro _ hw'
    obtain ⟨⟨dq, osq⟩, hw''⟩ := hw'
    subst hw''
    have hbq := below_regrown w7 dq osq
    clear qq0 qq1 qq2 rk0_0 rk0_1
    clear k0_0 k0_1 f0_0 f0_1
    have L12 := hid (L1.out.below hbq)
    have C12 := hid (C1.out.below hbq)
    have L22 := hid (L2.out.below hbq)
    have C22 := hid (C2.out.below hbq)
    have XX2 := hid (XX.out.below hbq)
    have YY2 := hid (YY.out.below hbq)
    have HH2 := hid (HH.out.trans (hbq.mono HH.out.size))
    have BX2 := hid (BX.out.below hbq)
    clear L1 C1 L2 C2 XX YY HH BX
    have L1 := hid L12.out
    have C1 := hid C12.out
    have L2 := hid L22.out
    have C2 := hid C22.out
    have XX := hid XX2.out
    have YY := hid YY2.out
    have HH := hid HH2.out
    have BX := hid BX2.out
    clear L12 C12 L22 C22 XX2 YY2 HH2 BX2
    generalize Go.Sort.grow (redrawn w7 dq) osq = w8 at *
    clear hbq
    obtain ⟨⟨k0_0, k0_1⟩, f0_0, f0_1⟩ := (BX.out.get 0 rfl).two
    have hcall := lawRight_any mx _ lv1 w8 L1.out C1.out SM1.out
    rw [HRV.out] at hcall
    have HCALL := hid hcall
    clear hcall
    go_wp2_with fail
    with_reducible refine HCALL.out.mono ?_
    rintro e w9 ⟨rfl, hb⟩
    clear HCALL
    dsimp only
    clear k0_0 k0_1 f0_0 f0_1
    have L12 := hid (L1.out.below hb)
    have C12 := hid (C1.out.below hb)
    have L22 := hid (L2.out.below hb)
    have C22 := hid (C2.out.below hb)
    have XX2 := hid (XX.out.below hb)
    have YY2 := hid (YY.out.below hb)
    have HH2 := hid (HH.out.trans (hb.mono HH.out.size))
    have BX2 := hid (BX.out.below hb)
    clear L1 C1 L2 C2 XX YY HH BX hb
    have L1 := hid L12.out
    have C1 := hid C12.out
    have L2 := hid L22.out
    have C2 := hid C22.out
    have XX := hid XX2.out
    have YY := hid YY2.out
    have HH := hid HH2.out
    have BX := hid BX2.out
    clear L12 C12 L22 C22 XX2 YY2 HH2 BX2
    obtain ⟨⟨k0_0, k0_1⟩, f0_0, f0_1⟩ := (BX.out.get 0 rfl).two
    obtain ⟨⟨k1_0, k1_1⟩, f1_0, f1_1⟩ := (BX.out.get 1 rfl).two
    obtain ⟨⟨k2_0, k2_1⟩, f2_0, f2_1⟩ := (BX.out.get 2 rfl).two
    obtain ⟨⟨k3_0, k3_1⟩, f3_0, f3_1⟩ := (BX.out.get 3 rfl).two
    obtain ⟨⟨k4_0, k4_1⟩, f4_0, f4_1⟩ := (BX.out.get 4 rfl).two
    have hcall := lawKept_any _ ll1 w9 L2.out C2.out SM2.out
    rw [HKV.out] at hcall
    have HCALL := hid hcall
    clear hcall
    go_wp2_with fail
    with_reducible refine HCALL.out.mono ?_
    rintro e w10 ⟨rfl, hb⟩
    clear HCALL
    dsimp only
    clear k0_0 k0_1 f0_0 f0_1 k1_0 k1_1 f1_0 f1_1 k2_0 k2_1 f2_0 f2_1 k3_0 k3_1 f3_0 f3_1 k4_0 k4_1 f4_0 f4_1
    have L12 := hid (L1.out.below hb)
    have C12 := hid (C1.out.below hb)
    have L22 := hid (L2.out.below hb)
    have C22 := hid (C2.out.below hb)
    have XX2 := hid (XX.out.below hb)
    have YY2 := hid (YY.out.below hb)
    have HH2 := hid (HH.out.trans (hb.mono HH.out.size))
    have BX2 := hid (BX.out.below hb)
    clear L1 C1 L2 C2 XX YY HH BX hb
    have L1 := hid L12.out
    have C1 := hid C12.out
    have L2 := hid L22.out
    have C2 := hid C22.out
    have XX := hid XX2.out
    have YY := hid YY2.out
    have HH := hid HH2.out
    have BX := hid BX2.out
    clear L12 C12 L22 C22 XX2 YY2 HH2 BX2
    obtain ⟨⟨k0_0, k0_1⟩, f0_0, f0_1⟩ := (BX.out.get 0 rfl).two
    obtain ⟨⟨k1_0, k1_1⟩, f1_0, f1_1⟩ := (BX.out.get 1 rfl).two
    obtain ⟨⟨k2_0, k2_1⟩, f2_0, f2_1⟩ := (BX.out.get 2 rfl).two
    obtain ⟨⟨k3_0, k3_1⟩, f3_0, f3_1⟩ := (BX.out.get 3 rfl).two
    obtain ⟨⟨k4_0, k4_1⟩, f4_0, f4_1⟩ := (BX.out.get 4 rfl).two
    go_upto_if 87 with fail
    go_cut [] (fun wx => Below w10.heap.size w10 wx)
    case first =>
      have DD := hid (Bel.refl w10)
      cases K
      · rcases XX.out with ⟨h, _⟩ | ⟨_, rfl, hxs, rfl⟩
        · cases h
        cases hxs
        clear XX
        clear k0_0 k0_1 f0_0 f0_1 k1_0 k1_1 f1_0 f1_1 k2_0 k2_1 f2_0 f2_1 k3_0 k3_1 f3_0 f3_1 k4_0 k4_1 f4_0 f4_1
        obtain ⟨⟨k0_0, k0_1⟩, f0_0, f0_1⟩ := (BX.out.get 0 rfl).two
        obtain ⟨⟨k1_0, k1_1⟩, f1_0, f1_1⟩ := (BX.out.get 1 rfl).two
        obtain ⟨⟨k2_0, k2_1⟩, f2_0, f2_1⟩ := (BX.out.get 2 rfl).two
        obtain ⟨⟨k3_0, k3_1⟩, f3_0, f3_1⟩ := (BX.out.get 3 rfl).two
        obtain ⟨⟨k4_0, k4_1⟩, f4_0, f4_1⟩ := (BX.out.get 4 rfl).two
        have hcall := blike_nil w10
        have HCALL := hid hcall
        clear hcall
        go_wp2_with fail
        with_reducible refine HCALL.out.mono ?_
        rintro e w11 ⟨rfl, hb⟩
        clear HCALL
        dsimp only
        clear k0_0 k0_1 f0_0 f0_1 k1_0 k1_1 f1_0 f1_1 k2_0 k2_1 f2_0 f2_1 k3_0 k3_1 f3_0 f3_1 k4_0 k4_1 f4_0 f4_1
        have L12 := hid (L1.out.below hb)
        have C12 := hid (C1.out.below hb)
        have L22 := hid (L2.out.below hb)
        have C22 := hid (C2.out.below hb)
        have YY2 := hid (YY.out.below hb)
        have DD2 := hid (DD.out.below hb)
        have HH2 := hid (HH.out.trans (hb.mono HH.out.size))
        have BX2 := hid (BX.out.below hb)
        clear L1 C1 L2 C2 YY DD HH BX hb
        have L1 := hid L12.out
        have C1 := hid C12.out
        have L2 := hid L22.out
        have C2 := hid C22.out
        have YY := hid YY2.out
        have DD := hid DD2.out
        have HH := hid HH2.out
        have BX := hid BX2.out
        clear L12 C12 L22 C22 YY2 DD2 HH2 BX2
        obtain ⟨⟨k0_0, k0_1⟩, f0_0, f0_1⟩ := (BX.out.get 0 rfl).two
        obtain ⟨⟨k1_0, k1_1⟩, f1_0, f1_1⟩ := (BX.out.get 1 rfl).two
        obtain ⟨⟨k2_0, k2_1⟩, f2_0, f2_1⟩ := (BX.out.get 2 rfl).two
        obtain ⟨⟨k3_0, k3_1⟩, f3_0, f3_1⟩ := (BX.out.get 3 rfl).two
        obtain ⟨⟨k4_0, k4_1⟩, f4_0, f4_1⟩ := (BX.out.get 4 rfl).two
        go_wp2_with fail
        go_meet
        exact DD.out
      · have hbk := backB_iff.1 HRV.out
        obtain ⟨M, rfl⟩ : ∃ M : Nat, mx = M := ⟨mx.toNat, by omega⟩
        have hM : M ≤ 40 := by omega
        rcases XX.out with ⟨_, rfl, rfl, hx⟩ | ⟨h, _⟩
        rotate_left
        · cases h
        rw [Int.toNat_natCast] at hx
        have LX := hid hx
        obtain ⟨nb, hnb⟩ : ∃ nb, (lv1 ++ ll1).length = nb := ⟨_, rfl⟩
        have HNB := hid hnb
        have hnb2 : nb ≤ 92 := by rw [← hnb, List.length_append]; have := HN1.out; have := HN2.out; have := N1.out; have := N2.out; omega
        have hfew : Sm (lv1 ++ ll1) := ⟨by omega, fun e he => (List.mem_append.1 he).elim (SM1.out.2 e) (SM2.out.2 e)⟩
        have HSM := hid hfew
        have ho : OwnL (w10.alloc (.cells #[] 57)) w10.heap.size (.slice (some ⟨w10.heap.size, 0, none⟩) 0 0) [] := OwnL.lit [] (by simp) (Nat.le_refl _)
        have HO := hid ho
        have LA := hid (L1.out.below (below_alloc w10 (.cells #[] 57)))
        have CA := hid (C1.out.below (below_alloc w10 (.cells #[] 57)))
        clear XX hbk hx hnb ho hfew
        clear k0_0 k0_1 f0_0 f0_1 k1_0 k1_1 f1_0 f1_1 k2_0 k2_1 f2_0 f2_1 k3_0 k3_1 f3_0 f3_1 k4_0 k4_1 f4_0 f4_1
        obtain ⟨⟨k0_0, k0_1⟩, f0_0, f0_1⟩ := (BX.out.get 0 rfl).two
        obtain ⟨⟨k1_0, k1_1⟩, f1_0, f1_1⟩ := (BX.out.get 1 rfl).two
        obtain ⟨⟨k2_0, k2_1⟩, f2_0, f2_1⟩ := (BX.out.get 2 rfl).two
        obtain ⟨⟨k3_0, k3_1⟩, f3_0, f3_1⟩ := (BX.out.get 3 rfl).two
        obtain ⟨⟨k4_0, k4_1⟩, f4_0, f4_1⟩ := (BX.out.get 4 rfl).two
        by_cases hlt : nb ≤ M
        · have hI : (nb : Int) ≤ M := by omega
          clear hlt
          have hbz : W.heap.size < w10.heap.size := (BX.out.get 0 rfl).lt
          go_wp2_with (first | (at_builtin; (refine wpList_append_ln rfl _ _ rfl w10.heap.size _ _ [] lv1 rfl HO.out rfl LA.out CA.out (by rw [HN1.out]; have := N1.out; simp; omega) (by simp) ?_; (intro va wa h1 h2; have hba := (below_alloc w10 (.cells #[] 57)).grown h2 (by simp) (fun k e => (by cases e; exact Nat.le_refl _)); rw [List.nil_append] at h1; obtain ⟨aA, ac, hv⟩ := h1.spell; rw [HN1.out] at hv; subst hv; have O1 := hid h1; have BA := hid hba; clear h1 h2 hba))) | (at_builtin; refine wpList_append_ln rfl _ _ rfl w10.heap.size _ _ lv1 ll1 rfl O1.out rfl (L2.out.below BA.out) (C2.out.below BA.out) (by rw [HN1.out, HN2.out]; have := N1.out; have := N2.out; omega) BA.out.size ?_; (intro vb wb h3 h4; have hbb := BA.out.grown h4 BA.out.size (fun k hk => (World.ownsRow.lt O1.out k hk).1); obtain ⟨bA, bc, hv⟩ := h3.spell; rw [HNB.out] at hv; subst hv; have O2 := hid h3.lsl.row; have BB := hid hbb; clear h3 h4 hbb; clear k0_0 k0_1 f0_0 f0_1 k1_0 k1_1 f1_0 f1_1 k2_0 k2_1 f2_0 f2_1 k3_0 k3_1 f3_0 f3_1 k4_0 k4_1 f4_0 f4_1; obtain ⟨⟨k0_0, k0_1⟩, f0_0, f0_1⟩ := ((BX.out.below BB.out).get 0 rfl).two; obtain ⟨⟨k1_0, k1_1⟩, f1_0, f1_1⟩ := ((BX.out.below BB.out).get 1 rfl).two; obtain ⟨⟨k2_0, k2_1⟩, f2_0, f2_1⟩ := ((BX.out.below BB.out).get 2 rfl).two; obtain ⟨⟨k3_0, k3_1⟩, f3_0, f3_1⟩ := ((BX.out.below BB.out).get 3 rfl).two; obtain ⟨⟨k4_0, k4_1⟩, f4_0, f4_1⟩ := ((BX.out.below BB.out).get 4 rfl).two)))
          have hcc : CesOf wb (lv1 ++ ll1) := fun e he => (List.mem_append.1 he).elim (C1.out.below BB.out e) (C2.out.below BB.out e)
          have hcall := blike_any M _ _ (lastN M (lv1 ++ ll1)) (lv1 ++ ll1) wb (LX.out.below BB.out) O2.out (ces_sub hcc (fun e he => lastN_mem he)) hcc (by rw [lastN_all (by rw [HNB.out]; omega)]) (Sm.sz (sm_sub HSM.out (by rw [lastN_length]; omega) (fun e he => lastN_mem he)))
          with_reducible refine hcall.mono ?_
          rintro e wz ⟨rfl, hb⟩
          dsimp only
          clear hcall hcc
          go_wp2_with fail
          go_meet
          exact BB.out.trans (hb.mono BB.out.size)
        · have hI : (M : Int) < nb := by omega
          clear hlt
          have hbz : W.heap.size < w10.heap.size := (BX.out.get 0 rfl).lt
          go_wp2_with (first | (at_builtin; (refine wpList_append_ln rfl _ _ rfl w10.heap.size _ _ [] lv1 rfl HO.out rfl LA.out CA.out (by rw [HN1.out]; have := N1.out; simp; omega) (by simp) ?_; (intro va wa h1 h2; have hba := (below_alloc w10 (.cells #[] 57)).grown h2 (by simp) (fun k e => (by cases e; exact Nat.le_refl _)); rw [List.nil_append] at h1; obtain ⟨aA, ac, hv⟩ := h1.spell; rw [HN1.out] at hv; subst hv; have O1 := hid h1; have BA := hid hba; clear h1 h2 hba))) | (at_builtin; refine wpList_append_ln rfl _ _ rfl w10.heap.size _ _ lv1 ll1 rfl O1.out rfl (L2.out.below BA.out) (C2.out.below BA.out) (by rw [HN1.out, HN2.out]; have := N1.out; have := N2.out; omega) BA.out.size ?_; (intro vb wb h3 h4; have hbb := BA.out.grown h4 BA.out.size (fun k hk => (World.ownsRow.lt O1.out k hk).1); obtain ⟨bA, bc, hv⟩ := h3.spell; rw [HNB.out] at hv; subst hv; have O2 := hid h3.lsl.row; have BB := hid hbb; have hsl := slice_ln_l O2.out HNB.out (nb - M) (by omega); obtain ⟨sA, hs, hsr⟩ := hsl; rw [show nb - (nb - M) = M from (by omega)] at hs hsr; rw [show ((nb - M : Nat) : Int) = (nb : Int) - (M : Int) from (by omega)] at hs; have SR := hid hsr; clear hsr; clear h3 h4 hbb; clear k0_0 k0_1 f0_0 f0_1 k1_0 k1_1 f1_0 f1_1 k2_0 k2_1 f2_0 f2_1 k3_0 k3_1 f3_0 f3_1 k4_0 k4_1 f4_0 f4_1; obtain ⟨⟨k0_0, k0_1⟩, f0_0, f0_1⟩ := ((BX.out.below BB.out).get 0 rfl).two; obtain ⟨⟨k1_0, k1_1⟩, f1_0, f1_1⟩ := ((BX.out.below BB.out).get 1 rfl).two; obtain ⟨⟨k2_0, k2_1⟩, f2_0, f2_1⟩ := ((BX.out.below BB.out).get 2 rfl).two; obtain ⟨⟨k3_0, k3_1⟩, f3_0, f3_1⟩ := ((BX.out.below BB.out).get 3 rfl).two; obtain ⟨⟨k4_0, k4_1⟩, f4_0, f4_1⟩ := ((BX.out.below BB.out).get 4 rfl).two)))
          have hcc : CesOf wb (lv1 ++ ll1) := fun e he => (List.mem_append.1 he).elim (C1.out.below BB.out e) (C2.out.below BB.out e)
          have hcall := blike_any M _ _ (lastN M (lv1 ++ ll1)) ((lv1 ++ ll1).drop (nb - M)) wb (LX.out.below BB.out) SR.out (ces_sub hcc (fun e he => lastN_mem he)) (ces_sub hcc (fun e he => List.mem_of_mem_drop he)) (by unfold lastN; rw [HNB.out]) (Sm.sz (sm_sub HSM.out (by rw [lastN_length]; omega) (fun e he => lastN_mem he)))
          with_reducible refine hcall.mono ?_
          rintro e wz ⟨rfl, hb⟩
          dsimp only
          clear hcall hcc
          go_wp2_with fail
          go_meet
          exact BB.out.trans (hb.mono BB.out.size)
    case rest =>
      clear XX
      clear k0_0 k0_1 f0_0 f0_1 k1_0 k1_1 f1_0 f1_1 k2_0 k2_1 f2_0 f2_1 k3_0 k3_1 f3_0 f3_1 k4_0 k4_1 f4_0 f4_1
      have L12 := hid (L1.out.below hcut)
      have C12 := hid (C1.out.below hcut)
      have L22 := hid (L2.out.below hcut)
      have C22 := hid (C2.out.below hcut)
      have YY2 := hid (YY.out.below hcut)
      have HH2 := hid (HH.out.trans (hcut.mono HH.out.size))
      have BX2 := hid (BX.out.below hcut)
      clear L1 C1 L2 C2 YY HH BX
      have L1 := hid L12.out
      have C1 := hid C12.out
      have L2 := hid L22.out
      have C2 := hid C22.out
      have YY := hid YY2.out
      have HH := hid HH2.out
      have BX := hid BX2.out
      clear L12 C12 L22 C22 YY2 HH2 BX2
      clear hcut
      have h3 : num < 0 ∨ (0 ≤ num ∧ (n1 : Int) ≤ num) ∨ (0 ≤ num ∧ num < n1) := by omega
      rcases h3 with hz | ⟨hz, hz2⟩ | ⟨hz, hz2⟩
      · rw [decide_eq_false (p := 0 ≤ num) (by omega), Bool.and_false] at YY
        rcases YY.out with ⟨h, _⟩ | ⟨_, rfl, hys, hzs, rfl⟩
        · cases h
        cases hys
        cases hzs
        rcases AA.out with ⟨h, _⟩ | ⟨_, _, rfl, hos, rfl⟩ | ⟨_, h, _⟩
        · cases h
        rotate_left
        · exact absurd h (by rw [HN1.out]; omega)
        cases hos
        clear AA
        clear YY
        obtain ⟨⟨k0_0, k0_1⟩, f0_0, f0_1⟩ := (BX.out.get 0 rfl).two
        obtain ⟨⟨k1_0, k1_1⟩, f1_0, f1_1⟩ := (BX.out.get 1 rfl).two
        obtain ⟨⟨k2_0, k2_1⟩, f2_0, f2_1⟩ := (BX.out.get 2 rfl).two
        obtain ⟨⟨k3_0, k3_1⟩, f3_0, f3_1⟩ := (BX.out.get 3 rfl).two
        obtain ⟨⟨k4_0, k4_1⟩, f4_0, f4_1⟩ := (BX.out.get 4 rfl).two
        have hcall := blike_nil wc
        have HCALL := hid hcall
        clear hcall
        go_wp2_with fail
        with_reducible refine HCALL.out.mono ?_
        rintro e w11 ⟨rfl, hb⟩
        clear HCALL
        dsimp only
        clear k0_0 k0_1 f0_0 f0_1 k1_0 k1_1 f1_0 f1_1 k2_0 k2_1 f2_0 f2_1 k3_0 k3_1 f3_0 f3_1 k4_0 k4_1 f4_0 f4_1
        have L12 := hid (L1.out.below hb)
        have C12 := hid (C1.out.below hb)
        have L22 := hid (L2.out.below hb)
        have C22 := hid (C2.out.below hb)
        have HH2 := hid (HH.out.trans (hb.mono HH.out.size))
        have BX2 := hid (BX.out.below hb)
        clear L1 C1 L2 C2 HH BX hb
        have L1 := hid L12.out
        have C1 := hid C12.out
        have L2 := hid L22.out
        have C2 := hid C22.out
        have HH := hid HH2.out
        have BX := hid BX2.out
        clear L12 C12 L22 C22 HH2 BX2
        obtain ⟨⟨k0_0, k0_1⟩, f0_0, f0_1⟩ := (BX.out.get 0 rfl).two
        obtain ⟨⟨k1_0, k1_1⟩, f1_0, f1_1⟩ := (BX.out.get 1 rfl).two
        obtain ⟨⟨k2_0, k2_1⟩, f2_0, f2_1⟩ := (BX.out.get 2 rfl).two
        obtain ⟨⟨k3_0, k3_1⟩, f3_0, f3_1⟩ := (BX.out.get 3 rfl).two
        obtain ⟨⟨k4_0, k4_1⟩, f4_0, f4_1⟩ := (BX.out.get 4 rfl).two
        go_wp2
        go_ret
        exact ⟨rfl, HH.out⟩
      · obtain ⟨i, rfl⟩ : ∃ i : Nat, num = i := ⟨num.toNat, by omega⟩
        rw [decide_eq_true (p := 0 ≤ (i : Int)) hz, Int.toNat_natCast] at YY
        rcases YY.out with ⟨_, rfl, rfl, hy1, hy2⟩ | ⟨h, _⟩
        rotate_left
        · cases h
        rw [HN1.out] at hy1
        have LY := hid hy1
        have LZ := hid hy2
        clear YY hy1 hy2
        rcases AA.out with ⟨h, _⟩ | ⟨_, _, rfl, hos, rfl⟩ | ⟨_, h, _⟩
        · cases h
        rotate_left
        · exact absurd h (by rw [HN1.out]; omega)
        cases hos
        clear AA
        obtain ⟨⟨k0_0, k0_1⟩, f0_0, f0_1⟩ := (BX.out.get 0 rfl).two
        obtain ⟨⟨k1_0, k1_1⟩, f1_0, f1_1⟩ := (BX.out.get 1 rfl).two
        obtain ⟨⟨k2_0, k2_1⟩, f2_0, f2_1⟩ := (BX.out.get 2 rfl).two
        obtain ⟨⟨k3_0, k3_1⟩, f3_0, f3_1⟩ := (BX.out.get 3 rfl).two
        obtain ⟨⟨k4_0, k4_1⟩, f4_0, f4_1⟩ := (BX.out.get 4 rfl).two
        have hd : decide ((i : Int) < 0) = false := decide_eq_false (by omega)
        obtain ⟨f, hf⟩ : ∃ f, n1 - i = f := ⟨_, rfl⟩
        go_upto_region 26 with fail
        go_cut [17] (fun v wx => v = .int .i64 f ∧ wc = wx)
        case first =>
          obtain rfl : f = 0 := by omega
          by_cases heq : (i : Int) = (n1 : Int)
          · obtain rfl : i = n1 := by omega
            clear heq hf
            go_wp2_with fail
            go_meet
            exact ⟨by simp, rfl⟩
          · have hlt : (n1 : Int) < (i : Int) := by omega
            clear heq hf
            go_wp2_with fail
            go_meet
            exact ⟨by simp, rfl⟩
        case rest =>
          obtain ⟨rfl, rfl⟩ := hcut
          rw [hf] at LY
          obtain ⟨sA, hs, hsr⟩ := slice_ln_h L1.out HN1.out f (by omega)
          obtain ⟨tA, ht, htr⟩ := slice_ln_l L1.out HN1.out f (by omega)
          have hlz : lastN i lv1 = lv1.drop f := by unfold lastN; rw [HN1.out, hf]
          have hfa : f ≤ n1 := by omega
          have HLZ := hid hlz
          have SR := hid hsr
          have TR := hid htr
          have HFA := hid hfa
          clear hsr htr hlz hf hfa
          go_upto_region 27 with fail
          clear k0_0 k0_1 f0_0 f0_1 k1_0 k1_1 f1_0 f1_1 k2_0 k2_1 f2_0 f2_1 k3_0 k3_1 f3_0 f3_1 k4_0 k4_1 f4_0 f4_1
          obtain ⟨⟨k0_0, k0_1⟩, f0_0, f0_1⟩ := (BX.out.get 0 rfl).two
          obtain ⟨⟨k2_0, k2_1⟩, f2_0, f2_1⟩ := (BX.out.get 2 rfl).two
          have rk0_0 := cell_regrown k0_0
          have rk0_1 := cell_regrown k0_1
          have rk2_0 := cell_regrown k2_0
          have rk2_1 := cell_regrown k2_1
          have qq0 : ∀ d os, Calls Tryd.prog 41 #[.agg #[.int .i64 yc, .slice yA yk yp], .agg #[.int .i64 yc, .slice sA f a1]] (Go.Sort.grow (redrawn wc d) os) fun e w'' => e = .returned (.bool true) ∧ ∃ p : Regrown, w'' = Go.Sort.grow (redrawn wc p.d) p.os := fun d os => Calls.regrown_of (by have hb := below_regrown wc d os; exact blike_any yc _ _ (lv1.take f) (lv1.take f) _ (LY.out.below hb) (SR.out.below hb) (ces_sub (C1.out.below hb) (fun e he => List.mem_of_mem_take he)) (ces_sub (C1.out.below hb) (fun e he => List.mem_of_mem_take he)) rfl (Sm.sz (sm_sub SM1.out (by rw [List.length_take, HN1.out]; have := N1.out; omega) (fun e he => List.mem_of_mem_take he))))
          have qq1 : ∀ d os, Calls Tryd.prog 27 #[.slice zA zk zp, .slice tA (n1 - f) (a1 - f)] (Go.Sort.grow (redrawn wc d) os) fun e w'' => e = .returned (.bool true) ∧ ∃ p : Regrown, w'' = Go.Sort.grow (redrawn wc p.d) p.os := fun d os => Calls.regrown_of (by have hb := below_regrown wc d os; exact same_any _ _ (lastN i lv1) (lv1.drop f) _ (LZ.out.below hb) (TR.out.below hb) (ces_sub (C1.out.below hb) (fun e he => lastN_mem he)) (ces_sub (C1.out.below hb) (fun e he => List.mem_of_mem_drop he)) (by rw [HLZ.out]) (Sm.sz (sm_sub SM1.out (by rw [lastN_length, HN1.out]; have := N1.out; omega) (fun e he => lastN_mem he))))
          have hfc : (f : Int) ≤ (a1 : Int) := by have := (L1.out); obtain ⟨A', c', e, h, _⟩ := this; rw [HN1.out] at e h; cases e; have := HFA.out; omega
          have hfn : (f : Int) ≤ (n1 : Int) := by have := HFA.out; omega
          refine wp_region_quiet_below (by kernel_rfl) (by kernel_rfl) ?_
          iterate 22 (go_big_quiet_step (first | with_reducible exact qq0 _ _ | with_reducible exact qq1 _ _))
          refine wpQuiet_nil ?_
          intro _ hw'
          obtain ⟨⟨dq, osq⟩, hw''⟩ := hw'
          subst hw''
          have hbq := below_regrown wc dq osq
          clear qq0 qq1 rk0_0 rk0_1 rk2_0 rk2_1
          clear k0_0 k0_1 f0_0 f0_1 k2_0 k2_1 f2_0 f2_1
          have L12 := hid (L1.out.below hbq)
          have C12 := hid (C1.out.below hbq)
          have L22 := hid (L2.out.below hbq)
          have C22 := hid (C2.out.below hbq)
          have LY2 := hid (LY.out.below hbq)
          have LZ2 := hid (LZ.out.below hbq)
          have SR2 := hid (SR.out.below hbq)
          have TR2 := hid (TR.out.below hbq)
          have HH2 := hid (HH.out.trans (hbq.mono HH.out.size))
          have BX2 := hid (BX.out.below hbq)
          clear L1 C1 L2 C2 LY LZ SR TR HH BX
          have L1 := hid L12.out
          have C1 := hid C12.out
          have L2 := hid L22.out
          have C2 := hid C22.out
          have LY := hid LY2.out
          have LZ := hid LZ2.out
          have SR := hid SR2.out
          have TR := hid TR2.out
          have HH := hid HH2.out
          have BX := hid BX2.out
          clear L12 C12 L22 C22 LY2 LZ2 SR2 TR2 HH2 BX2
          generalize Go.Sort.grow (redrawn wc dq) osq = w11 at *
          clear hbq
          obtain ⟨⟨k0_0, k0_1⟩, f0_0, f0_1⟩ := (BX.out.get 0 rfl).two
          obtain ⟨⟨k2_0, k2_1⟩, f2_0, f2_1⟩ := (BX.out.get 2 rfl).two
          go_wp2
          go_ret
          exact ⟨rfl, HH.out⟩
      · obtain ⟨i, rfl⟩ : ∃ i : Nat, num = i := ⟨num.toNat, by omega⟩
        rw [decide_eq_true (p := 0 ≤ (i : Int)) hz, Int.toNat_natCast] at YY
        rcases YY.out with ⟨_, rfl, rfl, hy1, hy2⟩ | ⟨h, _⟩
        rotate_left
        · cases h
        rw [HN1.out] at hy1
        have LY := hid hy1
        have LZ := hid hy2
        clear YY hy1 hy2
        rcases AA.out with ⟨h, _⟩ | ⟨_, h, _⟩ | ⟨_, _, rfl, x, hx, hx2, rfl⟩
        · cases h
        · exact absurd h (by rw [HN1.out]; omega)
        rw [HN1.out, Int.toNat_natCast] at hx
        have hj : n1 - 1 - i < n1 := by omega
        obtain ⟨A', c', e, _, hcell⟩ := L1.out
        rw [HN1.out] at e
        cases e
        obtain ⟨g, o, rfl, hg, hcell⟩ := hcell (by intro e; rw [e] at hx; simp at hx)
        obtain ⟨p0, p1⟩ := hcell _ _ hx
        have hcx := C1.out x (List.mem_of_getElem? hx)
        have hmx := (SM1.out.2 x (List.mem_of_getElem? hx)).1
        obtain ⟨⟨cs, soft⟩, xu⟩ := x
        simp only at p0 p1 hcx hx2 hmx
        subst hx2
        have P0 := hid p0
        have P1 := hid p1
        have CX := hid hcx
        have MX := hid hmx
        clear AA p0 p1 hcx hx hmx hcell
        obtain ⟨⟨k0_0, k0_1⟩, f0_0, f0_1⟩ := (BX.out.get 0 rfl).two
        obtain ⟨⟨k1_0, k1_1⟩, f1_0, f1_1⟩ := (BX.out.get 1 rfl).two
        obtain ⟨⟨k2_0, k2_1⟩, f2_0, f2_1⟩ := (BX.out.get 2 rfl).two
        obtain ⟨⟨k3_0, k3_1⟩, f3_0, f3_1⟩ := (BX.out.get 3 rfl).two
        obtain ⟨⟨k4_0, k4_1⟩, f4_0, f4_1⟩ := (BX.out.get 4 rfl).two
        have hd : decide ((i : Int) < 0) = false := decide_eq_false (by omega)
        have hd2 : decide ((n1 : Int) ≤ (i : Int)) = false := decide_eq_false (by omega)
        go_upto_region 22 with fail
        clear hd2
        have p0 := cell_regrown P0.out
        have p1 := cell_regrown P1.out
        have e1 : ((n1 : Int) - 1 - (i : Int)).toNat = n1 - 1 - i := by omega
        have e2 : 0 ≤ (n1 : Int) - 1 - (i : Int) := by omega
        have e3 : (n1 : Int) - 1 - (i : Int) < n1 := by omega
        have e4 : IntKind.i64.wrap ((n1 : Int) - 1) = (n1 : Int) - 1 := IntWalk.i64_in _ (by have := N1.out; omega)
        have e5 : IntKind.i64.wrap ((n1 : Int) - 1 - (i : Int)) = (n1 : Int) - 1 - (i : Int) := IntWalk.i64_in _ (by have := N1.out; omega)
        clear k0_0 k0_1 f0_0 f0_1 k1_0 k1_1 f1_0 f1_1 k2_0 k2_1 f2_0 f2_1 k3_0 k3_1 f3_0 f3_1 k4_0 k4_1 f4_0 f4_1
        obtain ⟨⟨k0_0, k0_1⟩, f0_0, f0_1⟩ := (BX.out.get 0 rfl).two
        obtain ⟨⟨k3_0, k3_1⟩, f3_0, f3_1⟩ := (BX.out.get 3 rfl).two
        have rk0_0 := cell_regrown k0_0
        have rk0_1 := cell_regrown k0_1
        have rk3_0 := cell_regrown k3_0
        have rk3_1 := cell_regrown k3_1
        have qq0 : ∀ d os, Calls Tryd.prog 32 #[.agg #[.slice oA ok op, .bool soft], .agg #[.slice oA ok op, .bool soft]] (Go.Sort.grow (redrawn wc d) os) fun e w'' => e = .returned (.bool true) ∧ ∃ p : Regrown, w'' = Go.Sort.grow (redrawn wc p.d) p.os := fun d os => Calls.regrown_of (by have hb := below_regrown wc d os; exact rSameLine_eq _ _ soft cs _ (CX.out.below hb) (CX.out.below hb) (Nat.le_trans MX.out (by omega)))
        refine wp_region_quiet_below (by kernel_rfl) (by kernel_rfl) ?_
        iterate 15 (go_big_quiet_step (first | with_reducible exact qq0 _ _))
        refine wpQuiet_nil ?_
        intro _ hw'
        obtain ⟨⟨dq, osq⟩, hw''⟩ := hw'
        subst hw''
        have hbq := below_regrown wc dq osq
        clear qq0 rk0_0 rk0_1 rk3_0 rk3_1
        clear k0_0 k0_1 f0_0 f0_1 k3_0 k3_1 f3_0 f3_1
        have L12 := hid (L1.out.below hbq)
        have C12 := hid (C1.out.below hbq)
        have L22 := hid (L2.out.below hbq)
        have C22 := hid (C2.out.below hbq)
        have LY2 := hid (LY.out.below hbq)
        have LZ2 := hid (LZ.out.below hbq)
        have CX2 := hid (CX.out.below hbq)
        have HH2 := hid (HH.out.trans (hbq.mono HH.out.size))
        have BX2 := hid (BX.out.below hbq)
        clear L1 C1 L2 C2 LY LZ CX HH BX
        have L1 := hid L12.out
        have C1 := hid C12.out
        have L2 := hid L22.out
        have C2 := hid C22.out
        have LY := hid LY2.out
        have LZ := hid LZ2.out
        have CX := hid CX2.out
        have HH := hid HH2.out
        have BX := hid BX2.out
        clear L12 C12 L22 C22 LY2 LZ2 CX2 HH2 BX2
        generalize Go.Sort.grow (redrawn wc dq) osq = w11 at *
        clear hbq
        obtain ⟨⟨k0_0, k0_1⟩, f0_0, f0_1⟩ := (BX.out.get 0 rfl).two
        obtain ⟨⟨k3_0, k3_1⟩, f3_0, f3_1⟩ := (BX.out.get 3 rfl).two
        clear p0 p1 e1 e2 e3 e4 e5 P0 P1 CX
        clear k0_0 k0_1 f0_0 f0_1 k3_0 k3_1 f3_0 f3_1
        obtain ⟨⟨k0_0, k0_1⟩, f0_0, f0_1⟩ := (BX.out.get 0 rfl).two
        obtain ⟨⟨k1_0, k1_1⟩, f1_0, f1_1⟩ := (BX.out.get 1 rfl).two
        obtain ⟨⟨k2_0, k2_1⟩, f2_0, f2_1⟩ := (BX.out.get 2 rfl).two
        obtain ⟨⟨k3_0, k3_1⟩, f3_0, f3_1⟩ := (BX.out.get 3 rfl).two
        obtain ⟨⟨k4_0, k4_1⟩, f4_0, f4_1⟩ := (BX.out.get 4 rfl).two
        obtain ⟨f, hf⟩ : ∃ f, n1 - i = f := ⟨_, rfl⟩
        go_upto_region 26 with fail
        go_cut [17] (fun v wx => v = .int .i64 f ∧ w11 = wx)
        case first =>
          have ef : (n1 : Int) - (i : Int) = (f : Int) := by omega
          have EF := hid ef
          have hn50 : (n1 : Int) ≤ 100 := by have := N1.out; omega
          have hle : (i : Int) ≤ (n1 : Int) := by omega
          have hge : 0 ≤ (n1 : Int) - (i : Int) := by omega
          clear ef hf
          go_wp2_with fail
          go_meet
          exact ⟨by rw [EF.out], rfl⟩
        case rest =>
          obtain ⟨rfl, rfl⟩ := hcut
          rw [hf] at LY
          obtain ⟨sA, hs, hsr⟩ := slice_ln_h L1.out HN1.out f (by omega)
          obtain ⟨tA, ht, htr⟩ := slice_ln_l L1.out HN1.out f (by omega)
          have hlz : lastN i lv1 = lv1.drop f := by unfold lastN; rw [HN1.out, hf]
          have hfa : f ≤ n1 := by omega
          have HLZ := hid hlz
          have SR := hid hsr
          have TR := hid htr
          have HFA := hid hfa
          clear hsr htr hlz hf hfa
          go_upto_region 27 with fail
          clear k0_0 k0_1 f0_0 f0_1 k1_0 k1_1 f1_0 f1_1 k2_0 k2_1 f2_0 f2_1 k3_0 k3_1 f3_0 f3_1 k4_0 k4_1 f4_0 f4_1
          obtain ⟨⟨k0_0, k0_1⟩, f0_0, f0_1⟩ := (BX.out.get 0 rfl).two
          obtain ⟨⟨k2_0, k2_1⟩, f2_0, f2_1⟩ := (BX.out.get 2 rfl).two
          have rk0_0 := cell_regrown k0_0
          have rk0_1 := cell_regrown k0_1
          have rk2_0 := cell_regrown k2_0
          have rk2_1 := cell_regrown k2_1
          have qq0 : ∀ d os, Calls Tryd.prog 41 #[.agg #[.int .i64 yc, .slice yA yk yp], .agg #[.int .i64 yc, .slice sA f a1]] (Go.Sort.grow (redrawn w11 d) os) fun e w'' => e = .returned (.bool true) ∧ ∃ p : Regrown, w'' = Go.Sort.grow (redrawn w11 p.d) p.os := fun d os => Calls.regrown_of (by have hb := below_regrown w11 d os; exact blike_any yc _ _ (lv1.take f) (lv1.take f) _ (LY.out.below hb) (SR.out.below hb) (ces_sub (C1.out.below hb) (fun e he => List.mem_of_mem_take he)) (ces_sub (C1.out.below hb) (fun e he => List.mem_of_mem_take he)) rfl (Sm.sz (sm_sub SM1.out (by rw [List.length_take, HN1.out]; have := N1.out; omega) (fun e he => List.mem_of_mem_take he))))
          have qq1 : ∀ d os, Calls Tryd.prog 27 #[.slice zA zk zp, .slice tA (n1 - f) (a1 - f)] (Go.Sort.grow (redrawn w11 d) os) fun e w'' => e = .returned (.bool true) ∧ ∃ p : Regrown, w'' = Go.Sort.grow (redrawn w11 p.d) p.os := fun d os => Calls.regrown_of (by have hb := below_regrown w11 d os; exact same_any _ _ (lastN i lv1) (lv1.drop f) _ (LZ.out.below hb) (TR.out.below hb) (ces_sub (C1.out.below hb) (fun e he => lastN_mem he)) (ces_sub (C1.out.below hb) (fun e he => List.mem_of_mem_drop he)) (by rw [HLZ.out]) (Sm.sz (sm_sub SM1.out (by rw [lastN_length, HN1.out]; have := N1.out; omega) (fun e he => lastN_mem he))))
          have hfc : (f : Int) ≤ (a1 : Int) := by have := (L1.out); obtain ⟨A', c', e, h, _⟩ := this; rw [HN1.out] at e h; cases e; have := HFA.out; omega
          have hfn : (f : Int) ≤ (n1 : Int) := by have := HFA.out; omega
          refine wp_region_quiet_below (by kernel_rfl) (by kernel_rfl) ?_
          iterate 22 (go_big_quiet_step (first | with_reducible exact qq0 _ _ | with_reducible exact qq1 _ _))
          refine wpQuiet_nil ?_
          intro _ hw'
          obtain ⟨⟨dq, osq⟩, hw''⟩ := hw'
          subst hw''
          have hbq := below_regrown w11 dq osq
          clear qq0 qq1 rk0_0 rk0_1 rk2_0 rk2_1
          clear k0_0 k0_1 f0_0 f0_1 k2_0 k2_1 f2_0 f2_1
          have L12 := hid (L1.out.below hbq)
          have C12 := hid (C1.out.below hbq)
          have L22 := hid (L2.out.below hbq)
          have C22 := hid (C2.out.below hbq)
          have LY2 := hid (LY.out.below hbq)
          have LZ2 := hid (LZ.out.below hbq)
          have SR2 := hid (SR.out.below hbq)
          have TR2 := hid (TR.out.below hbq)
          have HH2 := hid (HH.out.trans (hbq.mono HH.out.size))
          have BX2 := hid (BX.out.below hbq)
          clear L1 C1 L2 C2 LY LZ SR TR HH BX
          have L1 := hid L12.out
          have C1 := hid C12.out
          have L2 := hid L22.out
          have C2 := hid C22.out
          have LY := hid LY2.out
          have LZ := hid LZ2.out
          have SR := hid SR2.out
          have TR := hid TR2.out
          have HH := hid HH2.out
          have BX := hid BX2.out
          clear L12 C12 L22 C22 LY2 LZ2 SR2 TR2 HH2 BX2
          generalize Go.Sort.grow (redrawn w11 dq) osq = w12 at *
          clear hbq
          obtain ⟨⟨k0_0, k0_1⟩, f0_0, f0_1⟩ := (BX.out.get 0 rfl).two
          obtain ⟨⟨k2_0, k2_1⟩, f2_0, f2_1⟩ := (BX.out.get 2 rfl).two
          go_wp2
          go_ret
          exact ⟨rfl, HH.out⟩
end Go.Proofs.YtdpicbfpjnampaaDoor
