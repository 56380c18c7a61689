/- The law FlowJoins, walked. Made by wip/gen/flowJn.py. -/
import Derived.Test.YtkejoknphnkhnaaDoorFlowLmQ
import Derived.Test.YtkejoknphnkhnaaDoorFlowKQ
import Derived.Test.YtkejoknphnkhnaaDoorHeldSQ
import Derived.Deep.DeepCutAuto
namespace Go.Proofs.YtkejoknphnkhnaaDoor
open Go.RowKit

set_option maxRecDepth 100000 in
set_option maxHeartbeats 8000000 in
theorem joins_any (v : Value) (lv : List (Ln × Value)) (W : World) (hr : LR W v lv) (hc : CesOf W lv) (hn : (lv.length : Int) ≤ 9223372036854775807)
    (hl : ∀ e ∈ lv, (e.1.cs.length : Int) ≤ 9223372036854775807 ∧ ∀ c ∈ e.1.cs, (c.tx.size : Int) ≤ 9223372036854775807) (hT : Tab W) (hW : TabW W) :
    Calls Tryd.prog 4 #[v] W fun e w' => e = .returned (.bool true) ∧ Below W.heap.size W w' := by
  have hfew := few8_any v lv W hr hc hn hl
  obtain ⟨A0, c0, rfl⟩ := hr.spell
  obtain ⟨n0, hn0⟩ : ∃ n0, lv.length = n0 := ⟨_, rfl⟩
  rw [hn0] at hfew ⊢
  have HF := hid hfew
  have HT := hid hT
  have HW := hid hW
  clear hfew hr hc hn hl hT hW hn0
  go_enter Tryd.func4, Tryd.ntmps4
  go_wp2_with fail
  with_reducible refine HF.out.mono ?_
  rintro e w1 ⟨v1, lv1, rfl, hm1, hl1, hc1, hb1⟩
  dsimp only
  have hfl := few_fl hm1 hl1 hc1
  have hmay := hfl.may
  obtain ⟨A1, c1, rfl⟩ := hl1.spell
  obtain ⟨n, hn1⟩ : ∃ n, lv1.length = n := ⟨_, rfl⟩
  rw [hn1] at hfl ⊢
  obtain ⟨KB, hKB⟩ : ∃ KB, keptB lv1 = KB := ⟨_, rfl⟩
  have hT1 := HT.out.below hb1
  have hW1 := HW.out.below hb1
  have hj := join_out _ lv1 w1 hfl hT1 hW1
  rw [hKB] at hj hmay
  have HKB := hid hKB
  have FL := hid hfl
  have HB := hid hb1
  have HM := hid hmay
  have HJ := hid hj
  clear HF hm1 hl1 hc1 hb1 hfl hmay hn1 hKB hT1 hW1 hj
  go_wp2_with fail
  with_reducible refine HJ.out.mono ?_
  rintro e w2 ⟨jA, jk, jc, jn, rfl, hb2, hj⟩
  dsimp only
  have hs := letters_out _ lv1 w2 (FL.out.below hb2) (HT.out.below (HB.out.trans (hb2.mono HB.out.size))) (HW.out.below (HB.out.trans (hb2.mono HB.out.size)))
  rw [HKB.out] at hs
  have HS := hid hs
  have JJ := hid hj
  have HB2 := hid hb2
  clear hs hj hb2 HJ
  go_wp2_with fail
  with_reducible refine HS.out.mono ?_
  rintro e w3 ⟨sA, sk, sc, sn, rfl, hb3, hs⟩
  dsimp only
  have hfl3 := (FL.out.below HB2.out).below hb3
  have hmy := rMay_any _ lv1 w3 hfl3.lr hfl3.ces hfl3.sm
  rw [HM.out] at hmy
  have HMY := hid hmy
  have SS := hid hs
  have HB3 := hid hb3
  have FL3 := hid hfl3
  clear hs hb3 HS hmy hfl3
  go_upto_region 4 with fail
  cases KB
  · go_wp2_with fail
    with_reducible refine HMY.out.mono ?_
    rintro e w4 ⟨rfl, hb4⟩
    dsimp only
    rcases JJ.out with ⟨h, _⟩ | ⟨_, rfl, hjv⟩
    · cases h
    rcases SS.out with ⟨h, _⟩ | ⟨_, rfl, hsv⟩
    · cases h
    cases hjv
    cases hsv
    have hB4 := ((HB.out.trans (HB2.out.mono HB.out.size)).trans (HB3.out.mono (Nat.le_trans HB.out.size HB2.out.size))).trans (hb4.mono (Nat.le_trans (Nat.le_trans HB.out.size HB2.out.size) HB3.out.size))
    have hal := flAlive w4 (HT.out.below hB4) (HW.out.below hB4)
    have HAL := hid hal
    have HB4 := hid hB4
    clear hal hB4 hb4 HMY JJ SS
    go_wp2_with fail
    with_reducible refine HAL.out.mono ?_
    rintro e w5 ⟨rfl, hb5⟩
    dsimp only
    have HB5 := hid (HB4.out.trans (hb5.mono HB4.out.size))
    clear HAL hb5
    go_wp2
    go_ret
    exact ⟨rfl, HB5.out⟩
  · go_wp2_with fail
    with_reducible refine HMY.out.mono ?_
    rintro e w4 ⟨rfl, hb4⟩
    dsimp only
    rcases JJ.out with ⟨_, rfl, rj, hj1, hj2, hj3⟩ | ⟨h, _⟩
    rotate_left
    · cases h
    rcases SS.out with ⟨_, rfl, hs1⟩ | ⟨h, _⟩
    rotate_left
    · cases h
    have hB3 := (HB.out.trans (HB2.out.mono HB.out.size)).trans (HB3.out.mono (Nat.le_trans HB.out.size HB2.out.size))
    have hB4 := hB3.trans (hb4.mono hB3.size)
    have hfl4 := FL3.out.below hb4
    have hjo := rJoin_any _ lv1 w4 hfl4.lr hfl4.ces hfl4.n hfl4.c
    obtain ⟨ro1, ro2, ro3⟩ := hfl4.rows HKB.out
    have j2 := (hj2.kept HB3.out).kept hb4
    have j3 := (hj3.ces.below HB3.out).below hb4
    have s1 := hs1.kept hb4
    obtain ⟨rs, hrs⟩ : ∃ rs, joinP (lv1.map Prod.fst) = rs := ⟨_, rfl⟩
    rw [hrs] at hjo hj1 ro1 ro2 ro3 s1
    have HJO := hid hjo
    have R1 := hid ro1
    have R2 := hid ro2
    have R3 := hid ro3
    have J1 := hid hj1
    have J2 := hid j2
    have J3 := hid j3
    have S1 := hid s1
    have HB4 := hid hB4
    clear hjo ro1 ro2 ro3 hj1 hj2 hj3 hs1 j2 j3 s1 hfl4 hB3 hB4 hb4 HMY JJ SS hrs FL3 FL HB2 HB3 HB HM HKB
    go_wp2_with fail
    with_reducible refine HJO.out.mono ?_
    rintro e w5 ⟨v5, rw5, rfl, hw1, hw2, hw3, hb5⟩
    dsimp only
    have j2 := J2.out.kept hb5
    have j3 := J3.out.below hb5
    have s1 := S1.out.kept hb5
    obtain ⟨m, hm⟩ : ∃ m, rs.length = m := ⟨_, rfl⟩
    have lj : m = jk := by symm; rw [j2.at.1, ← hm, ← J1.out, List.length_map]
    have ls : m = sk := by symm; rw [s1.at.1, List.length_map, hm]
    obtain ⟨wA, wc, hv5⟩ := hw2.spell
    have lw : rw5.length = m := by rw [← hm, ← hw1, List.length_map]
    rw [lw] at hv5
    subst hv5
    subst lj
    subst ls
    have hm200 : m ≤ 200 := by have := R3.out; omega
    have hB5 := HB4.out.trans (hb5.mono HB4.out.size)
    have hal := flAlive w5 (HT.out.below hB5) (HW.out.below hB5)
    have HAL := hid hal
    have HB5 := hid hB5
    have HM := hid hm
    have LW := hid lw
    have W1 := hid hw1
    have W2 := hid hw2
    have W3 := hid hw3.ces
    have J2 := hid j2
    have J3 := hid j3
    have S1 := hid s1
    clear hal hB5 hb5 hm lw hw1 hw2 hw3 j2 j3 s1 HJO
    go_upto_region 7 with fail
    go_wp2_with fail
    with_reducible refine HAL.out.mono ?_
    rintro e w6 ⟨rfl, hb6⟩
    dsimp only
    have j2 := J2.out.kept hb6
    have j3 := J3.out.below hb6
    have s1 := S1.out.kept hb6
    have q2 := W2.out.kept hb6
    have q3 := W3.out.below hb6
    have jc1 := j2.at.2
    have sc1 := s1.at.2
    have wc1 := q2.at.2
    have HB6 := hid (HB5.out.trans (hb6.mono HB5.out.size))
    have JC := hid jc1
    have SC := hid sc1
    have WC := hid wc1
    have J3 := hid j3
    have W3 := hid q3
    clear jc1 sc1 wc1 j2 j3 s1 q2 q3 hb6 J2 S1 W2 HAL
    go_wp2_with fail
    go_loopw [72] (fun i wr => ∃ k : Nat, k ≤ m ∧ i = .int .i64 k ∧ Below w6.heap.size w6 wr) (fun i _ => m - (intOf i).toNat)
    case atStart => exact ⟨0, by omega, rfl, Below.refl _ _⟩
    case round =>
      obtain ⟨wo, rfl⟩ : ∃ wo : World, wo = wr := ⟨_, rfl⟩
      obtain ⟨k, hk, rfl, hbr⟩ := hrel
      by_cases hlt : k < m
      · have hki : (k : Int) < m := by omega
        obtain ⟨r, hrk⟩ : ∃ r, rs[k]? = some r := ⟨_, List.getElem?_eq_getElem (by rw [HM.out]; exact hlt)⟩
        have hlj : rj.length = m := by rw [← HM.out, ← J1.out, List.length_map]
        obtain ⟨gj, oj, rfl, hgj, hj⟩ := JC.out (by intro e; rw [e] at hlj; simp at hlj; omega)
        obtain ⟨gw, ow, rfl, hgw, hw⟩ := WC.out (by intro e; have := LW.out; rw [e] at this; simp at this; omega)
        obtain ⟨gs, rfl, hgs, hs⟩ := SC.out (by intro e; have h := congrArg List.length e; rw [List.length_map, HM.out] at h; simp at h; omega)
        obtain ⟨⟨r1, vj⟩, xj⟩ : ∃ e, rj[k]? = some e := ⟨_, List.getElem?_eq_getElem (by rw [hlj]; exact hlt)⟩
        obtain ⟨⟨r2, vw⟩, xw⟩ : ∃ e, rw5[k]? = some e := ⟨_, List.getElem?_eq_getElem (by rw [LW.out]; exact hlt)⟩
        have ej : r = r1 := by
          symm
          have h := congrArg (fun l => l[k]?) J1.out
          simp only [List.getElem?_map, xj, hrk, Option.map_some] at h
          exact Option.some.inj h
        have ew : r = r2 := by
          symm
          have h := congrArg (fun l => l[k]?) W1.out
          simp only [List.getElem?_map, xw, hrk, Option.map_some] at h
          exact Option.some.inj h
        subst ej
        subst ew
        have pj := (hbr.cell (p := ⟨gj, oj + k, none⟩) hgj).trans (hj k _ xj)
        have pw := (hbr.cell (p := ⟨gw, ow + k, none⟩) hgw).trans (hw k _ xw)
        have ps := (hbr.cell (p := ⟨gs, k, none⟩) hgs).trans (hs k (sayP r) (by rw [List.getElem?_map, hrk]; rfl))
        have cj := (J3.out _ (List.mem_of_getElem? xj)).below hbr
        have cw := (W3.out _ (List.mem_of_getElem? xw)).below hbr
        simp only at pj pw cj cw
        have ro := R1.out r (List.mem_of_getElem? hrk)
        have rl : r.length ≤ 20000 := by
          have h1 : r.length ≤ sumL rs := by
            exact le_sumL (List.mem_of_getElem? hrk)
          have := R2.out
          omega
        have hgj' : gj < wo.heap.size := Nat.lt_of_lt_of_le hgj hbr.size
        have hgw' : gw < wo.heap.size := Nat.lt_of_lt_of_le hgw hbr.size
        have hgs' : gs < wo.heap.size := Nat.lt_of_lt_of_le hgs hbr.size
        obtain ⟨jB, jd, rfl⟩ := cj.spell
        obtain ⟨wB, wd, rfl⟩ := cw.spell
        obtain ⟨rn, hrn⟩ : ∃ rn, r.length = rn := ⟨_, rfl⟩
        rw [hrn] at pj pw cj cw
        obtain ⟨y, hy⟩ : ∃ y, sayP r = y := ⟨_, rfl⟩
        rw [hy] at ps
        have cS : Hid (∀ W', Below wo.heap.size wo W' → Calls Tryd.prog 28 #[.slice jB rn jd, .slice wB rn wd] W' fun e w' => e = .returned (.bool true) ∧ Below W'.heap.size W' w') := fun W' hb => lSame_any _ _ r W' (cj.below hb) (cw.below hb) (by omega)
        have cY : Hid (∀ W', Below wo.heap.size wo W' → Calls Tryd.prog 29 #[.slice wB rn wd] W' fun e w' => e = .returned (.string y) ∧ Below W'.heap.size W' w') := fun W' hb => by
          have h := rSay_any _ r W' (cw.below hb) ro.1 ro.2 (by omega)
          rw [hy] at h
          exact h
        have PJ := hid pj
        have PS := hid ps
        have HBR := hid hbr
        clear hj hw hs xj xw pj ps cj cw ro rl hbr hrn hy hrk hlj hgj hgw hgs
        go_upto_region 12 with fail
        have hS0 : Below wo.heap.size wo _ := (Below.refl wo.heap.size wo).drew
        clear pw
        refine wp_region_S (fun _ w' => Below wo.heap.size wo w') (by kernel_rfl) ?_
        refine takeC (i := 0) (v := ?v0) 77 rfl rfl (by kernel_rfl) (by kernel_rfl) (by kernel_rfl) (by kernel_rfl) (fun _ _ _ h => h) (Or.inl ⟨by rfl, fun w' hw' => ?hy0⟩) hS0 ?rest0
        case hy0 => go_simp; try with_reducible rfl
        try simp only [Act.put, List.setIfInBounds_toArray, List.set_cons_zero, List.set_cons_succ]
        refine takeC (i := 1) (v := ?v1) 78 rfl rfl (by kernel_rfl) (by kernel_rfl) (by kernel_rfl) (by kernel_rfl) (fun _ _ _ h => h) (Or.inl ⟨by rfl, fun w' hw' => ?hy1⟩) hS0 ?rest1
        case hy1 => go_simp; try with_reducible rfl
        try simp only [Act.put, List.setIfInBounds_toArray, List.set_cons_zero, List.set_cons_succ]
        refine takeC (i := 2) (v := ?v2) 79 rfl rfl (by kernel_rfl) (by kernel_rfl) (by kernel_rfl) (by kernel_rfl) (fun _ _ _ h => h) (Or.inl ⟨by rfl, fun w' hw' => ?hy2⟩) hS0 ?rest2
        case hy2 => go_simp; try with_reducible rfl
        try simp only [Act.put, List.setIfInBounds_toArray, List.set_cons_zero, List.set_cons_succ]
        refine takeC (i := 3) (v := ?v3) 80 rfl rfl (by kernel_rfl) (by kernel_rfl) (by kernel_rfl) (by kernel_rfl) (fun _ _ _ h => h) (Or.inl ⟨by rfl, fun w' hw' => ?hy3⟩) hS0 ?rest3
        case hy3 => have q := (hw'.cell (p := ⟨gj, oj + k, none⟩) hgj').trans PJ.out; have hgj2 := Nat.lt_of_lt_of_le hgj' hw'.size; go_simp; try with_reducible rfl
        try simp only [Act.put, List.setIfInBounds_toArray, List.set_cons_zero, List.set_cons_succ]
        refine takeC (i := 4) (v := ?v4) 81 rfl rfl (by kernel_rfl) (by kernel_rfl) (by kernel_rfl) (by kernel_rfl) (fun _ _ _ h => h) (Or.inl ⟨by rfl, fun w' hw' => ?hy4⟩) hS0 ?rest4
        case hy4 => go_simp; try with_reducible rfl
        try simp only [Act.put, List.setIfInBounds_toArray, List.set_cons_zero, List.set_cons_succ]
        refine oneS (k := 5) (by kernel_rfl) rfl (by rfl) (fun K hK => ?_)
        go_simp
        go_at_call 28
        refine (cS.out _ hS0).mono ?_
        rintro e w9 ⟨rfl, hb⟩
        dsimp only
        have hS1 := hS0.trans (hb.mono hS0.size)
        refine hK _ _ hS1 ?_
        clear hK K
        try simp only [Act.put, List.setIfInBounds_toArray, List.set_cons_zero, List.set_cons_succ]
        clear hS0 hb
        have hS0 := hS1
        clear hS1
        refine takeC (i := 6) (v := ?v6) 83 rfl rfl (by kernel_rfl) (by kernel_rfl) (by kernel_rfl) (by kernel_rfl) (fun _ _ _ h => h) (Or.inl ⟨by rfl, fun w' hw' => ?hy6⟩) hS0 ?rest6
        case hy6 => go_simp; try with_reducible rfl
        try simp only [Act.put, List.setIfInBounds_toArray, List.set_cons_zero, List.set_cons_succ]
        refine takeC (i := 7) (v := ?v7) 84 rfl rfl (by kernel_rfl) (by kernel_rfl) (by kernel_rfl) (by kernel_rfl) (fun _ _ _ h => h) (Or.inl ⟨by rfl, fun w' hw' => ?hy7⟩) hS0 ?rest7
        case hy7 => go_simp; try with_reducible rfl
        try simp only [Act.put, List.setIfInBounds_toArray, List.set_cons_zero, List.set_cons_succ]
        refine takeC (i := 8) (v := ?v8) 85 rfl rfl (by kernel_rfl) (by kernel_rfl) (by kernel_rfl) (by kernel_rfl) (fun _ _ _ h => h) (Or.inl ⟨by rfl, fun w' hw' => ?hy8⟩) hS0 ?rest8
        case hy8 => go_simp; try with_reducible rfl
        try simp only [Act.put, List.setIfInBounds_toArray, List.set_cons_zero, List.set_cons_succ]
        refine takeC (i := 9) (v := ?v9) 86 rfl rfl (by kernel_rfl) (by kernel_rfl) (by kernel_rfl) (by kernel_rfl) (fun _ _ _ h => h) (Or.inl ⟨by rfl, fun w' hw' => ?hy9⟩) hS0 ?rest9
        case hy9 => go_simp; try with_reducible rfl
        try simp only [Act.put, List.setIfInBounds_toArray, List.set_cons_zero, List.set_cons_succ]
        refine takeC (i := 10) (v := ?v10) 87 rfl rfl (by kernel_rfl) (by kernel_rfl) (by kernel_rfl) (by kernel_rfl) (fun _ _ _ h => h) (Or.inl ⟨by rfl, fun w' hw' => ?hy10⟩) hS0 ?rest10
        case hy10 => go_simp; try with_reducible rfl
        try simp only [Act.put, List.setIfInBounds_toArray, List.set_cons_zero, List.set_cons_succ]
        refine takeC (i := 11) (v := ?v11) 88 rfl rfl (by kernel_rfl) (by kernel_rfl) (by kernel_rfl) (by kernel_rfl) (fun _ _ _ h => h) (Or.inl ⟨by rfl, fun w' hw' => ?hy11⟩) hS0 ?rest11
        case hy11 => have q := (hw'.cell (p := ⟨gs, k, none⟩) hgs').trans PS.out; have hgs2 := Nat.lt_of_lt_of_le hgs' hw'.size; go_simp; try with_reducible rfl
        try simp only [Act.put, List.setIfInBounds_toArray, List.set_cons_zero, List.set_cons_succ]
        refine takeC (i := 12) (v := ?v12) 89 rfl rfl (by kernel_rfl) (by kernel_rfl) (by kernel_rfl) (by kernel_rfl) (fun _ _ _ h => h) (Or.inl ⟨by rfl, fun w' hw' => ?hy12⟩) hS0 ?rest12
        case hy12 => go_simp; try with_reducible rfl
        try simp only [Act.put, List.setIfInBounds_toArray, List.set_cons_zero, List.set_cons_succ]
        refine oneS (k := 13) (by kernel_rfl) rfl (by rfl) (fun K hK => ?_)
        go_simp
        go_at_call 29
        refine (cY.out _ hS0).mono ?_
        rintro e w9 ⟨rfl, hb⟩
        dsimp only
        have hS1 := hS0.trans (hb.mono hS0.size)
        refine hK _ _ hS1 ?_
        clear hK K
        try simp only [Act.put, List.setIfInBounds_toArray, List.set_cons_zero, List.set_cons_succ]
        clear hS0 hb
        have hS0 := hS1
        clear hS1
        refine takeC (i := 14) (v := ?v14) 91 rfl rfl (by kernel_rfl) (by kernel_rfl) (by kernel_rfl) (by kernel_rfl) (fun _ _ _ h => h) (Or.inl ⟨by rfl, fun w' hw' => ?hy14⟩) hS0 ?rest14
        case hy14 => go_simp; try with_reducible rfl
        try simp only [Act.put, List.setIfInBounds_toArray, List.set_cons_zero, List.set_cons_succ]
        refine takeC (i := 15) (v := ?v15) 92 rfl rfl (by kernel_rfl) (by kernel_rfl) (by kernel_rfl) (by kernel_rfl) (fun _ _ _ h => h) (Or.inl ⟨by rfl, fun w' hw' => ?hy15⟩) hS0 ?rest15
        case hy15 => go_simp; try with_reducible rfl
        try simp only [Act.put, List.setIfInBounds_toArray, List.set_cons_zero, List.set_cons_succ]
        refine doneS (by kernel_rfl) ?_ _
        have HBZ := hid (HBR.out.trans (hS0.mono HBR.out.size))
        clear hS0
        go_wp2_with fail
        go_roundw
        case rel => exact ⟨k + 1, by omega, by go_num, HBZ.out⟩
        case measure => simp [intOf]; omega
      · have hkm : k = m := by omega
        subst hkm
        have HBZ := hid (HB6.out.trans (hbr.mono HB6.out.size))
        clear hbr
        go_wp2
        go_ret
        exact ⟨rfl, HBZ.out⟩
end Go.Proofs.YtkejoknphnkhnaaDoor
