/- Layer 11, the reference: Same of two trees that are alike. Made by wip/gen/presetQ.py. -/
import Derived.Test.YtglfolbimafcaaaTreeYQ
import Derived.Test.YtglfolbimafcaaaHeldSQ
namespace Go.Proofs.Ytglfolbimafcaaa
open Go.RowKit

set_option maxRecDepth 100000 in
set_option maxHeartbeats 8000000 in
theorem same_yes : ∀ (d : Nat) (t : Tr) (kA kB : Option Addr) (km kc kd : Nat) (kk kp sa sb : Int) (W : World), cntT t ≤ d → d ≤ 1000 → t.kind = kk → t.pane = kp → TrAt W t (.slice kA km kc) → TrAt W t (.slice kB km kd) →
    Calls Try.prog 12 #[.agg #[.int .i64 kk, .int .i64 kp, .int .i64 sa, .slice kA km kc], .agg #[.int .i64 kk, .int .i64 kp, .int .i64 sb, .slice kB km kd]] W fun e w' => e = .returned (.bool true) ∧ Below W.heap.size W w'
  | 0, t, _, _, _, _, _, _, _, _, _, _, h, _, _, _, _, _ => by have := cnt_pos t; omega
  | d + 1, t, kA, kB, km, kc, kd, kk, kp, sa, sb, W, hd, hd1, hkk, hkp, hta, htb => by
    have IH := same_yes d
    have hka := fun j k (hj : t.kids[j]? = some k) => hta.kid hj
    have hkb := fun j k (hj : t.kids[j]? = some k) => htb.kid hj
    obtain ⟨A', c', e', _⟩ := hta.spell
    cases e'
    obtain ⟨n, hn⟩ : ∃ n, t.kids.length = n := ⟨_, rfl⟩
    rw [hn] at hka hkb ⊢
    have HKA := hid hka
    have HKB := hid hkb
    have HN := hid hn
    have HD := hid (show cntL t.kids ≤ d by cases t; simp only [Tr.kids, cntT] at *; omega)
    have hni : (n : Int) ≤ 1000 := by have := len_cnt t.kids; have := HD.out; omega
    have hxa := (Box.new W 24 #[.int .i64 kk, .int .i64 kp, .int .i64 sa, .slice kA n kc]).alloc (.cells #[.int .i64 kk, .int .i64 kp, .int .i64 sb, .slice kB n kd] 24)
    have hxb := Box.new (W.alloc (.cells #[.int .i64 kk, .int .i64 kp, .int .i64 sa, .slice kA n kc] 24)) 24 #[.int .i64 kk, .int .i64 kp, .int .i64 sb, .slice kB n kd]
    rw [World.size_alloc] at hxb
    have hba := (below_alloc W (.cells #[.int .i64 kk, .int .i64 kp, .int .i64 sa, .slice kA n kc] 24)).alloc (by simp) (.cells #[.int .i64 kk, .int .i64 kp, .int .i64 sb, .slice kB n kd] 24)
    have HX2 := hid hxa
    have HX3 := hid hxb
    have HB := hid hba
    obtain ⟨⟨a0, a1, a2, a3⟩, _⟩ := hxa.four
    obtain ⟨⟨b0, b1, b2, b3⟩, _⟩ := hxb.four
    clear hka hkb hta htb hn hxa hxb hba hkk hkp hd
    go_enter Try.func12, Try.ntmps12
    go_upto_region 3 with fail
    obtain ⟨X, hX⟩ : ∃ X, (W.alloc (.cells #[.int .i64 kk, .int .i64 kp, .int .i64 sa, .slice kA n kc] 24)).alloc (.cells #[.int .i64 kk, .int .i64 kp, .int .i64 sb, .slice kB n kd] 24) = X := ⟨_, rfl⟩
    rw [hX] at HX2 HX3 HB a0 a1 a2 a3 b0 b1 b2 b3 ⊢
    clear hX
    go_wp2_with fail
    clear a0 a1 a2 a3 b0 b1 b2 b3
    go_loopw [30] (fun i wr => ∃ j : Nat, i = .int .i64 j ∧ j ≤ n ∧ Below X.heap.size X wr) (fun i _ => n - (intOf i).toNat)
    case atStart => exact ⟨0, rfl, Nat.zero_le _, Below.refl _ _⟩
    case round =>
      obtain ⟨j, rfl, hjn, hbr⟩ := hrel
      by_cases hj : j < n
      · have hji : (j : Int) < n := by omega
        have hlt : j < t.kids.length := by rw [HN.out]; exact hj
        obtain ⟨kd1, hkd⟩ : ∃ kd1, t.kids[j]? = some kd1 := ⟨_, List.getElem?_eq_getElem hlt⟩
        obtain ⟨ga, oa, ca, ea, hcapa, hna, _⟩ := HKA.out j kd1 hkd
        cases ea
        obtain ⟨gb, ob, cb, eb, hcapb, hnb, _⟩ := HKB.out j kd1 hkd
        cases eb
        have hbW := HB.out.trans (hbr.mono HB.out.size)
        obtain ⟨va, c0, c1, c2, c3, hva⟩ := hna.below hbW
        obtain ⟨vb, d0, d1, d2, d3, hvb⟩ := hnb.below hbW
        obtain ⟨vA, vc, rfl, _⟩ := hva.spell
        obtain ⟨vB, vd, rfl, _⟩ := hvb.spell
        obtain ⟨vm, hvm⟩ : ∃ vm, kd1.kids.length = vm := ⟨_, rfl⟩
        rw [hvm] at c3 d3 hva hvb
        have hcd : cntT kd1 ≤ d := by
          have h1 := cnt_drop t.kids j
          have hdr : t.kids.drop j = kd1 :: t.kids.drop (j + 1) := by
            rw [List.getElem?_eq_getElem hlt] at hkd
            cases hkd
            exact List.drop_eq_getElem_cons hlt
          rw [hdr, cntL] at h1
          have := HD.out
          omega
        obtain ⟨xk, hxk⟩ : ∃ xk, kd1.kind = xk := ⟨_, rfl⟩
        obtain ⟨xp, hxp⟩ : ∃ xp, kd1.pane = xp := ⟨_, rfl⟩
        obtain ⟨xs, hxs⟩ : ∃ xs, kd1.size = xs := ⟨_, rfl⟩
        rw [hxk] at c0 d0
        rw [hxp] at c1 d1
        rw [hxs] at c2 d2
        have HIH := hid (fun (Y : World) (hb : Below wr.heap.size wr Y) => IH kd1 vA vB vm vc vd xk xp xs xs Y hcd (by omega) hxk hxp (hva.below hb) (hvb.below hb))
        have hga := t_cell_lt c0
        have hgb := t_cell_lt d0
        have hx2 := HX2.out.below hbr HX2.out.lt
        have hne : (xs != xs) = false := by simp
        clear hna hnb hva hvb hkd hlt hxk hxp hxs hvm hcd
        go_upto_region 6 with fail
        have hS0 : Below wr.heap.size wr wr.drew := below_drew wr 1
        refine wp_region_S (fun _ w' => Below wr.heap.size wr w') (by kernel_rfl) ?_
        refine takeC (i := 0) (v := ?v0s) 33 rfl rfl (by kernel_rfl) (by kernel_rfl) (by kernel_rfl) (by kernel_rfl) (fun _ _ _ h => h) (Or.inl ⟨by rfl, fun w' hw' => ?hy0s⟩) hS0 ?rest0s
        case hy0s => go_simp; try with_reducible rfl
        try simp only [Act.put, List.setIfInBounds_toArray, List.set_cons_zero, List.set_cons_succ]
        refine takeC (i := 1) (v := ?v1s) 34 rfl rfl (by kernel_rfl) (by kernel_rfl) (by kernel_rfl) (by kernel_rfl) (fun _ _ _ h => h) (Or.inl ⟨by rfl, fun w' hw' => ?hy1s⟩) hS0 ?rest1s
        case hy1s => have hy2 := HX2.out.below (hbr.trans (hw'.mono hbr.size)) HX2.out.lt; have e3 := hy2.cell 3; go_simp; try with_reducible rfl
        try simp only [Act.put, List.setIfInBounds_toArray, List.set_cons_zero, List.set_cons_succ]
        refine takeC (i := 2) (v := ?v2s) 35 rfl rfl (by kernel_rfl) (by kernel_rfl) (by kernel_rfl) (by kernel_rfl) (fun _ _ _ h => h) (Or.inl ⟨by rfl, fun w' hw' => ?hy2s⟩) hS0 ?rest2s
        case hy2s => go_simp; try with_reducible rfl
        try simp only [Act.put, List.setIfInBounds_toArray, List.set_cons_zero, List.set_cons_succ]
        refine takeC (i := 3) (v := ?v3s) 36 rfl rfl (by kernel_rfl) (by kernel_rfl) (by kernel_rfl) (by kernel_rfl) (fun _ _ _ h => h) (Or.inl ⟨by rfl, fun w' hw' => ?hy3s⟩) hS0 ?rest3s
        case hy3s => go_simp; try with_reducible rfl
        try simp only [Act.put, List.setIfInBounds_toArray, List.set_cons_zero, List.set_cons_succ]
        refine takeC (i := 4) (v := ?v4s) 37 rfl rfl (by kernel_rfl) (by kernel_rfl) (by kernel_rfl) (by kernel_rfl) (fun _ _ _ h => h) (Or.inl ⟨by rfl, fun w' hw' => ?hy4s⟩) hS0 ?rest4s
        case hy4s => go_simp; try with_reducible rfl
        try simp only [Act.put, List.setIfInBounds_toArray, List.set_cons_zero, List.set_cons_succ]
        refine takeC (i := 5) (v := ?v5s) 38 rfl rfl (by kernel_rfl) (by kernel_rfl) (by kernel_rfl) (by kernel_rfl) (fun _ _ _ h => h) (Or.inl ⟨by rfl, fun w' hw' => ?hy5s⟩) hS0 ?rest5s
        case hy5s => have p2 := (hw'.cell (p := ⟨ga, oa + j * 4 + 2, none⟩) hga).trans c2; go_simp; try with_reducible rfl
        try simp only [Act.put, List.setIfInBounds_toArray, List.set_cons_zero, List.set_cons_succ]
        refine takeC (i := 6) (v := ?v6s) 39 rfl rfl (by kernel_rfl) (by kernel_rfl) (by kernel_rfl) (by kernel_rfl) (fun _ _ _ h => h) (Or.inl ⟨by rfl, fun w' hw' => ?hy6s⟩) hS0 ?rest6s
        case hy6s => go_simp; try with_reducible rfl
        try simp only [Act.put, List.setIfInBounds_toArray, List.set_cons_zero, List.set_cons_succ]
        refine takeC (i := 7) (v := ?v7s) 40 rfl rfl (by kernel_rfl) (by kernel_rfl) (by kernel_rfl) (by kernel_rfl) (fun _ _ _ h => h) (Or.inl ⟨by rfl, fun w' hw' => ?hy7s⟩) hS0 ?rest7s
        case hy7s => have hy3 := HX3.out.below (hbr.trans (hw'.mono hbr.size)) HX3.out.lt; have e3 := hy3.cell 3; go_simp; try with_reducible rfl
        try simp only [Act.put, List.setIfInBounds_toArray, List.set_cons_zero, List.set_cons_succ]
        refine takeC (i := 8) (v := ?v8s) 41 rfl rfl (by kernel_rfl) (by kernel_rfl) (by kernel_rfl) (by kernel_rfl) (fun _ _ _ h => h) (Or.inl ⟨by rfl, fun w' hw' => ?hy8s⟩) hS0 ?rest8s
        case hy8s => go_simp; try with_reducible rfl
        try simp only [Act.put, List.setIfInBounds_toArray, List.set_cons_zero, List.set_cons_succ]
        refine takeC (i := 9) (v := ?v9s) 42 rfl rfl (by kernel_rfl) (by kernel_rfl) (by kernel_rfl) (by kernel_rfl) (fun _ _ _ h => h) (Or.inl ⟨by rfl, fun w' hw' => ?hy9s⟩) hS0 ?rest9s
        case hy9s => go_simp; try with_reducible rfl
        try simp only [Act.put, List.setIfInBounds_toArray, List.set_cons_zero, List.set_cons_succ]
        refine takeC (i := 10) (v := ?v10s) 43 rfl rfl (by kernel_rfl) (by kernel_rfl) (by kernel_rfl) (by kernel_rfl) (fun _ _ _ h => h) (Or.inl ⟨by rfl, fun w' hw' => ?hy10s⟩) hS0 ?rest10s
        case hy10s => go_simp; try with_reducible rfl
        try simp only [Act.put, List.setIfInBounds_toArray, List.set_cons_zero, List.set_cons_succ]
        refine takeC (i := 11) (v := ?v11s) 44 rfl rfl (by kernel_rfl) (by kernel_rfl) (by kernel_rfl) (by kernel_rfl) (fun _ _ _ h => h) (Or.inl ⟨by rfl, fun w' hw' => ?hy11s⟩) hS0 ?rest11s
        case hy11s => have q2 := (hw'.cell (p := ⟨gb, ob + j * 4 + 2, none⟩) hgb).trans d2; go_simp; try with_reducible rfl
        try simp only [Act.put, List.setIfInBounds_toArray, List.set_cons_zero, List.set_cons_succ]
        refine takeC (i := 12) (v := ?v12s) 45 rfl rfl (by kernel_rfl) (by kernel_rfl) (by kernel_rfl) (by kernel_rfl) (fun _ _ _ h => h) (Or.inl ⟨by rfl, fun w' hw' => ?hy12s⟩) hS0 ?rest12s
        case hy12s => go_simp; try with_reducible rfl
        try simp only [Act.put, List.setIfInBounds_toArray, List.set_cons_zero, List.set_cons_succ]
        refine takeC (i := 13) (v := ?v13s) 46 rfl rfl (by kernel_rfl) (by kernel_rfl) (by kernel_rfl) (by kernel_rfl) (fun _ _ _ h => h) (Or.inl ⟨by rfl, fun w' hw' => ?hy13s⟩) hS0 ?rest13s
        case hy13s => go_simp; try with_reducible rfl
        try simp only [Act.put, List.setIfInBounds_toArray, List.set_cons_zero, List.set_cons_succ]
        refine takeC (i := 14) (v := ?v14s) 47 rfl rfl (by kernel_rfl) (by kernel_rfl) (by kernel_rfl) (by kernel_rfl) (fun _ _ _ h => h) (Or.inl ⟨by rfl, fun w' hw' => ?hy14s⟩) hS0 ?rest14s
        case hy14s => go_simp; try with_reducible rfl
        try simp only [Act.put, List.setIfInBounds_toArray, List.set_cons_zero, List.set_cons_succ]
        refine takeC (i := 15) (v := ?v15s) 48 rfl rfl (by kernel_rfl) (by kernel_rfl) (by kernel_rfl) (by kernel_rfl) (fun _ _ _ h => h) (Or.inl ⟨by rfl, fun w' hw' => ?hy15s⟩) hS0 ?rest15s
        case hy15s => have hy2 := HX2.out.below (hbr.trans (hw'.mono hbr.size)) HX2.out.lt; have e3 := hy2.cell 3; go_simp; try with_reducible rfl
        try simp only [Act.put, List.setIfInBounds_toArray, List.set_cons_zero, List.set_cons_succ]
        refine takeC (i := 16) (v := ?v16s) 49 rfl rfl (by kernel_rfl) (by kernel_rfl) (by kernel_rfl) (by kernel_rfl) (fun _ _ _ h => h) (Or.inl ⟨by rfl, fun w' hw' => ?hy16s⟩) hS0 ?rest16s
        case hy16s => go_simp; try with_reducible rfl
        try simp only [Act.put, List.setIfInBounds_toArray, List.set_cons_zero, List.set_cons_succ]
        refine takeC (i := 17) (v := ?v17s) 50 rfl rfl (by kernel_rfl) (by kernel_rfl) (by kernel_rfl) (by kernel_rfl) (fun _ _ _ h => h) (Or.inl ⟨by rfl, fun w' hw' => ?hy17s⟩) hS0 ?rest17s
        case hy17s => go_simp; try with_reducible rfl
        try simp only [Act.put, List.setIfInBounds_toArray, List.set_cons_zero, List.set_cons_succ]
        refine takeC (i := 18) (v := ?v18s) 51 rfl rfl (by kernel_rfl) (by kernel_rfl) (by kernel_rfl) (by kernel_rfl) (fun _ _ _ h => h) (Or.inl ⟨by rfl, fun w' hw' => ?hy18s⟩) hS0 ?rest18s
        case hy18s => have p0 := (hw'.cell (p := ⟨ga, oa + j * 4, none⟩) hga).trans c0; have p1 := (hw'.cell (p := ⟨ga, oa + j * 4 + 1, none⟩) hga).trans c1; have p2 := (hw'.cell (p := ⟨ga, oa + j * 4 + 2, none⟩) hga).trans c2; have p3 := (hw'.cell (p := ⟨ga, oa + j * 4 + 3, none⟩) hga).trans c3; go_simp; try with_reducible rfl
        try simp only [Act.put, List.setIfInBounds_toArray, List.set_cons_zero, List.set_cons_succ]
        refine takeC (i := 19) (v := ?v19s) 52 rfl rfl (by kernel_rfl) (by kernel_rfl) (by kernel_rfl) (by kernel_rfl) (fun _ _ _ h => h) (Or.inl ⟨by rfl, fun w' hw' => ?hy19s⟩) hS0 ?rest19s
        case hy19s => go_simp; try with_reducible rfl
        try simp only [Act.put, List.setIfInBounds_toArray, List.set_cons_zero, List.set_cons_succ]
        refine takeC (i := 20) (v := ?v20s) 53 rfl rfl (by kernel_rfl) (by kernel_rfl) (by kernel_rfl) (by kernel_rfl) (fun _ _ _ h => h) (Or.inl ⟨by rfl, fun w' hw' => ?hy20s⟩) hS0 ?rest20s
        case hy20s => have hy3 := HX3.out.below (hbr.trans (hw'.mono hbr.size)) HX3.out.lt; have e3 := hy3.cell 3; go_simp; try with_reducible rfl
        try simp only [Act.put, List.setIfInBounds_toArray, List.set_cons_zero, List.set_cons_succ]
        refine takeC (i := 21) (v := ?v21s) 54 rfl rfl (by kernel_rfl) (by kernel_rfl) (by kernel_rfl) (by kernel_rfl) (fun _ _ _ h => h) (Or.inl ⟨by rfl, fun w' hw' => ?hy21s⟩) hS0 ?rest21s
        case hy21s => go_simp; try with_reducible rfl
        try simp only [Act.put, List.setIfInBounds_toArray, List.set_cons_zero, List.set_cons_succ]
        refine takeC (i := 22) (v := ?v22s) 55 rfl rfl (by kernel_rfl) (by kernel_rfl) (by kernel_rfl) (by kernel_rfl) (fun _ _ _ h => h) (Or.inl ⟨by rfl, fun w' hw' => ?hy22s⟩) hS0 ?rest22s
        case hy22s => go_simp; try with_reducible rfl
        try simp only [Act.put, List.setIfInBounds_toArray, List.set_cons_zero, List.set_cons_succ]
        refine takeC (i := 23) (v := ?v23s) 56 rfl rfl (by kernel_rfl) (by kernel_rfl) (by kernel_rfl) (by kernel_rfl) (fun _ _ _ h => h) (Or.inl ⟨by rfl, fun w' hw' => ?hy23s⟩) hS0 ?rest23s
        case hy23s => have q0 := (hw'.cell (p := ⟨gb, ob + j * 4, none⟩) hgb).trans d0; have q1 := (hw'.cell (p := ⟨gb, ob + j * 4 + 1, none⟩) hgb).trans d1; have q2 := (hw'.cell (p := ⟨gb, ob + j * 4 + 2, none⟩) hgb).trans d2; have q3 := (hw'.cell (p := ⟨gb, ob + j * 4 + 3, none⟩) hgb).trans d3; go_simp; try with_reducible rfl
        try simp only [Act.put, List.setIfInBounds_toArray, List.set_cons_zero, List.set_cons_succ]
        refine oneS (k := 24) (by kernel_rfl) rfl (by rfl) (fun K hK => ?_)
        go_simp
        go_at_call 12
        refine (HIH.out _ (hS0)).mono ?_
        rintro e w9 ⟨rfl, hb⟩
        dsimp only
        have hS1 := hS0.trans (hb.mono hS0.size)
        refine hK _ _ hS1 ?_
        clear hK K
        try simp only [Act.put, List.setIfInBounds_toArray, List.set_cons_zero, List.set_cons_succ]
        clear hS0 hb
        have hS0 := hS1
        clear hS1
        refine takeC (i := 25) (v := ?v25s) 58 rfl rfl (by kernel_rfl) (by kernel_rfl) (by kernel_rfl) (by kernel_rfl) (fun _ _ _ h => h) (Or.inl ⟨by rfl, fun w' hw' => ?hy25s⟩) hS0 ?rest25s
        case hy25s => go_simp; try with_reducible rfl
        try simp only [Act.put, List.setIfInBounds_toArray, List.set_cons_zero, List.set_cons_succ]
        refine takeC (i := 26) (v := ?v26s) 59 rfl rfl (by kernel_rfl) (by kernel_rfl) (by kernel_rfl) (by kernel_rfl) (fun _ _ _ h => h) (Or.inl ⟨by rfl, fun w' hw' => ?hy26s⟩) hS0 ?rest26s
        case hy26s => go_simp; try with_reducible rfl
        try simp only [Act.put, List.setIfInBounds_toArray, List.set_cons_zero, List.set_cons_succ]
        refine doneS (by kernel_rfl) ?_ _
        go_wp2
        go_roundw
        case rel => exact ⟨j + 1, by go_num, by omega, hbr.trans (hS0.mono hbr.size)⟩
        case measure => simp [intOf]; omega
      · have hjn' : j = n := by omega
        subst hjn'
        have HBR := hid (HB.out.trans (hbr.mono HB.out.size))
        clear hbr hj
        go_wp2
        go_ret
        exact ⟨rfl, HBR.out⟩
end Go.Proofs.Ytglfolbimafcaaa
