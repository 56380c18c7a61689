/- The law BackParts, walked. Made by wip/gen/backParts.py. -/
import Derived.Test.YtdpicbfpjnampaaDoorBackLQ
import Derived.Test.YtdpicbfpjnampaaDoorHeldSQ
import Derived.Lib.QuietBelow
import Derived.IntWalk
import Derived.Deep.RegionWith
namespace Go.Proofs.YtdpicbfpjnampaaDoor
open Go.RowKit

theorem backB_last {mx : Int} {M : Nat} {a b : List (Ln × Value)} (hm : mx = M) (h1 : backB mx a = true) (h2 : keptB b = true) : backB mx (lastN M (a ++ b)) = true := by
  subst hm
  rw [backB_iff] at *
  refine ⟨h1.1, by rw [lastN_length]; omega, keptB_sub (by rw [keptB_append, h1.2.2, h2]; rfl) (fun e he => lastN_mem he)⟩
theorem tmod_bd (a : Int) (n : Nat) : -((n : Int) + 1) < a.tmod ((n : Int) + 1) ∧ a.tmod ((n : Int) + 1) < (n : Int) + 1 := by
  have h := Int.natAbs_tmod a ((n : Int) + 1)
  have h2 : ((n : Int) + 1).natAbs = n + 1 := by omega
  have h3 := Nat.mod_lt a.natAbs (show 0 < n + 1 by omega)
  rw [h2] at h
  omega
theorem wrap64_i64 (n : Int) : IntKind.i64.wrap n = wrap64 n := by unfold wrap64; rw [IntKind.wrap_i64]
set_option maxRecDepth 100000 in
set_option maxHeartbeats 3000000 in
theorem bparts_any (mx num : Int) (v u : Value) (lv ll : List (Ln × Value)) (W : World) (hr : LR W v lv) (hc : CesOf W lv) (hn : (lv.length : Int) ≤ 9223372036854775807) (hl : ∀ e ∈ lv, (e.1.cs.length : Int) ≤ 9223372036854775807 ∧ ∀ c ∈ e.1.cs, (c.tx.size : Int) ≤ 9223372036854775807)
    (hr2 : LR W u ll) (hc2 : CesOf W ll) (hn2 : (ll.length : Int) ≤ 9223372036854775807) (hl2 : ∀ e ∈ ll, (e.1.cs.length : Int) ≤ 9223372036854775807 ∧ ∀ c ∈ e.1.cs, (c.tx.size : Int) ≤ 9223372036854775807) (hq : -9223372036854775808 ≤ num ∧ num ≤ 9223372036854775807) (hT : Tab W) (hW : TabW W) :
    Calls Tryd.prog 7 #[.agg #[.int .i64 mx, v], u, .int .i64 num] W fun e w' => e = .returned (.bool true) ∧ Below W.heap.size W w' := by
  have hF1 := fun W' (hb : Below W.heap.size W W') => lcut_any mx v lv W' (hr.below hb) (hc.below hb) hn hl
  have hF2 : ∀ W', Below W.heap.size W W' → Calls Tryd.prog 34 #[u, .int .i64 50] W' (LFew W' (takeN (ll.map Prod.fst) 50)) := fun W' (hb : Below W.heap.size W W') => lfew_any u ll 50 W' (hr2.below hb) (hc2.below hb) hn2 hl2 (by omega)
  obtain ⟨A, c, rfl⟩ := hr.spell
  obtain ⟨B, d, rfl⟩ := hr2.spell
  obtain ⟨n, hnn⟩ : ∃ n, lv.length = n := ⟨_, rfl⟩
  obtain ⟨m, hmm⟩ : ∃ m, ll.length = m := ⟨_, rfl⟩
  rw [hnn] at hF1 ⊢
  rw [hmm] at hF2 ⊢
  have h0 : Below W.heap.size W (W.alloc (.cells #[.int .i64 mx, .slice A n c] 61)) := below_alloc _ _
  have b0 := (Bxs.nil W).alloc 61 #[.int .i64 mx, .slice A n c]
  simp only [List.nil_append] at b0
  have HF1 := hid hF1
  have HF2 := hid hF2
  have HT := hid hT
  have HW := hid hW
  have HQ := hid hq
  have HH := hid h0
  have BX := hid b0
  clear hF1 hF2 hT hW hq h0 b0 hr hr2 hc hc2 hn hn2 hl hl2 hnn hmm
  go_enter Tryd.func7, Tryd.ntmps7
  go_upto_region 1 with fail
  generalize (W.alloc (.cells #[.int .i64 mx, .slice A n c] 61)) = w0 at *
  obtain ⟨⟨k0_0, k0_1⟩, f0_0, f0_1⟩ := (BX.out.get 0 rfl).two
  have hcall := HF1.out w0 HH.out
  have HCALL := hid hcall
  clear hcall
  go_wp2_with fail
  with_reducible refine HCALL.out.mono ?_
  rintro e w1 ⟨v1, lv1, rfl, m1, l1, c1, hb⟩
  clear HCALL
  obtain ⟨A1, a1, rfl⟩ := l1.row.spell
  obtain ⟨n1, hn1⟩ : ∃ n1, lv1.length = n1 := ⟨_, rfl⟩
  rw [hn1] at l1 ⊢
  have HN1 := hid hn1
  have M1 := hid m1
  have hbase : W.heap.size ≤ w0.heap.size := HH.out.size
  have l1 := l1.mono hbase
  have c1 : ∀ x ∈ lv1, CSl w1 W.heap.size x.2 x.1.cs := fun x hx => (c1 x hx).mono hbase
  have S1 := hid l1
  have T1 := hid c1
  clear l1 c1 m1 hn1 hbase
  dsimp only
  clear k0_0 k0_1 f0_0 f0_1
  have HH2 := hid (HH.out.trans (hb.mono HH.out.size))
  have BX2 := hid (BX.out.below hb)
  clear HH BX hb
  have HH := hid HH2.out
  have BX := hid BX2.out
  clear HH2 BX2
  obtain ⟨⟨k0_0, k0_1⟩, f0_0, f0_1⟩ := (BX.out.get 0 rfl).two
  have hcall := HF2.out w1 HH.out
  have HCALL := hid hcall
  clear hcall
  go_wp2_with fail
  with_reducible refine HCALL.out.mono ?_
  rintro e w2 ⟨v2, ll1, rfl, m2, l2, c2, hb⟩
  clear HCALL
  obtain ⟨A2, a2, rfl⟩ := l2.row.spell
  obtain ⟨n2, hn2⟩ : ∃ n2, ll1.length = n2 := ⟨_, rfl⟩
  rw [hn2] at l2 ⊢
  have HN2 := hid hn2
  have M2 := hid m2
  have hbase : W.heap.size ≤ w1.heap.size := HH.out.size
  have l2 := l2.mono hbase
  have c2 : ∀ x ∈ ll1, CSl w2 W.heap.size x.2 x.1.cs := fun x hx => (c2 x hx).mono hbase
  have S2 := hid l2
  have T2 := hid c2
  have l1 := hid (S1.out.below hb (Nat.le_refl _))
  have c1 : Hid (∀ x ∈ lv1, CSl w2 W.heap.size x.2 x.1.cs) := fun x hx => (T1.out x hx).below hb (Nat.le_refl _)
  clear l2 c2 m2 hn2 hbase S1 T1
  dsimp only
  clear k0_0 k0_1 f0_0 f0_1
  have HH2 := hid (HH.out.trans (hb.mono HH.out.size))
  have BX2 := hid (BX.out.below hb)
  clear HH BX hb
  have HH := hid HH2.out
  have BX := hid BX2.out
  clear HH2 BX2
  obtain ⟨⟨k0_0, k0_1⟩, f0_0, f0_1⟩ := (BX.out.get 0 rfl).two
  clear k0_0 k0_1 f0_0 f0_1
  have q0 : Box w2 W.heap.size 61 #[.int .i64 mx, .slice A n c] := BX.out.get 0 rfl
  have hS1 := (l1.out.set q0 (by decide) (i := 0) (.int .i64 mx)).set (q0.set _) (by decide) (i := 1) (.slice A1 n1 a1)
  have hS2 := (S2.out.set q0 (by decide) (i := 0) (.int .i64 mx)).set (q0.set _) (by decide) (i := 1) (.slice A1 n1 a1)
  have hC1 : CesOf ((w2.setCell ⟨W.heap.size, 0, none⟩ (.int .i64 mx)).setCell ⟨W.heap.size, 1, none⟩ (.slice A1 n1 a1)) lv1 := fun x hx => (((c1.out x hx).set q0 (by decide) (i := 0) (.int .i64 mx)).set (q0.set _) (by decide) (i := 1) (.slice A1 n1 a1)).row
  have hC2 : CesOf ((w2.setCell ⟨W.heap.size, 0, none⟩ (.int .i64 mx)).setCell ⟨W.heap.size, 1, none⟩ (.slice A1 n1 a1)) ll1 := fun x hx => (((T2.out x hx).set q0 (by decide) (i := 0) (.int .i64 mx)).set (q0.set _) (by decide) (i := 1) (.slice A1 n1 a1)).row
  have hh : Below W.heap.size W ((w2.setCell ⟨W.heap.size, 0, none⟩ (.int .i64 mx)).setCell ⟨W.heap.size, 1, none⟩ (.slice A1 n1 a1)) := below_set (below_set HH.out (Nat.le_refl _) _) (Nat.le_refl _) _
  have bx : Bxs ((w2.setCell ⟨W.heap.size, 0, none⟩ (.int .i64 mx)).setCell ⟨W.heap.size, 1, none⟩ (.slice A1 n1 a1)) [(W.heap.size, 61, #[.int .i64 mx, .slice A1 n1 a1])] := by
    intro x hx
    simp only [List.mem_cons, List.mem_nil_iff, or_false] at hx
    subst hx
    exact (q0.set (i := 0) _).set (i := 1) _
  have L1 := hid hS1.row
  have L2 := hid hS2.row
  have C1 := hid hC1
  have C2 := hid hC2
  obtain ⟨⟨k0_0, k0_1⟩, f0_0, f0_1⟩ := q0.two
  have HH3 := hid hh
  have BX3 := hid bx
  clear hS1 hS2 hC1 hC2 hh bx l1 c1 S2 T2 q0 HH BX HF1 HF2
  go_upto_region 2 with fail
  generalize ((w2.setCell ⟨W.heap.size, 0, none⟩ (.int .i64 mx)).setCell ⟨W.heap.size, 1, none⟩ (.slice A1 n1 a1)) = w3 at *
  have HH := hid HH3.out
  have BX := hid BX3.out
  clear HH3 BX3 k0_0 k0_1 f0_0 f0_1
  have hs1 := takeN_sm M1.out (by omega)
  have hs2 := takeN_sm M2.out (by omega)
  rw [HN1.out] at hs1
  rw [HN2.out] at hs2
  have N1 := hid hs1.2
  have N2 := hid hs2.2
  have SM1 := hid hs1.1
  have SM2 := hid hs2.1
  clear hs1 hs2 M1 M2
  obtain ⟨⟨k0_0, k0_1⟩, f0_0, f0_1⟩ := (BX.out.get 0 rfl).two
  obtain ⟨R, hR⟩ : ∃ R, backB mx lv1 = R := ⟨_, rfl⟩
  obtain ⟨K, hK⟩ : ∃ K, keptB ll1 = K := ⟨_, rfl⟩
  have HRV := hid hR
  have HKV := hid hK
  clear hR hK
  have hbd := tmod_bd num n2
  have hn2b : (n2 : Int) ≤ 100 := by have := N2.out; omega
  obtain ⟨r, hr⟩ : ∃ r, num.tmod ((n2 : Int) + 1) = r := ⟨_, rfl⟩
  rw [hr] at hbd
  have hs0 : 0 ≤ r + (n2 : Int) + 1 := by omega
  obtain ⟨at_, hat⟩ : ∃ at_ : Nat, (r + (n2 : Int) + 1) % ((n2 : Int) + 1) = at_ := ⟨((r + (n2 : Int) + 1) % ((n2 : Int) + 1)).toNat, by have := Int.emod_nonneg (r + (n2 : Int) + 1) (show (n2 : Int) + 1 ≠ 0 by omega); omega⟩
  have hatb : at_ ≤ n2 := by have := Int.emod_lt_of_pos (r + (n2 : Int) + 1) (show 0 < (n2 : Int) + 1 by omega); omega
  have hnz : ¬ (n2 : Int) + 1 = 0 := by omega
  have HRR := hid hr
  have HAT := hid hat
  have HATB := hid hatb
  have hq2 := HQ.out
  clear hr hat hatb
  go_cut [2] (fun v wx => v = .int .i64 at_ ∧ w3 = wx)
  case first =>
    have w1 : wrap64 (r + (n2 : Int)) = r + (n2 : Int) := by rw [← wrap64_i64]; exact IntWalk.i64_in _ (by omega)
    have w2 : wrap64 (r + (n2 : Int) + 1) = r + (n2 : Int) + 1 := by rw [← wrap64_i64]; exact IntWalk.i64_in _ (by omega)
    have w3' : (r + (n2 : Int) + 1).tmod ((n2 : Int) + 1) = at_ := by rw [Int.tmod_eq_emod_of_nonneg hs0, HAT.out]
    have hval : (wrap64 (wrap64 (num.tmod ((n2 : Int) + 1) + (n2 : Int)) + 1)).tmod ((n2 : Int) + 1) = at_ := by rw [HRR.out, w1, w2, w3']
    have HVAL := hid hval
    clear w1 w2 w3' hval hbd hs0
    go_wp2_with fail
    go_meet
    exact ⟨by rw [HVAL.out], rfl⟩
  case rest =>
    obtain ⟨rfl, rfl⟩ := hcut
    clear hbd hs0 hnz hq2
    clear k0_0 k0_1 f0_0 f0_1
    obtain ⟨⟨k0_0, k0_1⟩, f0_0, f0_1⟩ := (BX.out.get 0 rfl).two
    have hcall := push_any mx _ _ lv1 ll1 w3 L1.out C1.out SM1.out L2.out C2.out SM2.out (HT.out.below HH.out) (HW.out.below HH.out)
    rw [HRV.out, HKV.out] at hcall
    have HCALL := hid hcall
    clear hcall
    go_wp2_with fail
    with_reducible refine HCALL.out.mono ?_
    rintro e w4 ⟨xc, xA, xk, xp, xn, rfl, hb, hx0⟩
    clear HCALL
    have hx : BXP w4 mx (R && K) (lastN mx.toNat (lv1 ++ ll1)) xc xA xk xp xn := hx0
    clear hx0
    dsimp only
    clear k0_0 k0_1 f0_0 f0_1
    have XX2 := hid ((hx).below (below_alloc w4 (.cells #[.int .i64 xc, .slice xA xk xp] 61)))
    have hb2 := hb.alloc hb.size (.cells #[.int .i64 xc, .slice xA xk xp] 61)
    have hbx := (BX.out.below hb).alloc 61 #[.int .i64 xc, .slice xA xk xp]
    simp only [List.cons_append, List.nil_append] at hbx
    have L12 := hid (L1.out.below hb2)
    have C12 := hid (C1.out.below hb2)
    have L22 := hid (L2.out.below hb2)
    have C22 := hid (C2.out.below hb2)
    have HH2 := hid (HH.out.trans (hb2.mono HH.out.size))
    have BX2 := hid hbx
    clear L1 C1 L2 C2 HH BX hb hb2 hbx hx
    go_upto_region 4 with fail
    generalize (w4.alloc (.cells #[.int .i64 xc, .slice xA xk xp] 61)) = v4 at *
    generalize w4.heap.size = q4 at *
    have L1 := hid L12.out
    have C1 := hid C12.out
    have L2 := hid L22.out
    have C2 := hid C22.out
    have XX := hid XX2.out
    have HH := hid HH2.out
    have BX := hid BX2.out
    clear L12 C12 L22 C22 XX2 HH2 BX2
    obtain ⟨⟨k0_0, k0_1⟩, f0_0, f0_1⟩ := (BX.out.get 0 rfl).two
    obtain ⟨⟨k1_0, k1_1⟩, f1_0, f1_1⟩ := (BX.out.get 1 rfl).two
    cases hRK : (R && K)
    · rw [hRK] at XX
      rcases XX.out with ⟨h, _⟩ | ⟨_, rfl, hxs, rfl⟩
      · cases h
      cases hxs
      clear XX hRK
      clear k0_0 k0_1 f0_0 f0_1 k1_0 k1_1 f1_0 f1_1
      obtain ⟨⟨k0_0, k0_1⟩, f0_0, f0_1⟩ := (BX.out.get 0 rfl).two
      obtain ⟨⟨k1_0, k1_1⟩, f1_0, f1_1⟩ := (BX.out.get 1 rfl).two
      have hcall := balive_any v4 (HT.out.below HH.out) (HW.out.below HH.out)
      have HCALL := hid hcall
      clear hcall
      go_wp2_with fail
      with_reducible refine HCALL.out.mono ?_
      rintro e w5 ⟨rfl, hb⟩
      clear HCALL
      dsimp only
      clear k0_0 k0_1 f0_0 f0_1 k1_0 k1_1 f1_0 f1_1
      have L12 := hid (L1.out.below hb)
      have C12 := hid (C1.out.below hb)
      have L22 := hid (L2.out.below hb)
      have C22 := hid (C2.out.below hb)
      have HH2 := hid (HH.out.trans (hb.mono HH.out.size))
      have BX2 := hid (BX.out.below hb)
      clear L1 C1 L2 C2 HH BX hb
      have L1 := hid L12.out
      have C1 := hid C12.out
      have L2 := hid L22.out
      have C2 := hid C22.out
      have HH := hid HH2.out
      have BX := hid BX2.out
      clear L12 C12 L22 C22 HH2 BX2
      obtain ⟨⟨k0_0, k0_1⟩, f0_0, f0_1⟩ := (BX.out.get 0 rfl).two
      obtain ⟨⟨k1_0, k1_1⟩, f1_0, f1_1⟩ := (BX.out.get 1 rfl).two
      have hcall := blike_nil w5
      have HCALL := hid hcall
      clear hcall
      go_wp2_with fail
      with_reducible refine HCALL.out.mono ?_
      rintro e w6 ⟨rfl, hb⟩
      clear HCALL
      dsimp only
      clear k0_0 k0_1 f0_0 f0_1 k1_0 k1_1 f1_0 f1_1
      have L12 := hid (L1.out.below hb)
      have C12 := hid (C1.out.below hb)
      have L22 := hid (L2.out.below hb)
      have C22 := hid (C2.out.below hb)
      have HH2 := hid (HH.out.trans (hb.mono HH.out.size))
      have BX2 := hid (BX.out.below hb)
      clear L1 C1 L2 C2 HH BX hb
      have L1 := hid L12.out
      have C1 := hid C12.out
      have L2 := hid L22.out
      have C2 := hid C22.out
      have HH := hid HH2.out
      have BX := hid BX2.out
      clear L12 C12 L22 C22 HH2 BX2
      obtain ⟨⟨k0_0, k0_1⟩, f0_0, f0_1⟩ := (BX.out.get 0 rfl).two
      obtain ⟨⟨k1_0, k1_1⟩, f1_0, f1_1⟩ := (BX.out.get 1 rfl).two
      go_wp2
      go_ret
      exact ⟨rfl, HH.out⟩
    · rw [hRK] at XX
      rw [Bool.and_eq_true] at hRK
      obtain ⟨rfl, rfl⟩ := hRK
      have hbk := backB_iff.1 HRV.out
      obtain ⟨M, rfl⟩ : ∃ M : Nat, mx = M := ⟨mx.toNat, by omega⟩
      have hM : M ≤ 40 := by omega
      rcases XX.out with ⟨_, rfl, rfl, hx⟩ | ⟨h, _⟩
      rotate_left
      · cases h
      rw [Int.toNat_natCast] at hx
      obtain ⟨lx, hlx⟩ : ∃ lx, lastN M (lv1 ++ ll1) = lx := ⟨_, rfl⟩
      rw [hlx] at hx
      have LX := hid hx
      have HLX := hid hlx
      have hbx := backB_last rfl HRV.out HKV.out
      rw [hlx] at hbx
      have HBXR := hid hbx
      have hsx : ∀ e ∈ lx, e ∈ lv1 ++ ll1 := fun e he => lastN_mem (by rw [hlx]; exact he)
      have hxl : lx.length = min M (n1 + n2) := by rw [← hlx, lastN_length, List.length_append, HN1.out, HN2.out]
      have hsm : Sm (lv1 ++ ll1) := ⟨by rw [List.length_append, HN1.out, HN2.out]; have := N1.out; have := N2.out; omega, fun e he => (List.mem_append.1 he).elim (SM1.out.2 e) (SM2.out.2 e)⟩
      have HSM := hid hsm
      have HXL := hid hxl
      have HSX := hid hsx
      have SMX := hid (sm_sub hsm (by omega) hsx)
      have hcx : CesOf v4 lx := fun e he => (List.mem_append.1 (hsx e he)).elim (C1.out e) (C2.out e)
      have CX := hid hcx
      clear XX hx hlx hbx hsx hxl hsm hcx hbk
      obtain ⟨sA, hs, hsr⟩ := slice_ln_h L2.out HN2.out at_ HATB.out
      obtain ⟨tA, ht, htr⟩ := slice_ln_l L2.out HN2.out at_ HATB.out
      have SR := hid hsr
      have TR := hid htr
      have HS := hid hs
      have HTT := hid ht
      have hsc : (at_ : Int) ≤ (a2 : Int) := by obtain ⟨A', c', e, h, _⟩ := L2.out; rw [HN2.out] at e h; cases e; have := HATB.out; omega
      have HSC := hid hsc
      clear hsr htr hs ht hsc
      clear k0_0 k0_1 f0_0 f0_1 k1_0 k1_1 f1_0 f1_1
      obtain ⟨⟨k0_0, k0_1⟩, f0_0, f0_1⟩ := (BX.out.get 0 rfl).two
      go_upto_region 6 with fail
      have hs := HS.out
      have hsc := HSC.out
      have hd : Below v4.heap.size v4 v4.drew := (Below.refl _ _).drew
      have HPW := hid (fun W' (hb : Below v4.heap.size v4 W') => (by have h := push_any M _ _ lv1 (ll1.take at_) W' (L1.out.below hb) (C1.out.below hb) SM1.out (SR.out.below hb) (ces_sub (C2.out.below hb) (fun e he => List.mem_of_mem_take he)) (sm_sub SM2.out (by rw [List.length_take, HN2.out]; have := N2.out; omega) (fun e he => List.mem_of_mem_take he)) (HT.out.below (HH.out.trans (hb.mono HH.out.size))) (HW.out.below (HH.out.trans (hb.mono HH.out.size))); rw [HRV.out, keptB_sub HKV.out (fun e he => List.mem_of_mem_take he), Bool.and_self, Int.toNat_natCast] at h; exact h : Calls Tryd.prog 35 #[.agg #[.int .i64 (M : Int), .slice A1 n1 a1], .slice sA at_ a2] W' (BOut W' M true (lastN M (lv1 ++ ll1.take at_)))))
      clear hd
      go_upto_region 6 with fail
      go_cut [9, 10] (fun b e wx => BoxR v4 61 M (lastN M (lv1 ++ ll1.take at_)) b e wx)
      case first =>
        refine wp_region_S (fun _ w' => Below v4.heap.size v4 w') (by kernel_rfl) ?_
        have hS0 : Below v4.heap.size v4 v4.drew := (Below.refl _ _).drew
        clear k0_0 k0_1 f0_0 f0_1
        refine takeC (i := 0) (v := ?v0y) 49 rfl rfl (by kernel_rfl) (by kernel_rfl) (by kernel_rfl) (by kernel_rfl) (fun _ _ _ h => h) (Or.inl ⟨by rfl, fun w' hw' => ?hy0y⟩) hS0 ?rest0y
        case hy0y => obtain ⟨⟨k0_0, k0_1⟩, f0_0, f0_1⟩ := ((BX.out.below hw').get 0 rfl).two; go_simp; try with_reducible rfl
        try simp only [Act.put, List.setIfInBounds_toArray, List.set_cons_zero, List.set_cons_succ]
        refine takeC (i := 1) (v := ?v1y) 50 rfl rfl (by kernel_rfl) (by kernel_rfl) (by kernel_rfl) (by kernel_rfl) (fun _ _ _ h => h) (Or.inl ⟨by rfl, fun w' hw' => ?hy1y⟩) hS0 ?rest1y
        case hy1y => go_simp; try with_reducible rfl
        try simp only [Act.put, List.setIfInBounds_toArray, List.set_cons_zero, List.set_cons_succ]
        refine takeC (i := 2) (v := ?v2y) 51 rfl rfl (by kernel_rfl) (by kernel_rfl) (by kernel_rfl) (by kernel_rfl) (fun _ _ _ h => h) (Or.inl ⟨by rfl, fun w' hw' => ?hy2y⟩) hS0 ?rest2y
        case hy2y => go_simp; try with_reducible rfl
        try simp only [Act.put, List.setIfInBounds_toArray, List.set_cons_zero, List.set_cons_succ]
        refine takeC (i := 3) (v := ?v3y) 52 rfl rfl (by kernel_rfl) (by kernel_rfl) (by kernel_rfl) (by kernel_rfl) (fun _ _ _ h => h) (Or.inl ⟨by rfl, fun w' hw' => ?hy3y⟩) hS0 ?rest3y
        case hy3y => go_simp; try with_reducible rfl
        try simp only [Act.put, List.setIfInBounds_toArray, List.set_cons_zero, List.set_cons_succ]
        refine eitherS (k1 := 4) (k2 := 8) (by kernel_rfl) rfl rfl (by rfl) (by rfl) (fun K hK => ?cay) (fun K hK => ?cby)
        case cay =>
          go_simp
          go_at_call 35
          refine (HPW.out _ hS0).mono ?_
          rintro e w5 ⟨yc, yA, yk, yp, yn, rfl, hb, hy0⟩
          rcases hy0 with ⟨_, rfl, rfl, hy⟩ | ⟨h, _⟩
          rotate_left
          · cases h
          dsimp only
          have hS1 := hS0.trans (hb.mono hS0.size)
          refine hK _ _ hS1 ?_
          clear hK K
          try simp only [Act.put, List.setIfInBounds_toArray, List.set_cons_zero, List.set_cons_succ]
          clear hS0
          have hS0 := hS1
          refine takeC (i := 5) (v := ?v5ay) 48 rfl rfl (by kernel_rfl) (by kernel_rfl) (by kernel_rfl) (by kernel_rfl) (fun _ _ _ h => h) (Or.inl ⟨by rfl, fun w' hw' => ?hy5ay⟩) hS0 ?rest5ay
          case hy5ay => go_simp; try with_reducible rfl
          try simp only [Act.put, List.setIfInBounds_toArray, List.set_cons_zero, List.set_cons_succ]
          refine takeC (i := 6) (v := ?v6ay) 54 rfl rfl (by kernel_rfl) (by kernel_rfl) (by kernel_rfl) (by kernel_rfl) (fun _ _ _ h => h) (Or.inl ⟨by rfl, fun w' hw' => ?hy6ay⟩) hS0 ?rest6ay
          case hy6ay => go_simp; try with_reducible rfl
          try simp only [Act.put, List.setIfInBounds_toArray, List.set_cons_zero, List.set_cons_succ]
          refine takeC (i := 7) (v := ?v7ay) 55 rfl rfl (by kernel_rfl) (by kernel_rfl) (by kernel_rfl) (by kernel_rfl) (fun _ _ _ h => h) (Or.inl ⟨by rfl, fun w' hw' => ?hy7ay⟩) hS0 ?rest7ay
          case hy7ay => go_simp; try with_reducible rfl
          try simp only [Act.put, List.setIfInBounds_toArray, List.set_cons_zero, List.set_cons_succ]
          refine oneS (k := 8) (by kernel_rfl) rfl (by rfl) (fun K hK => ?_)
          go_simp
          have hS2 := hS1.alloc hS1.size (.cells #[.int .i64 0, .slice none 0 0] 61)
          refine hK _ _ hS2 ?_
          clear hK K
          try simp only [Act.put, List.setIfInBounds_toArray, List.set_cons_zero, List.set_cons_succ]
          refine oneS (k := 9) (by kernel_rfl) rfl (by rfl) (fun K hK => ?_)
          go_simp
          have hbx := Box.new w5 61 #[.int .i64 (M : Int), .slice yA yk yp]
          have hS3 := hS1.alloc hS1.size (.cells #[.int .i64 (M : Int), .slice yA yk yp] 61)
          refine hK _ _ hS3 ?_
          clear hK K
          refine oneS (k := 10) (by kernel_rfl) rfl (by rfl) (fun K hK => ?_)
          go_simp
          refine hK _ _ hS3 ?_
          clear hK K
          refine doneS (by kernel_rfl) ?_ _
          go_wp2_with fail
          go_meet
          exact ⟨_, _, _, _, rfl, rfl, hbx, (hy.below (below_alloc w5 (.cells #[.int .i64 (M : Int), .slice yA yk yp] 61))), hS3⟩
        case cby =>
          go_simp
          have hbz := Box.new v4 61 #[.int .i64 0, .slice none 0 0]
          have hbA : Below v4.heap.size v4 (v4.alloc (.cells #[.int .i64 0, .slice none 0 0] 61)).drew := (below_alloc _ _).drew
          have hbz : Box (v4.alloc (.cells #[.int .i64 0, .slice none 0 0] 61)).drew v4.heap.size 61 #[.int .i64 0, .slice none 0 0] := hbz
          clear hS0
          have hS0 := hbA
          clear hbA
          refine hK _ _ hS0 ?_
          clear hK K
          try simp only [Act.put, List.setIfInBounds_toArray, List.set_cons_zero, List.set_cons_succ]
          refine oneS (k := 4) (by kernel_rfl) rfl (by rfl) (fun K hK => ?_)
          go_simp
          go_at_call 35
          refine (HPW.out _ hS0).mono ?_
          rintro e w5 ⟨yc, yA, yk, yp, yn, rfl, hb, hy0⟩
          rcases hy0 with ⟨_, rfl, rfl, hy⟩ | ⟨h, _⟩
          rotate_left
          · cases h
          dsimp only
          have hS1 := hS0.trans (hb.mono hS0.size)
          refine hK _ _ hS1 ?_
          clear hK K
          try simp only [Act.put, List.setIfInBounds_toArray, List.set_cons_zero, List.set_cons_succ]
          have hbx := hbz.below hb hbz.lt
          clear hS0 hbz
          have hS0 := hS1
          refine takeC (i := 5) (v := ?v5by) 48 rfl rfl (by kernel_rfl) (by kernel_rfl) (by kernel_rfl) (by kernel_rfl) (fun _ _ _ h => h) (Or.inl ⟨by rfl, fun w' hw' => ?hy5by⟩) hS0 ?rest5by
          case hy5by => go_simp; try with_reducible rfl
          try simp only [Act.put, List.setIfInBounds_toArray, List.set_cons_zero, List.set_cons_succ]
          refine takeC (i := 6) (v := ?v6by) 54 rfl rfl (by kernel_rfl) (by kernel_rfl) (by kernel_rfl) (by kernel_rfl) (fun _ _ _ h => h) (Or.inl ⟨by rfl, fun w' hw' => ?hy6by⟩) hS0 ?rest6by
          case hy6by => go_simp; try with_reducible rfl
          try simp only [Act.put, List.setIfInBounds_toArray, List.set_cons_zero, List.set_cons_succ]
          refine takeC (i := 7) (v := ?v7by) 55 rfl rfl (by kernel_rfl) (by kernel_rfl) (by kernel_rfl) (by kernel_rfl) (fun _ _ _ h => h) (Or.inl ⟨by rfl, fun w' hw' => ?hy7by⟩) hS0 ?rest7by
          case hy7by => go_simp; try with_reducible rfl
          try simp only [Act.put, List.setIfInBounds_toArray, List.set_cons_zero, List.set_cons_succ]
          obtain ⟨⟨z0, z1⟩, zf0, zf1⟩ := hbx.two
          have hlt9 : v4.heap.size < w5.heap.size := hbx.lt
          refine oneS (k := 9) (by kernel_rfl) rfl (by rfl) (fun K hK => ?_)
          go_simp
          have hb3 := hbx.set (i := 0) (.int .i64 (M : Int))
          have hy3 := (hy.set_two hbx (i := 0) (.int .i64 (M : Int))).set_two hb3 (i := 1) (.slice yA yk yp)
          have hS3 : Below v4.heap.size v4 ((w5.setCell ⟨v4.heap.size, 0, none⟩ (.int .i64 (M : Int))).setCell ⟨v4.heap.size, 1, none⟩ (.slice yA yk yp)) := below_set (below_set hS0 (Nat.le_refl _) _) (Nat.le_refl _) _
          refine hK _ _ hS3 ?_
          clear hK K
          refine oneS (k := 10) (by kernel_rfl) rfl (by rfl) (fun K hK => ?_)
          go_simp
          refine hK _ _ hS3 ?_
          clear hK K
          refine doneS (by kernel_rfl) ?_ _
          go_wp2_with fail
          go_meet
          exact ⟨_, _, _, _, rfl, rfl, hb3.set _, hy3, hS3⟩
      case rest =>
        obtain ⟨wy, hw⟩ : ∃ wy : World, wy = wc := ⟨_, rfl⟩
        subst hw
        obtain ⟨qy, yA, yk, yp, rfl, rfl, hbx, hy, hb⟩ := hcut
        have L12 := hid (L1.out.below hb)
        have C12 := hid (C1.out.below hb)
        have L22 := hid (L2.out.below hb)
        have C22 := hid (C2.out.below hb)
        have LX2 := hid (LX.out.below hb)
        have CX2 := hid (CX.out.below hb)
        have SR2 := hid (SR.out.below hb)
        have TR2 := hid (TR.out.below hb)
        have HH2 := hid (HH.out.trans (hb.mono HH.out.size))
        have BX2 := hid (BX.out.below hb)
        clear L1 C1 L2 C2 LX CX SR TR HH BX
        have L1 := hid L12.out
        have C1 := hid C12.out
        have L2 := hid L22.out
        have C2 := hid C22.out
        have LX := hid LX2.out
        have CX := hid CX2.out
        have SR := hid SR2.out
        have TR := hid TR2.out
        have HH := hid HH2.out
        have BX := hid BX2.out
        clear L12 C12 L22 C22 LX2 CX2 SR2 TR2 HH2 BX2
        have LY := hid (hy)
        have bx := BX.out.snoc hbx
        simp only [List.cons_append, List.nil_append] at bx
        clear BX
        have BX := hid bx
        clear bx hbx hy hb HPW
        obtain ⟨ly, hly⟩ : ∃ ly, lastN M (lv1 ++ ll1.take at_) = ly := ⟨_, rfl⟩
        rw [hly] at LY
        have HLY := hid hly
        clear hly
        obtain ⟨⟨k2_0, k2_1⟩, f2_0, f2_1⟩ := (BX.out.get 2 rfl).two
        have hsy : ∀ e ∈ ly, e ∈ lv1 ++ ll1 := fun e he => by
          rw [← HLY.out] at he
          rcases List.mem_append.1 (lastN_mem he) with h | h
          · exact List.mem_append.2 (.inl h)
          · exact List.mem_append.2 (.inr (List.mem_of_mem_take h))
        have hyl : ly.length ≤ 1000 := by rw [← HLY.out, lastN_length]; omega
        have hby := backB_last rfl HRV.out (keptB_sub HKV.out (fun e (he : e ∈ ll1.take at_) => List.mem_of_mem_take he))
        rw [HLY.out] at hby
        have hcy : CesOf wy ly := fun e he => (List.mem_append.1 (hsy e he)).elim (C1.out e) (C2.out e)
        have hzz : lastN M (ly ++ ll1.drop at_) = lx := by rw [← HLY.out, lastN_parts, List.append_assoc, List.take_append_drop, HLX.out]
        have ht := HTT.out
        have hsc : (at_ : Int) ≤ (n2 : Int) := by have := HATB.out; omega
        have hd : Below wy.heap.size wy wy.drew := (Below.refl _ _).drew
        have HPW := hid (fun W' (hb : Below wy.heap.size wy W') => (by have h := push_any M _ _ ly (ll1.drop at_) W' (LY.out.below hb) (hcy.below hb) (sm_sub HSM.out hyl hsy) (TR.out.below hb) (ces_sub (C2.out.below hb) (fun e he => List.mem_of_mem_drop he)) (sm_sub SM2.out (by rw [List.length_drop, HN2.out]; have := N2.out; omega) (fun e he => List.mem_of_mem_drop he)) (HT.out.below (HH.out.trans (hb.mono HH.out.size))) (HW.out.below (HH.out.trans (hb.mono HH.out.size))); rw [hby, keptB_sub HKV.out (fun e he => List.mem_of_mem_drop he), Bool.and_self, Int.toNat_natCast, hzz] at h; exact h : Calls Tryd.prog 35 #[.agg #[.int .i64 (M : Int), .slice yA yk yp], .slice tA (n2 - at_) (a2 - at_)] W' (BOut W' M true lx)))
        clear hd
        go_upto_region 7 with fail
        go_cut [11, 12] (fun b e wx => BoxR wy 61 M (lx) b e wx)
        case first =>
          refine wp_region_S (fun _ w' => Below wy.heap.size wy w') (by kernel_rfl) ?_
          have hS0 : Below wy.heap.size wy wy.drew := (Below.refl _ _).drew
          clear k2_0 k2_1 f2_0 f2_1
          refine takeC (i := 0) (v := ?v0z) 57 rfl rfl (by kernel_rfl) (by kernel_rfl) (by kernel_rfl) (by kernel_rfl) (fun _ _ _ h => h) (Or.inl ⟨by rfl, fun w' hw' => ?hy0z⟩) hS0 ?rest0z
          case hy0z => obtain ⟨⟨k2_0, k2_1⟩, f2_0, f2_1⟩ := ((BX.out.below hw').get 2 rfl).two; go_simp; try with_reducible rfl
          try simp only [Act.put, List.setIfInBounds_toArray, List.set_cons_zero, List.set_cons_succ]
          refine takeC (i := 1) (v := ?v1z) 58 rfl rfl (by kernel_rfl) (by kernel_rfl) (by kernel_rfl) (by kernel_rfl) (fun _ _ _ h => h) (Or.inl ⟨by rfl, fun w' hw' => ?hy1z⟩) hS0 ?rest1z
          case hy1z => go_simp; try with_reducible rfl
          try simp only [Act.put, List.setIfInBounds_toArray, List.set_cons_zero, List.set_cons_succ]
          refine takeC (i := 2) (v := ?v2z) 59 rfl rfl (by kernel_rfl) (by kernel_rfl) (by kernel_rfl) (by kernel_rfl) (fun _ _ _ h => h) (Or.inl ⟨by rfl, fun w' hw' => ?hy2z⟩) hS0 ?rest2z
          case hy2z => go_simp; try with_reducible rfl
          try simp only [Act.put, List.setIfInBounds_toArray, List.set_cons_zero, List.set_cons_succ]
          refine takeC (i := 3) (v := ?v3z) 60 rfl rfl (by kernel_rfl) (by kernel_rfl) (by kernel_rfl) (by kernel_rfl) (fun _ _ _ h => h) (Or.inl ⟨by rfl, fun w' hw' => ?hy3z⟩) hS0 ?rest3z
          case hy3z => go_simp; try with_reducible rfl
          try simp only [Act.put, List.setIfInBounds_toArray, List.set_cons_zero, List.set_cons_succ]
          refine eitherS (k1 := 4) (k2 := 8) (by kernel_rfl) rfl rfl (by rfl) (by rfl) (fun K hK => ?caz) (fun K hK => ?cbz)
          case caz =>
            go_simp
            go_at_call 35
            refine (HPW.out _ hS0).mono ?_
            rintro e w5 ⟨yc, yA, yk, yp, yn, rfl, hb, hy0⟩
            rcases hy0 with ⟨_, rfl, rfl, hy⟩ | ⟨h, _⟩
            rotate_left
            · cases h
            dsimp only
            have hS1 := hS0.trans (hb.mono hS0.size)
            refine hK _ _ hS1 ?_
            clear hK K
            try simp only [Act.put, List.setIfInBounds_toArray, List.set_cons_zero, List.set_cons_succ]
            clear hS0
            have hS0 := hS1
            refine takeC (i := 5) (v := ?v5az) 56 rfl rfl (by kernel_rfl) (by kernel_rfl) (by kernel_rfl) (by kernel_rfl) (fun _ _ _ h => h) (Or.inl ⟨by rfl, fun w' hw' => ?hy5az⟩) hS0 ?rest5az
            case hy5az => go_simp; try with_reducible rfl
            try simp only [Act.put, List.setIfInBounds_toArray, List.set_cons_zero, List.set_cons_succ]
            refine takeC (i := 6) (v := ?v6az) 62 rfl rfl (by kernel_rfl) (by kernel_rfl) (by kernel_rfl) (by kernel_rfl) (fun _ _ _ h => h) (Or.inl ⟨by rfl, fun w' hw' => ?hy6az⟩) hS0 ?rest6az
            case hy6az => go_simp; try with_reducible rfl
            try simp only [Act.put, List.setIfInBounds_toArray, List.set_cons_zero, List.set_cons_succ]
            refine takeC (i := 7) (v := ?v7az) 63 rfl rfl (by kernel_rfl) (by kernel_rfl) (by kernel_rfl) (by kernel_rfl) (fun _ _ _ h => h) (Or.inl ⟨by rfl, fun w' hw' => ?hy7az⟩) hS0 ?rest7az
            case hy7az => go_simp; try with_reducible rfl
            try simp only [Act.put, List.setIfInBounds_toArray, List.set_cons_zero, List.set_cons_succ]
            refine oneS (k := 8) (by kernel_rfl) rfl (by rfl) (fun K hK => ?_)
            go_simp
            have hS2 := hS1.alloc hS1.size (.cells #[.int .i64 0, .slice none 0 0] 61)
            refine hK _ _ hS2 ?_
            clear hK K
            try simp only [Act.put, List.setIfInBounds_toArray, List.set_cons_zero, List.set_cons_succ]
            refine oneS (k := 9) (by kernel_rfl) rfl (by rfl) (fun K hK => ?_)
            go_simp
            have hbx := Box.new w5 61 #[.int .i64 (M : Int), .slice yA yk yp]
            have hS3 := hS1.alloc hS1.size (.cells #[.int .i64 (M : Int), .slice yA yk yp] 61)
            refine hK _ _ hS3 ?_
            clear hK K
            refine oneS (k := 10) (by kernel_rfl) rfl (by rfl) (fun K hK => ?_)
            go_simp
            refine hK _ _ hS3 ?_
            clear hK K
            refine doneS (by kernel_rfl) ?_ _
            go_wp2_with fail
            go_meet
            exact ⟨_, _, _, _, rfl, rfl, hbx, (hy.below (below_alloc w5 (.cells #[.int .i64 (M : Int), .slice yA yk yp] 61))), hS3⟩
          case cbz =>
            go_simp
            have hbz := Box.new wy 61 #[.int .i64 0, .slice none 0 0]
            have hbA : Below wy.heap.size wy (wy.alloc (.cells #[.int .i64 0, .slice none 0 0] 61)).drew := (below_alloc _ _).drew
            have hbz : Box (wy.alloc (.cells #[.int .i64 0, .slice none 0 0] 61)).drew wy.heap.size 61 #[.int .i64 0, .slice none 0 0] := hbz
            clear hS0
            have hS0 := hbA
            clear hbA
            refine hK _ _ hS0 ?_
            clear hK K
            try simp only [Act.put, List.setIfInBounds_toArray, List.set_cons_zero, List.set_cons_succ]
            refine oneS (k := 4) (by kernel_rfl) rfl (by rfl) (fun K hK => ?_)
            go_simp
            go_at_call 35
            refine (HPW.out _ hS0).mono ?_
            rintro e w5 ⟨yc, yA, yk, yp, yn, rfl, hb, hy0⟩
            rcases hy0 with ⟨_, rfl, rfl, hy⟩ | ⟨h, _⟩
            rotate_left
            · cases h
            dsimp only
            have hS1 := hS0.trans (hb.mono hS0.size)
            refine hK _ _ hS1 ?_
            clear hK K
            try simp only [Act.put, List.setIfInBounds_toArray, List.set_cons_zero, List.set_cons_succ]
            have hbx := hbz.below hb hbz.lt
            clear hS0 hbz
            have hS0 := hS1
            refine takeC (i := 5) (v := ?v5bz) 56 rfl rfl (by kernel_rfl) (by kernel_rfl) (by kernel_rfl) (by kernel_rfl) (fun _ _ _ h => h) (Or.inl ⟨by rfl, fun w' hw' => ?hy5bz⟩) hS0 ?rest5bz
            case hy5bz => go_simp; try with_reducible rfl
            try simp only [Act.put, List.setIfInBounds_toArray, List.set_cons_zero, List.set_cons_succ]
            refine takeC (i := 6) (v := ?v6bz) 62 rfl rfl (by kernel_rfl) (by kernel_rfl) (by kernel_rfl) (by kernel_rfl) (fun _ _ _ h => h) (Or.inl ⟨by rfl, fun w' hw' => ?hy6bz⟩) hS0 ?rest6bz
            case hy6bz => go_simp; try with_reducible rfl
            try simp only [Act.put, List.setIfInBounds_toArray, List.set_cons_zero, List.set_cons_succ]
            refine takeC (i := 7) (v := ?v7bz) 63 rfl rfl (by kernel_rfl) (by kernel_rfl) (by kernel_rfl) (by kernel_rfl) (fun _ _ _ h => h) (Or.inl ⟨by rfl, fun w' hw' => ?hy7bz⟩) hS0 ?rest7bz
            case hy7bz => go_simp; try with_reducible rfl
            try simp only [Act.put, List.setIfInBounds_toArray, List.set_cons_zero, List.set_cons_succ]
            obtain ⟨⟨z0, z1⟩, zf0, zf1⟩ := hbx.two
            have hlt9 : wy.heap.size < w5.heap.size := hbx.lt
            refine oneS (k := 9) (by kernel_rfl) rfl (by rfl) (fun K hK => ?_)
            go_simp
            have hb3 := hbx.set (i := 0) (.int .i64 (M : Int))
            have hy3 := (hy.set_two hbx (i := 0) (.int .i64 (M : Int))).set_two hb3 (i := 1) (.slice yA yk yp)
            have hS3 : Below wy.heap.size wy ((w5.setCell ⟨wy.heap.size, 0, none⟩ (.int .i64 (M : Int))).setCell ⟨wy.heap.size, 1, none⟩ (.slice yA yk yp)) := below_set (below_set hS0 (Nat.le_refl _) _) (Nat.le_refl _) _
            refine hK _ _ hS3 ?_
            clear hK K
            refine oneS (k := 10) (by kernel_rfl) rfl (by rfl) (fun K hK => ?_)
            go_simp
            refine hK _ _ hS3 ?_
            clear hK K
            refine doneS (by kernel_rfl) ?_ _
            go_wp2_with fail
            go_meet
            exact ⟨_, _, _, _, rfl, rfl, hb3.set _, hy3, hS3⟩
        case rest =>
          obtain ⟨wz, hw⟩ : ∃ wz : World, wz = wc := ⟨_, rfl⟩
          subst hw
          obtain ⟨qz, zA, zk, zp, rfl, rfl, hbx, hy, hb⟩ := hcut
          have L12 := hid (L1.out.below hb)
          have C12 := hid (C1.out.below hb)
          have L22 := hid (L2.out.below hb)
          have C22 := hid (C2.out.below hb)
          have LX2 := hid (LX.out.below hb)
          have CX2 := hid (CX.out.below hb)
          have SR2 := hid (SR.out.below hb)
          have TR2 := hid (TR.out.below hb)
          have LY2 := hid (LY.out.below hb)
          have HH2 := hid (HH.out.trans (hb.mono HH.out.size))
          have BX2 := hid (BX.out.below hb)
          clear L1 C1 L2 C2 LX CX SR TR LY HH BX
          have L1 := hid L12.out
          have C1 := hid C12.out
          have L2 := hid L22.out
          have C2 := hid C22.out
          have LX := hid LX2.out
          have CX := hid CX2.out
          have SR := hid SR2.out
          have TR := hid TR2.out
          have LY := hid LY2.out
          have HH := hid HH2.out
          have BX := hid BX2.out
          clear L12 C12 L22 C22 LX2 CX2 SR2 TR2 LY2 HH2 BX2
          have LZ := hid (hy)
          have bx := BX.out.snoc hbx
          simp only [List.cons_append, List.nil_append] at bx
          clear BX
          have BX := hid bx
          clear bx hbx hy hb HPW
          clear hsy hyl hby hcy hzz ht hsc
          obtain ⟨⟨k1_0, k1_1⟩, f1_0, f1_1⟩ := (BX.out.get 1 rfl).two
          have hcall := take_any M n2 _ lx wz LX.out CX.out SMX.out (HT.out.below HH.out) (HW.out.below HH.out) (by have := N2.out; omega)
          rw [HBXR.out, decide_eq_true (p := 0 ≤ (n2 : Int)) (by omega), Bool.and_self, Int.toNat_natCast] at hcall
          have HCALL := hid hcall
          clear hcall
          go_wp2_with fail
          with_reducible refine HCALL.out.mono ?_
          rintro e w5 ⟨wc, wA, wk, wp, tB, tk, tp, wn, rfl, hb, hw0⟩
          clear HCALL
          rcases hw0 with ⟨_, rfl, rfl, hw1, hw2⟩ | ⟨h, _⟩
          rotate_left
          · cases h
          have hwk := hw1.len_eq
          have htk := hw2.len_eq
          have hxk := LX.out.len_eq
          rw [List.length_take, HXL.out] at hwk
          rw [lastN_length, HXL.out] at htk
          rw [HXL.out] at hxk
          have HWK := hid hwk
          have HTK := hid htk
          have HXK := hid hxk
          clear hwk htk hxk
          dsimp only
          clear k1_0 k1_1 f1_0 f1_1
          have LW2 := hid ((hw1).below (below_alloc w5 (.cells #[.int .i64 M, .slice wA wk wp] 61)))
          have LT2 := hid ((hw2).below (below_alloc w5 (.cells #[.int .i64 M, .slice wA wk wp] 61)))
          have hb2 := hb.alloc hb.size (.cells #[.int .i64 M, .slice wA wk wp] 61)
          have hbx := (BX.out.below hb).alloc 61 #[.int .i64 M, .slice wA wk wp]
          simp only [List.cons_append, List.nil_append] at hbx
          have L12 := hid (L1.out.below hb2)
          have C12 := hid (C1.out.below hb2)
          have L22 := hid (L2.out.below hb2)
          have C22 := hid (C2.out.below hb2)
          have LX2 := hid (LX.out.below hb2)
          have CX2 := hid (CX.out.below hb2)
          have SR2 := hid (SR.out.below hb2)
          have TR2 := hid (TR.out.below hb2)
          have LY2 := hid (LY.out.below hb2)
          have LZ2 := hid (LZ.out.below hb2)
          have HH2 := hid (HH.out.trans (hb2.mono HH.out.size))
          have BX2 := hid hbx
          clear L1 C1 L2 C2 LX CX SR TR LY LZ HH BX hb hb2 hbx hw1 hw2
          go_upto_region 9 with fail
          generalize (w5.alloc (.cells #[.int .i64 M, .slice wA wk wp] 61)) = v5 at *
          generalize w5.heap.size = q5 at *
          have L1 := hid L12.out
          have C1 := hid C12.out
          have L2 := hid L22.out
          have C2 := hid C22.out
          have LX := hid LX2.out
          have CX := hid CX2.out
          have SR := hid SR2.out
          have TR := hid TR2.out
          have LY := hid LY2.out
          have LZ := hid LZ2.out
          have LW := hid LW2.out
          have LT := hid LT2.out
          have HH := hid HH2.out
          have BX := hid BX2.out
          clear L12 C12 L22 C22 LX2 CX2 SR2 TR2 LY2 LZ2 LW2 LT2 HH2 BX2
          obtain ⟨⟨k0_0, k0_1⟩, f0_0, f0_1⟩ := (BX.out.get 0 rfl).two
          obtain ⟨⟨k1_0, k1_1⟩, f1_0, f1_1⟩ := (BX.out.get 1 rfl).two
          obtain ⟨⟨k2_0, k2_1⟩, f2_0, f2_1⟩ := (BX.out.get 2 rfl).two
          obtain ⟨⟨k3_0, k3_1⟩, f3_0, f3_1⟩ := (BX.out.get 3 rfl).two
          obtain ⟨⟨k4_0, k4_1⟩, f4_0, f4_1⟩ := (BX.out.get 4 rfl).two
          by_cases hle : n2 ≤ M
          · obtain rfl : n2 = tk := by rw [HTK.out]; omega
            have hmin : (n2 : Int) ≤ (M : Int) := by omega
            have hxm : (xk : Int) ≤ (M : Int) := by have := HXK.out; omega
            have hlz : lastN n2 lx = ll1.drop 0 := by rw [← HLX.out, ← HN2.out, lastN_push, List.drop_zero, lastN_all (by rw [HN2.out]; omega)]
            obtain ⟨uA, hu, hur⟩ := slice_ln_l L2.out HN2.out 0 (by omega)
            simp only [Nat.sub_zero] at hu hur
            have hu' : ∀ w, (Instr.sliceAt 22 (.slice A2 n2 a2) (some (.int .i64 0)) none none).run Tryd.prog w = .ok (.slice uA n2 a2) w := hu
            have hend : ((wk : Int) == (xk : Int) - (n2 : Int)) = true := by have h1 := HWK.out; have h2 := HXK.out; rw [beq_iff_eq]; omega
            have hend0 : (wk : Int) = (xk : Int) - (n2 : Int) := by rw [beq_iff_eq] at hend; exact hend
            have hs0 : 0 ≤ (xk : Int) - (n2 : Int) := by omega
            clear hu hend0
            have HLZ := hid hlz
            have UR := hid hur
            have HU := hid hu'
            clear hur hlz hle hu'
            have HEND := hid hend
            have HS0 := hid hs0
            clear hend hs0
            clear k0_0 k0_1 f0_0 f0_1 k1_0 k1_1 f1_0 f1_1 k2_0 k2_1 f2_0 f2_1 k3_0 k3_1 f3_0 f3_1 k4_0 k4_1 f4_0 f4_1
            obtain ⟨⟨k0_0, k0_1⟩, f0_0, f0_1⟩ := (BX.out.get 0 rfl).two
            obtain ⟨⟨k1_0, k1_1⟩, f1_0, f1_1⟩ := (BX.out.get 1 rfl).two
            obtain ⟨⟨k3_0, k3_1⟩, f3_0, f3_1⟩ := (BX.out.get 3 rfl).two
            obtain ⟨⟨k4_0, k4_1⟩, f4_0, f4_1⟩ := (BX.out.get 4 rfl).two
            have hcall := blike_any M _ _ lx lx v5 LX.out LZ.out CX.out CX.out rfl (Sm.sz SMX.out)
            have HCALL := hid hcall
            clear hcall
            go_wp2_with fail
            with_reducible refine HCALL.out.mono ?_
            rintro e w6 ⟨rfl, hb⟩
            clear HCALL
            dsimp only
            clear k0_0 k0_1 f0_0 f0_1 k1_0 k1_1 f1_0 f1_1 k3_0 k3_1 f3_0 f3_1 k4_0 k4_1 f4_0 f4_1
            have L12 := hid (L1.out.below hb)
            have C12 := hid (C1.out.below hb)
            have L22 := hid (L2.out.below hb)
            have C22 := hid (C2.out.below hb)
            have LX2 := hid (LX.out.below hb)
            have CX2 := hid (CX.out.below hb)
            have SR2 := hid (SR.out.below hb)
            have TR2 := hid (TR.out.below hb)
            have LY2 := hid (LY.out.below hb)
            have LZ2 := hid (LZ.out.below hb)
            have LW2 := hid (LW.out.below hb)
            have LT2 := hid (LT.out.below hb)
            have UR2 := hid (UR.out.below hb)
            have HH2 := hid (HH.out.trans (hb.mono HH.out.size))
            have BX2 := hid (BX.out.below hb)
            clear L1 C1 L2 C2 LX CX SR TR LY LZ LW LT UR HH BX hb
            have L1 := hid L12.out
            have C1 := hid C12.out
            have L2 := hid L22.out
            have C2 := hid C22.out
            have LX := hid LX2.out
            have CX := hid CX2.out
            have SR := hid SR2.out
            have TR := hid TR2.out
            have LY := hid LY2.out
            have LZ := hid LZ2.out
            have LW := hid LW2.out
            have LT := hid LT2.out
            have UR := hid UR2.out
            have HH := hid HH2.out
            have BX := hid BX2.out
            clear L12 C12 L22 C22 LX2 CX2 SR2 TR2 LY2 LZ2 LW2 LT2 UR2 HH2 BX2
            obtain ⟨⟨k0_0, k0_1⟩, f0_0, f0_1⟩ := (BX.out.get 0 rfl).two
            obtain ⟨⟨k1_0, k1_1⟩, f1_0, f1_1⟩ := (BX.out.get 1 rfl).two
            obtain ⟨⟨k4_0, k4_1⟩, f4_0, f4_1⟩ := (BX.out.get 4 rfl).two
            have hcall := bRight_any M _ (lx.take (lx.length - n2)) w6 LW.out (ces_sub CX.out (fun e he => List.mem_of_mem_take he)) (sm_sub SMX.out (by rw [List.length_take]; have := SMX.out.1; omega) (fun e he => List.mem_of_mem_take he)) (HT.out.below HH.out) (HW.out.below HH.out)
            rw [show backB M (lx.take (lx.length - n2)) = true by have h := backB_iff.1 HBXR.out; rw [backB_iff]; exact ⟨h.1, by rw [List.length_take]; omega, keptB_sub h.2.2 (fun e he => List.mem_of_mem_take he)⟩] at hcall
            have HCALL := hid hcall
            clear hcall
            go_wp2_with fail
            with_reducible refine HCALL.out.mono ?_
            rintro e w7 ⟨rfl, hb⟩
            clear HCALL
            dsimp only
            clear k0_0 k0_1 f0_0 f0_1 k1_0 k1_1 f1_0 f1_1 k4_0 k4_1 f4_0 f4_1
            have L12 := hid (L1.out.below hb)
            have C12 := hid (C1.out.below hb)
            have L22 := hid (L2.out.below hb)
            have C22 := hid (C2.out.below hb)
            have LX2 := hid (LX.out.below hb)
            have CX2 := hid (CX.out.below hb)
            have SR2 := hid (SR.out.below hb)
            have TR2 := hid (TR.out.below hb)
            have LY2 := hid (LY.out.below hb)
            have LZ2 := hid (LZ.out.below hb)
            have LW2 := hid (LW.out.below hb)
            have LT2 := hid (LT.out.below hb)
            have UR2 := hid (UR.out.below hb)
            have HH2 := hid (HH.out.trans (hb.mono HH.out.size))
            have BX2 := hid (BX.out.below hb)
            clear L1 C1 L2 C2 LX CX SR TR LY LZ LW LT UR HH BX hb
            have L1 := hid L12.out
            have C1 := hid C12.out
            have L2 := hid L22.out
            have C2 := hid C22.out
            have LX := hid LX2.out
            have CX := hid CX2.out
            have SR := hid SR2.out
            have TR := hid TR2.out
            have LY := hid LY2.out
            have LZ := hid LZ2.out
            have LW := hid LW2.out
            have LT := hid LT2.out
            have UR := hid UR2.out
            have HH := hid HH2.out
            have BX := hid BX2.out
            clear L12 C12 L22 C22 LX2 CX2 SR2 TR2 LY2 LZ2 LW2 LT2 UR2 HH2 BX2
            obtain ⟨⟨k1_0, k1_1⟩, f1_0, f1_1⟩ := (BX.out.get 1 rfl).two
            obtain ⟨⟨k4_0, k4_1⟩, f4_0, f4_1⟩ := (BX.out.get 4 rfl).two
            have hcall := balive_any w7 (HT.out.below HH.out) (HW.out.below HH.out)
            have HCALL := hid hcall
            clear hcall
            go_wp2_with fail
            with_reducible refine HCALL.out.mono ?_
            rintro e w8 ⟨rfl, hb⟩
            clear HCALL
            dsimp only
            clear k1_0 k1_1 f1_0 f1_1 k4_0 k4_1 f4_0 f4_1
            have L12 := hid (L1.out.below hb)
            have C12 := hid (C1.out.below hb)
            have L22 := hid (L2.out.below hb)
            have C22 := hid (C2.out.below hb)
            have LX2 := hid (LX.out.below hb)
            have CX2 := hid (CX.out.below hb)
            have SR2 := hid (SR.out.below hb)
            have TR2 := hid (TR.out.below hb)
            have LY2 := hid (LY.out.below hb)
            have LZ2 := hid (LZ.out.below hb)
            have LW2 := hid (LW.out.below hb)
            have LT2 := hid (LT.out.below hb)
            have UR2 := hid (UR.out.below hb)
            have HH2 := hid (HH.out.trans (hb.mono HH.out.size))
            have BX2 := hid (BX.out.below hb)
            clear L1 C1 L2 C2 LX CX SR TR LY LZ LW LT UR HH BX hb
            have L1 := hid L12.out
            have C1 := hid C12.out
            have L2 := hid L22.out
            have C2 := hid C22.out
            have LX := hid LX2.out
            have CX := hid CX2.out
            have SR := hid SR2.out
            have TR := hid TR2.out
            have LY := hid LY2.out
            have LZ := hid LZ2.out
            have LW := hid LW2.out
            have LT := hid LT2.out
            have UR := hid UR2.out
            have HH := hid HH2.out
            have BX := hid BX2.out
            clear L12 C12 L22 C22 LX2 CX2 SR2 TR2 LY2 LZ2 LW2 LT2 UR2 HH2 BX2
            obtain ⟨⟨k1_0, k1_1⟩, f1_0, f1_1⟩ := (BX.out.get 1 rfl).two
            obtain ⟨⟨k4_0, k4_1⟩, f4_0, f4_1⟩ := (BX.out.get 4 rfl).two
            go_upto_region 12 with fail
            have hu' := HU.out
            have hend := HEND.out
            have hs0 := HS0.out
            have hxb : (xk : Int) ≤ 100 := by omega
            have hM2 : (M : Int) ≤ 100 := by omega
            have hn2c : (n2 : Int) ≤ 100 := hn2b
            have hcall := same_any _ _ (lastN n2 lx) (ll1.drop 0) w8 LT.out UR.out (ces_sub CX.out (fun e he => lastN_mem he)) (ces_sub C2.out (fun e he => List.mem_of_mem_drop he)) (by rw [HLZ.out]) (Sm.sz (sm_sub SMX.out (by rw [lastN_length]; have := SMX.out.1; omega) (fun e he => lastN_mem he)))
            have HCALL := hid hcall
            clear hcall
            go_wp2_with fail
            with_reducible refine HCALL.out.mono ?_
            rintro e w9 ⟨rfl, hb⟩
            clear HCALL
            dsimp only
            clear k1_0 k1_1 f1_0 f1_1 k4_0 k4_1 f4_0 f4_1
            have L12 := hid (L1.out.below hb)
            have C12 := hid (C1.out.below hb)
            have L22 := hid (L2.out.below hb)
            have C22 := hid (C2.out.below hb)
            have LX2 := hid (LX.out.below hb)
            have CX2 := hid (CX.out.below hb)
            have SR2 := hid (SR.out.below hb)
            have TR2 := hid (TR.out.below hb)
            have LY2 := hid (LY.out.below hb)
            have LZ2 := hid (LZ.out.below hb)
            have LW2 := hid (LW.out.below hb)
            have LT2 := hid (LT.out.below hb)
            have UR2 := hid (UR.out.below hb)
            have HH2 := hid (HH.out.trans (hb.mono HH.out.size))
            have BX2 := hid (BX.out.below hb)
            clear L1 C1 L2 C2 LX CX SR TR LY LZ LW LT UR HH BX hb
            have L1 := hid L12.out
            have C1 := hid C12.out
            have L2 := hid L22.out
            have C2 := hid C22.out
            have LX := hid LX2.out
            have CX := hid CX2.out
            have SR := hid SR2.out
            have TR := hid TR2.out
            have LY := hid LY2.out
            have LZ := hid LZ2.out
            have LW := hid LW2.out
            have LT := hid LT2.out
            have UR := hid UR2.out
            have HH := hid HH2.out
            have BX := hid BX2.out
            clear L12 C12 L22 C22 LX2 CX2 SR2 TR2 LY2 LZ2 LW2 LT2 UR2 HH2 BX2
            obtain ⟨⟨k1_0, k1_1⟩, f1_0, f1_1⟩ := (BX.out.get 1 rfl).two
            obtain ⟨⟨k4_0, k4_1⟩, f4_0, f4_1⟩ := (BX.out.get 4 rfl).two
            go_wp2
            go_ret
            exact ⟨rfl, HH.out⟩
          · obtain rfl : M = tk := by rw [HTK.out]; omega
            have hmin : (M : Int) < (n2 : Int) := by omega
            have hxm : (xk : Int) ≤ (M : Int) := by have := HXK.out; omega
            have hlz : lastN n2 lx = ll1.drop (n2 - M) := by rw [← HLX.out, ← HN2.out, lastN_push, HN2.out]; unfold lastN; rw [HN2.out, Nat.min_eq_right (by omega)]
            obtain ⟨uA, hu, hur⟩ := slice_ln_l L2.out HN2.out (n2 - M) (by omega)
            have hu' : ∀ w, (Instr.sliceAt 22 (.slice A2 n2 a2) (some (.int .i64 ((n2 : Int) - (M : Int)))) none none).run Tryd.prog w = .ok (.slice uA (n2 - (n2 - M)) (a2 - (n2 - M))) w := by rw [show (n2 : Int) - (M : Int) = ((n2 - M : Nat) : Int) by omega]; exact hu
            have hend : ((wk : Int) == (xk : Int) - (M : Int)) = true := by have h1 := HWK.out; have h2 := HXK.out; rw [beq_iff_eq]; omega
            have hs0 : 0 ≤ (xk : Int) - (M : Int) := by have h1 := HWK.out; have h2 := HXK.out; omega
            clear hu
            have HLZ := hid hlz
            have UR := hid hur
            have HU := hid hu'
            clear hur hlz hle hu'
            have HEND := hid hend
            have HS0 := hid hs0
            clear hend hs0
            clear k0_0 k0_1 f0_0 f0_1 k1_0 k1_1 f1_0 f1_1 k2_0 k2_1 f2_0 f2_1 k3_0 k3_1 f3_0 f3_1 k4_0 k4_1 f4_0 f4_1
            obtain ⟨⟨k0_0, k0_1⟩, f0_0, f0_1⟩ := (BX.out.get 0 rfl).two
            obtain ⟨⟨k1_0, k1_1⟩, f1_0, f1_1⟩ := (BX.out.get 1 rfl).two
            obtain ⟨⟨k3_0, k3_1⟩, f3_0, f3_1⟩ := (BX.out.get 3 rfl).two
            obtain ⟨⟨k4_0, k4_1⟩, f4_0, f4_1⟩ := (BX.out.get 4 rfl).two
            have hcall := blike_any M _ _ lx lx v5 LX.out LZ.out CX.out CX.out rfl (Sm.sz SMX.out)
            have HCALL := hid hcall
            clear hcall
            go_wp2_with fail
            with_reducible refine HCALL.out.mono ?_
            rintro e w6 ⟨rfl, hb⟩
            clear HCALL
            dsimp only
            clear k0_0 k0_1 f0_0 f0_1 k1_0 k1_1 f1_0 f1_1 k3_0 k3_1 f3_0 f3_1 k4_0 k4_1 f4_0 f4_1
            have L12 := hid (L1.out.below hb)
            have C12 := hid (C1.out.below hb)
            have L22 := hid (L2.out.below hb)
            have C22 := hid (C2.out.below hb)
            have LX2 := hid (LX.out.below hb)
            have CX2 := hid (CX.out.below hb)
            have SR2 := hid (SR.out.below hb)
            have TR2 := hid (TR.out.below hb)
            have LY2 := hid (LY.out.below hb)
            have LZ2 := hid (LZ.out.below hb)
            have LW2 := hid (LW.out.below hb)
            have LT2 := hid (LT.out.below hb)
            have UR2 := hid (UR.out.below hb)
            have HH2 := hid (HH.out.trans (hb.mono HH.out.size))
            have BX2 := hid (BX.out.below hb)
            clear L1 C1 L2 C2 LX CX SR TR LY LZ LW LT UR HH BX hb
            have L1 := hid L12.out
            have C1 := hid C12.out
            have L2 := hid L22.out
            have C2 := hid C22.out
            have LX := hid LX2.out
            have CX := hid CX2.out
            have SR := hid SR2.out
            have TR := hid TR2.out
            have LY := hid LY2.out
            have LZ := hid LZ2.out
            have LW := hid LW2.out
            have LT := hid LT2.out
            have UR := hid UR2.out
            have HH := hid HH2.out
            have BX := hid BX2.out
            clear L12 C12 L22 C22 LX2 CX2 SR2 TR2 LY2 LZ2 LW2 LT2 UR2 HH2 BX2
            obtain ⟨⟨k0_0, k0_1⟩, f0_0, f0_1⟩ := (BX.out.get 0 rfl).two
            obtain ⟨⟨k1_0, k1_1⟩, f1_0, f1_1⟩ := (BX.out.get 1 rfl).two
            obtain ⟨⟨k4_0, k4_1⟩, f4_0, f4_1⟩ := (BX.out.get 4 rfl).two
            have hcall := bRight_any M _ (lx.take (lx.length - n2)) w6 LW.out (ces_sub CX.out (fun e he => List.mem_of_mem_take he)) (sm_sub SMX.out (by rw [List.length_take]; have := SMX.out.1; omega) (fun e he => List.mem_of_mem_take he)) (HT.out.below HH.out) (HW.out.below HH.out)
            rw [show backB M (lx.take (lx.length - n2)) = true by have h := backB_iff.1 HBXR.out; rw [backB_iff]; exact ⟨h.1, by rw [List.length_take]; omega, keptB_sub h.2.2 (fun e he => List.mem_of_mem_take he)⟩] at hcall
            have HCALL := hid hcall
            clear hcall
            go_wp2_with fail
            with_reducible refine HCALL.out.mono ?_
            rintro e w7 ⟨rfl, hb⟩
            clear HCALL
            dsimp only
            clear k0_0 k0_1 f0_0 f0_1 k1_0 k1_1 f1_0 f1_1 k4_0 k4_1 f4_0 f4_1
            have L12 := hid (L1.out.below hb)
            have C12 := hid (C1.out.below hb)
            have L22 := hid (L2.out.below hb)
            have C22 := hid (C2.out.below hb)
            have LX2 := hid (LX.out.below hb)
            have CX2 := hid (CX.out.below hb)
            have SR2 := hid (SR.out.below hb)
            have TR2 := hid (TR.out.below hb)
            have LY2 := hid (LY.out.below hb)
            have LZ2 := hid (LZ.out.below hb)
            have LW2 := hid (LW.out.below hb)
            have LT2 := hid (LT.out.below hb)
            have UR2 := hid (UR.out.below hb)
            have HH2 := hid (HH.out.trans (hb.mono HH.out.size))
            have BX2 := hid (BX.out.below hb)
            clear L1 C1 L2 C2 LX CX SR TR LY LZ LW LT UR HH BX hb
            have L1 := hid L12.out
            have C1 := hid C12.out
            have L2 := hid L22.out
            have C2 := hid C22.out
            have LX := hid LX2.out
            have CX := hid CX2.out
            have SR := hid SR2.out
            have TR := hid TR2.out
            have LY := hid LY2.out
            have LZ := hid LZ2.out
            have LW := hid LW2.out
            have LT := hid LT2.out
            have UR := hid UR2.out
            have HH := hid HH2.out
            have BX := hid BX2.out
            clear L12 C12 L22 C22 LX2 CX2 SR2 TR2 LY2 LZ2 LW2 LT2 UR2 HH2 BX2
            obtain ⟨⟨k1_0, k1_1⟩, f1_0, f1_1⟩ := (BX.out.get 1 rfl).two
            obtain ⟨⟨k4_0, k4_1⟩, f4_0, f4_1⟩ := (BX.out.get 4 rfl).two
            have hcall := balive_any w7 (HT.out.below HH.out) (HW.out.below HH.out)
            have HCALL := hid hcall
            clear hcall
            go_wp2_with fail
            with_reducible refine HCALL.out.mono ?_
            rintro e w8 ⟨rfl, hb⟩
            clear HCALL
            dsimp only
            clear k1_0 k1_1 f1_0 f1_1 k4_0 k4_1 f4_0 f4_1
            have L12 := hid (L1.out.below hb)
            have C12 := hid (C1.out.below hb)
            have L22 := hid (L2.out.below hb)
            have C22 := hid (C2.out.below hb)
            have LX2 := hid (LX.out.below hb)
            have CX2 := hid (CX.out.below hb)
            have SR2 := hid (SR.out.below hb)
            have TR2 := hid (TR.out.below hb)
            have LY2 := hid (LY.out.below hb)
            have LZ2 := hid (LZ.out.below hb)
            have LW2 := hid (LW.out.below hb)
            have LT2 := hid (LT.out.below hb)
            have UR2 := hid (UR.out.below hb)
            have HH2 := hid (HH.out.trans (hb.mono HH.out.size))
            have BX2 := hid (BX.out.below hb)
            clear L1 C1 L2 C2 LX CX SR TR LY LZ LW LT UR HH BX hb
            have L1 := hid L12.out
            have C1 := hid C12.out
            have L2 := hid L22.out
            have C2 := hid C22.out
            have LX := hid LX2.out
            have CX := hid CX2.out
            have SR := hid SR2.out
            have TR := hid TR2.out
            have LY := hid LY2.out
            have LZ := hid LZ2.out
            have LW := hid LW2.out
            have LT := hid LT2.out
            have UR := hid UR2.out
            have HH := hid HH2.out
            have BX := hid BX2.out
            clear L12 C12 L22 C22 LX2 CX2 SR2 TR2 LY2 LZ2 LW2 LT2 UR2 HH2 BX2
            obtain ⟨⟨k1_0, k1_1⟩, f1_0, f1_1⟩ := (BX.out.get 1 rfl).two
            obtain ⟨⟨k4_0, k4_1⟩, f4_0, f4_1⟩ := (BX.out.get 4 rfl).two
            go_upto_region 12 with fail
            have hu' := HU.out
            have hend := HEND.out
            have hs0 := HS0.out
            have hxb : (xk : Int) ≤ 100 := by omega
            have hM2 : (M : Int) ≤ 100 := by omega
            have hn2c : (n2 : Int) ≤ 100 := hn2b
            have hcall := same_any _ _ (lastN n2 lx) (ll1.drop (n2 - M)) w8 LT.out UR.out (ces_sub CX.out (fun e he => lastN_mem he)) (ces_sub C2.out (fun e he => List.mem_of_mem_drop he)) (by rw [HLZ.out]) (Sm.sz (sm_sub SMX.out (by rw [lastN_length]; have := SMX.out.1; omega) (fun e he => lastN_mem he)))
            have HCALL := hid hcall
            clear hcall
            go_wp2_with fail
            with_reducible refine HCALL.out.mono ?_
            rintro e w9 ⟨rfl, hb⟩
            clear HCALL
            dsimp only
            clear k1_0 k1_1 f1_0 f1_1 k4_0 k4_1 f4_0 f4_1
            have L12 := hid (L1.out.below hb)
            have C12 := hid (C1.out.below hb)
            have L22 := hid (L2.out.below hb)
            have C22 := hid (C2.out.below hb)
            have LX2 := hid (LX.out.below hb)
            have CX2 := hid (CX.out.below hb)
            have SR2 := hid (SR.out.below hb)
            have TR2 := hid (TR.out.below hb)
            have LY2 := hid (LY.out.below hb)
            have LZ2 := hid (LZ.out.below hb)
            have LW2 := hid (LW.out.below hb)
            have LT2 := hid (LT.out.below hb)
            have UR2 := hid (UR.out.below hb)
            have HH2 := hid (HH.out.trans (hb.mono HH.out.size))
            have BX2 := hid (BX.out.below hb)
            clear L1 C1 L2 C2 LX CX SR TR LY LZ LW LT UR HH BX hb
            have L1 := hid L12.out
            have C1 := hid C12.out
            have L2 := hid L22.out
            have C2 := hid C22.out
            have LX := hid LX2.out
            have CX := hid CX2.out
            have SR := hid SR2.out
            have TR := hid TR2.out
            have LY := hid LY2.out
            have LZ := hid LZ2.out
            have LW := hid LW2.out
            have LT := hid LT2.out
            have UR := hid UR2.out
            have HH := hid HH2.out
            have BX := hid BX2.out
            clear L12 C12 L22 C22 LX2 CX2 SR2 TR2 LY2 LZ2 LW2 LT2 UR2 HH2 BX2
            obtain ⟨⟨k1_0, k1_1⟩, f1_0, f1_1⟩ := (BX.out.get 1 rfl).two
            obtain ⟨⟨k4_0, k4_1⟩, f4_0, f4_1⟩ := (BX.out.get 4 rfl).two
            go_wp2
            go_ret
            exact ⟨rfl, HH.out⟩
end Go.Proofs.YtdpicbfpjnampaaDoor
