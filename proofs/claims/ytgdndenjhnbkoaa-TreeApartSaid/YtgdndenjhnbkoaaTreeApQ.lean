/- Layer 11: the law TreeApart. -/
import Derived.Test.YtgdndenjhnbkoaaTreeWQ
namespace Go.Proofs.Ytgdndenjhnbkoaa
open Go.RowKit

theorem rc_cells' (w : World) : (sizeOf (Try.prog.elem 27)).run Try.prog w = .ok 5 w := by
  obtain ⟨i0, hi, _, hz1, _⟩ := info_parts rc_info
  rw [show Try.prog.elem 27 = 32 by simp [Program.elem, Try.underlying27]]
  simp [sizeOf, typeInfo, hi, hz1]
theorem slice_q (g n c k : Nat) (hk : k ≤ n) (hc : n ≤ c) (hn : 0 < n) (w : World) : (Instr.sliceAt 27 (.slice (some ⟨g, 0, none⟩) n c) none (some (.int .i64 k)) none).run Try.prog w = .ok (.slice (some ⟨g, 0, none⟩) k c) w := by
  rw [run_sliceAt_slice w _ _ _ _ _ Try.underlying27, run_slice_h w 27 _ _ c Try.underlying27 .i64 k (by omega) (by omega), rc_cells']
  simp only [Result.andThen, Int.toNat_natCast, sliced, Nat.sub_zero]
  rw [if_neg (by omega)]
  congr 2
set_option maxRecDepth 100000 in
set_option maxHeartbeats 8000000 in
theorem apart_any (t : Tr) (kA : Option Addr) (km kc : Nat) (kk kp ks w h : Int) (W : World) (hkk : t.kind = kk) (hkp : t.pane = kp) (hks : t.size = ks) (ht : TrAt W t (.slice kA km kc)) :
    Calls Try.prog 3 #[.agg #[.int .i64 kk, .int .i64 kp, .int .i64 ks, .slice kA km kc], .int .i64 w, .int .i64 h] W fun e w' => e = .returned (.bool true) ∧ Below W.heap.size W w' := by
  have hba := below_alloc W (.cells #[.int .i64 kk, .int .i64 kp, .int .i64 ks, .slice kA km kc] 24)
  have hbx := Box.new W 24 #[.int .i64 kk, .int .i64 kp, .int .i64 ks, .slice kA km kc]
  have HC := hid (count_any (cntT t) t kA km kc kk kp ks 60 _ (Nat.le_refl _) hkk hkp hks (ht.below hba) (by omega) (by omega))
  have HA := hid alive11_any
  have HB := hid hba
  have HX := hid hbx
  by_cases hc : 60 < cntM 60 t
  · obtain ⟨cm, hcm⟩ : ∃ cm, cntM 60 t = cm := ⟨_, rfl⟩
    rw [hcm] at hc HC
    clear hba hbx ht
    go_enter Try.func3, Try.ntmps3
    go_wp2_with (first | ((with_reducible refine HC.out.mono ?_); rintro e w2 ⟨rfl, hb2⟩) | ((with_reducible refine (HA.out _).mono ?_); rintro e w3 ⟨rfl, hb3⟩))
    go_ret
    have h2 := HB.out.trans (hb2.mono HB.out.size)
    exact ⟨rfl, h2.trans (hb3.mono h2.size)⟩
  · have hct : cntT t ≤ 1000 := by
      have := cntM_is t 60 (by omega) (by omega)
      omega
    have HR := hid (fun W' (hb : Below W.heap.size W W') => rectsP_any t kA km kc kk kp ks w h W' hkk hkp hks (ht.below hb) hct)
    obtain ⟨cm, hcm⟩ : ∃ cm, cntM 60 t = cm := ⟨_, rfl⟩
    rw [hcm] at hc HC
    have HL := hid (fun hr => rects_lie (t := t) (w := w) (h := h) hct hr)
    clear hba hbx ht hcm hct
    go_enter Try.func3, Try.ntmps3
    go_upto_region 3 with ((with_reducible refine HC.out.mono ?_); rintro e w2 ⟨rfl, hb2⟩)
    have HB2 := hid (HB.out.trans (hb2.mono HB.out.size))
    obtain ⟨k0, k1, k2, k3⟩ := (HX.out.below hb2 HX.out.lt).four.1
    have HR2 := hid (HR.out w2 HB2.out)
    clear HR HC hb2 HX
    go_upto_region 4 with ((with_reducible refine HR2.out.mono ?_); rintro e w3 ⟨hb3, hx⟩; obtain ⟨v3, e3, rfl, hx3⟩ : ∃ v3 e3, e = .returned (.tuple #[v3, .int .i64 e3]) ∧ ((e3 = 1 ∧ v3 = .slice none 0 0) ∨ (e3 = 0 ∧ rightB t w h = true ∧ ∃ base, w2.heap.size ≤ base ∧ OwnQ w3 base v3 (rectsT t w h))) := (by
      rcases hx with ⟨_, rfl⟩ | ⟨hr, v, base, rfl, hbs, ho⟩
      · exact ⟨_, _, rfl, .inl ⟨rfl, rfl⟩⟩
      · exact ⟨_, _, rfl, .inr ⟨rfl, hr, base, hbs, ho⟩⟩))
    have HB3 := hid (HB2.out.trans (hb3.mono HB2.out.size))
    clear HB2 hb3 k0 k1 k2 k3 hx HR2
    rcases hx3 with ⟨rfl, rfl⟩ | ⟨rfl, hr, base, hbs, ho⟩
    · go_wp2_with ((with_reducible refine (HA.out _).mono ?_); rintro e w4 ⟨rfl, hb4⟩)
      go_ret
      exact ⟨rfl, HB3.out.trans (hb4.mono HB3.out.size)⟩
    · obtain ⟨hin, hap, hl1, hl8, hw80, hh50⟩ := HL.out hr
      obtain ⟨rl, hrl⟩ : ∃ rl, rectsT t w h = rl := ⟨_, rfl⟩
      rw [hrl] at hin hap hl1 hl8 ho
      obtain ⟨g, rc, hv, hbg, hg, hrc, hcell⟩ := ho.row (by intro e; rw [e] at hl1; simp at hl1)
      subst hv
      obtain ⟨n, hn⟩ : ∃ n, rl.length = n := ⟨_, rfl⟩
      rw [hn] at hrc hl1 hl8 ⊢
      have HIN := hid hin
      have HAP := hid hap
      have HCE := hid hcell
      have HN := hid hn
      have hn8 : (n : Int) ≤ 8 := by omega
      clear hin hap hcell ho HL hrl hn hr
      go_wp2_with fail
      go_loopw [35] (fun i wr => ∃ k : Nat, i = .int .i64 k ∧ k ≤ n ∧ Below w3.heap.size w3 wr) (fun i _ => n - (intOf i).toNat)
      case atStart => exact ⟨0, rfl, Nat.zero_le _, Below.refl _ _⟩
      case round =>
        obtain ⟨k, rfl, hkn, hbr⟩ := hrel
        obtain ⟨wo, rfl⟩ : ∃ wo : World, wo = wr := ⟨_, rfl⟩
        by_cases hk : k < n
        · have hki : (k : Int) < n := by omega
          have hkl : k < rl.length := by rw [HN.out]; exact hk
          obtain ⟨qa, hqa⟩ : ∃ qa, rl[k]? = some qa := ⟨_, List.getElem?_eq_getElem hkl⟩
          obtain ⟨i1, i2, i3, i4, i5, i6⟩ := HIN.out qa (List.mem_of_getElem? hqa)
          have a0 : wo.cell? ⟨g, k * 5, none⟩ = some (.int .i64 qa.pane) := (hbr.cell (p := ⟨g, k * 5, none⟩) hg).trans (HCE.out k qa 0 _ hqa rfl)
          have a1 : wo.cell? ⟨g, k * 5 + 1, none⟩ = some (.int .i64 qa.x) := (hbr.cell (p := ⟨g, k * 5 + 1, none⟩) hg).trans (HCE.out k qa 1 _ hqa rfl)
          have a2 : wo.cell? ⟨g, k * 5 + 2, none⟩ = some (.int .i64 qa.y) := (hbr.cell (p := ⟨g, k * 5 + 2, none⟩) hg).trans (HCE.out k qa 2 _ hqa rfl)
          have a3 : wo.cell? ⟨g, k * 5 + 3, none⟩ = some (.int .i64 qa.w) := (hbr.cell (p := ⟨g, k * 5 + 3, none⟩) hg).trans (HCE.out k qa 3 _ hqa rfl)
          have a4 : wo.cell? ⟨g, k * 5 + 4, none⟩ = some (.int .i64 qa.h) := (hbr.cell (p := ⟨g, k * 5 + 4, none⟩) hg).trans (HCE.out k qa 4 _ hqa rfl)
          have hsl := slice_q g n rc k (by omega) hrc (by omega)
          have hAPK := hid (fun (j : Nat) (q : Rc) (hj : j < k) (hq : rl[j]? = some q) => (by
            obtain ⟨hlt, rfl⟩ := List.getElem?_eq_some_iff.1 hq
            obtain ⟨hlt2, rfl⟩ := List.getElem?_eq_some_iff.1 hqa
            exact List.pairwise_iff_getElem.1 HAP.out j k hlt hlt2 hj : q.apart qa))
          obtain ⟨ap, ax, ay, aw, ah⟩ := qa
          simp only at i1 i2 i3 i4 i5 i6 a0 a1 a2 a3 a4
          have d1 : decide (ax < 0) = false := decide_eq_false (by omega)
          have d2 : decide (ay < 0) = false := decide_eq_false (by omega)
          have d3 : decide (aw < 1) = false := decide_eq_false (by omega)
          have d4 : decide (ah < 1) = false := decide_eq_false (by omega)
          have d5 : decide (w < ax + aw) = false := decide_eq_false (by omega)
          have d6 : decide (h < ay + ah) = false := decide_eq_false (by omega)
          have HBA := hid (hbr.alloc hbr.size (.cells #[.int .i64 ap, .int .i64 ax, .int .i64 ay, .int .i64 aw, .int .i64 ah] 32))
          have hbxa := Box.new wo 32 #[.int .i64 ap, .int .i64 ax, .int .i64 ay, .int .i64 aw, .int .i64 ah]
          have HXA := hid hbxa
          have hgo : g < wo.heap.size := Nat.lt_of_lt_of_le hg hbr.size
          clear hbr hqa hkl hbxa
          go_wp2_with fail
          go_loopw [80] (fun i wr => ∃ j : Nat, i = .int .i64 j ∧ j ≤ k ∧ Below (wo.alloc (.cells #[.int .i64 ap, .int .i64 ax, .int .i64 ay, .int .i64 aw, .int .i64 ah] 32)).heap.size (wo.alloc (.cells #[.int .i64 ap, .int .i64 ax, .int .i64 ay, .int .i64 aw, .int .i64 ah] 32)) wr) (fun i _ => k - (intOf i).toNat)
          case atStart => exact ⟨0, rfl, Nat.zero_le _, Below.refl _ _⟩
          case round =>
            obtain ⟨j, rfl, hjk, hbr2⟩ := hrel
            have hx2 := HXA.out.below hbr2 HXA.out.lt
            have HBX := hid (HBA.out.trans (hbr2.mono HBA.out.size))
            by_cases hj : j < k
            · have hji : (j : Int) < k := by omega
              have hjl : j < rl.length := by rw [HN.out]; omega
              obtain ⟨qb, hqb⟩ : ∃ qb, rl[j]? = some qb := ⟨_, List.getElem?_eq_getElem hjl⟩
              obtain ⟨n1, n2, n3, n4, n5, n6⟩ := HIN.out qb (List.mem_of_getElem? hqb)
              have hd := hAPK.out j qb hj hqb
              have b0 : wr.cell? ⟨g, j * 5, none⟩ = some (.int .i64 qb.pane) := (HBX.out.cell (p := ⟨g, j * 5, none⟩) hg).trans (HCE.out j qb 0 _ hqb rfl)
              have b1 : wr.cell? ⟨g, j * 5 + 1, none⟩ = some (.int .i64 qb.x) := (HBX.out.cell (p := ⟨g, j * 5 + 1, none⟩) hg).trans (HCE.out j qb 1 _ hqb rfl)
              have b2 : wr.cell? ⟨g, j * 5 + 2, none⟩ = some (.int .i64 qb.y) := (HBX.out.cell (p := ⟨g, j * 5 + 2, none⟩) hg).trans (HCE.out j qb 2 _ hqb rfl)
              have b3 : wr.cell? ⟨g, j * 5 + 3, none⟩ = some (.int .i64 qb.w) := (HBX.out.cell (p := ⟨g, j * 5 + 3, none⟩) hg).trans (HCE.out j qb 3 _ hqb rfl)
              have b4 : wr.cell? ⟨g, j * 5 + 4, none⟩ = some (.int .i64 qb.h) := (HBX.out.cell (p := ⟨g, j * 5 + 4, none⟩) hg).trans (HCE.out j qb 4 _ hqb rfl)
              obtain ⟨bp, bx, bY, bw, bh⟩ := qb
              simp only [Rc.apart] at n1 n2 n3 n4 n5 n6 b0 b1 b2 b3 b4 hd
              have HB2 := hid (hbr2.alloc hbr2.size (.cells #[.int .i64 bp, .int .i64 bx, .int .i64 bY, .int .i64 bw, .int .i64 bh] 32))
              obtain ⟨⟨x0, x1, x2, x3, x4⟩, _⟩ := hx2.five
              have hlx := hx2.lt
              clear hx2 HBX hjl
              by_cases c1 : ax + aw < bx
              · have e1 : decide (ax + aw < bx) = true := decide_eq_true c1
                clear hbr2 hqb hd
                go_wp2
                go_roundw
                case rel => exact ⟨j + 1, by go_num, by omega, HB2.out⟩
                case measure => simp [intOf]; omega
              · have e1 : decide (ax + aw < bx) = false := decide_eq_false c1
                by_cases c2 : bx + bw < ax
                · have e2 : decide (bx + bw < ax) = true := decide_eq_true c2
                  clear hbr2 hqb hd
                  go_wp2
                  go_roundw
                  case rel => exact ⟨j + 1, by go_num, by omega, HB2.out⟩
                  case measure => simp [intOf]; omega
                · have e2 : decide (bx + bw < ax) = false := decide_eq_false c2
                  by_cases c3 : ay + ah < bY
                  · have e3 : decide (ay + ah < bY) = true := decide_eq_true c3
                    clear hbr2 hqb hd
                    go_wp2
                    go_roundw
                    case rel => exact ⟨j + 1, by go_num, by omega, HB2.out⟩
                    case measure => simp [intOf]; omega
                  · have e3 : decide (ay + ah < bY) = false := decide_eq_false c3
                    have c4 : bY + bh < ay := by omega
                    have e4 : decide (bY + bh < ay) = true := decide_eq_true c4
                    clear hbr2 hqb hd
                    go_wp2
                    go_roundw
                    case rel => exact ⟨j + 1, by go_num, by omega, HB2.out⟩
                    case measure => simp [intOf]; omega
            · have hjk' : j = k := by omega
              subst hjk'
              have hle := HBX.out
              clear hbr2 hx2 HBX hj
              go_wp2
              go_roundw
              case rel => exact ⟨j + 1, by go_num, by omega, hle⟩
              case measure => simp [intOf]; omega
        · have hkn' : k = n := by omega
          subst hkn'
          have hge : decide ((1 : Int) ≤ k) = true := decide_eq_true (by omega)
          have hge' : (1 : Int) ≤ k := by omega
          have HBR := hid (HB3.out.trans (hbr.mono HB3.out.size))
          clear hbr hk
          go_wp2_with ((with_reducible refine (HA.out _).mono ?_); rintro e w4 ⟨rfl, hb4⟩)
          go_ret
          exact ⟨rfl, HBR.out.trans (hb4.mono HBR.out.size)⟩
end Go.Proofs.Ytgdndenjhnbkoaa
