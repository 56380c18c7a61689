/- Layer 8, the reference: Flow. -/
/- The law FlowFolds, walked. Made by wip/gen/flowFd.py. -/
import Derived.Test.YtkejoknphnkhnaaDoorFlowKQ
import Derived.Test.YtkejoknphnkhnaaDoorFlowSbQ
import Derived.Deep.DeepCutAuto
namespace Go.Proofs.YtkejoknphnkhnaaDoor
open Go.RowKit

theorem OwnR.not_ln {W : World} {base base' : Nat} {v v' : Value} {rv : List (List Ce × Value)} {l : List (Ln × Value)} (h : OwnR W base v rv) (hr : OwnL W base' v' l) : v.ownBlock = none ∨ v.ownBlock ≠ v'.ownBlock := by
  rcases h.2 with ⟨rfl, _⟩ | ⟨g, cap, cur, rfl, _, hg, _⟩
  · exact .inl rfl
  · right
    rcases hr.2 with ⟨rfl, _⟩ | ⟨g', cap', cur', rfl, _, hg', _⟩
    · simp [Value.ownBlock]
    · simp only [Value.ownBlock, ne_eq, Option.some.injEq]
      rintro rfl
      rw [hg] at hg'
      cases hg'
def FvRel (W wr : World) (C : Nat) (rs : List (List Ce)) (v3 : Value) (rv : List (List Ce × Value)) (k : Nat) (ov : Value) : Prop :=
  ∃ lines, OwnL wr W.heap.size ov lines ∧ (∀ e ∈ lines, CSl wr W.heap.size e.2 e.1.cs) ∧ lines.map Prod.fst = ((rs.take k).map (foldP C)).flatten ∧ Below W.heap.size W wr ∧ OwnR wr W.heap.size v3 rv ∧ RvC wr W.heap.size rv
theorem fv_step {W wr w2 w7 : World} {C : Nat} {rs : List (List Ce)} {v3 : Value} {rv : List (List Ce × Value)} {k : Nat} {ov v7 : Value} {lines ll : List (Ln × Value)} {r : List Ce} (h1 : OwnL wr W.heap.size ov lines) (h2 : ∀ e ∈ lines, CSl wr W.heap.size e.2 e.1.cs) (h3 : lines.map Prod.fst = ((rs.take k).map (foldP C)).flatten) (h4 : Below W.heap.size W wr)
    (h5 : OwnR wr W.heap.size v3 rv) (h6 : RvC wr W.heap.size rv) (hx : rs[k]? = some r) (hb : Below wr.heap.size wr w2) (hl : ll.map Prod.fst = foldP C r) (hc : ∀ e ∈ ll, CSl w2 wr.heap.size e.2 e.1.cs) (h7 : OwnL w7 W.heap.size v7 (lines ++ ll)) (hg : w2.grownBy w7 ov.ownBlock) : FvRel W w7 C rs v3 rv (k + 1) v7 := by
  have o2 := h1.kept hb
  refine ⟨_, h7, fun e he => ?_, ?_, ?_, World.ownsRow.kept (h5.kept hb) hg ((h5.kept hb).not_ln o2), fun e he => ((h6 e he).below hb (Nat.le_refl _)).grown o2 hg⟩
  · rw [List.mem_append] at he
    rcases he with he | he
    · exact ((h2 e he).below hb (Nat.le_refl _)).grown o2 hg
    · exact ((hc e he).mono h4.size).grown o2 hg
  · rw [List.map_append, h3, hl, take_snoc hx, List.map_append, List.flatten_append]
    simp
  · exact (h4.trans (hb.mono h4.size)).grown hg (Nat.le_trans h4.size hb.size) fun q hq => (World.ownsRow.lt o2 q hq).1
set_option maxRecDepth 100000 in
set_option maxHeartbeats 4000000 in
theorem rFlow_any (v : Value) (lv : List (Ln × Value)) (C : Nat) (W : World) (hf : Fl W v lv) (hk : keptB lv = true) (hC1 : 1 ≤ C) (hC2 : C ≤ 80) :
    Calls Tryd.prog 35 #[v, .int .i64 (C : Int)] W (FoPost W (flowP C (lv.map Prod.fst))) := by
  have hj := fun W' (hb : Below W.heap.size W W') => rJoin_any v lv W' (hf.below hb).lr (hf.below hb).ces hf.n hf.c
  obtain ⟨hro1, hro2, hro3⟩ := hf.rows hk
  obtain ⟨A, c, rfl⟩ := hf.lr.spell
  obtain ⟨rs, hrs⟩ : ∃ rs, joinP (lv.map Prod.fst) = rs := ⟨_, rfl⟩
  unfold flowP FoPost
  rw [hrs] at hj hro1 hro2 hro3 ⊢
  have h0 := below_alloc W (.cells #[] 61)
  have hl0 := OwnL.lit0 (W := W) (base := W.heap.size) (Nat.le_refl _)
  have HJ := hid hj
  have H0 := hid h0
  have HL0 := hid hl0
  have HR1 := hid hro1
  clear hj h0 hl0 hro1 hf hk hrs
  go_enter Tryd.func35, Tryd.ntmps35
  go_wp2_with fail
  with_reducible refine (HJ.out _ H0.out).mono ?_
  rintro e wj ⟨v3, rv, rfl, h1, h2, h3, hb3⟩
  dsimp only
  have hst : FvRel W wj C rs v3 rv 0 (.slice (some ⟨W.heap.size, 0, none⟩) 0 0) := ⟨[], HL0.out.kept hb3, fun e he => by simp at he, rfl, H0.out.trans (hb3.mono H0.out.size), world_own h2 H0.out.size, fun e he => (h3 e he).mono H0.out.size⟩
  obtain ⟨A3, c3, rfl⟩ := h2.spell
  obtain ⟨n, hn⟩ : ∃ n, rv.length = n := ⟨_, rfl⟩
  have hrl : rs.length = n := by rw [← h1, List.length_map, hn]
  have hni : n ≤ 200 := by omega
  rw [hn] at hst ⊢
  have HN := hid hn
  have H1 := hid h1
  have HST := hid hst
  clear h1 h2 h3 hn hb3 hst HJ HL0
  go_wp2
  go_loopw [5, 12] (fun ov i wr => ∃ k : Nat, k ≤ n ∧ i = .int .i64 k ∧ FvRel W wr C rs (.slice A3 n c3) rv k ov) (fun _ i _ => n - (intOf i).toNat)
  case atStart => exact ⟨0, by omega, rfl, HST.out⟩
  case round =>
    obtain ⟨k, hk, rfl, lines, q1, q2, q3, q4, q5, q6⟩ := hrel
    obtain ⟨lA, lc, hlv⟩ := q1.spell
    obtain ⟨ln, hln⟩ : ∃ ln, lines.length = ln := ⟨_, rfl⟩
    rw [hln] at hlv
    subst hlv
    have hlen : ln ≤ 20200 := by
      have t1 := flat_len (rs := rs.take k) C (fun r hr => (HR1.out r (List.mem_of_mem_take hr)).1)
      have t2 := sumL_take rs k
      rw [← q3, List.length_map, hln, List.length_take] at t1
      omega
    by_cases hlt : k < n
    · have hki : (k : Int) < n := by omega
      have hkb : (k : Int) ≤ 200 := by omega
      have hkl : k < rv.length := by rw [HN.out]; exact hlt
      have hx := List.getElem?_eq_getElem hkl
      obtain ⟨A', c', e', hcap, hRR⟩ := q5.row
      rw [HN.out] at e' hcap
      cases e'
      obtain ⟨g, o, rfl, hg, hcell⟩ := hRR (by intro e; rw [e] at hkl; simp at hkl)
      have p0 := hcell k _ hx
      have hce := (q6 rv[k] (List.getElem_mem _)).row
      have hxl : rs[k]? = some (rv[k]).1 := by rw [← H1.out, List.getElem?_map, hx]; rfl
      have hrk := HR1.out (rv[k]).1 (List.mem_of_getElem? hxl)
      have hrl2 : (rv[k]).1.length ≤ 20000 := by
        have : sumL (rs.take (k + 1)) = sumL (rs.take k) + (rv[k]).1.length := by rw [take_snoc hxl, sumL_snoc]
        have := sumL_take rs (k + 1)
        omega
      generalize rv[k] = x at *
      obtain ⟨cs, cv⟩ := x
      simp only at p0 hce hxl hrk hrl2
      have hfo := rFold_any cv cs C wr hce hrk.1 (by omega) hC1 hC2
      obtain ⟨cA, cc, rfl⟩ := hce.spell
      have hcl := foldP_len_le C hrk.1
      have HFO := hid hfo
      have Q1 := hid q1
      have Q2 := hid q2
      have Q3 := hid q3
      have Q4 := hid q4
      have Q5 := hid q5
      have Q6 := hid q6
      have HXL := hid hxl
      have HLN := hid hln
      have hwj := q4.size
      clear hfo q1 q2 q3 q4 q5 q6 hxl hln hce hrk hx hcell hRR hg
      go_wp2_with fail
      with_reducible refine HFO.out.mono ?_
      rintro e w2 ⟨v2, ll, rfl, f1, f2, f3, hb2⟩
      dsimp only
      have hll : ll.length ≤ 20001 := by have := congrArg List.length f1; rw [List.length_map] at this; omega
      obtain ⟨m2, hm2⟩ : ∃ m2, ll.length = m2 := ⟨_, rfl⟩
      have HLL := hid hm2
      rw [hm2] at hll
      clear hm2
      have hlr2 := f2.lsl.row
      have hcs2 : CesOf w2 ll := fun e he => (f3 e he).row
      have ho2 := Q1.out.kept hb2
      have HLR := hid hlr2
      have HCS := hid hcs2
      have HO2 := hid ho2
      have F1 := hid f1
      have F3 := hid f3
      have HB2 := hid hb2
      have hw2 : W.heap.size ≤ w2.heap.size := Nat.le_trans hwj hb2.size
      clear hlr2 hcs2 ho2 f1 f2 f3 hb2
      go_wp2_with (at_builtin; refine wpList_append_ln rfl _ _ rfl W.heap.size _ _ lines ll rfl HO2.out rfl HLR.out HCS.out (by rw [HLN.out, HLL.out]; omega) hw2 ?_; intro v7 w7 g1 g2; obtain ⟨A7, c7, hv7⟩ := g1.spell; rw [List.length_append, HLN.out, HLL.out] at hv7; subst hv7; have G1 := hid g1; have G2 := hid g2; clear g1 g2)
      go_roundw
      case rel => exact ⟨k + 1, by omega, by go_num, fv_step Q1.out Q2.out Q3.out Q4.out Q5.out Q6.out HXL.out HB2.out F1.out F3.out G1.out G2.out⟩
      case measure => simp [intOf]; omega
    · have hkn : k = n := by omega
      subst hkn
      have htk : rs.take k = rs := by rw [← hrl]; exact List.take_length
      rw [htk] at q3
      have HFIN : Hid (∃ v' lv', Ending.returned (.slice lA ln lc) = .returned v' ∧ lv'.map Prod.fst = (rs.map (foldP C)).flatten ∧ OwnL wr W.heap.size v' lv' ∧ (∀ x ∈ lv', CSl wr W.heap.size x.2 x.1.cs) ∧ Below W.heap.size W wr) := ⟨_, lines, rfl, q3, q1, q2, q4⟩
      clear q1 q2 q3 q4 q5 q6 hlt htk hln
      go_wp2
      go_ret
      exact HFIN.out
end Go.Proofs.YtkejoknphnkhnaaDoor

namespace Go.Proofs.YtkejoknphnkhnaaDoor
open Go.RowKit

set_option maxRecDepth 100000 in
set_option maxHeartbeats 8000000 in
theorem folds_no (vc v : Value) (cr : List Ce) (lv : List (Ln × Value)) (W : World) (cols : Int) (hcb : colsB cols = false) (hcr : CeRow W vc cr) (hcn : (cr.length : Int) ≤ 9223372036854775807) (hct : ∀ c ∈ cr, (c.tx.size : Int) ≤ 9223372036854775807) (hr : LR W v lv) (hc : CesOf W lv) (hn : (lv.length : Int) ≤ 9223372036854775807)
    (hl : ∀ e ∈ lv, (e.1.cs.length : Int) ≤ 9223372036854775807 ∧ ∀ c ∈ e.1.cs, (c.tx.size : Int) ≤ 9223372036854775807) (hT : Tab W) (hW : TabW W) :
    Calls Tryd.prog 5 #[vc, v, .int .i64 cols] W fun e w' => e = .returned (.bool true) ∧ Below W.heap.size W w' := by
  have hcel : Calls Tryd.prog 30 #[vc, .int .i64 200] W (Cut8Post W (cutN8 200 cr)) := cells_any vc cr 200 W hcr hcn hct (by omega)
  have hfew := fun W' (hb : Below W.heap.size W W') => few8_any v lv W' (hr.below hb) (hc.below hb) hn hl
  obtain ⟨A0, c0, rfl⟩ := hr.spell
  obtain ⟨B0, d0, rfl⟩ := hcr.spell
  obtain ⟨n0, hn0⟩ : ∃ n0, lv.length = n0 := ⟨_, rfl⟩
  obtain ⟨m0, hm0⟩ : ∃ m0, cr.length = m0 := ⟨_, rfl⟩
  rw [hn0] at hfew ⊢
  rw [hm0] at hcel ⊢
  have htx := cut8_tx (most := 200) (l := cr)
  have hlen := cut8_len 200 cr
  obtain ⟨row, hrow⟩ : ∃ row, cutN8 200 cr = row := ⟨_, rfl⟩
  rw [hrow] at hcel htx hlen
  have HC := hid hcel
  have HF := hid hfew
  have HT := hid hT
  have HW := hid hW
  have HTX := hid htx
  clear hfew hcel hr hc hn hl hT hW hn0 hcr hcn hct hm0 htx hrow
  go_enter Tryd.func5, Tryd.ntmps5
  go_wp2_with fail
  with_reducible refine HC.out.mono ?_
  rintro e w0 ⟨v0, rfl, hr0, hb0⟩
  dsimp only
  obtain ⟨rA, rc, rfl⟩ := hr0.spell
  have HR0 := hid hr0
  have HF2 := hid (HF.out _ hb0)
  have HB0 := hid hb0
  obtain ⟨rn, hrn⟩ : ∃ rn, row.length = rn := ⟨_, rfl⟩
  rw [hrn] at hr0 hlen ⊢
  have HR0 := hid hr0
  have HRN := hid hrn
  clear HC HF hr0 hb0 hrn
  go_wp2_with fail
  with_reducible refine HF2.out.mono ?_
  rintro e w1 ⟨v1, lv1, rfl, hm1, hl1, hc1, hb1⟩
  dsimp only
  have hfl := few_fl hm1 hl1 hc1
  obtain ⟨A1, c1, rfl⟩ := hl1.spell
  obtain ⟨n, hn1⟩ : ∃ n, lv1.length = n := ⟨_, rfl⟩
  rw [hn1] at hfl ⊢
  have FL := hid hfl
  have HB := hid (HB0.out.trans (hb1.mono HB0.out.size))
  have HR := hid (HR0.out.row.below hb1)
  clear HF2 HR0 HB0 hm1 hl1 hc1 hb1 hfl hn1
  have hcall := fold_out _ row cols w1 HR.out HTX.out (by rw [HRN.out]; omega) (HT.out.below HB.out) (HW.out.below HB.out)
  rw [hcb, Bool.false_and] at hcall
  have HCALL := hid hcall
  clear hcall
  go_wp2_with fail
  with_reducible refine HCALL.out.mono ?_
  rintro e wn ⟨aA, ak, ac, an, rfl, hb, ha⟩
  dsimp only
  clear HCALL
  have FL2 := hid ((FL.out).below hb)
  have HR2 := hid ((HR.out).below hb)
  have HB2 := hid ((HB.out).trans (hb.mono (HB.out).size))
  clear FL HR HB
  have FL := hid FL2.out
  have HR := hid HR2.out
  have HB := hid HB2.out
  clear FL2 HR2 HB2
  rcases ha with ⟨h, _⟩ | ⟨_, rfl, hav⟩
  · cases h
  cases hav
  clear hb
  obtain ⟨w3, rfl⟩ : ∃ w3 : World, w3 = wn := ⟨_, rfl⟩
  have hcall := flow_out _ lv1 cols w3 FL.out (HT.out.below HB.out) (HW.out.below HB.out)
  rw [hcb, Bool.and_false] at hcall
  have HCALL := hid hcall
  clear hcall
  go_wp2_with fail
  with_reducible refine HCALL.out.mono ?_
  rintro e wn ⟨bA, bk, bc, bn, rfl, hb, ha⟩
  dsimp only
  clear HCALL
  have FL2 := hid ((FL.out).below hb)
  have HR2 := hid ((HR.out).below hb)
  have HB2 := hid ((HB.out).trans (hb.mono (HB.out).size))
  clear FL HR HB
  have FL := hid FL2.out
  have HR := hid HR2.out
  have HB := hid HB2.out
  clear FL2 HR2 HB2
  rcases ha with ⟨h, _⟩ | ⟨_, rfl, hav⟩
  · cases h
  cases hav
  clear hb
  obtain ⟨w4, rfl⟩ : ∃ w4 : World, w4 = wn := ⟨_, rfl⟩
  have hcd := of_decide_eq_false hcb
  go_upto_region 4 with fail
  go_cut [11] (fun b wx => b = .bool false ∧ w4 = wx)
  case first =>
    by_cases h1 : 1 ≤ cols
    · have h2 : ¬ cols ≤ 80 := fun h2 => hcd ⟨h1, h2⟩
      clear hcd
      go_wp2_with fail
      go_meet
      exact ⟨rfl, rfl⟩
    · clear hcd
      go_wp2_with fail
      go_meet
      exact ⟨rfl, rfl⟩
  case rest =>
    obtain ⟨rfl, rfl⟩ := hcut
    clear hcd
    have hcall := flAlive _ (HT.out.below HB.out) (HW.out.below HB.out)
    have HCALL := hid hcall
    clear hcall
    go_wp2_with fail
    with_reducible refine HCALL.out.mono ?_
    rintro e wn ⟨rfl, hb⟩
    dsimp only
    clear HCALL
    have FL2 := hid ((FL.out).below hb)
    have HR2 := hid ((HR.out).below hb)
    have HB2 := hid ((HB.out).trans (hb.mono (HB.out).size))
    clear FL HR HB
    have FL := hid FL2.out
    have HR := hid HR2.out
    have HB := hid HB2.out
    clear FL2 HR2 HB2
    go_wp2
    go_ret
    exact ⟨rfl, HB.out⟩
set_option maxRecDepth 100000 in
set_option maxHeartbeats 8000000 in
theorem folds_yes (vc v : Value) (cr : List Ce) (lv : List (Ln × Value)) (W : World) (C : Nat) (hC1 : 1 ≤ C) (hC2 : C ≤ 80) (hcr : CeRow W vc cr) (hcn : (cr.length : Int) ≤ 9223372036854775807) (hct : ∀ c ∈ cr, (c.tx.size : Int) ≤ 9223372036854775807) (hr : LR W v lv) (hc : CesOf W lv) (hn : (lv.length : Int) ≤ 9223372036854775807)
    (hl : ∀ e ∈ lv, (e.1.cs.length : Int) ≤ 9223372036854775807 ∧ ∀ c ∈ e.1.cs, (c.tx.size : Int) ≤ 9223372036854775807) (hT : Tab W) (hW : TabW W) :
    Calls Tryd.prog 5 #[vc, v, .int .i64 (C : Int)] W fun e w' => e = .returned (.bool true) ∧ Below W.heap.size W w' := by
  have hcel : Calls Tryd.prog 30 #[vc, .int .i64 200] W (Cut8Post W (cutN8 200 cr)) := cells_any vc cr 200 W hcr hcn hct (by omega)
  have hfew := fun W' (hb : Below W.heap.size W W') => few8_any v lv W' (hr.below hb) (hc.below hb) hn hl
  obtain ⟨A0, c0, rfl⟩ := hr.spell
  obtain ⟨B0, d0, rfl⟩ := hcr.spell
  obtain ⟨n0, hn0⟩ : ∃ n0, lv.length = n0 := ⟨_, rfl⟩
  obtain ⟨m0, hm0⟩ : ∃ m0, cr.length = m0 := ⟨_, rfl⟩
  rw [hn0] at hfew ⊢
  rw [hm0] at hcel ⊢
  have htx := cut8_tx (most := 200) (l := cr)
  have hlen := cut8_len 200 cr
  obtain ⟨row, hrow⟩ : ∃ row, cutN8 200 cr = row := ⟨_, rfl⟩
  rw [hrow] at hcel htx hlen
  have HC := hid hcel
  have HF := hid hfew
  have HT := hid hT
  have HW := hid hW
  have HTX := hid htx
  clear hfew hcel hr hc hn hl hT hW hn0 hcr hcn hct hm0 htx hrow
  go_enter Tryd.func5, Tryd.ntmps5
  go_wp2_with fail
  with_reducible refine HC.out.mono ?_
  rintro e w0 ⟨v0, rfl, hr0, hb0⟩
  dsimp only
  obtain ⟨rA, rc, rfl⟩ := hr0.spell
  have HR0 := hid hr0
  have HF2 := hid (HF.out _ hb0)
  have HB0 := hid hb0
  obtain ⟨rn, hrn⟩ : ∃ rn, row.length = rn := ⟨_, rfl⟩
  rw [hrn] at hr0 hlen ⊢
  have HR0 := hid hr0
  have HRN := hid hrn
  clear HC HF hr0 hb0 hrn
  go_wp2_with fail
  with_reducible refine HF2.out.mono ?_
  rintro e w1 ⟨v1, lv1, rfl, hm1, hl1, hc1, hb1⟩
  dsimp only
  have hfl := few_fl hm1 hl1 hc1
  obtain ⟨A1, c1, rfl⟩ := hl1.spell
  obtain ⟨n, hn1⟩ : ∃ n, lv1.length = n := ⟨_, rfl⟩
  rw [hn1] at hfl ⊢
  have FL := hid hfl
  have HB := hid (HB0.out.trans (hb1.mono HB0.out.size))
  have HR := hid (HR0.out.row.below hb1)
  clear HF2 HR0 HB0 hm1 hl1 hc1 hb1 hfl hn1
  have hCi : 1 ≤ (C : Int) := by omega
  have hCj : (C : Int) ≤ 80 := by omega
  obtain ⟨OK, hOK⟩ : ∃ OK, okR row = OK := ⟨_, rfl⟩
  obtain ⟨KB, hKB⟩ : ∃ KB, keptB lv1 = KB := ⟨_, rfl⟩
  have hmay := FL.out.may
  rw [hKB] at hmay
  have HOK := hid hOK
  have HKB := hid hKB
  have HMAY := hid hmay
  clear hOK hKB hmay
  have hcall := fold_out _ row (C : Int) w1 HR.out HTX.out (by rw [HRN.out]; omega) (HT.out.below HB.out) (HW.out.below HB.out)
  rw [HOK.out, colsB_c hC1 hC2, Bool.true_and, Int.toNat_natCast] at hcall
  have HCALL := hid hcall
  clear hcall
  go_wp2_with fail
  with_reducible refine HCALL.out.mono ?_
  rintro e wn ⟨aA, ak, ac, an, rfl, hb, ha⟩
  dsimp only
  clear HCALL
  have FL2 := hid ((FL.out).below hb)
  have HR2 := hid ((HR.out).below hb)
  have HB2 := hid ((HB.out).trans (hb.mono (HB.out).size))
  clear FL HR HB
  have FL := hid FL2.out
  have HR := hid HR2.out
  have HB := hid HB2.out
  clear FL2 HR2 HB2
  have HA := hid (fans ha)
  clear ha hb
  obtain ⟨w3, rfl⟩ : ∃ w3 : World, w3 = wn := ⟨_, rfl⟩
  have hcall := flow_out _ lv1 (C : Int) w3 FL.out (HT.out.below HB.out) (HW.out.below HB.out)
  rw [HKB.out, colsB_c hC1 hC2, Bool.and_true, Int.toNat_natCast] at hcall
  have HCALL := hid hcall
  clear hcall
  go_wp2_with fail
  with_reducible refine HCALL.out.mono ?_
  rintro e wn ⟨bA, bk, bc, bn, rfl, hb, hbf⟩
  dsimp only
  clear HCALL
  have FL2 := hid ((FL.out).below hb)
  have HR2 := hid ((HR.out).below hb)
  have HB2 := hid ((HB.out).trans (hb.mono (HB.out).size))
  have HA2 := hid ((HA.out).below hb)
  clear FL HR HB HA
  have FL := hid FL2.out
  have HR := hid HR2.out
  have HB := hid HB2.out
  have HA := hid HA2.out
  clear FL2 HR2 HB2 HA2
  have HF := hid (fans hbf)
  clear hbf hb
  obtain ⟨w4, rfl⟩ : ∃ w4 : World, w4 = wn := ⟨_, rfl⟩
  go_upto_region 5 with fail
  have hcall := rFits_any (rn : Int) _ row false w4 HR.out HTX.out (by rw [HRN.out]; omega)
  have hok := okR_fits row
  rw [HRN.out, HOK.out] at hok
  rw [hok] at hcall
  clear hok
  have HCALL := hid hcall
  clear hcall
  go_wp2_with fail
  with_reducible refine HCALL.out.mono ?_
  rintro e wn ⟨rfl, hb⟩
  dsimp only
  clear HCALL
  have FL2 := hid ((FL.out).below hb)
  have HR2 := hid ((HR.out).below hb)
  have HB2 := hid ((HB.out).trans (hb.mono (HB.out).size))
  have HA2 := hid ((HA.out).below hb)
  have HF2 := hid ((HF.out).below hb)
  clear FL HR HB HA HF
  have FL := hid FL2.out
  have HR := hid HR2.out
  have HB := hid HB2.out
  have HA := hid HA2.out
  have HF := hid HF2.out
  clear FL2 HR2 HB2 HA2 HF2
  clear hb
  obtain ⟨w5, rfl⟩ : ∃ w5 : World, w5 = wn := ⟨_, rfl⟩
  cases OK
  · rcases HA.out with ⟨h, _⟩ | ⟨_, rfl, hav⟩
    · cases h
    cases hav
    clear HA
    have hcall := rMay_any _ lv1 w5 FL.out.lr FL.out.ces FL.out.sm
    rw [HMAY.out] at hcall
    have HCALL := hid hcall
    clear hcall
    go_wp2_with fail
    with_reducible refine HCALL.out.mono ?_
    rintro e wn ⟨rfl, hb⟩
    dsimp only
    clear HCALL
    have FL2 := hid ((FL.out).below hb)
    have HR2 := hid ((HR.out).below hb)
    have HB2 := hid ((HB.out).trans (hb.mono (HB.out).size))
    have HF2 := hid ((HF.out).below hb)
    clear FL HR HB HF
    have FL := hid FL2.out
    have HR := hid HR2.out
    have HB := hid HB2.out
    have HF := hid HF2.out
    clear FL2 HR2 HB2 HF2
    clear hb
    obtain ⟨w8, rfl⟩ : ∃ w8 : World, w8 = wn := ⟨_, rfl⟩
    cases KB
    · rcases HF.out with ⟨h, _⟩ | ⟨_, rfl, hav⟩
      · cases h
      cases hav
      clear HF
      have hcall := flAlive _ (HT.out.below HB.out) (HW.out.below HB.out)
      have HCALL := hid hcall
      clear hcall
      go_wp2_with fail
      with_reducible refine HCALL.out.mono ?_
      rintro e wn ⟨rfl, hb⟩
      dsimp only
      clear HCALL
      have FL2 := hid ((FL.out).below hb)
      have HR2 := hid ((HR.out).below hb)
      have HB2 := hid ((HB.out).trans (hb.mono (HB.out).size))
      clear FL HR HB
      have FL := hid FL2.out
      have HR := hid HR2.out
      have HB := hid HB2.out
      clear FL2 HR2 HB2
      go_wp2
      go_ret
      exact ⟨rfl, HB.out⟩
    · rcases HF.out with ⟨_, rfl, lb, hb1, hb2, hb3⟩ | ⟨h, _⟩
      rotate_left
      · cases h
      have X1 := hid hb1
      have X2 := hid hb2
      have X3 := hid hb3
      clear HF hb1 hb2 hb3
      have hcall := flAlive _ (HT.out.below HB.out) (HW.out.below HB.out)
      have HCALL := hid hcall
      clear hcall
      go_wp2_with fail
      with_reducible refine HCALL.out.mono ?_
      rintro e wn ⟨rfl, hb⟩
      dsimp only
      clear HCALL
      have FL2 := hid ((FL.out).below hb)
      have HR2 := hid ((HR.out).below hb)
      have HB2 := hid ((HB.out).trans (hb.mono (HB.out).size))
      have X22 := hid ((X2.out).below hb)
      have X32 := hid ((X3.out).below hb)
      clear FL HR HB X2 X3
      have FL := hid FL2.out
      have HR := hid HR2.out
      have HB := hid HB2.out
      have X2 := hid X22.out
      have X3 := hid X32.out
      clear FL2 HR2 HB2 X22 X32
      clear hb
      obtain ⟨w9, rfl⟩ : ∃ w9 : World, w9 = wn := ⟨_, rfl⟩
      have hcall := rFlow_any _ lv1 C w9 FL.out HKB.out hC1 hC2
      have HCALL := hid hcall
      clear hcall
      go_wp2_with fail
      with_reducible refine HCALL.out.mono ?_
      rintro e wn ⟨vf, lf, rfl, hf1, hf2, hf3, hb⟩
      dsimp only
      clear HCALL
      have FL2 := hid ((FL.out).below hb)
      have HR2 := hid ((HR.out).below hb)
      have HB2 := hid ((HB.out).trans (hb.mono (HB.out).size))
      have X22 := hid ((X2.out).below hb)
      have X32 := hid ((X3.out).below hb)
      clear FL HR HB X2 X3
      have FL := hid FL2.out
      have HR := hid HR2.out
      have HB := hid HB2.out
      have X2 := hid X22.out
      have X3 := hid X32.out
      clear FL2 HR2 HB2 X22 X32
      clear hb
      obtain ⟨fA, fc, rfl⟩ := hf2.spell
      obtain ⟨w10, rfl⟩ : ∃ w10 : World, w10 = wn := ⟨_, rfl⟩
      have hcall := same_big _ _ lb lf w10 X2.out hf2.lsl.row X3.out (fun x hx => (hf3 x hx).row) (X1.out.trans hf1.symm) (szb X1.out hC2 (flowP_lines C _) (flow_n FL.out HKB.out C))
      clear hf1 hf2 hf3 X1 X2 X3
      have HCALL := hid hcall
      clear hcall
      go_wp2_with fail
      with_reducible refine HCALL.out.mono ?_
      rintro e wn ⟨rfl, hb⟩
      dsimp only
      clear HCALL
      have FL2 := hid ((FL.out).below hb)
      have HR2 := hid ((HR.out).below hb)
      have HB2 := hid ((HB.out).trans (hb.mono (HB.out).size))
      clear FL HR HB
      have FL := hid FL2.out
      have HR := hid HR2.out
      have HB := hid HB2.out
      clear FL2 HR2 HB2
      clear hb
      go_wp2
      go_ret
      exact ⟨rfl, HB.out⟩
  · rcases HA.out with ⟨_, rfl, la, ha1, ha2, ha3⟩ | ⟨h, _⟩
    rotate_left
    · cases h
    have Y1 := hid ha1
    have Y2 := hid ha2
    have Y3 := hid ha3
    clear HA ha1 ha2 ha3
    have hcall := rFold_any _ row C w5 HR.out HOK.out (by rw [HRN.out]; omega) hC1 hC2
    have HCALL := hid hcall
    clear hcall
    go_wp2_with fail
    with_reducible refine HCALL.out.mono ?_
    rintro e wn ⟨vf, lf, rfl, hf1, hf2, hf3, hb⟩
    dsimp only
    clear HCALL
    have FL2 := hid ((FL.out).below hb)
    have HR2 := hid ((HR.out).below hb)
    have HB2 := hid ((HB.out).trans (hb.mono (HB.out).size))
    have Y22 := hid ((Y2.out).below hb)
    have Y32 := hid ((Y3.out).below hb)
    have HF2 := hid ((HF.out).below hb)
    clear FL HR HB Y2 Y3 HF
    have FL := hid FL2.out
    have HR := hid HR2.out
    have HB := hid HB2.out
    have Y2 := hid Y22.out
    have Y3 := hid Y32.out
    have HF := hid HF2.out
    clear FL2 HR2 HB2 Y22 Y32 HF2
    clear hb
    obtain ⟨fA, fc, rfl⟩ := hf2.spell
    obtain ⟨w6, rfl⟩ : ∃ w6 : World, w6 = wn := ⟨_, rfl⟩
    have hcall := same_big _ _ la lf w6 Y2.out hf2.lsl.row Y3.out (fun x hx => (hf3 x hx).row) (Y1.out.trans hf1.symm) (szb Y1.out hC2 (foldP_lines C _) (by have := foldP_len_le C HOK.out; rw [HRN.out] at this; omega))
    clear hf1 hf2 hf3 Y1 Y2 Y3
    have HCALL := hid hcall
    clear hcall
    go_wp2_with fail
    with_reducible refine HCALL.out.mono ?_
    rintro e wn ⟨rfl, hb⟩
    dsimp only
    clear HCALL
    have FL2 := hid ((FL.out).below hb)
    have HR2 := hid ((HR.out).below hb)
    have HB2 := hid ((HB.out).trans (hb.mono (HB.out).size))
    have HF2 := hid ((HF.out).below hb)
    clear FL HR HB HF
    have FL := hid FL2.out
    have HR := hid HR2.out
    have HB := hid HB2.out
    have HF := hid HF2.out
    clear FL2 HR2 HB2 HF2
    clear hb
    obtain ⟨w7, rfl⟩ : ∃ w7 : World, w7 = wn := ⟨_, rfl⟩
    have hcall := rMay_any _ lv1 w7 FL.out.lr FL.out.ces FL.out.sm
    rw [HMAY.out] at hcall
    have HCALL := hid hcall
    clear hcall
    go_wp2_with fail
    with_reducible refine HCALL.out.mono ?_
    rintro e wn ⟨rfl, hb⟩
    dsimp only
    clear HCALL
    have FL2 := hid ((FL.out).below hb)
    have HR2 := hid ((HR.out).below hb)
    have HB2 := hid ((HB.out).trans (hb.mono (HB.out).size))
    have HF2 := hid ((HF.out).below hb)
    clear FL HR HB HF
    have FL := hid FL2.out
    have HR := hid HR2.out
    have HB := hid HB2.out
    have HF := hid HF2.out
    clear FL2 HR2 HB2 HF2
    clear hb
    obtain ⟨w8, rfl⟩ : ∃ w8 : World, w8 = wn := ⟨_, rfl⟩
    cases KB
    · rcases HF.out with ⟨h, _⟩ | ⟨_, rfl, hav⟩
      · cases h
      cases hav
      clear HF
      have hcall := flAlive _ (HT.out.below HB.out) (HW.out.below HB.out)
      have HCALL := hid hcall
      clear hcall
      go_wp2_with fail
      with_reducible refine HCALL.out.mono ?_
      rintro e wn ⟨rfl, hb⟩
      dsimp only
      clear HCALL
      have FL2 := hid ((FL.out).below hb)
      have HR2 := hid ((HR.out).below hb)
      have HB2 := hid ((HB.out).trans (hb.mono (HB.out).size))
      clear FL HR HB
      have FL := hid FL2.out
      have HR := hid HR2.out
      have HB := hid HB2.out
      clear FL2 HR2 HB2
      go_wp2
      go_ret
      exact ⟨rfl, HB.out⟩
    · rcases HF.out with ⟨_, rfl, lb, hb1, hb2, hb3⟩ | ⟨h, _⟩
      rotate_left
      · cases h
      have X1 := hid hb1
      have X2 := hid hb2
      have X3 := hid hb3
      clear HF hb1 hb2 hb3
      have hcall := flAlive _ (HT.out.below HB.out) (HW.out.below HB.out)
      have HCALL := hid hcall
      clear hcall
      go_wp2_with fail
      with_reducible refine HCALL.out.mono ?_
      rintro e wn ⟨rfl, hb⟩
      dsimp only
      clear HCALL
      have FL2 := hid ((FL.out).below hb)
      have HR2 := hid ((HR.out).below hb)
      have HB2 := hid ((HB.out).trans (hb.mono (HB.out).size))
      have X22 := hid ((X2.out).below hb)
      have X32 := hid ((X3.out).below hb)
      clear FL HR HB X2 X3
      have FL := hid FL2.out
      have HR := hid HR2.out
      have HB := hid HB2.out
      have X2 := hid X22.out
      have X3 := hid X32.out
      clear FL2 HR2 HB2 X22 X32
      clear hb
      obtain ⟨w9, rfl⟩ : ∃ w9 : World, w9 = wn := ⟨_, rfl⟩
      have hcall := rFlow_any _ lv1 C w9 FL.out HKB.out hC1 hC2
      have HCALL := hid hcall
      clear hcall
      go_wp2_with fail
      with_reducible refine HCALL.out.mono ?_
      rintro e wn ⟨vf, lf, rfl, hf1, hf2, hf3, hb⟩
      dsimp only
      clear HCALL
      have FL2 := hid ((FL.out).below hb)
      have HR2 := hid ((HR.out).below hb)
      have HB2 := hid ((HB.out).trans (hb.mono (HB.out).size))
      have X22 := hid ((X2.out).below hb)
      have X32 := hid ((X3.out).below hb)
      clear FL HR HB X2 X3
      have FL := hid FL2.out
      have HR := hid HR2.out
      have HB := hid HB2.out
      have X2 := hid X22.out
      have X3 := hid X32.out
      clear FL2 HR2 HB2 X22 X32
      clear hb
      obtain ⟨fA, fc, rfl⟩ := hf2.spell
      obtain ⟨w10, rfl⟩ : ∃ w10 : World, w10 = wn := ⟨_, rfl⟩
      have hcall := same_big _ _ lb lf w10 X2.out hf2.lsl.row X3.out (fun x hx => (hf3 x hx).row) (X1.out.trans hf1.symm) (szb X1.out hC2 (flowP_lines C _) (flow_n FL.out HKB.out C))
      clear hf1 hf2 hf3 X1 X2 X3
      have HCALL := hid hcall
      clear hcall
      go_wp2_with fail
      with_reducible refine HCALL.out.mono ?_
      rintro e wn ⟨rfl, hb⟩
      dsimp only
      clear HCALL
      have FL2 := hid ((FL.out).below hb)
      have HR2 := hid ((HR.out).below hb)
      have HB2 := hid ((HB.out).trans (hb.mono (HB.out).size))
      clear FL HR HB
      have FL := hid FL2.out
      have HR := hid HR2.out
      have HB := hid HB2.out
      clear FL2 HR2 HB2
      clear hb
      go_wp2
      go_ret
      exact ⟨rfl, HB.out⟩
end Go.Proofs.YtkejoknphnkhnaaDoor
