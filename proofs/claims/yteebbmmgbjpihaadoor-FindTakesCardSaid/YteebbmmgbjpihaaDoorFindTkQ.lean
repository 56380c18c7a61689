/- Layer 10, the law FindTakes. Made by wip/gen/findTk.py. -/
import Derived.Test.YteebbmmgbjpihaaDoorFindAlQ
import Derived.Test.YteebbmmgbjpihaaDoorFindZtQ
namespace Go.Proofs.YteebbmmgbjpihaaDoor
open Go.RowKit

set_option maxRecDepth 100000 in
theorem fslice_ce_lh {W : World} {A : Option Addr} {n c : Nat} {l : List Ce} (hr : CeRow W (.slice A n c) l) (hl : l.length = n) (k m : Nat) (hk : k + m ≤ n) (hm : 0 < m) (hi : Int) (hhi : hi = (k : Int) + (m : Int)) :
    ∃ A', (∀ w, (Instr.sliceAt 37 (.slice A n c) (some (.int .i64 k)) (some (.int .i64 hi)) none).run Tryd.prog w = .ok (.slice A' m (c - k)) w) ∧ CeRow W (.slice A' m (c - k)) ((l.drop k).take m) := by
  obtain ⟨A', c', e, hc, hcell⟩ := hr
  rw [hl] at e hc
  cases e
  have hlen : ((l.drop k).take m).length = m := by rw [List.length_take, List.length_drop, hl]; omega
  refine ⟨if c = k then A else A.map (·.add (k * 5)), fun w => ?_, ?_⟩
  · rw [run_sliceAt_slice w _ _ _ _ _ Tryd.underlying37, run_slice_lh w 37 A _ c Tryd.underlying37 .i64 .i64 k hi (by omega) (by omega) (by omega), ce_cells']
    simp only [Result.andThen, Int.toNat_natCast, sliced]
    rw [show hi.toNat - k = m by omega]
  · refine ⟨_, _, by rw [hlen], by omega, fun _ => ?_⟩
    obtain ⟨g, o, rfl, hg, hcell⟩ := hcell (List.length_pos_iff.1 (by omega))
    refine ⟨g, o + k * 5, ?_, hg, fun j e he i u hu => ?_⟩
    · rw [if_neg (by omega)]
      show some ((⟨g, o, none⟩ : Addr).add (k * 5)) = _
      rw [addr_add]
    · rw [List.getElem?_take] at he
      split at he
      · rw [List.getElem?_drop] at he
        have := hcell (k + j) e he i u hu
        rwa [show o + k * 5 + j * 5 + i = o + (k + j) * 5 + i by omega]
      · cases he
set_option maxRecDepth 100000 in
set_option maxHeartbeats 20000000 in
theorem takes_any (v : Value) (l0 : List (Ln × Value)) (row col row2 col2 : Int) (block : Bool) (W : World) (hr : LR W v l0) (hc : CesOf W l0) (hn : (l0.length : Int) ≤ 9223372036854775807) (hl : ∀ e ∈ l0, (e.1.cs.length : Int) ≤ 9223372036854775807 ∧ ∀ c ∈ e.1.cs, (c.tx.size : Int) ≤ 9223372036854775807) (hT : Tab W) (hW : TabW W) :
    Calls Tryd.prog 4 #[v, .int .i64 row, .int .i64 col, .int .i64 row2, .int .i64 col2, .bool block] W fun e w' => e = .returned (.bool true) ∧ Below W.heap.size W w' := by
  have HFW := hid (ffew_any v l0 W hr hc hn hl)
  have HT := hid hT
  have HW := hid hW
  obtain ⟨vA, vc, rfl⟩ := hr.spell
  obtain ⟨n0, hn0⟩ : ∃ n0, l0.length = n0 := ⟨_, rfl⟩
  rw [hn0] at HFW hn ⊢
  clear hr hc hl hT hW hn0
  go_enter Tryd.func4, Tryd.ntmps4
  go_upto_region 2 with ((with_reducible refine HFW.out.mono ?_); rintro e wc ⟨fv, lv, rfl, hmap, hls, hcs, hb⟩)
  have hfl : Fl wc fv lv := few_fl hmap hls hcs
  obtain ⟨fA, fc, rfl⟩ := hfl.lr.spell
  have HB := hid hb
  have HQ := hid (Below.refl wc.heap.size wc)
  have HFL := hid hfl
  have HTc := hid (HT.out.below hb)
  have HWc := hid (HW.out.below hb)
  clear hb hfl HFW HT HW hmap hls hcs
  have HAL := hid (fun (X : World) (hb : Below wc.heap.size wc X) => fnAlive X (HTc.out.below hb) (HWc.out.below hb))
  have HTH := hid (fun (X : World) (hb : Below wc.heap.size wc X) => there_any row col _ lv X (HFL.out.lr.below hb) (HFL.out.ces.below hb))
  have HTH2 := hid (fun (X : World) (hb : Below wc.heap.size wc X) => there_any row2 col2 _ lv X (HFL.out.lr.below hb) (HFL.out.ces.below hb))
  have HMY := hid (fun (X : World) (hb : Below wc.heap.size wc X) => rMay_any _ lv X (HFL.out.lr.below hb) (HFL.out.ces.below hb) HFL.out.sm)
  rw [HFL.out.may] at HMY
  have HTK := hid (fun (X : World) (hb : Below wc.heap.size wc X) => take_out _ lv row col row2 col2 block X (HFL.out.below hb) (HTc.out.below hb) (HWc.out.below hb))
  unfold TkPost at HTK
  have hall2 : [((row, col) : Int × Int), (row2, col2)].all (inP (lv.map Prod.fst)) = (inP (lv.map Prod.fst) (row, col) && inP (lv.map Prod.fst) (row2, col2)) := by simp
  by_cases hmay : (keptB lv && inP (lv.map Prod.fst) (row, col)) = false
  · have htr : takeR lv (row, col) (row2, col2) block = (⟨#[]⟩, 1) := by
      unfold takeR
      rw [if_pos]
      rw [hall2, ← Bool.and_assoc, hmay, Bool.false_and]
    rw [htr] at HTK
    have HWO := hid (fun (X : World) (hb : Below wc.heap.size wc X) => word_no _ lv row col X (HFL.out.below hb) (HTc.out.below hb) (HWc.out.below hb) hmay)
    clear htr hall2 HTH2
    cases hk : keptB lv with
    | false =>
      rw [hk] at HMY
      clear hmay hk HTH
      generalize lv.length = n at *
      go_wp2_with first
        | (go_at_call 12; (with_reducible refine (HTK.out _ HQ.out).mono ?_); rintro e1 w1 ⟨rfl, hb1⟩; have HB := hid (HB.out.trans (hb1.mono HB.out.size)); have HQ := hid (HQ.out.trans (hb1.mono HQ.out.size)); dsimp only)
        | (go_at_call 13; (with_reducible refine (HWO.out _ HQ.out).mono ?_); rintro e1 w2 ⟨rfl, hb2⟩; have HB := hid (HB.out.trans (hb2.mono HB.out.size)); have HQ := hid (HQ.out.trans (hb2.mono HQ.out.size)); dsimp only)
        | (go_at_call 8; (with_reducible refine (HMY.out _ HQ.out).mono ?_); rintro e1 w3 ⟨rfl, hb3⟩; have HB := hid (HB.out.trans (hb3.mono HB.out.size)); have HQ := hid (HQ.out.trans (hb3.mono HQ.out.size)); dsimp only)
        | (go_at_call 10; (with_reducible refine (HAL.out _ HQ.out).mono ?_); rintro e1 w5 ⟨rfl, hb5⟩; have HB := hid (HB.out.trans (hb5.mono HB.out.size)); have HQ := hid (HQ.out.trans (hb5.mono HQ.out.size)); dsimp only)
      go_ret
      exact ⟨rfl, HB.out⟩
    | true =>
      rw [hk, Bool.true_and] at hmay
      rw [hk] at HMY
      rw [hmay] at HTH
      clear hmay hk
      generalize lv.length = n at *
      go_wp2_with first
        | (go_at_call 12; (with_reducible refine (HTK.out _ HQ.out).mono ?_); rintro e1 w1 ⟨rfl, hb1⟩; have HB := hid (HB.out.trans (hb1.mono HB.out.size)); have HQ := hid (HQ.out.trans (hb1.mono HQ.out.size)); dsimp only)
        | (go_at_call 13; (with_reducible refine (HWO.out _ HQ.out).mono ?_); rintro e1 w2 ⟨rfl, hb2⟩; have HB := hid (HB.out.trans (hb2.mono HB.out.size)); have HQ := hid (HQ.out.trans (hb2.mono HQ.out.size)); dsimp only)
        | (go_at_call 8; (with_reducible refine (HMY.out _ HQ.out).mono ?_); rintro e1 w3 ⟨rfl, hb3⟩; have HB := hid (HB.out.trans (hb3.mono HB.out.size)); have HQ := hid (HQ.out.trans (hb3.mono HQ.out.size)); dsimp only)
        | (go_at_call 9; (with_reducible refine (HTH.out _ HQ.out).mono ?_); rintro e1 w4 ⟨rfl, rfl⟩; dsimp only)
        | (go_at_call 10; (with_reducible refine (HAL.out _ HQ.out).mono ?_); rintro e1 w5 ⟨rfl, hb5⟩; have HB := hid (HB.out.trans (hb5.mono HB.out.size)); have HQ := hid (HQ.out.trans (hb5.mono HQ.out.size)); dsimp only)
      go_ret
      exact ⟨rfl, HB.out⟩
  · rw [Bool.not_eq_false, Bool.and_eq_true] at hmay
    obtain ⟨hk, hi⟩ := hmay
    rw [hk] at HMY
    rw [hi] at HTH
    obtain ⟨⟨u1, u2⟩, u3, u4⟩ := inP_iff.1 hi
    simp only at u1 u2 u3 u4
    obtain ⟨r, rfl⟩ : ∃ r : Nat, row = r := ⟨row.toNat, by omega⟩
    obtain ⟨c, rfl⟩ : ∃ c : Nat, col = c := ⟨col.toNat, by omega⟩
    have hi1 : (r, c) ∈ placesP (lv.map Prod.fst) := inP_nat.1 hi
    obtain ⟨n, hnn⟩ : ∃ n, lv.length = n := ⟨_, rfl⟩
    have hlr := HFL.out.lr
    rw [List.length_map, hnn] at u2
    rw [hnn] at hlr
    obtain ⟨g, o, e, eA, hg, he, hcell⟩ := lr_at hlr hnn r (by omega)
    subst eA
    have hxl : (lv.map Prod.fst)[r]? = some e.1 := by rw [List.getElem?_map, he]; rfl
    have hcl : c < e.1.cs.length := by have := places_mem.1 hi1; rwa [lenP_at hxl] at this
    have hok := kept_ok HFL.out.sm hk e.1 (List.mem_of_getElem? hxl)
    have hce := HFL.out.ces e (List.mem_of_getElem? he)
    obtain ⟨z0, hz0⟩ : ∃ z0, e.1.cs[c]? = some z0 := ⟨_, List.getElem?_eq_getElem hcl⟩
    have hwy := fun (b : Bool) (hb : wordC z0 = b) (X : World) (hX : Below wc.heap.size wc X) => word_yes _ lv r c e.1 b X (HFL.out.below hX) (HTc.out.below hX) (HWc.out.below hX) hk hi1 hxl ⟨z0, hz0, hb⟩
    rw [hnn] at hwy HTK HTH HTH2 HMY ⊢
    obtain ⟨cA, cc, hev⟩ := hce.spell
    obtain ⟨cs, hcs⟩ : ∃ cs, e.1.cs = cs := ⟨_, rfl⟩
    obtain ⟨m, hm⟩ : ∃ m, cs.length = m := ⟨_, rfl⟩
    rw [hcs] at hce hcl hok hz0 hev
    rw [hm] at hev hcl hok
    rw [hev] at hce hcell
    have hcellc : ∀ (j : Nat) (z : Ce), cs[j]? = some z → ∃ cg co, cA = some ⟨cg, co, none⟩ ∧ ∀ X, Below wc.heap.size wc X → (X.cell? ⟨cg, co + j * 5, none⟩ = some (.string z.tx) ∧ X.cell? ⟨cg, co + j * 5 + 1, none⟩ = some (.int .i64 z.wd) ∧ X.cell? ⟨cg, co + j * 5 + 2, none⟩ = some (.int .i64 z.fg) ∧ X.cell? ⟨cg, co + j * 5 + 3, none⟩ = some (.int .i64 z.bg) ∧ X.cell? ⟨cg, co + j * 5 + 4, none⟩ = some (.int .i64 z.fl)) := fun j z hz => by
      obtain ⟨g', o', z', e', _, hz', h⟩ := row_cells hce hm j (by rw [← hm]; exact (List.getElem?_eq_some_iff.1 hz).1)
      rw [hz] at hz'
      cases hz'
      exact ⟨g', o', e', fun X hX => ccells (fun i u hu => h X hX i u hu)⟩
    obtain ⟨cg, co, ecA, hc0⟩ := hcellc c z0 hz0
    subst ecA
    have hcx : ∀ (j : Nat) (z : Ce), cs[j]? = some z → ∀ X, Below wc.heap.size wc X → (X.cell? ⟨cg, co + j * 5, none⟩ = some (.string z.tx) ∧ X.cell? ⟨cg, co + j * 5 + 1, none⟩ = some (.int .i64 z.wd) ∧ X.cell? ⟨cg, co + j * 5 + 2, none⟩ = some (.int .i64 z.fg) ∧ X.cell? ⟨cg, co + j * 5 + 3, none⟩ = some (.int .i64 z.bg) ∧ X.cell? ⟨cg, co + j * 5 + 4, none⟩ = some (.int .i64 z.fl)) := fun j z hz => by
      obtain ⟨g', o', e', h⟩ := hcellc j z hz
      cases e'
      exact h
    have HCX := hid hcx
    have HC0 := hid hc0
    have HCELL := hid hcell
    have HCE := hid hce
    have HM := hid hm
    have hci : (c : Int) < m := by omega
    have hcb : (c : Int) ≤ 80 := by omega
    have hmb : (m : Int) ≤ 80 := by omega
    have hri : (r : Int) < n := by omega
    have HR0 := hid (fun (X : World) => rword_any z0 X)
    unfold Ce.agg Ce.cells at HR0
    have hcap : m ≤ cc := by
      obtain ⟨A', c', e', hcap, _⟩ := hce
      rw [hm] at e' hcap
      cases e'
      exact hcap
    clear hcellc hcx hc0 hcell hce hev hok he u1 u2 u3 u4 hlr
    have hcase : (takeR lv ((r : Int), (c : Int)) (row2, col2) block = (⟨#[]⟩, 1) ∧ inP (lv.map Prod.fst) (row2, col2) = false) ∨ (∃ r2 c2 : Nat, row2 = r2 ∧ col2 = c2 ∧ (r2, c2) ∈ placesP (lv.map Prod.fst) ∧ inP (lv.map Prod.fst) (row2, col2) = true ∧ takeR lv ((r : Int), (c : Int)) (row2, col2) block = (if block = true then bkT (lv.map Prod.fst) (r, c) (r2, c2) else if behP (r, c) (r2, c2) then tkT (lv.map Prod.fst) (r2, c2) (r, c) else tkT (lv.map Prod.fst) (r, c) (r2, c2), 0)) := by
      cases h2 : inP (lv.map Prod.fst) (row2, col2) with
      | false =>
        left
        refine ⟨?_, rfl⟩
        unfold takeR
        rw [if_pos]
        rw [hall2, h2, Bool.and_false, Bool.and_false]
      | true =>
        right
        obtain ⟨⟨u1, _⟩, u3, _⟩ := inP_iff.1 h2
        simp only at u1 u3
        obtain ⟨r2, rfl⟩ : ∃ r2 : Nat, row2 = r2 := ⟨row2.toNat, by omega⟩
        obtain ⟨c2, rfl⟩ : ∃ c2 : Nat, col2 = c2 := ⟨col2.toNat, by omega⟩
        refine ⟨r2, c2, rfl, rfl, inP_nat.1 h2, rfl, ?_⟩
        unfold takeR
        rw [if_neg (by rw [hall2, hk, hi, h2]; simp)]
        simp only [Int.toNat_natCast]
        rw [show behI (r : Int) (c : Int) (r2 : Int) (c2 : Int) = decide (behP (r, c) (r2, c2)) from behI_nat (r, c) (r2, c2)]
        cases block
        · simp only [Bool.false_eq_true, if_false, decide_eq_true_eq]
          split <;> rfl
        · rfl
    rcases hcase with ⟨htr, hi2⟩ | ⟨r2, c2, rfl, rfl, hp2, hi2, htr⟩
    · rw [htr] at HTK
      rw [hi2] at HTH2
      clear htr hi2 hall2
      cases hwb : wordC z0 with
      | false =>
        have HWO := hid (fun (X : World) (hX : Below wc.heap.size wc X) => (hwy false hwb X hX).mono fun e w' h => h.2 rfl)
        rw [hwb] at HR0
        clear hwy hwb hk hi hi1 hxl hz0 hnn
        go_upto_region 9 with first
        | (go_at_call 12; (with_reducible refine (HTK.out _ HQ.out).mono ?_); rintro e1 w1 ⟨rfl, hb1⟩; have HB := hid (HB.out.trans (hb1.mono HB.out.size)); have HQ := hid (HQ.out.trans (hb1.mono HQ.out.size)); dsimp only)
        | (go_at_call 13; (with_reducible refine (HWO.out _ HQ.out).mono ?_); rintro e1 w2 ⟨rfl, hb2⟩; have HB := hid (HB.out.trans (hb2.mono HB.out.size)); have HQ := hid (HQ.out.trans (hb2.mono HQ.out.size)); dsimp only)
        | (go_at_call 8; (with_reducible refine (HMY.out _ HQ.out).mono ?_); rintro e1 w3 ⟨rfl, hb3⟩; have HB := hid (HB.out.trans (hb3.mono HB.out.size)); have HQ := hid (HQ.out.trans (hb3.mono HQ.out.size)); dsimp only)
        | (go_at_call 9; (with_reducible refine (HTH.out _ HQ.out).mono ?_); rintro e1 w4 ⟨rfl, rfl⟩; dsimp only)
        | (go_at_call 10; (with_reducible refine (HAL.out _ HQ.out).mono ?_); rintro e1 w5 ⟨rfl, hb5⟩; have HB := hid (HB.out.trans (hb5.mono HB.out.size)); have HQ := hid (HQ.out.trans (hb5.mono HQ.out.size)); dsimp only)
        obtain ⟨p0, _⟩ := HCELL.out _ HQ.out
        obtain ⟨_, _, _, _, _⟩ := HC0.out _ HQ.out
        go_upto_region 21 with first
        | (go_at_call 14; (with_reducible refine (HR0.out _).mono ?_); rintro e1 w8 ⟨rfl, hb8⟩; have HB := hid (HB.out.trans (hb8.mono HB.out.size)); have HQ := hid (HQ.out.trans (hb8.mono HQ.out.size)); dsimp only)
        go_wp2_with first
          | (go_at_call 9; (with_reducible refine (HTH2.out _ HQ.out).mono ?_); rintro e1 w4 ⟨rfl, rfl⟩; dsimp only)
        go_ret
        exact ⟨rfl, HB.out⟩
      | true =>
        have HWO := hid (fun (X : World) (hX : Below wc.heap.size wc X) => (hwy true hwb X hX).mono fun e w' h => h.1 rfl)
        unfold WdPost at HWO
        rw [hcs] at HWO
        rw [hwb] at HR0
        clear hwy hwb hk hi hi1 hxl hz0 hnn
        go_upto_region 4 with first
        | (go_at_call 12; (with_reducible refine (HTK.out _ HQ.out).mono ?_); rintro e1 w1 ⟨rfl, hb1⟩; have HB := hid (HB.out.trans (hb1.mono HB.out.size)); have HQ := hid (HQ.out.trans (hb1.mono HQ.out.size)); dsimp only)
        | (go_at_call 13; (with_reducible refine (HWO.out _ HQ.out).mono ?_); rintro e1 w2 ⟨f, t, rfl, hft, hall, hf0, ht1, hb2⟩; have HB := hid (HB.out.trans (hb2.mono HB.out.size)); have HQ := hid (HQ.out.trans (hb2.mono HQ.out.size)); dsimp only)
        obtain ⟨hf1, hf2, hf3⟩ := hft
        rw [HM.out] at hf3
        have HALL := hid hall
        obtain ⟨t1, ht1n⟩ : ∃ t1, t + 1 = t1 := ⟨_, rfl⟩
        rw [ht1n, HM.out] at ht1
        have e1 : (t : Int) + 1 = (t1 : Int) := by omega
        have e2 : IntKind.i64.wrap (t1 : Int) = (t1 : Int) := IntWalk.i64_in _ (by omega)
        have e3 : (0 : Int) ≤ (t1 : Int) := by omega
        have e4 : ¬ (f : Int) < 0 := by omega
        have e5 : ¬ (c : Int) < (f : Int) := by omega
        have e6 : ¬ (t : Int) < (c : Int) := by omega
        have e7 : ¬ (m : Int) ≤ (t : Int) := by omega
        have e4b : decide ((f : Int) < 0) = false := decide_eq_false e4
        have e5b : decide ((c : Int) < (f : Int)) = false := decide_eq_false e5
        have e6b : decide ((t : Int) < (c : Int)) = false := decide_eq_false e6
        have e7b : decide ((m : Int) ≤ (t : Int)) = false := decide_eq_false e7
        have e8 : (f : Int) ≤ 80 := by omega
        have e9 : (t : Int) ≤ 80 := by omega
        obtain ⟨d, hd⟩ : ∃ d, t1 - f = d := ⟨_, rfl⟩
        obtain ⟨A3, hs3, hr3⟩ := fslice_ce_lh HCE.out HM.out f d (by omega) (by omega) (t1 : Int) (by omega)
        obtain ⟨cf, hcf⟩ : ∃ cf, cc - f = cf := ⟨_, rfl⟩
        rw [hcf] at hs3 hr3
        have hl3 : ((cs.drop f).take d).length = d := by rw [List.length_take, List.length_drop, HM.out]; omega
        have HR3 := hid hr3
        have HL3 := hid hl3
        have hd80 : (d : Int) ≤ 80 := by omega
        have HALLD : Hid (∀ j, j < d → isW cs (f + j) true) := fun j hj => HALL.out (f + j) (by omega) (by omega)
        have f1 : (f : Int) ≤ (t1 : Int) := by omega
        have f2 : (t1 : Int) ≤ (cc : Int) := by omega
        clear hall hd hcf hr3 hl3 HALL
        go_upto_region 9 with first
        | (go_at_call 8; (with_reducible refine (HMY.out _ HQ.out).mono ?_); rintro e1 w3 ⟨rfl, hb3⟩; have HB := hid (HB.out.trans (hb3.mono HB.out.size)); have HQ := hid (HQ.out.trans (hb3.mono HQ.out.size)); dsimp only)
        | (go_at_call 9; (with_reducible refine (HTH.out _ HQ.out).mono ?_); rintro e1 w4 ⟨rfl, rfl⟩; dsimp only)
        | (go_at_call 10; (with_reducible refine (HAL.out _ HQ.out).mono ?_); rintro e1 w5 ⟨rfl, hb5⟩; have HB := hid (HB.out.trans (hb5.mono HB.out.size)); have HQ := hid (HQ.out.trans (hb5.mono HQ.out.size)); dsimp only)
        obtain ⟨p0, _⟩ := HCELL.out _ HQ.out
        obtain ⟨_, _, _, _, _⟩ := HC0.out _ HQ.out
        by_cases hfz0 : 0 < f
        rotate_left
        · by_cases htm : t1 < m
          · have g0 : ¬ 0 < (f : Int) := by omega
            have g0b : decide (0 < (f : Int)) = false := decide_eq_false g0
            obtain ⟨z2, hz2, hz2w⟩ := ht1 htm
            have g6 : (t1 : Int) < m := by omega
            have C2 := hid (HCX.out t1 z2 hz2)
            have HR2 := hid (fun (X : World) => rword_any z2 X)
            rw [hz2w] at HR2
            unfold Ce.agg Ce.cells at HR2
            clear hz2 hz2w
            clear ht1n
            go_upto_region 15 with first
              | (go_at_call 14; (with_reducible refine (HR0.out _).mono ?_); rintro e1 w8 ⟨rfl, hb8⟩; have HB := hid (HB.out.trans (hb8.mono HB.out.size)); have HQ := hid (HQ.out.trans (hb8.mono HQ.out.size)); dsimp only; obtain ⟨_, _, _, _, _⟩ := C2.out _ HQ.out)
              | (go_at_call 14; (with_reducible refine (HR2.out _).mono ?_); rintro e1 w8 ⟨rfl, hb8⟩; have HB := hid (HB.out.trans (hb8.mono HB.out.size)); have HQ := hid (HQ.out.trans (hb8.mono HQ.out.size)); dsimp only)
            have HB0 := HB
            have HQ0 := HQ
            clear g0 g0b g6 e4 e5 e6 e7 e4b e5b e6b e7b ht1 hf0 HB HQ
            go_wp2_with fail
            go_loopw [155] (fun iv wr => ∃ j : Nat, j ≤ d ∧ iv = .int .i64 j ∧ Below W.heap.size W wr ∧ Below wc.heap.size wc wr) (fun iv _ => d - (intOf iv).toNat)
            case atStart => exact ⟨0, by omega, rfl, HB0.out, HQ0.out⟩
            case round =>
              obtain ⟨j, hj, rfl, hbr, hqr⟩ := hrel
              have HB := hid hbr
              have HQ := hid hqr
              by_cases hlt : j < d
              · have hji : (j : Int) < d := by omega
                have hjb : (j : Int) ≤ 80 := by omega
                obtain ⟨zg, zo, z, ez, hzg, hz, hzc⟩ := row_cells HR3.out HL3.out j hlt
                subst ez
                obtain ⟨_, _, _, _, _⟩ := ccells (W := wr) (g := zg) (o := zo + j * 5) (e := z) (fun i u hu => hzc wr hqr i u hu)
                have hzw : wordC z = true := by
                  obtain ⟨z', hz', hw⟩ := HALLD.out j hlt
                  rw [List.getElem?_take, if_pos hlt, List.getElem?_drop, hz'] at hz
                  cases hz
                  exact hw
                have HRZ := hid (fun (X : World) => rword_any z X)
                rw [hzw] at HRZ
                unfold Ce.agg Ce.cells at HRZ
                have hba := below_alloc wr (.cells #[.string z.tx, .int .i64 z.wd, .int .i64 z.fg, .int .i64 z.bg, .int .i64 z.fl] 44)
                have HB := hid (HB.out.trans (hba.mono HB.out.size))
                have HQ := hid (HQ.out.trans (hba.mono HQ.out.size))
                clear hz hzc hzw hbr hqr hba
                go_wp2_with first
                  | (go_at_call 14; (with_reducible refine (HRZ.out _).mono ?_); rintro e1 w8 ⟨rfl, hb8⟩; have HB := hid (HB.out.trans (hb8.mono HB.out.size)); have HQ := hid (HQ.out.trans (hb8.mono HQ.out.size)); dsimp only)
                go_roundw
                case rel => exact ⟨j + 1, by omega, by go_num, HB.out, HQ.out⟩
                case measure => simp [intOf]; omega
              · have hjd : j = d := by omega
                subst hjd
                clear hbr hqr hlt
                go_wp2_with first
                  | (go_at_call 9; (with_reducible refine (HTH2.out _ HQ.out).mono ?_); rintro e1 w4 ⟨rfl, rfl⟩; dsimp only)
                go_ret
                exact ⟨rfl, HB.out⟩
          · have g0 : ¬ 0 < (f : Int) := by omega
            have g0b : decide (0 < (f : Int)) = false := decide_eq_false g0
            have g6 : ¬ (t1 : Int) < m := by omega
            have g6b : decide ((t1 : Int) < (m : Int)) = false := decide_eq_false g6
            clear ht1n
            go_upto_region 15 with first
              | (go_at_call 14; (with_reducible refine (HR0.out _).mono ?_); rintro e1 w8 ⟨rfl, hb8⟩; have HB := hid (HB.out.trans (hb8.mono HB.out.size)); have HQ := hid (HQ.out.trans (hb8.mono HQ.out.size)); dsimp only)
            have HB0 := HB
            have HQ0 := HQ
            clear g0 g0b g6 g6b e4 e5 e6 e7 e4b e5b e6b e7b ht1 hf0 HB HQ
            go_wp2_with fail
            go_loopw [155] (fun iv wr => ∃ j : Nat, j ≤ d ∧ iv = .int .i64 j ∧ Below W.heap.size W wr ∧ Below wc.heap.size wc wr) (fun iv _ => d - (intOf iv).toNat)
            case atStart => exact ⟨0, by omega, rfl, HB0.out, HQ0.out⟩
            case round =>
              obtain ⟨j, hj, rfl, hbr, hqr⟩ := hrel
              have HB := hid hbr
              have HQ := hid hqr
              by_cases hlt : j < d
              · have hji : (j : Int) < d := by omega
                have hjb : (j : Int) ≤ 80 := by omega
                obtain ⟨zg, zo, z, ez, hzg, hz, hzc⟩ := row_cells HR3.out HL3.out j hlt
                subst ez
                obtain ⟨_, _, _, _, _⟩ := ccells (W := wr) (g := zg) (o := zo + j * 5) (e := z) (fun i u hu => hzc wr hqr i u hu)
                have hzw : wordC z = true := by
                  obtain ⟨z', hz', hw⟩ := HALLD.out j hlt
                  rw [List.getElem?_take, if_pos hlt, List.getElem?_drop, hz'] at hz
                  cases hz
                  exact hw
                have HRZ := hid (fun (X : World) => rword_any z X)
                rw [hzw] at HRZ
                unfold Ce.agg Ce.cells at HRZ
                have hba := below_alloc wr (.cells #[.string z.tx, .int .i64 z.wd, .int .i64 z.fg, .int .i64 z.bg, .int .i64 z.fl] 44)
                have HB := hid (HB.out.trans (hba.mono HB.out.size))
                have HQ := hid (HQ.out.trans (hba.mono HQ.out.size))
                clear hz hzc hzw hbr hqr hba
                go_wp2_with first
                  | (go_at_call 14; (with_reducible refine (HRZ.out _).mono ?_); rintro e1 w8 ⟨rfl, hb8⟩; have HB := hid (HB.out.trans (hb8.mono HB.out.size)); have HQ := hid (HQ.out.trans (hb8.mono HQ.out.size)); dsimp only)
                go_roundw
                case rel => exact ⟨j + 1, by omega, by go_num, HB.out, HQ.out⟩
                case measure => simp [intOf]; omega
              · have hjd : j = d := by omega
                subst hjd
                clear hbr hqr hlt
                go_wp2_with first
                  | (go_at_call 9; (with_reducible refine (HTH2.out _ HQ.out).mono ?_); rintro e1 w4 ⟨rfl, rfl⟩; dsimp only)
                go_ret
                exact ⟨rfl, HB.out⟩
        · by_cases htm : t1 < m
          · obtain ⟨fp, hf1n⟩ : ∃ fp, f = fp + 1 := ⟨f - 1, by omega⟩
            obtain ⟨z1, hz1, hz1w⟩ := hf0 (by omega)
            rw [show f - 1 = fp by omega] at hz1
            have g1 : (f : Int) - 1 = (fp : Int) := by omega
            have g2 : IntKind.i64.wrap (fp : Int) = (fp : Int) := IntWalk.i64_in _ (by omega)
            have g3 : (0 : Int) < (f : Int) := by omega
            have g4 : (fp : Int) < m := by omega
            have g5 : (0 : Int) ≤ (fp : Int) := by omega
            have C1 := hid (HCX.out fp z1 hz1)
            have HR1 := hid (fun (X : World) => rword_any z1 X)
            rw [hz1w] at HR1
            unfold Ce.agg Ce.cells at HR1
            clear hz1 hz1w hf1n
            obtain ⟨z2, hz2, hz2w⟩ := ht1 htm
            have g6 : (t1 : Int) < m := by omega
            have C2 := hid (HCX.out t1 z2 hz2)
            have HR2 := hid (fun (X : World) => rword_any z2 X)
            rw [hz2w] at HR2
            unfold Ce.agg Ce.cells at HR2
            clear hz2 hz2w
            clear ht1n
            go_upto_region 15 with first
              | (go_at_call 14; (with_reducible refine (HR0.out _).mono ?_); rintro e1 w8 ⟨rfl, hb8⟩; have HB := hid (HB.out.trans (hb8.mono HB.out.size)); have HQ := hid (HQ.out.trans (hb8.mono HQ.out.size)); dsimp only; obtain ⟨_, _, _, _, _⟩ := C1.out _ HQ.out; obtain ⟨_, _, _, _, _⟩ := C2.out _ HQ.out)
              | (go_at_call 14; (with_reducible refine (HR1.out _).mono ?_); rintro e1 w8 ⟨rfl, hb8⟩; have HB := hid (HB.out.trans (hb8.mono HB.out.size)); have HQ := hid (HQ.out.trans (hb8.mono HQ.out.size)); dsimp only; obtain ⟨_, _, _, _, _⟩ := C2.out _ HQ.out)
              | (go_at_call 14; (with_reducible refine (HR2.out _).mono ?_); rintro e1 w8 ⟨rfl, hb8⟩; have HB := hid (HB.out.trans (hb8.mono HB.out.size)); have HQ := hid (HQ.out.trans (hb8.mono HQ.out.size)); dsimp only)
            have HB0 := HB
            have HQ0 := HQ
            clear g1 g2 g3 g4 g5 g6 e4 e5 e6 e7 e4b e5b e6b e7b ht1 hf0 HB HQ
            go_wp2_with fail
            go_loopw [155] (fun iv wr => ∃ j : Nat, j ≤ d ∧ iv = .int .i64 j ∧ Below W.heap.size W wr ∧ Below wc.heap.size wc wr) (fun iv _ => d - (intOf iv).toNat)
            case atStart => exact ⟨0, by omega, rfl, HB0.out, HQ0.out⟩
            case round =>
              obtain ⟨j, hj, rfl, hbr, hqr⟩ := hrel
              have HB := hid hbr
              have HQ := hid hqr
              by_cases hlt : j < d
              · have hji : (j : Int) < d := by omega
                have hjb : (j : Int) ≤ 80 := by omega
                obtain ⟨zg, zo, z, ez, hzg, hz, hzc⟩ := row_cells HR3.out HL3.out j hlt
                subst ez
                obtain ⟨_, _, _, _, _⟩ := ccells (W := wr) (g := zg) (o := zo + j * 5) (e := z) (fun i u hu => hzc wr hqr i u hu)
                have hzw : wordC z = true := by
                  obtain ⟨z', hz', hw⟩ := HALLD.out j hlt
                  rw [List.getElem?_take, if_pos hlt, List.getElem?_drop, hz'] at hz
                  cases hz
                  exact hw
                have HRZ := hid (fun (X : World) => rword_any z X)
                rw [hzw] at HRZ
                unfold Ce.agg Ce.cells at HRZ
                have hba := below_alloc wr (.cells #[.string z.tx, .int .i64 z.wd, .int .i64 z.fg, .int .i64 z.bg, .int .i64 z.fl] 44)
                have HB := hid (HB.out.trans (hba.mono HB.out.size))
                have HQ := hid (HQ.out.trans (hba.mono HQ.out.size))
                clear hz hzc hzw hbr hqr hba
                go_wp2_with first
                  | (go_at_call 14; (with_reducible refine (HRZ.out _).mono ?_); rintro e1 w8 ⟨rfl, hb8⟩; have HB := hid (HB.out.trans (hb8.mono HB.out.size)); have HQ := hid (HQ.out.trans (hb8.mono HQ.out.size)); dsimp only)
                go_roundw
                case rel => exact ⟨j + 1, by omega, by go_num, HB.out, HQ.out⟩
                case measure => simp [intOf]; omega
              · have hjd : j = d := by omega
                subst hjd
                clear hbr hqr hlt
                go_wp2_with first
                  | (go_at_call 9; (with_reducible refine (HTH2.out _ HQ.out).mono ?_); rintro e1 w4 ⟨rfl, rfl⟩; dsimp only)
                go_ret
                exact ⟨rfl, HB.out⟩
          · obtain ⟨fp, hf1n⟩ : ∃ fp, f = fp + 1 := ⟨f - 1, by omega⟩
            obtain ⟨z1, hz1, hz1w⟩ := hf0 (by omega)
            rw [show f - 1 = fp by omega] at hz1
            have g1 : (f : Int) - 1 = (fp : Int) := by omega
            have g2 : IntKind.i64.wrap (fp : Int) = (fp : Int) := IntWalk.i64_in _ (by omega)
            have g3 : (0 : Int) < (f : Int) := by omega
            have g4 : (fp : Int) < m := by omega
            have g5 : (0 : Int) ≤ (fp : Int) := by omega
            have C1 := hid (HCX.out fp z1 hz1)
            have HR1 := hid (fun (X : World) => rword_any z1 X)
            rw [hz1w] at HR1
            unfold Ce.agg Ce.cells at HR1
            clear hz1 hz1w hf1n
            have g6 : ¬ (t1 : Int) < m := by omega
            have g6b : decide ((t1 : Int) < (m : Int)) = false := decide_eq_false g6
            clear ht1n
            go_upto_region 15 with first
              | (go_at_call 14; (with_reducible refine (HR0.out _).mono ?_); rintro e1 w8 ⟨rfl, hb8⟩; have HB := hid (HB.out.trans (hb8.mono HB.out.size)); have HQ := hid (HQ.out.trans (hb8.mono HQ.out.size)); dsimp only; obtain ⟨_, _, _, _, _⟩ := C1.out _ HQ.out)
              | (go_at_call 14; (with_reducible refine (HR1.out _).mono ?_); rintro e1 w8 ⟨rfl, hb8⟩; have HB := hid (HB.out.trans (hb8.mono HB.out.size)); have HQ := hid (HQ.out.trans (hb8.mono HQ.out.size)); dsimp only)
            have HB0 := HB
            have HQ0 := HQ
            clear g1 g2 g3 g4 g5 g6 g6b e4 e5 e6 e7 e4b e5b e6b e7b ht1 hf0 HB HQ
            go_wp2_with fail
            go_loopw [155] (fun iv wr => ∃ j : Nat, j ≤ d ∧ iv = .int .i64 j ∧ Below W.heap.size W wr ∧ Below wc.heap.size wc wr) (fun iv _ => d - (intOf iv).toNat)
            case atStart => exact ⟨0, by omega, rfl, HB0.out, HQ0.out⟩
            case round =>
              obtain ⟨j, hj, rfl, hbr, hqr⟩ := hrel
              have HB := hid hbr
              have HQ := hid hqr
              by_cases hlt : j < d
              · have hji : (j : Int) < d := by omega
                have hjb : (j : Int) ≤ 80 := by omega
                obtain ⟨zg, zo, z, ez, hzg, hz, hzc⟩ := row_cells HR3.out HL3.out j hlt
                subst ez
                obtain ⟨_, _, _, _, _⟩ := ccells (W := wr) (g := zg) (o := zo + j * 5) (e := z) (fun i u hu => hzc wr hqr i u hu)
                have hzw : wordC z = true := by
                  obtain ⟨z', hz', hw⟩ := HALLD.out j hlt
                  rw [List.getElem?_take, if_pos hlt, List.getElem?_drop, hz'] at hz
                  cases hz
                  exact hw
                have HRZ := hid (fun (X : World) => rword_any z X)
                rw [hzw] at HRZ
                unfold Ce.agg Ce.cells at HRZ
                have hba := below_alloc wr (.cells #[.string z.tx, .int .i64 z.wd, .int .i64 z.fg, .int .i64 z.bg, .int .i64 z.fl] 44)
                have HB := hid (HB.out.trans (hba.mono HB.out.size))
                have HQ := hid (HQ.out.trans (hba.mono HQ.out.size))
                clear hz hzc hzw hbr hqr hba
                go_wp2_with first
                  | (go_at_call 14; (with_reducible refine (HRZ.out _).mono ?_); rintro e1 w8 ⟨rfl, hb8⟩; have HB := hid (HB.out.trans (hb8.mono HB.out.size)); have HQ := hid (HQ.out.trans (hb8.mono HQ.out.size)); dsimp only)
                go_roundw
                case rel => exact ⟨j + 1, by omega, by go_num, HB.out, HQ.out⟩
                case measure => simp [intOf]; omega
              · have hjd : j = d := by omega
                subst hjd
                clear hbr hqr hlt
                go_wp2_with first
                  | (go_at_call 9; (with_reducible refine (HTH2.out _ HQ.out).mono ?_); rintro e1 w4 ⟨rfl, rfl⟩; dsimp only)
                go_ret
                exact ⟨rfl, HB.out⟩
    · rw [htr] at HTK
      rw [hi2] at HTH2
      have HRT := hid (fun (X : World) (hb : Below wc.heap.size wc X) => rtake_any _ lv r c r2 c2 X (HFL.out.below hb) hk hi1 hp2)
      have HRB := hid (fun (X : World) (hb : Below wc.heap.size wc X) => rblock_any _ lv r c r2 c2 X (HFL.out.below hb) hk hi1 hp2)
      rw [hnn] at HRT HRB
      obtain ⟨y1, hy1⟩ : ∃ y1, (if behP (r, c) (r2, c2) then tkT (lv.map Prod.fst) (r2, c2) (r, c) else tkT (lv.map Prod.fst) (r, c) (r2, c2)) = y1 := ⟨_, rfl⟩
      obtain ⟨y2, hy2⟩ : ∃ y2, bkT (lv.map Prod.fst) (r, c) (r2, c2) = y2 := ⟨_, rfl⟩
      rw [hy1] at HRT HTK
      rw [hy2] at HRB HTK
      clear htr hi2 hall2 hy1 hy2 hp2
      cases block with
      | false =>
        simp only [Bool.false_eq_true, if_false] at HTK
        cases hwb : wordC z0 with
        | false =>
          have HWO := hid (fun (X : World) (hX : Below wc.heap.size wc X) => (hwy false hwb X hX).mono fun e w' h => h.2 rfl)
          rw [hwb] at HR0
          clear hwy hwb hk hi hi1 hxl hz0 hnn
          go_upto_region 9 with first
          | (go_at_call 12; (with_reducible refine (HTK.out _ HQ.out).mono ?_); rintro e1 w1 ⟨rfl, hb1⟩; have HB := hid (HB.out.trans (hb1.mono HB.out.size)); have HQ := hid (HQ.out.trans (hb1.mono HQ.out.size)); dsimp only)
          | (go_at_call 13; (with_reducible refine (HWO.out _ HQ.out).mono ?_); rintro e1 w2 ⟨rfl, hb2⟩; have HB := hid (HB.out.trans (hb2.mono HB.out.size)); have HQ := hid (HQ.out.trans (hb2.mono HQ.out.size)); dsimp only)
          | (go_at_call 8; (with_reducible refine (HMY.out _ HQ.out).mono ?_); rintro e1 w3 ⟨rfl, hb3⟩; have HB := hid (HB.out.trans (hb3.mono HB.out.size)); have HQ := hid (HQ.out.trans (hb3.mono HQ.out.size)); dsimp only)
          | (go_at_call 9; (with_reducible refine (HTH.out _ HQ.out).mono ?_); rintro e1 w4 ⟨rfl, rfl⟩; dsimp only)
          | (go_at_call 10; (with_reducible refine (HAL.out _ HQ.out).mono ?_); rintro e1 w5 ⟨rfl, hb5⟩; have HB := hid (HB.out.trans (hb5.mono HB.out.size)); have HQ := hid (HQ.out.trans (hb5.mono HQ.out.size)); dsimp only)
          obtain ⟨p0, _⟩ := HCELL.out _ HQ.out
          obtain ⟨_, _, _, _, _⟩ := HC0.out _ HQ.out
          go_upto_region 21 with first
          | (go_at_call 14; (with_reducible refine (HR0.out _).mono ?_); rintro e1 w8 ⟨rfl, hb8⟩; have HB := hid (HB.out.trans (hb8.mono HB.out.size)); have HQ := hid (HQ.out.trans (hb8.mono HQ.out.size)); dsimp only)
          go_wp2_with first
            | (go_at_call 9; (with_reducible refine (HTH2.out _ HQ.out).mono ?_); rintro e1 w4 ⟨rfl, rfl⟩; dsimp only)
            | (go_at_call 15; (with_reducible refine (HRT.out _ HQ.out).mono ?_); rintro e1 w6 ⟨rfl, hb6⟩; have HB := hid (HB.out.trans (hb6.mono HB.out.size)); have HQ := hid (HQ.out.trans (hb6.mono HQ.out.size)); dsimp only)
          go_ret
          exact ⟨rfl, HB.out⟩
        | true =>
          have HWO := hid (fun (X : World) (hX : Below wc.heap.size wc X) => (hwy true hwb X hX).mono fun e w' h => h.1 rfl)
          unfold WdPost at HWO
          rw [hcs] at HWO
          rw [hwb] at HR0
          clear hwy hwb hk hi hi1 hxl hz0 hnn
          go_upto_region 4 with first
          | (go_at_call 12; (with_reducible refine (HTK.out _ HQ.out).mono ?_); rintro e1 w1 ⟨rfl, hb1⟩; have HB := hid (HB.out.trans (hb1.mono HB.out.size)); have HQ := hid (HQ.out.trans (hb1.mono HQ.out.size)); dsimp only)
          | (go_at_call 13; (with_reducible refine (HWO.out _ HQ.out).mono ?_); rintro e1 w2 ⟨f, t, rfl, hft, hall, hf0, ht1, hb2⟩; have HB := hid (HB.out.trans (hb2.mono HB.out.size)); have HQ := hid (HQ.out.trans (hb2.mono HQ.out.size)); dsimp only)
          obtain ⟨hf1, hf2, hf3⟩ := hft
          rw [HM.out] at hf3
          have HALL := hid hall
          obtain ⟨t1, ht1n⟩ : ∃ t1, t + 1 = t1 := ⟨_, rfl⟩
          rw [ht1n, HM.out] at ht1
          have e1 : (t : Int) + 1 = (t1 : Int) := by omega
          have e2 : IntKind.i64.wrap (t1 : Int) = (t1 : Int) := IntWalk.i64_in _ (by omega)
          have e3 : (0 : Int) ≤ (t1 : Int) := by omega
          have e4 : ¬ (f : Int) < 0 := by omega
          have e5 : ¬ (c : Int) < (f : Int) := by omega
          have e6 : ¬ (t : Int) < (c : Int) := by omega
          have e7 : ¬ (m : Int) ≤ (t : Int) := by omega
          have e4b : decide ((f : Int) < 0) = false := decide_eq_false e4
          have e5b : decide ((c : Int) < (f : Int)) = false := decide_eq_false e5
          have e6b : decide ((t : Int) < (c : Int)) = false := decide_eq_false e6
          have e7b : decide ((m : Int) ≤ (t : Int)) = false := decide_eq_false e7
          have e8 : (f : Int) ≤ 80 := by omega
          have e9 : (t : Int) ≤ 80 := by omega
          obtain ⟨d, hd⟩ : ∃ d, t1 - f = d := ⟨_, rfl⟩
          obtain ⟨A3, hs3, hr3⟩ := fslice_ce_lh HCE.out HM.out f d (by omega) (by omega) (t1 : Int) (by omega)
          obtain ⟨cf, hcf⟩ : ∃ cf, cc - f = cf := ⟨_, rfl⟩
          rw [hcf] at hs3 hr3
          have hl3 : ((cs.drop f).take d).length = d := by rw [List.length_take, List.length_drop, HM.out]; omega
          have HR3 := hid hr3
          have HL3 := hid hl3
          have hd80 : (d : Int) ≤ 80 := by omega
          have HALLD : Hid (∀ j, j < d → isW cs (f + j) true) := fun j hj => HALL.out (f + j) (by omega) (by omega)
          have f1 : (f : Int) ≤ (t1 : Int) := by omega
          have f2 : (t1 : Int) ≤ (cc : Int) := by omega
          clear hall hd hcf hr3 hl3 HALL
          go_upto_region 9 with first
          | (go_at_call 8; (with_reducible refine (HMY.out _ HQ.out).mono ?_); rintro e1 w3 ⟨rfl, hb3⟩; have HB := hid (HB.out.trans (hb3.mono HB.out.size)); have HQ := hid (HQ.out.trans (hb3.mono HQ.out.size)); dsimp only)
          | (go_at_call 9; (with_reducible refine (HTH.out _ HQ.out).mono ?_); rintro e1 w4 ⟨rfl, rfl⟩; dsimp only)
          | (go_at_call 10; (with_reducible refine (HAL.out _ HQ.out).mono ?_); rintro e1 w5 ⟨rfl, hb5⟩; have HB := hid (HB.out.trans (hb5.mono HB.out.size)); have HQ := hid (HQ.out.trans (hb5.mono HQ.out.size)); dsimp only)
          obtain ⟨p0, _⟩ := HCELL.out _ HQ.out
          obtain ⟨_, _, _, _, _⟩ := HC0.out _ HQ.out
          by_cases hfz0 : 0 < f
          rotate_left
          · by_cases htm : t1 < m
            · have g0 : ¬ 0 < (f : Int) := by omega
              have g0b : decide (0 < (f : Int)) = false := decide_eq_false g0
              obtain ⟨z2, hz2, hz2w⟩ := ht1 htm
              have g6 : (t1 : Int) < m := by omega
              have C2 := hid (HCX.out t1 z2 hz2)
              have HR2 := hid (fun (X : World) => rword_any z2 X)
              rw [hz2w] at HR2
              unfold Ce.agg Ce.cells at HR2
              clear hz2 hz2w
              clear ht1n
              go_upto_region 15 with first
                | (go_at_call 14; (with_reducible refine (HR0.out _).mono ?_); rintro e1 w8 ⟨rfl, hb8⟩; have HB := hid (HB.out.trans (hb8.mono HB.out.size)); have HQ := hid (HQ.out.trans (hb8.mono HQ.out.size)); dsimp only; obtain ⟨_, _, _, _, _⟩ := C2.out _ HQ.out)
                | (go_at_call 14; (with_reducible refine (HR2.out _).mono ?_); rintro e1 w8 ⟨rfl, hb8⟩; have HB := hid (HB.out.trans (hb8.mono HB.out.size)); have HQ := hid (HQ.out.trans (hb8.mono HQ.out.size)); dsimp only)
              have HB0 := HB
              have HQ0 := HQ
              clear g0 g0b g6 e4 e5 e6 e7 e4b e5b e6b e7b ht1 hf0 HB HQ
              go_wp2_with fail
              go_loopw [155] (fun iv wr => ∃ j : Nat, j ≤ d ∧ iv = .int .i64 j ∧ Below W.heap.size W wr ∧ Below wc.heap.size wc wr) (fun iv _ => d - (intOf iv).toNat)
              case atStart => exact ⟨0, by omega, rfl, HB0.out, HQ0.out⟩
              case round =>
                obtain ⟨j, hj, rfl, hbr, hqr⟩ := hrel
                have HB := hid hbr
                have HQ := hid hqr
                by_cases hlt : j < d
                · have hji : (j : Int) < d := by omega
                  have hjb : (j : Int) ≤ 80 := by omega
                  obtain ⟨zg, zo, z, ez, hzg, hz, hzc⟩ := row_cells HR3.out HL3.out j hlt
                  subst ez
                  obtain ⟨_, _, _, _, _⟩ := ccells (W := wr) (g := zg) (o := zo + j * 5) (e := z) (fun i u hu => hzc wr hqr i u hu)
                  have hzw : wordC z = true := by
                    obtain ⟨z', hz', hw⟩ := HALLD.out j hlt
                    rw [List.getElem?_take, if_pos hlt, List.getElem?_drop, hz'] at hz
                    cases hz
                    exact hw
                  have HRZ := hid (fun (X : World) => rword_any z X)
                  rw [hzw] at HRZ
                  unfold Ce.agg Ce.cells at HRZ
                  have hba := below_alloc wr (.cells #[.string z.tx, .int .i64 z.wd, .int .i64 z.fg, .int .i64 z.bg, .int .i64 z.fl] 44)
                  have HB := hid (HB.out.trans (hba.mono HB.out.size))
                  have HQ := hid (HQ.out.trans (hba.mono HQ.out.size))
                  clear hz hzc hzw hbr hqr hba
                  go_wp2_with first
                    | (go_at_call 14; (with_reducible refine (HRZ.out _).mono ?_); rintro e1 w8 ⟨rfl, hb8⟩; have HB := hid (HB.out.trans (hb8.mono HB.out.size)); have HQ := hid (HQ.out.trans (hb8.mono HQ.out.size)); dsimp only)
                  go_roundw
                  case rel => exact ⟨j + 1, by omega, by go_num, HB.out, HQ.out⟩
                  case measure => simp [intOf]; omega
                · have hjd : j = d := by omega
                  subst hjd
                  clear hbr hqr hlt
                  go_wp2_with first
                    | (go_at_call 9; (with_reducible refine (HTH2.out _ HQ.out).mono ?_); rintro e1 w4 ⟨rfl, rfl⟩; dsimp only)
                    | (go_at_call 15; (with_reducible refine (HRT.out _ HQ.out).mono ?_); rintro e1 w6 ⟨rfl, hb6⟩; have HB := hid (HB.out.trans (hb6.mono HB.out.size)); have HQ := hid (HQ.out.trans (hb6.mono HQ.out.size)); dsimp only)
                  go_ret
                  exact ⟨rfl, HB.out⟩
            · have g0 : ¬ 0 < (f : Int) := by omega
              have g0b : decide (0 < (f : Int)) = false := decide_eq_false g0
              have g6 : ¬ (t1 : Int) < m := by omega
              have g6b : decide ((t1 : Int) < (m : Int)) = false := decide_eq_false g6
              clear ht1n
              go_upto_region 15 with first
                | (go_at_call 14; (with_reducible refine (HR0.out _).mono ?_); rintro e1 w8 ⟨rfl, hb8⟩; have HB := hid (HB.out.trans (hb8.mono HB.out.size)); have HQ := hid (HQ.out.trans (hb8.mono HQ.out.size)); dsimp only)
              have HB0 := HB
              have HQ0 := HQ
              clear g0 g0b g6 g6b e4 e5 e6 e7 e4b e5b e6b e7b ht1 hf0 HB HQ
              go_wp2_with fail
              go_loopw [155] (fun iv wr => ∃ j : Nat, j ≤ d ∧ iv = .int .i64 j ∧ Below W.heap.size W wr ∧ Below wc.heap.size wc wr) (fun iv _ => d - (intOf iv).toNat)
              case atStart => exact ⟨0, by omega, rfl, HB0.out, HQ0.out⟩
              case round =>
                obtain ⟨j, hj, rfl, hbr, hqr⟩ := hrel
                have HB := hid hbr
                have HQ := hid hqr
                by_cases hlt : j < d
                · have hji : (j : Int) < d := by omega
                  have hjb : (j : Int) ≤ 80 := by omega
                  obtain ⟨zg, zo, z, ez, hzg, hz, hzc⟩ := row_cells HR3.out HL3.out j hlt
                  subst ez
                  obtain ⟨_, _, _, _, _⟩ := ccells (W := wr) (g := zg) (o := zo + j * 5) (e := z) (fun i u hu => hzc wr hqr i u hu)
                  have hzw : wordC z = true := by
                    obtain ⟨z', hz', hw⟩ := HALLD.out j hlt
                    rw [List.getElem?_take, if_pos hlt, List.getElem?_drop, hz'] at hz
                    cases hz
                    exact hw
                  have HRZ := hid (fun (X : World) => rword_any z X)
                  rw [hzw] at HRZ
                  unfold Ce.agg Ce.cells at HRZ
                  have hba := below_alloc wr (.cells #[.string z.tx, .int .i64 z.wd, .int .i64 z.fg, .int .i64 z.bg, .int .i64 z.fl] 44)
                  have HB := hid (HB.out.trans (hba.mono HB.out.size))
                  have HQ := hid (HQ.out.trans (hba.mono HQ.out.size))
                  clear hz hzc hzw hbr hqr hba
                  go_wp2_with first
                    | (go_at_call 14; (with_reducible refine (HRZ.out _).mono ?_); rintro e1 w8 ⟨rfl, hb8⟩; have HB := hid (HB.out.trans (hb8.mono HB.out.size)); have HQ := hid (HQ.out.trans (hb8.mono HQ.out.size)); dsimp only)
                  go_roundw
                  case rel => exact ⟨j + 1, by omega, by go_num, HB.out, HQ.out⟩
                  case measure => simp [intOf]; omega
                · have hjd : j = d := by omega
                  subst hjd
                  clear hbr hqr hlt
                  go_wp2_with first
                    | (go_at_call 9; (with_reducible refine (HTH2.out _ HQ.out).mono ?_); rintro e1 w4 ⟨rfl, rfl⟩; dsimp only)
                    | (go_at_call 15; (with_reducible refine (HRT.out _ HQ.out).mono ?_); rintro e1 w6 ⟨rfl, hb6⟩; have HB := hid (HB.out.trans (hb6.mono HB.out.size)); have HQ := hid (HQ.out.trans (hb6.mono HQ.out.size)); dsimp only)
                  go_ret
                  exact ⟨rfl, HB.out⟩
          · by_cases htm : t1 < m
            · obtain ⟨fp, hf1n⟩ : ∃ fp, f = fp + 1 := ⟨f - 1, by omega⟩
              obtain ⟨z1, hz1, hz1w⟩ := hf0 (by omega)
              rw [show f - 1 = fp by omega] at hz1
              have g1 : (f : Int) - 1 = (fp : Int) := by omega
              have g2 : IntKind.i64.wrap (fp : Int) = (fp : Int) := IntWalk.i64_in _ (by omega)
              have g3 : (0 : Int) < (f : Int) := by omega
              have g4 : (fp : Int) < m := by omega
              have g5 : (0 : Int) ≤ (fp : Int) := by omega
              have C1 := hid (HCX.out fp z1 hz1)
              have HR1 := hid (fun (X : World) => rword_any z1 X)
              rw [hz1w] at HR1
              unfold Ce.agg Ce.cells at HR1
              clear hz1 hz1w hf1n
              obtain ⟨z2, hz2, hz2w⟩ := ht1 htm
              have g6 : (t1 : Int) < m := by omega
              have C2 := hid (HCX.out t1 z2 hz2)
              have HR2 := hid (fun (X : World) => rword_any z2 X)
              rw [hz2w] at HR2
              unfold Ce.agg Ce.cells at HR2
              clear hz2 hz2w
              clear ht1n
              go_upto_region 15 with first
                | (go_at_call 14; (with_reducible refine (HR0.out _).mono ?_); rintro e1 w8 ⟨rfl, hb8⟩; have HB := hid (HB.out.trans (hb8.mono HB.out.size)); have HQ := hid (HQ.out.trans (hb8.mono HQ.out.size)); dsimp only; obtain ⟨_, _, _, _, _⟩ := C1.out _ HQ.out; obtain ⟨_, _, _, _, _⟩ := C2.out _ HQ.out)
                | (go_at_call 14; (with_reducible refine (HR1.out _).mono ?_); rintro e1 w8 ⟨rfl, hb8⟩; have HB := hid (HB.out.trans (hb8.mono HB.out.size)); have HQ := hid (HQ.out.trans (hb8.mono HQ.out.size)); dsimp only; obtain ⟨_, _, _, _, _⟩ := C2.out _ HQ.out)
                | (go_at_call 14; (with_reducible refine (HR2.out _).mono ?_); rintro e1 w8 ⟨rfl, hb8⟩; have HB := hid (HB.out.trans (hb8.mono HB.out.size)); have HQ := hid (HQ.out.trans (hb8.mono HQ.out.size)); dsimp only)
              have HB0 := HB
              have HQ0 := HQ
              clear g1 g2 g3 g4 g5 g6 e4 e5 e6 e7 e4b e5b e6b e7b ht1 hf0 HB HQ
              go_wp2_with fail
              go_loopw [155] (fun iv wr => ∃ j : Nat, j ≤ d ∧ iv = .int .i64 j ∧ Below W.heap.size W wr ∧ Below wc.heap.size wc wr) (fun iv _ => d - (intOf iv).toNat)
              case atStart => exact ⟨0, by omega, rfl, HB0.out, HQ0.out⟩
              case round =>
                obtain ⟨j, hj, rfl, hbr, hqr⟩ := hrel
                have HB := hid hbr
                have HQ := hid hqr
                by_cases hlt : j < d
                · have hji : (j : Int) < d := by omega
                  have hjb : (j : Int) ≤ 80 := by omega
                  obtain ⟨zg, zo, z, ez, hzg, hz, hzc⟩ := row_cells HR3.out HL3.out j hlt
                  subst ez
                  obtain ⟨_, _, _, _, _⟩ := ccells (W := wr) (g := zg) (o := zo + j * 5) (e := z) (fun i u hu => hzc wr hqr i u hu)
                  have hzw : wordC z = true := by
                    obtain ⟨z', hz', hw⟩ := HALLD.out j hlt
                    rw [List.getElem?_take, if_pos hlt, List.getElem?_drop, hz'] at hz
                    cases hz
                    exact hw
                  have HRZ := hid (fun (X : World) => rword_any z X)
                  rw [hzw] at HRZ
                  unfold Ce.agg Ce.cells at HRZ
                  have hba := below_alloc wr (.cells #[.string z.tx, .int .i64 z.wd, .int .i64 z.fg, .int .i64 z.bg, .int .i64 z.fl] 44)
                  have HB := hid (HB.out.trans (hba.mono HB.out.size))
                  have HQ := hid (HQ.out.trans (hba.mono HQ.out.size))
                  clear hz hzc hzw hbr hqr hba
                  go_wp2_with first
                    | (go_at_call 14; (with_reducible refine (HRZ.out _).mono ?_); rintro e1 w8 ⟨rfl, hb8⟩; have HB := hid (HB.out.trans (hb8.mono HB.out.size)); have HQ := hid (HQ.out.trans (hb8.mono HQ.out.size)); dsimp only)
                  go_roundw
                  case rel => exact ⟨j + 1, by omega, by go_num, HB.out, HQ.out⟩
                  case measure => simp [intOf]; omega
                · have hjd : j = d := by omega
                  subst hjd
                  clear hbr hqr hlt
                  go_wp2_with first
                    | (go_at_call 9; (with_reducible refine (HTH2.out _ HQ.out).mono ?_); rintro e1 w4 ⟨rfl, rfl⟩; dsimp only)
                    | (go_at_call 15; (with_reducible refine (HRT.out _ HQ.out).mono ?_); rintro e1 w6 ⟨rfl, hb6⟩; have HB := hid (HB.out.trans (hb6.mono HB.out.size)); have HQ := hid (HQ.out.trans (hb6.mono HQ.out.size)); dsimp only)
                  go_ret
                  exact ⟨rfl, HB.out⟩
            · obtain ⟨fp, hf1n⟩ : ∃ fp, f = fp + 1 := ⟨f - 1, by omega⟩
              obtain ⟨z1, hz1, hz1w⟩ := hf0 (by omega)
              rw [show f - 1 = fp by omega] at hz1
              have g1 : (f : Int) - 1 = (fp : Int) := by omega
              have g2 : IntKind.i64.wrap (fp : Int) = (fp : Int) := IntWalk.i64_in _ (by omega)
              have g3 : (0 : Int) < (f : Int) := by omega
              have g4 : (fp : Int) < m := by omega
              have g5 : (0 : Int) ≤ (fp : Int) := by omega
              have C1 := hid (HCX.out fp z1 hz1)
              have HR1 := hid (fun (X : World) => rword_any z1 X)
              rw [hz1w] at HR1
              unfold Ce.agg Ce.cells at HR1
              clear hz1 hz1w hf1n
              have g6 : ¬ (t1 : Int) < m := by omega
              have g6b : decide ((t1 : Int) < (m : Int)) = false := decide_eq_false g6
              clear ht1n
              go_upto_region 15 with first
                | (go_at_call 14; (with_reducible refine (HR0.out _).mono ?_); rintro e1 w8 ⟨rfl, hb8⟩; have HB := hid (HB.out.trans (hb8.mono HB.out.size)); have HQ := hid (HQ.out.trans (hb8.mono HQ.out.size)); dsimp only; obtain ⟨_, _, _, _, _⟩ := C1.out _ HQ.out)
                | (go_at_call 14; (with_reducible refine (HR1.out _).mono ?_); rintro e1 w8 ⟨rfl, hb8⟩; have HB := hid (HB.out.trans (hb8.mono HB.out.size)); have HQ := hid (HQ.out.trans (hb8.mono HQ.out.size)); dsimp only)
              have HB0 := HB
              have HQ0 := HQ
              clear g1 g2 g3 g4 g5 g6 g6b e4 e5 e6 e7 e4b e5b e6b e7b ht1 hf0 HB HQ
              go_wp2_with fail
              go_loopw [155] (fun iv wr => ∃ j : Nat, j ≤ d ∧ iv = .int .i64 j ∧ Below W.heap.size W wr ∧ Below wc.heap.size wc wr) (fun iv _ => d - (intOf iv).toNat)
              case atStart => exact ⟨0, by omega, rfl, HB0.out, HQ0.out⟩
              case round =>
                obtain ⟨j, hj, rfl, hbr, hqr⟩ := hrel
                have HB := hid hbr
                have HQ := hid hqr
                by_cases hlt : j < d
                · have hji : (j : Int) < d := by omega
                  have hjb : (j : Int) ≤ 80 := by omega
                  obtain ⟨zg, zo, z, ez, hzg, hz, hzc⟩ := row_cells HR3.out HL3.out j hlt
                  subst ez
                  obtain ⟨_, _, _, _, _⟩ := ccells (W := wr) (g := zg) (o := zo + j * 5) (e := z) (fun i u hu => hzc wr hqr i u hu)
                  have hzw : wordC z = true := by
                    obtain ⟨z', hz', hw⟩ := HALLD.out j hlt
                    rw [List.getElem?_take, if_pos hlt, List.getElem?_drop, hz'] at hz
                    cases hz
                    exact hw
                  have HRZ := hid (fun (X : World) => rword_any z X)
                  rw [hzw] at HRZ
                  unfold Ce.agg Ce.cells at HRZ
                  have hba := below_alloc wr (.cells #[.string z.tx, .int .i64 z.wd, .int .i64 z.fg, .int .i64 z.bg, .int .i64 z.fl] 44)
                  have HB := hid (HB.out.trans (hba.mono HB.out.size))
                  have HQ := hid (HQ.out.trans (hba.mono HQ.out.size))
                  clear hz hzc hzw hbr hqr hba
                  go_wp2_with first
                    | (go_at_call 14; (with_reducible refine (HRZ.out _).mono ?_); rintro e1 w8 ⟨rfl, hb8⟩; have HB := hid (HB.out.trans (hb8.mono HB.out.size)); have HQ := hid (HQ.out.trans (hb8.mono HQ.out.size)); dsimp only)
                  go_roundw
                  case rel => exact ⟨j + 1, by omega, by go_num, HB.out, HQ.out⟩
                  case measure => simp [intOf]; omega
                · have hjd : j = d := by omega
                  subst hjd
                  clear hbr hqr hlt
                  go_wp2_with first
                    | (go_at_call 9; (with_reducible refine (HTH2.out _ HQ.out).mono ?_); rintro e1 w4 ⟨rfl, rfl⟩; dsimp only)
                    | (go_at_call 15; (with_reducible refine (HRT.out _ HQ.out).mono ?_); rintro e1 w6 ⟨rfl, hb6⟩; have HB := hid (HB.out.trans (hb6.mono HB.out.size)); have HQ := hid (HQ.out.trans (hb6.mono HQ.out.size)); dsimp only)
                  go_ret
                  exact ⟨rfl, HB.out⟩
      | true =>
        simp only [if_true] at HTK
        cases hwb : wordC z0 with
        | false =>
          have HWO := hid (fun (X : World) (hX : Below wc.heap.size wc X) => (hwy false hwb X hX).mono fun e w' h => h.2 rfl)
          rw [hwb] at HR0
          clear hwy hwb hk hi hi1 hxl hz0 hnn
          go_upto_region 9 with first
          | (go_at_call 12; (with_reducible refine (HTK.out _ HQ.out).mono ?_); rintro e1 w1 ⟨rfl, hb1⟩; have HB := hid (HB.out.trans (hb1.mono HB.out.size)); have HQ := hid (HQ.out.trans (hb1.mono HQ.out.size)); dsimp only)
          | (go_at_call 13; (with_reducible refine (HWO.out _ HQ.out).mono ?_); rintro e1 w2 ⟨rfl, hb2⟩; have HB := hid (HB.out.trans (hb2.mono HB.out.size)); have HQ := hid (HQ.out.trans (hb2.mono HQ.out.size)); dsimp only)
          | (go_at_call 8; (with_reducible refine (HMY.out _ HQ.out).mono ?_); rintro e1 w3 ⟨rfl, hb3⟩; have HB := hid (HB.out.trans (hb3.mono HB.out.size)); have HQ := hid (HQ.out.trans (hb3.mono HQ.out.size)); dsimp only)
          | (go_at_call 9; (with_reducible refine (HTH.out _ HQ.out).mono ?_); rintro e1 w4 ⟨rfl, rfl⟩; dsimp only)
          | (go_at_call 10; (with_reducible refine (HAL.out _ HQ.out).mono ?_); rintro e1 w5 ⟨rfl, hb5⟩; have HB := hid (HB.out.trans (hb5.mono HB.out.size)); have HQ := hid (HQ.out.trans (hb5.mono HQ.out.size)); dsimp only)
          obtain ⟨p0, _⟩ := HCELL.out _ HQ.out
          obtain ⟨_, _, _, _, _⟩ := HC0.out _ HQ.out
          go_upto_region 21 with first
          | (go_at_call 14; (with_reducible refine (HR0.out _).mono ?_); rintro e1 w8 ⟨rfl, hb8⟩; have HB := hid (HB.out.trans (hb8.mono HB.out.size)); have HQ := hid (HQ.out.trans (hb8.mono HQ.out.size)); dsimp only)
          go_wp2_with first
            | (go_at_call 9; (with_reducible refine (HTH2.out _ HQ.out).mono ?_); rintro e1 w4 ⟨rfl, rfl⟩; dsimp only)
            | (go_at_call 15; (with_reducible refine (HRT.out _ HQ.out).mono ?_); rintro e1 w6 ⟨rfl, hb6⟩; have HB := hid (HB.out.trans (hb6.mono HB.out.size)); have HQ := hid (HQ.out.trans (hb6.mono HQ.out.size)); dsimp only)
            | (go_at_call 16; (with_reducible refine (HRB.out _ HQ.out).mono ?_); rintro e1 w7 ⟨rfl, hb7⟩; have HB := hid (HB.out.trans (hb7.mono HB.out.size)); have HQ := hid (HQ.out.trans (hb7.mono HQ.out.size)); dsimp only)
          go_ret
          exact ⟨rfl, HB.out⟩
        | true =>
          have HWO := hid (fun (X : World) (hX : Below wc.heap.size wc X) => (hwy true hwb X hX).mono fun e w' h => h.1 rfl)
          unfold WdPost at HWO
          rw [hcs] at HWO
          rw [hwb] at HR0
          clear hwy hwb hk hi hi1 hxl hz0 hnn
          go_upto_region 4 with first
          | (go_at_call 12; (with_reducible refine (HTK.out _ HQ.out).mono ?_); rintro e1 w1 ⟨rfl, hb1⟩; have HB := hid (HB.out.trans (hb1.mono HB.out.size)); have HQ := hid (HQ.out.trans (hb1.mono HQ.out.size)); dsimp only)
          | (go_at_call 13; (with_reducible refine (HWO.out _ HQ.out).mono ?_); rintro e1 w2 ⟨f, t, rfl, hft, hall, hf0, ht1, hb2⟩; have HB := hid (HB.out.trans (hb2.mono HB.out.size)); have HQ := hid (HQ.out.trans (hb2.mono HQ.out.size)); dsimp only)
          obtain ⟨hf1, hf2, hf3⟩ := hft
          rw [HM.out] at hf3
          have HALL := hid hall
          obtain ⟨t1, ht1n⟩ : ∃ t1, t + 1 = t1 := ⟨_, rfl⟩
          rw [ht1n, HM.out] at ht1
          have e1 : (t : Int) + 1 = (t1 : Int) := by omega
          have e2 : IntKind.i64.wrap (t1 : Int) = (t1 : Int) := IntWalk.i64_in _ (by omega)
          have e3 : (0 : Int) ≤ (t1 : Int) := by omega
          have e4 : ¬ (f : Int) < 0 := by omega
          have e5 : ¬ (c : Int) < (f : Int) := by omega
          have e6 : ¬ (t : Int) < (c : Int) := by omega
          have e7 : ¬ (m : Int) ≤ (t : Int) := by omega
          have e4b : decide ((f : Int) < 0) = false := decide_eq_false e4
          have e5b : decide ((c : Int) < (f : Int)) = false := decide_eq_false e5
          have e6b : decide ((t : Int) < (c : Int)) = false := decide_eq_false e6
          have e7b : decide ((m : Int) ≤ (t : Int)) = false := decide_eq_false e7
          have e8 : (f : Int) ≤ 80 := by omega
          have e9 : (t : Int) ≤ 80 := by omega
          obtain ⟨d, hd⟩ : ∃ d, t1 - f = d := ⟨_, rfl⟩
          obtain ⟨A3, hs3, hr3⟩ := fslice_ce_lh HCE.out HM.out f d (by omega) (by omega) (t1 : Int) (by omega)
          obtain ⟨cf, hcf⟩ : ∃ cf, cc - f = cf := ⟨_, rfl⟩
          rw [hcf] at hs3 hr3
          have hl3 : ((cs.drop f).take d).length = d := by rw [List.length_take, List.length_drop, HM.out]; omega
          have HR3 := hid hr3
          have HL3 := hid hl3
          have hd80 : (d : Int) ≤ 80 := by omega
          have HALLD : Hid (∀ j, j < d → isW cs (f + j) true) := fun j hj => HALL.out (f + j) (by omega) (by omega)
          have f1 : (f : Int) ≤ (t1 : Int) := by omega
          have f2 : (t1 : Int) ≤ (cc : Int) := by omega
          clear hall hd hcf hr3 hl3 HALL
          go_upto_region 9 with first
          | (go_at_call 8; (with_reducible refine (HMY.out _ HQ.out).mono ?_); rintro e1 w3 ⟨rfl, hb3⟩; have HB := hid (HB.out.trans (hb3.mono HB.out.size)); have HQ := hid (HQ.out.trans (hb3.mono HQ.out.size)); dsimp only)
          | (go_at_call 9; (with_reducible refine (HTH.out _ HQ.out).mono ?_); rintro e1 w4 ⟨rfl, rfl⟩; dsimp only)
          | (go_at_call 10; (with_reducible refine (HAL.out _ HQ.out).mono ?_); rintro e1 w5 ⟨rfl, hb5⟩; have HB := hid (HB.out.trans (hb5.mono HB.out.size)); have HQ := hid (HQ.out.trans (hb5.mono HQ.out.size)); dsimp only)
          obtain ⟨p0, _⟩ := HCELL.out _ HQ.out
          obtain ⟨_, _, _, _, _⟩ := HC0.out _ HQ.out
          by_cases hfz0 : 0 < f
          rotate_left
          · by_cases htm : t1 < m
            · have g0 : ¬ 0 < (f : Int) := by omega
              have g0b : decide (0 < (f : Int)) = false := decide_eq_false g0
              obtain ⟨z2, hz2, hz2w⟩ := ht1 htm
              have g6 : (t1 : Int) < m := by omega
              have C2 := hid (HCX.out t1 z2 hz2)
              have HR2 := hid (fun (X : World) => rword_any z2 X)
              rw [hz2w] at HR2
              unfold Ce.agg Ce.cells at HR2
              clear hz2 hz2w
              clear ht1n
              go_upto_region 15 with first
                | (go_at_call 14; (with_reducible refine (HR0.out _).mono ?_); rintro e1 w8 ⟨rfl, hb8⟩; have HB := hid (HB.out.trans (hb8.mono HB.out.size)); have HQ := hid (HQ.out.trans (hb8.mono HQ.out.size)); dsimp only; obtain ⟨_, _, _, _, _⟩ := C2.out _ HQ.out)
                | (go_at_call 14; (with_reducible refine (HR2.out _).mono ?_); rintro e1 w8 ⟨rfl, hb8⟩; have HB := hid (HB.out.trans (hb8.mono HB.out.size)); have HQ := hid (HQ.out.trans (hb8.mono HQ.out.size)); dsimp only)
              have HB0 := HB
              have HQ0 := HQ
              clear g0 g0b g6 e4 e5 e6 e7 e4b e5b e6b e7b ht1 hf0 HB HQ
              go_wp2_with fail
              go_loopw [155] (fun iv wr => ∃ j : Nat, j ≤ d ∧ iv = .int .i64 j ∧ Below W.heap.size W wr ∧ Below wc.heap.size wc wr) (fun iv _ => d - (intOf iv).toNat)
              case atStart => exact ⟨0, by omega, rfl, HB0.out, HQ0.out⟩
              case round =>
                obtain ⟨j, hj, rfl, hbr, hqr⟩ := hrel
                have HB := hid hbr
                have HQ := hid hqr
                by_cases hlt : j < d
                · have hji : (j : Int) < d := by omega
                  have hjb : (j : Int) ≤ 80 := by omega
                  obtain ⟨zg, zo, z, ez, hzg, hz, hzc⟩ := row_cells HR3.out HL3.out j hlt
                  subst ez
                  obtain ⟨_, _, _, _, _⟩ := ccells (W := wr) (g := zg) (o := zo + j * 5) (e := z) (fun i u hu => hzc wr hqr i u hu)
                  have hzw : wordC z = true := by
                    obtain ⟨z', hz', hw⟩ := HALLD.out j hlt
                    rw [List.getElem?_take, if_pos hlt, List.getElem?_drop, hz'] at hz
                    cases hz
                    exact hw
                  have HRZ := hid (fun (X : World) => rword_any z X)
                  rw [hzw] at HRZ
                  unfold Ce.agg Ce.cells at HRZ
                  have hba := below_alloc wr (.cells #[.string z.tx, .int .i64 z.wd, .int .i64 z.fg, .int .i64 z.bg, .int .i64 z.fl] 44)
                  have HB := hid (HB.out.trans (hba.mono HB.out.size))
                  have HQ := hid (HQ.out.trans (hba.mono HQ.out.size))
                  clear hz hzc hzw hbr hqr hba
                  go_wp2_with first
                    | (go_at_call 14; (with_reducible refine (HRZ.out _).mono ?_); rintro e1 w8 ⟨rfl, hb8⟩; have HB := hid (HB.out.trans (hb8.mono HB.out.size)); have HQ := hid (HQ.out.trans (hb8.mono HQ.out.size)); dsimp only)
                  go_roundw
                  case rel => exact ⟨j + 1, by omega, by go_num, HB.out, HQ.out⟩
                  case measure => simp [intOf]; omega
                · have hjd : j = d := by omega
                  subst hjd
                  clear hbr hqr hlt
                  go_wp2_with first
                    | (go_at_call 9; (with_reducible refine (HTH2.out _ HQ.out).mono ?_); rintro e1 w4 ⟨rfl, rfl⟩; dsimp only)
                    | (go_at_call 15; (with_reducible refine (HRT.out _ HQ.out).mono ?_); rintro e1 w6 ⟨rfl, hb6⟩; have HB := hid (HB.out.trans (hb6.mono HB.out.size)); have HQ := hid (HQ.out.trans (hb6.mono HQ.out.size)); dsimp only)
                    | (go_at_call 16; (with_reducible refine (HRB.out _ HQ.out).mono ?_); rintro e1 w7 ⟨rfl, hb7⟩; have HB := hid (HB.out.trans (hb7.mono HB.out.size)); have HQ := hid (HQ.out.trans (hb7.mono HQ.out.size)); dsimp only)
                  go_ret
                  exact ⟨rfl, HB.out⟩
            · have g0 : ¬ 0 < (f : Int) := by omega
              have g0b : decide (0 < (f : Int)) = false := decide_eq_false g0
              have g6 : ¬ (t1 : Int) < m := by omega
              have g6b : decide ((t1 : Int) < (m : Int)) = false := decide_eq_false g6
              clear ht1n
              go_upto_region 15 with first
                | (go_at_call 14; (with_reducible refine (HR0.out _).mono ?_); rintro e1 w8 ⟨rfl, hb8⟩; have HB := hid (HB.out.trans (hb8.mono HB.out.size)); have HQ := hid (HQ.out.trans (hb8.mono HQ.out.size)); dsimp only)
              have HB0 := HB
              have HQ0 := HQ
              clear g0 g0b g6 g6b e4 e5 e6 e7 e4b e5b e6b e7b ht1 hf0 HB HQ
              go_wp2_with fail
              go_loopw [155] (fun iv wr => ∃ j : Nat, j ≤ d ∧ iv = .int .i64 j ∧ Below W.heap.size W wr ∧ Below wc.heap.size wc wr) (fun iv _ => d - (intOf iv).toNat)
              case atStart => exact ⟨0, by omega, rfl, HB0.out, HQ0.out⟩
              case round =>
                obtain ⟨j, hj, rfl, hbr, hqr⟩ := hrel
                have HB := hid hbr
                have HQ := hid hqr
                by_cases hlt : j < d
                · have hji : (j : Int) < d := by omega
                  have hjb : (j : Int) ≤ 80 := by omega
                  obtain ⟨zg, zo, z, ez, hzg, hz, hzc⟩ := row_cells HR3.out HL3.out j hlt
                  subst ez
                  obtain ⟨_, _, _, _, _⟩ := ccells (W := wr) (g := zg) (o := zo + j * 5) (e := z) (fun i u hu => hzc wr hqr i u hu)
                  have hzw : wordC z = true := by
                    obtain ⟨z', hz', hw⟩ := HALLD.out j hlt
                    rw [List.getElem?_take, if_pos hlt, List.getElem?_drop, hz'] at hz
                    cases hz
                    exact hw
                  have HRZ := hid (fun (X : World) => rword_any z X)
                  rw [hzw] at HRZ
                  unfold Ce.agg Ce.cells at HRZ
                  have hba := below_alloc wr (.cells #[.string z.tx, .int .i64 z.wd, .int .i64 z.fg, .int .i64 z.bg, .int .i64 z.fl] 44)
                  have HB := hid (HB.out.trans (hba.mono HB.out.size))
                  have HQ := hid (HQ.out.trans (hba.mono HQ.out.size))
                  clear hz hzc hzw hbr hqr hba
                  go_wp2_with first
                    | (go_at_call 14; (with_reducible refine (HRZ.out _).mono ?_); rintro e1 w8 ⟨rfl, hb8⟩; have HB := hid (HB.out.trans (hb8.mono HB.out.size)); have HQ := hid (HQ.out.trans (hb8.mono HQ.out.size)); dsimp only)
                  go_roundw
                  case rel => exact ⟨j + 1, by omega, by go_num, HB.out, HQ.out⟩
                  case measure => simp [intOf]; omega
                · have hjd : j = d := by omega
                  subst hjd
                  clear hbr hqr hlt
                  go_wp2_with first
                    | (go_at_call 9; (with_reducible refine (HTH2.out _ HQ.out).mono ?_); rintro e1 w4 ⟨rfl, rfl⟩; dsimp only)
                    | (go_at_call 15; (with_reducible refine (HRT.out _ HQ.out).mono ?_); rintro e1 w6 ⟨rfl, hb6⟩; have HB := hid (HB.out.trans (hb6.mono HB.out.size)); have HQ := hid (HQ.out.trans (hb6.mono HQ.out.size)); dsimp only)
                    | (go_at_call 16; (with_reducible refine (HRB.out _ HQ.out).mono ?_); rintro e1 w7 ⟨rfl, hb7⟩; have HB := hid (HB.out.trans (hb7.mono HB.out.size)); have HQ := hid (HQ.out.trans (hb7.mono HQ.out.size)); dsimp only)
                  go_ret
                  exact ⟨rfl, HB.out⟩
          · by_cases htm : t1 < m
            · obtain ⟨fp, hf1n⟩ : ∃ fp, f = fp + 1 := ⟨f - 1, by omega⟩
              obtain ⟨z1, hz1, hz1w⟩ := hf0 (by omega)
              rw [show f - 1 = fp by omega] at hz1
              have g1 : (f : Int) - 1 = (fp : Int) := by omega
              have g2 : IntKind.i64.wrap (fp : Int) = (fp : Int) := IntWalk.i64_in _ (by omega)
              have g3 : (0 : Int) < (f : Int) := by omega
              have g4 : (fp : Int) < m := by omega
              have g5 : (0 : Int) ≤ (fp : Int) := by omega
              have C1 := hid (HCX.out fp z1 hz1)
              have HR1 := hid (fun (X : World) => rword_any z1 X)
              rw [hz1w] at HR1
              unfold Ce.agg Ce.cells at HR1
              clear hz1 hz1w hf1n
              obtain ⟨z2, hz2, hz2w⟩ := ht1 htm
              have g6 : (t1 : Int) < m := by omega
              have C2 := hid (HCX.out t1 z2 hz2)
              have HR2 := hid (fun (X : World) => rword_any z2 X)
              rw [hz2w] at HR2
              unfold Ce.agg Ce.cells at HR2
              clear hz2 hz2w
              clear ht1n
              go_upto_region 15 with first
                | (go_at_call 14; (with_reducible refine (HR0.out _).mono ?_); rintro e1 w8 ⟨rfl, hb8⟩; have HB := hid (HB.out.trans (hb8.mono HB.out.size)); have HQ := hid (HQ.out.trans (hb8.mono HQ.out.size)); dsimp only; obtain ⟨_, _, _, _, _⟩ := C1.out _ HQ.out; obtain ⟨_, _, _, _, _⟩ := C2.out _ HQ.out)
                | (go_at_call 14; (with_reducible refine (HR1.out _).mono ?_); rintro e1 w8 ⟨rfl, hb8⟩; have HB := hid (HB.out.trans (hb8.mono HB.out.size)); have HQ := hid (HQ.out.trans (hb8.mono HQ.out.size)); dsimp only; obtain ⟨_, _, _, _, _⟩ := C2.out _ HQ.out)
                | (go_at_call 14; (with_reducible refine (HR2.out _).mono ?_); rintro e1 w8 ⟨rfl, hb8⟩; have HB := hid (HB.out.trans (hb8.mono HB.out.size)); have HQ := hid (HQ.out.trans (hb8.mono HQ.out.size)); dsimp only)
              have HB0 := HB
              have HQ0 := HQ
              clear g1 g2 g3 g4 g5 g6 e4 e5 e6 e7 e4b e5b e6b e7b ht1 hf0 HB HQ
              go_wp2_with fail
              go_loopw [155] (fun iv wr => ∃ j : Nat, j ≤ d ∧ iv = .int .i64 j ∧ Below W.heap.size W wr ∧ Below wc.heap.size wc wr) (fun iv _ => d - (intOf iv).toNat)
              case atStart => exact ⟨0, by omega, rfl, HB0.out, HQ0.out⟩
              case round =>
                obtain ⟨j, hj, rfl, hbr, hqr⟩ := hrel
                have HB := hid hbr
                have HQ := hid hqr
                by_cases hlt : j < d
                · have hji : (j : Int) < d := by omega
                  have hjb : (j : Int) ≤ 80 := by omega
                  obtain ⟨zg, zo, z, ez, hzg, hz, hzc⟩ := row_cells HR3.out HL3.out j hlt
                  subst ez
                  obtain ⟨_, _, _, _, _⟩ := ccells (W := wr) (g := zg) (o := zo + j * 5) (e := z) (fun i u hu => hzc wr hqr i u hu)
                  have hzw : wordC z = true := by
                    obtain ⟨z', hz', hw⟩ := HALLD.out j hlt
                    rw [List.getElem?_take, if_pos hlt, List.getElem?_drop, hz'] at hz
                    cases hz
                    exact hw
                  have HRZ := hid (fun (X : World) => rword_any z X)
                  rw [hzw] at HRZ
                  unfold Ce.agg Ce.cells at HRZ
                  have hba := below_alloc wr (.cells #[.string z.tx, .int .i64 z.wd, .int .i64 z.fg, .int .i64 z.bg, .int .i64 z.fl] 44)
                  have HB := hid (HB.out.trans (hba.mono HB.out.size))
                  have HQ := hid (HQ.out.trans (hba.mono HQ.out.size))
                  clear hz hzc hzw hbr hqr hba
                  go_wp2_with first
                    | (go_at_call 14; (with_reducible refine (HRZ.out _).mono ?_); rintro e1 w8 ⟨rfl, hb8⟩; have HB := hid (HB.out.trans (hb8.mono HB.out.size)); have HQ := hid (HQ.out.trans (hb8.mono HQ.out.size)); dsimp only)
                  go_roundw
                  case rel => exact ⟨j + 1, by omega, by go_num, HB.out, HQ.out⟩
                  case measure => simp [intOf]; omega
                · have hjd : j = d := by omega
                  subst hjd
                  clear hbr hqr hlt
                  go_wp2_with first
                    | (go_at_call 9; (with_reducible refine (HTH2.out _ HQ.out).mono ?_); rintro e1 w4 ⟨rfl, rfl⟩; dsimp only)
                    | (go_at_call 15; (with_reducible refine (HRT.out _ HQ.out).mono ?_); rintro e1 w6 ⟨rfl, hb6⟩; have HB := hid (HB.out.trans (hb6.mono HB.out.size)); have HQ := hid (HQ.out.trans (hb6.mono HQ.out.size)); dsimp only)
                    | (go_at_call 16; (with_reducible refine (HRB.out _ HQ.out).mono ?_); rintro e1 w7 ⟨rfl, hb7⟩; have HB := hid (HB.out.trans (hb7.mono HB.out.size)); have HQ := hid (HQ.out.trans (hb7.mono HQ.out.size)); dsimp only)
                  go_ret
                  exact ⟨rfl, HB.out⟩
            · obtain ⟨fp, hf1n⟩ : ∃ fp, f = fp + 1 := ⟨f - 1, by omega⟩
              obtain ⟨z1, hz1, hz1w⟩ := hf0 (by omega)
              rw [show f - 1 = fp by omega] at hz1
              have g1 : (f : Int) - 1 = (fp : Int) := by omega
              have g2 : IntKind.i64.wrap (fp : Int) = (fp : Int) := IntWalk.i64_in _ (by omega)
              have g3 : (0 : Int) < (f : Int) := by omega
              have g4 : (fp : Int) < m := by omega
              have g5 : (0 : Int) ≤ (fp : Int) := by omega
              have C1 := hid (HCX.out fp z1 hz1)
              have HR1 := hid (fun (X : World) => rword_any z1 X)
              rw [hz1w] at HR1
              unfold Ce.agg Ce.cells at HR1
              clear hz1 hz1w hf1n
              have g6 : ¬ (t1 : Int) < m := by omega
              have g6b : decide ((t1 : Int) < (m : Int)) = false := decide_eq_false g6
              clear ht1n
              go_upto_region 15 with first
                | (go_at_call 14; (with_reducible refine (HR0.out _).mono ?_); rintro e1 w8 ⟨rfl, hb8⟩; have HB := hid (HB.out.trans (hb8.mono HB.out.size)); have HQ := hid (HQ.out.trans (hb8.mono HQ.out.size)); dsimp only; obtain ⟨_, _, _, _, _⟩ := C1.out _ HQ.out)
                | (go_at_call 14; (with_reducible refine (HR1.out _).mono ?_); rintro e1 w8 ⟨rfl, hb8⟩; have HB := hid (HB.out.trans (hb8.mono HB.out.size)); have HQ := hid (HQ.out.trans (hb8.mono HQ.out.size)); dsimp only)
              have HB0 := HB
              have HQ0 := HQ
              clear g1 g2 g3 g4 g5 g6 g6b e4 e5 e6 e7 e4b e5b e6b e7b ht1 hf0 HB HQ
              go_wp2_with fail
              go_loopw [155] (fun iv wr => ∃ j : Nat, j ≤ d ∧ iv = .int .i64 j ∧ Below W.heap.size W wr ∧ Below wc.heap.size wc wr) (fun iv _ => d - (intOf iv).toNat)
              case atStart => exact ⟨0, by omega, rfl, HB0.out, HQ0.out⟩
              case round =>
                obtain ⟨j, hj, rfl, hbr, hqr⟩ := hrel
                have HB := hid hbr
                have HQ := hid hqr
                by_cases hlt : j < d
                · have hji : (j : Int) < d := by omega
                  have hjb : (j : Int) ≤ 80 := by omega
                  obtain ⟨zg, zo, z, ez, hzg, hz, hzc⟩ := row_cells HR3.out HL3.out j hlt
                  subst ez
                  obtain ⟨_, _, _, _, _⟩ := ccells (W := wr) (g := zg) (o := zo + j * 5) (e := z) (fun i u hu => hzc wr hqr i u hu)
                  have hzw : wordC z = true := by
                    obtain ⟨z', hz', hw⟩ := HALLD.out j hlt
                    rw [List.getElem?_take, if_pos hlt, List.getElem?_drop, hz'] at hz
                    cases hz
                    exact hw
                  have HRZ := hid (fun (X : World) => rword_any z X)
                  rw [hzw] at HRZ
                  unfold Ce.agg Ce.cells at HRZ
                  have hba := below_alloc wr (.cells #[.string z.tx, .int .i64 z.wd, .int .i64 z.fg, .int .i64 z.bg, .int .i64 z.fl] 44)
                  have HB := hid (HB.out.trans (hba.mono HB.out.size))
                  have HQ := hid (HQ.out.trans (hba.mono HQ.out.size))
                  clear hz hzc hzw hbr hqr hba
                  go_wp2_with first
                    | (go_at_call 14; (with_reducible refine (HRZ.out _).mono ?_); rintro e1 w8 ⟨rfl, hb8⟩; have HB := hid (HB.out.trans (hb8.mono HB.out.size)); have HQ := hid (HQ.out.trans (hb8.mono HQ.out.size)); dsimp only)
                  go_roundw
                  case rel => exact ⟨j + 1, by omega, by go_num, HB.out, HQ.out⟩
                  case measure => simp [intOf]; omega
                · have hjd : j = d := by omega
                  subst hjd
                  clear hbr hqr hlt
                  go_wp2_with first
                    | (go_at_call 9; (with_reducible refine (HTH2.out _ HQ.out).mono ?_); rintro e1 w4 ⟨rfl, rfl⟩; dsimp only)
                    | (go_at_call 15; (with_reducible refine (HRT.out _ HQ.out).mono ?_); rintro e1 w6 ⟨rfl, hb6⟩; have HB := hid (HB.out.trans (hb6.mono HB.out.size)); have HQ := hid (HQ.out.trans (hb6.mono HQ.out.size)); dsimp only)
                    | (go_at_call 16; (with_reducible refine (HRB.out _ HQ.out).mono ?_); rintro e1 w7 ⟨rfl, hb7⟩; have HB := hid (HB.out.trans (hb7.mono HB.out.size)); have HQ := hid (HQ.out.trans (hb7.mono HQ.out.size)); dsimp only)
                  go_ret
                  exact ⟨rfl, HB.out⟩
end Go.Proofs.YteebbmmgbjpihaaDoor
