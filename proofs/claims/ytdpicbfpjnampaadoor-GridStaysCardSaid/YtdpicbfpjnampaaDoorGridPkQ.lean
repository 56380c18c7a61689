/- Layer 6, the reference: a letter put. Made by wip/gen/gridRef.py. -/
/- What the law GridPuts wants. Made by wip/gen/gridPutsLaw.py. -/
import Derived.Test.YtdpicbfpjnampaaDoorGridReQ
import Derived.Test.YtdpicbfpjnampaaDoorGridOutQ
import Derived.Test.YtdpicbfpjnampaaDoorGridFewQ
import Derived.Deep.DeepCutAuto
import Derived.Deep.RegionWith
namespace Go.Proofs.YtdpicbfpjnampaaDoor
open Go.RowKit

/-- A cell appended to a row of the call's own whose block lies behind the boxes. -/
theorem own_step2 {W wr wz w7 : World} {base : Nat} {ov : Value} {done : List Ce} {lit : Array Value} {l : List (Nat × TypeId × Array Value)} (hown : OwnC wr base ov done) (hb : Below wr.heap.size wr wz) (hg : (wz.alloc (.cells lit 28)).grownBy w7 ov.ownBlock)
    (hbx : Bxs wr l) (hl : ∀ x ∈ l, x.1 < base) (hbr : Below W.heap.size W wr) (hB : W.heap.size ≤ base) : Bxs w7 l ∧ Below W.heap.size W w7 ∧ wr.heap.size ≤ w7.heap.size := by
  have hb6 := hb.trans ((below_alloc wz (.cells lit 28)).mono hb.size)
  have own6 := hown.kept hb6
  refine ⟨fun x hx => ((hbx.below hb6) x hx).grown hg (fun e => ?_), ?_, Nat.le_trans hb6.size hg.size⟩
  · have := (World.ownsRow.lt own6 _ e.symm).1
    have := hl x hx
    omega
  · exact (hbr.trans (hb6.mono hbr.size)).trans ((Below.refl _ _).grown hg (Nat.le_trans hbr.size hb6.size) (fun k hk => Nat.le_trans hB (World.ownsRow.lt own6 k hk).1))

set_option maxRecDepth 100000 in
set_option maxHeartbeats 4000000 in
theorem rPut_any (cols : Int) (v : Value) (lv : List (Ln × Value)) (r : Nat) (q : Nat) (c : Ce) (W : World) (cs0 : List Ce) (soft0 : Bool) (lvl0 : Value) (hr : LR W v lv) (hc : CesOf W lv) (hs : Sm lv) (hx0 : lv[r]? = some (⟨cs0, soft0⟩, lvl0)) (hq : q < cs0.length) (hw : c.wd = 2 → q + 1 < cs0.length) :
    Calls Tryd.prog 20 #[.agg #[.int .i64 cols, v], .int .i64 r, .int .i64 q, c.agg] W (RPost W cols lv ((lv.map Prod.fst).set r ⟨mendL 1 (putL cs0 q c), soft0⟩)) := by
  have HIN := hid hr
  have HSM := hid hs
  obtain ⟨A, c0, rfl, hcap, hA⟩ := hr
  have hrl := (List.getElem?_eq_some_iff.1 hx0).1
  obtain ⟨g, o_, rfl, hg, hcell⟩ := hA (by intro e; rw [e] at hrl; simp at hrl)
  obtain ⟨p0, _⟩ := hcell r _ hx0
  have hce := hc _ (List.mem_of_getElem? hx0)
  have hcl := (hs.2 _ (List.mem_of_getElem? hx0)).1
  simp only at p0 hce hcl
  have HCE := hid hce
  obtain ⟨lA, lc, rfl, hlc, hlA⟩ := hce
  obtain ⟨n, hnl⟩ : ∃ n, lv.length = n := ⟨_, rfl⟩
  obtain ⟨m0, hml⟩ : ∃ m0, cs0.length = m0 := ⟨_, rfl⟩
  have HNL := hid hnl
  have HML := hid hml
  obtain ⟨tg, htg⟩ : ∃ tg, putL cs0 q c = tg := ⟨_, rfl⟩
  have htl : tg.length = m0 := by rw [← htg, putL_length, hml]
  have hta : ∀ j, tg[j]? = if j = q then some c else if j = q + 1 ∧ c.wd = 2 then some (rhC c.at) else cs0[j]? := fun j => by rw [← htg, putL_at hw hq]
  rw [htg]
  obtain ⟨tx, wd, fg, bg, fl⟩ := c
  unfold Ce.agg Ce.cells
  simp only at hta hw ⊢
  rw [hnl] at hcap hrl ⊢
  rw [hml] at hcl hq hw p0 hlc
  have hrli : (r : Int) < n := by omega
  have b0 := (((Bxs.nil W).alloc 24 #[.int .i64 cols, .slice (some ⟨g, o_, none⟩) n c0]).alloc 28 #[.string tx, .int .i64 wd, .int .i64 fg, .int .i64 bg, .int .i64 fl]).alloc 24 #[.int .i64 0, .slice none 0 0]
  simp only [World.size_alloc, List.nil_append, List.cons_append] at b0
  have b1 := b0.below (below_alloc _ (.cells #[] 28))
  have h0 : Below W.heap.size W ((((W.alloc (.cells #[.int .i64 cols, .slice (some ⟨g, o_, none⟩) n c0] 24)).alloc (.cells #[.string tx, .int .i64 wd, .int .i64 fg, .int .i64 bg, .int .i64 fl] 28)).alloc (.cells #[.int .i64 0, .slice none 0 0] 24)).alloc (.cells #[] 28)) := (((below_alloc _ _).alloc (by simp) _).alloc (by simp <;> omega) _).alloc (by simp <;> omega) _
  have s0 : ((((W.alloc (.cells #[.int .i64 cols, .slice (some ⟨g, o_, none⟩) n c0] 24)).alloc (.cells #[.string tx, .int .i64 wd, .int .i64 fg, .int .i64 bg, .int .i64 fl] 28)).alloc (.cells #[.int .i64 0, .slice none 0 0] 24)).alloc (.cells #[] 28)).heap.size = W.heap.size + 1 + 1 + 1 + 1 := by simp
  have o0 : OwnC ((((W.alloc (.cells #[.int .i64 cols, .slice (some ⟨g, o_, none⟩) n c0] 24)).alloc (.cells #[.string tx, .int .i64 wd, .int .i64 fg, .int .i64 bg, .int .i64 fl] 28)).alloc (.cells #[.int .i64 0, .slice none 0 0] 24)).alloc (.cells #[] 28)) (W.heap.size + 1 + 1 + 1) (.slice (some ⟨W.heap.size + 1 + 1 + 1, 0, none⟩) 0 0) [] := by
    have h := OwnC.lit (W := (((W.alloc (.cells #[.int .i64 cols, .slice (some ⟨g, o_, none⟩) n c0] 24)).alloc (.cells #[.string tx, .int .i64 wd, .int .i64 fg, .int .i64 bg, .int .i64 fl] 28)).alloc (.cells #[.int .i64 0, .slice none 0 0] 24))) (base := W.heap.size + 1 + 1 + 1) [] (by simp) (by simp <;> omega)
    simpa [cflat] using h
  have P0 := (h0.cell (p := ⟨g, o_ + r * 2, none⟩) hg).trans p0
  have BX0 := hid b1
  have H0 := hid h0
  have S0 := hid s0
  have O0 := hid o0
  have HTL := hid htl
  have HTA := hid hta
  have HC := hid hc
  have HX0 := hid hx0
  clear b0 b1 h0 s0 o0 htl hta hc hx0 hnl hml hcell hA htg hs
  go_enter Tryd.func20, Tryd.ntmps20
  go_wp2
  go_loopw [9, 20] (fun ov i wr => ∃ k : Nat, k ≤ m0 ∧ i = .int .i64 k ∧ OwnC wr (W.heap.size + 1 + 1 + 1) ov (tg.take k) ∧ Bxs wr [(W.heap.size, 24, #[.int .i64 cols, .slice (some ⟨g, o_, none⟩) n c0]), (W.heap.size + 1, 28, #[.string tx, .int .i64 wd, .int .i64 fg, .int .i64 bg, .int .i64 fl]), (W.heap.size + 1 + 1, 24, #[.int .i64 0, .slice none 0 0])] ∧ W.heap.size + 1 + 1 + 1 ≤ wr.heap.size ∧ Below W.heap.size W wr) (fun _ i _ => m0 - (intOf i).toNat)
  case atStart => exact ⟨0, by omega, rfl, O0.out, BX0.out, by rw [S0.out]; omega, H0.out⟩
  case round =>
    obtain ⟨k, hk, rfl, hown, hbx, hsz, hbr⟩ := hrel
    obtain ⟨oA, oc, hov⟩ := hown.spell
    have hlo : (tg.take k).length = k := by rw [List.length_take, HTL.out]; omega
    have hlb0 : W.heap.size < wr.heap.size := by omega
    have hlb1 : W.heap.size + 1 < wr.heap.size := by omega
    have hlb2 : W.heap.size + 1 + 1 < wr.heap.size := by omega
    rw [hlo] at hov
    subst hov
    obtain ⟨⟨k0, k1⟩, f0, f1⟩ := (hbx.get 0 rfl).two
    obtain ⟨⟨cc0, cc1, cc2, cc3, cc4⟩, cf0, cf1, cf2, cf3, cf4⟩ := (hbx.get 1 rfl).five
    have HTY : ∀ x ∈ ([(W.heap.size, 24, #[.int .i64 cols, .slice (some ⟨g, o_, none⟩) n c0]), (W.heap.size + 1, 28, #[.string tx, .int .i64 wd, .int .i64 fg, .int .i64 bg, .int .i64 fl]), (W.heap.size + 1 + 1, 24, #[.int .i64 0, .slice none 0 0])] : List (Nat × TypeId × Array Value)), x.1 < W.heap.size + 1 + 1 + 1 := by intro x hx; simp only [List.mem_cons, List.mem_nil_iff, or_false] at hx; rcases hx with rfl | rfl | rfl <;> (simp only; omega)
    by_cases hlt : k < m0
    · have hki : (k : Int) < m0 := by omega
      have hkl : k < cs0.length := by rw [HML.out]; exact hlt
      obtain ⟨lg, lo, rfl, hlg, hlcell⟩ := hlA (by intro e; rw [e] at hkl; simp at hkl)
      have hx := List.getElem?_eq_getElem hkl
      obtain ⟨p0, p1, p2, p3, p4⟩ := ccells (W := wr) (g := lg) (o := lo + k * 5) (e := cs0[k]) (fun i u hu => (hbr.cell (p := ⟨lg, lo + k * 5 + i, none⟩) hlg).trans (hlcell k _ hx i u hu))
      have hta := HTA.out k
      rw [hx] at hta
      generalize cs0[k] = z at *
      obtain ⟨ztx, zwd, zfg, zbg, zfl⟩ := z
      simp only at p0 p1 p2 p3 p4
      have HTK := hid hta
      have HLO := hid hlo
      have HOWN := hid hown
      have HBX := hid hbx
      have HBR := hid hbr
      clear hx hta hlo hown hbx hbr hlcell hlA
      by_cases hkq : k = q
      · subst hkq
        have hq1 : ((k : Int) == (k : Int) + 1) = false := by rw [beq_eq_false_iff_ne]; omega
        have hwz : Below wr.heap.size wr (wr.alloc (.cells #[.string tx, .int .i64 wd, .int .i64 fg, .int .i64 bg, .int .i64 fl] 28)) := below_alloc _ _
        have hlit := ce_lit (wr.alloc (.cells #[.string tx, .int .i64 wd, .int .i64 fg, .int .i64 bg, .int .i64 fl] 28)) (⟨tx, wd, fg, bg, fl⟩ : Ce)
        unfold Ce.cells at hlit
        try simp only at hlit
        try simp only [World.size_alloc] at hlit
        have hown9 : OwnC ((wr.alloc (.cells #[.string tx, .int .i64 wd, .int .i64 fg, .int .i64 bg, .int .i64 fl] 28)).alloc (.cells #[.string tx, .int .i64 wd, .int .i64 fg, .int .i64 bg, .int .i64 fl] 28)) (W.heap.size + 1 + 1 + 1) (.slice oA k oc) (tg.take k) := HOWN.out.kept (hwz.trans ((below_alloc _ _).mono hwz.size))
        have HTT : Hid (tg[k]? = some (⟨tx, wd, fg, bg, fl⟩ : Ce)) := by unfold Hid; rw [HTK.out, if_pos rfl]
        have HLIT := hid hlit
        have HWZ := hid hwz
        have HOWN9 := hid hown9
        have hsz9 : W.heap.size + 1 + 1 + 1 ≤ (wr.alloc (.cells #[.string tx, .int .i64 wd, .int .i64 fg, .int .i64 bg, .int .i64 fl] 28)).heap.size := Nat.le_trans hsz hwz.size
        clear hlit hwz hown9
        go_wp2_with (at_builtin; refine wpList_append_ce rfl _ _ rfl (W.heap.size + 1 + 1 + 1) _ _ (tg.take k) [(⟨tx, wd, fg, bg, fl⟩ : Ce)] rfl HOWN9.out rfl HLIT.out (by rw [HLO.out]; simp; omega) (by simp at *; omega) ?_; intro v9 w9 h1 h2; obtain ⟨A9, c9, hv9⟩ := h1.spell; rw [List.length_append, HLO.out, List.length_singleton] at hv9; subst hv9; have H1 := hid h1; have H2 := hid h2; clear h1 h2)
        go_roundw
        case rel =>
          obtain ⟨q1, q2, q3⟩ := own_step2 HOWN.out HWZ.out H2.out HBX.out HTY HBR.out (by omega)
          exact ⟨k + 1, by omega, by go_num, by rw [take_one HTT.out]; exact H1.out, q1, by omega, q2⟩
        case measure => simp [intOf]; omega
      · have hq0 : ((k : Int) == (q : Int)) = false := by rw [beq_eq_false_iff_ne]; omega
        have HNQ := hid hkq
        by_cases hk1 : k = q + 1
        · have hq1 : ((k : Int) == (q : Int) + 1) = true := by rw [beq_iff_eq]; omega
          have HK1 := hid hk1
          by_cases hw2 : wd = 2
          · subst hw2
            clear hkq hk1
            have hwz : Below wr.heap.size wr (wr.alloc (.cells #[.string ⟨#[]⟩, .int .i64 0, .int .i64 fg, .int .i64 bg, .int .i64 fl] 28)) := below_alloc _ _
            have hlit := ce_lit (wr.alloc (.cells #[.string ⟨#[]⟩, .int .i64 0, .int .i64 fg, .int .i64 bg, .int .i64 fl] 28)) (⟨⟨#[]⟩, 0, fg, bg, fl⟩ : Ce)
            unfold Ce.cells at hlit
            try simp only at hlit
            try simp only [World.size_alloc] at hlit
            have hown9 : OwnC ((wr.alloc (.cells #[.string ⟨#[]⟩, .int .i64 0, .int .i64 fg, .int .i64 bg, .int .i64 fl] 28)).alloc (.cells #[.string ⟨#[]⟩, .int .i64 0, .int .i64 fg, .int .i64 bg, .int .i64 fl] 28)) (W.heap.size + 1 + 1 + 1) (.slice oA k oc) (tg.take k) := HOWN.out.kept (hwz.trans ((below_alloc _ _).mono hwz.size))
            have HTT : Hid (tg[k]? = some (⟨⟨#[]⟩, 0, fg, bg, fl⟩ : Ce)) := by unfold Hid; rw [HTK.out, if_neg HNQ.out, if_pos ⟨HK1.out, rfl⟩]; rfl
            have HLIT := hid hlit
            have HWZ := hid hwz
            have HOWN9 := hid hown9
            have hsz9 : W.heap.size + 1 + 1 + 1 ≤ (wr.alloc (.cells #[.string ⟨#[]⟩, .int .i64 0, .int .i64 fg, .int .i64 bg, .int .i64 fl] 28)).heap.size := Nat.le_trans hsz hwz.size
            clear hlit hwz hown9
            go_wp2_with (at_builtin; refine wpList_append_ce rfl _ _ rfl (W.heap.size + 1 + 1 + 1) _ _ (tg.take k) [(⟨⟨#[]⟩, 0, fg, bg, fl⟩ : Ce)] rfl HOWN9.out rfl HLIT.out (by rw [HLO.out]; simp; omega) (by simp at *; omega) ?_; intro v9 w9 h1 h2; obtain ⟨A9, c9, hv9⟩ := h1.spell; rw [List.length_append, HLO.out, List.length_singleton] at hv9; subst hv9; have H1 := hid h1; have H2 := hid h2; clear h1 h2)
            go_roundw
            case rel =>
              obtain ⟨q1, q2, q3⟩ := own_step2 HOWN.out HWZ.out H2.out HBX.out HTY HBR.out (by omega)
              exact ⟨k + 1, by omega, by go_num, by rw [take_one HTT.out]; exact H1.out, q1, by omega, q2⟩
            case measure => simp [intOf]; omega
          · have hw3 : (wd == 2) = false := by simp [hw2]
            have HW2 := hid hw2
            clear hkq hk1 hw2
            have hwz : Below wr.heap.size wr (wr.alloc (.cells #[.string ztx, .int .i64 zwd, .int .i64 zfg, .int .i64 zbg, .int .i64 zfl] 28)) := below_alloc _ _
            have hlit := ce_lit (wr.alloc (.cells #[.string ztx, .int .i64 zwd, .int .i64 zfg, .int .i64 zbg, .int .i64 zfl] 28)) (⟨ztx, zwd, zfg, zbg, zfl⟩ : Ce)
            unfold Ce.cells at hlit
            try simp only at hlit
            try simp only [World.size_alloc] at hlit
            have hown9 : OwnC ((wr.alloc (.cells #[.string ztx, .int .i64 zwd, .int .i64 zfg, .int .i64 zbg, .int .i64 zfl] 28)).alloc (.cells #[.string ztx, .int .i64 zwd, .int .i64 zfg, .int .i64 zbg, .int .i64 zfl] 28)) (W.heap.size + 1 + 1 + 1) (.slice oA k oc) (tg.take k) := HOWN.out.kept (hwz.trans ((below_alloc _ _).mono hwz.size))
            have HTT : Hid (tg[k]? = some (⟨ztx, zwd, zfg, zbg, zfl⟩ : Ce)) := by unfold Hid; rw [HTK.out, if_neg HNQ.out, if_neg (fun h => HW2.out h.2)]
            have HLIT := hid hlit
            have HWZ := hid hwz
            have HOWN9 := hid hown9
            have hsz9 : W.heap.size + 1 + 1 + 1 ≤ (wr.alloc (.cells #[.string ztx, .int .i64 zwd, .int .i64 zfg, .int .i64 zbg, .int .i64 zfl] 28)).heap.size := Nat.le_trans hsz hwz.size
            clear hlit hwz hown9
            go_wp2_with (at_builtin; refine wpList_append_ce rfl _ _ rfl (W.heap.size + 1 + 1 + 1) _ _ (tg.take k) [(⟨ztx, zwd, zfg, zbg, zfl⟩ : Ce)] rfl HOWN9.out rfl HLIT.out (by rw [HLO.out]; simp; omega) (by simp at *; omega) ?_; intro v9 w9 h1 h2; obtain ⟨A9, c9, hv9⟩ := h1.spell; rw [List.length_append, HLO.out, List.length_singleton] at hv9; subst hv9; have H1 := hid h1; have H2 := hid h2; clear h1 h2)
            go_roundw
            case rel =>
              obtain ⟨q1, q2, q3⟩ := own_step2 HOWN.out HWZ.out H2.out HBX.out HTY HBR.out (by omega)
              exact ⟨k + 1, by omega, by go_num, by rw [take_one HTT.out]; exact H1.out, q1, by omega, q2⟩
            case measure => simp [intOf]; omega
        · have hq1 : ((k : Int) == (q : Int) + 1) = false := by rw [beq_eq_false_iff_ne]; omega
          have HK1 := hid hk1
          clear hkq hk1
          have hwz : Below wr.heap.size wr (wr.alloc (.cells #[.string ztx, .int .i64 zwd, .int .i64 zfg, .int .i64 zbg, .int .i64 zfl] 28)) := below_alloc _ _
          have hlit := ce_lit (wr.alloc (.cells #[.string ztx, .int .i64 zwd, .int .i64 zfg, .int .i64 zbg, .int .i64 zfl] 28)) (⟨ztx, zwd, zfg, zbg, zfl⟩ : Ce)
          unfold Ce.cells at hlit
          try simp only at hlit
          try simp only [World.size_alloc] at hlit
          have hown9 : OwnC ((wr.alloc (.cells #[.string ztx, .int .i64 zwd, .int .i64 zfg, .int .i64 zbg, .int .i64 zfl] 28)).alloc (.cells #[.string ztx, .int .i64 zwd, .int .i64 zfg, .int .i64 zbg, .int .i64 zfl] 28)) (W.heap.size + 1 + 1 + 1) (.slice oA k oc) (tg.take k) := HOWN.out.kept (hwz.trans ((below_alloc _ _).mono hwz.size))
          have HTT : Hid (tg[k]? = some (⟨ztx, zwd, zfg, zbg, zfl⟩ : Ce)) := by unfold Hid; rw [HTK.out, if_neg HNQ.out, if_neg (fun h => HK1.out h.1)]
          have HLIT := hid hlit
          have HWZ := hid hwz
          have HOWN9 := hid hown9
          have hsz9 : W.heap.size + 1 + 1 + 1 ≤ (wr.alloc (.cells #[.string ztx, .int .i64 zwd, .int .i64 zfg, .int .i64 zbg, .int .i64 zfl] 28)).heap.size := Nat.le_trans hsz hwz.size
          clear hlit hwz hown9
          go_wp2_with (at_builtin; refine wpList_append_ce rfl _ _ rfl (W.heap.size + 1 + 1 + 1) _ _ (tg.take k) [(⟨ztx, zwd, zfg, zbg, zfl⟩ : Ce)] rfl HOWN9.out rfl HLIT.out (by rw [HLO.out]; simp; omega) (by simp at *; omega) ?_; intro v9 w9 h1 h2; obtain ⟨A9, c9, hv9⟩ := h1.spell; rw [List.length_append, HLO.out, List.length_singleton] at hv9; subst hv9; have H1 := hid h1; have H2 := hid h2; clear h1 h2)
          go_roundw
          case rel =>
            obtain ⟨q1, q2, q3⟩ := own_step2 HOWN.out HWZ.out H2.out HBX.out HTY HBR.out (by omega)
            exact ⟨k + 1, by omega, by go_num, by rw [take_one HTT.out]; exact H1.out, q1, by omega, q2⟩
          case measure => simp [intOf]; omega
    · have hkm : k = m0 := by omega
      subst hkm
      rw [List.take_of_length_le (by rw [HTL.out]; exact Nat.le_refl _)] at hown
      have hset := rSet_any cols _ lv r wr _ tg hown.csl.row (by rw [HTL.out]; exact hcl) cs0 soft0 _ (HIN.out.below hbr) (HC.out.below hbr) HSM.out HX0.out
      rw [HNL.out] at hset
      have HSET := hid hset
      have HBX := hid hbx
      have HBR := hid hbr
      clear hset hbx hbr hown hlA
      go_wp2_with fail
      with_reducible refine HSET.out.mono ?_
      rintro e5 w5 ⟨v5, lv5, rfl, hm5, hl5, hn5, hb5⟩
      dsimp only
      have hbx5 := HBX.out.below hb5
      obtain ⟨⟨z0, z1⟩, y0, y1⟩ := (hbx5.get 2 rfl).two
      have hz2 : Box w5 (W.heap.size + 1 + 1) 24 #[.int .i64 0, .slice none 0 0] := hbx5.get 2 rfl
      obtain ⟨A5, c5, hs5⟩ := hl5.spell
      subst hs5
      have HM5 := hid hm5
      have HL5 := hid hl5
      have HN5 := hid hn5
      have HZ2 := hid hz2
      have HB5 := hid (HBR.out.trans (hb5.mono HBR.out.size))
      clear hm5 hl5 hn5 hbx5 hz2 hb5 k0 k1 f0 f1
      go_wp2
      refine bodyPost_ret (v := .agg #[.int .i64 cols, .slice A5 lv5.length c5]) (by simp [results, Tryd.results20, go_sem, z0, z1]) rfl ?_
      exact rpost_end HM5.out HL5.out HN5.out HBR.out.size HB5.out HZ2.out (by show W.heap.size ≤ W.heap.size + 1 + 1; omega) rfl
end Go.Proofs.YtdpicbfpjnampaaDoor

namespace Go.Proofs.YtdpicbfpjnampaaDoor
open Go.RowKit

/-- What was answered reads as a grid, or is refused. -/
def XF (W : World) (cols : Int) (ok : Bool) (n : Int) (tgt : List Ln) (xc : Int) (A : Option Addr) (k c : Nat) (xn : Int) : Prop :=
  (ok = true ∧ xc = cols ∧ xn = 0 ∧ ∃ lv', lv'.map Prod.fst = tgt ∧ LR W (.slice A k c) lv' ∧ CesOf W lv') ∨ (ok = false ∧ xc = 0 ∧ (.slice A k c : Value) = .slice none 0 0 ∧ xn = n)
theorem XF.below {W W' : World} {cols : Int} {ok : Bool} {n : Int} {tgt : List Ln} {xc : Int} {A : Option Addr} {k c : Nat} {xn : Int} (h : XF W cols ok n tgt xc A k c xn) (hb : Below W.heap.size W W') : XF W' cols ok n tgt xc A k c xn := by
  rcases h with ⟨h1, h2, h3, lv', h4, h5, h6⟩ | h
  · exact .inl ⟨h1, h2, h3, lv', h4, h5.below hb, h6.below hb⟩
  · exact .inr h
theorem XF.of {W w' : World} {cols : Int} {lv : List (Ln × Value)} {ok : Bool} {n : Int} {tgt : List Ln} {xc : Int} {A : Option Addr} {k c : Nat} {xn : Int} (hc : CesOf w' lv)
    (h : (ok = true ∧ xc = cols ∧ xn = 0 ∧ ∃ lv', lv'.map Prod.fst = tgt ∧ LSl w' W.heap.size (.slice A k c) lv' ∧ NewOf w' W.heap.size lv lv') ∨ (ok = false ∧ xc = 0 ∧ (.slice A k c : Value) = .slice none 0 0 ∧ xn = n)) : XF w' cols ok n tgt xc A k c xn := by
  rcases h with ⟨h1, h2, h3, lv', h4, h5, h6⟩ | h
  · exact .inl ⟨h1, h2, h3, lv', h4, h5.row, h6.ces hc⟩
  · exact .inr h
theorem there_eq (cols row : Int) (lv : List (Ln × Value)) : ((sizeB cols lv.length && allB cols lv) && (rowB row lv.length && colB 0 cols)) = softOk cols lv row := by
  unfold softOk mayB
  cases h : (sizeB cols lv.length && allB cols lv)
  · rfl
  · have := mayB_cols (cols := cols) (lv := lv) h
    have hc : colB 0 cols = true := decide_eq_true (by omega)
    rw [hc, Bool.and_true]
theorem few_in {W : World} {v : Value} {lv lv1 : List (Ln × Value)} (hm : lv1.map Prod.fst = fewG (lv.map Prod.fst)) (hr : LR W v lv1) (hc : CesOf W lv1) : GIn W v lv1 := by
  obtain ⟨h1, h2⟩ := fewG_sm hm
  exact ⟨hr, hc, by omega, fun e he => ⟨by have := (h2 e he).1; omega, fun c hc => by have := (h2 e he).2 c hc; omega⟩⟩

theorem eraseT_sz {cols row fr tt : Int} {a : At} {lv : List (Ln × Value)} (hs : Sm lv) (h : eraseOk cols lv row fr tt a = true) : SzL (eraseT (lv.map Prod.fst) row fr tt a) := by
  unfold eraseOk at h
  simp only [Bool.and_eq_true, decide_eq_true_iff] at h
  obtain ⟨⟨h0, h1⟩, h2, h3, h4, _⟩ := h
  obtain ⟨r, cs, soft, u, rfl, hx, hrow⟩ := row_there h1
  have hf := fits_iff.1 (mayB_at h0 hx)
  simp only at hf
  refine hs.szl.set _ ?_
  rw [hrow]
  show (mendL 1 (eraseL cs _ _ a)).length ≤ 1000
  rw [mendL_length, eraseL_length _ (by omega)]
  exact (hs.2 _ (List.mem_of_getElem? hx)).1
theorem refErase_out (cols row fr tt : Int) (a : At) (v : Value) (lv : List (Ln × Value)) (W : World) (hg : GIn W v lv) (h : eraseOk cols lv row fr tt a = true) :
    Calls Tryd.prog 16 #[.agg #[.int .i64 cols, v], .int .i64 row, .int .i64 fr, .int .i64 tt, a.agg] W (RPost W cols lv (eraseT (lv.map Prod.fst) row fr tt a)) := by
  unfold eraseOk at h
  simp only [Bool.and_eq_true, decide_eq_true_iff] at h
  obtain ⟨⟨h0, h1⟩, h2, h3, h4, _⟩ := h
  obtain ⟨r, cs, soft, u, rfl, hx, hrow⟩ := row_there h1
  have hf := fits_iff.1 (mayB_at h0 hx)
  simp only at hf
  obtain ⟨o, rfl⟩ : ∃ o : Nat, fr = o := ⟨fr.toNat, by omega⟩
  obtain ⟨m, rfl⟩ : ∃ m : Nat, tt = ((o + m : Nat) : Int) := ⟨(tt - o).toNat, by omega⟩
  have ht : eraseT (lv.map Prod.fst) r o ((o + m : Nat) : Int) a = (lv.map Prod.fst).set r ⟨mendL 1 (eraseL cs o m a), soft⟩ := by
    unfold eraseT
    rw [hrow, Int.toNat_natCast, Int.toNat_natCast, show (((o + m : Nat) : Int) - (o : Int)).toNat = m by omega]
  rw [ht]
  exact rErase_any cols v lv r o m a W cs soft u hg.lr hg.ces hg.sm hx (by omega)
theorem CSl.set_lt {W : World} {base b i : Nat} {v : Value} {l : List Ce} (h : CSl W base v l) (hb : b < base) (u : Value) : CSl (W.setCell ⟨b, i, none⟩ u) base v l := by
  rcases h with h | ⟨g, cap, rfl, h1, cur, hg, h2⟩
  · exact .inl h
  · exact .inr ⟨g, cap, rfl, h1, cur, hg.other (by omega) u, h2⟩
theorem LSl.set_lt {W : World} {base b i : Nat} {v : Value} {l : List (Ln × Value)} (h : LSl W base v l) (hb : b < base) (u : Value) : LSl (W.setCell ⟨b, i, none⟩ u) base v l := by
  rcases h with h | ⟨g, cap, rfl, h1, cur, hg, h2⟩
  · exact .inl h
  · exact .inr ⟨g, cap, rfl, h1, cur, hg.other (by omega) u, h2⟩

theorem refSoft_out (cols row : Int) (s : Bool) (v : Value) (lv : List (Ln × Value)) (W : World) (hg : GIn W v lv) (h : softOk cols lv row = true) :
    Calls Tryd.prog 17 #[.agg #[.int .i64 cols, v], .int .i64 row, .bool s] W (RPost W cols lv (softT (lv.map Prod.fst) row s)) := by
  unfold softOk at h
  rw [Bool.and_eq_true] at h
  obtain ⟨r, cs, soft, u, rfl, hx, hrow⟩ := row_there h.2
  have ht : softT (lv.map Prod.fst) r s = (lv.map Prod.fst).set r ⟨cs, s⟩ := by
    unfold softT
    rw [hrow, Int.toNat_natCast]
  rw [ht]
  exact rSoft_any cols v lv r W s cs soft u hg.lr hg.ces hg.sm hx
theorem softT_sz {cols row : Int} {s : Bool} {lv : List (Ln × Value)} (hs : Sm lv) (h : softOk cols lv row = true) : SzL (softT (lv.map Prod.fst) row s) := by
  unfold softOk at h
  rw [Bool.and_eq_true] at h
  obtain ⟨r, cs, soft, u, rfl, hx, hrow⟩ := row_there h.2
  refine hs.szl.set _ ?_
  rw [hrow]
  exact (hs.2 _ (List.mem_of_getElem? hx)).1
theorem put_parts {cols row col : Int} {c : Ce} {lv : List (Ln × Value)} (h : putOk cols lv row col c = true) (h2 : roomB cols col c = false) :
    ∃ (r q : Nat) (cs : List Ce) (soft : Bool) (u : Value), row = r ∧ col = q ∧ lv[r]? = some (⟨cs, soft⟩, u) ∧ rowL (lv.map Prod.fst) row = ⟨cs, soft⟩ ∧ q < cs.length ∧ (c.wd = 2 → q + 1 < cs.length) := by
  unfold putOk at h
  rw [Bool.and_eq_true, Bool.and_eq_true, Bool.and_eq_true] at h
  obtain ⟨h0, h1, hc, _⟩ := h
  obtain ⟨r, cs, soft, u, hr, hx, hrow⟩ := row_there h1
  have hf := fits_iff.1 (mayB_at h0 hx)
  simp only at hf
  have hcl : 0 ≤ col ∧ col < cols := of_decide_eq_true hc
  have hrm : ¬ (c.wd = 2 ∧ col = cols - 1) := of_decide_eq_false h2
  refine ⟨r, col.toNat, cs, soft, u, hr, by omega, hx, hrow, by omega, fun hw => ?_⟩
  have : ¬ col = cols - 1 := fun e => hrm ⟨hw, e⟩
  omega
theorem refPut_out (cols row col : Int) (c : Ce) (v : Value) (lv : List (Ln × Value)) (W : World) (hg : GIn W v lv) (h : putOk cols lv row col c = true) (h2 : roomB cols col c = false) :
    Calls Tryd.prog 20 #[.agg #[.int .i64 cols, v], .int .i64 row, .int .i64 col, c.agg] W (RPost W cols lv (putT (lv.map Prod.fst) row col c)) := by
  obtain ⟨r, q, cs, soft, u, rfl, rfl, hx, hrow, hq, hw⟩ := put_parts h h2
  have ht : putT (lv.map Prod.fst) r q c = (lv.map Prod.fst).set r ⟨mendL 1 (putL cs q c), soft⟩ := by
    unfold putT
    rw [hrow, Int.toNat_natCast, Int.toNat_natCast]
  rw [ht]
  exact rPut_any cols v lv r q c W cs soft u hg.lr hg.ces hg.sm hx hq hw
theorem putT_sz {cols row col : Int} {c : Ce} {lv : List (Ln × Value)} (hs : Sm lv) (h : putOk cols lv row col c = true) (h2 : roomB cols col c = false) : SzL (putT (lv.map Prod.fst) row col c) := by
  obtain ⟨r, q, cs, soft, u, rfl, rfl, hx, hrow, hq, hw⟩ := put_parts h h2
  refine hs.szl.set _ ?_
  rw [hrow]
  show (mendL 1 (putL cs _ c)).length ≤ 1000
  rw [mendL_length, putL_length]
  exact (hs.2 _ (List.mem_of_getElem? hx)).1
end Go.Proofs.YtdpicbfpjnampaaDoor
