/- Layer 6, the reference: cells erased. Made by wip/gen/gridRef.py. -/
import Derived.Test.YtdpicbfpjnampaaDoorGridSetQ
import Derived.Test.YtdpicbfpjnampaaDoorGridPutYQ
namespace Go.Proofs.YtdpicbfpjnampaaDoor
open Go.RowKit

theorem rpost_end {W w' w'' : World} {cols : Int} {lv lv' : List (Ln × Value)} {tgt : List Ln} {v : Value} {b lo : Nat} {cs : Array Value} {x y : Value} (hm : lv'.map Prod.fst = tgt) (hl : LSl w' lo v lv') (hn : Newc w' lo lv lv') (hlo : W.heap.size ≤ lo) (hb : Below W.heap.size W w') (hbx : Box w' b 24 cs) (hB : W.heap.size ≤ b)
    (hw : w'' = (w'.setCell ⟨b, 0, none⟩ x).setCell ⟨b, 1, none⟩ y) : RPost W cols lv tgt (.returned (.agg #[.int .i64 cols, v])) w'' := by
  subst hw
  exact ⟨v, lv', rfl, hm, ((hl.set hbx (by decide) _).set (hbx.set (i := 0) x) (by decide) _).mono hlo, ((hn.set hbx (by decide) _).set (hbx.set (i := 0) x) (by decide) _).mono hlo, (hb.setCell (p := ⟨b, 0, none⟩) hB _).setCell (p := ⟨b, 1, none⟩) hB _⟩
theorem putL_at {l : List Ce} {k j : Nat} {c : Ce} (h : c.wd = 2 → k + 1 < l.length) (hk : k < l.length) : (putL l k c)[j]? = if j = k then some c else if j = k + 1 ∧ c.wd = 2 then some (rhC c.at) else l[j]? := by
  unfold putL
  by_cases h2 : c.wd = 2
  · rw [if_pos h2]
    have hl := h h2
    by_cases h3 : j = k + 1
    · subst h3
      rw [List.getElem?_set_self (by rw [List.length_set]; exact hl), if_neg (by omega), if_pos ⟨rfl, h2⟩]
    · rw [List.getElem?_set_ne (Ne.symm h3), if_neg (c := j = k + 1 ∧ c.wd = 2) (fun h => h3 h.1)]
      by_cases h4 : j = k
      · subst h4; rw [List.getElem?_set_self hk, if_pos rfl]
      · rw [List.getElem?_set_ne (Ne.symm h4), if_neg h4]
  · rw [if_neg h2, if_neg (c := j = k + 1 ∧ c.wd = 2) (fun h => h2 h.2)]
    by_cases h4 : j = k
    · subst h4; rw [List.getElem?_set_self hk, if_pos rfl]
    · rw [List.getElem?_set_ne (Ne.symm h4), if_neg h4]

set_option maxRecDepth 100000 in
set_option maxHeartbeats 4000000 in
theorem rErase_any (cols : Int) (v : Value) (lv : List (Ln × Value)) (r : Nat) (o m : Nat) (a : At) (W : World) (cs0 : List Ce) (soft0 : Bool) (lvl0 : Value) (hr : LR W v lv) (hc : CesOf W lv) (hs : Sm lv) (hx0 : lv[r]? = some (⟨cs0, soft0⟩, lvl0)) (hq : o + m ≤ cs0.length) :
    Calls Tryd.prog 16 #[.agg #[.int .i64 cols, v], .int .i64 r, .int .i64 o, .int .i64 ((o + m : Nat) : Int), a.agg] W (RPost W cols lv ((lv.map Prod.fst).set r ⟨mendL 1 (eraseL cs0 o m a), soft0⟩)) := by
  have HIN := hid hr
  have HSM := hid hs
  obtain ⟨A, c0, rfl, hcap, hA⟩ := hr
  have hrl := (List.getElem?_eq_some_iff.1 hx0).1
  obtain ⟨g, o_, rfl, hg, hcell⟩ := hA (by intro e; rw [e] at hrl; simp at hrl)
  obtain ⟨p0, _⟩ := hcell r _ hx0
  have hce := hc _ (List.mem_of_getElem? hx0)
  have hcl := (hs.2 _ (List.mem_of_getElem? hx0)).1
  simp only at p0 hce hcl
  have HCE := hid hce
  obtain ⟨lA, lc, rfl, hlc, hlA⟩ := hce
  obtain ⟨n, hnl⟩ : ∃ n, lv.length = n := ⟨_, rfl⟩
  obtain ⟨m0, hml⟩ : ∃ m0, cs0.length = m0 := ⟨_, rfl⟩
  have HNL := hid hnl
  have HML := hid hml
  obtain ⟨tg, htg⟩ : ∃ tg, eraseL cs0 o m a = tg := ⟨_, rfl⟩
  have htl : tg.length = m0 := by rw [← htg, eraseL_length _ hq, hml]
  have hta : ∀ j, tg[j]? = if o ≤ j ∧ j < o + m then some (blkC a) else cs0[j]? := fun j => by rw [← htg, eraseL_at _ hq]
  have hblk := rblank_any a
  obtain ⟨x, hxb⟩ : ∃ x, blkC a = x := ⟨_, rfl⟩
  rw [hxb] at hta hblk
  rw [htg]
  obtain ⟨fg, bg, fl⟩ := a
  unfold At.agg Ce.agg Ce.cells at hblk
  unfold At.agg
  simp only at hblk ⊢
  rw [hnl] at hcap hrl ⊢
  rw [hml] at hcl hq p0 hlc
  have hrli : (r : Int) < n := by omega
  have b0 := (((Bxs.nil W).alloc 24 #[.int .i64 cols, .slice (some ⟨g, o_, none⟩) n c0]).alloc 26 #[.int .i64 fg, .int .i64 bg, .int .i64 fl]).alloc 24 #[.int .i64 0, .slice none 0 0]
  simp only [World.size_alloc, List.nil_append, List.cons_append] at b0
  have b1 := b0.below (below_alloc _ (.cells #[] 28))
  have h0 : Below W.heap.size W ((((W.alloc (.cells #[.int .i64 cols, .slice (some ⟨g, o_, none⟩) n c0] 24)).alloc (.cells #[.int .i64 fg, .int .i64 bg, .int .i64 fl] 26)).alloc (.cells #[.int .i64 0, .slice none 0 0] 24)).alloc (.cells #[] 28)) := (((below_alloc _ _).alloc (by simp) _).alloc (by simp <;> omega) _).alloc (by simp <;> omega) _
  have s0 : ((((W.alloc (.cells #[.int .i64 cols, .slice (some ⟨g, o_, none⟩) n c0] 24)).alloc (.cells #[.int .i64 fg, .int .i64 bg, .int .i64 fl] 26)).alloc (.cells #[.int .i64 0, .slice none 0 0] 24)).alloc (.cells #[] 28)).heap.size = W.heap.size + 1 + 1 + 1 + 1 := by simp
  have o0 : OwnC ((((W.alloc (.cells #[.int .i64 cols, .slice (some ⟨g, o_, none⟩) n c0] 24)).alloc (.cells #[.int .i64 fg, .int .i64 bg, .int .i64 fl] 26)).alloc (.cells #[.int .i64 0, .slice none 0 0] 24)).alloc (.cells #[] 28)) W.heap.size (.slice (some ⟨W.heap.size + 1 + 1 + 1, 0, none⟩) 0 0) [] := by
    have h := OwnC.lit (W := (((W.alloc (.cells #[.int .i64 cols, .slice (some ⟨g, o_, none⟩) n c0] 24)).alloc (.cells #[.int .i64 fg, .int .i64 bg, .int .i64 fl] 26)).alloc (.cells #[.int .i64 0, .slice none 0 0] 24))) (base := W.heap.size) [] (by simp) (by simp <;> omega)
    simpa [cflat] using h
  have P0 := (h0.cell (p := ⟨g, o_ + r * 2, none⟩) hg).trans p0
  have BX0 := hid b1
  have H0 := hid h0
  have S0 := hid s0
  have O0 := hid o0
  have HTL := hid htl
  have HTA := hid hta
  have HC := hid hc
  have HX0 := hid hx0
  have HBLK := hid hblk
  clear b0 b1 h0 s0 o0 htl hta hc hx0 hnl hml hcell hA htg hs hblk hxb
  go_enter Tryd.func16, Tryd.ntmps16
  go_wp2
  go_loopw [11, 22] (fun ov i wr => ∃ k : Nat, k ≤ m0 ∧ i = .int .i64 k ∧ OwnC wr W.heap.size ov (tg.take k) ∧ Bxs wr [(W.heap.size, 24, #[.int .i64 cols, .slice (some ⟨g, o_, none⟩) n c0]), (W.heap.size + 1, 26, #[.int .i64 fg, .int .i64 bg, .int .i64 fl]), (W.heap.size + 1 + 1, 24, #[.int .i64 0, .slice none 0 0])] ∧ W.heap.size + 1 + 1 + 1 ≤ wr.heap.size ∧ Below W.heap.size W wr) (fun _ i _ => m0 - (intOf i).toNat)
  case atStart => exact ⟨0, by omega, rfl, O0.out, BX0.out, by rw [S0.out]; omega, H0.out⟩
  case round =>
    obtain ⟨k, hk, rfl, hown, hbx, hsz, hbr⟩ := hrel
    obtain ⟨oA, oc, hov⟩ := hown.spell
    have hlo : (tg.take k).length = k := by rw [List.length_take, HTL.out]; omega
    have hlb0 : W.heap.size < wr.heap.size := by omega
    have hlb1 : W.heap.size + 1 < wr.heap.size := by omega
    have hlb2 : W.heap.size + 1 + 1 < wr.heap.size := by omega
    rw [hlo] at hov
    subst hov
    obtain ⟨⟨k0, k1⟩, f0, f1⟩ := (hbx.get 0 rfl).two
    obtain ⟨⟨cc0, cc1, cc2⟩, cf0, cf1, cf2⟩ := (hbx.get 1 rfl).three
    by_cases hlt : k < m0
    · have hki : (k : Int) < m0 := by omega
      have hkl : k < cs0.length := by rw [HML.out]; exact hlt
      obtain ⟨lg, lo, rfl, hlg, hlcell⟩ := hlA (by intro e; rw [e] at hkl; simp at hkl)
      have hx := List.getElem?_eq_getElem hkl
      obtain ⟨p0, p1, p2, p3, p4⟩ := ccells (W := wr) (g := lg) (o := lo + k * 5) (e := cs0[k]) (fun i u hu => (hbr.cell (p := ⟨lg, lo + k * 5 + i, none⟩) hlg).trans (hlcell k _ hx i u hu))
      have hta := HTA.out k
      rw [hx] at hta
      generalize cs0[k] = z at *
      obtain ⟨ztx, zwd, zfg, zbg, zfl⟩ := z
      simp only at p0 p1 p2 p3 p4
      have HTK := hid hta
      have HLO := hid hlo
      have HOWN := hid hown
      have HBX := hid hbx
      have HBR := hid hbr
      clear hx hta hlo hown hbx hbr hlcell hlA
      by_cases hin : o ≤ k ∧ k < o + m
      · have hi1 : (o : Int) ≤ (k : Int) := by omega
        have hi2 : (k : Int) < ((o + m : Nat) : Int) := by omega
        have HIN2 := hid hin
        have hb0 := Box.new wr 28 #[.string ztx, .int .i64 zwd, .int .i64 zfg, .int .i64 zbg, .int .i64 zfl]
        have HB0 := hid hb0
        obtain ⟨⟨z0, z1, z2, z3, z4⟩, _⟩ := hb0.five
        have hx1 := (HBX.out.below (below_alloc wr (.cells #[.string ztx, .int .i64 zwd, .int .i64 zfg, .int .i64 zbg, .int .i64 zfl] 28)))
        have HX1 := hid hx1
        clear hb0 hx1 hin
        go_upto_region 6 with fail
        go_wp2_with fail
        with_reducible refine (HBLK.out _).mono ?_
        rintro e5 w5 ⟨rfl, hb5⟩
        dsimp only
        have d5 := HB0.out.below hb5 (by simp)
        clear z0 z1 z2 z3 z4
        obtain ⟨⟨z0, z1, z2, z3, z4⟩, zf0, zf1, zf2, zf3, zf4⟩ := d5.five
        have d6 := ((((d5.set (i := 0) (.string x.tx)).set (i := 1) (.int .i64 x.wd)).set (i := 2) (.int .i64 x.fg)).set (i := 3) (.int .i64 x.bg)).set (i := 4) (.int .i64 x.fl)
        simp only [List.setIfInBounds_toArray, List.set_cons_zero, List.set_cons_succ] at d6
        have hwz6 : Below wr.heap.size wr (((((w5.setCell ⟨wr.heap.size, 0, none⟩ (.string x.tx)).setCell ⟨wr.heap.size, 1, none⟩ (.int .i64 x.wd)).setCell ⟨wr.heap.size, 2, none⟩ (.int .i64 x.fg)).setCell ⟨wr.heap.size, 3, none⟩ (.int .i64 x.bg)).setCell ⟨wr.heap.size, 4, none⟩ (.int .i64 x.fl)) :=
          below_set (below_set (below_set (below_set (below_set (Below.behind hb5) (Nat.le_refl _) _) (Nat.le_refl _) _) (Nat.le_refl _) _) (Nat.le_refl _) _) (Nat.le_refl _) _
        go_upto_region 7 with fail
        generalize (((((w5.setCell ⟨wr.heap.size, 0, none⟩ (.string x.tx)).setCell ⟨wr.heap.size, 1, none⟩ (.int .i64 x.wd)).setCell ⟨wr.heap.size, 2, none⟩ (.int .i64 x.fg)).setCell ⟨wr.heap.size, 3, none⟩ (.int .i64 x.bg)).setCell ⟨wr.heap.size, 4, none⟩ (.int .i64 x.fl)) = w6 at *
        clear z0 z1 z2 z3 z4 zf0 zf1 zf2 zf3 zf4 d5 hb5
        obtain ⟨⟨z0, z1, z2, z3, z4⟩, zf0, zf1, zf2, zf3, zf4⟩ := d6.five
        clear d6
        have hwz : Below wr.heap.size wr w6 := hwz6
        have hlit := ce_lit w6 x
        unfold Ce.cells at hlit
        try simp only at hlit
        try simp only [World.size_alloc] at hlit
        have hown9 : OwnC (w6.alloc (.cells #[.string x.tx, .int .i64 x.wd, .int .i64 x.fg, .int .i64 x.bg, .int .i64 x.fl] 28)) W.heap.size (.slice oA k oc) (tg.take k) := HOWN.out.kept (hwz.trans ((below_alloc _ _).mono hwz.size))
        have HTT : Hid (tg[k]? = some x) := by unfold Hid; rw [HTK.out, if_pos HIN2.out]
        have HLIT := hid hlit
        have HWZ := hid hwz
        have HOWN9 := hid hown9
        have hsz9 : W.heap.size ≤ w6.heap.size := Nat.le_trans HBR.out.size hwz.size
        clear hlit hwz hown9
        go_wp2_with (at_builtin; refine wpList_append_ce rfl _ _ rfl W.heap.size _ _ (tg.take k) [x] rfl HOWN9.out rfl HLIT.out (by rw [HLO.out]; simp; omega) (by simp at *; omega) ?_; intro v9 w9 h1 h2; obtain ⟨A9, c9, hv9⟩ := h1.spell; rw [List.length_append, HLO.out, List.length_singleton] at hv9; subst hv9; have H1 := hid h1; have H2 := hid h2; clear h1 h2)
        go_roundw
        case rel =>
          obtain ⟨q1, q2, q3⟩ := own_step HOWN.out HWZ.out H2.out HBX.out (by intro x hx; simp only [List.mem_cons, List.mem_nil_iff, or_false] at hx; rcases hx with rfl | rfl | rfl <;> first | (show (24 : Nat) ≠ 28; decide) | (show (26 : Nat) ≠ 28; decide)) HBR.out
          exact ⟨k + 1, by omega, by go_num, by rw [take_one HTT.out]; exact H1.out, q1, by omega, q2⟩
        case measure => simp [intOf]; omega
      · have HIN2 := hid hin
        have hor : (k : Int) < o ∨ ((o : Int) ≤ (k : Int) ∧ ((o + m : Nat) : Int) ≤ (k : Int)) := by omega
        clear hin
        rcases hor with hi1 | ⟨hi1, hi2⟩
        · have hd : decide ((o : Int) ≤ (k : Int)) = false := decide_eq_false (by omega)
          have hd2 : decide (o ≤ k) = false := decide_eq_false (by omega)
          have hwz : Below wr.heap.size wr (wr.alloc (.cells #[.string ztx, .int .i64 zwd, .int .i64 zfg, .int .i64 zbg, .int .i64 zfl] 28)) := below_alloc _ _
          have hlit := ce_lit (wr.alloc (.cells #[.string ztx, .int .i64 zwd, .int .i64 zfg, .int .i64 zbg, .int .i64 zfl] 28)) (⟨ztx, zwd, zfg, zbg, zfl⟩ : Ce)
          unfold Ce.cells at hlit
          try simp only at hlit
          try simp only [World.size_alloc] at hlit
          have hown9 : OwnC ((wr.alloc (.cells #[.string ztx, .int .i64 zwd, .int .i64 zfg, .int .i64 zbg, .int .i64 zfl] 28)).alloc (.cells #[.string ztx, .int .i64 zwd, .int .i64 zfg, .int .i64 zbg, .int .i64 zfl] 28)) W.heap.size (.slice oA k oc) (tg.take k) := HOWN.out.kept (hwz.trans ((below_alloc _ _).mono hwz.size))
          have HTT : Hid (tg[k]? = some (⟨ztx, zwd, zfg, zbg, zfl⟩ : Ce)) := by unfold Hid; rw [HTK.out, if_neg HIN2.out]
          have HLIT := hid hlit
          have HWZ := hid hwz
          have HOWN9 := hid hown9
          have hsz9 : W.heap.size ≤ (wr.alloc (.cells #[.string ztx, .int .i64 zwd, .int .i64 zfg, .int .i64 zbg, .int .i64 zfl] 28)).heap.size := Nat.le_trans HBR.out.size hwz.size
          clear hlit hwz hown9
          go_wp2_with (at_builtin; refine wpList_append_ce rfl _ _ rfl W.heap.size _ _ (tg.take k) [(⟨ztx, zwd, zfg, zbg, zfl⟩ : Ce)] rfl HOWN9.out rfl HLIT.out (by rw [HLO.out]; simp; omega) (by simp at *; omega) ?_; intro v9 w9 h1 h2; obtain ⟨A9, c9, hv9⟩ := h1.spell; rw [List.length_append, HLO.out, List.length_singleton] at hv9; subst hv9; have H1 := hid h1; have H2 := hid h2; clear h1 h2)
          go_roundw
          case rel =>
            obtain ⟨q1, q2, q3⟩ := own_step HOWN.out HWZ.out H2.out HBX.out (by intro x hx; simp only [List.mem_cons, List.mem_nil_iff, or_false] at hx; rcases hx with rfl | rfl | rfl <;> first | (show (24 : Nat) ≠ 28; decide) | (show (26 : Nat) ≠ 28; decide)) HBR.out
            exact ⟨k + 1, by omega, by go_num, by rw [take_one HTT.out]; exact H1.out, q1, by omega, q2⟩
          case measure => simp [intOf]; omega
        · have hd : decide ((k : Int) < ((o + m : Nat) : Int)) = false := decide_eq_false (by omega)
          have hd2 : decide (k < o + m) = false := decide_eq_false (by omega)
          have hwz : Below wr.heap.size wr (wr.alloc (.cells #[.string ztx, .int .i64 zwd, .int .i64 zfg, .int .i64 zbg, .int .i64 zfl] 28)) := below_alloc _ _
          have hlit := ce_lit (wr.alloc (.cells #[.string ztx, .int .i64 zwd, .int .i64 zfg, .int .i64 zbg, .int .i64 zfl] 28)) (⟨ztx, zwd, zfg, zbg, zfl⟩ : Ce)
          unfold Ce.cells at hlit
          try simp only at hlit
          try simp only [World.size_alloc] at hlit
          have hown9 : OwnC ((wr.alloc (.cells #[.string ztx, .int .i64 zwd, .int .i64 zfg, .int .i64 zbg, .int .i64 zfl] 28)).alloc (.cells #[.string ztx, .int .i64 zwd, .int .i64 zfg, .int .i64 zbg, .int .i64 zfl] 28)) W.heap.size (.slice oA k oc) (tg.take k) := HOWN.out.kept (hwz.trans ((below_alloc _ _).mono hwz.size))
          have HTT : Hid (tg[k]? = some (⟨ztx, zwd, zfg, zbg, zfl⟩ : Ce)) := by unfold Hid; rw [HTK.out, if_neg HIN2.out]
          have HLIT := hid hlit
          have HWZ := hid hwz
          have HOWN9 := hid hown9
          have hsz9 : W.heap.size ≤ (wr.alloc (.cells #[.string ztx, .int .i64 zwd, .int .i64 zfg, .int .i64 zbg, .int .i64 zfl] 28)).heap.size := Nat.le_trans HBR.out.size hwz.size
          clear hlit hwz hown9
          go_wp2_with (at_builtin; refine wpList_append_ce rfl _ _ rfl W.heap.size _ _ (tg.take k) [(⟨ztx, zwd, zfg, zbg, zfl⟩ : Ce)] rfl HOWN9.out rfl HLIT.out (by rw [HLO.out]; simp; omega) (by simp at *; omega) ?_; intro v9 w9 h1 h2; obtain ⟨A9, c9, hv9⟩ := h1.spell; rw [List.length_append, HLO.out, List.length_singleton] at hv9; subst hv9; have H1 := hid h1; have H2 := hid h2; clear h1 h2)
          go_roundw
          case rel =>
            obtain ⟨q1, q2, q3⟩ := own_step HOWN.out HWZ.out H2.out HBX.out (by intro x hx; simp only [List.mem_cons, List.mem_nil_iff, or_false] at hx; rcases hx with rfl | rfl | rfl <;> first | (show (24 : Nat) ≠ 28; decide) | (show (26 : Nat) ≠ 28; decide)) HBR.out
            exact ⟨k + 1, by omega, by go_num, by rw [take_one HTT.out]; exact H1.out, q1, by omega, q2⟩
          case measure => simp [intOf]; omega
    · have hkm : k = m0 := by omega
      subst hkm
      rw [List.take_of_length_le (by rw [HTL.out]; exact Nat.le_refl _)] at hown
      have hset := rSet_any cols _ lv r wr _ tg hown.csl.row (by rw [HTL.out]; exact hcl) cs0 soft0 _ (HIN.out.below hbr) (HC.out.below hbr) HSM.out HX0.out
      rw [HNL.out] at hset
      have HSET := hid hset
      have HBX := hid hbx
      have HBR := hid hbr
      clear hset hbx hbr hown hlA
      go_wp2_with fail
      with_reducible refine HSET.out.mono ?_
      rintro e5 w5 ⟨v5, lv5, rfl, hm5, hl5, hn5, hb5⟩
      dsimp only
      have hbx5 := HBX.out.below hb5
      obtain ⟨⟨z0, z1⟩, y0, y1⟩ := (hbx5.get 2 rfl).two
      have hz2 : Box w5 (W.heap.size + 1 + 1) 24 #[.int .i64 0, .slice none 0 0] := hbx5.get 2 rfl
      obtain ⟨A5, c5, hs5⟩ := hl5.spell
      subst hs5
      have HM5 := hid hm5
      have HL5 := hid hl5
      have HN5 := hid hn5
      have HZ2 := hid hz2
      have HB5 := hid (HBR.out.trans (hb5.mono HBR.out.size))
      clear hm5 hl5 hn5 hbx5 hz2 hb5 k0 k1 f0 f1
      go_wp2
      refine bodyPost_ret (v := .agg #[.int .i64 cols, .slice A5 lv5.length c5]) (by simp [results, Tryd.results16, go_sem, z0, z1]) rfl ?_
      exact rpost_end HM5.out HL5.out HN5.out HBR.out.size HB5.out HZ2.out (by show W.heap.size ≤ W.heap.size + 1 + 1; omega) rfl
end Go.Proofs.YtdpicbfpjnampaaDoor
