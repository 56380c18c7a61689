/- Layer 7, the package: lines taken, a line looked at. Made by wip/gen/backT.py. -/
import Derived.Test.YtdpicbfpjnampaaDoorBackPQ
namespace Go.Proofs.YtdpicbfpjnampaaDoor
open Go.RowKit

def BTake (W : World) (mx : Int) (ok : Bool) (lv : List (Ln × Value)) (m : Nat) (e : Ending) (w' : World) : Prop :=
  ∃ xc A k c B j d xn, e = .returned (.tuple #[.agg #[.int .i64 xc, .slice A k c], .slice B j d, .int .i64 xn]) ∧ Below W.heap.size W w' ∧
    ((ok = true ∧ xc = mx ∧ xn = 0 ∧ LR w' (.slice A k c) (lv.take (lv.length - m)) ∧ LR w' (.slice B j d) (lastN m lv)) ∨ (ok = false ∧ xc = 0 ∧ (.slice A k c : Value) = .slice none 0 0 ∧ (.slice B j d : Value) = .slice none 0 0 ∧ xn = 1))
theorem BTake.no {W w' : World} {mx : Int} {lv : List (Ln × Value)} {m : Nat} {e : Ending} (h : e = .returned (.tuple #[.agg #[.int .i64 0, .slice none 0 0], .slice none 0 0, .int .i64 1])) (hb : Below W.heap.size W w') : BTake W mx false lv m e w' :=
  ⟨0, none, 0, 0, none, 0, 0, 1, h, hb, .inr ⟨rfl, rfl, rfl, rfl, rfl⟩⟩
/-- A line by its number: refused, none, or there. -/
def BAt (W : World) (R : Bool) (lv : List (Ln × Value)) (num : Int) (e : Ending) (w' : World) : Prop :=
  ∃ A k c s xn, e = .returned (.tuple #[.agg #[.slice A k c, .bool s], .int .i64 xn]) ∧ Below W.heap.size W w' ∧
    ((R = false ∧ xn = 1 ∧ (.slice A k c : Value) = .slice none 0 0 ∧ s = false) ∨ (R = true ∧ ¬ (0 ≤ num ∧ num < lv.length) ∧ xn = 5 ∧ (.slice A k c : Value) = .slice none 0 0 ∧ s = false) ∨
      (R = true ∧ (0 ≤ num ∧ num < lv.length) ∧ xn = 0 ∧ ∃ x, lv[lv.length - 1 - num.toNat]? = some x ∧ x.2 = .slice A k c ∧ x.1.soft = s))

set_option maxRecDepth 100000 in
set_option maxHeartbeats 1000000 in
theorem take_any (mx num : Int) (v : Value) (lv : List (Ln × Value)) (W : World) (hr : LR W v lv) (hc : CesOf W lv) (hs : Sm lv) (hT : Tab W) (hW : TabW W) (hq : -9223372036854775808 ≤ num ∧ num ≤ 9223372036854775807) :
    Calls Tryd.prog 36 #[.agg #[.int .i64 mx, v], .int .i64 num] W (BTake W mx (backB mx lv && decide (0 ≤ num)) lv num.toNat) := by
  have hR := fun W' (hb : Below W.heap.size W W') => bRight_any mx v lv W' (hr.below hb) (hc.below hb) hs (hT.below hb) (hW.below hb)
  have hC2 := fun q W' h0 h1 => bcut_any v lv q W W' hr h0 h1 hs.1
  have hsz := hs.1
  have hsp := hr.spell
  obtain ⟨A, c, rfl⟩ := hsp
  have b0 := ((Bxs.nil W).alloc 61 #[.int .i64 mx, .slice A lv.length c]).alloc 61 #[.int .i64 0, .slice none 0 0]
  simp only [World.size_alloc, List.nil_append, List.cons_append] at b0
  have h0 : Below W.heap.size W ((W.alloc (.cells #[.int .i64 mx, .slice A lv.length c] 61)).alloc (.cells #[.int .i64 0, .slice none 0 0] 61)) := (below_alloc _ _).alloc (by simp) _
  obtain ⟨n, hn⟩ : ∃ n, lv.length = n := ⟨_, rfl⟩
  rw [hn] at hR b0 h0 hsz hC2 ⊢
  have HN := hid hn
  have HR := hid hR
  have HL := hid hr
  have HCE := hid hc
  have BX0 := hid b0
  have H0 := hid h0
  have HSZ := hid hsz
  have HC2 := hid hC2
  generalize hRv : backB mx lv = R at *
  clear hRv hR b0 h0 hr hc hs hT hW hn hsz hC2
  cases R
  · rw [Bool.false_and]
    clear hq
    go_enter Tryd.func36, Tryd.ntmps36
    go_upto_region 1 with fail
    generalize ((W.alloc (.cells #[.int .i64 mx, .slice A n c] 61)).alloc (.cells #[.int .i64 0, .slice none 0 0] 61)) = w0 at *
    obtain ⟨⟨k0, k1⟩, f0, f1⟩ := (BX0.out.get 0 rfl).two
    obtain ⟨⟨r0, r1⟩, g0, g1⟩ := (BX0.out.get 1 rfl).two
    go_wp2_with fail
    with_reducible refine (HR.out w0 H0.out).mono ?_
    rintro e w1 ⟨rfl, hb⟩
    dsimp only
    clear k0 k1 f0 f1 r0 r1 g0 g1
    have H1 := hid (H0.out.trans (hb.mono H0.out.size))
    have BX1 := hid (BX0.out.below hb)
    clear hb
    obtain ⟨⟨k0, k1⟩, f0, f1⟩ := (BX1.out.get 0 rfl).two
    obtain ⟨⟨r0, r1⟩, g0, g1⟩ := (BX1.out.get 1 rfl).two
    go_wp2
    refine bodyPost_ret (v := .tuple #[.agg #[.int .i64 0, .slice none 0 0], .slice none 0 0, .int .i64 1]) (by simp [results, Tryd.results36, go_sem, r0, r1]) rfl (BTake.no rfl ?_)
    exact (H1.out.setCell (p := ⟨W.heap.size + 1, 0, none⟩) (by show W.heap.size ≤ W.heap.size + 1; omega) _).setCell (p := ⟨W.heap.size + 1, 1, none⟩) (by show W.heap.size ≤ W.heap.size + 1; omega) _
  · rw [Bool.true_and]
    by_cases hz : num < 0
    · rw [decide_eq_false (p := 0 ≤ num) (by omega)]
      clear hq
      go_enter Tryd.func36, Tryd.ntmps36
      go_upto_region 1 with fail
      generalize ((W.alloc (.cells #[.int .i64 mx, .slice A n c] 61)).alloc (.cells #[.int .i64 0, .slice none 0 0] 61)) = w0 at *
      obtain ⟨⟨k0, k1⟩, f0, f1⟩ := (BX0.out.get 0 rfl).two
      obtain ⟨⟨r0, r1⟩, g0, g1⟩ := (BX0.out.get 1 rfl).two
      go_wp2_with fail
      with_reducible refine (HR.out w0 H0.out).mono ?_
      rintro e w1 ⟨rfl, hb⟩
      dsimp only
      clear k0 k1 f0 f1 r0 r1 g0 g1
      have H1 := hid (H0.out.trans (hb.mono H0.out.size))
      have BX1 := hid (BX0.out.below hb)
      clear hb
      obtain ⟨⟨k0, k1⟩, f0, f1⟩ := (BX1.out.get 0 rfl).two
      obtain ⟨⟨r0, r1⟩, g0, g1⟩ := (BX1.out.get 1 rfl).two
      go_wp2
      refine bodyPost_ret (v := .tuple #[.agg #[.int .i64 0, .slice none 0 0], .slice none 0 0, .int .i64 1]) (by simp [results, Tryd.results36, go_sem, r0, r1]) rfl (BTake.no rfl ?_)
      exact (H1.out.setCell (p := ⟨W.heap.size + 1, 0, none⟩) (by show W.heap.size ≤ W.heap.size + 1; omega) _).setCell (p := ⟨W.heap.size + 1, 1, none⟩) (by show W.heap.size ≤ W.heap.size + 1; omega) _
    · rw [decide_eq_true (p := 0 ≤ num) (by omega)]
      have hz' : 0 ≤ num := by omega
      have hd : decide (num < 0) = false := decide_eq_false hz
      have HQ := hid hq
      clear hq hz
      go_enter Tryd.func36, Tryd.ntmps36
      go_upto_region 1 with fail
      generalize ((W.alloc (.cells #[.int .i64 mx, .slice A n c] 61)).alloc (.cells #[.int .i64 0, .slice none 0 0] 61)) = w0 at *
      obtain ⟨⟨k0, k1⟩, f0, f1⟩ := (BX0.out.get 0 rfl).two
      obtain ⟨⟨r0, r1⟩, g0, g1⟩ := (BX0.out.get 1 rfl).two
      go_wp2_with fail
      with_reducible refine (HR.out w0 H0.out).mono ?_
      rintro e w1 ⟨rfl, hb⟩
      dsimp only
      clear k0 k1 f0 f1 r0 r1 g0 g1
      have H1 := hid (H0.out.trans (hb.mono H0.out.size))
      have BX1 := hid (BX0.out.below hb)
      clear hb
      obtain ⟨⟨k0, k1⟩, f0, f1⟩ := (BX1.out.get 0 rfl).two
      obtain ⟨⟨r0, r1⟩, g0, g1⟩ := (BX1.out.get 1 rfl).two
      have HCALL := hid (HC2.out num w1 hz' HQ.out.2)
      go_wp2_with fail
      with_reducible refine HCALL.out.mono ?_
      rintro e w4 ⟨A3, k3, A4, k4, rfl, hk3, hk4, hl3, hl4, hb⟩
      dsimp only
      clear k0 k1 f0 f1 r0 r1 g0 g1 HCALL hk3 hk4
      have H4 := hid (H1.out.trans (hb.mono H1.out.size))
      have BX4 := hid (BX1.out.below hb)
      have HL3 := hid hl3
      have HL4 := hid hl4
      clear hb hl4 hl3
      obtain ⟨⟨k0, k1⟩, f0, f1⟩ := (BX4.out.get 0 rfl).two
      obtain ⟨⟨r0, r1⟩, g0, g1⟩ := (BX4.out.get 1 rfl).two
      have hne : ¬ W.heap.size + 1 = W.heap.size := by omega
      have hne2 : ¬ W.heap.size = W.heap.size + 1 := by omega
      go_wp2
      refine bodyPost_ret (v := .tuple #[.agg #[.int .i64 mx, .slice A3 k3 k3], .slice A4 k4 k4, .int .i64 0]) (by simp [results, Tryd.results36, go_sem, r0, r1]) rfl ?_
      have hbb := ((H4.out.setCell (p := ⟨W.heap.size, 1, none⟩) (Nat.le_refl _) (.slice A3 k3 k3)).setCell (p := ⟨W.heap.size + 1, 0, none⟩) (by show W.heap.size ≤ W.heap.size + 1; omega) (.int .i64 mx)).setCell (p := ⟨W.heap.size + 1, 1, none⟩) (by show W.heap.size ≤ W.heap.size + 1; omega) (.slice A3 k3 k3)
      exact ⟨_, _, _, _, _, _, _, _, rfl, hbb, .inl ⟨rfl, rfl, rfl, HL3.out.below hbb, HL4.out.below hbb⟩⟩

set_option maxRecDepth 100000 in
set_option maxHeartbeats 1000000 in
theorem at_any (mx num : Int) (v : Value) (lv : List (Ln × Value)) (W : World) (hr : LR W v lv) (hc : CesOf W lv) (hs : Sm lv) (hT : Tab W) (hW : TabW W) (hq : -9223372036854775808 ≤ num ∧ num ≤ 9223372036854775807) :
    Calls Tryd.prog 37 #[.agg #[.int .i64 mx, v], .int .i64 num] W (BAt W (backB mx lv) lv num) := by
  have hR := fun W' (hb : Below W.heap.size W W') => bRight_any mx v lv W' (hr.below hb) (hc.below hb) hs (hT.below hb) (hW.below hb)
  have hsz := hs.1
  have hsp := hr.spell
  obtain ⟨A, c, rfl⟩ := hsp
  have b0 := ((Bxs.nil W).alloc 61 #[.int .i64 mx, .slice A lv.length c]).alloc 57 #[.slice none 0 0, .bool false]
  simp only [World.size_alloc, List.nil_append, List.cons_append] at b0
  have h0 : Below W.heap.size W ((W.alloc (.cells #[.int .i64 mx, .slice A lv.length c] 61)).alloc (.cells #[.slice none 0 0, .bool false] 57)) := (below_alloc _ _).alloc (by simp) _
  obtain ⟨n, hn⟩ : ∃ n, lv.length = n := ⟨_, rfl⟩
  rw [hn] at hR b0 h0 hsz ⊢
  have HN := hid hn
  have HR := hid hR
  have HL := hid hr
  have HCE := hid hc
  have BX0 := hid b0
  have H0 := hid h0
  have HSZ := hid hsz
  generalize hRv : backB mx lv = R at *
  clear hRv hR b0 h0 hr hc hs hT hW hn hsz
  cases R
  · clear hq
    go_enter Tryd.func37, Tryd.ntmps37
    go_upto_region 1 with fail
    generalize ((W.alloc (.cells #[.int .i64 mx, .slice A n c] 61)).alloc (.cells #[.slice none 0 0, .bool false] 57)) = w0 at *
    obtain ⟨⟨k0, k1⟩, f0, f1⟩ := (BX0.out.get 0 rfl).two
    obtain ⟨⟨r0, r1⟩, g0, g1⟩ := (BX0.out.get 1 rfl).two
    go_wp2_with fail
    with_reducible refine (HR.out w0 H0.out).mono ?_
    rintro e w1 ⟨rfl, hb⟩
    dsimp only
    clear k0 k1 f0 f1 r0 r1 g0 g1
    have H1 := hid (H0.out.trans (hb.mono H0.out.size))
    have BX1 := hid (BX0.out.below hb)
    clear hb
    obtain ⟨⟨k0, k1⟩, f0, f1⟩ := (BX1.out.get 0 rfl).two
    obtain ⟨⟨r0, r1⟩, g0, g1⟩ := (BX1.out.get 1 rfl).two
    go_wp2
    refine bodyPost_ret (v := .tuple #[.agg #[.slice none 0 0, .bool false], .int .i64 1]) (by simp [results, Tryd.results37, go_sem, r0, r1]) rfl ⟨none, 0, 0, false, 1, rfl, ?_, .inl ⟨rfl, rfl, rfl, rfl⟩⟩
    exact (H1.out.setCell (p := ⟨W.heap.size + 1, 0, none⟩) (by show W.heap.size ≤ W.heap.size + 1; omega) _).setCell (p := ⟨W.heap.size + 1, 1, none⟩) (by show W.heap.size ≤ W.heap.size + 1; omega) _
  · have h3 : num < 0 ∨ (0 ≤ num ∧ (n : Int) ≤ num) ∨ (0 ≤ num ∧ num < n) := by omega
    rcases h3 with hz | ⟨hz, hz2⟩ | ⟨hz, hz2⟩
    · have HZ : Hid (¬ (0 ≤ num ∧ num < lv.length)) := by unfold Hid; omega
      clear hq
      go_enter Tryd.func37, Tryd.ntmps37
      go_upto_region 1 with fail
      generalize ((W.alloc (.cells #[.int .i64 mx, .slice A n c] 61)).alloc (.cells #[.slice none 0 0, .bool false] 57)) = w0 at *
      obtain ⟨⟨k0, k1⟩, f0, f1⟩ := (BX0.out.get 0 rfl).two
      obtain ⟨⟨r0, r1⟩, g0, g1⟩ := (BX0.out.get 1 rfl).two
      go_wp2_with fail
      with_reducible refine (HR.out w0 H0.out).mono ?_
      rintro e w1 ⟨rfl, hb⟩
      dsimp only
      clear k0 k1 f0 f1 r0 r1 g0 g1
      have H1 := hid (H0.out.trans (hb.mono H0.out.size))
      have BX1 := hid (BX0.out.below hb)
      clear hb
      obtain ⟨⟨k0, k1⟩, f0, f1⟩ := (BX1.out.get 0 rfl).two
      obtain ⟨⟨r0, r1⟩, g0, g1⟩ := (BX1.out.get 1 rfl).two
      go_wp2
      refine bodyPost_ret (v := .tuple #[.agg #[.slice none 0 0, .bool false], .int .i64 5]) (by simp [results, Tryd.results37, go_sem, r0, r1]) rfl ⟨none, 0, 0, false, 5, rfl, ?_, .inr (.inl ⟨rfl, HZ.out, rfl, rfl, rfl⟩)⟩
      exact (H1.out.setCell (p := ⟨W.heap.size + 1, 0, none⟩) (by show W.heap.size ≤ W.heap.size + 1; omega) _).setCell (p := ⟨W.heap.size + 1, 1, none⟩) (by show W.heap.size ≤ W.heap.size + 1; omega) _
    · have HZ : Hid (¬ (0 ≤ num ∧ num < lv.length)) := by unfold Hid; rw [HN.out]; omega
      clear hq
      go_enter Tryd.func37, Tryd.ntmps37
      go_upto_region 1 with fail
      generalize ((W.alloc (.cells #[.int .i64 mx, .slice A n c] 61)).alloc (.cells #[.slice none 0 0, .bool false] 57)) = w0 at *
      obtain ⟨⟨k0, k1⟩, f0, f1⟩ := (BX0.out.get 0 rfl).two
      obtain ⟨⟨r0, r1⟩, g0, g1⟩ := (BX0.out.get 1 rfl).two
      go_wp2_with fail
      with_reducible refine (HR.out w0 H0.out).mono ?_
      rintro e w1 ⟨rfl, hb⟩
      dsimp only
      clear k0 k1 f0 f1 r0 r1 g0 g1
      have H1 := hid (H0.out.trans (hb.mono H0.out.size))
      have BX1 := hid (BX0.out.below hb)
      clear hb
      obtain ⟨⟨k0, k1⟩, f0, f1⟩ := (BX1.out.get 0 rfl).two
      obtain ⟨⟨r0, r1⟩, g0, g1⟩ := (BX1.out.get 1 rfl).two
      go_wp2
      refine bodyPost_ret (v := .tuple #[.agg #[.slice none 0 0, .bool false], .int .i64 5]) (by simp [results, Tryd.results37, go_sem, r0, r1]) rfl ⟨none, 0, 0, false, 5, rfl, ?_, .inr (.inl ⟨rfl, HZ.out, rfl, rfl, rfl⟩)⟩
      exact (H1.out.setCell (p := ⟨W.heap.size + 1, 0, none⟩) (by show W.heap.size ≤ W.heap.size + 1; omega) _).setCell (p := ⟨W.heap.size + 1, 1, none⟩) (by show W.heap.size ≤ W.heap.size + 1; omega) _
    · obtain ⟨i, rfl⟩ : ∃ i : Nat, num = i := ⟨num.toNat, by omega⟩
      have hin : i < n := by omega
      have hj : n - 1 - i < lv.length := by rw [HN.out]; omega
      have hx := List.getElem?_eq_getElem hj
      obtain ⟨A', c', e, _, hcell⟩ := HL.out
      rw [HN.out] at e
      cases e
      obtain ⟨g, o, rfl, hg, hcell⟩ := hcell (by intro e; rw [e] at hj; simp at hj)
      obtain ⟨p0, p1⟩ := hcell _ _ hx
      obtain ⟨xA, xc, hxs⟩ := (HCE.out _ (List.getElem_mem hj)).spell
      generalize lv[n - 1 - i] = x at *
      obtain ⟨⟨cs, soft⟩, u⟩ := x
      simp only at p0 p1 hxs
      subst hxs
      have HZ : Hid (0 ≤ (i : Int) ∧ (i : Int) < lv.length) := by unfold Hid; rw [HN.out]; omega
      have hd : decide ((n : Int) ≤ (i : Int)) = false := decide_eq_false (by omega)
      have e1 : ((n : Int) - 1 - (i : Int)).toNat = n - 1 - i := by omega
      have h1 : 0 ≤ (n : Int) - 1 - (i : Int) := by omega
      have h2 : (n : Int) - 1 - (i : Int) < n := by omega
      have h4 : 0 ≤ (n : Int) - 1 := by omega
      have h5 : (n : Int) ≤ 1000 := by have := HSZ.out; omega
      have h6 : (n : Int) - 1 ≤ 1000 := by omega
      have h7 : (n : Int) - 1 - (i : Int) ≤ 1000 := by omega
      have HX := hid hx
      have P0 := hid p0
      have P1 := hid p1
      have HG := hid hg
      clear hq hx hcell hj p0 p1 hg hin hz hz2
      go_enter Tryd.func37, Tryd.ntmps37
      go_upto_region 1 with fail
      generalize ((W.alloc (.cells #[.int .i64 mx, .slice (some ⟨g, o, none⟩) n c] 61)).alloc (.cells #[.slice none 0 0, .bool false] 57)) = w0 at *
      obtain ⟨⟨k0, k1⟩, f0, f1⟩ := (BX0.out.get 0 rfl).two
      obtain ⟨⟨r0, r1⟩, g0, g1⟩ := (BX0.out.get 1 rfl).two
      go_wp2_with fail
      with_reducible refine (HR.out w0 H0.out).mono ?_
      rintro e w1 ⟨rfl, hb⟩
      dsimp only
      clear k0 k1 f0 f1 r0 r1 g0 g1
      have H1 := hid (H0.out.trans (hb.mono H0.out.size))
      have BX1 := hid (BX0.out.below hb)
      clear hb
      obtain ⟨⟨k0, k1⟩, f0, f1⟩ := (BX1.out.get 0 rfl).two
      obtain ⟨⟨r0, r1⟩, g0, g1⟩ := (BX1.out.get 1 rfl).two
      have p0 := (H1.out.cell (p := ⟨g, o + (n - 1 - i) * 2, none⟩) HG.out).trans P0.out
      have p1 := (H1.out.cell (p := ⟨g, o + (n - 1 - i) * 2 + 1, none⟩) HG.out).trans P1.out
      go_wp2
      refine bodyPost_ret (v := .tuple #[.agg #[.slice xA cs.length xc, .bool soft], .int .i64 0]) (by simp [results, Tryd.results37, go_sem, r0, r1]) rfl ⟨_, _, _, _, _, rfl, ?_, .inr (.inr ⟨rfl, HZ.out, rfl, (⟨cs, soft⟩, .slice xA cs.length xc), ?_, rfl, rfl⟩)⟩
      · exact (H1.out.setCell (p := ⟨W.heap.size + 1, 0, none⟩) (by show W.heap.size ≤ W.heap.size + 1; omega) _).setCell (p := ⟨W.heap.size + 1, 1, none⟩) (by show W.heap.size ≤ W.heap.size + 1; omega) _
      · rw [HN.out, Int.toNat_natCast]; exact HX.out
end Go.Proofs.YtdpicbfpjnampaaDoor
