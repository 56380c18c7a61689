/- Layer 4, the package: which looks may be, flags that are set and cleared, colours' rows. -/
/- Layer 4, the package: a text's letter and marks, which cells may be. -/
/- Layer 4, the package: which cells may be; a letter's cell, a mark more, a blank one. -/
/- Layer 4, the package: a letter's cell, a cell with a mark more, a blank one. -/
import Derived.Test.YteebbmmgbjpihaaDoorCellIQ
import Derived.Test.YteebbmmgbjpihaaDoorGridIQ
import Derived.Maps.OwnOps
import Derived.Maps.Views
import Derived.Deep.RegionWith
import Derived.DataElems
import Derived.Test.YteebbmmgbjpihaaDoorUtfHQ
import Derived.Deep.DeepCutAuto
namespace Go.Proofs.YteebbmmgbjpihaaDoor
open Go.RowKit Go.Maps

set_option maxHeartbeats 400000 in
theorem pLook_any (a : At) (w : World) :
    Calls Tryd.prog 87 #[a.agg] w fun e w' => e = .returned (.bool (lookB a)) ∧ Below w.heap.size w w' := by
  obtain ⟨fg, bg, fl⟩ := a
  have hc : (0 ≤ fg ∧ fg ≤ 256 ∧ 0 ≤ bg ∧ bg ≤ 256 ∧ 0 ≤ fl ∧ fl ≤ 255) ∨ (fg < 0) ∨ (0 ≤ fg ∧ 256 < fg) ∨ (0 ≤ fg ∧ fg ≤ 256 ∧ bg < 0) ∨ (0 ≤ fg ∧ fg ≤ 256 ∧ 0 ≤ bg ∧ 256 < bg) ∨ (0 ≤ fg ∧ fg ≤ 256 ∧ 0 ≤ bg ∧ bg ≤ 256 ∧ fl < 0) ∨ (0 ≤ fg ∧ fg ≤ 256 ∧ 0 ≤ bg ∧ bg ≤ 256 ∧ 0 ≤ fl ∧ 255 < fl) := by omega
  unfold At.agg
  rcases hc with ⟨h1, h2, h3, h4, h5, h6⟩ | h1 | ⟨h1, h2⟩ | ⟨h1, h2, h3⟩ | ⟨h1, h2, h3, h4⟩ | ⟨h1, h2, h3, h4, h5⟩ | ⟨h1, h2, h3, h4, h5, h6⟩
  · have HR : Hid (lookB ⟨fg, bg, fl⟩ = true) := by unfold Hid; rw [look_iff]; exact ⟨⟨h1, h2⟩, ⟨h3, h4⟩, h5, h6⟩
    go_enter Tryd.func87, Tryd.ntmps87
    go_wp2
    go_ret
    exact ⟨ret_bool (by rw [HR.out]; first | done | (simp; done) | (simp; omega)), below_alloc _ _⟩
  all_goals
    have HR : Hid (lookB ⟨fg, bg, fl⟩ = false) := by
      unfold Hid
      cases hb : lookB ⟨fg, bg, fl⟩
      · rfl
      · rw [look_iff] at hb; simp only at hb; omega
    go_enter Tryd.func87, Tryd.ntmps87
    go_wp2
    go_ret
    exact ⟨ret_bool (by rw [HR.out]; first | done | (simp; done) | (simp; omega)), below_alloc _ _⟩

theorem lawInt : Keyed Tryd.prog 3 := int_keyed Tryd.underlying3
theorem zeroInt (w : World) : (zeroValue 3).run Tryd.prog w = .ok (.int .i64 0) w := by kernel_rfl
abbrev kz (n : Int) : Lit := .int .i64 n
abbrev dz (n : Int) : DataW Unit := .lit (.int .i64 n)
/-- What the literal's map holds. -/
def clrD : DataW Unit := (((((((DataW.map []).put (kz 22) (dz 3)).put (kz 23) (dz 4)).put (kz 24) (dz 8)).put (kz 25) (dz 16)).put (kz 27) (dz 32)).put (kz 28) (dz 64)).put (kz 29) (dz 128)
theorem clrD_at (n : Int) : clrD.atKey (kz n) (dz 0) = dz (clrG n) := by
  have hc : n = 22 ∨ n = 23 ∨ n = 24 ∨ n = 25 ∨ n = 27 ∨ n = 28 ∨ n = 29 ∨ (¬ n = 22 ∧ ¬ n = 23 ∧ ¬ n = 24 ∧ ¬ n = 25 ∧ ¬ n = 27 ∧ ¬ n = 28 ∧ ¬ n = 29) := by omega
  rcases hc with rfl | rfl | rfl | rfl | rfl | rfl | rfl | ⟨h1, h2, h3, h4, h5, h6, h7⟩
  case inr.inr.inr.inr.inr.inr.inr =>
    unfold clrD clrG
    rw [atKey_put_other (by simp [h7]), atKey_put_other (by simp [h6]), atKey_put_other (by simp [h5]), atKey_put_other (by simp [h4]), atKey_put_other (by simp [h3]), atKey_put_other (by simp [h2]), atKey_put_other (by simp [h1])]
    simp [h1, h2, h3, h4, h5, h6, h7]
    rfl
  all_goals rfl

end Go.Proofs.YteebbmmgbjpihaaDoor

namespace Go.Proofs.YteebbmmgbjpihaaDoor
open Go.RowKit

def TwoInts (a : Int) (b : Nat) (e : Ending) : Prop := e = .returned (.tuple #[.int .i64 a, .int .i64 (b : Nat)])
theorem two_ints {p : Int × Nat} {a : Int} {b : Nat} (h : p = (a, b)) {x y : Int} (hx : x = a) (hy : y = b) : TwoInts p.1 p.2 (.returned (.tuple #[.int .i64 x, .int .i64 y])) := by
  rw [h, hx, hy]; rfl

/-- Marks read so far, and what that makes of the whole. -/
theorem marks_step {s : ByteArray} {m : Nat} (h0 : s.size ≠ 0) (hm : m ≤ 2) :
    marksF (2 - m) s m = if (firstG s).e = 0 ∧ widthI (firstG s).r = 0 ∧ m ≠ 2 then marksF (2 - (m + 1)) (s.extract (firstG s).n.toNat s.size) (m + 1) else none := by
  have hc : m = 0 ∨ m = 1 ∨ m = 2 := by omega
  rcases hc with rfl | rfl | rfl
  · show marksF 2 s 0 = _
    conv => lhs; rw [marksF, if_neg h0]
    exact if_iff (by simp)
  · show marksF 1 s 1 = _
    conv => lhs; rw [marksF, if_neg h0]
    exact if_iff (by simp)
  · show marksF 0 s 2 = _
    conv => lhs; rw [marksF, if_neg h0]
    rw [if_neg (by simp)]
theorem marks_end {s : ByteArray} {m : Nat} (h0 : s.size = 0) : marksF (2 - m) s m = some m := by
  cases 2 - m <;> rw [marksF, if_pos h0]

set_option maxRecDepth 100000 in
set_option maxHeartbeats 1000000 in
theorem parts_any (s : ByteArray) (w : World) (hs : s.size ≤ maxLen) (hT : Tab w) (hW : TabW w) :
    Calls Tryd.prog 88 #[.string s] w fun e w' => TwoInts (partsG s).1 (partsG s).2 e ∧ Below w.heap.size w w' := by
  have hmax := hs
  unfold maxLen at hs
  have hfi := first_any s w hmax hT
  have hwd := fun r W (hb : Below w.heap.size w W) => width_any r W (hT.below hb) (hW.below hb)
  have hnn := firstG_in s
  have hP : partsG s = if (firstG s).e = 0 ∧ 1 ≤ widthI (firstG s).r then
    match marksF 2 (s.extract (firstG s).n.toNat s.size) 0 with
    | some k => (widthI (firstG s).r, k)
    | none => (0, 0)
    else (0, 0) := rfl
  unfold Got.val at hfi
  generalize firstG s = g at *
  obtain ⟨r, gn, ge⟩ := g
  simp only at hfi hP hnn
  by_cases he : ge = 0
  · subst he
    have hw1 := fun W hb => hwd r W hb
    by_cases hv : 1 ≤ widthI r
    · rw [if_pos ⟨rfl, hv⟩] at hP
      generalize widthI r = V at *
      have HP := hid hP
      have hg0 : 0 ≤ gn := hnn.1
      have hg1 : gn ≤ (s.size : Int) := by omega
      have hv' : ¬ V < 1 := by omega
      obtain ⟨s1, hs1⟩ : ∃ s1, s.extract gn.toNat s.size = s1 := ⟨_, rfl⟩
      have hz1 : s1.size ≤ s.size := by rw [← hs1, size_extract']; omega
      have HS1 := hid hs1
      clear hP hnn hv
      go_enter Tryd.func88, Tryd.ntmps88
      go_upto_region 6 with (first | (go_at_call 90; refine hfi.mono ?_; rintro e w2 ⟨rfl, hb⟩; have n2 := hb) | (go_at_call 91; refine (hw1 _ n2).mono ?_; rintro e w3 ⟨rfl, hb3⟩; have n2 := n2.trans (hb3.mono n2.size)))
      clear hfi hs1 hb hw1
      go_loopw [0, 2, 3] (fun tv vv mv wr => ∃ (x : ByteArray) (m : Nat), tv = .string x ∧ vv = .int .i64 V ∧ mv = .int .i64 m ∧ m ≤ 2 ∧ x.size ≤ s.size ∧ marksF 2 s1 0 = marksF (2 - m) x m ∧ Below w.heap.size w wr) (fun tv _ _ _ => strLen tv)
      case atStart => exact ⟨s1, 0, rfl, rfl, rfl, by omega, hz1, rfl, n2⟩
      case round =>
        clear n2 hz1
        obtain ⟨x, m, rfl, rfl, rfl, hm, hxs, hmk, hbr⟩ := hrel
        have HM := hid hmk
        clear hmk
        by_cases h0 : x.size = 0
        · have HE : Hid (partsG s = (V, m)) := by unfold Hid; rw [HP.out, HS1.out, HM.out, marks_end h0]
          have hx := empty_yes h0
          subst hx
          clear h0
          go_wp2
          go_ret2
          exact ⟨two_ints HE.out rfl rfl, hbr⟩
        · have hne := empty_no h0
          have hst := marks_step h0 hm
          have hf2 := first_any x wr (by unfold maxLen; omega) (hT.below hbr)
          have hn2 := firstG_in x
          unfold Got.val at hf2
          generalize firstG x = g at *
          obtain ⟨r2, gn2, ge2⟩ := g
          simp only at hst hf2 hn2
          have hw2 := fun W hb => hwd r2 W hb
          clear hwd
          by_cases he2 : ge2 = 0
          · subst he2
            by_cases hv2 : widthI r2 = 0
            · by_cases hm2 : m = 2
              · rw [if_neg (fun h => h.2.2 hm2)] at hst
                have HE : Hid (partsG s = (0, 0)) := by unfold Hid; rw [HP.out, HS1.out, HM.out, hst]
                rw [hv2] at hw2
                subst hm2
                clear hst hn2
                go_wp2_with (first | (go_at_call 90; refine hf2.mono ?_; rintro e w4 ⟨rfl, hb4⟩; have n4 := hbr.trans (hb4.mono hbr.size)) | (go_at_call 91; refine (hw2 _ n4).mono ?_; rintro e w5 ⟨rfl, hb5⟩; have n4 := n4.trans (hb5.mono n4.size)))
                go_ret2
                exact ⟨two_ints HE.out rfl rfl, n4⟩
              · rw [if_pos ⟨rfl, hv2, hm2⟩] at hst
                have hn3 : 1 ≤ gn2.toNat := hn2.2.2 rfl
                have hn4 : (gn2.toNat : Int) = gn2 := Int.toNat_of_nonneg hn2.1
                have hn5 : gn2 ≤ (x.size : Int) := by omega
                have hn6 : 0 ≤ gn2 := hn2.1
                have hme : ((m : Int) == 2) = false := by simp; omega
                have hm3 : m ≤ 1 := by omega
                obtain ⟨x2, hx2⟩ : ∃ x2, x.extract gn2.toNat x.size = x2 := ⟨_, rfl⟩
                have hz2 : x2.size = x.size - gn2.toNat := by rw [← hx2, size_extract']; omega
                rw [hx2] at hst
                have HST := hid hst
                have HZ := hid hz2
                have HN := hid hn4
                rw [hv2] at hw2
                clear hst hn2 hz2 hn4 hm2 hv2
                go_wp2_with (first | (go_at_call 90; refine hf2.mono ?_; rintro e w4 ⟨rfl, hb4⟩; have n4 := hbr.trans (hb4.mono hbr.size)) | (go_at_call 91; refine (hw2 _ n4).mono ?_; rintro e w5 ⟨rfl, hb5⟩; have n4 := n4.trans (hb5.mono n4.size)))
                go_roundw
                case rel => exact ⟨x2, m + 1, rfl, rfl, by go_num, by omega, by have := HZ.out; omega, HM.out.trans HST.out, n4⟩
                case measure => have := HZ.out; simp only [strLen]; omega
            · rw [if_neg (fun h => hv2 h.2.1)] at hst
              have HE : Hid (partsG s = (0, 0)) := by unfold Hid; rw [HP.out, HS1.out, HM.out, hst]
              generalize widthI r2 = V2 at *
              have hv3 : (V2 != 0) = true := by simp [hv2]
              clear hst hn2 hv2
              go_wp2_with (first | (go_at_call 90; refine hf2.mono ?_; rintro e w4 ⟨rfl, hb4⟩; have n4 := hbr.trans (hb4.mono hbr.size)) | (go_at_call 91; refine (hw2 _ n4).mono ?_; rintro e w5 ⟨rfl, hb5⟩; have n4 := n4.trans (hb5.mono n4.size)))
              go_ret2
              exact ⟨two_ints HE.out rfl rfl, n4⟩
          · rw [if_neg (fun h => he2 h.1)] at hst
            have HE : Hid (partsG s = (0, 0)) := by unfold Hid; rw [HP.out, HS1.out, HM.out, hst]
            have he3 : (ge2 != 0) = true := by simp [he2]
            clear hst hn2 he2 hw2
            go_wp2_with (go_at_call 90; refine hf2.mono ?_; rintro e w4 ⟨rfl, hb4⟩; have n4 := hbr.trans (hb4.mono hbr.size))
            go_ret2
            exact ⟨two_ints HE.out rfl rfl, n4⟩
    · rw [if_neg (fun h => hv h.2)] at hP
      have HE := hid hP
      have hv' : widthI r < 1 := by omega
      generalize widthI r = V at *
      clear hP hnn hv
      go_enter Tryd.func88, Tryd.ntmps88
      go_wp2_with (first | (go_at_call 90; refine hfi.mono ?_; rintro e w2 ⟨rfl, hb⟩; have n2 := hb) | (go_at_call 91; refine (hw1 _ n2).mono ?_; rintro e w3 ⟨rfl, hb3⟩; have n2 := n2.trans (hb3.mono n2.size)))
      go_ret2
      exact ⟨two_ints HE.out rfl rfl, n2⟩
  · rw [if_neg (fun h => he h.1)] at hP
    have HE := hid hP
    have he3 : (ge != 0) = true := by simp [he]
    clear hP hnn he hwd
    go_enter Tryd.func88, Tryd.ntmps88
    go_wp2_with (go_at_call 90; refine hfi.mono ?_; rintro e w2 ⟨rfl, hb⟩)
    go_ret2
    exact ⟨two_ints HE.out rfl rfl, hb⟩
end Go.Proofs.YteebbmmgbjpihaaDoor

namespace Go.Proofs.YteebbmmgbjpihaaDoor
open Go.RowKit

set_option maxRecDepth 100000 in
set_option maxHeartbeats 1000000 in
theorem right_any (c : Ce) (w : World) (hs : c.tx.size ≤ maxLen) (hT : Tab w) (hW : TabW w) :
    Calls Tryd.prog 80 #[c.agg] w fun e w' => e = .returned (.bool (rightB c)) ∧ Below w.heap.size w w' := by
  obtain ⟨tx, wd, fg, bg, fl⟩ := c
  have hlook := pLook_any ⟨fg, bg, fl⟩
  have hpa := fun W (hb : Below w.heap.size w W) => parts_any tx W hs (hT.below hb) (hW.below hb)
  have hR : rightB ⟨tx, wd, fg, bg, fl⟩ = (lookB ⟨fg, bg, fl⟩ && (if tx.size = 0 then decide (wd = 0 ∨ wd = 1) else decide (0 < (partsG tx).1 ∧ (partsG tx).1 = wd))) := rfl
  have hbx := Box.new w 44 #[.string tx, .int .i64 wd, .int .i64 fg, .int .i64 bg, .int .i64 fl]
  have hbel : Below w.heap.size w (w.alloc (.cells #[.string tx, .int .i64 wd, .int .i64 fg, .int .i64 bg, .int .i64 fl] 44)) := below_alloc _ _
  have HBX := hid hbx
  have HBL := hid hbel
  unfold At.agg at hlook
  unfold TwoInts at hpa
  show Calls _ _ #[.agg #[.string tx, .int .i64 wd, .int .i64 fg, .int .i64 bg, .int .i64 fl]] _ _
  simp only at hlook
  clear hbx hbel
  cases hl : lookB ⟨fg, bg, fl⟩
  · rw [hl] at hlook hR
    rw [Bool.false_and] at hR
    have HR := hid hR
    clear hR hpa hl
    go_enter Tryd.func80, Tryd.ntmps80
    go_wp2_with (go_at_call 87; refine (hlook _).mono ?_; rintro e w2 ⟨rfl, hb⟩)
    go_ret
    exact ⟨ret_bool HR.out.symm, HBL.out.trans (hb.mono (by simp))⟩
  · rw [hl] at hlook hR
    rw [Bool.true_and] at hR
    clear hl
    by_cases h0 : tx.size = 0
    · rw [if_pos h0] at hR
      have HR := hid hR
      have hx := empty_yes h0
      subst hx
      clear hR hpa h0 hs
      have hc : wd = 0 ∨ wd = 1 ∨ (¬ wd = 0 ∧ ¬ wd = 1) := by omega
      rcases hc with rfl | rfl | ⟨g0, g1⟩
      · go_enter Tryd.func80, Tryd.ntmps80
        go_upto_region 3 with (go_at_call 87; refine (hlook _).mono ?_; rintro e w2 ⟨rfl, hb⟩)
        obtain ⟨⟨c0, c1, c2, c3, c4⟩, f0, f1, f2, f3, f4⟩ := (HBX.out.below hb (by simp)).five
        go_wp2
        go_ret
        exact ⟨ret_bool (by rw [HR.out]; simp), HBL.out.trans (hb.mono (by simp))⟩
      · go_enter Tryd.func80, Tryd.ntmps80
        go_upto_region 3 with (go_at_call 87; refine (hlook _).mono ?_; rintro e w2 ⟨rfl, hb⟩)
        obtain ⟨⟨c0, c1, c2, c3, c4⟩, f0, f1, f2, f3, f4⟩ := (HBX.out.below hb (by simp)).five
        go_wp2
        go_ret
        exact ⟨ret_bool (by rw [HR.out]; simp), HBL.out.trans (hb.mono (by simp))⟩
      · have HR2 : Hid (decide (wd = 0 ∨ wd = 1) = false) := by unfold Hid; exact decide_eq_false (by omega)
        have q0 : (wd == 0) = false := by simp [g0]
        have q1 : (wd == 1) = false := by simp [g1]
        clear g0 g1
        go_enter Tryd.func80, Tryd.ntmps80
        go_upto_region 3 with (go_at_call 87; refine (hlook _).mono ?_; rintro e w2 ⟨rfl, hb⟩)
        obtain ⟨⟨c0, c1, c2, c3, c4⟩, f0, f1, f2, f3, f4⟩ := (HBX.out.below hb (by simp)).five
        go_wp2
        go_ret
        exact ⟨ret_bool (by rw [HR.out, HR2.out]), HBL.out.trans (hb.mono (by simp))⟩
    · rw [if_neg h0] at hR
      have hne := empty_no h0
      generalize partsG tx = P at *
      obtain ⟨p, k⟩ := P
      simp only at hR hpa
      have HR := hid hR
      have hcs : (0 < p ∧ p = wd) ∨ (0 < p ∧ ¬ p = wd) ∨ p ≤ 0 := by omega
      clear hR h0 hs
      rcases hcs with ⟨g0, rfl⟩ | ⟨g0, g1⟩ | g0
      · have HR2 : Hid (decide (0 < p ∧ p = p) = true) := by unfold Hid; exact decide_eq_true ⟨g0, rfl⟩
        go_enter Tryd.func80, Tryd.ntmps80
        go_upto_region 3 with (go_at_call 87; refine (hlook _).mono ?_; rintro e w2 ⟨rfl, hb⟩)
        have d0 := HBX.out.below hb (by simp)
        have n2 := HBL.out.trans (hb.mono (by simp))
        obtain ⟨⟨c0, c1, c2, c3, c4⟩, f0, f1, f2, f3, f4⟩ := d0.five
        go_upto_region 6 with (go_at_call 88; refine (hpa _ n2).mono ?_; rintro e w3 ⟨rfl, hb3⟩)
        clear c0 c1 c2 c3 c4 f0 f1 f2 f3 f4
        obtain ⟨⟨c0, c1, c2, c3, c4⟩, f0, f1, f2, f3, f4⟩ := (d0.below hb3 d0.lt).five
        go_wp2
        go_ret
        exact ⟨ret_bool (by rw [HR.out, HR2.out]), n2.trans (hb3.mono n2.size)⟩
      · have HR2 : Hid (decide (0 < p ∧ p = wd) = false) := by unfold Hid; exact decide_eq_false (fun h => g1 h.2)
        have q1 : (p == wd) = false := by simp [g1]
        clear g1
        go_enter Tryd.func80, Tryd.ntmps80
        go_upto_region 3 with (go_at_call 87; refine (hlook _).mono ?_; rintro e w2 ⟨rfl, hb⟩)
        have d0 := HBX.out.below hb (by simp)
        have n2 := HBL.out.trans (hb.mono (by simp))
        obtain ⟨⟨c0, c1, c2, c3, c4⟩, f0, f1, f2, f3, f4⟩ := d0.five
        go_upto_region 6 with (go_at_call 88; refine (hpa _ n2).mono ?_; rintro e w3 ⟨rfl, hb3⟩)
        clear c0 c1 c2 c3 c4 f0 f1 f2 f3 f4
        obtain ⟨⟨c0, c1, c2, c3, c4⟩, f0, f1, f2, f3, f4⟩ := (d0.below hb3 d0.lt).five
        go_wp2
        go_ret
        exact ⟨ret_bool (by rw [HR.out, HR2.out]), n2.trans (hb3.mono n2.size)⟩
      · have HR2 : Hid (decide (0 < p ∧ p = wd) = false) := by unfold Hid; exact decide_eq_false (fun h => by omega)
        go_enter Tryd.func80, Tryd.ntmps80
        go_upto_region 3 with (go_at_call 87; refine (hlook _).mono ?_; rintro e w2 ⟨rfl, hb⟩)
        have d0 := HBX.out.below hb (by simp)
        have n2 := HBL.out.trans (hb.mono (by simp))
        obtain ⟨⟨c0, c1, c2, c3, c4⟩, f0, f1, f2, f3, f4⟩ := d0.five
        go_upto_region 6 with (go_at_call 88; refine (hpa _ n2).mono ?_; rintro e w3 ⟨rfl, hb3⟩)
        clear c0 c1 c2 c3 c4 f0 f1 f2 f3 f4
        obtain ⟨⟨c0, c1, c2, c3, c4⟩, f0, f1, f2, f3, f4⟩ := (d0.below hb3 d0.lt).five
        go_wp2
        go_ret
        exact ⟨ret_bool (by rw [HR.out, HR2.out]), n2.trans (hb3.mono n2.size)⟩
end Go.Proofs.YteebbmmgbjpihaaDoor

namespace Go.Proofs.YteebbmmgbjpihaaDoor
open Go.RowKit

def CePost (c : Ce) (n : Int) (e : Ending) : Prop := e = .returned (.tuple #[c.agg, .int .i64 n])

set_option maxRecDepth 100000 in
set_option maxHeartbeats 1000000 in
theorem blank_any (a : At) (w : World) :
    Calls Tryd.prog 70 #[a.agg] w fun e w' => e = .returned (Ce.agg ⟨⟨#[]⟩, 1, 0, a.bg, 0⟩) ∧ Below w.heap.size w w' := by
  obtain ⟨fg, bg, fl⟩ := a
  unfold At.agg
  go_enter Tryd.func70, Tryd.ntmps70
  go_wp2
  refine bodyPost_ret (v := Ce.agg ⟨⟨#[]⟩, 1, 0, bg, 0⟩) (by simp [results, Tryd.results70, go_sem, Ce.agg, Ce.cells]) rfl ⟨rfl, ?_⟩
  exact (below_alloc _ _).alloc (by simp) _
end Go.Proofs.YteebbmmgbjpihaaDoor
