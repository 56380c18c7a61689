/- Layer 6, the package: cells mended in place; a line mended. -/
import Derived.Test.YtdpicbfpjnampaaDoorGridEQ
import Derived.Test.YtdpicbfpjnampaaDoorGridIQ
namespace Go.Proofs.YtdpicbfpjnampaaDoor
open Go.RowKit

set_option maxRecDepth 100000 in
theorem mend_none (A : Option Addr) (c : Nat) (W : World) :
    Calls Tryd.prog 76 #[.slice A 0 c] W fun e w' => e = .returned (.tuple #[]) ∧ Below W.heap.size W w' := by
  go_enter Tryd.func76, Tryd.ntmps76
  go_wp2
  go_loopw [6] (fun i wr => i = .int .i64 0 ∧ Below W.heap.size W wr) (fun _ _ => 0)
  case atStart => exact ⟨rfl, Below.refl _ _⟩
  case round =>
    obtain ⟨rfl, hb⟩ := hrel
    go_wp2
    go_end0
    exact ⟨rfl, hb⟩

def MendRel (W : World) (g cap : Nat) (l : List Ce) (k : Nat) (wr : World) : Prop :=
  ∃ done rest : List Ce, done.length = k ∧ k + rest.length = l.length ∧ done ++ mendL (lastW done) rest = mendL 1 l ∧ CBox wr g (done ++ rest) cap ∧ Only g W wr

set_option maxRecDepth 100000 in
set_option maxHeartbeats 1000000 in
theorem mend_some (g n cap : Nat) (l : List Ce) (W : World) (hb : CBox W g l cap) (hn : l.length = n) (hl : l.length ≤ 1000000) :
    Calls Tryd.prog 76 #[.slice (some ⟨g, 0, none⟩) n cap] W (ErPost W g cap (mendL 1 l)) := by
  have HC := hid hb
  have hg := hb.lt
  have HN := hid hn
  rw [hn] at hl
  clear hb hn
  go_enter Tryd.func76, Tryd.ntmps76
  go_wp2
  go_loopw [6] (fun i wr => ∃ k : Nat, k ≤ n ∧ i = .int .i64 k ∧ MendRel W g cap l k wr) (fun i _ => n - (intOf i).toNat)
  case atStart => exact ⟨0, by omega, rfl, [], l, rfl, by omega, rfl, HC.out, Only.refl _ _⟩
  case round =>
    obtain ⟨k, hk, rfl, done, rest, hd, hr, hm, hcb, hon⟩ := hrel
    have hgr := Nat.lt_of_lt_of_le hg hon.size
    by_cases hlt : k < n
    · have hki : (k : Int) < n := by omega
      obtain ⟨x, r, rfl⟩ : ∃ x r, rest = x :: r := by
        cases rest with
        | nil => have := HN.out; simp at hr; omega
        | cons x r => exact ⟨x, r, rfl⟩
      have hkl : k < (done ++ x :: r).length := by simp; omega
      obtain ⟨e, he, ⟨k0, k1, k2, k3, k4⟩, f0, f1, f2, f3, f4⟩ := hcb.five (k := k) hkl (q := k * 5) rfl
      have hex : e = x := by
        rw [← hd, List.getElem?_append_right (by omega)] at he
        simpa using he.symm
      subst hex
      have hdn : (done ++ e :: r).length = n := by have := HN.out; rw [List.length_append]; omega
      have hb1 := hcb.below (below_alloc wr (.cells e.cells 28)) hgr
      have hc1 := cut_any _ (done ++ e :: r) k _ hb1.row (by rw [hdn]; exact hlt) (by rw [hdn]; exact hl)
      rw [hdn] at hc1
      rw [← hd, half_at, hd] at hc1
      have hms := mend_step done e r
      rw [hm] at hms
      have hbl := blank_any e.at
      rw [blk_agg] at hbl
      have hbx := Box.new wr 28 e.cells
      have HS := hid hms
      have HM := hid hm
      have HR := hid hr
      have HD := hid hd
      have HDN := hid hdn
      have HB := hid hb1
      have HL := hid hkl
      have HX := hid hbx
      clear hms hm hr hd hdn hb1 hkl hbx he
      obtain ⟨tx, wd, fg, bg, fl⟩ := e
      unfold At.agg Ce.at at hbl
      unfold Ce.cells at hc1 HX
      simp only at *
      obtain ⟨⟨a0, a1, a2, a3, a4⟩, _⟩ := HX.out.five
      cases hh : hf (lastW done) ⟨tx, wd, fg, bg, fl⟩ r
      · rw [hh] at hc1
        have HH := hid hh
        clear hh hbl
        go_wp2_with fail
        with_reducible refine hc1.mono ?_
        rintro e2 w2 ⟨rfl, rfl⟩
        dsimp only
        go_wp2
        go_roundw
        case rel =>
          refine ⟨k + 1, by omega, by go_num, done ++ [⟨tx, wd, fg, bg, fl⟩], r, by have := HD.out; simp; omega, by have := HR.out; simp at this; omega, ?_, ?_, hon.trans (Only.of_below (below_alloc _ _))⟩
          · have h := HS.out
            rw [HH.out, if_neg (by simp)] at h
            exact h.symm
          · rw [List.append_assoc]; exact HB.out
        case measure => simp [intOf]; omega
      · rw [hh] at hc1
        have HH := hid hh
        obtain ⟨x, hx⟩ : ∃ x, blkC ⟨fg, bg, fl⟩ = x := ⟨_, rfl⟩
        rw [hx] at hbl
        have HY := hid hx
        unfold Ce.agg Ce.cells at hbl
        clear hh hx
        go_wp2_with fail
        with_reducible refine hc1.mono ?_
        rintro e2 w2 ⟨rfl, rfl⟩
        dsimp only
        go_wp2_with fail
        with_reducible refine (hbl _).mono ?_
        rintro e2 w2 ⟨rfl, hb2⟩
        dsimp only
        obtain ⟨old, _, ⟨q0, q1, q2, q3, q4⟩, p0, p1, p2, p3, p4⟩ := (HB.out.below hb2 (by simp; omega)).five (k := k) HL.out (q := k * 5) rfl
        clear k0 k1 k2 k3 k4 f0 f1 f2 f3 f4
        go_wp2
        go_roundw
        case rel =>
          have h5 := (HB.out.below hb2 (by simp; omega)).set5 (k := k) HL.out x
          refine ⟨k + 1, by omega, by go_num, done ++ [x], r, by have := HD.out; simp; omega, by have := HR.out; simp at this; omega, ?_, ?_, Only.set5 ((hon.trans (Only.of_below (below_alloc _ _))).trans (Only.of_below hb2)) x⟩
          · have h := HS.out
            rw [HH.out, if_pos rfl] at h
            have hy := HY.out
            unfold Ce.at at h
            simp only at h
            rw [hy] at h
            exact h.symm
          · have e : (done ++ ⟨tx, wd, fg, bg, fl⟩ :: r).set k x = done ++ [x] ++ r := by
              have hd := HD.out
              rw [← hd, List.set_append_right (h := Nat.le_refl _)]
              simp
            rw [← e]
            exact h5
        case measure => simp [intOf]; omega
    · have hkm : k = n := by omega
      subst hkm
      have hr0 : rest = [] := by have := HN.out; apply List.length_eq_zero_iff.1; omega
      subst hr0
      rw [mendL, List.append_nil] at hm
      rw [List.append_nil] at hcb
      rw [hm] at hcb
      have HCB := hid hcb
      clear hm hcb
      go_wp2
      go_end0
      exact ⟨rfl, HCB.out, hon⟩
end Go.Proofs.YtdpicbfpjnampaaDoor
