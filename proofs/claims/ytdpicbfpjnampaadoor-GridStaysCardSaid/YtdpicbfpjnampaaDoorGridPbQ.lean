/- Layer 6, the package: what is done with a line: a letter put. -/
/- Layer 6, the package: what is done with a line: whether it goes on; cells erased. -/
import Derived.Test.YtdpicbfpjnampaaDoorGridOQ
import Derived.StillTailTactics
import Derived.IntWalk
namespace Go.Proofs.YtdpicbfpjnampaaDoor
open Go.RowKit

theorem CSl.some {W : World} {base : Nat} {v : Value} {l : List Ce} (h : CSl W base v l) (hl : l ≠ []) : ∃ g cap, v = .slice (some ⟨g, 0, none⟩) l.length cap ∧ base ≤ g ∧ CBox W g l cap := by
  rcases h with ⟨e, _⟩ | h
  · exact absurd e hl
  · exact h
/-- What putting a letter does with a line's cells, ahead of mending. -/
def putL (l : List Ce) (col : Nat) (c : Ce) : List Ce := if c.wd = 2 then (l.set col c).set (col + 1) (rhC c.at) else l.set col c

set_option maxRecDepth 100000 in
set_option maxHeartbeats 1000000 in
theorem put_chg (B : Nat) (w : World) (cs : List Ce) (soft : Bool) (col : Nat) (c : Ce) (bc bq : Nat) (h1 : bc < B) (h2 : bq < B) (hbc : Box w bc 28 c.cells) (hbq : Box w bq 3 #[.int .i64 col])
    (hc : col < cs.length) (hw : c.wd = 2 → col + 1 < cs.length) (hn : cs.length ≤ 1000) :
    Chg 48 #[.pointer (some ⟨bc, 0, none⟩), .pointer (some ⟨bq, 0, none⟩)] B w cs (putL cs col c) soft soft := by
  refine ⟨fun _ _ => by kernel_rfl, fun W b v hbel hB hbox hcs => ?_⟩
  obtain ⟨g, cap, rfl, hg, hcb⟩ := hcs.some (by intro e; rw [e] at hc; simp at hc)
  have kc := hbc.below hbel h1
  have kq := hbq.below hbel h2
  obtain ⟨tx, wd, fg, bg, fl⟩ := c
  unfold Ce.cells at kc
  simp only at kc hw
  obtain ⟨⟨a0, a1, a2, a3, a4⟩, _⟩ := kc.five
  have b0 := kq.cell 0
  obtain ⟨⟨c0, c1⟩, d0, d1⟩ := hbox.two
  obtain ⟨old, ho, ⟨e0, e1, e2, e3, e4⟩, f0, f1, f2, f3, f4⟩ := hcb.five hc (q := col * 5) rfl
  have hci : (col : Int) < cs.length := by omega
  have hgb : ¬ g = b := by omega
  have hs1 : CBox (set5 W g (col * 5) ⟨tx, wd, fg, bg, fl⟩).drew g (cs.set col ⟨tx, wd, fg, bg, fl⟩) cap := (hcb.set5 hc ⟨tx, wd, fg, bg, fl⟩).drew
  have ho1 : Only g W (set5 W g (col * 5) ⟨tx, wd, fg, bg, fl⟩).drew := (Only.set5 (Only.refl g W) _).drew
  show Calls _ _ #[.pointer (some ⟨b, 0, none⟩), .pointer (some ⟨bc, 0, none⟩), .pointer (some ⟨bq, 0, none⟩)] _ _
  have hlt := hbox.lt
  by_cases h2' : wd = 2
  · subst h2'
    have hp : putL cs col ⟨tx, 2, fg, bg, fl⟩ = (cs.set col ⟨tx, 2, fg, bg, fl⟩).set (col + 1) (rhC ⟨fg, bg, fl⟩) := by unfold putL; rw [if_pos rfl]; rfl
    unfold rhC at hp
    simp only at hp
    have hw2 := hw rfl
    have hkc1 := kc.only ho1 (by omega)
    have hkq1 := kq.only ho1 (by omega)
    have hbx1 := hbox.only ho1 (by omega)
    have hwi : (col : Int) + 1 < cs.length := by omega
    have hl2 : (cs.set col ⟨tx, 2, fg, bg, fl⟩).length = cs.length := List.length_set
    generalize hc2 : cs.set col ⟨tx, 2, fg, bg, fl⟩ = cs2 at *
    have HS1 := hid hs1
    have HO1 := hid ho1
    have HP := hid hp
    have HK1 := hid hkc1
    have HK2 := hid hkq1
    obtain ⟨n, hnl⟩ : ∃ n, cs.length = n := ⟨_, rfl⟩
    rw [hnl] at c0 hc hci hwi hw2 hl2 hbx1 hn
    have HNL := hid hnl
    have HL2 := hid hl2
    have HK3 := hid hbx1
    clear hcs hbox
    clear hs1 ho1 hp hl2 hkc1 hkq1 hbx1 ho hnl hc2 hw
    go_enter Tryd.func48, Tryd.ntmps48
    go_wp2_with fail
    go_still_tail 7, (by kernel_rfl)
    change wpList _ _ _ _ _ W.drew
    go_upto_region 2 with fail
    change Code.wp _ _ _ _ (set5 W g (col * 5) ⟨tx, 2, fg, bg, fl⟩).drew
    generalize (set5 W g (col * 5) ⟨tx, 2, fg, bg, fl⟩).drew = W1 at *
    clear a0 a1 a2 a3 a4 b0 c0 c1 d0 d1 e0 e1 e2 e3 e4 f0 f1 f2 f3 f4 kc kq hcb
    obtain ⟨⟨a0, a1, a2, a3, a4⟩, _⟩ := HK1.out.five
    have b0 := HK2.out.cell 0
    obtain ⟨⟨c0, c1⟩, d0, d1⟩ := HK3.out.two
    obtain ⟨old2, _, ⟨e0, e1, e2, e3, e4⟩, f0, f1, f2, f3, f4⟩ := HS1.out.five (k := col + 1) (by rw [HL2.out]; exact hw2) (q := (col + 1) * 5) rfl
    have hx0 : (0 : Int) ≤ (col : Int) + 1 := by omega
    have hx1 : ((col : Int) + 1).toNat = col + 1 := by omega
    have hx2 : IntKind.i64.wrap ((col : Int) + 1) = (col : Int) + 1 := IntWalk.i64_in _ (by omega)
    go_wp2_with fail
    go_still_tail 10, (by kernel_rfl)
    change wpList _ _ _ _ _ W1.drew
    go_wp2
    have h5 := (HS1.out.set5 (k := col + 1) (by rw [HL2.out]; exact hw2) (rhC ⟨fg, bg, fl⟩)).drew
    have o5 := (HO1.out.set5 (o := (col + 1) * 5) (rhC ⟨fg, bg, fl⟩)).drew
    have o6 := ((Only.refl g W1).set5 (o := (col + 1) * 5) (rhC ⟨fg, bg, fl⟩)).drew
    unfold rhC at h5 o5 o6
    simp only at h5 o5 o6
    have HH5 := hid h5
    have HO5 := hid o5
    have HO6 := hid o6
    clear h5 o5 o6
    go_end0
    refine ⟨rfl, ⟨_, HK3.out.only HO6.out (by omega), .inr ⟨g, cap, ?_, hg, ?_⟩⟩, HO5.out.below (by omega) (by omega)⟩
    · rw [HP.out, List.length_set, HL2.out]
    · rw [HP.out]; exact HH5.out
  · have hp : putL cs col ⟨tx, wd, fg, bg, fl⟩ = cs.set col ⟨tx, wd, fg, bg, fl⟩ := by unfold putL; rw [if_neg h2']
    have q2 : (wd == 2) = false := by simp [h2']
    have HS1 := hid hs1
    have HO1 := hid ho1
    have HP := hid hp
    have HK3 := hid hbox
    obtain ⟨n, hnl⟩ : ∃ n, cs.length = n := ⟨_, rfl⟩
    have HNL := hid hnl
    rw [hnl] at c0 hc hci
    clear hs1 ho1 hp ho hnl hw hcb h2' hcs hbox
    go_enter Tryd.func48, Tryd.ntmps48
    go_wp2_with fail
    go_still_tail 7, (by kernel_rfl)
    change wpList _ _ _ _ _ W.drew
    go_wp2
    go_end0
    refine ⟨rfl, ⟨_, HK3.out.only HO1.out (by omega), .inr ⟨g, cap, ?_, hg, ?_⟩⟩, HO1.out.below (by omega) (by omega)⟩
    · rw [HP.out, List.length_set, HNL.out]
    · rw [HP.out]; exact HS1.out
end Go.Proofs.YtdpicbfpjnampaaDoor

namespace Go.Proofs.YtdpicbfpjnampaaDoor
open Go.RowKit

set_option maxRecDepth 100000 in
set_option maxHeartbeats 1000000 in
theorem soft_chg (B : Nat) (w : World) (cs : List Ce) (soft soft' : Bool) (bs : Nat) (h1 : bs < B) (hbs : Box w bs 4 #[.bool soft']) :
    Chg 52 #[.pointer (some ⟨bs, 0, none⟩)] B w cs cs soft soft' := by
  refine ⟨fun _ _ => by kernel_rfl, fun W b v hbel hB hbox hcs => ?_⟩
  obtain ⟨A, c, rfl⟩ := hcs.spell
  have kc := hbs.below hbel h1
  have a0 := kc.cell 0
  obtain ⟨⟨c0, c1⟩, d0, d1⟩ := hbox.two
  have HX := hid hbox
  have HC := hid hcs
  clear hbox hcs
  show Calls _ _ #[.pointer (some ⟨b, 0, none⟩), .pointer (some ⟨bs, 0, none⟩)] _ _
  go_enter Tryd.func52, Tryd.ntmps52
  go_wp2
  go_end0
  exact ⟨rfl, ⟨_, HX.out.set (i := 1) _, HC.out.set HX.out (by decide) _⟩, (Below.refl b W).setCell (Nat.le_refl _) _⟩

set_option maxRecDepth 100000 in
set_option maxHeartbeats 1000000 in
theorem erase_chg (B : Nat) (w : World) (cs : List Ce) (soft : Bool) (o n : Nat) (a : At) (bf bt ba : Nat) (h1 : bf < B) (h2 : bt < B) (h3 : ba < B) (hbf : Box w bf 3 #[.int .i64 o]) (hbt : Box w bt 3 #[.int .i64 ((o + n : Nat) : Int)]) (hba : Box w ba 26 a.cells)
    (hc : o + n ≤ cs.length) (hn : cs.length ≤ 1000) (hpos : 0 < cs.length) :
    Chg 50 #[.pointer (some ⟨bf, 0, none⟩), .pointer (some ⟨bt, 0, none⟩), .pointer (some ⟨ba, 0, none⟩)] B w cs (eraseL cs o n a) soft soft := by
  refine ⟨fun _ _ => by kernel_rfl, fun W b v hbel hB hbox hcs => ?_⟩
  have kf := (hbf.below hbel h1).cell 0
  have kt := (hbt.below hbel h2).cell 0
  have ka := hba.below hbel h3
  obtain ⟨fg, bg, fl⟩ := a
  unfold At.cells at ka
  simp only at ka
  obtain ⟨⟨a0, a1, a2⟩, _⟩ := ka.three
  obtain ⟨⟨c0, c1⟩, d0, d1⟩ := hbox.two
  show Calls _ _ #[.pointer (some ⟨b, 0, none⟩), .pointer (some ⟨bf, 0, none⟩), .pointer (some ⟨bt, 0, none⟩), .pointer (some ⟨ba, 0, none⟩)] _ _
  have HX := hid hbox
  have hlt := hbox.lt
  obtain ⟨g, cap, rfl, hg, hcb⟩ := hcs.some (by intro e; rw [e] at hpos; simp at hpos)
  have hcap : cs.length ≤ cap := by obtain ⟨_, _, _, h, _⟩ := hcb; exact h
  obtain ⟨q, hq⟩ : ∃ q, o + n = q := ⟨_, rfl⟩
  rw [hq] at kt hc
  have hi1 : (0 : Int) ≤ (q : Int) := by omega
  have hi2 : (o : Int) ≤ (q : Int) := by omega
  have hi3 : (q : Int) ≤ cap := by omega
  have hqn : q - o = n := by omega
  have HQN := hid hqn
  have her : ∀ c, Calls Tryd.prog 51 #[.slice (if cap = o then some ⟨g, 0, none⟩ else some ⟨g, o * 5, none⟩) (q - o) c, At.agg ⟨fg, bg, fl⟩] W.drew (ErPost W.drew g cap (eraseL cs o n ⟨fg, bg, fl⟩)) := by
    intro c
    rw [hqn]
    by_cases hn0 : n = 0
    · subst hn0
      rw [eraseL_0]
      exact (erase_none _ c ⟨fg, bg, fl⟩ W.drew).mono fun _ _ ⟨he, hb⟩ => ⟨he, hcb.drew.below hb hcb.lt, Only.of_below hb⟩
    · rw [if_neg (by omega)]
      exact erase_some g o n c cap cs ⟨fg, bg, fl⟩ W.drew hcb.drew (by omega) (by omega)
  unfold At.agg at her
  simp only at her
  have hgb : ¬ g = b := by omega
  have hln : (eraseL cs o n ⟨fg, bg, fl⟩).length = cs.length := eraseL_length _ (by omega)
  obtain ⟨m, hm⟩ : ∃ m, cs.length = m := ⟨_, rfl⟩
  rw [hm] at c0 hc hcap hln
  have HM := hid hm
  have HLN := hid hln
  clear hm hln hq hqn hcs hbox ka
  by_cases hne : cap = o
  · rw [if_pos hne] at her
    have HER := hid her
    clear her
    subst hne
    go_enter Tryd.func50, Tryd.ntmps50
    go_wp2_with fail
    go_still_tail 8, (by kernel_rfl)
    change wpList _ _ _ _ _ W.drew
    go_wp2_with fail
    with_reducible refine (HER.out _).mono ?_
    rintro e w2 ⟨rfl, h2, h3⟩
    dsimp only
    have H2 := hid h2
    clear h2
    go_wp2
    go_end0
    exact ⟨rfl, ⟨_, HX.out.drew.only h3 (by omega), .inr ⟨g, cap, by rw [HLN.out, HM.out], hg, H2.out⟩⟩, (Below.refl b W).drew.trans (h3.below (by show b ≤ W.heap.size; omega) (by omega))⟩
  · rw [if_neg hne] at her
    have HER := hid her
    clear her
    go_enter Tryd.func50, Tryd.ntmps50
    go_wp2_with fail
    go_still_tail 8, (by kernel_rfl)
    change wpList _ _ _ _ _ W.drew
    go_wp2_with fail
    with_reducible refine (HER.out _).mono ?_
    rintro e w2 ⟨rfl, h2, h3⟩
    dsimp only
    have H2 := hid h2
    clear h2
    go_wp2
    go_end0
    exact ⟨rfl, ⟨_, HX.out.drew.only h3 (by omega), .inr ⟨g, cap, by rw [HLN.out, HM.out], hg, H2.out⟩⟩, (Below.refl b W).drew.trans (h3.below (by show b ≤ W.heap.size; omega) (by omega))⟩
end Go.Proofs.YtdpicbfpjnampaaDoor
