/- Layer 6, the package: what is done with a line: whether it goes on; cells erased. -/
import Derived.Test.YtokefclleoaagaaDoorGridP
namespace Go.Proofs.YtokefclleoaagaaDoor
open Go.RowKit

set_option maxRecDepth 100000 in
set_option maxHeartbeats 1000000 in
theorem soft_chg (B : Nat) (w : World) (cs : List Ce) (soft soft' : Bool) (bs : Nat) (h1 : bs < B) (hbs : Box w bs 4 #[.bool soft']) :
    Chg 43 #[.pointer (some ⟨bs, 0, none⟩)] B w cs cs soft soft' := by
  refine ⟨fun _ _ => by kernel_rfl, fun W b v hbel hB hbox hcs => ?_⟩
  obtain ⟨A, c, rfl⟩ := hcs.spell
  have kc := hbs.below hbel h1
  have a0 := kc.cell 0
  obtain ⟨⟨c0, c1⟩, d0, d1⟩ := hbox.two
  have HX := hid hbox
  have HC := hid hcs
  clear hbox hcs
  show Calls _ _ #[.pointer (some ⟨b, 0, none⟩), .pointer (some ⟨bs, 0, none⟩)] _ _
  go_enter Tryd.func43, Tryd.ntmps43
  go_wp2
  go_end0
  exact ⟨rfl, ⟨_, HX.out.set (i := 1) _, HC.out.set HX.out (by decide) _⟩, (Below.refl b W).setCell (Nat.le_refl _) _⟩

set_option maxRecDepth 100000 in
set_option maxHeartbeats 1000000 in
theorem erase_chg (B : Nat) (w : World) (cs : List Ce) (soft : Bool) (o n : Nat) (a : At) (bf bt ba : Nat) (h1 : bf < B) (h2 : bt < B) (h3 : ba < B) (hbf : Box w bf 3 #[.int .i64 o]) (hbt : Box w bt 3 #[.int .i64 ((o + n : Nat) : Int)]) (hba : Box w ba 26 a.cells)
    (hc : o + n ≤ cs.length) (hn : cs.length ≤ 1000) (hpos : 0 < cs.length) :
    Chg 41 #[.pointer (some ⟨bf, 0, none⟩), .pointer (some ⟨bt, 0, none⟩), .pointer (some ⟨ba, 0, none⟩)] B w cs (eraseL cs o n a) soft soft := by
  refine ⟨fun _ _ => by kernel_rfl, fun W b v hbel hB hbox hcs => ?_⟩
  have kf := (hbf.below hbel h1).cell 0
  have kt := (hbt.below hbel h2).cell 0
  have ka := hba.below hbel h3
  obtain ⟨fg, bg, fl⟩ := a
  unfold At.cells at ka
  simp only at ka
  obtain ⟨⟨a0, a1, a2⟩, _⟩ := ka.three
  obtain ⟨⟨c0, c1⟩, d0, d1⟩ := hbox.two
  show Calls _ _ #[.pointer (some ⟨b, 0, none⟩), .pointer (some ⟨bf, 0, none⟩), .pointer (some ⟨bt, 0, none⟩), .pointer (some ⟨ba, 0, none⟩)] _ _
  have HX := hid hbox
  have hlt := hbox.lt
  obtain ⟨g, cap, rfl, hg, hcb⟩ := hcs.some (by intro e; rw [e] at hpos; simp at hpos)
  have hcap : cs.length ≤ cap := by obtain ⟨_, _, _, h, _⟩ := hcb; exact h
  obtain ⟨q, hq⟩ : ∃ q, o + n = q := ⟨_, rfl⟩
  rw [hq] at kt hc
  have hi1 : (0 : Int) ≤ (q : Int) := by omega
  have hi2 : (o : Int) ≤ (q : Int) := by omega
  have hi3 : (q : Int) ≤ cap := by omega
  have hqn : q - o = n := by omega
  have HQN := hid hqn
  have her : ∀ c, Calls Tryd.prog 42 #[.slice (if cap = o then some ⟨g, 0, none⟩ else some ⟨g, o * 5, none⟩) (q - o) c, At.agg ⟨fg, bg, fl⟩] W.drew (ErPost W.drew g cap (eraseL cs o n ⟨fg, bg, fl⟩)) := by
    intro c
    rw [hqn]
    by_cases hn0 : n = 0
    · subst hn0
      rw [eraseL_0]
      exact (erase_none _ c ⟨fg, bg, fl⟩ W.drew).mono fun _ _ ⟨he, hb⟩ => ⟨he, hcb.drew.below hb hcb.lt, Only.of_below hb⟩
    · rw [if_neg (by omega)]
      exact erase_some g o n c cap cs ⟨fg, bg, fl⟩ W.drew hcb.drew (by omega) (by omega)
  unfold At.agg at her
  simp only at her
  have hgb : ¬ g = b := by omega
  have hln : (eraseL cs o n ⟨fg, bg, fl⟩).length = cs.length := eraseL_length _ (by omega)
  obtain ⟨m, hm⟩ : ∃ m, cs.length = m := ⟨_, rfl⟩
  rw [hm] at c0 hc hcap hln
  have HM := hid hm
  have HLN := hid hln
  clear hm hln hq hqn hcs hbox ka
  by_cases hne : cap = o
  · rw [if_pos hne] at her
    have HER := hid her
    clear her
    subst hne
    go_enter Tryd.func41, Tryd.ntmps41
    go_wp2_with fail
    go_still_tail 8, (by kernel_rfl)
    change wpList _ _ _ _ _ W.drew
    go_wp2_with fail
    with_reducible refine (HER.out _).mono ?_
    rintro e w2 ⟨rfl, h2, h3⟩
    dsimp only
    have H2 := hid h2
    clear h2
    go_wp2
    go_end0
    exact ⟨rfl, ⟨_, HX.out.drew.only h3 (by omega), .inr ⟨g, cap, by rw [HLN.out, HM.out], hg, H2.out⟩⟩, (Below.refl b W).drew.trans (h3.below (by show b ≤ W.heap.size; omega) (by omega))⟩
  · rw [if_neg hne] at her
    have HER := hid her
    clear her
    go_enter Tryd.func41, Tryd.ntmps41
    go_wp2_with fail
    go_still_tail 8, (by kernel_rfl)
    change wpList _ _ _ _ _ W.drew
    go_wp2_with fail
    with_reducible refine (HER.out _).mono ?_
    rintro e w2 ⟨rfl, h2, h3⟩
    dsimp only
    have H2 := hid h2
    clear h2
    go_wp2
    go_end0
    exact ⟨rfl, ⟨_, HX.out.drew.only h3 (by omega), .inr ⟨g, cap, by rw [HLN.out, HM.out], hg, H2.out⟩⟩, (Below.refl b W).drew.trans (h3.below (by show b ≤ W.heap.size; omega) (by omega))⟩
end Go.Proofs.YtokefclleoaagaaDoor
