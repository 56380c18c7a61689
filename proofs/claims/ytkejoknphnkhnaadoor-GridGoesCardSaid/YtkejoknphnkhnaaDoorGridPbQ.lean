/- Layer 6, the package: what is done with a line: a letter put. -/
/- Layer 6, the package: what is done with a line: whether it goes on; cells erased. -/
import Derived.Test.YtkejoknphnkhnaaDoorGridOQ
import Derived.StillTailTactics
import Derived.IntWalk
namespace Go.Proofs.YtkejoknphnkhnaaDoor
open Go.RowKit

theorem CSl.some {W : World} {base : Nat} {v : Value} {l : List Ce} (h : CSl W base v l) (hl : l ≠ []) : ∃ g cap, v = .slice (some ⟨g, 0, none⟩) l.length cap ∧ base ≤ g ∧ CBox W g l cap := by
  rcases h with ⟨e, _⟩ | h
  · exact absurd e hl
  · exact h
/-- What putting a letter does with a line's cells, ahead of mending. -/
def putL (l : List Ce) (col : Nat) (c : Ce) : List Ce := if c.wd = 2 then (l.set col c).set (col + 1) (rhC c.at) else l.set col c

set_option maxRecDepth 100000 in
set_option maxHeartbeats 1000000 in
theorem put_chg (B : Nat) (w : World) (cs : List Ce) (soft : Bool) (col : Nat) (c : Ce) (bc bq : Nat) (h1 : bc < B) (h2 : bq < B) (hbc : Box w bc 66 c.cells) (hbq : Box w bq 3 #[.int .i64 col])
    (hc : col < cs.length) (hw : c.wd = 2 → col + 1 < cs.length) (hn : cs.length ≤ 1000) :
    Chg 77 #[.pointer (some ⟨bc, 0, none⟩), .pointer (some ⟨bq, 0, none⟩)] B w cs (putL cs col c) soft soft := by
  refine ⟨fun _ _ => by kernel_rfl, fun W b v hbel hB hbox hcs => ?_⟩
  obtain ⟨g, cap, rfl, hg, hcb⟩ := hcs.some (by intro e; rw [e] at hc; simp at hc)
  have kc := hbc.below hbel h1
  have kq := hbq.below hbel h2
  obtain ⟨tx, wd, fg, bg, fl⟩ := c
  unfold Ce.cells at kc
  simp only at kc hw
  obtain ⟨⟨a0, a1, a2, a3, a4⟩, _⟩ := kc.five
  have b0 := kq.cell 0
  obtain ⟨⟨c0, c1⟩, d0, d1⟩ := hbox.two
  obtain ⟨old, ho, ⟨e0, e1, e2, e3, e4⟩, f0, f1, f2, f3, f4⟩ := hcb.five hc (q := col * 5) rfl
  have hci : (col : Int) < cs.length := by omega
  have hgb : ¬ g = b := by omega
  have hs1 : CBox (set5 W g (col * 5) ⟨tx, wd, fg, bg, fl⟩).drew g (cs.set col ⟨tx, wd, fg, bg, fl⟩) cap := (hcb.set5 hc ⟨tx, wd, fg, bg, fl⟩).drew
  have ho1 : Only g W (set5 W g (col * 5) ⟨tx, wd, fg, bg, fl⟩).drew := (Only.set5 (Only.refl g W) _).drew
  show Calls _ _ #[.pointer (some ⟨b, 0, none⟩), .pointer (some ⟨bc, 0, none⟩), .pointer (some ⟨bq, 0, none⟩)] _ _
  have hlt := hbox.lt
  by_cases h2' : wd = 2
  · subst h2'
    have hp : putL cs col ⟨tx, 2, fg, bg, fl⟩ = (cs.set col ⟨tx, 2, fg, bg, fl⟩).set (col + 1) (rhC ⟨fg, bg, fl⟩) := by unfold putL; rw [if_pos rfl]; rfl
    unfold rhC at hp
    simp only at hp
    have hw2 := hw rfl
    have hkc1 := kc.only ho1 (by omega)
    have hkq1 := kq.only ho1 (by omega)
    have hbx1 := hbox.only ho1 (by omega)
    have hwi : (col : Int) + 1 < cs.length := by omega
    have hl2 : (cs.set col ⟨tx, 2, fg, bg, fl⟩).length = cs.length := List.length_set
    generalize hc2 : cs.set col ⟨tx, 2, fg, bg, fl⟩ = cs2 at *
    have HS1 := hid hs1
    have HO1 := hid ho1
    have HP := hid hp
    have HK1 := hid hkc1
    have HK2 := hid hkq1
    obtain ⟨n, hnl⟩ : ∃ n, cs.length = n := ⟨_, rfl⟩
    rw [hnl] at c0 hc hci hwi hw2 hl2 hbx1 hn
    have HNL := hid hnl
    have HL2 := hid hl2
    have HK3 := hid hbx1
    clear hcs hbox
    clear hs1 ho1 hp hl2 hkc1 hkq1 hbx1 ho hnl hc2 hw
    go_enter Tryd.func77, Tryd.ntmps77
    go_wp2_with fail
    go_still_tail 7, (by kernel_rfl)
    change wpList _ _ _ _ _ W.drew
    go_upto_region 2 with fail
    change Code.wp _ _ _ _ (set5 W g (col * 5) ⟨tx, 2, fg, bg, fl⟩).drew
    generalize (set5 W g (col * 5) ⟨tx, 2, fg, bg, fl⟩).drew = W1 at *
    clear a0 a1 a2 a3 a4 b0 c0 c1 d0 d1 e0 e1 e2 e3 e4 f0 f1 f2 f3 f4 kc kq hcb
    obtain ⟨⟨a0, a1, a2, a3, a4⟩, _⟩ := HK1.out.five
    have b0 := HK2.out.cell 0
    obtain ⟨⟨c0, c1⟩, d0, d1⟩ := HK3.out.two
    obtain ⟨old2, _, ⟨e0, e1, e2, e3, e4⟩, f0, f1, f2, f3, f4⟩ := HS1.out.five (k := col + 1) (by rw [HL2.out]; exact hw2) (q := (col + 1) * 5) rfl
    have hx0 : (0 : Int) ≤ (col : Int) + 1 := by omega
    have hx1 : ((col : Int) + 1).toNat = col + 1 := by omega
    have hx2 : IntKind.i64.wrap ((col : Int) + 1) = (col : Int) + 1 := IntWalk.i64_in _ (by omega)
    go_wp2_with fail
    go_still_tail 10, (by kernel_rfl)
    change wpList _ _ _ _ _ W1.drew
    go_wp2
    have h5 := (HS1.out.set5 (k := col + 1) (by rw [HL2.out]; exact hw2) (rhC ⟨fg, bg, fl⟩)).drew
    have o5 := (HO1.out.set5 (o := (col + 1) * 5) (rhC ⟨fg, bg, fl⟩)).drew
    have o6 := ((Only.refl g W1).set5 (o := (col + 1) * 5) (rhC ⟨fg, bg, fl⟩)).drew
    unfold rhC at h5 o5 o6
    simp only at h5 o5 o6
    have HH5 := hid h5
    have HO5 := hid o5
    have HO6 := hid o6
    clear h5 o5 o6
    go_end0
    refine ⟨rfl, ⟨_, HK3.out.only HO6.out (by omega), .inr ⟨g, cap, ?_, hg, ?_⟩⟩, HO5.out.below (by omega) (by omega)⟩
    · rw [HP.out, List.length_set, HL2.out]
    · rw [HP.out]; exact HH5.out
  · have hp : putL cs col ⟨tx, wd, fg, bg, fl⟩ = cs.set col ⟨tx, wd, fg, bg, fl⟩ := by unfold putL; rw [if_neg h2']
    have q2 : (wd == 2) = false := by simp [h2']
    have HS1 := hid hs1
    have HO1 := hid ho1
    have HP := hid hp
    have HK3 := hid hbox
    obtain ⟨n, hnl⟩ : ∃ n, cs.length = n := ⟨_, rfl⟩
    have HNL := hid hnl
    rw [hnl] at c0 hc hci
    clear hs1 ho1 hp ho hnl hw hcb h2' hcs hbox
    go_enter Tryd.func77, Tryd.ntmps77
    go_wp2_with fail
    go_still_tail 7, (by kernel_rfl)
    change wpList _ _ _ _ _ W.drew
    go_wp2
    go_end0
    refine ⟨rfl, ⟨_, HK3.out.only HO1.out (by omega), .inr ⟨g, cap, ?_, hg, ?_⟩⟩, HO1.out.below (by omega) (by omega)⟩
    · rw [HP.out, List.length_set, HNL.out]
    · rw [HP.out]; exact HS1.out
end Go.Proofs.YtkejoknphnkhnaaDoor

namespace Go.Proofs.YtkejoknphnkhnaaDoor
open Go.RowKit

end Go.Proofs.YtkejoknphnkhnaaDoor
