/- Layer 6, the reference: which lines and grids may be. -/
import Derived.Test.YteebbmmgbjpihaaDoorGridOQ
import Derived.Test.YteebbmmgbjpihaaDoorCellZQ
namespace Go.Proofs.YteebbmmgbjpihaaDoor
open Go.RowKit

set_option maxRecDepth 100000 in
set_option maxHeartbeats 1000000 in
theorem rFits_any (cols : Int) (v : Value) (l : List Ce) (soft : Bool) (W : World) (hr : CeRow W v l) (ht : ∀ c ∈ l, c.tx.size ≤ 1000) (hn : l.length ≤ 1000000) :
    Calls Tryd.prog 22 #[.agg #[v, .bool soft], .int .i64 cols] W fun e w' => e = .returned (.bool (fitsB cols l)) ∧ Below W.heap.size W w' := by
  have hB := Box.new W 39 #[v, .bool soft]
  have hbel : Below W.heap.size W (W.alloc (.cells #[v, .bool soft] 39)) := below_alloc _ _
  obtain ⟨A, c0, rfl⟩ := hr.spell
  have hF : fitsB cols l = (decide ((l.length : Int) = cols) && (rightsL l && wholeL 1 l)) := rfl
  have HF' := hid hF
  have HN := hid hn
  have HB := hid hB
  have HBL := hid hbel
  obtain ⟨n, hnl⟩ : ∃ n, l.length = n := ⟨_, rfl⟩
  have HL := hid hnl
  rw [hnl] at hB hbel hn HB HBL hF
  rw [hnl]
  clear hF hnl hbel hB
  go_enter Tryd.func22, Tryd.ntmps22
  go_wp2
  go_loopw [10] (fun i wr => ∃ k : Nat, k ≤ n ∧ i = .int .i64 k ∧ Box wr W.heap.size 39 #[.slice A n c0, .bool soft] ∧ Below W.heap.size W wr ∧ FitRel l k) (fun i _ => n - (intOf i).toNat)
  case atStart => exact ⟨0, by omega, rfl, HB.out, HBL.out, FitRel.start l⟩
  case round =>
    obtain ⟨k, hk, rfl, hb, hbl, hrel'⟩ := hrel
    have HREL := hid hrel'
    clear hrel'
    by_cases hlt : k < n
    · have hki : (k : Int) < n := by omega
      have hkl : k < l.length := by rw [HL.out]; exact hlt
      obtain ⟨s1, s2, s3⟩ := HREL.out.step hkl
      have hx := List.getElem?_eq_getElem hkl
      have htx := ht l[k] (List.getElem_mem _)
      have hrb := hr.below hbl
      have hrb' := hrb
      obtain ⟨A', c', hA', _, hcell⟩ := hrb'
      cases hA'
      obtain ⟨g, o, rfl, hg, hcell⟩ := hcell (by intro e; subst e; simp at hkl)
      obtain ⟨p0, p1, p2, p3, p4⟩ := ccells (W := wr) (g := g) (o := o + k * 5) (e := l[k]) (fun i u hu => hcell k l[k] hx i u hu)
      have hri := rright_any l[k] (wr.alloc (.cells l[k].cells 44)) htx
      have hcb := fun W2 (hb2 : Below (wr.alloc (.cells l[k].cells 44)).heap.size (wr.alloc (.cells l[k].cells 44)) W2) => half_any _ l k W2 (hrb.below (Below.behind hb2)) hkl HN.out
      rw [HL.out] at hcb
      have hbx := Box.new wr 44 l[k].cells
      have HRB := hid hrb
      generalize l[k] = x at *
      obtain ⟨tx, wd, fg, bg, fl⟩ := x
      unfold Ce.agg Ce.cells at *
      simp only at *
      have HX := hid hbx
      obtain ⟨⟨a0, a1, a2, a3, a4⟩, _⟩ := hbx.five
      have hb1 := hb.below (below_alloc wr (.cells #[.string tx, .int .i64 wd, .int .i64 fg, .int .i64 bg, .int .i64 fl] 44)) hb.lt
      have hbl1 := hbl.alloc hbl.size (.cells #[.string tx, .int .i64 wd, .int .i64 fg, .int .i64 bg, .int .i64 fl] 44)
      have HB1 := hid hb1
      have HBL1 := hid hbl1
      have HXS := hid hx
      have HHC := hid hcell
      clear hbx hb1 hbl1 hx hcell hrb
      have hblt := hb.lt
      cases h1 : rightB ⟨tx, wd, fg, bg, fl⟩
      · have HE : Hid (fitsB cols l = false) := by unfold Hid; rw [HF'.out, s1 h1, Bool.and_false]
        rw [h1] at hri
        clear s1 s2 s3 h1 hcb
        go_wp2_with fail
        with_reducible refine hri.mono ?_
        rintro e w2 ⟨rfl, hb2⟩
        dsimp only
        go_wp2
        go_ret
        exact ⟨ret_bool HE.out.symm, HBL1.out.trans (hb2.mono HBL1.out.size)⟩
      · rw [h1] at hri
        cases h2 : halfB l k
        · have HE := hid (s3 h1 h2)
          rw [h2] at hcb
          clear s1 s2 s3 h1 h2
          go_wp2_with fail
          with_reducible refine hri.mono ?_
          rintro e w2 ⟨rfl, hb2⟩
          dsimp only
          have d1 := HB1.out.below hb2 (by simp <;> omega)
          obtain ⟨⟨c0, c1⟩, f0, f1⟩ := d1.two
          go_wp2_with fail
          with_reducible refine (hcb _ hb2).mono ?_
          rintro e w3 ⟨rfl, rfl⟩
          dsimp only
          go_wp2
          go_roundw
          case rel => exact ⟨k + 1, by omega, by go_num, d1, HBL1.out.trans (hb2.mono HBL1.out.size), HE.out⟩
          case measure => simp [intOf]; omega
        · have HE : Hid (fitsB cols l = false) := by unfold Hid; rw [HF'.out, s2 h2, Bool.and_false]
          rw [h2] at hcb
          clear s1 s2 s3 h1 h2
          go_wp2_with fail
          with_reducible refine hri.mono ?_
          rintro e w2 ⟨rfl, hb2⟩
          dsimp only
          have d1 := HB1.out.below hb2 (by simp <;> omega)
          obtain ⟨⟨c0, c1⟩, f0, f1⟩ := d1.two
          go_wp2_with fail
          with_reducible refine (hcb _ hb2).mono ?_
          rintro e w3 ⟨rfl, rfl⟩
          dsimp only
          go_wp2
          go_ret
          exact ⟨ret_bool HE.out.symm, HBL1.out.trans (hb2.mono HBL1.out.size)⟩
    · have hkm : k = n := by omega
      subst hkm
      have HE : Hid (fitsB cols l = decide ((k : Int) = cols)) := by
        have h := HREL.out
        rw [← HL.out] at h
        unfold Hid
        rw [HF'.out, h.stop, Bool.and_true, HL.out]
      obtain ⟨⟨c0', c1'⟩, f0', f1'⟩ := hb.two
      by_cases hlen : (k : Int) = cols
      · have hq : ((k : Int) == cols) = true := by simp [hlen]
        have HE2 : Hid (fitsB cols l = true) := by unfold Hid; rw [HE.out]; exact decide_eq_true hlen
        clear hlen
        go_wp2
        go_ret
        exact ⟨ret_bool HE2.out.symm, hbl⟩
      · have hq : ((k : Int) == cols) = false := by simp [hlen]
        have HE2 : Hid (fitsB cols l = false) := by unfold Hid; rw [HE.out]; exact decide_eq_false hlen
        clear hlen
        go_wp2
        go_ret
        exact ⟨ret_bool HE2.out.symm, hbl⟩
end Go.Proofs.YteebbmmgbjpihaaDoor
