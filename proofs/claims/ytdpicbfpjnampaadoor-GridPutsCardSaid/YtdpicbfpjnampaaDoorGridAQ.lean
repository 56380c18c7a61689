/- Layer 6: a new grid; what is put is there. -/
import Derived.Test.YtdpicbfpjnampaaDoorGridBQ
namespace Go.Proofs.YtdpicbfpjnampaaDoor
open Go.RowKit

theorem hf_one (p : Int) (c : Ce) (r : List Ce) (h : c.wd = 1) : hf p c r = false := by
  unfold hf
  rw [if_neg (by omega), if_neg (by omega)]
theorem whole_ones : ∀ (l : List Ce) (p : Int), (∀ c ∈ l, c.wd = 1) → wholeL p l = true
  | [], _, _ => rfl
  | c :: r, p, h => by
    unfold wholeL
    rw [hf_one p c r (h c (by simp)), whole_ones r _ (fun x hx => h x (by simp [hx]))]; rfl
theorem fits_bare {a : At} (h : lookB a = true) (n : Nat) : fitsB n (List.replicate n (blkC a)) = true := by
  refine fits_iff.2 ⟨by simp, rights_iff.2 ?_, whole_ones _ _ ?_⟩
  · intro c hc
    rw [(List.mem_replicate.1 hc).2]
    exact right_blk h
  · intro c hc
    rw [(List.mem_replicate.1 hc).2]
    rfl
theorem allB_map (cols : Int) (lv : List (Ln × Value)) : allB cols lv = (lv.map Prod.fst).all fun l => fitsB cols l.cs := by
  unfold allB
  rw [List.all_map]
  rfl
def NewPost (W : World) (rows cols : Nat) (e : Ending) (w' : World) : Prop :=
  ∃ v lv, e = .returned (.tuple #[.agg #[.int .i64 cols, v], .int .i64 0]) ∧ lv.map Prod.fst = List.replicate rows (bareN cols ⟨0, 0, 0⟩) ∧ LSl w' W.heap.size v lv ∧ (∀ x ∈ lv, CSl w' W.heap.size x.2 x.1.cs) ∧ Below W.heap.size W w'
set_option maxRecDepth 100000 in
set_option maxHeartbeats 1000000 in
theorem new_yes (cols rows : Nat) (W : World) (h : sizeB cols rows = true) : Calls Tryd.prog 55 #[.int .i64 cols, .int .i64 rows] W (NewPost W rows cols) := by
  have hz := h
  unfold sizeB at hz
  rw [Bool.and_eq_true, decide_eq_true_iff, decide_eq_true_iff] at hz
  have hsz := fun W => size_any cols rows W
  rw [h] at hsz
  have hbl := blankLines_any rows cols ⟨0, 0, 0⟩ (W.alloc (.cells #[.int .i64 0, .slice none 0 0] 24)) (by omega) (by omega)
  have hbx := Box.new W 24 #[.int .i64 0, .slice none 0 0]
  unfold At.agg at hbl
  have HB := hid hbl
  have HX := hid hbx
  clear hbl hbx h hz
  go_enter Tryd.func55, Tryd.ntmps55
  go_wp2_with fail
  with_reducible refine (hsz _).mono ?_
  rintro e w2 ⟨rfl, rfl⟩
  dsimp only
  go_wp2_with fail
  with_reducible refine HB.out.mono ?_
  rintro e w2 ⟨v, lv, rfl, hm, hl, hc, hb⟩
  dsimp only
  have bx := HX.out.below hb (by simp)
  obtain ⟨A5, c5, hs5⟩ := hl.spell
  subst hs5
  obtain ⟨⟨k0, k1⟩, f0, f1⟩ := bx.two
  have HM := hid hm
  have HL := hid hl
  have HC := hid hc
  have HBX := hid bx
  have HBB := hid (Below.behind hb)
  clear hm hl hc bx hb
  go_wp2
  refine bodyPost_ret (v := .tuple #[.agg #[.int .i64 cols, .slice A5 lv.length c5], .int .i64 0]) (by simp [results, Tryd.results55, go_sem, k0, k1]) rfl ⟨_, lv, rfl, HM.out, ?_, ?_, ?_⟩
  · exact ((HL.out.set HBX.out (by decide) (i := 0) _).set (HBX.out.set _) (by decide) (i := 1) _).mono (by simp)
  · exact fun x hx => (((HC.out x hx).set HBX.out (by decide) (i := 0) _).set (HBX.out.set _) (by decide) (i := 1) _).mono (by simp)
  · exact (HBB.out.setCell (p := ⟨W.heap.size, 0, none⟩) (Nat.le_refl _) _).setCell (p := ⟨W.heap.size, 1, none⟩) (Nat.le_refl _) _

def xC : Ce := ⟨⟨#[120]⟩, 1, 0, 0, 0⟩
theorem xC_right : rightB xC = true := by decide +kernel
theorem alive_lines : mendL 1 (putL (List.replicate 3 (blkC ⟨0, 0, 0⟩)) 2 xC) = [blkC ⟨0, 0, 0⟩, blkC ⟨0, 0, 0⟩, xC] := by rfl
theorem lv_two {lv : List (Ln × Value)} {a b : Ln} (h : lv.map Prod.fst = [a, b]) : ∃ v u, lv = [(a, v), (b, u)] := by
  match lv, h with
  | [(x, v), (y, u)], h =>
    simp only [List.map_cons, List.map_nil, List.cons.injEq, and_true] at h
    exact ⟨v, u, by rw [h.1, h.2]⟩
set_option maxRecDepth 100000 in
set_option maxHeartbeats 2000000 in
theorem alive_any (W : World) (hT : Tab W) (hW : TabW W) : Calls Tryd.prog 14 #[] W fun e w' => e = .returned (.bool true) ∧ Below W.heap.size W w' := by
  have hnew := new_yes 3 2 W (by decide)
  have HT := hid hT
  have HW := hid hW
  clear hT hW
  go_enter Tryd.func14, Tryd.ntmps14
  go_wp2_with fail
  refine hnew.mono ?_
  rintro e w2 ⟨v, lv, rfl, hm, hl, hc, hb⟩
  dsimp only
  obtain ⟨v0, v1, rfl⟩ := lv_two hm
  clear hm hnew
  have hbx := Box.new w2 24 #[.int .i64 3, v]
  have hb2 := hb.alloc hb.size (.cells #[.int .i64 3, v] 24)
  have hin : GIn (w2.alloc (.cells #[.int .i64 3, v] 24)) v [(bareN 3 ⟨0, 0, 0⟩, v0), (bareN 3 ⟨0, 0, 0⟩, v1)] := by
    refine ⟨hl.row.below (below_alloc _ _), fun x hx => (hc x hx).row.below (below_alloc _ _), by simp, ?_⟩
    intro x hx
    have hxx : x.1 = bareN 3 ⟨0, 0, 0⟩ := by
      simp only [List.mem_cons, List.mem_nil_iff, or_false] at hx
      rcases hx with rfl | rfl <;> rfl
    rw [hxx]
    refine ⟨by simp [bareN], fun c hc => ?_⟩
    rw [(List.mem_replicate.1 hc).2]
    show (⟨#[]⟩ : ByteArray).size ≤ 1000
    decide
  have hput := put_yes1 3 1 2 v _ xC _ false v1 _ hin (by decide) (HT.out.below hb2) (HW.out.below hb2) (show [(bareN 3 ⟨0, 0, 0⟩, v0), (bareN 3 ⟨0, 0, 0⟩, v1)][1]? = some (⟨List.replicate 3 (blkC ⟨0, 0, 0⟩), false⟩, v1) from rfl) (by
    unfold mayB
    rw [allB_map]
    have := fits_bare (a := ⟨0, 0, 0⟩) (by decide) 3
    simp only [List.map_cons, List.map_nil, List.all_cons, List.all_nil, Bool.and_true]
    rw [show fitsB 3 (bareN 3 ⟨0, 0, 0⟩).cs = true from this]
    rfl) (by rfl) (by decide) xC_right (by decide) (by decide)
  rw [alive_lines, show ((1 : Nat) : Int) = 1 from rfl, show ((2 : Nat) : Int) = 2 from rfl] at hput
  unfold Ce.agg Ce.cells xC at hput
  simp only [List.map_cons, List.map_nil, List.set_cons_succ, List.set_cons_zero] at hput
  obtain ⟨A, c, rfl⟩ := hl.spell
  have HCE : Hid (∀ x ∈ [(bareN 3 ⟨0, 0, 0⟩, v0), (bareN 3 ⟨0, 0, 0⟩, v1)], CSl (w2.alloc (.cells #[.int .i64 3, .slice A 2 c] 24)) W.heap.size x.2 x.1.cs) := fun x hx => (hc x hx).below (below_alloc _ _) (Nat.le_refl _)
  have HP := hid hput
  have HBX := hid hbx
  have HB2 := hid hb2
  have hn0 : w2.heap.size = w2.heap.size := rfl
  have hle : W.heap.size ≤ w2.heap.size := hb.size
  clear hput hbx hb2 hin hc hl hb
  simp only [List.length_cons, List.length_nil, Nat.zero_add, Nat.reduceAdd] at *
  go_wp2_with fail
  with_reducible refine HP.out.mono ?_
  rintro e w3 ⟨v3, lv3, rfl, hm3, hl3, hn3, hb3⟩
  dsimp only
  have hx3 := HBX.out.below hb3 (by simp)
  obtain ⟨⟨k0, k1⟩, f0, f1⟩ := hx3.two
  obtain ⟨A3, c3, e3⟩ := hl3.spell
  subst e3
  obtain ⟨u0, u1, rfl⟩ := lv_two hm3
  simp only [List.length_cons, List.length_nil, Nat.zero_add, Nat.reduceAdd] at *
  have hce3 : CesOf ((w3.setCell ⟨w2.heap.size, 0, none⟩ (.int .i64 3)).setCell ⟨w2.heap.size, 1, none⟩ (.slice A3 2 c3)) [(bareN 3 ⟨0, 0, 0⟩, v0), (bareN 3 ⟨0, 0, 0⟩, v1)] := fun x hx =>
    ((((HCE.out x hx).below hb3 (Nat.le_refl _)).set hx3 (by decide) (i := 0) _).set (hx3.set _) (by decide) (i := 1) _).row
  have hce := ((hn3.set hx3 (by decide) (i := 0) (.int .i64 3)).set (hx3.set _) (by decide) (i := 1) (.slice A3 2 c3)).ces hce3 (_, u1) (List.mem_cons_of_mem _ (List.mem_singleton.2 rfl))
  have hl4 := (hl3.set hx3 (by decide) (i := 0) (.int .i64 3)).set (hx3.set _) (by decide) (i := 1) (.slice A3 2 c3)
  have hx4 := (hx3.set (i := 0) (.int .i64 3)).set (i := 1) (.slice A3 2 c3)
  have hh4 : Below W.heap.size W ((w3.setCell ⟨w2.heap.size, 0, none⟩ (.int .i64 3)).setCell ⟨w2.heap.size, 1, none⟩ (.slice A3 2 c3)) := ((HB2.out.trans (hb3.mono HB2.out.size)).setCell (p := ⟨w2.heap.size, 0, none⟩) hle _).setCell (p := ⟨w2.heap.size, 1, none⟩) hle _
  have HCE4 := hid hce
  have HL4 := hid hl4
  have HX4 := hid hx4
  have HH4 := hid hh4
  clear hm3 hl3 hn3 hb3 hx3 HP hce3 hce hl4 hx4 hh4
  go_upto_region 3 with fail
  generalize ((w3.setCell ⟨w2.heap.size, 0, none⟩ (.int .i64 3)).setCell ⟨w2.heap.size, 1, none⟩ (.slice A3 2 c3)) = w4 at *
  clear k0 k1 f0 f1
  obtain ⟨⟨k0, k1⟩, f0, f1⟩ := HX4.out.two
  rcases HL4.out with ⟨h0, _⟩ | ⟨g3, cap3, e3, hg3, hl3⟩
  · cases h0
  cases e3
  obtain ⟨⟨q0, q1⟩, r0, r1⟩ := hl3.two (j := 1) rfl
  obtain ⟨A4, c4, e4, _, hcc⟩ := HCE4.out
  simp only [List.length_cons, List.length_nil, Nat.zero_add, Nat.reduceAdd] at e4
  subst e4
  obtain ⟨g4, o4, rfl, hg4, hcc⟩ := hcc (by simp)
  have hxx : w4.cell? ⟨g4, o4 + 10, none⟩ = some (.string ⟨#[120]⟩) := hcc 2 xC rfl 0 _ rfl
  simp only [Nat.one_mul] at q0 q1
  have hx0 : ((⟨#[120]⟩ : ByteArray).toList == (⟨#[120]⟩ : ByteArray).toList) = true := by simp
  clear hcc hl3
  go_wp2
  go_ret
  exact ⟨rfl, HH4.out⟩
end Go.Proofs.YtdpicbfpjnampaaDoor
