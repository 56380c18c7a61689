/- Layer 5, the package: Feed. -/
import Derived.Test.YtpcpdbofbbpglaaDoorParseV
import Derived.Deep.CutBlock
namespace Go.Proofs.YtpcpdbofbbpglaaDoor
open Go.RowKit

theorem len_if {c : Prop} [Decidable c] {a b : Pa × List Dn} {n : Nat} (ha : a.2.length ≤ n) (hb : b.2.length ≤ n) : (if c then a else b).2.length ≤ n := by
  by_cases h : c
  · rw [if_pos h]; exact ha
  · rw [if_neg h]; exact hb
theorem list_if {c : Prop} [Decidable c] {d : Dn} {q : Pa} : ((q, if c then [] else [d]) : Pa × List Dn).2.length ≤ 1 ∧ ((q, if c then [d] else []) : Pa × List Dn).2.length ≤ 1 := by
  by_cases h : c
  · simp [h]
  · simp [h]
theorem one_len (p : Pa) (c : Int) : (oneP p c).2.length ≤ 1 := by
  rw [oneP_state]
  unfold stateP oscP highP escP csiP lastP
  repeat' refine len_if ?_ ?_
  all_goals first | exact list_if.1 | exact list_if.2 | exact Nat.zero_le _ | exact Nat.le_refl _
theorem take_len (p : Pa) (c : Int) : (takeP p c).2.length ≤ 2 := by
  have h1 := one_len p c
  have h2 := one_len { p with pend := nilB } c
  unfold takeP
  by_cases c1 : p.pend.size = 0
  · rw [if_pos c1]; omega
  rw [if_neg c1]
  by_cases c2 : (firstG (p.pend ++ byteB c)).e = 2
  · rw [if_pos c2]; simp
  rw [if_neg c2]
  by_cases c3 : (firstG (p.pend ++ byteB c)).e = 0
  · rw [if_pos c3]
    simp only
    split <;> simp
  rw [if_neg c3]
  split
  · simp only [List.length_cons]; omega
  · simp
theorem feed_len : ∀ (l : List Int) (p : Pa), (feedP p l).2.length ≤ 2 * l.length
  | [], _ => by simp [feedP]
  | c :: l, p => by
    have h1 := take_len p c
    have h2 := feed_len l (takeP p c).1
    rw [feedP]
    simp only [List.length_append, List.length_cons]
    omega

def FeedPost (W : World) (r : Pa × List Dn) (e : Ending) (w' : World) : Prop :=
  ∃ v dv lv, e = .returned (.tuple #[.agg (r.1.cells v), dv, .int .i64 0]) ∧ IRow w' v r.1.params ∧ DRow w' dv lv ∧ lv.map Prod.fst = r.2 ∧ Below W.heap.size W w'
/-- A parser that may not be. -/
def FeedNo (W : World) (e : Ending) (w' : World) : Prop := e = .returned (.tuple #[.agg #[.int .i64 0, .int .i64 0, .slice none 0 0, .int .i64 0, .string ⟨#[]⟩, .string ⟨#[]⟩], .slice none 0 0, .int .i64 1]) ∧ Below W.heap.size W w'
set_option maxRecDepth 100000 in
set_option maxHeartbeats 2000000 in
theorem feed_no (p : Pa) (v : Value) (s : ByteArray) (W : World) (hT : Tab W) (hr : IRow W v p.params) (hn : p.params.length ≤ 1000000) (hz : p.pend.size ≤ 1000000) (hno : rightQ p = false) :
    Calls Tryd.prog 7 #[.agg (p.cells v), .string s] W (FeedNo W) := by
  have hR := fun W1 (hb : Below W.heap.size W W1) => right_any p v W1 (hT.below hb) (hr.below hb) hn hz
  rw [hno] at hR
  have HR := hid hR
  obtain ⟨A, c, rfl, _⟩ := hr
  have hb2 := (below_alloc W (.cells (p.cells (.slice A p.params.length c)) 24)).alloc (by simp) (.cells #[.int .i64 0, .int .i64 0, .slice none 0 0, .int .i64 0, .string ⟨#[]⟩, .string ⟨#[]⟩] 24)
  have bx := Box.new (W.alloc (.cells (p.cells (.slice A p.params.length c)) 24)) 24 #[.int .i64 0, .int .i64 0, .slice none 0 0, .int .i64 0, .string ⟨#[]⟩, .string ⟨#[]⟩]
  rw [World.size_alloc] at bx
  have HB2 := hid hb2
  have BX := hid bx
  obtain ⟨p1, p2, p3, p4, p5, p6⟩ := p
  unfold Pa.cells at *
  simp only at *
  generalize p3.length = m at *
  clear hR hT hno hb2 bx hn hz
  go_enter Tryd.func7, Tryd.ntmps7
  go_wp2_with (go_at_call 9; refine (HR.out _ HB2.out).mono ?_; rintro e w1 ⟨rfl, hb1⟩; have b1 := BX.out.below hb1 (by simp); have c0 : w1.cell? ⟨W.heap.size + 1, 0, none⟩ = some (.int .i64 0) := b1.cell 0; have c1 : w1.cell? ⟨W.heap.size + 1, 1, none⟩ = some (.int .i64 0) := b1.cell 1; have c2 : w1.cell? ⟨W.heap.size + 1, 2, none⟩ = some (.slice none 0 0) := b1.cell 2; have c3 : w1.cell? ⟨W.heap.size + 1, 3, none⟩ = some (.int .i64 0) := b1.cell 3; have c4 : w1.cell? ⟨W.heap.size + 1, 4, none⟩ = some (.string ⟨#[]⟩) := b1.cell 4; have c5 : w1.cell? ⟨W.heap.size + 1, 5, none⟩ = some (.string ⟨#[]⟩) := b1.cell 5; obtain ⟨f0, f1, f2, f3, f4, f5⟩ := six_cells b1; clear b1)
  refine bodyPost_ret (v := .tuple #[.agg #[.int .i64 0, .int .i64 0, .slice none 0 0, .int .i64 0, .string ⟨#[]⟩, .string ⟨#[]⟩], .slice none 0 0, .int .i64 1]) (by simp [results, Tryd.results7, go_sem, c0, c1, c2, c3, c4, c5]) rfl ⟨rfl, ?_⟩
  have h5 := HB2.out.trans (hb1.mono HB2.out.size)
  exact (((((h5.setCell (p := ⟨W.heap.size + 1, 0, none⟩) (by simp) _).setCell (p := ⟨W.heap.size + 1, 1, none⟩) (by simp) _).setCell (p := ⟨W.heap.size + 1, 2, none⟩) (by simp) _).setCell (p := ⟨W.heap.size + 1, 3, none⟩) (by simp) _).setCell (p := ⟨W.heap.size + 1, 4, none⟩) (by simp) _).setCell (p := ⟨W.heap.size + 1, 5, none⟩) (by simp) _
theorem grown_drew1 (W : World) (row : Option Nat) : W.grownBy W.drew row := ⟨rfl, rfl, rfl, Nat.le_refl _, fun _ _ _ => rfl⟩
theorem feed_end {B P b : Nat} {wr W9 : World} {v dv : Value} {l : List Int} {lv : List (Dn × Value)} {cs : Array Value} (hown : OwnD wr B dv lv) (hnum : ∀ e ∈ lv, NumO wr B P e.2 e.1.params ∧ e.1.params.length ≤ 16) (hv : NumO wr P wr.heap.size v l)
    (bx : Box wr b 24 cs) (hg : wr.grownBy W9 (some b)) : IRow W9 v l ∧ DRow W9 dv lv := by
  have kp : ∀ k, Kept k wr W9 := fun k => Kept.other k bx (by decide) hg
  exact ⟨(hv.kept (kp _)).irow, (hown.other bx (by decide) hg).drow (fun e he => ⟨(hnum e he).1.kept (kp _), (hnum e he).2⟩)⟩
set_option maxRecDepth 100000 in
set_option maxHeartbeats 4000000 in
theorem feed_yes (p : Pa) (v : Value) (s : ByteArray) (W : World) (hT : Tab W) (hr : IRow W v p.params) (hright : rightP p) (hs : s.size ≤ 100000) :
    Calls Tryd.prog 7 #[.agg (p.cells v), .string s] W (FeedPost W (feedP p (bytesP s))) := by
  obtain ⟨hb16, hb64, hb3⟩ := right_bounds hright
  have hR := fun W1 (hb : Below W.heap.size W W1) => right_any p v W1 (hT.below hb) (hr.below hb) (by omega) (by omega)
  rw [(rightQ_iff p).2 hright] at hR
  have hN := fun W1 (hb : Below W.heap.size W W1) => newReader_any p v W1 (hr.below hb) (by omega) (by omega) (by omega)
  have HR := hid hR
  have HN := hid hN
  have HT := hid hT
  obtain ⟨A, c, rfl, _⟩ := hr
  have hb1 := below_alloc W (.cells (p.cells (.slice A p.params.length c)) 24)
  have hb2 := hb1.alloc (by simp) (.cells #[.int .i64 0, .int .i64 0, .slice none 0 0, .int .i64 0, .string ⟨#[]⟩, .string ⟨#[]⟩] 24)
  have b0 := (Box.new W 24 (p.cells (.slice A p.params.length c))).alloc (.cells #[.int .i64 0, .int .i64 0, .slice none 0 0, .int .i64 0, .string ⟨#[]⟩, .string ⟨#[]⟩] 24)
  have bx := Box.new (W.alloc (.cells (p.cells (.slice A p.params.length c)) 24)) 24 #[.int .i64 0, .int .i64 0, .slice none 0 0, .int .i64 0, .string ⟨#[]⟩, .string ⟨#[]⟩]
  rw [World.size_alloc] at bx
  have HB2 := hid hb2
  have B0 := hid b0
  have BX := hid bx
  have HRI := hid hright
  clear hR hN hT hb1 hb2 b0 bx hright hb16 hb64 hb3
  obtain ⟨p1, p2, p3, p4, p5, p6⟩ := p
  unfold Pa.cells at *
  simp only at *
  generalize p3.length = m at *
  go_enter Tryd.func7, Tryd.ntmps7
  go_upto_block 0 with (first | (go_at_call 9; refine (HR.out _ HB2.out).mono ?_; rintro e w1 ⟨rfl, hb1⟩; have b1 := B0.out.below hb1 (by simp; omega); have c0 : w1.cell? ⟨W.heap.size, 0, none⟩ = some (.int .i64 p1) := b1.cell 0; have c1 : w1.cell? ⟨W.heap.size, 1, none⟩ = some (.int .i64 p2) := b1.cell 1; have c2 : w1.cell? ⟨W.heap.size, 2, none⟩ = some (.slice A m c) := b1.cell 2; have c3 : w1.cell? ⟨W.heap.size, 3, none⟩ = some (.int .i64 p4) := b1.cell 3; have c4 : w1.cell? ⟨W.heap.size, 4, none⟩ = some (.string p5) := b1.cell 4; have c5 : w1.cell? ⟨W.heap.size, 5, none⟩ = some (.string p6) := b1.cell 5; have BX1 := hid (BX.out.below hb1 (by simp)); have hW1 := HB2.out.trans (hb1.mono HB2.out.size); clear b1))
  have hz1 : W.heap.size + 1 < w1.heap.size := by have := hb1.size; simp at this; omega
  refine (HN.out _ hW1).mono ?_
  rintro e w2 ⟨R, rfl, hrd, hb2⟩
  dsimp only
  have BX2 := hid (BX1.out.below hb2 hz1)
  have hTB : TabB w1.heap.size w2 := ⟨HT.out.below (hW1.trans (hb2.mono hW1.size)), by have := HT.out.lt; omega⟩
  have HTB := hid hTB
  have HRD := hid hrd
  have hW2 := hW1.trans (hb2.mono hW1.size)
  have HRT := hid (right_feed · ⟨p1, p2, p3, p4, p5, p6⟩ HRI.out)
  clear hTB hrd HN HR HRI HB2 B0 BX BX1 c0 c1 c2 c3 c4 c5
  go_wp2
  go_loopw [17] (fun i wr => ∃ k : Nat, k ≤ s.size ∧ i = .int .i64 k ∧ Rd w1.heap.size R wr (feedP ⟨p1, p2, p3, p4, p5, p6⟩ ((bytesP s).take k)).1 (feedP ⟨p1, p2, p3, p4, p5, p6⟩ ((bytesP s).take k)).2 ∧ Below w1.heap.size w2 wr) (fun i _ => s.size - (intOf i).toNat)
  case atStart => exact ⟨0, by omega, rfl, by rw [List.take_zero]; exact HRD.out, Below.refl _ _⟩
  case round =>
    obtain ⟨k, hk, rfl, hrd, hbr⟩ := hrel
    by_cases hlt : k < s.size
    · have hl := feed_len ((bytesP s).take k) ⟨p1, p2, p3, p4, p5, p6⟩
      have hl2 : ((bytesP s).take k).length ≤ k := List.length_take_le _ _
      have ht := take_any hrd (HTB.out.below hbr) (by omega) (HRT.out _) (s[k].toNat : Int) (by have := UInt8.toNat_lt s[k]; omega)
      have hone := feed_one ⟨p1, p2, p3, p4, p5, p6⟩ ((bytesP s).take k) (byteAt s k)
      rw [← bytesP_take hlt, ← byteAt_eq hlt] at hone
      have HT2 := hid ht
      have HO := hid hone
      clear ht hone hrd hl hl2
      go_wp2_with (go_at_call 18; refine HT2.out.mono ?_; rintro e w3 ⟨rfl, h3, hb3⟩; have H3 := hid h3; clear h3)
      go_roundw
      case rel => exact ⟨k + 1, by omega, by go_num, by rw [HO.out]; exact H3.out, hbr.trans hb3⟩
      case measure => simp [intOf]; omega
    · obtain rfl : k = s.size := by omega
      rw [List.take_of_length_le (by rw [bytesP_length]; omega)] at hrd
      obtain ⟨v, lv, P, hlv, h1, h2, ⟨dv, hBR, hbox, hown, hnum⟩, hv⟩ := hrd
      obtain ⟨A', c', rfl⟩ := hv.spell
      obtain ⟨dA, dc, rfl⟩ := hown.spell
      have bx := BX2.out.below hbr hz1
      have hE := fun (W9 : World) (hg : wr.grownBy W9 (some (W.heap.size + 1))) => feed_end hown hnum hv bx hg
      have hWr := hW2.trans (hbr.mono (by omega))
      have hne : ¬ W.heap.size + 1 = R := by omega
      have hne2 : ¬ R = W.heap.size + 1 := by omega
      have d0 : wr.cell? ⟨R, 0, none⟩ = some (.int .i64 (feedP ⟨p1, p2, p3, p4, p5, p6⟩ (bytesP s)).1.st) := hbox.cell 0
      have d1 : wr.cell? ⟨R, 1, none⟩ = some (.int .i64 (feedP ⟨p1, p2, p3, p4, p5, p6⟩ (bytesP s)).1.priv) := hbox.cell 1
      have d2 : wr.cell? ⟨R, 2, none⟩ = some (.slice A' (feedP ⟨p1, p2, p3, p4, p5, p6⟩ (bytesP s)).1.params.length c') := hbox.cell 2
      have d3 : wr.cell? ⟨R, 3, none⟩ = some (.int .i64 (feedP ⟨p1, p2, p3, p4, p5, p6⟩ (bytesP s)).1.inter) := hbox.cell 3
      have d4 : wr.cell? ⟨R, 4, none⟩ = some (.string (feedP ⟨p1, p2, p3, p4, p5, p6⟩ (bytesP s)).1.osc) := hbox.cell 4
      have d5 : wr.cell? ⟨R, 5, none⟩ = some (.string (feedP ⟨p1, p2, p3, p4, p5, p6⟩ (bytesP s)).1.pend) := hbox.cell 5
      have d6 : wr.cell? ⟨R, 6, none⟩ = some (.slice dA lv.length dc) := hbox.cell 6
      have HBX := hid bx
      have c0 : wr.cell? ⟨W.heap.size + 1, 0, none⟩ = some (.int .i64 0) := bx.cell 0
      have c1 : wr.cell? ⟨W.heap.size + 1, 1, none⟩ = some (.int .i64 0) := bx.cell 1
      have c2 : wr.cell? ⟨W.heap.size + 1, 2, none⟩ = some (.slice none 0 0) := bx.cell 2
      have c3 : wr.cell? ⟨W.heap.size + 1, 3, none⟩ = some (.int .i64 0) := bx.cell 3
      have c4 : wr.cell? ⟨W.heap.size + 1, 4, none⟩ = some (.string ⟨#[]⟩) := bx.cell 4
      have c5 : wr.cell? ⟨W.heap.size + 1, 5, none⟩ = some (.string ⟨#[]⟩) := bx.cell 5
      obtain ⟨f0, f1, f2, f3, f4, f5⟩ := six_cells bx
      have HE := hid hE
      have HLV := hid hlv
      clear hbox hown hnum hv hE hlv bx
      generalize feedP ⟨p1, p2, p3, p4, p5, p6⟩ (bytesP s) = r at *
      obtain ⟨⟨r1, r2, r3, r4, r5, r6⟩, l⟩ := r
      simp only at *
      generalize r3.length = n3 at *
      generalize lv.length = n4 at *
      go_wp2
      go_region
      go_wp2
      refine bodyPost_ret (v := .tuple #[.agg #[.int .i64 r1, .int .i64 r2, .slice A' n3 c', .int .i64 r4, .string r5, .string r6], .slice dA n4 dc, .int .i64 0]) (by simp [results, Tryd.results7, go_sem, c0, c1, c2, c3, c4, c5]) rfl ?_
      have hg := (grown_set (i := 5) (grown_set (i := 4) (grown_set (i := 3) (grown_set (i := 2) (grown_set (i := 1) (grown_set (i := 0) (World.grownBy.refl wr (some (W.heap.size + 1))) (.int .i64 r1)) (.int .i64 r2)) (.slice A' n3 c')) (.int .i64 r4)) (.string r5)) (.string r6)).trans (grown_drew1 _ _)
      obtain ⟨e1, e2⟩ := HE.out _ hg
      exact ⟨_, _, lv, rfl, e1, e2, HLV.out, hWr.grown hg hWr.size (fun k e => by cases e; omega)⟩
end Go.Proofs.YtpcpdbofbbpglaaDoor
