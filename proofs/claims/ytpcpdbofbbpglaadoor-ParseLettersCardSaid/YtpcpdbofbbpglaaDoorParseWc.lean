/- Layer 5, the package: Feed, the room of its list told. Made by wip/gen/parseWc.py. -/
import Derived.Test.YtpcpdbofbbpglaaDoorParseW
namespace Go.Proofs.YtpcpdbofbbpglaaDoor
open Go.RowKit

def FeedCap (W : World) (r : Pa × List Dn) (e : Ending) (w' : World) : Prop :=
  ∃ v A c lv, e = .returned (.tuple #[.agg (r.1.cells v), .slice A (List.length lv) c, .int .i64 0]) ∧ lv.length ≤ c ∧ IRow w' v r.1.params ∧ DRow w' (.slice A (List.length lv) c) lv ∧ lv.map Prod.fst = r.2 ∧ Below W.heap.size W w'
theorem own_cap {W : World} {B : Nat} {A : Option Addr} {n c : Nat} {l : List (Dn × Value)} (h : OwnD W B (.slice A n c) l) : l.length ≤ c := by
  rcases h.2 with ⟨e, h0⟩ | ⟨g, cap, cur, e, _, _, hc, _⟩
  · omega
  · cases e
    exact hc
set_option maxRecDepth 100000 in
set_option maxHeartbeats 4000000 in
theorem feed_cap (p : Pa) (v : Value) (s : ByteArray) (W : World) (hT : Tab W) (hr : IRow W v p.params) (hright : rightP p) (hs : s.size ≤ 100000) :
    Calls Tryd.prog 7 #[.agg (p.cells v), .string s] W (FeedCap W (feedP p (bytesP s))) := by
  obtain ⟨hb16, hb64, hb3⟩ := right_bounds hright
  have hR := fun W1 (hb : Below W.heap.size W W1) => right_any p v W1 (hT.below hb) (hr.below hb) (by omega) (by omega)
  rw [(rightQ_iff p).2 hright] at hR
  have hN := fun W1 (hb : Below W.heap.size W W1) => newReader_any p v W1 (hr.below hb) (by omega) (by omega) (by omega)
  have HR := hid hR
  have HN := hid hN
  have HT := hid hT
  obtain ⟨A, c, rfl, _⟩ := hr
  have hb1 := below_alloc W (.cells (p.cells (.slice A p.params.length c)) 24)
  have hb2 := hb1.alloc (by simp) (.cells #[.int .i64 0, .int .i64 0, .slice none 0 0, .int .i64 0, .string ⟨#[]⟩, .string ⟨#[]⟩] 24)
  have b0 := (Box.new W 24 (p.cells (.slice A p.params.length c))).alloc (.cells #[.int .i64 0, .int .i64 0, .slice none 0 0, .int .i64 0, .string ⟨#[]⟩, .string ⟨#[]⟩] 24)
  have bx := Box.new (W.alloc (.cells (p.cells (.slice A p.params.length c)) 24)) 24 #[.int .i64 0, .int .i64 0, .slice none 0 0, .int .i64 0, .string ⟨#[]⟩, .string ⟨#[]⟩]
  rw [World.size_alloc] at bx
  have HB2 := hid hb2
  have B0 := hid b0
  have BX := hid bx
  have HRI := hid hright
  clear hR hN hT hb1 hb2 b0 bx hright hb16 hb64 hb3
  obtain ⟨p1, p2, p3, p4, p5, p6⟩ := p
  unfold Pa.cells at *
  simp only at *
  generalize p3.length = m at *
  go_enter Tryd.func7, Tryd.ntmps7
  go_upto_block 0 with (first | (go_at_call 9; refine (HR.out _ HB2.out).mono ?_; rintro e w1 ⟨rfl, hb1⟩; have b1 := B0.out.below hb1 (by simp; omega); have c0 : w1.cell? ⟨W.heap.size, 0, none⟩ = some (.int .i64 p1) := b1.cell 0; have c1 : w1.cell? ⟨W.heap.size, 1, none⟩ = some (.int .i64 p2) := b1.cell 1; have c2 : w1.cell? ⟨W.heap.size, 2, none⟩ = some (.slice A m c) := b1.cell 2; have c3 : w1.cell? ⟨W.heap.size, 3, none⟩ = some (.int .i64 p4) := b1.cell 3; have c4 : w1.cell? ⟨W.heap.size, 4, none⟩ = some (.string p5) := b1.cell 4; have c5 : w1.cell? ⟨W.heap.size, 5, none⟩ = some (.string p6) := b1.cell 5; have BX1 := hid (BX.out.below hb1 (by simp)); have hW1 := HB2.out.trans (hb1.mono HB2.out.size); clear b1))
  have hz1 : W.heap.size + 1 < w1.heap.size := by have := hb1.size; simp at this; omega
  refine (HN.out _ hW1).mono ?_
  rintro e w2 ⟨R, rfl, hrd, hb2⟩
  dsimp only
  have BX2 := hid (BX1.out.below hb2 hz1)
  have hTB : TabB w1.heap.size w2 := ⟨HT.out.below (hW1.trans (hb2.mono hW1.size)), by have := HT.out.lt; omega⟩
  have HTB := hid hTB
  have HRD := hid hrd
  have hW2 := hW1.trans (hb2.mono hW1.size)
  have HRT := hid (right_feed · ⟨p1, p2, p3, p4, p5, p6⟩ HRI.out)
  clear hTB hrd HN HR HRI HB2 B0 BX BX1 c0 c1 c2 c3 c4 c5
  go_wp2
  go_loopw [17] (fun i wr => ∃ k : Nat, k ≤ s.size ∧ i = .int .i64 k ∧ Rd w1.heap.size R wr (feedP ⟨p1, p2, p3, p4, p5, p6⟩ ((bytesP s).take k)).1 (feedP ⟨p1, p2, p3, p4, p5, p6⟩ ((bytesP s).take k)).2 ∧ Below w1.heap.size w2 wr) (fun i _ => s.size - (intOf i).toNat)
  case atStart => exact ⟨0, by omega, rfl, by rw [List.take_zero]; exact HRD.out, Below.refl _ _⟩
  case round =>
    obtain ⟨k, hk, rfl, hrd, hbr⟩ := hrel
    by_cases hlt : k < s.size
    · have hl := feed_len ((bytesP s).take k) ⟨p1, p2, p3, p4, p5, p6⟩
      have hl2 : ((bytesP s).take k).length ≤ k := List.length_take_le _ _
      have ht := take_any hrd (HTB.out.below hbr) (by omega) (HRT.out _) (s[k].toNat : Int) (by have := UInt8.toNat_lt s[k]; omega)
      have hone := feed_one ⟨p1, p2, p3, p4, p5, p6⟩ ((bytesP s).take k) (byteAt s k)
      rw [← bytesP_take hlt, ← byteAt_eq hlt] at hone
      have HT2 := hid ht
      have HO := hid hone
      clear ht hone hrd hl hl2
      go_wp2_with (go_at_call 18; refine HT2.out.mono ?_; rintro e w3 ⟨rfl, h3, hb3⟩; have H3 := hid h3; clear h3)
      go_roundw
      case rel => exact ⟨k + 1, by omega, by go_num, by rw [HO.out]; exact H3.out, hbr.trans hb3⟩
      case measure => simp [intOf]; omega
    · obtain rfl : k = s.size := by omega
      rw [List.take_of_length_le (by rw [bytesP_length]; omega)] at hrd
      obtain ⟨v, lv, P, hlv, h1, h2, ⟨dv, hBR, hbox, hown, hnum⟩, hv⟩ := hrd
      obtain ⟨A', c', rfl⟩ := hv.spell
      obtain ⟨dA, dc, rfl⟩ := hown.spell
      have bx := BX2.out.below hbr hz1
      have hE := fun (W9 : World) (hg : wr.grownBy W9 (some (W.heap.size + 1))) => feed_end hown hnum hv bx hg
      have hWr := hW2.trans (hbr.mono (by omega))
      have hne : ¬ W.heap.size + 1 = R := by omega
      have hne2 : ¬ R = W.heap.size + 1 := by omega
      have d0 : wr.cell? ⟨R, 0, none⟩ = some (.int .i64 (feedP ⟨p1, p2, p3, p4, p5, p6⟩ (bytesP s)).1.st) := hbox.cell 0
      have d1 : wr.cell? ⟨R, 1, none⟩ = some (.int .i64 (feedP ⟨p1, p2, p3, p4, p5, p6⟩ (bytesP s)).1.priv) := hbox.cell 1
      have d2 : wr.cell? ⟨R, 2, none⟩ = some (.slice A' (feedP ⟨p1, p2, p3, p4, p5, p6⟩ (bytesP s)).1.params.length c') := hbox.cell 2
      have d3 : wr.cell? ⟨R, 3, none⟩ = some (.int .i64 (feedP ⟨p1, p2, p3, p4, p5, p6⟩ (bytesP s)).1.inter) := hbox.cell 3
      have d4 : wr.cell? ⟨R, 4, none⟩ = some (.string (feedP ⟨p1, p2, p3, p4, p5, p6⟩ (bytesP s)).1.osc) := hbox.cell 4
      have d5 : wr.cell? ⟨R, 5, none⟩ = some (.string (feedP ⟨p1, p2, p3, p4, p5, p6⟩ (bytesP s)).1.pend) := hbox.cell 5
      have d6 : wr.cell? ⟨R, 6, none⟩ = some (.slice dA lv.length dc) := hbox.cell 6
      have HBX := hid bx
      have c0 : wr.cell? ⟨W.heap.size + 1, 0, none⟩ = some (.int .i64 0) := bx.cell 0
      have c1 : wr.cell? ⟨W.heap.size + 1, 1, none⟩ = some (.int .i64 0) := bx.cell 1
      have c2 : wr.cell? ⟨W.heap.size + 1, 2, none⟩ = some (.slice none 0 0) := bx.cell 2
      have c3 : wr.cell? ⟨W.heap.size + 1, 3, none⟩ = some (.int .i64 0) := bx.cell 3
      have c4 : wr.cell? ⟨W.heap.size + 1, 4, none⟩ = some (.string ⟨#[]⟩) := bx.cell 4
      have c5 : wr.cell? ⟨W.heap.size + 1, 5, none⟩ = some (.string ⟨#[]⟩) := bx.cell 5
      obtain ⟨f0, f1, f2, f3, f4, f5⟩ := six_cells bx
      have HE := hid hE
      have HLV := hid hlv
      have HCAP := hid (own_cap hown)
      clear hbox hown hnum hv hE hlv bx
      generalize feedP ⟨p1, p2, p3, p4, p5, p6⟩ (bytesP s) = r at *
      obtain ⟨⟨r1, r2, r3, r4, r5, r6⟩, l⟩ := r
      simp only at *
      generalize r3.length = n3 at *
      obtain ⟨n4, h4⟩ : ∃ n4, lv.length = n4 := ⟨_, rfl⟩
      have HQ4 := hid h4
      rw [h4] at d6
      rw [h4] at HE
      clear h4
      go_wp2
      go_region
      go_wp2
      refine bodyPost_ret (v := .tuple #[.agg #[.int .i64 r1, .int .i64 r2, .slice A' n3 c', .int .i64 r4, .string r5, .string r6], .slice dA n4 dc, .int .i64 0]) (by simp [results, Tryd.results7, go_sem, c0, c1, c2, c3, c4, c5]) rfl ?_
      have hg := (grown_set (i := 5) (grown_set (i := 4) (grown_set (i := 3) (grown_set (i := 2) (grown_set (i := 1) (grown_set (i := 0) (World.grownBy.refl wr (some (W.heap.size + 1))) (.int .i64 r1)) (.int .i64 r2)) (.slice A' n3 c')) (.int .i64 r4)) (.string r5)) (.string r6)).trans (grown_drew1 _ _)
      obtain ⟨e1, e2⟩ := HE.out _ hg
      have hq := HQ4.out
      subst hq
      exact ⟨_, _, _, lv, rfl, HCAP.out, e1, e2, HLV.out, hWr.grown hg hWr.size (fun k e => by cases e; omega)⟩
end Go.Proofs.YtpcpdbofbbpglaaDoor
