/- The law WireCuts, walked. -/
import Derived.Test.YthkgflghiooboaaWireI
import Derived.Deep.DeepCutAuto
import Derived.BigRegion
import Derived.RegionTactic
namespace Go.Proofs.Ythkgflghiooboaa
open Go.RowKit

theorem own_empty (w : World) : (w.alloc (.cells #[] 23)).ownsRow w.heap.size 23 2 (.slice (some ⟨w.heap.size, 0, none⟩) 0 0) ([] : List Fr).length (flat []) :=
  ⟨rfl, .inr ⟨w.heap.size, 0, #[], rfl, Nat.le_refl _, heap_alloc_new w _, Nat.le_refl _, Nat.zero_le _, rfl, rfl⟩⟩

theorem cutN (b : ByteArray) (n : Nat) : (b.extract 0 n).size ≤ n := by rw [size_extract']; omega

set_option maxRecDepth 100000 in
set_option maxHeartbeats 4000000 in
theorem cuts_any (buf s t : ByteArray) (dead : Bool) (w : World) (h1 : buf.size ≤ maxLen) (h2 : s.size ≤ maxLen) (h3 : t.size ≤ maxLen) :
    Calls Try.prog 4 #[.agg #[.string buf, .bool dead], .string s, .string t] w fun e w' => e = .returned (.bool true) ∧ Below w.heap.size w w' := by
  unfold maxLen at h1 h2 h3
  obtain ⟨b', hb'⟩ : ∃ b', buf.extract 0 600 = b' := ⟨_, rfl⟩
  obtain ⟨s', hs'⟩ : ∃ s', s.extract 0 600 = s' := ⟨_, rfl⟩
  obtain ⟨t', ht'⟩ : ∃ t', t.extract 0 600 = t' := ⟨_, rfl⟩
  have z1 : b'.size ≤ 600 := by rw [← hb']; exact cutN _ _
  have z2 : s'.size ≤ 600 := by rw [← hs']; exact cutN _ _
  have z3 : t'.size ≤ 600 := by rw [← ht']; exact cutN _ _
  have HB := hid hb'
  have HS := hid hs'
  have HT := hid ht'
  clear hb' hs' ht'
  go_enter Try.func4, Try.ntmps4
  go_upto_region 1 with fail
  go_cut [1, 2] (fun v1 v2 wx => v1 = .string s' ∧ v2 = .string t' ∧ wx.heap[w.heap.size]? = some (.cells #[.string b', .bool dead] 25 (0, 0)) ∧ Below w.heap.size w wx)
  case first =>
    have bX := heap_alloc_new w (.cells #[.string buf, .bool dead] 25)
    have hbX := below_alloc w (.cells #[.string buf, .bool dead] 25)
    obtain ⟨⟨c0, c1⟩, f0, f1⟩ := blk2 bX
    obtain ⟨W, hW⟩ : ∃ W, w.alloc (.cells #[.string buf, .bool dead] 25) = W := ⟨_, rfl⟩
    rw [hW] at bX hbX c0 c1 f0 f1 ⊢
    clear hW
    have k1 : ((buf.size : Int) ≤ 600 ∧ Hid (buf = b')) ∨ ((600 : Int) < buf.size ∧ (600 : Int) ≤ buf.size ∧ Hid (buf.extract 0 600 = b')) := by
      rcases Nat.lt_or_ge 600 buf.size with q | q
      · exact Or.inr ⟨by omega, by omega, HB⟩
      · exact Or.inl ⟨by omega, hid ((cut_all q).trans HB.out)⟩
    have k2 : ((s.size : Int) ≤ 600 ∧ Hid (s = s')) ∨ ((600 : Int) < s.size ∧ (600 : Int) ≤ s.size ∧ Hid (s.extract 0 600 = s')) := by
      rcases Nat.lt_or_ge 600 s.size with q | q
      · exact Or.inr ⟨by omega, by omega, HS⟩
      · exact Or.inl ⟨by omega, hid ((cut_all q).trans HS.out)⟩
    have k3 : ((t.size : Int) ≤ 600 ∧ Hid (t = t')) ∨ ((600 : Int) < t.size ∧ (600 : Int) ≤ t.size ∧ Hid (t.extract 0 600 = t')) := by
      rcases Nat.lt_or_ge 600 t.size with q | q
      · exact Or.inr ⟨by omega, by omega, HT⟩
      · exact Or.inl ⟨by omega, hid ((cut_all q).trans HT.out)⟩
    clear HB HS HT
    rcases k1 with ⟨p1, E1⟩ | ⟨p1, r1, E1⟩ <;> rcases k2 with ⟨p2, E2⟩ | ⟨p2, r2, E2⟩ <;> rcases k3 with ⟨p3, E3⟩ | ⟨p3, r3, E3⟩
    all_goals first | go_region | fail
    all_goals go_wp2
    all_goals go_meet
    all_goals exact ⟨congrArg _ E2.out, congrArg _ E3.out, by rw [← E1.out]; exact heap_set bX _, (hbX.setCell (p := ⟨w.heap.size, 0, none⟩) (Nat.le_refl _) _).drew⟩
  case rest =>
    obtain ⟨rfl, rfl, bD, hbD⟩ := hcut
    clear HB HS HT
    obtain ⟨wo, rfl⟩ : ∃ wo : World, wo = wc := ⟨_, rfl⟩
    obtain ⟨⟨c0, c1⟩, f0, f1⟩ := blk2 bD
    have hst : (s' ++ t').size ≤ 1200 := by rw [size_append']; omega
    have hF1 := fun W => feed_any b' s' dead W (by omega)
    have hF2 := fun W => feed_any b' (s' ++ t') dead W (by omega)
    have hl1 := feed_frames_length b' dead s'
    have hl2 := feed_frames_length b' dead (s' ++ t')
    by_cases herr : (feedG b' dead s').err = 0
    · obtain ⟨m0, m1, m2, m3, m4, m5, m6⟩ := cuts_good t' herr
      have hF3 := fun W => feed_any (feedG b' dead s').buf t' false W (by omega)
      have hl3 := feed_frames_length (feedG b' dead s').buf false t'
      obtain ⟨R1, hR1⟩ : ∃ R, feedG b' dead s' = R := ⟨_, rfl⟩
      obtain ⟨R2, hR2⟩ : ∃ R, feedG b' dead (s' ++ t') = R := ⟨_, rfl⟩
      rw [hR1] at hF1 herr hl1 m0 m1 m2 m3 m4 m5 m6 hF3 hl3
      rw [hR2] at hF2 hl2 m1 m2 m3 m4
      obtain ⟨R3, hR3⟩ : ∃ R, feedG R1.buf false t' = R := ⟨_, rfl⟩
      rw [hR3] at hF3 hl3 m1 m2 m3 m4
      clear hR1 hR2 hR3
      obtain ⟨xb, xd, xf, xe⟩ := R1
      obtain ⟨yb, yd, yf, ye⟩ := R2
      obtain ⟨zb, zd, zf, ze⟩ := R3
      dsimp only at *
      subst herr m0 m1 m2 m3 m4
      have heqD : ∀ W, (binOp .eql 25 (.agg #[.string zb, .bool zd]) (.agg #[.string zb, .bool zd])).run Try.prog W = .ok (.bool true) W := fun W => by rw [run_eqlD]; simp
      have hlx : xf.length + zf.length ≤ 1000000 := by omega
      go_wp2_with (first | (go_at_call 9; ((with_reducible refine (hF1 _).mono ?_)); rintro e w5 ⟨⟨v5, rfl, hr5⟩, hb5⟩; have bD5 := (hb5.block _ (Array.getElem?_eq_some_iff.1 bD).1).trans bD; have bD5' := (Below.heap_alloc w5 (.cells #[.string xb, .bool false] 25) _ (Array.getElem?_eq_some_iff.1 bD5).1).trans bD5; obtain ⟨⟨i0, i1⟩, i2, i3⟩ := blk2 bD5'; have hbw5 := hbD.trans (hb5.mono hbD.size)) | (go_at_call 9; ((with_reducible refine (hF2 _).mono ?_)); rintro e w6 ⟨⟨v6, rfl, hr6⟩, hb6⟩; have bx6 := (hb6.block _ (by simp)).trans (heap_alloc_new w5 (.cells #[.string xb, .bool false] 25)); have b56 : Below w5.heap.size w5 w6 := Below.behind hb6; have bx6' := (Below.heap_alloc w6 (.cells #[.string zb, .bool zd] 25) _ (Array.getElem?_eq_some_iff.1 bx6).1).trans bx6; have by6 := heap_alloc_new w6 (.cells #[.string zb, .bool zd] 25); obtain ⟨⟨j0, j1⟩, j2, j3⟩ := blk2 bx6') | (go_at_call 9; ((with_reducible refine (hF3 _).mono ?_)); rintro e w7 ⟨⟨v7, rfl, hr7⟩, hb7⟩; have b67 : Below w6.heap.size w6 w7 := Below.behind hb7; have by7 := (hb7.block _ (by simp)).trans by6; have by7' := (Below.heap_alloc w7 (.cells #[.string zb, .bool zd] 25) _ (Array.getElem?_eq_some_iff.1 by7).1).trans by7; have bz7 := heap_alloc_new w7 (.cells #[.string zb, .bool zd] 25)) | (go_at_call 14; refine (alive_any _).mono ?_; rintro e w8 ⟨rfl, hb8⟩; have by8 := (hb8.block _ (Array.getElem?_eq_some_iff.1 by7').1).trans by7'; have bz8 := (hb8.block _ (by simp)).trans bz7; obtain ⟨⟨k0, k1⟩, k2, k3⟩ := blk2 by8; obtain ⟨⟨l0, l1⟩, l2, l3⟩ := blk2 bz8; have b78 : Below w7.heap.size w7 w8 := Below.behind hb8; have b68 := b67.trans (b78.mono b67.size); have b58 := b56.trans (b68.mono b56.size); have hbw8 := hbw5.trans (b58.mono hbw5.size); have r5 := (FRow.of_own hr5).below b58; have r6 := (FRow.of_own hr6).below b68; have r7 := (FRow.of_own hr7).below b78) | (at_builtin; refine wpList_append_fr (by rfl) _ _ rfl w8.heap.size (.slice (some ⟨w8.heap.size, 0, none⟩) 0 0) v5 [] xf rfl (own_empty w8) rfl (r5.below (below_alloc w8 _)) (by show 0 + _ ≤ _; omega) (by simp) ?_; intro v9 w9 hr9 hg9; have b89 : Below w8.heap.size w8 w9 := (below_alloc w8 (.cells #[] 23)).grown hg9 (by simp) (fun k e => by cases e; exact Nat.le_refl _)) | (at_builtin; refine wpList_append_fr (by rfl) _ _ rfl w8.heap.size v9 v7 ([] ++ xf) zf rfl hr9 rfl (r7.below b89) hlx b89.size ?_; intro v10 w10 hr10 hg10; have b8a : Below w8.heap.size w8 w10 := b89.grown hg10 b89.size (fun k e => (hr9.lt k e).1); have hsm := same_any v10 v6 (([] ++ xf) ++ zf) (xf ++ zf) w10 (FRow.of_own hr10) (r6.below b8a) (by show (xf ++ zf).length ≤ _; rw [List.length_append]; omega) (by rw [List.length_append]; omega)) | (go_at_call 13; refine hsm.mono ?_; rintro e w11 ⟨rfl, hb11⟩))
      go_ret
      exact ⟨ret_bool (by simp), (hbw8.trans (b8a.mono hbw8.size)).trans (hb11.mono (Nat.le_trans hbw8.size b8a.size))⟩
    · have hsame := cuts_bad t' herr
      rw [hsame] at hF2
      obtain ⟨R, hR⟩ : ∃ R, feedG b' dead s' = R := ⟨_, rfl⟩
      rw [hR] at hF1 hF2 herr hl1
      clear hsame hR hl2
      obtain ⟨xb, xd, xf, xe⟩ := R
      have hne : (xe != 0) = true := by simpa using herr
      have heqD : ∀ W, (binOp .eql 25 (.agg #[.string xb, .bool xd]) (.agg #[.string xb, .bool xd])).run Try.prog W = .ok (.bool true) W := fun W => by rw [run_eqlD]; simp
      clear herr
      go_wp2_with (first | (go_at_call 9; ((with_reducible refine (hF1 _).mono ?_)); rintro e w5 ⟨⟨v5, rfl, hr5⟩, hb5⟩; have bD5 := (hb5.block _ (Array.getElem?_eq_some_iff.1 bD).1).trans bD; have bD5' := (Below.heap_alloc w5 (.cells #[.string xb, .bool xd] 25) _ (Array.getElem?_eq_some_iff.1 bD5).1).trans bD5; obtain ⟨⟨i0, i1⟩, i2, i3⟩ := blk2 bD5'; have hbw5 := hbD.trans (hb5.mono hbD.size)) | (go_at_call 9; ((with_reducible refine (hF2 _).mono ?_)); rintro e w6 ⟨⟨v6, rfl, hr6⟩, hb6⟩; have bx6 := (hb6.block _ (by simp)).trans (heap_alloc_new w5 (.cells #[.string xb, .bool xd] 25)); have b56 : Below w5.heap.size w5 w6 := Below.behind hb6; have bx6' := (Below.heap_alloc w6 (.cells #[.string xb, .bool xd] 25) _ (Array.getElem?_eq_some_iff.1 bx6).1).trans bx6; have by6 := heap_alloc_new w6 (.cells #[.string xb, .bool xd] 25)) | (go_at_call 14; refine (alive_any _).mono ?_; rintro e w7 ⟨rfl, hb7⟩; have bx7 := (hb7.block _ (Array.getElem?_eq_some_iff.1 bx6').1).trans bx6'; have by7 := (hb7.block _ (by simp)).trans by6; obtain ⟨⟨j0, j1⟩, j2, j3⟩ := blk2 bx7; obtain ⟨⟨k0, k1⟩, k2, k3⟩ := blk2 by7; have b67 : Below w6.heap.size w6 w7 := Below.behind hb7; have b57 := b56.trans (b67.mono b56.size); have hbw7 := hbw5.trans (b57.mono hbw5.size); have hsm := same_any v5 v6 xf xf w7 ((FRow.of_own hr5).below b57) ((FRow.of_own hr6).below b67) (by omega) (by omega)) | (go_at_call 13; refine hsm.mono ?_; rintro e w8 ⟨rfl, hb8⟩))
      go_ret
      exact ⟨rfl, hbw7.trans (hb8.mono hbw7.size)⟩
end Go.Proofs.Ythkgflghiooboaa
