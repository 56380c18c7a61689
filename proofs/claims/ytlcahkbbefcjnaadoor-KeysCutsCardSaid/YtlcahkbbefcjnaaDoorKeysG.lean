/- The law KeysCuts, walked. -/
import Derived.Test.YtlcahkbbefcjnaaDoorKeysF
namespace Go.Proofs.YtlcahkbbefcjnaaDoor
open Go.RowKit

theorem cut_all {s : ByteArray} {n : Nat} (h : s.size ≤ n) : s = s.extract 0 n := by
  apply bytes_ext
  · rw [size_extract']; omega
  · intro i hi
    rw [byteAt_extract _ _ _ _ (by omega), Nat.zero_add]

def bools : Array Value := #[.bool false, .bool true]

theorem dec_len (f : Bool) : ∀ (k : Nat) (s : ByteArray), s.size ≤ k → (decG s f).1.length ≤ s.size
  | 0, s, h => by rw [decG_nil f (by omega : s.size = 0)]; simp
  | k + 1, s, h => by
    by_cases h0 : s.size = 0
    · rw [decG_nil f h0]; simp
    · by_cases ht : (takeK s f).2 = 0
      · rw [decG_left ht]; simp
      · have hle := take_le f h0
        rw [decG_step h0 ht]
        have := dec_len f k (s.extract (takeK s f).2 s.size) (by rw [size_extract']; omega)
        rw [size_extract'] at this
        simp only [List.length_cons]
        omega

set_option maxRecDepth 100000 in
set_option maxHeartbeats 1000000 in
theorem kcuts_any (s t : ByteArray) (w : World) (h1 : s.size ≤ maxLen) (h2 : t.size ≤ maxLen) (hT : Tab w) (hW : TabW w) :
    Calls Tryd.prog 3 #[.string s, .string t] w fun e w' => e = .returned (.bool true) ∧ Below w.heap.size w w' := by
  unfold maxLen at h1 h2
  obtain ⟨s', hs'⟩ : ∃ s', s.extract 0 60 = s' := ⟨_, rfl⟩
  obtain ⟨t', ht'⟩ : ∃ t', t.extract 0 60 = t' := ⟨_, rfl⟩
  have z2 : s'.size ≤ 60 := by rw [← hs', size_extract']; omega
  have z3 : t'.size ≤ 60 := by rw [← ht', size_extract']; omega
  have HS := hid hs'
  have HT := hid ht'
  clear hs' ht'
  go_enter Tryd.func3, Tryd.ntmps3
  go_upto_region 1 with fail
  go_cut [0, 1] (fun v1 v2 wx => v1 = .string s' ∧ v2 = .string t' ∧ Below w.heap.size w wx)
  case first =>
    have k2 : ((s.size : Int) ≤ 60 ∧ Hid (s = s')) ∨ ((60 : Int) < s.size ∧ (60 : Int) ≤ s.size ∧ Hid (s.extract 0 60 = s')) := by
      rcases Nat.lt_or_ge 60 s.size with q | q
      · exact Or.inr ⟨by omega, by omega, HS⟩
      · exact Or.inl ⟨by omega, hid ((cut_all q).trans HS.out)⟩
    have k3 : ((t.size : Int) ≤ 60 ∧ Hid (t = t')) ∨ ((60 : Int) < t.size ∧ (60 : Int) ≤ t.size ∧ Hid (t.extract 0 60 = t')) := by
      rcases Nat.lt_or_ge 60 t.size with q | q
      · exact Or.inr ⟨by omega, by omega, HT⟩
      · exact Or.inl ⟨by omega, hid ((cut_all q).trans HT.out)⟩
    clear HS HT
    rcases k2 with ⟨p2, E2⟩ | ⟨p2, r2, E2⟩ <;> rcases k3 with ⟨p3, E3⟩ | ⟨p3, r3, E3⟩
    all_goals first | go_region | fail
    all_goals go_wp2
    all_goals go_meet
    all_goals exact ⟨congrArg _ E2.out, congrArg _ E3.out, by first | exact Below.refl _ _ | exact (Below.refl _ _).drew⟩
  case rest =>
    obtain ⟨rfl, rfl, hbel⟩ := hcut
    clear HS HT h1 h2
    have hd := fun p f W (hp : p.size ≤ 1000) (hb : Below w.heap.size w W) => decode_any p f W hp (hT.below hb) (hW.below hb)
    go_upto_region 3 with fail
    have hd0 := Box.new wc 4 #[.bool false, .bool true]
    have hbel0 := hbel.alloc hbel.size (.cells #[.bool false, .bool true] 4)
    generalize wc.alloc (.cells #[.bool false, .bool true] 4) = W at *
    have hN : w.heap.size ≤ wc.heap.size := hbel.size
    generalize wc.heap.size = N at *
    clear hbel
    go_loopw [25] (fun i wr => ∃ k : Nat, k ≤ 2 ∧ i = .int .i64 k ∧ Box wr N 4 #[.bool false, .bool true] ∧ Below w.heap.size w wr) (fun i _ => 2 - (intOf i).toNat)
    case atStart => exact ⟨0, by omega, rfl, hd0, hbel0⟩
    case round =>
      clear hd0 hbel0
      obtain ⟨k, hk, rfl, hbox, hbr⟩ := hrel
      by_cases hk2 : k < 2
      · obtain ⟨f, hf⟩ : ∃ f : Bool, wr.cell? ⟨N, k, none⟩ = some (.bool f) := by
          have hcs : k = 0 ∨ k = 1 := by omega
          rcases hcs with rfl | rfl
          · exact ⟨false, hbox.cell 0⟩
          · exact ⟨true, hbox.cell 1⟩
        have hki : (k : Int) < 2 := by omega
        have hcut := dec_cuts f t' s'.size s' (Nat.le_refl _)
        have hl1 := dec_len false s'.size s' (Nat.le_refl _)
        have hr1 := (dec_rest false s'.size s' (Nat.le_refl _)).1
        have e1 := hd s' false wr (by omega) hbr
        generalize decG s' false = D1 at *
        obtain ⟨L1, R1⟩ := D1
        simp only at hcut hl1 hr1 e1
        have zq : (R1 ++ t').size ≤ 70 := by rw [size_append']; omega
        have hl2 := dec_len f (R1 ++ t').size (R1 ++ t') (Nat.le_refl _)
        have e2 := fun W hb => hd (R1 ++ t') f W (by omega) hb
        generalize decG (R1 ++ t') f = D2 at *
        obtain ⟨L2, R2⟩ := D2
        simp only at hcut hl2 e2
        have zs : (s' ++ t').size ≤ 120 := by rw [size_append']; omega
        have hr3 := dec_rest f (s' ++ t').size (s' ++ t') (Nat.le_refl _)
        have e3 := fun W hb => hd (s' ++ t') f W (by omega) hb
        rw [hcut] at e3 hr3
        simp only at e3 hr3
        have hc1 : ∀ W, (Op.stringOp .add R1 t').run Tryd.prog W = .ok (.string (R1 ++ t')) W := fun W => run_string_add W _ _ (by omega) (by omega)
        have hc2 : ∀ W, (Op.stringOp .add s' t').run Tryd.prog W = .ok (.string (s' ++ t')) W := fun W => run_string_add W _ _ (by omega) (by omega)
        unfold DecIs at e1 e2 e3
        simp only at e1 e2 e3
        clear hcut hd
        go_upto_region 8 with (first
          | (go_at_call 6; (with_reducible refine e1.mono ?_); rintro e w1 ⟨⟨v1, rfl, o1⟩, b1⟩; have n1 := hbr.trans (b1.mono hbr.size); have x1 := hbox.below b1 hbox.lt)
          | (go_at_call 6; (with_reducible refine (e2 _ n1).mono ?_); rintro e w2 ⟨⟨v2, rfl, o2⟩, b2⟩; have n2 := n1.trans (b2.mono n1.size); have x2 := x1.below b2 x1.lt; have o1 := o1.kept b2)
          | (go_at_call 6; (with_reducible refine (e3 _ n2).mono ?_); rintro e w3 ⟨⟨v3, rfl, o3⟩, b3⟩; have n3 := n2.trans (b3.mono n2.size); have x3 := x2.below b3 x2.lt; have o1 := o1.kept b3; have o2 := o2.kept b3))
        have hr1i : (R1.size : Int) ≤ 10 := by omega
        have hr2i : (R2.size : Int) ≤ 10 := by have := hr3.1; omega
        have oE := OwnS.lit (W := w3) (base := w3.heap.size) [] (by decide) (Nat.le_refl _)
        have bE := (Below.refl w3.heap.size w3).alloc (Nat.le_refl _) (.cells #[] 9)
        have o1 := o1.kept bE
        have hR : f = true → R2 = ⟨#[]⟩ := fun h => empty_yes (hr3.2 h)
        have hL1 : L1.length ≤ 60 := by omega
        have hL2 : L2.length ≤ 70 := by omega
        clear e1 e2 e3 hc1 hc2 hr1 hr3 zq zs hl1 hl2
        cases f
        · clear hR
          go_wp2_with (first
            | (at_builtin; refine wpList_append_two rfl _ _ rfl w3.heap.size _ _ _ [] L1 rfl oE rfl o1 (by simp; omega) (by simp) ?_; intro v4 w4 o4 g4; have b4 := bE.trans (OwnS.below_grown oE g4 (by simp) (Nat.le_refl _)); have o2 := o2.kept b4)
            | (at_builtin; refine wpList_append_two rfl _ _ rfl w3.heap.size _ _ _ ([] ++ L1) L2 rfl o4 rfl o2 (by simp; omega) b4.size ?_; intro v5 w5 o5 g5; have b5 := b4.trans (OwnS.below_grown o4 g5 b4.size (Nat.le_refl _)); have o3 := o3.kept b5)
            | (go_at_call 7; refine (ssame_eq _ _ (L1 ++ L2) _ o5.srow o3.srow (by simp; omega)).mono ?_; rintro e w6 ⟨rfl, b6⟩))
          go_roundw
          case rel =>
            have n5 := n3.trans (b5.mono n3.size)
            exact ⟨k + 1, by omega, by go_num, (x3.below b5 x3.lt).below b6 (Nat.lt_of_lt_of_le x3.lt b5.size), n5.trans (b6.mono n5.size)⟩
          case measure => simp [intOf]; omega
        · obtain rfl := hR rfl
          clear hR
          go_wp2_with (first
            | (at_builtin; refine wpList_append_two rfl _ _ rfl w3.heap.size _ _ _ [] L1 rfl oE rfl o1 (by simp; omega) (by simp) ?_; intro v4 w4 o4 g4; have b4 := bE.trans (OwnS.below_grown oE g4 (by simp) (Nat.le_refl _)); have o2 := o2.kept b4)
            | (at_builtin; refine wpList_append_two rfl _ _ rfl w3.heap.size _ _ _ ([] ++ L1) L2 rfl o4 rfl o2 (by simp; omega) b4.size ?_; intro v5 w5 o5 g5; have b5 := b4.trans (OwnS.below_grown o4 g5 b4.size (Nat.le_refl _)); have o3 := o3.kept b5)
            | (go_at_call 7; refine (ssame_eq _ _ (L1 ++ L2) _ o5.srow o3.srow (by simp; omega)).mono ?_; rintro e w6 ⟨rfl, b6⟩))
          go_roundw
          case rel =>
            have n5 := n3.trans (b5.mono n3.size)
            exact ⟨k + 1, by omega, by go_num, (x3.below b5 x3.lt).below b6 (Nat.lt_of_lt_of_le x3.lt b5.size), n5.trans (b6.mono n5.size)⟩
          case measure => simp [intOf]; omega
      · obtain rfl : k = 2 := by omega
        have hal := alive3_any wr (hT.below hbr) (hW.below hbr)
        clear hd hbox
        go_wp2_with (go_at_call 8; refine hal.mono ?_; rintro e w2 ⟨rfl, hb2⟩)
        go_ret
        exact ⟨rfl, hbr.trans (hb2.mono hbr.size)⟩
end Go.Proofs.YtlcahkbbefcjnaaDoor
