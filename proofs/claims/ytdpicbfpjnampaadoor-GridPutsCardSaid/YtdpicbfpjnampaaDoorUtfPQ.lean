/- The document's own first letter, walked. -/
import Derived.Test.YtdpicbfpjnampaaDoorUtfOQ
namespace Go.Proofs.YtdpicbfpjnampaaDoor
open Go.RowKit

def Got.agg (g : Got) : Value := .agg #[.int .i32 g.r, .int .i64 g.n, .int .i64 g.e]

theorem value_any {t : ByteArray} (h1 : 1 ≤ t.size) (h4 : t.size ≤ 4) (hc : 2 ≤ t.size → ∀ i, 1 ≤ i → i < t.size → 128 ≤ byteAt t i ∧ byteAt t i ≤ 191) (w : World) :
    Calls Tryd.prog 82 #[.string t] w fun e w' => e = .returned (.int .i32 (valV t)) ∧ Below w.heap.size w w' := by
  by_cases h : t.size = 1
  · exact value_1 t h w
  · exact value_n t (by omega) h4 (hc (by omega)) w

theorem needG_bd (b : Int) : 0 ≤ needG b ∧ needG b ≤ 4 := by
  have : needG b = 1 ∨ needG b = 2 ∨ needG b = 3 ∨ needG b = 4 ∨ needG b = 0 := by
    unfold needG
    repeat' split
    all_goals simp
  omega

/-- The result's block: there, and free. -/
structure Res (W : World) (g : Nat) : Prop where
  lt : g < W.heap.size
  c0 : W.cell? ⟨g, 0, none⟩ = some (.int .i32 0)
  c1 : W.cell? ⟨g, 1, none⟩ = some (.int .i64 0)
  c2 : W.cell? ⟨g, 2, none⟩ = some (.int .i64 0)
  f0 : W.frozen? ⟨g, 0, none⟩ = false
  f1 : W.frozen? ⟨g, 1, none⟩ = false
  f2 : W.frozen? ⟨g, 2, none⟩ = false
theorem Res.below {W W' : World} {g B : Nat} (h : Res W g) (hb : Below B W W') (hg : g < B) : Res W' g :=
  ⟨Nat.lt_of_lt_of_le h.lt hb.size, (hb.cell (p := ⟨g, 0, none⟩) hg).trans h.c0, (hb.cell (p := ⟨g, 1, none⟩) hg).trans h.c1, (hb.cell (p := ⟨g, 2, none⟩) hg).trans h.c2,
    (hb.frozen (p := ⟨g, 0, none⟩) hg).trans h.f0, (hb.frozen (p := ⟨g, 1, none⟩) hg).trans h.f1, (hb.frozen (p := ⟨g, 2, none⟩) hg).trans h.f2⟩

set_option maxRecDepth 100000 in
set_option maxHeartbeats 800000 in
theorem refFirst_any (s : ByteArray) (w : World) (hs : s.size ≤ maxLen) :
    Calls Tryd.prog 58 #[.string s] w fun e w' => e = .returned (firstG s).agg ∧ Below w.heap.size w w' := by
  unfold maxLen at hs
  by_cases h0 : s.size = 0
  · have HG : Hid (firstG s = ⟨0, 0, 2⟩) := firstG_empty h0
    have hz : ((s.size : Int) == 0) = true := by rw [beq_iff_eq]; omega
    go_enter Tryd.func58, Tryd.ntmps58
    go_wp2_with fail
    refine bodyPost_ret (v := .agg #[.int .i32 0, .int .i64 0, .int .i64 2]) (by simp [results, Tryd.results58, go_sem]) rfl ⟨by rw [HG.out]; rfl, (Below.refl _ _).alloc (Nat.le_refl _) _⟩
  · have hz : ((s.size : Int) == 0) = false := by rw [beq_eq_false_iff_ne]; omega
    have hpos : 0 < s.size := by omega
    obtain ⟨n, hn⟩ : ∃ n : Nat, needG (byteAt s 0) = n := ⟨(needG (byteAt s 0)).toNat, by have := needG_bd (byteAt s 0); omega⟩
    have hn4 : n ≤ 4 := by have := needG_bd (byteAt s 0); omega
    have hld := need_any (s[0].toNat : Int) (by omega) (by have := UInt8.toNat_lt s[0]; omega)
    have hn' := hn
    rw [← byteAt_eq hpos] at hn'
    rw [hn'] at hld
    clear hn'
    by_cases hn0 : n = 0
    · subst hn0
      have HG : Hid (firstG s = ⟨0, 1, 4⟩) := needG_0 h0 hn
      clear hn
      go_enter Tryd.func58, Tryd.ntmps58
      go_wp2_with (go_at_call 80; refine (hld _).mono ?_; rintro e w' ⟨rfl, rfl⟩)
      refine bodyPost_ret (v := .agg #[.int .i32 0, .int .i64 1, .int .i64 4]) (by simp [results, Tryd.results58, go_sem]) rfl ⟨by rw [HG.out]; rfl, (Below.refl _ _).alloc (Nat.le_refl _) _⟩
    · have hnz : ((n : Int) == 0) = false := by rw [beq_eq_false_iff_ne]; omega
      have hEnd := hid (fun k (hk : RefEnd s n k) => (refG_is h0 hn hn0 hk).symm)
      clear hn
      have hn1 : 1 ≤ n := by omega
      clear hn0 h0
      have hres : ∀ o, Res (w.alloc (.cells #[.int .i32 0, .int .i64 0, .int .i64 0] o)) w.heap.size := fun o => ⟨by simp, by simp [World.cell?_alloc_new], by simp [World.cell?_alloc_new], by simp [World.cell?_alloc_new], by simp, by simp, by simp⟩
      go_enter Tryd.func58, Tryd.ntmps58
      go_wp2_with (go_at_call 80; refine (hld _).mono ?_; rintro e w' ⟨rfl, rfl⟩)
      go_loopw [4] (fun i wr => ∃ k : Nat, 1 ≤ k ∧ k ≤ n ∧ k ≤ s.size ∧ i = .int .i64 k ∧ (∀ j, 1 ≤ j → j < k → bR (s.extract 0 (j + 1)) n = true) ∧ Res wr w.heap.size ∧ Below w.heap.size w wr) (fun i _ => n - (intOf i).toNat)
      case atStart => exact ⟨1, by omega, by omega, by omega, rfl, fun j h1 h2 => absurd h2 (by omega), hres _, (Below.refl _ _).alloc (Nat.le_refl _) _⟩
      case round =>
        obtain ⟨k, hk1, hkn, hks, rfl, hB, hR, hb⟩ := hrel
        have hsz := hb.size
        have HB := hid hB
        clear hB hres hld
        by_cases hkn' : k = n
        · subst hkn'
          have hE : RefEnd s k k := ⟨hk1, hkn, hks, HB.out, fun h => absurd h (by omega)⟩
          have HG : Hid (firstG s = ⟨valV (s.extract 0 k), k, 0⟩) := by unfold Hid; rw [hEnd.out k hE]; unfold refG; rw [if_pos rfl]
          have hv := value_any (t := s.extract 0 k) (by rw [cut_size hks]; exact hk1) (by rw [cut_size hks]; exact hn4) (fun h2 => ref_conts hE (by rw [cut_size hks] at h2; exact h2)) wr
          clear hE hEnd HB
          obtain ⟨V, hV⟩ : ∃ V, valV (s.extract 0 k) = V := ⟨_, rfl⟩
          rw [hV] at HG hv
          clear hV
          have hlr := hb.size
          go_wp2_with (go_at_call 82; refine hv.mono ?_; rintro e w2 ⟨rfl, hb2⟩; have hR2 := hR.below hb2 hR.lt; obtain ⟨r1, r2, r3, r4, r5, r6, r7⟩ := hR2)
          have hb3 := hb.trans (hb2.mono hlr)
          refine bodyPost_ret (v := .agg #[.int .i32 V, .int .i64 k, .int .i64 0]) (by simp [results, Tryd.results58, go_sem, r2, r3, r4]) rfl ⟨by rw [HG.out]; rfl, ((hb3.setCell (Nat.le_refl _) _).setCell (Nat.le_refl _) _).setCell (Nat.le_refl _) _⟩
        · have hlt : k < n := by omega
          by_cases hke : k = s.size
          · have hE : RefEnd s n k := ⟨hk1, hkn, hks, HB.out, fun _ h => absurd h (by omega)⟩
            have HG : Hid (firstG s = ⟨0, 0, 2⟩) := by unfold Hid; rw [hEnd.out k hE]; unfold refG; rw [if_neg hkn', if_pos hke]
            clear hE hEnd HB
            have hq := hid hke
            have hkn2 : ((k : Int) == n) = false := by rw [beq_eq_false_iff_ne]; omega
            have hks2 : ((k : Int) == s.size) = true := by rw [beq_iff_eq]; omega
            have hnl : ¬ k < s.size := by omega
            clear hke
            obtain ⟨r1, r2, r3, r4, r5, r6, r7⟩ := hR
            go_wp2_with fail
            refine bodyPost_ret (v := .agg #[.int .i32 0, .int .i64 0, .int .i64 2]) (by simp [results, Tryd.results58, go_sem, r2, r3, r4]) rfl ⟨by rw [HG.out]; rfl, ((hb.setCell (Nat.le_refl _) _).setCell (Nat.le_refl _) _).setCell (Nat.le_refl _) _⟩
          · have hks' : k < s.size := by omega
            have hbg := begR_any (s.extract 0 (k + 1)) n (by rw [cut_size (by omega)]; omega) (by rw [cut_size (by omega)]; omega) hn4 wr
            cases hbv : bR (s.extract 0 (k + 1)) n
            · have hE : RefEnd s n k := ⟨hk1, hkn, hks, HB.out, fun _ _ => hbv⟩
              have HG : Hid (firstG s = ⟨0, k, 4⟩) := by unfold Hid; rw [hEnd.out k hE]; unfold refG; rw [if_neg hkn', if_neg hke]
              rw [hbv] at hbg
              clear hE hEnd HB hbv
              have hkn2 : ((k : Int) == n) = false := by rw [beq_eq_false_iff_ne]; omega
              have hks2 : ((k : Int) == s.size) = false := by rw [beq_eq_false_iff_ne]; omega
              clear hkn' hke
              go_wp2_with (go_at_call 81; refine hbg.mono ?_; rintro e w2 ⟨rfl, hb2⟩; have hR2 := hR.below hb2 hR.lt; obtain ⟨r1, r2, r3, r4, r5, r6, r7⟩ := hR2)
              have hb3 := hb.trans (hb2.mono hsz)
              refine bodyPost_ret (v := .agg #[.int .i32 0, .int .i64 k, .int .i64 4]) (by simp [results, Tryd.results58, go_sem, r2, r3, r4]) rfl ⟨by rw [HG.out]; rfl, ((hb3.setCell (Nat.le_refl _) _).setCell (Nat.le_refl _) _).setCell (Nat.le_refl _) _⟩
            · have HBV := hid hbv
              rw [hbv] at hbg
              clear hbv hEnd hkn' hke
              go_wp2_with (go_at_call 81; refine hbg.mono ?_; rintro e w2 ⟨rfl, hb2⟩)
              go_roundw
              case rel => exact ⟨k + 1, by omega, by omega, by omega, by go_num, fun j h1 h2 => by
                by_cases e : j = k
                · subst e; exact HBV.out
                · exact HB.out j h1 (by omega), hR.below hb2 hR.lt, hb.trans (hb2.mono hsz)⟩
              case measure => simp [intOf]; omega
end Go.Proofs.YtdpicbfpjnampaaDoor
