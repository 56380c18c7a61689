/- The document's own beginnings of a letter, walked. -/
/- Plain facts: the document's own first letter is the package's. -/
/- The document's own first letter, walked. -/
import Derived.Test.YteebbmmgbjpihaaDoorUtfKQ
import Derived.Deep.CutBlock
namespace Go.Proofs.YteebbmmgbjpihaaDoor
open Go.RowKit

def padI (s : ByteArray) (k : Nat) (x : Int) : List Int := bytesI s ++ List.replicate (k - s.size) x
theorem padI_length {s : ByteArray} {k : Nat} (x : Int) (h : s.size ≤ k) : (padI s k x).length = k := by
  unfold padI; rw [List.length_append, bytesI_length, List.length_replicate]; omega
theorem padI_step {s : ByteArray} {k : Nat} (x : Int) (h : s.size ≤ k) : padI s (k + 1) x = padI s k x ++ [x] := by
  unfold padI
  rw [show k + 1 - s.size = (k - s.size) + 1 by omega, List.replicate_succ', List.append_assoc]
theorem padI_at (s : ByteArray) {k : Nat} (x : Int) {i : Nat} (h : i < k) : (padI s k x).getD i 0 = if i < s.size then byteAt s i else x := by
  unfold padI
  rw [List.getD_eq_getElem?_getD]
  by_cases hi : i < s.size
  · rw [if_pos hi, List.getElem?_append_left (by rw [bytesI_length]; exact hi), ← bytesI_at, List.getD_eq_getElem?_getD]
  · rw [if_neg hi, List.getElem?_append_right (by rw [bytesI_length]; omega), bytesI_length, List.getElem?_replicate, if_pos (by omega)]; rfl

def sliceLen : Value → Nat | .slice _ n _ => n | _ => 0

def floorN (n : Nat) : Int := [0, 0, 128, 2048, 65536].getD n 0
def loV (s : ByteArray) (n : Nat) : Int := valV (mkB (padI s n 128))
def hiV (s : ByteArray) (n : Nat) : Int := valV (mkB (padI s n 191))
def begOk (s : ByteArray) (n : Nat) : Bool := decide (¬ (hiV s n < floorN n ∨ 1114111 < loV s n) ∧ (loV s n < 55296 ∨ 57343 < hiV s n))

theorem pad_value {s : ByteArray} {n : Nat} {x : Int} (hs2 : 2 ≤ s.size) (hsn : s.size ≤ n) (hn4 : n ≤ 4) (hx : 128 ≤ x ∧ x ≤ 191) (hc : ∀ i, 1 ≤ i → i < s.size → 128 ≤ byteAt s i ∧ byteAt s i ≤ 191) (w : World) :
    Calls Tryd.prog 58 #[.string (mkB (padI s n x))] w fun e w' => e = .returned (.int .i32 (valV (mkB (padI s n x)))) ∧ Below w.heap.size w w' := by
  have hz : (mkB (padI s n x)).size = n := by rw [mkB_size, padI_length x hsn]
  refine value_n _ (by omega) (by omega) (fun i h1 h2 => ?_) w
  rw [hz] at h2
  have e := padI_at s x h2
  rw [mkB_at _ i (by rw [padI_length x hsn]; exact h2)]
  · rw [e]
    split
    · exact hc i h1 (by assumption)
    · exact hx
  · rw [e]
    split
    · exact byteAt_bd s i
    · omega

theorem begOk_val {lo hi f : Int} {s : ByteArray} {n : Nat} (h1 : loV s n = lo) (h2 : hiV s n = hi) (h3 : floorN n = f) : begOk s n = decide (¬ (hi < f ∨ 1114111 < lo) ∧ (lo < 55296 ∨ 57343 < hi)) := by
  unfold begOk; rw [h1, h2, h3]

set_option maxRecDepth 100000 in
set_option maxHeartbeats 400000 in
theorem begR_bad (s : ByteArray) (n i : Nat) (hsn : s.size ≤ n) (hn4 : n ≤ 4) (h1 : 1 ≤ i) (hi : i < s.size) (hbad : byteAt s i < 128 ∨ 191 < byteAt s i) (w : World) :
    Calls Tryd.prog 57 #[.string s, .int .i64 n] w fun e w' => e = .returned (.bool false) ∧ Below w.heap.size w w' := by
  go_enter Tryd.func57, Tryd.ntmps57
  go_wp2_with fail
  go_loop [5] (fun v => ∃ k : Nat, 1 ≤ k ∧ k ≤ i ∧ v = .int .i64 k) (fun v => i - (intOf v).toNat)
  case atStart => exact ⟨1, by omega, by omega, rfl⟩
  case round =>
    obtain ⟨k, hk1, hki, rfl⟩ := hrel
    have hks : k < s.size := by omega
    have h255 := UInt8.toNat_lt s[k]
    by_cases hke : k = i
    · subst hke
      rw [← byteAt_eq hks] at hbad
      rcases hbad with hb | hb
      all_goals
        go_wp2_with fail
        go_ret
        exact ⟨rfl, Below.refl _ _⟩
    · by_cases c : 128 ≤ (s[k].toNat : Int) ∧ (s[k].toNat : Int) ≤ 191
      · obtain ⟨c1, c2⟩ := c
        go_wp2_with fail
        go_round
        case rel => exact ⟨k + 1, by omega, by omega, by go_num⟩
        case measure => simp [intOf]; omega
      · have c' : (s[k].toNat : Int) < 128 ∨ 191 < (s[k].toNat : Int) := by omega
        rcases c' with hb | hb
        all_goals
          go_wp2_with fail
          go_ret
          exact ⟨rfl, Below.refl _ _⟩

set_option maxRecDepth 100000 in
set_option maxHeartbeats 1600000 in
theorem begR_ok (s : ByteArray) (n : Nat) (hs2 : 2 ≤ s.size) (hsn : s.size ≤ n) (hn4 : n ≤ 4) (hc : ∀ i, 1 ≤ i → i < s.size → 128 ≤ byteAt s i ∧ byteAt s i ≤ 191) (w : World) :
    Calls Tryd.prog 57 #[.string s, .int .i64 n] w fun e w' => e = .returned (.bool (begOk s n)) ∧ Below w.heap.size w w' := by
  have hpv := fun (x : Int) (hx : 128 ≤ x ∧ x ≤ 191) => pad_value hs2 hsn hn4 hx hc
  have hcv := fun W => Lib.run_convert_string_bytes (P := Tryd.prog) W 9 81 5 s Tryd.underlying9 Tryd.underlying81 Tryd.underlying5
  go_enter Tryd.func57, Tryd.ntmps57
  go_wp2_with fail
  go_loop [5] (fun v => ∃ k : Nat, 1 ≤ k ∧ k ≤ s.size ∧ v = .int .i64 k) (fun v => s.size - (intOf v).toNat)
  case atStart => exact ⟨1, by omega, by omega, rfl⟩
  case round =>
    obtain ⟨k, hk1, hki, rfl⟩ := hrel
    by_cases hlt : k < s.size
    · have h255 := UInt8.toNat_lt s[k]
      obtain ⟨c1, c2⟩ := hc k hk1 hlt
      rw [← byteAt_eq hlt] at c1 c2
      clear hc
      go_wp2_with fail
      go_round
      case rel => exact ⟨k + 1, by omega, by omega, by go_num⟩
      case measure => simp [intOf]; omega
    · clear hc
      go_wp2_with fail
      clear hcv
      go_loopw [6, 7] (fun a b wr => ∃ q gl cl gm cm, s.size ≤ q ∧ q ≤ n ∧ a = .slice (some ⟨gl, 0, none⟩) q cl ∧ b = .slice (some ⟨gm, 0, none⟩) q cm ∧ gl ≠ gm ∧ CRow wr w.heap.size 1 gl q cl ((padI s q 128).map (Value.int .u8)) ∧ CRow wr w.heap.size 1 gm q cm ((padI s q 191).map (Value.int .u8)) ∧ Below w.heap.size w wr) (fun a _ _ => n - sliceLen a)
      case atStart =>
        have e : ∀ x, padI s s.size x = bytesI s := fun x => by unfold padI; rw [Nat.sub_self, List.replicate_zero, List.append_nil]
        have hz : (Lib.bytesWorld w 5 s).heap.size = w.heap.size + 1 := Lib.bytesWorld_size w _ s
        have hr1 := (bytesWorld_row (base := w.heap.size) 5 s (Nat.le_refl w.heap.size) (by omega)).below (B := w.heap.size + 1) (bytesWorld_below 5 s (by rw [hz]; exact Nat.le_refl _)) (by omega)
        have hr2 := bytesWorld_row (w := Lib.bytesWorld w 5 s) (base := w.heap.size) 5 s (by rw [hz]; omega) (by omega)
        have hb1 := (bytesWorld_below (B := w.heap.size) 5 s (Nat.le_refl w.heap.size)).trans (bytesWorld_below (w := Lib.bytesWorld w 5 s) 5 s (by rw [hz]; omega))
        refine ⟨s.size, _, _, _, _, Nat.le_refl _, hsn, rfl, rfl, ?_, by rw [e]; exact hr1, by rw [e]; exact hr2, hb1⟩
        rw [hz]; omega
      case round =>
        obtain ⟨q, gl, cl, gm, cm, hq1, hq2, rfl, rfl, hne, hl, hm, hb⟩ := hrel
        have hsz := hb.size
        by_cases hqn : q < n
        · have HNE := hid (show some gm ≠ some gl from fun e => hne (Option.some.inj e).symm)
          have C1 := hid (show ∀ x : Int, ∀ u ∈ [Value.int .u8 x], u.oneCell' = true from fun x u hu => by rw [List.mem_singleton.1 hu]; rfl)
          have C3 := hid (show q + 1 ≤ maxLen by unfold maxLen; omega)
          have C4 := hid (show (q + 1) * 1 ≤ 140737488355328 by omega)
          have HNEQ := hid hne
          clear hne
          go_wp2_with (first | (at_builtin; refine wpList_append_row rfl (.tmp 39) (.tmp 40) 81 rfl w.heap.size 5 (.int .u8 0) 1 1 Tryd.underlying81 A_info rfl (by decide) rfl (hl.alloc _) rfl rfl (cell_one_new _ _ _) (C1.out 128) C3.out C4.out ?_; intro g1 cap1 w1 hr1 hg1 hd1; have hm1 := (hm.alloc (.cells #[.int .u8 128] 5)).grown hg1 HNE.out) | (at_builtin; refine wpList_append_row rfl (.tmp 42) (.tmp 43) 81 rfl w.heap.size 5 (.int .u8 0) 1 1 Tryd.underlying81 A_info rfl (by decide) rfl (hm1.alloc _) rfl rfl (cell_one_new _ _ _) (C1.out 191) C3.out C4.out ?_; intro g2 cap2 w2 hr2 hg2 hd2))
          have a1 := hm.lt
          have a2 := hr1.lt
          have a3 := hl.lo
          have a4 := hm.lo
          have a5 := hg1.size
          have hgm : some g1 ≠ some gm := by
            rcases hd1 with rfl | hd
            · exact fun e => HNEQ.out (Option.some.inj e)
            · simp at hd ⊢; omega
          have hg12 : g1 ≠ g2 := by
            rcases hd2 with rfl | hd
            · exact fun e => hgm (congrArg some e)
            · simp at hd; omega
          have hb1 := (hb.alloc hsz (.cells #[.int .u8 128] 5)).trans (below_of_grown hg1 (by simp; omega) a3)
          have hb2 := (hb1.alloc hb1.size (.cells #[.int .u8 191] 5)).trans (below_of_grown hg2 (by have := hb1.size; simp; omega) a4)
          have hl2 := (hr1.alloc (.cells #[.int .u8 191] 5)).grown hg2 hgm
          go_roundw
          case rel =>
            refine ⟨q + 1, g1, cap1, g2, cap2, by omega, by omega, rfl, rfl, hg12, ?_, ?_, hb2⟩
            · rw [padI_step _ hq1, List.map_append]; exact hl2
            · rw [padI_step _ hq1, List.map_append]; exact hr2
          case measure =>
            show n - (q + 1) < n - q
            omega
        · obtain rfl : q = n := by omega
          have hcl := conv_row (P := Tryd.prog) (src := 81) (dst := 9) Tryd.underlying81 Tryd.underlying5 Tryd.underlying9 hl
          have hcm := fun W (h : CRow W w.heap.size 1 gm q cm ((padI s q 191).map (Value.int .u8))) => conv_row (P := Tryd.prog) (src := 81) (dst := 9) Tryd.underlying81 Tryd.underlying5 Tryd.underlying9 h
          have hfl : ∀ W : World, (W.alloc (.cells #[.int .i32 0, .int .i32 0, .int .i32 128, .int .i32 2048, .int .i32 65536] 21)).cell? ⟨W.heap.size, q, none⟩ = some (.int .i32 (floorN q)) := by
            intro W
            have : q = 2 ∨ q = 3 ∨ q = 4 := by omega
            rcases this with rfl | rfl | rfl <;> simp [World.cell?_alloc_new, floorN]
          have hv1 := hpv 128 (by omega) wr
          have hv2 := hpv 191 (by omega)
          obtain ⟨lo, hlo⟩ : ∃ lo, loV s q = lo := ⟨_, rfl⟩
          obtain ⟨hi, hhi⟩ : ∃ hi, hiV s q = hi := ⟨_, rfl⟩
          obtain ⟨f, hf⟩ : ∃ f, floorN q = f := ⟨_, rfl⟩
          have HB := hid (begOk_val hlo hhi hf)
          unfold loV at hlo
          unfold hiV at hhi
          rw [hlo] at hv1
          rw [hhi] at hv2
          rw [hf] at hfl
          clear hlo hhi hf hpv
          obtain ⟨T1, hT1⟩ : ∃ T1, mkB (padI s q 128) = T1 := ⟨_, rfl⟩
          obtain ⟨T2, hT2⟩ : ∃ T2, mkB (padI s q 191) = T2 := ⟨_, rfl⟩
          rw [hT1] at hv1 hcl
          rw [hT2] at hv2 hcm
          clear hT1 hT2
          have a4 := hm.lt
          by_cases d1 : hi < f
          · have HR : Hid (begOk s q = false) := by unfold Hid; rw [HB.out]; exact decide_eq_false (by omega)
            go_wp2_with (first | (go_at_call_of 58 (Value.string T1); refine hv1.mono ?_; rintro e w2 ⟨rfl, hb2⟩; have hcm2 := hcm _ (hm.below hb2 a4); have hb3 := hb.trans (hb2.mono hsz)) | (go_at_call_of 58 (Value.string T2); refine (hv2 _).mono ?_; rintro e w3 ⟨rfl, hb4⟩; have hb5 := hb3.trans (hb4.mono hb3.size)))
            go_ret
            exact ⟨ret_bool HR.out.symm, hb5.alloc hb5.size _⟩
          · by_cases d2 : 1114111 < lo
            · have HR : Hid (begOk s q = false) := by unfold Hid; rw [HB.out]; exact decide_eq_false (by omega)
              go_wp2_with (first | (go_at_call_of 58 (Value.string T1); refine hv1.mono ?_; rintro e w2 ⟨rfl, hb2⟩; have hcm2 := hcm _ (hm.below hb2 a4); have hb3 := hb.trans (hb2.mono hsz)) | (go_at_call_of 58 (Value.string T2); refine (hv2 _).mono ?_; rintro e w3 ⟨rfl, hb4⟩; have hb5 := hb3.trans (hb4.mono hb3.size)))
              go_ret
              exact ⟨ret_bool HR.out.symm, hb5.alloc hb5.size _⟩
            · by_cases d3 : lo < 55296
              · have HR : Hid (begOk s q = true) := by unfold Hid; rw [HB.out]; exact decide_eq_true (by omega)
                go_wp2_with (first | (go_at_call_of 58 (Value.string T1); refine hv1.mono ?_; rintro e w2 ⟨rfl, hb2⟩; have hcm2 := hcm _ (hm.below hb2 a4); have hb3 := hb.trans (hb2.mono hsz)) | (go_at_call_of 58 (Value.string T2); refine (hv2 _).mono ?_; rintro e w3 ⟨rfl, hb4⟩; have hb5 := hb3.trans (hb4.mono hb3.size)))
                go_ret
                exact ⟨ret_bool HR.out.symm, hb5.alloc hb5.size _⟩
              · have HR : Hid (begOk s q = decide (57343 < hi)) := by unfold Hid; rw [HB.out]; exact decide_eq_decide.2 (by omega)
                go_wp2_with (first | (go_at_call_of 58 (Value.string T1); refine hv1.mono ?_; rintro e w2 ⟨rfl, hb2⟩; have hcm2 := hcm _ (hm.below hb2 a4); have hb3 := hb.trans (hb2.mono hsz)) | (go_at_call_of 58 (Value.string T2); refine (hv2 _).mono ?_; rintro e w3 ⟨rfl, hb4⟩; have hb5 := hb3.trans (hb4.mono hb3.size)))
                go_ret
                exact ⟨ret_bool (by rw [HR.out, decide_eq_false (p := lo < 55296) (by omega)]; rfl), hb5.alloc hb5.size _⟩
end Go.Proofs.YteebbmmgbjpihaaDoor

namespace Go.Proofs.YteebbmmgbjpihaaDoor
open Go.RowKit

def contB (s : ByteArray) : Bool := decide (∀ i, i < s.size → 1 ≤ i → 128 ≤ byteAt s i ∧ byteAt s i ≤ 191)
def bR (s : ByteArray) (n : Nat) : Bool := contB s && begOk s n

theorem begR_any (s : ByteArray) (n : Nat) (hs2 : 2 ≤ s.size) (hsn : s.size ≤ n) (hn4 : n ≤ 4) (w : World) :
    Calls Tryd.prog 57 #[.string s, .int .i64 n] w fun e w' => e = .returned (.bool (bR s n)) ∧ Below w.heap.size w w' := by
  by_cases h : ∀ i, i < s.size → 1 ≤ i → 128 ≤ byteAt s i ∧ byteAt s i ≤ 191
  · have e : bR s n = begOk s n := by unfold bR contB; rw [decide_eq_true h]; rfl
    rw [e]
    exact begR_ok s n hs2 hsn hn4 (fun i h1 h2 => h i h2 h1) w
  · have e : bR s n = false := by unfold bR contB; rw [decide_eq_false h]; rfl
    rw [e]
    obtain ⟨i, hi⟩ := Classical.not_forall.1 h
    have hi1 : i < s.size := Classical.byContradiction fun hc => hi (fun h' => absurd h' hc)
    have hi2 : 1 ≤ i := Classical.byContradiction fun hc => hi (fun _ h' => absurd h' hc)
    exact begR_bad s n i hsn hn4 hi2 hi1 (by
      have : ¬ (128 ≤ byteAt s i ∧ byteAt s i ≤ 191) := fun hc => hi (fun _ _ => hc)
      omega) w

theorem pad_at {t : ByteArray} {n : Nat} {x : Int} (hx : 0 ≤ x ∧ x ≤ 255) (hn : t.size ≤ n) {i : Nat} (hi : i < n) : byteAt (mkB (padI t n x)) i = if i < t.size then byteAt t i else x := by
  have e := padI_at t x hi
  rw [mkB_at _ i (by rw [padI_length x hn]; exact hi), e]
  rw [e]
  split
  · exact byteAt_bd t i
  · exact hx
theorem pad_size {t : ByteArray} {n : Nat} {x : Int} (hn : t.size ≤ n) : (mkB (padI t n x)).size = n := by rw [mkB_size, padI_length x hn]

theorem valV_2 {t : ByteArray} (h : t.size = 2) : valV t = 64 * (byteAt t 0 - 192) + byteAt t 1 - 128 := by unfold valV; rw [h, if_neg (by decide)]; rfl
theorem valV_3 {t : ByteArray} (h : t.size = 3) : valV t = 64 * (64 * (byteAt t 0 - 224) + byteAt t 1 - 128) + byteAt t 2 - 128 := by unfold valV; rw [h, if_neg (by decide)]; rfl
theorem valV_4 {t : ByteArray} (h : t.size = 4) : valV t = 64 * (64 * (64 * (byteAt t 0 - 240) + byteAt t 1 - 128) + byteAt t 2 - 128) + byteAt t 3 - 128 := by unfold valV; rw [h, if_neg (by decide)]; rfl

theorem cut_at {s : ByteArray} {m i : Nat} (hm : m ≤ s.size) (hi : i < m) : byteAt (s.extract 0 m) i = byteAt s i := by
  rw [byteAt_extract _ _ _ _ (by omega), Nat.zero_add]
theorem cut_size {s : ByteArray} {m : Nat} (hm : m ≤ s.size) : (s.extract 0 m).size = m := by rw [size_extract']; omega

theorem contB_iff {s : ByteArray} {m : Nat} (hm : m ≤ s.size) : contB (s.extract 0 m) = true ↔ ∀ i, i < m → 1 ≤ i → 128 ≤ byteAt s i ∧ byteAt s i ≤ 191 := by
  unfold contB
  rw [decide_eq_true_iff, cut_size hm]
  exact ⟨fun h i hi h1 => by have := h i hi h1; rwa [cut_at hm hi] at this, fun h i hi h1 => by rw [cut_at hm hi]; exact h i hi h1⟩

theorem bR_iff {s : ByteArray} {m n : Nat} (hm : m ≤ s.size) : bR (s.extract 0 m) n = true ↔ (∀ i, i < m → 1 ≤ i → 128 ≤ byteAt s i ∧ byteAt s i ≤ 191) ∧ ¬ (hiV (s.extract 0 m) n < floorN n ∨ 1114111 < loV (s.extract 0 m) n) ∧ (loV (s.extract 0 m) n < 55296 ∨ 57343 < hiV (s.extract 0 m) n) := by
  unfold bR begOk
  rw [Bool.and_eq_true, contB_iff hm, decide_eq_true_iff]

theorem cutpad {s : ByteArray} {m n i : Nat} {x : Int} (hx : 0 ≤ x ∧ x ≤ 255) (hm : m ≤ s.size) (hn : m ≤ n) (hi : i < n) : byteAt (mkB (padI (s.extract 0 m) n x)) i = if i < m then byteAt s i else x := by
  rw [pad_at hx (by rw [cut_size hm]; exact hn) hi, cut_size hm]
  by_cases h : i < m
  · rw [if_pos h, if_pos h, cut_at hm h]
  · rw [if_neg h, if_neg h]
theorem pads_2 {s : ByteArray} {x : Int} {m : Nat} (hx : 0 ≤ x ∧ x ≤ 255) (hm : m ≤ s.size) (hn : m ≤ 2) : valV (mkB (padI (s.extract 0 m) 2 x)) = 64 * ((if 0 < m then byteAt s 0 else x) - 192) + (if 1 < m then byteAt s 1 else x) - 128 := by
  rw [valV_2 (pad_size (by rw [cut_size hm]; exact hn)), cutpad hx hm hn (by omega), cutpad hx hm hn (by omega)]
theorem pads_3 {s : ByteArray} {x : Int} {m : Nat} (hx : 0 ≤ x ∧ x ≤ 255) (hm : m ≤ s.size) (hn : m ≤ 3) : valV (mkB (padI (s.extract 0 m) 3 x)) = 64 * (64 * ((if 0 < m then byteAt s 0 else x) - 224) + (if 1 < m then byteAt s 1 else x) - 128) + (if 2 < m then byteAt s 2 else x) - 128 := by
  rw [valV_3 (pad_size (by rw [cut_size hm]; exact hn)), cutpad hx hm hn (by omega), cutpad hx hm hn (by omega), cutpad hx hm hn (by omega)]
theorem pads_4 {s : ByteArray} {x : Int} {m : Nat} (hx : 0 ≤ x ∧ x ≤ 255) (hm : m ≤ s.size) (hn : m ≤ 4) : valV (mkB (padI (s.extract 0 m) 4 x)) = 64 * (64 * (64 * ((if 0 < m then byteAt s 0 else x) - 240) + (if 1 < m then byteAt s 1 else x) - 128) + (if 2 < m then byteAt s 2 else x) - 128) + (if 3 < m then byteAt s 3 else x) - 128 := by
  rw [valV_4 (pad_size (by rw [cut_size hm]; exact hn)), cutpad hx hm hn (by omega), cutpad hx hm hn (by omega), cutpad hx hm hn (by omega), cutpad hx hm hn (by omega)]

theorem cont_2 {s : ByteArray} : (∀ i, i < 2 → 1 ≤ i → 128 ≤ byteAt s i ∧ byteAt s i ≤ 191) ↔ (128 ≤ byteAt s 1 ∧ byteAt s 1 ≤ 191) :=
  ⟨fun h => h 1 (by omega) (by omega), fun h i h1 h2 => by
    obtain rfl : i = 1 := by omega
    exact h⟩
theorem cont_3 {s : ByteArray} : (∀ i, i < 3 → 1 ≤ i → 128 ≤ byteAt s i ∧ byteAt s i ≤ 191) ↔ (128 ≤ byteAt s 1 ∧ byteAt s 1 ≤ 191) ∧ (128 ≤ byteAt s 2 ∧ byteAt s 2 ≤ 191) :=
  ⟨fun h => ⟨h 1 (by omega) (by omega), h 2 (by omega) (by omega)⟩, fun ⟨h, h'⟩ i h1 h2 => by
    have : i = 1 ∨ i = 2 := by omega
    rcases this with rfl | rfl <;> assumption⟩
theorem cont_4 {s : ByteArray} : (∀ i, i < 4 → 1 ≤ i → 128 ≤ byteAt s i ∧ byteAt s i ≤ 191) ↔ (128 ≤ byteAt s 1 ∧ byteAt s 1 ≤ 191) ∧ (128 ≤ byteAt s 2 ∧ byteAt s 2 ≤ 191) ∧ (128 ≤ byteAt s 3 ∧ byteAt s 3 ≤ 191) :=
  ⟨fun h => ⟨h 1 (by omega) (by omega), h 2 (by omega) (by omega), h 3 (by omega) (by omega)⟩, fun ⟨h, h', h''⟩ i h1 h2 => by
    have : i = 1 ∨ i = 2 ∨ i = 3 := by omega
    rcases this with rfl | rfl | rfl <;> assumption⟩

theorem bR_22 {s : ByteArray} (hm : 2 ≤ s.size) (h : 194 ≤ byteAt s 0 ∧ byteAt s 0 < 224) : bR (s.extract 0 2) 2 = true ↔ byteAt s 1 / 64 = 2 := by
  have b1 := byteAt_bd s 1
  rw [bR_iff hm, cont_2, loV, hiV, pads_2 (by omega) hm (by omega), pads_2 (by omega) hm (by omega)]
  simp [floorN]; omega
theorem bR_23 {s : ByteArray} (hm : 2 ≤ s.size) (h : 224 ≤ byteAt s 0 ∧ byteAt s 0 < 240) : bR (s.extract 0 2) 3 = true ↔ byteAt s 1 / 64 = 2 ∧ ((32 ≤ (byteAt s 0 - 224) * 64 + byteAt s 1 % 64 ∧ (byteAt s 0 - 224) * 64 + byteAt s 1 % 64 ≤ 863) ∨ 896 ≤ (byteAt s 0 - 224) * 64 + byteAt s 1 % 64) := by
  have b1 := byteAt_bd s 1
  rw [bR_iff hm, cont_2, loV, hiV, pads_3 (by omega) hm (by omega), pads_3 (by omega) hm (by omega)]
  simp [floorN]; omega
theorem bR_33 {s : ByteArray} (hm : 3 ≤ s.size) (h : 224 ≤ byteAt s 0 ∧ byteAt s 0 < 240) (h1 : byteAt s 1 / 64 = 2 ∧ ((32 ≤ (byteAt s 0 - 224) * 64 + byteAt s 1 % 64 ∧ (byteAt s 0 - 224) * 64 + byteAt s 1 % 64 ≤ 863) ∨ 896 ≤ (byteAt s 0 - 224) * 64 + byteAt s 1 % 64)) : bR (s.extract 0 3) 3 = true ↔ byteAt s 2 / 64 = 2 := by
  have b1 := byteAt_bd s 1
  have b2 := byteAt_bd s 2
  rw [bR_iff hm, cont_3, loV, hiV, pads_3 (by omega) hm (by omega), pads_3 (by omega) hm (by omega)]
  simp [floorN]; omega
theorem bR_24 {s : ByteArray} (hm : 2 ≤ s.size) : bR (s.extract 0 2) 4 = true ↔ byteAt s 1 / 64 = 2 ∧ 16 ≤ (byteAt s 0 - 240) * 64 + byteAt s 1 % 64 ∧ (byteAt s 0 - 240) * 64 + byteAt s 1 % 64 ≤ 271 := by
  have b1 := byteAt_bd s 1
  rw [bR_iff hm, cont_2, loV, hiV, pads_4 (by omega) hm (by omega), pads_4 (by omega) hm (by omega)]
  simp [floorN]; omega
theorem bR_34 {s : ByteArray} (hm : 3 ≤ s.size) (h1 : byteAt s 1 / 64 = 2 ∧ 16 ≤ (byteAt s 0 - 240) * 64 + byteAt s 1 % 64 ∧ (byteAt s 0 - 240) * 64 + byteAt s 1 % 64 ≤ 271) : bR (s.extract 0 3) 4 = true ↔ byteAt s 2 / 64 = 2 := by
  have b1 := byteAt_bd s 1
  have b2 := byteAt_bd s 2
  rw [bR_iff hm, cont_3, loV, hiV, pads_4 (by omega) hm (by omega), pads_4 (by omega) hm (by omega)]
  simp [floorN]; omega
theorem bR_44 {s : ByteArray} (hm : 4 ≤ s.size) (h1 : byteAt s 1 / 64 = 2 ∧ 16 ≤ (byteAt s 0 - 240) * 64 + byteAt s 1 % 64 ∧ (byteAt s 0 - 240) * 64 + byteAt s 1 % 64 ≤ 271) (h2 : byteAt s 2 / 64 = 2) : bR (s.extract 0 4) 4 = true ↔ byteAt s 3 / 64 = 2 := by
  have b1 := byteAt_bd s 1
  have b2 := byteAt_bd s 2
  have b3 := byteAt_bd s 3
  rw [bR_iff hm, cont_4, loV, hiV, pads_4 (by omega) hm (by omega), pads_4 (by omega) hm (by omega)]
  simp [floorN]; omega

/-- Where the document's loop ends. -/
def RefEnd (s : ByteArray) (n k : Nat) : Prop := 1 ≤ k ∧ k ≤ n ∧ k ≤ s.size ∧ (∀ j, 1 ≤ j → j < k → bR (s.extract 0 (j + 1)) n = true) ∧ (k < n → k < s.size → bR (s.extract 0 (k + 1)) n = false)

def refG (s : ByteArray) (n k : Nat) : Got := if k = n then ⟨valV (s.extract 0 n), n, 0⟩ else if k = s.size then ⟨0, 0, 2⟩ else ⟨0, k, 4⟩

theorem valV_1 {t : ByteArray} (h : t.size = 1) : valV t = byteAt t 0 := by unfold valV; rw [if_pos h]
theorem refG_1 {s : ByteArray} {k : Nat} (hs : s.size ≠ 0) (h : byteAt s 0 < 128) (hk : RefEnd s 1 k) : refG s 1 k = firstG s := by
  obtain ⟨h1, h2, h3, _⟩ := hk
  obtain rfl : k = 1 := by omega
  rw [firstG_one hs h]
  unfold refG
  rw [if_pos rfl, valV_1 (cut_size (by omega)), cut_at (by omega) (by omega)]; rfl
theorem refG_2 {s : ByteArray} {k : Nat} (hs : s.size ≠ 0) (h : 194 ≤ byteAt s 0 ∧ byteAt s 0 < 224) (hk : RefEnd s 2 k) : refG s 2 k = firstG s := by
  obtain ⟨h1, h2, h3, h4, h5⟩ := hk
  have b1 := byteAt_bd s 1
  rw [firstG_two hs h]
  unfold refG
  by_cases c1 : 1 = s.size
  · rw [if_pos c1, if_neg (by omega), if_pos (by omega)]
  · rw [if_neg c1]
    have e := bR_22 (s := s) (by omega) h
    have hk2 : k = 1 ∨ k = 2 := by omega
    rcases hk2 with rfl | rfl
    · have := h5 (by omega) (by omega)
      rw [if_neg (by omega), if_neg c1, if_neg (fun hq => by rw [e.2 hq] at this; cases this)]; rfl
    · have := e.1 (h4 1 (by omega) (by omega))
      rw [if_pos rfl, if_pos this, valV_2 (cut_size (by omega)), cut_at (by omega) (by omega), cut_at (by omega) (by omega)]
      exact got_ext (by omega) rfl rfl
theorem refG_3 {s : ByteArray} {k : Nat} (hs : s.size ≠ 0) (h : 224 ≤ byteAt s 0 ∧ byteAt s 0 < 240) (hk : RefEnd s 3 k) : refG s 3 k = firstG s := by
  obtain ⟨h1, h2, h3, h4, h5⟩ := hk
  have b1 := byteAt_bd s 1
  have b2 := byteAt_bd s 2
  rw [firstG_three hs h]
  unfold refG
  by_cases c1 : 1 = s.size
  · rw [if_pos c1, if_neg (by omega), if_pos (by omega)]
  · rw [if_neg c1]
    have e := bR_23 (s := s) (by omega) h
    by_cases hk1 : k = 1
    · subst hk1
      have := h5 (by omega) (by omega)
      rw [if_neg (by omega), if_neg c1, if_neg (fun hq => by rw [e.2 hq] at this; cases this)]; rfl
    · have d1 := e.1 (h4 1 (by omega) (by omega))
      rw [if_pos d1]
      by_cases c2 : 2 = s.size
      · rw [if_pos c2, if_neg (by omega), if_pos (by omega)]
      · rw [if_neg c2]
        have e2 := bR_33 (s := s) (by omega) h d1
        have hk2 : k = 2 ∨ k = 3 := by omega
        rcases hk2 with rfl | rfl
        · have := h5 (by omega) (by omega)
          rw [if_neg (by omega), if_neg c2, if_neg (fun hq => by rw [e2.2 hq] at this; cases this)]; rfl
        · have d2 := e2.1 (h4 2 (by omega) (by omega))
          rw [if_pos rfl, if_pos d2, valV_3 (cut_size (by omega)), cut_at (by omega) (by omega), cut_at (by omega) (by omega), cut_at (by omega) (by omega)]
          exact got_ext (by omega) rfl rfl
theorem refG_4 {s : ByteArray} {k : Nat} (hs : s.size ≠ 0) (h : 240 ≤ byteAt s 0 ∧ byteAt s 0 < 245) (hk : RefEnd s 4 k) : refG s 4 k = firstG s := by
  obtain ⟨h1, h2, h3, h4, h5⟩ := hk
  have b1 := byteAt_bd s 1
  have b2 := byteAt_bd s 2
  have b3 := byteAt_bd s 3
  rw [firstG_four hs h]
  unfold refG
  by_cases c1 : 1 = s.size
  · rw [if_pos c1, if_neg (by omega), if_pos (by omega)]
  · rw [if_neg c1]
    have e := bR_24 (s := s) (by omega)
    by_cases hk1 : k = 1
    · subst hk1
      have := h5 (by omega) (by omega)
      rw [if_neg (by omega), if_neg c1, if_neg (fun hq => by rw [e.2 hq] at this; cases this)]; rfl
    · have d1 := e.1 (h4 1 (by omega) (by omega))
      rw [if_pos d1]
      by_cases c2 : 2 = s.size
      · rw [if_pos c2, if_neg (by omega), if_pos (by omega)]
      · rw [if_neg c2]
        have e2 := bR_34 (s := s) (by omega) d1
        by_cases hk2 : k = 2
        · subst hk2
          have := h5 (by omega) (by omega)
          rw [if_neg (by omega), if_neg c2, if_neg (fun hq => by rw [e2.2 hq] at this; cases this)]; rfl
        · have d2 := e2.1 (h4 2 (by omega) (by omega))
          rw [if_pos d2]
          by_cases c3 : 3 = s.size
          · rw [if_pos c3, if_neg (by omega), if_pos (by omega)]
          · rw [if_neg c3]
            have e3 := bR_44 (s := s) (by omega) d1 d2
            have hk3 : k = 3 ∨ k = 4 := by omega
            rcases hk3 with rfl | rfl
            · have := h5 (by omega) (by omega)
              rw [if_neg (by omega), if_neg c3, if_neg (fun hq => by rw [e3.2 hq] at this; cases this)]; rfl
            · have d3 := e3.1 (h4 3 (by omega) (by omega))
              rw [if_pos rfl, if_pos d3, valV_4 (cut_size (by omega)), cut_at (by omega) (by omega), cut_at (by omega) (by omega), cut_at (by omega) (by omega), cut_at (by omega) (by omega)]
              exact got_ext (by omega) rfl rfl

/-- How many bytes the document asks for, and where its loop ends: the package's first letter. -/
theorem refG_is {s : ByteArray} {n k : Nat} (hs : s.size ≠ 0) (hn : needG (byteAt s 0) = n) (hn1 : n ≠ 0) (hk : RefEnd s n k) : refG s n k = firstG s := by
  have b0 := byteAt_bd s 0
  unfold needG at hn
  by_cases c1 : byteAt s 0 < 128
  · rw [if_pos c1] at hn
    obtain rfl : n = 1 := by omega
    exact refG_1 hs c1 hk
  · rw [if_neg c1] at hn
    by_cases c2 : 194 ≤ byteAt s 0 ∧ byteAt s 0 < 224
    · rw [if_pos c2] at hn
      obtain rfl : n = 2 := by omega
      exact refG_2 hs c2 hk
    · rw [if_neg c2] at hn
      by_cases c3 : 224 ≤ byteAt s 0 ∧ byteAt s 0 < 240
      · rw [if_pos c3] at hn
        obtain rfl : n = 3 := by omega
        exact refG_3 hs c3 hk
      · rw [if_neg c3] at hn
        by_cases c4 : 240 ≤ byteAt s 0 ∧ byteAt s 0 < 245
        · rw [if_pos c4] at hn
          obtain rfl : n = 4 := by omega
          exact refG_4 hs c4 hk
        · rw [if_neg c4] at hn; omega
theorem needG_0 {s : ByteArray} (hs : s.size ≠ 0) (hn : needG (byteAt s 0) = 0) : firstG s = ⟨0, 1, 4⟩ := by
  have b0 := byteAt_bd s 0
  refine firstG_bad hs ?_
  unfold needG at hn
  by_cases c1 : byteAt s 0 < 128
  · rw [if_pos c1] at hn; omega
  · rw [if_neg c1] at hn
    by_cases c2 : 194 ≤ byteAt s 0 ∧ byteAt s 0 < 224
    · rw [if_pos c2] at hn; omega
    · rw [if_neg c2] at hn
      by_cases c3 : 224 ≤ byteAt s 0 ∧ byteAt s 0 < 240
      · rw [if_pos c3] at hn; omega
      · rw [if_neg c3] at hn
        by_cases c4 : 240 ≤ byteAt s 0 ∧ byteAt s 0 < 245
        · rw [if_pos c4] at hn; omega
        · omega
/-- Where its loop ends at the whole of a letter, every byte behind the first may go on. -/
theorem ref_conts {s : ByteArray} {n : Nat} (h : RefEnd s n n) (hn : 2 ≤ n) : ∀ i, 1 ≤ i → i < (s.extract 0 n).size → 128 ≤ byteAt (s.extract 0 n) i ∧ byteAt (s.extract 0 n) i ≤ 191 := by
  obtain ⟨_, _, h3, h4, _⟩ := h
  have := h4 (n - 1) (by omega) (by omega)
  rw [show n - 1 + 1 = n by omega] at this
  have hc := ((bR_iff h3).1 this).1
  intro i h1 h2
  rw [cut_size h3] at h2
  rw [cut_at h3 h2]
  exact hc i h2 h1
end Go.Proofs.YteebbmmgbjpihaaDoor

namespace Go.Proofs.YteebbmmgbjpihaaDoor
open Go.RowKit

def Got.agg (g : Got) : Value := .agg #[.int .i32 g.r, .int .i64 g.n, .int .i64 g.e]

theorem value_any {t : ByteArray} (h1 : 1 ≤ t.size) (h4 : t.size ≤ 4) (hc : 2 ≤ t.size → ∀ i, 1 ≤ i → i < t.size → 128 ≤ byteAt t i ∧ byteAt t i ≤ 191) (w : World) :
    Calls Tryd.prog 58 #[.string t] w fun e w' => e = .returned (.int .i32 (valV t)) ∧ Below w.heap.size w w' := by
  by_cases h : t.size = 1
  · exact value_1 t h w
  · exact value_n t (by omega) h4 (hc (by omega)) w

theorem needG_bd (b : Int) : 0 ≤ needG b ∧ needG b ≤ 4 := by
  have : needG b = 1 ∨ needG b = 2 ∨ needG b = 3 ∨ needG b = 4 ∨ needG b = 0 := by
    unfold needG
    repeat' split
    all_goals simp
  omega

/-- The result's block: there, and free. -/
structure Res (W : World) (g : Nat) : Prop where
  lt : g < W.heap.size
  c0 : W.cell? ⟨g, 0, none⟩ = some (.int .i32 0)
  c1 : W.cell? ⟨g, 1, none⟩ = some (.int .i64 0)
  c2 : W.cell? ⟨g, 2, none⟩ = some (.int .i64 0)
  f0 : W.frozen? ⟨g, 0, none⟩ = false
  f1 : W.frozen? ⟨g, 1, none⟩ = false
  f2 : W.frozen? ⟨g, 2, none⟩ = false
theorem Res.below {W W' : World} {g B : Nat} (h : Res W g) (hb : Below B W W') (hg : g < B) : Res W' g :=
  ⟨Nat.lt_of_lt_of_le h.lt hb.size, (hb.cell (p := ⟨g, 0, none⟩) hg).trans h.c0, (hb.cell (p := ⟨g, 1, none⟩) hg).trans h.c1, (hb.cell (p := ⟨g, 2, none⟩) hg).trans h.c2,
    (hb.frozen (p := ⟨g, 0, none⟩) hg).trans h.f0, (hb.frozen (p := ⟨g, 1, none⟩) hg).trans h.f1, (hb.frozen (p := ⟨g, 2, none⟩) hg).trans h.f2⟩

set_option maxRecDepth 100000 in
set_option maxHeartbeats 800000 in
theorem refFirst_any (s : ByteArray) (w : World) (hs : s.size ≤ maxLen) :
    Calls Tryd.prog 47 #[.string s] w fun e w' => e = .returned (firstG s).agg ∧ Below w.heap.size w w' := by
  unfold maxLen at hs
  by_cases h0 : s.size = 0
  · have HG : Hid (firstG s = ⟨0, 0, 2⟩) := firstG_empty h0
    have hz : ((s.size : Int) == 0) = true := by rw [beq_iff_eq]; omega
    go_enter Tryd.func47, Tryd.ntmps47
    go_wp2_with fail
    refine bodyPost_ret (v := .agg #[.int .i32 0, .int .i64 0, .int .i64 2]) (by simp [results, Tryd.results47, go_sem]) rfl ⟨by rw [HG.out]; rfl, (Below.refl _ _).alloc (Nat.le_refl _) _⟩
  · have hz : ((s.size : Int) == 0) = false := by rw [beq_eq_false_iff_ne]; omega
    have hpos : 0 < s.size := by omega
    obtain ⟨n, hn⟩ : ∃ n : Nat, needG (byteAt s 0) = n := ⟨(needG (byteAt s 0)).toNat, by have := needG_bd (byteAt s 0); omega⟩
    have hn4 : n ≤ 4 := by have := needG_bd (byteAt s 0); omega
    have hld := need_any (s[0].toNat : Int) (by omega) (by have := UInt8.toNat_lt s[0]; omega)
    have hn' := hn
    rw [← byteAt_eq hpos] at hn'
    rw [hn'] at hld
    clear hn'
    by_cases hn0 : n = 0
    · subst hn0
      have HG : Hid (firstG s = ⟨0, 1, 4⟩) := needG_0 h0 hn
      clear hn
      go_enter Tryd.func47, Tryd.ntmps47
      go_wp2_with (go_at_call 56; refine (hld _).mono ?_; rintro e w' ⟨rfl, rfl⟩)
      refine bodyPost_ret (v := .agg #[.int .i32 0, .int .i64 1, .int .i64 4]) (by simp [results, Tryd.results47, go_sem]) rfl ⟨by rw [HG.out]; rfl, (Below.refl _ _).alloc (Nat.le_refl _) _⟩
    · have hnz : ((n : Int) == 0) = false := by rw [beq_eq_false_iff_ne]; omega
      have hEnd := hid (fun k (hk : RefEnd s n k) => (refG_is h0 hn hn0 hk).symm)
      clear hn
      have hn1 : 1 ≤ n := by omega
      clear hn0 h0
      have hres : ∀ o, Res (w.alloc (.cells #[.int .i32 0, .int .i64 0, .int .i64 0] o)) w.heap.size := fun o => ⟨by simp, by simp [World.cell?_alloc_new], by simp [World.cell?_alloc_new], by simp [World.cell?_alloc_new], by simp, by simp, by simp⟩
      go_enter Tryd.func47, Tryd.ntmps47
      go_wp2_with (go_at_call 56; refine (hld _).mono ?_; rintro e w' ⟨rfl, rfl⟩)
      go_loopw [4] (fun i wr => ∃ k : Nat, 1 ≤ k ∧ k ≤ n ∧ k ≤ s.size ∧ i = .int .i64 k ∧ (∀ j, 1 ≤ j → j < k → bR (s.extract 0 (j + 1)) n = true) ∧ Res wr w.heap.size ∧ Below w.heap.size w wr) (fun i _ => n - (intOf i).toNat)
      case atStart => exact ⟨1, by omega, by omega, by omega, rfl, fun j h1 h2 => absurd h2 (by omega), hres _, (Below.refl _ _).alloc (Nat.le_refl _) _⟩
      case round =>
        obtain ⟨k, hk1, hkn, hks, rfl, hB, hR, hb⟩ := hrel
        have hsz := hb.size
        have HB := hid hB
        clear hB hres hld
        by_cases hkn' : k = n
        · subst hkn'
          have hE : RefEnd s k k := ⟨hk1, hkn, hks, HB.out, fun h => absurd h (by omega)⟩
          have HG : Hid (firstG s = ⟨valV (s.extract 0 k), k, 0⟩) := by unfold Hid; rw [hEnd.out k hE]; unfold refG; rw [if_pos rfl]
          have hv := value_any (t := s.extract 0 k) (by rw [cut_size hks]; exact hk1) (by rw [cut_size hks]; exact hn4) (fun h2 => ref_conts hE (by rw [cut_size hks] at h2; exact h2)) wr
          clear hE hEnd HB
          obtain ⟨V, hV⟩ : ∃ V, valV (s.extract 0 k) = V := ⟨_, rfl⟩
          rw [hV] at HG hv
          clear hV
          have hlr := hb.size
          go_wp2_with (go_at_call 58; refine hv.mono ?_; rintro e w2 ⟨rfl, hb2⟩; have hR2 := hR.below hb2 hR.lt; obtain ⟨r1, r2, r3, r4, r5, r6, r7⟩ := hR2)
          have hb3 := hb.trans (hb2.mono hlr)
          refine bodyPost_ret (v := .agg #[.int .i32 V, .int .i64 k, .int .i64 0]) (by simp [results, Tryd.results47, go_sem, r2, r3, r4]) rfl ⟨by rw [HG.out]; rfl, ((hb3.setCell (Nat.le_refl _) _).setCell (Nat.le_refl _) _).setCell (Nat.le_refl _) _⟩
        · have hlt : k < n := by omega
          by_cases hke : k = s.size
          · have hE : RefEnd s n k := ⟨hk1, hkn, hks, HB.out, fun _ h => absurd h (by omega)⟩
            have HG : Hid (firstG s = ⟨0, 0, 2⟩) := by unfold Hid; rw [hEnd.out k hE]; unfold refG; rw [if_neg hkn', if_pos hke]
            clear hE hEnd HB
            have hq := hid hke
            have hkn2 : ((k : Int) == n) = false := by rw [beq_eq_false_iff_ne]; omega
            have hks2 : ((k : Int) == s.size) = true := by rw [beq_iff_eq]; omega
            have hnl : ¬ k < s.size := by omega
            clear hke
            obtain ⟨r1, r2, r3, r4, r5, r6, r7⟩ := hR
            go_wp2_with fail
            refine bodyPost_ret (v := .agg #[.int .i32 0, .int .i64 0, .int .i64 2]) (by simp [results, Tryd.results47, go_sem, r2, r3, r4]) rfl ⟨by rw [HG.out]; rfl, ((hb.setCell (Nat.le_refl _) _).setCell (Nat.le_refl _) _).setCell (Nat.le_refl _) _⟩
          · have hks' : k < s.size := by omega
            have hbg := begR_any (s.extract 0 (k + 1)) n (by rw [cut_size (by omega)]; omega) (by rw [cut_size (by omega)]; omega) hn4 wr
            cases hbv : bR (s.extract 0 (k + 1)) n
            · have hE : RefEnd s n k := ⟨hk1, hkn, hks, HB.out, fun _ _ => hbv⟩
              have HG : Hid (firstG s = ⟨0, k, 4⟩) := by unfold Hid; rw [hEnd.out k hE]; unfold refG; rw [if_neg hkn', if_neg hke]
              rw [hbv] at hbg
              clear hE hEnd HB hbv
              have hkn2 : ((k : Int) == n) = false := by rw [beq_eq_false_iff_ne]; omega
              have hks2 : ((k : Int) == s.size) = false := by rw [beq_eq_false_iff_ne]; omega
              clear hkn' hke
              go_wp2_with (go_at_call 57; refine hbg.mono ?_; rintro e w2 ⟨rfl, hb2⟩; have hR2 := hR.below hb2 hR.lt; obtain ⟨r1, r2, r3, r4, r5, r6, r7⟩ := hR2)
              have hb3 := hb.trans (hb2.mono hsz)
              refine bodyPost_ret (v := .agg #[.int .i32 0, .int .i64 k, .int .i64 4]) (by simp [results, Tryd.results47, go_sem, r2, r3, r4]) rfl ⟨by rw [HG.out]; rfl, ((hb3.setCell (Nat.le_refl _) _).setCell (Nat.le_refl _) _).setCell (Nat.le_refl _) _⟩
            · have HBV := hid hbv
              rw [hbv] at hbg
              clear hbv hEnd hkn' hke
              go_wp2_with (go_at_call 57; refine hbg.mono ?_; rintro e w2 ⟨rfl, hb2⟩)
              go_roundw
              case rel => exact ⟨k + 1, by omega, by omega, by omega, by go_num, fun j h1 h2 => by
                by_cases e : j = k
                · subst e; exact HBV.out
                · exact HB.out j h1 (by omega), hR.below hb2 hR.lt, hb.trans (hb2.mono hsz)⟩
              case measure => simp [intOf]; omega
end Go.Proofs.YteebbmmgbjpihaaDoor
