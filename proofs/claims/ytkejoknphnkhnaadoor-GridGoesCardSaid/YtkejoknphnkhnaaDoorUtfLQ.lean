/- The document's own beginnings of a letter, walked. -/
import Derived.Test.YtkejoknphnkhnaaDoorUtfKQ
import Derived.Deep.CutBlock
namespace Go.Proofs.YtkejoknphnkhnaaDoor
open Go.RowKit

def padI (s : ByteArray) (k : Nat) (x : Int) : List Int := bytesI s ++ List.replicate (k - s.size) x
theorem padI_length {s : ByteArray} {k : Nat} (x : Int) (h : s.size ≤ k) : (padI s k x).length = k := by
  unfold padI; rw [List.length_append, bytesI_length, List.length_replicate]; omega
theorem padI_step {s : ByteArray} {k : Nat} (x : Int) (h : s.size ≤ k) : padI s (k + 1) x = padI s k x ++ [x] := by
  unfold padI
  rw [show k + 1 - s.size = (k - s.size) + 1 by omega, List.replicate_succ', List.append_assoc]
theorem padI_at (s : ByteArray) {k : Nat} (x : Int) {i : Nat} (h : i < k) : (padI s k x).getD i 0 = if i < s.size then byteAt s i else x := by
  unfold padI
  rw [List.getD_eq_getElem?_getD]
  by_cases hi : i < s.size
  · rw [if_pos hi, List.getElem?_append_left (by rw [bytesI_length]; exact hi), ← bytesI_at, List.getD_eq_getElem?_getD]
  · rw [if_neg hi, List.getElem?_append_right (by rw [bytesI_length]; omega), bytesI_length, List.getElem?_replicate, if_pos (by omega)]; rfl

def sliceLen : Value → Nat | .slice _ n _ => n | _ => 0

def floorN (n : Nat) : Int := [0, 0, 128, 2048, 65536].getD n 0
def loV (s : ByteArray) (n : Nat) : Int := valV (mkB (padI s n 128))
def hiV (s : ByteArray) (n : Nat) : Int := valV (mkB (padI s n 191))
def begOk (s : ByteArray) (n : Nat) : Bool := decide (¬ (hiV s n < floorN n ∨ 1114111 < loV s n) ∧ (loV s n < 55296 ∨ 57343 < hiV s n))

theorem pad_value {s : ByteArray} {n : Nat} {x : Int} (hs2 : 2 ≤ s.size) (hsn : s.size ≤ n) (hn4 : n ≤ 4) (hx : 128 ≤ x ∧ x ≤ 191) (hc : ∀ i, 1 ≤ i → i < s.size → 128 ≤ byteAt s i ∧ byteAt s i ≤ 191) (w : World) :
    Calls Tryd.prog 98 #[.string (mkB (padI s n x))] w fun e w' => e = .returned (.int .i32 (valV (mkB (padI s n x)))) ∧ Below w.heap.size w w' := by
  have hz : (mkB (padI s n x)).size = n := by rw [mkB_size, padI_length x hsn]
  refine value_n _ (by omega) (by omega) (fun i h1 h2 => ?_) w
  rw [hz] at h2
  have e := padI_at s x h2
  rw [mkB_at _ i (by rw [padI_length x hsn]; exact h2)]
  · rw [e]
    split
    · exact hc i h1 (by assumption)
    · exact hx
  · rw [e]
    split
    · exact byteAt_bd s i
    · omega

theorem begOk_val {lo hi f : Int} {s : ByteArray} {n : Nat} (h1 : loV s n = lo) (h2 : hiV s n = hi) (h3 : floorN n = f) : begOk s n = decide (¬ (hi < f ∨ 1114111 < lo) ∧ (lo < 55296 ∨ 57343 < hi)) := by
  unfold begOk; rw [h1, h2, h3]

set_option maxRecDepth 100000 in
set_option maxHeartbeats 400000 in
theorem begR_bad (s : ByteArray) (n i : Nat) (hsn : s.size ≤ n) (hn4 : n ≤ 4) (h1 : 1 ≤ i) (hi : i < s.size) (hbad : byteAt s i < 128 ∨ 191 < byteAt s i) (w : World) :
    Calls Tryd.prog 97 #[.string s, .int .i64 n] w fun e w' => e = .returned (.bool false) ∧ Below w.heap.size w w' := by
  go_enter Tryd.func97, Tryd.ntmps97
  go_wp2_with fail
  go_loop [5] (fun v => ∃ k : Nat, 1 ≤ k ∧ k ≤ i ∧ v = .int .i64 k) (fun v => i - (intOf v).toNat)
  case atStart => exact ⟨1, by omega, by omega, rfl⟩
  case round =>
    obtain ⟨k, hk1, hki, rfl⟩ := hrel
    have hks : k < s.size := by omega
    have h255 := UInt8.toNat_lt s[k]
    by_cases hke : k = i
    · subst hke
      rw [← byteAt_eq hks] at hbad
      rcases hbad with hb | hb
      all_goals
        go_wp2_with fail
        go_ret
        exact ⟨rfl, Below.refl _ _⟩
    · by_cases c : 128 ≤ (s[k].toNat : Int) ∧ (s[k].toNat : Int) ≤ 191
      · obtain ⟨c1, c2⟩ := c
        go_wp2_with fail
        go_round
        case rel => exact ⟨k + 1, by omega, by omega, by go_num⟩
        case measure => simp [intOf]; omega
      · have c' : (s[k].toNat : Int) < 128 ∨ 191 < (s[k].toNat : Int) := by omega
        rcases c' with hb | hb
        all_goals
          go_wp2_with fail
          go_ret
          exact ⟨rfl, Below.refl _ _⟩

set_option maxRecDepth 100000 in
set_option maxHeartbeats 1600000 in
theorem begR_ok (s : ByteArray) (n : Nat) (hs2 : 2 ≤ s.size) (hsn : s.size ≤ n) (hn4 : n ≤ 4) (hc : ∀ i, 1 ≤ i → i < s.size → 128 ≤ byteAt s i ∧ byteAt s i ≤ 191) (w : World) :
    Calls Tryd.prog 97 #[.string s, .int .i64 n] w fun e w' => e = .returned (.bool (begOk s n)) ∧ Below w.heap.size w w' := by
  have hpv := fun (x : Int) (hx : 128 ≤ x ∧ x ≤ 191) => pad_value hs2 hsn hn4 hx hc
  have hcv := fun W => Lib.run_convert_string_bytes (P := Tryd.prog) W 9 100 5 s Tryd.underlying9 Tryd.underlying100 Tryd.underlying5
  go_enter Tryd.func97, Tryd.ntmps97
  go_wp2_with fail
  go_loop [5] (fun v => ∃ k : Nat, 1 ≤ k ∧ k ≤ s.size ∧ v = .int .i64 k) (fun v => s.size - (intOf v).toNat)
  case atStart => exact ⟨1, by omega, by omega, rfl⟩
  case round =>
    obtain ⟨k, hk1, hki, rfl⟩ := hrel
    by_cases hlt : k < s.size
    · have h255 := UInt8.toNat_lt s[k]
      obtain ⟨c1, c2⟩ := hc k hk1 hlt
      rw [← byteAt_eq hlt] at c1 c2
      clear hc
      go_wp2_with fail
      go_round
      case rel => exact ⟨k + 1, by omega, by omega, by go_num⟩
      case measure => simp [intOf]; omega
    · clear hc
      go_wp2_with fail
      clear hcv
      go_loopw [6, 7] (fun a b wr => ∃ q gl cl gm cm, s.size ≤ q ∧ q ≤ n ∧ a = .slice (some ⟨gl, 0, none⟩) q cl ∧ b = .slice (some ⟨gm, 0, none⟩) q cm ∧ gl ≠ gm ∧ CRow wr w.heap.size 1 gl q cl ((padI s q 128).map (Value.int .u8)) ∧ CRow wr w.heap.size 1 gm q cm ((padI s q 191).map (Value.int .u8)) ∧ Below w.heap.size w wr) (fun a _ _ => n - sliceLen a)
      case atStart =>
        have e : ∀ x, padI s s.size x = bytesI s := fun x => by unfold padI; rw [Nat.sub_self, List.replicate_zero, List.append_nil]
        have hz : (Lib.bytesWorld w 5 s).heap.size = w.heap.size + 1 := Lib.bytesWorld_size w _ s
        have hr1 := (bytesWorld_row (base := w.heap.size) 5 s (Nat.le_refl w.heap.size) (by omega)).below (B := w.heap.size + 1) (bytesWorld_below 5 s (by rw [hz]; exact Nat.le_refl _)) (by omega)
        have hr2 := bytesWorld_row (w := Lib.bytesWorld w 5 s) (base := w.heap.size) 5 s (by rw [hz]; omega) (by omega)
        have hb1 := (bytesWorld_below (B := w.heap.size) 5 s (Nat.le_refl w.heap.size)).trans (bytesWorld_below (w := Lib.bytesWorld w 5 s) 5 s (by rw [hz]; omega))
        refine ⟨s.size, _, _, _, _, Nat.le_refl _, hsn, rfl, rfl, ?_, by rw [e]; exact hr1, by rw [e]; exact hr2, hb1⟩
        rw [hz]; omega
      case round =>
        obtain ⟨q, gl, cl, gm, cm, hq1, hq2, rfl, rfl, hne, hl, hm, hb⟩ := hrel
        have hsz := hb.size
        by_cases hqn : q < n
        · have HNE := hid (show some gm ≠ some gl from fun e => hne (Option.some.inj e).symm)
          have C1 := hid (show ∀ x : Int, ∀ u ∈ [Value.int .u8 x], u.oneCell' = true from fun x u hu => by rw [List.mem_singleton.1 hu]; rfl)
          have C3 := hid (show q + 1 ≤ maxLen by unfold maxLen; omega)
          have C4 := hid (show (q + 1) * 1 ≤ 140737488355328 by omega)
          have HNEQ := hid hne
          clear hne
          go_wp2_with (first | (at_builtin; refine wpList_append_row rfl (.tmp 39) (.tmp 40) 100 rfl w.heap.size 5 (.int .u8 0) 1 1 Tryd.underlying100 A_info rfl (by decide) rfl (hl.alloc _) rfl rfl (cell_one_new _ _ _) (C1.out 128) C3.out C4.out ?_; intro g1 cap1 w1 hr1 hg1 hd1; have hm1 := (hm.alloc (.cells #[.int .u8 128] 5)).grown hg1 HNE.out) | (at_builtin; refine wpList_append_row rfl (.tmp 42) (.tmp 43) 100 rfl w.heap.size 5 (.int .u8 0) 1 1 Tryd.underlying100 A_info rfl (by decide) rfl (hm1.alloc _) rfl rfl (cell_one_new _ _ _) (C1.out 191) C3.out C4.out ?_; intro g2 cap2 w2 hr2 hg2 hd2))
          have a1 := hm.lt
          have a2 := hr1.lt
          have a3 := hl.lo
          have a4 := hm.lo
          have a5 := hg1.size
          have hgm : some g1 ≠ some gm := by
            rcases hd1 with rfl | hd
            · exact fun e => HNEQ.out (Option.some.inj e)
            · simp at hd ⊢; omega
          have hg12 : g1 ≠ g2 := by
            rcases hd2 with rfl | hd
            · exact fun e => hgm (congrArg some e)
            · simp at hd; omega
          have hb1 := (hb.alloc hsz (.cells #[.int .u8 128] 5)).trans (below_of_grown hg1 (by simp; omega) a3)
          have hb2 := (hb1.alloc hb1.size (.cells #[.int .u8 191] 5)).trans (below_of_grown hg2 (by have := hb1.size; simp; omega) a4)
          have hl2 := (hr1.alloc (.cells #[.int .u8 191] 5)).grown hg2 hgm
          go_roundw
          case rel =>
            refine ⟨q + 1, g1, cap1, g2, cap2, by omega, by omega, rfl, rfl, hg12, ?_, ?_, hb2⟩
            · rw [padI_step _ hq1, List.map_append]; exact hl2
            · rw [padI_step _ hq1, List.map_append]; exact hr2
          case measure =>
            show n - (q + 1) < n - q
            omega
        · obtain rfl : q = n := by omega
          have hcl := conv_row (P := Tryd.prog) (src := 100) (dst := 9) Tryd.underlying100 Tryd.underlying5 Tryd.underlying9 hl
          have hcm := fun W (h : CRow W w.heap.size 1 gm q cm ((padI s q 191).map (Value.int .u8))) => conv_row (P := Tryd.prog) (src := 100) (dst := 9) Tryd.underlying100 Tryd.underlying5 Tryd.underlying9 h
          have hfl : ∀ W : World, (W.alloc (.cells #[.int .i32 0, .int .i32 0, .int .i32 128, .int .i32 2048, .int .i32 65536] 21)).cell? ⟨W.heap.size, q, none⟩ = some (.int .i32 (floorN q)) := by
            intro W
            have : q = 2 ∨ q = 3 ∨ q = 4 := by omega
            rcases this with rfl | rfl | rfl <;> simp [World.cell?_alloc_new, floorN]
          have hv1 := hpv 128 (by omega) wr
          have hv2 := hpv 191 (by omega)
          obtain ⟨lo, hlo⟩ : ∃ lo, loV s q = lo := ⟨_, rfl⟩
          obtain ⟨hi, hhi⟩ : ∃ hi, hiV s q = hi := ⟨_, rfl⟩
          obtain ⟨f, hf⟩ : ∃ f, floorN q = f := ⟨_, rfl⟩
          have HB := hid (begOk_val hlo hhi hf)
          unfold loV at hlo
          unfold hiV at hhi
          rw [hlo] at hv1
          rw [hhi] at hv2
          rw [hf] at hfl
          clear hlo hhi hf hpv
          obtain ⟨T1, hT1⟩ : ∃ T1, mkB (padI s q 128) = T1 := ⟨_, rfl⟩
          obtain ⟨T2, hT2⟩ : ∃ T2, mkB (padI s q 191) = T2 := ⟨_, rfl⟩
          rw [hT1] at hv1 hcl
          rw [hT2] at hv2 hcm
          clear hT1 hT2
          have a4 := hm.lt
          by_cases d1 : hi < f
          · have HR : Hid (begOk s q = false) := by unfold Hid; rw [HB.out]; exact decide_eq_false (by omega)
            go_wp2_with (first | (go_at_call_of 98 (Value.string T1); refine hv1.mono ?_; rintro e w2 ⟨rfl, hb2⟩; have hcm2 := hcm _ (hm.below hb2 a4); have hb3 := hb.trans (hb2.mono hsz)) | (go_at_call_of 98 (Value.string T2); refine (hv2 _).mono ?_; rintro e w3 ⟨rfl, hb4⟩; have hb5 := hb3.trans (hb4.mono hb3.size)))
            go_ret
            exact ⟨ret_bool HR.out.symm, hb5.alloc hb5.size _⟩
          · by_cases d2 : 1114111 < lo
            · have HR : Hid (begOk s q = false) := by unfold Hid; rw [HB.out]; exact decide_eq_false (by omega)
              go_wp2_with (first | (go_at_call_of 98 (Value.string T1); refine hv1.mono ?_; rintro e w2 ⟨rfl, hb2⟩; have hcm2 := hcm _ (hm.below hb2 a4); have hb3 := hb.trans (hb2.mono hsz)) | (go_at_call_of 98 (Value.string T2); refine (hv2 _).mono ?_; rintro e w3 ⟨rfl, hb4⟩; have hb5 := hb3.trans (hb4.mono hb3.size)))
              go_ret
              exact ⟨ret_bool HR.out.symm, hb5.alloc hb5.size _⟩
            · by_cases d3 : lo < 55296
              · have HR : Hid (begOk s q = true) := by unfold Hid; rw [HB.out]; exact decide_eq_true (by omega)
                go_wp2_with (first | (go_at_call_of 98 (Value.string T1); refine hv1.mono ?_; rintro e w2 ⟨rfl, hb2⟩; have hcm2 := hcm _ (hm.below hb2 a4); have hb3 := hb.trans (hb2.mono hsz)) | (go_at_call_of 98 (Value.string T2); refine (hv2 _).mono ?_; rintro e w3 ⟨rfl, hb4⟩; have hb5 := hb3.trans (hb4.mono hb3.size)))
                go_ret
                exact ⟨ret_bool HR.out.symm, hb5.alloc hb5.size _⟩
              · have HR : Hid (begOk s q = decide (57343 < hi)) := by unfold Hid; rw [HB.out]; exact decide_eq_decide.2 (by omega)
                go_wp2_with (first | (go_at_call_of 98 (Value.string T1); refine hv1.mono ?_; rintro e w2 ⟨rfl, hb2⟩; have hcm2 := hcm _ (hm.below hb2 a4); have hb3 := hb.trans (hb2.mono hsz)) | (go_at_call_of 98 (Value.string T2); refine (hv2 _).mono ?_; rintro e w3 ⟨rfl, hb4⟩; have hb5 := hb3.trans (hb4.mono hb3.size)))
                go_ret
                exact ⟨ret_bool (by rw [HR.out, decide_eq_false (p := lo < 55296) (by omega)]; rfl), hb5.alloc hb5.size _⟩
end Go.Proofs.YtkejoknphnkhnaaDoor
