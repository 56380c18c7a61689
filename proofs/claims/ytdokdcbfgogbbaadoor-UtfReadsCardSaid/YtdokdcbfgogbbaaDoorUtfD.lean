/- The law UtfBack, walked. -/
import Derived.Test.YtdokdcbfgogbbaaDoorUtfC
import Derived.Deep.DeepCutAuto
namespace Go.Proofs.YtdokdcbfgogbbaaDoor
open Go.RowKit

theorem first_known : firstG ⟨#[195, 164, 120]⟩ = ⟨228, 2, 0⟩ := by
  rw [firstG_two (by decide) (by decide)]
  rfl
theorem valid_known : validG ⟨#[195, 164]⟩ = true :=
  validG_enc (r := 228) (by decide) rfl (fun i hi => by
    have hi2 : i < 2 := hi
    have : i = 0 ∨ i = 1 := by omega
    rcases this with rfl | rfl <;> rfl)

set_option maxHeartbeats 400000 in
theorem alive_any (w : World) (hT : Tab w) :
    Calls Tryd.prog 10 #[] w fun e w' => e = .returned (.bool true) ∧ Below w.heap.size w w' := by
  have h1 := first_at first_known w (by decide) hT
  have h2 : ∀ w', Below w.heap.size w w' → Calls Tryd.prog 15 #[.string ⟨#[195, 164]⟩] w' fun e w'' => e = .returned (.bool true) ∧ Below w'.heap.size w' w'' := by
    intro w' hb
    have := valid_any ⟨#[195, 164]⟩ w' (by decide) (hT.below hb)
    rw [valid_known] at this
    exact this
  go_enter Tryd.func10, Tryd.ntmps10
  go_wp2_with (first | (go_at_call 13; refine h1.mono ?_; rintro e w' ⟨rfl, hb⟩) | (go_at_call 15; refine (h2 _ (by assumption)).mono ?_; rintro e w2 ⟨rfl, hb2⟩))
  go_ret
  exact ⟨rfl, hb.trans (hb2.mono hb.size)⟩

theorem alive_at {w0 w : World} (hT : Tab w0) (hb : Below w0.heap.size w0 w) :
    Calls Tryd.prog 10 #[] w fun e w' => e = .returned (.bool true) ∧ Below w0.heap.size w0 w' := by
  refine (alive_any w (hT.below hb)).mono fun e w' ⟨he, hb'⟩ => ⟨he, hb.trans (hb'.mono hb.size)⟩

def textS (r : Int) : ByteArray := if letterB r then Utf8.encode r else ⟨#[]⟩
def textE (r : Int) : Int := if letterB r then 0 else 1
theorem text_any (r : Int) (w : World) (hT : Tab w) :
    Calls Tryd.prog 7 #[.int .i32 r] w fun e w' => e = .returned (.tuple #[.string (textS r), .int .i64 (textE r)]) ∧ Below w.heap.size w w' := by
  unfold textS textE
  cases hr : letterB r
  · exact text_no r hr w hT
  · exact text_yes r hr w hT
theorem textS_size (r : Int) : (textS r).size ≤ 4 := by
  unfold textS
  cases hr : letterB r
  · exact Nat.zero_le _
  · have := (enc_bytes hr).1
    have := sizeOf_bd r
    simp only [if_true]
    omega

theorem text_facts {r : Int} (hr : letterB r = true) (q : ByteArray) : (textS r).size = sizeOf r ∧ firstG (textS r ++ q) = ⟨r, sizeOf r, 0⟩ ∧ validG (textS r) = true ∧ ∀ k, k < sizeOf r → firstG ((textS r).extract 0 k) = ⟨0, 0, 2⟩ := by
  have e : textS r = Utf8.encode r := by unfold textS; rw [if_pos hr]
  obtain ⟨h1, h2⟩ := enc_bytes hr
  rw [e]
  refine ⟨h1, firstG_enc hr (by rw [ByteArray.size_append]; omega) (fun i hi => by rw [byteAt_left _ _ _ (by omega)]; exact h2 i hi), validG_enc hr h1 h2, fun k hk => ?_⟩
  refine firstG_cut hr (by rw [size_extract']; omega) (fun i hi => ?_)
  rw [size_extract'] at hi
  rw [byteAt_extract _ _ _ _ hi, Nat.zero_add]
  exact h2 i (by omega)
theorem textE_yes {r : Int} (hr : letterB r = true) : textE r = 0 := by unfold textE; rw [if_pos hr]
theorem textE_no {r : Int} (hr : letterB r = false) : textE r = 1 := by unfold textE; rw [hr]; rfl

theorem cut_short {s : ByteArray} (h : s.size ≤ 100) : s = s.extract 0 100 := by
  apply bytes_ext
  · rw [size_extract']; omega
  · intro i hi
    rw [byteAt_extract _ _ _ _ (by omega)]; congr 1; omega

set_option maxRecDepth 100000 in
set_option maxHeartbeats 400000 in
theorem back_any (r : Int) (s : ByteArray) (w : World) (hs : s.size ≤ maxLen) (hT : Tab w) :
    Calls Tryd.prog 5 #[.int .i32 r, .string s] w fun e w' => e = .returned (.bool true) ∧ Below w.heap.size w w' := by
  unfold maxLen at hs
  obtain ⟨q, hq⟩ : ∃ q, s.extract 0 100 = q := ⟨_, rfl⟩
  have HQ := hid hq
  have hqs : q.size ≤ 100 := by rw [← hq, size_extract']; omega
  clear hq
  go_enter Tryd.func5, Tryd.ntmps5
  go_upto_region 1 with fail
  go_cut [1] (fun v wx => v = .string q ∧ wx = w)
  case first =>
    go_wp2_with fail
    all_goals go_meet
    · exact ⟨congrArg Value.string HQ.out, rfl⟩
    · exact ⟨congrArg Value.string ((cut_short (by omega)).trans HQ.out), rfl⟩
  case rest =>
    obtain ⟨rfl, rfl⟩ := hcut
    obtain ⟨wo, rfl⟩ : ∃ wo : World, wo = wc := ⟨_, rfl⟩
    clear HQ hs
    have hTx := text_any r wo hT
    obtain ⟨te, hte⟩ : ∃ te, textE r = te := ⟨_, rfl⟩
    obtain ⟨T, hT1⟩ : ∃ T, textS r = T := ⟨_, rfl⟩
    rw [hte, hT1] at hTx
    have HTE := hid hte
    have HT1 := hid hT1
    clear hte hT1
    go_upto_if 30 with (go_at_call 7; refine hTx.mono ?_; rintro e w' ⟨rfl, hb⟩)
    go_cut [] (fun wx => Below wo.heap.size wo wx)
    case first =>
      clear hTx
      cases hr : letterB r
      · have h1 : (te == 0) = false := by rw [← HTE.out, textE_no hr]; rfl
        clear HTE HT1 hr
        go_wp2_with fail
        go_meet
        exact hb
      · obtain ⟨f1, f2, f3, f4⟩ := text_facts hr q
        have h1 : (te == 0) = true := by rw [← HTE.out, textE_yes hr]; rfl
        rw [HT1.out] at f1 f2 f3 f4
        have hz := sizeOf_bd r
        obtain ⟨m, hm⟩ : ∃ m, sizeOf r = m := ⟨_, rfl⟩
        rw [hm] at f1 f2 f4 hz
        clear HTE HT1 hr hm
        have f12 : (T ++ q).size = m + q.size := by rw [ByteArray.size_append, f1]
        have hF := first_at f2 w' (by unfold maxLen; omega) (hT.below hb)
        have hV := fun W (h : Below wo.heap.size wo W) => valid_any T W (by unfold maxLen; omega) (hT.below h)
        have hK := fun k (hk : k < m) W (h : Below wo.heap.size wo W) => first_at (f4 k hk) W (by unfold maxLen; rw [size_extract']; omega) (hT.below h)
        rw [f3] at hV
        have F12 := hid f12
        have F4 := hid f4
        clear f2 f3 f4 f12
        go_wp2_with (first | (go_at_call 13; refine hF.mono ?_; rintro e w2 ⟨rfl, hb2⟩) | (go_at_call 15; refine (hV _ (hb.trans (hb2.mono hb.size))).mono ?_; rintro e w3 ⟨rfl, hb3⟩))
        have hb30 := (hb.trans (hb2.mono hb.size)).trans (hb3.mono (hb.trans (hb2.mono hb.size)).size)
        clear hF hV hb hb2 hb3
        go_loopw [59] (fun i wr => ∃ k : Nat, k ≤ m ∧ i = .int .i64 k ∧ Below wo.heap.size wo wr) (fun i _ => m - (intOf i).toNat)
        case atStart => exact ⟨0, by omega, rfl, hb30⟩
        case round =>
          obtain ⟨k, hk, rfl, hbr⟩ := hrel
          by_cases hlt : k < m
          · have hc := hK k hlt wr hbr
            clear hK
            go_wp2_with (go_at_call 13; refine hc.mono ?_; rintro e w4 ⟨rfl, hb4⟩)
            go_roundw
            case rel => exact ⟨k + 1, by omega, by go_num, hbr.trans (hb4.mono hbr.size)⟩
            case measure => simp [intOf]; omega
          · clear hK
            go_wp2_with fail
            go_meet
            exact hbr
    case rest =>
      clear hTx HTE HT1 hb
      have hb := hcut
      clear hcut
      have hTd := hT.below hb
      have hA := fun W (h : Below wo.heap.size wo W) => alive_at hT h
      rcases firstG_cases q with ⟨x, hx, e, hl, hbq⟩ | ⟨e, _⟩ | ⟨n, e, hn⟩
      · have hF := first_at e wc (by unfold maxLen; omega) hTd
        have hX := fun W (h : Below wo.heap.size wo W) => text_yes x hx W (hT.below h)
        clear e
        have hxx : Utf8.encode x = q.extract 0 (sizeOf x) := by
          obtain ⟨h1, h2⟩ := enc_bytes hx
          apply bytes_ext
          · rw [size_extract']; omega
          · intro i hi
            rw [byteAt_extract _ _ _ _ (by omega), Nat.zero_add, h2 i (by omega), hbq i (by omega)]
        have HXX := hid hxx
        clear hxx hbq
        obtain ⟨m, hm⟩ : ∃ m, sizeOf x = m := ⟨_, rfl⟩
        rw [hm] at HXX hF hl
        clear hm
        go_wp2_with (first | (go_at_call 13; refine hF.mono ?_; rintro e w2 ⟨rfl, hb2⟩) | (go_at_call 7; refine (hX _ (hb.trans (hb2.mono hb.size))).mono ?_; rintro e w3 ⟨rfl, hb3⟩) | (go_at_call 10; refine (hA _ ((hb.trans (hb2.mono hb.size)).trans (hb3.mono (hb.trans (hb2.mono hb.size)).size))).mono ?_; rintro e w4 ⟨rfl, hb4⟩))
        go_ret
        exact ⟨ret_bool (by rw [HXX.out]; exact beq_self_eq_true _), hb4⟩
      · have hF := first_at e wc (by unfold maxLen; omega) hTd
        clear e
        go_wp2_with (first | (go_at_call 13; refine hF.mono ?_; rintro e w2 ⟨rfl, hb2⟩) | (go_at_call 10; refine (hA _ (hb.trans (hb2.mono hb.size))).mono ?_; rintro e w4 ⟨rfl, hb4⟩))
        go_ret
        exact ⟨rfl, hb4⟩
      · have hF := first_at e wc (by unfold maxLen; omega) hTd
        have hv : validG q = false := by rw [validG_step (by omega), e]; rfl
        have hV := fun W (h : Below wo.heap.size wo W) => valid_any q W (by unfold maxLen; omega) (hT.below h)
        rw [hv] at hV
        clear e hv
        go_wp2_with (first | (go_at_call 13; refine hF.mono ?_; rintro e w2 ⟨rfl, hb2⟩) | (go_at_call 10; refine (hA _ (hb.trans (hb2.mono hb.size))).mono ?_; rintro e w4 ⟨rfl, hb4⟩) | (go_at_call 15; refine (hV _ hb4).mono ?_; rintro e w5 ⟨rfl, hb5⟩))
        go_ret
        exact ⟨rfl, hb4.trans (hb5.mono hb4.size)⟩
end Go.Proofs.YtdokdcbfgogbbaaDoor
