/- The reference of layer 4: what asks for a look. -/
import Derived.Test.YtlcahkbbefcjnaaCellR
import Derived.Test.YtlcahkbbefcjnaaInts
import Derived.Deep.DeepCutAuto
import Derived.Lib.QuietBelow
import Derived.Deep.CutBlock
import Derived.IntWalk
namespace Go.Proofs.Ytlcahkbbefcjnaa
open Go.RowKit

def OwnE (base : Nat) (l : List Int) (e : Ending) (w' : World) : Prop := ∃ v, e = .returned v ∧ OwnI w' base v l

set_option maxRecDepth 100000 in
set_option maxHeartbeats 1000000 in
theorem rAsk_any (a : At) (w : World) (hl : lookB a = true) :
    Calls Try.prog 9 #[a.agg] w fun e w' => OwnE w.heap.size (askG a) e w' ∧ Below w.heap.size w w' := by
  rw [look_iff] at hl
  obtain ⟨fg, bg, fl⟩ := a
  obtain ⟨⟨hg0, hg1⟩, ⟨hb0, hb1⟩, hf0, hf1⟩ := hl
  simp only at hg0 hg1 hb0 hb1 hf0 hf1
  have hstart := (Box.new w 23 #[.int .i64 fg, .int .i64 bg, .int .i64 fl]).alloc (.cells #[.int .i64 0] 3)
  have hown := OwnI.lit (W := w.alloc (.cells #[.int .i64 fg, .int .i64 bg, .int .i64 fl] 23)) (base := w.heap.size) [0] (by decide) (by simp)
  have hbel : Below w.heap.size w ((w.alloc (.cells #[.int .i64 fg, .int .i64 bg, .int .i64 fl] 23)).alloc (.cells #[.int .i64 0] 3)) := (below_alloc _ _).alloc (by simp) _
  rw [World.size_alloc] at hown
  have HO := hid hown
  clear hown
  unfold At.agg
  go_enter Try.func9, Try.ntmps9
  go_upto_block 0 with fail
  go_cut [3] (fun o wx => ∃ v, o = v ∧ OwnI wx w.heap.size v (askN fl 9) ∧ Box wx w.heap.size 23 #[.int .i64 fg, .int .i64 bg, .int .i64 fl] ∧ Below w.heap.size w wx)
  case first =>
    go_wp2_with fail
    go_loopw [3, 4] (fun o i wr => ∃ (k : Nat) (v : Value), k ≤ 9 ∧ i = .int .i64 ((k : Int) + 1) ∧ o = v ∧ OwnI wr w.heap.size v (askN fl k) ∧ Box wr w.heap.size 23 #[.int .i64 fg, .int .i64 bg, .int .i64 fl] ∧ Below w.heap.size w wr) (fun _ i _ => 10 - (intOf i).toNat)
    case atStart => exact ⟨0, _, by omega, rfl, rfl, HO.out, hstart, hbel⟩
    case round =>
      clear hstart hbel
      obtain ⟨k, v, hk, rfl, rfl, hown, hbox, hbel⟩ := hrel
      by_cases hk9 : k = 9
      · subst hk9
        go_wp2
        go_meet
        exact ⟨_, rfl, hown, hbox, hbel⟩
      · have hki : (k : Int) + 1 < 10 := by omega
        obtain ⟨F, hF⟩ : ∃ F, flagG ((k : Int) + 1) = F := ⟨_, rfl⟩
        have cF : ∀ d os, Calls Try.prog 14 #[.int .i64 ((k : Int) + 1)] (Go.Sort.grow (redrawn wr d) os) fun e w'' => e = .returned (.int .i64 F) ∧ ∃ p : Regrown, w'' = Go.Sort.grow (redrawn wr p.d) p.os := fun d os => Calls.regrown_of (by
          have h := rFlag_any ((k : Int) + 1) (Go.Sort.grow (redrawn wr d) os)
          rw [hF] at h
          exact h)
        have hFb := flagG_bd ((k : Int) + 1)
        have hstep : Hid (askN fl (k + 1) = askN fl k ++ if 0 < F ∧ fl / F % 2 = 1 then [(k + 1 : Int)] else []) := by unfold Hid; rw [← hF]; rfl
        rw [hF] at hFb
        have HF := hid hF
        obtain ⟨⟨c0, c1, c2⟩, f0, f1, f2⟩ := hbox.three
        have c2 := cell_regrown c2
        have hsz := hbel.size
        have hk10 : (askN fl k).length ≤ 10 := by have := askN_length fl k; omega
        clear hF c0 c1 f0 f1 f2
        by_cases hF0 : 0 < F
        · have hFn : (F == 0) = false := by simp; omega
          have hFx : ¬ F = 0 := by omega
          have hq : (IntKind.i64.wrap (fl.tdiv F)).tmod 2 = fl / F % 2 := by rw [IntWalk.i64_quo fl F (by omega)]; exact Int.tmod_eq_emod_of_nonneg (Int.ediv_nonneg hf0 (by omega))
          have hFd : decide (0 < F) = true := decide_eq_true hF0
          by_cases hbit : fl / F % 2 = 1
          · have hbit' : ((IntKind.i64.wrap (fl.tdiv F)).tmod 2 == 1) = true := by rw [hq]; simp [hbit]
            rw [if_pos ⟨hF0, hbit⟩] at hstep
            clear hbit hq
            go_wp2
            refine wp_region_quiet_below (by kernel_rfl) (by kernel_rfl) ?_
            repeat (quiet_step (exact cF _ _))
            refine wpQuiet_nil ?_
            intro _ hw'
            obtain ⟨⟨dq, osq⟩, hw''⟩ := hw'
            subst hw''
            have hb6 := below_regrown wr dq osq
            have hbox6 := hbox.below hb6 hbox.lt
            have hown6 := hown.kept hb6
            have hbel6 := hbel.trans (hb6.mono hsz)
            generalize Go.Sort.grow (redrawn wr dq) osq = w6 at *
            clear hb6 c2 cF hbox hown hbel
            go_wp2_with (at_builtin; refine wpList_append_ints rfl _ _ rfl w.heap.size _ _ rfl (OwnI.kept hown6 (below_alloc _ _)) [(k : Int) + 1] ⟨w6.heap.size, 0, none⟩ 1 1 rfl rfl (lit_at (Box.new _ _ _)) (by omega) (by have := hbel6.size; simp; omega) ?_; intro v' w7 hown7 hgr)
            all_goals
              go_roundw
              case rel =>
                have hb7 := (Below.refl w.heap.size w6).alloc hbel6.size (.cells #[.int .i64 ((k : Int) + 1)] 3)
                have hbx7 := hbox6.alloc (.cells #[.int .i64 ((k : Int) + 1)] 3)
                exact ⟨k + 1, v', by omega, by go_num, rfl, by rw [hstep.out]; exact hown7, hbx7.grown hgr ((OwnI.kept hown6 (below_alloc _ _)).not_box hbx7 (by decide)), (hbel6.trans hb7).trans (OwnI.below_grown (OwnI.kept hown6 (below_alloc _ _)) hgr (by have := hbel6.size; simp; omega) (Nat.le_refl _))⟩
              case measure => simp [intOf]; omega
          · have hbit' : ((IntKind.i64.wrap (fl.tdiv F)).tmod 2 == 1) = false := by rw [hq]; simp [hbit]
            rw [if_neg (fun h => hbit h.2), List.append_nil] at hstep
            clear hbit hq
            go_wp2
            refine wp_region_quiet_below (by kernel_rfl) (by kernel_rfl) ?_
            repeat (quiet_step (exact cF _ _))
            refine wpQuiet_nil ?_
            intro _ hw'
            obtain ⟨⟨dq, osq⟩, hw''⟩ := hw'
            subst hw''
            have hb6 := below_regrown wr dq osq
            have hbox6 := hbox.below hb6 hbox.lt
            have hown6 := hown.kept hb6
            have hbel6 := hbel.trans (hb6.mono hsz)
            generalize Go.Sort.grow (redrawn wr dq) osq = w6 at *
            clear hb6 c2 cF hbox hown hbel
            go_wp2
            go_roundw
            case rel => exact ⟨k + 1, _, by omega, by go_num, rfl, by rw [hstep.out]; exact hown6, hbox6, hbel6⟩
            case measure => simp [intOf]; omega
        · have hFd : decide (0 < F) = false := decide_eq_false hF0
          have hF0' : F ≤ 0 := by omega
          rw [if_neg (fun h => hF0 h.1), List.append_nil] at hstep
          · clear hF0
            go_wp2
            refine wp_region_quiet_below (by kernel_rfl) (by kernel_rfl) ?_
            repeat (quiet_step (exact cF _ _))
            refine wpQuiet_nil ?_
            intro _ hw'
            obtain ⟨⟨dq, osq⟩, hw''⟩ := hw'
            subst hw''
            have hb6 := below_regrown wr dq osq
            have hbox6 := hbox.below hb6 hbox.lt
            have hown6 := hown.kept hb6
            have hbel6 := hbel.trans (hb6.mono hsz)
            generalize Go.Sort.grow (redrawn wr dq) osq = w6 at *
            clear hb6 c2 cF hbox hown hbel
            go_wp2
            go_roundw
            case rel => exact ⟨k + 1, _, by omega, by go_num, rfl, by rw [hstep.out]; exact hown6, hbox6, hbel6⟩
            case measure => simp [intOf]; omega
  case rest =>
    clear hstart hbel HO
    obtain ⟨v, rfl, hown, hbox, hbel⟩ := hcut
    have hlen : (askN fl 9).length ≤ 10 := askN_length fl 9
    have HR : Hid (askG ⟨fg, bg, fl⟩ = askN fl 9 ++ (if 0 < fg then [38, 5, fg - 1] else []) ++ if 0 < bg then [48, 5, bg - 1] else []) := rfl
    generalize askN fl 9 = L at *
    obtain ⟨⟨c0, c1, c2⟩, f0, f1, f2⟩ := hbox.three
    by_cases h : 0 < fg
    · by_cases h2 : 0 < bg
      · rw [if_pos h, if_pos h2] at HR
        go_wp2_with (first | (at_builtin; refine wpList_append_ints rfl _ _ rfl w.heap.size _ _ rfl (OwnI.kept hown (below_alloc _ _)) [38, 5, fg - 1] _ 3 3 rfl rfl (lit_at (Box.new _ _ _)) (by omega) (by have := hbel.size; simp; omega) ?_; intro v1 w7 hown7 hgr; have hb7 := (Below.refl w.heap.size _).alloc hbel.size (.cells #[.int .i64 38, .int .i64 5, .int .i64 (fg - 1)] 3); have hbx7 := hbox.alloc (.cells #[.int .i64 38, .int .i64 5, .int .i64 (fg - 1)] 3); have hbox7 := hbx7.grown hgr ((OwnI.kept hown (below_alloc _ _)).not_box hbx7 (by decide)); have hbel7 := (hbel.trans hb7).trans (OwnI.below_grown (OwnI.kept hown (below_alloc _ _)) hgr (by have := hbel.size; simp; omega) (Nat.le_refl _)); obtain ⟨⟨d0, d1, d2⟩, e0, e1, e2⟩ := hbox7.three) | (at_builtin; refine wpList_append_ints rfl _ _ rfl w.heap.size _ _ rfl (OwnI.kept hown7 (below_alloc _ _)) [48, 5, bg - 1] _ 3 3 rfl rfl (lit_at (Box.new _ _ _)) (by simp; omega) (by have := hbel7.size; simp; omega) ?_; intro v2 w8 hown8 hgr8; have hb8 := (Below.refl w.heap.size _).alloc hbel7.size (.cells #[.int .i64 48, .int .i64 5, .int .i64 (bg - 1)] 3); have hbel8 := (hbel7.trans hb8).trans (OwnI.below_grown (OwnI.kept hown7 (below_alloc _ _)) hgr8 (by have := hbel7.size; simp; omega) (Nat.le_refl _))))
        obtain ⟨A7, c7, rfl⟩ := hown8.spell
        go_ret
        exact ⟨⟨_, rfl, by rw [HR.out]; exact hown8⟩, hbel8⟩
      · rw [if_pos h, if_neg h2, List.append_nil] at HR
        go_wp2_with (first | (at_builtin; refine wpList_append_ints rfl _ _ rfl w.heap.size _ _ rfl (OwnI.kept hown (below_alloc _ _)) [38, 5, fg - 1] _ 3 3 rfl rfl (lit_at (Box.new _ _ _)) (by omega) (by have := hbel.size; simp; omega) ?_; intro v1 w7 hown7 hgr; have hb7 := (Below.refl w.heap.size _).alloc hbel.size (.cells #[.int .i64 38, .int .i64 5, .int .i64 (fg - 1)] 3); have hbx7 := hbox.alloc (.cells #[.int .i64 38, .int .i64 5, .int .i64 (fg - 1)] 3); have hbox7 := hbx7.grown hgr ((OwnI.kept hown (below_alloc _ _)).not_box hbx7 (by decide)); have hbel7 := (hbel.trans hb7).trans (OwnI.below_grown (OwnI.kept hown (below_alloc _ _)) hgr (by have := hbel.size; simp; omega) (Nat.le_refl _)); obtain ⟨⟨d0, d1, d2⟩, e0, e1, e2⟩ := hbox7.three))
        obtain ⟨A7, c7, rfl⟩ := hown7.spell
        go_ret
        exact ⟨⟨_, rfl, by rw [HR.out]; exact hown7⟩, hbel7⟩
    · by_cases h2 : 0 < bg
      · rw [if_neg h, if_pos h2, List.append_nil] at HR
        go_wp2_with (first | (at_builtin; refine wpList_append_ints rfl _ _ rfl w.heap.size _ _ rfl (OwnI.kept hown (below_alloc _ _)) [48, 5, bg - 1] _ 3 3 rfl rfl (lit_at (Box.new _ _ _)) (by simp; omega) (by have := hbel.size; simp; omega) ?_; intro v2 w8 hown8 hgr8; have hb8 := (Below.refl w.heap.size _).alloc hbel.size (.cells #[.int .i64 48, .int .i64 5, .int .i64 (bg - 1)] 3); have hbel8 := (hbel.trans hb8).trans (OwnI.below_grown (OwnI.kept hown (below_alloc _ _)) hgr8 (by have := hbel.size; simp; omega) (Nat.le_refl _))))
        obtain ⟨A7, c7, rfl⟩ := hown8.spell
        go_ret
        exact ⟨⟨_, rfl, by rw [HR.out]; exact hown8⟩, hbel8⟩
      · rw [if_neg h, if_neg h2, List.append_nil, List.append_nil] at HR
        obtain ⟨A7, c7, rfl⟩ := hown.spell
        go_wp2
        go_ret
        exact ⟨⟨_, rfl, by rw [HR.out]; exact hown⟩, hbel⟩
end Go.Proofs.Ytlcahkbbefcjnaa
