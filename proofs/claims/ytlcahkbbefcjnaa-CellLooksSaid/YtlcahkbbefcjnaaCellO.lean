/- The reference of layer 4: a look behind a number that is not 38 or 48. -/
import Derived.Test.YtlcahkbbefcjnaaCellR
import Derived.Test.YtlcahkbbefcjnaaCellW
import Derived.Test.YtlcahkbbefcjnaaBlk
import Derived.Deep.RegionWith
import Derived.Deep.DeepCutAuto
namespace Go.Proofs.Ytlcahkbbefcjnaa
open Go.RowKit

set_option maxRecDepth 100000 in
set_option maxHeartbeats 400000 in
theorem rOne_0 (a : At) (w : World) :
    Calls Try.prog 15 #[a.agg, .int .i64 0] w fun e w' => e = .returned (oneG a 0).agg ∧ Below w.heap.size w w' := by
  obtain ⟨fg, bg, fl⟩ := a
  unfold At.agg
  go_enter Try.func15, Try.ntmps15
  go_wp2
  exact bodyPost_ret (v := .agg #[.int .i64 0, .int .i64 0, .int .i64 0]) (by simp [results, Try.results15, go_sem]) rfl ⟨rfl, by first | exact (below_alloc _ _).alloc (by simp) _ | exact ((((below_alloc _ _).alloc (by simp) _).setCell (by simp) _).setCell (by simp) _).setCell (by simp) _⟩
set_option maxRecDepth 100000 in
set_option maxHeartbeats 400000 in
theorem rOne_n (a : At) (n : Int) (w : World) (h : lookB a = true) (h0 : ¬ n = 0) :
    Calls Try.prog 15 #[a.agg, .int .i64 n] w fun e w' => e = .returned (oneG a n).agg ∧ Below w.heap.size w w' := by
  rw [look_iff] at h
  obtain ⟨fg, bg, fl⟩ := a
  obtain ⟨_, _, hfl0, hfl1⟩ := h
  simp only at hfl0 hfl1
  have hn0 : (n == 0) = false := by simp [h0]
  have HG : Hid (oneG ⟨fg, bg, fl⟩ n = ⟨if inI n 30 37 = true then n - 29 else if n = 39 then 0 else if inI n 90 97 = true then n - 81 else fg,
      if inI n 40 47 = true then n - 39 else if n = 49 then 0 else if inI n 100 107 = true then n - 91 else bg, woG (woG fl (flagG n) + flagG n) (clrG n)⟩) := by unfold Hid oneG; rw [if_neg h0]
  have hF := flagG_bd n
  have hC := clrG_bd n
  have hfc := rFlag_any n
  have hcc := rCleared_any n
  generalize flagG n = F at *
  generalize clrG n = C at *
  have hw1 := fun W => rWithout_any fl F W (by omega) (by omega)
  have hx1 := woG_bd fl F
  generalize woG fl F = X at *
  have hw2 := fun W => rWithout_any (X + F) C W (by omega) (by omega)
  have hx2 := woG_bd (X + F) C
  generalize woG (X + F) C = Y at *
  unfold At.agg
  go_enter Try.func15, Try.ntmps15
  go_upto_region 5 with (first | (go_at_call 14; refine (hfc _).mono ?_; rintro e w2 ⟨rfl, hb⟩; obtain ⟨hc, hf⟩ := bcell hb) | (go_at_call 19; refine (hw1 _).mono ?_; rintro e w3 ⟨rfl, rfl⟩))
  have hz2 : w.heap.size + 1 + 1 ≤ w2.heap.size := by have := hb.size; simp at this; omega
  have hbw : Below w.heap.size w w2 := Below.behind (Below.behind hb)
  have b0 := (((Box.new w 23 #[.int .i64 fg, .int .i64 bg, .int .i64 fl]).alloc (.cells #[.int .i64 0, .int .i64 0, .int .i64 0] 23)).below hb (by simp; omega)).set (i := 2) (.int .i64 (X + F))
  have b1 := ((Box.new (w.alloc (.cells #[.int .i64 fg, .int .i64 bg, .int .i64 fl] 23)) 23 #[.int .i64 0, .int .i64 0, .int .i64 0]).below hb (by simp)).other (b' := w.heap.size) (i := 2) (by simp) (.int .i64 (X + F))
  have hbw := below_set (i := 2) hbw (Nat.le_refl _) (.int .i64 (X + F))
  have hz2 : w.heap.size + 1 + 1 ≤ (w2.setCell ⟨w.heap.size, 2, none⟩ (.int .i64 (X + F))).heap.size := by rw [size_set]; exact hz2
  rw [World.size_alloc] at b1
  clear hc hf hb
  generalize w2.setCell ⟨w.heap.size, 2, none⟩ (.int .i64 (X + F)) = wa at *
  simp at b0
  go_cut [] (fun wx => Box wx w.heap.size 23 #[.int .i64 fg, .int .i64 bg, .int .i64 Y] ∧ Box wx (w.heap.size + 1) 23 #[.int .i64 0, .int .i64 0, .int .i64 0] ∧ Below w.heap.size w wx)
  case first =>
    obtain ⟨⟨c0, c1, c2⟩, f0, f1, f2⟩ := b0.three
    have hR : w.heap.size < wa.heap.size := by omega
    first | go_region_with (first | (go_at_call 20; refine (hcc _).mono ?_; rintro e w4 ⟨rfl, hb⟩; have d0 := b0.drew.below hb hR; obtain ⟨⟨k0, k1, k2⟩, g0, g1, g2⟩ := d0.three) | (go_at_call 19; refine (hw2 _).mono ?_; rintro e w3 ⟨rfl, rfl⟩)) | fail
    all_goals
      go_wp2_with fail
      go_meet
      have d0 := d0.set (i := 2) (.int .i64 Y)
      have d1 := (b1.drew.below hb (show _ < wa.heap.size by omega)).other (b' := w.heap.size) (i := 2) (by omega) (.int .i64 Y)
      exact ⟨d0, d1, below_set (i := 2) (hbw.drew.trans (hb.mono hbw.size)) (Nat.le_refl _) _⟩
  case rest =>
    obtain ⟨d0, d1, hbx⟩ := hcut
    have e1 := rIn_any n 30 37
    have e2 := rIn_any n 40 47
    have e3 := rIn_any n 90 97
    have e4 := rIn_any n 100 107
    clear hfc hcc hw1 hw2 hF hC hx1 hx2 b0 b1 hbw hz2 hfl0 hfl1
    obtain ⟨⟨c0, c1, c2⟩, f0, f1, f2⟩ := d0.three
    obtain ⟨⟨c3, c4, c5⟩, f3, f4, f5⟩ := d1.three
    have hcs : (30 ≤ n ∧ n ≤ 37) ∨ n = 39 ∨ (40 ≤ n ∧ n ≤ 47) ∨ n = 49 ∨ (90 ≤ n ∧ n ≤ 97) ∨ (100 ≤ n ∧ n ≤ 107) ∨ ((n < 30 ∨ 37 < n) ∧ ¬ n = 39 ∧ (n < 40 ∨ 47 < n) ∧ ¬ n = 49 ∧ (n < 90 ∨ 97 < n) ∧ (n < 100 ∨ 107 < n)) := by omega
    rcases hcs with h | h | h | h | h | h | h
    · have q1 : inI n 30 37 = true := inI_t (by omega)
      have q2 : inI n 40 47 = false := inI_f (by omega)
      have q3 : inI n 90 97 = false := inI_f (by omega)
      have q4 : inI n 100 107 = false := inI_f (by omega)
      have q5 : ¬ n = 39 := by omega
      have q6 : ¬ n = 49 := by omega
      have HV : Hid (oneG ⟨fg, bg, fl⟩ n = ⟨n - 29, bg, Y⟩) := by unfold Hid; rw [HG.out]; simp [q1, q2, q4, q6]
      have q7 : (n == 39) = false := by simp [q5]
      have q8 : (n == 49) = false := by simp [q6]
      rw [q1] at e1; rw [q2] at e2; rw [q3] at e3; rw [q4] at e4
      clear q1 q2 q3 q4 q5 q6 HG h0 hn0
      obtain ⟨hl1, hl2⟩ := h
      go_wp2_with (first | (go_at_call 13; (with_reducible refine (e1 _).mono ?_); rintro e w6 ⟨rfl, rfl⟩) | (go_at_call 13; (with_reducible refine (e2 _).mono ?_); rintro e w6 ⟨rfl, rfl⟩) | (go_at_call 13; (with_reducible refine (e3 _).mono ?_); rintro e w6 ⟨rfl, rfl⟩) | (go_at_call 13; (with_reducible refine (e4 _).mono ?_); rintro e w6 ⟨rfl, rfl⟩))
      refine bodyPost_ret (v := .agg #[.int .i64 (n - 29), .int .i64 (bg), .int .i64 Y]) (by simp [results, Try.results15, go_sem, c3, c4, c5]) rfl ⟨by rw [HV.out], ?_⟩
      repeat (first | exact hbx | refine Below.setCell ?_ (by simp) _)
    · have q1 : inI n 30 37 = false := inI_f (by omega)
      have q2 : inI n 40 47 = false := inI_f (by omega)
      have q3 : inI n 90 97 = false := inI_f (by omega)
      have q4 : inI n 100 107 = false := inI_f (by omega)
      have q5 : n = 39 := by omega
      have q6 : ¬ n = 49 := by omega
      have HV : Hid (oneG ⟨fg, bg, fl⟩ n = ⟨0, bg, Y⟩) := by unfold Hid; rw [HG.out]; simp [inI, q5]
      have q7 : (n == 39) = true := by simp [q5]
      have q8 : (n == 49) = false := by simp [q6]
      rw [q1] at e1; rw [q2] at e2; rw [q3] at e3; rw [q4] at e4
      clear q1 q2 q3 q4 q5 q6 HG h0 hn0
      clear h
      go_wp2_with (first | (go_at_call 13; (with_reducible refine (e1 _).mono ?_); rintro e w6 ⟨rfl, rfl⟩) | (go_at_call 13; (with_reducible refine (e2 _).mono ?_); rintro e w6 ⟨rfl, rfl⟩) | (go_at_call 13; (with_reducible refine (e3 _).mono ?_); rintro e w6 ⟨rfl, rfl⟩) | (go_at_call 13; (with_reducible refine (e4 _).mono ?_); rintro e w6 ⟨rfl, rfl⟩))
      refine bodyPost_ret (v := .agg #[.int .i64 (0), .int .i64 (bg), .int .i64 Y]) (by simp [results, Try.results15, go_sem, c3, c4, c5]) rfl ⟨by rw [HV.out], ?_⟩
      repeat (first | exact hbx | refine Below.setCell ?_ (by simp) _)
    · have q1 : inI n 30 37 = false := inI_f (by omega)
      have q2 : inI n 40 47 = true := inI_t (by omega)
      have q3 : inI n 90 97 = false := inI_f (by omega)
      have q4 : inI n 100 107 = false := inI_f (by omega)
      have q5 : ¬ n = 39 := by omega
      have q6 : ¬ n = 49 := by omega
      have HV : Hid (oneG ⟨fg, bg, fl⟩ n = ⟨fg, n - 39, Y⟩) := by unfold Hid; rw [HG.out]; simp [q1, q2, q3, q5]
      have q7 : (n == 39) = false := by simp [q5]
      have q8 : (n == 49) = false := by simp [q6]
      rw [q1] at e1; rw [q2] at e2; rw [q3] at e3; rw [q4] at e4
      clear q1 q2 q3 q4 q5 q6 HG h0 hn0
      obtain ⟨hl1, hl2⟩ := h
      go_wp2_with (first | (go_at_call 13; (with_reducible refine (e1 _).mono ?_); rintro e w6 ⟨rfl, rfl⟩) | (go_at_call 13; (with_reducible refine (e2 _).mono ?_); rintro e w6 ⟨rfl, rfl⟩) | (go_at_call 13; (with_reducible refine (e3 _).mono ?_); rintro e w6 ⟨rfl, rfl⟩) | (go_at_call 13; (with_reducible refine (e4 _).mono ?_); rintro e w6 ⟨rfl, rfl⟩))
      refine bodyPost_ret (v := .agg #[.int .i64 (fg), .int .i64 (n - 39), .int .i64 Y]) (by simp [results, Try.results15, go_sem, c3, c4, c5]) rfl ⟨by rw [HV.out], ?_⟩
      repeat (first | exact hbx | refine Below.setCell ?_ (by simp) _)
    · have q1 : inI n 30 37 = false := inI_f (by omega)
      have q2 : inI n 40 47 = false := inI_f (by omega)
      have q3 : inI n 90 97 = false := inI_f (by omega)
      have q4 : inI n 100 107 = false := inI_f (by omega)
      have q5 : ¬ n = 39 := by omega
      have q6 : n = 49 := by omega
      have HV : Hid (oneG ⟨fg, bg, fl⟩ n = ⟨fg, 0, Y⟩) := by unfold Hid; rw [HG.out]; simp [inI, q6]
      have q7 : (n == 39) = false := by simp [q5]
      have q8 : (n == 49) = true := by simp [q6]
      rw [q1] at e1; rw [q2] at e2; rw [q3] at e3; rw [q4] at e4
      clear q1 q2 q3 q4 q5 q6 HG h0 hn0
      clear h
      go_wp2_with (first | (go_at_call 13; (with_reducible refine (e1 _).mono ?_); rintro e w6 ⟨rfl, rfl⟩) | (go_at_call 13; (with_reducible refine (e2 _).mono ?_); rintro e w6 ⟨rfl, rfl⟩) | (go_at_call 13; (with_reducible refine (e3 _).mono ?_); rintro e w6 ⟨rfl, rfl⟩) | (go_at_call 13; (with_reducible refine (e4 _).mono ?_); rintro e w6 ⟨rfl, rfl⟩))
      refine bodyPost_ret (v := .agg #[.int .i64 (fg), .int .i64 (0), .int .i64 Y]) (by simp [results, Try.results15, go_sem, c3, c4, c5]) rfl ⟨by rw [HV.out], ?_⟩
      repeat (first | exact hbx | refine Below.setCell ?_ (by simp) _)
    · have q1 : inI n 30 37 = false := inI_f (by omega)
      have q2 : inI n 40 47 = false := inI_f (by omega)
      have q3 : inI n 90 97 = true := inI_t (by omega)
      have q4 : inI n 100 107 = false := inI_f (by omega)
      have q5 : ¬ n = 39 := by omega
      have q6 : ¬ n = 49 := by omega
      have HV : Hid (oneG ⟨fg, bg, fl⟩ n = ⟨n - 81, bg, Y⟩) := by unfold Hid; rw [HG.out]; simp [q1, q2, q3, q4, q5, q6]
      have q7 : (n == 39) = false := by simp [q5]
      have q8 : (n == 49) = false := by simp [q6]
      rw [q1] at e1; rw [q2] at e2; rw [q3] at e3; rw [q4] at e4
      clear q1 q2 q3 q4 q5 q6 HG h0 hn0
      obtain ⟨hl1, hl2⟩ := h
      go_wp2_with (first | (go_at_call 13; (with_reducible refine (e1 _).mono ?_); rintro e w6 ⟨rfl, rfl⟩) | (go_at_call 13; (with_reducible refine (e2 _).mono ?_); rintro e w6 ⟨rfl, rfl⟩) | (go_at_call 13; (with_reducible refine (e3 _).mono ?_); rintro e w6 ⟨rfl, rfl⟩) | (go_at_call 13; (with_reducible refine (e4 _).mono ?_); rintro e w6 ⟨rfl, rfl⟩))
      refine bodyPost_ret (v := .agg #[.int .i64 (n - 81), .int .i64 (bg), .int .i64 Y]) (by simp [results, Try.results15, go_sem, c3, c4, c5]) rfl ⟨by rw [HV.out], ?_⟩
      repeat (first | exact hbx | refine Below.setCell ?_ (by simp) _)
    · have q1 : inI n 30 37 = false := inI_f (by omega)
      have q2 : inI n 40 47 = false := inI_f (by omega)
      have q3 : inI n 90 97 = false := inI_f (by omega)
      have q4 : inI n 100 107 = true := inI_t (by omega)
      have q5 : ¬ n = 39 := by omega
      have q6 : ¬ n = 49 := by omega
      have HV : Hid (oneG ⟨fg, bg, fl⟩ n = ⟨fg, n - 91, Y⟩) := by unfold Hid; rw [HG.out]; simp [q1, q2, q3, q4, q5, q6]
      have q7 : (n == 39) = false := by simp [q5]
      have q8 : (n == 49) = false := by simp [q6]
      rw [q1] at e1; rw [q2] at e2; rw [q3] at e3; rw [q4] at e4
      clear q1 q2 q3 q4 q5 q6 HG h0 hn0
      obtain ⟨hl1, hl2⟩ := h
      go_wp2_with (first | (go_at_call 13; (with_reducible refine (e1 _).mono ?_); rintro e w6 ⟨rfl, rfl⟩) | (go_at_call 13; (with_reducible refine (e2 _).mono ?_); rintro e w6 ⟨rfl, rfl⟩) | (go_at_call 13; (with_reducible refine (e3 _).mono ?_); rintro e w6 ⟨rfl, rfl⟩) | (go_at_call 13; (with_reducible refine (e4 _).mono ?_); rintro e w6 ⟨rfl, rfl⟩))
      refine bodyPost_ret (v := .agg #[.int .i64 (fg), .int .i64 (n - 91), .int .i64 Y]) (by simp [results, Try.results15, go_sem, c3, c4, c5]) rfl ⟨by rw [HV.out], ?_⟩
      repeat (first | exact hbx | refine Below.setCell ?_ (by simp) _)
    · have q1 : inI n 30 37 = false := inI_f (by omega)
      have q2 : inI n 40 47 = false := inI_f (by omega)
      have q3 : inI n 90 97 = false := inI_f (by omega)
      have q4 : inI n 100 107 = false := inI_f (by omega)
      have q5 : ¬ n = 39 := by omega
      have q6 : ¬ n = 49 := by omega
      have HV : Hid (oneG ⟨fg, bg, fl⟩ n = ⟨fg, bg, Y⟩) := by unfold Hid; rw [HG.out]; simp [q1, q2, q3, q4, q5, q6]
      have q7 : (n == 39) = false := by simp [q5]
      have q8 : (n == 49) = false := by simp [q6]
      rw [q1] at e1; rw [q2] at e2; rw [q3] at e3; rw [q4] at e4
      clear q1 q2 q3 q4 q5 q6 HG h0 hn0
      clear h
      go_wp2_with (first | (go_at_call 13; (with_reducible refine (e1 _).mono ?_); rintro e w6 ⟨rfl, rfl⟩) | (go_at_call 13; (with_reducible refine (e2 _).mono ?_); rintro e w6 ⟨rfl, rfl⟩) | (go_at_call 13; (with_reducible refine (e3 _).mono ?_); rintro e w6 ⟨rfl, rfl⟩) | (go_at_call 13; (with_reducible refine (e4 _).mono ?_); rintro e w6 ⟨rfl, rfl⟩))
      refine bodyPost_ret (v := .agg #[.int .i64 (fg), .int .i64 (bg), .int .i64 Y]) (by simp [results, Try.results15, go_sem, c3, c4, c5]) rfl ⟨by rw [HV.out], ?_⟩
      repeat (first | exact hbx | refine Below.setCell ?_ (by simp) _)

theorem rOne_any (a : At) (n : Int) (w : World) (h : lookB a = true) :
    Calls Try.prog 15 #[a.agg, .int .i64 n] w fun e w' => e = .returned (oneG a n).agg ∧ Below w.heap.size w w' := by
  by_cases h0 : n = 0
  · subst h0
    exact rOne_0 a w
  · exact rOne_n a n w h h0
end Go.Proofs.Ytlcahkbbefcjnaa
