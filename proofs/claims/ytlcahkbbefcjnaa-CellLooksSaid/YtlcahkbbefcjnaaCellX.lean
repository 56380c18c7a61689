/- The law CellLooks, walked. -/
import Derived.Test.YtlcahkbbefcjnaaCellS
import Derived.Test.YtlcahkbbefcjnaaCellC
import Derived.Test.YtlcahkbbefcjnaaCellE
import Derived.Test.YtlcahkbbefcjnaaCellA
import Derived.BigQuiet
namespace Go.Proofs.Ytlcahkbbefcjnaa
open Go.RowKit

theorem IRow.take {W : World} {A : Option Addr} {n c : Nat} {l : List Int} (k : Nat) (h : IRow W (.slice A n c) l) : IRow W (.slice A (l.take k).length c) (l.take k) := by
  obtain ⟨A', c', e, hA⟩ := h
  cases e
  refine ⟨_, _, rfl, fun hne => ?_⟩
  obtain ⟨ad, rfl, had, hc⟩ := hA (fun e => by rw [e] at hne; simp at hne)
  refine ⟨ad, rfl, had, fun j x hx => hc j x ?_⟩
  rw [List.getElem?_take] at hx
  split at hx
  · exact hx
  · cases hx
theorem OwnI.row {W : World} {base : Nat} {v : Value} {l : List Int} (h : OwnI W base v l) (hl : l ≠ []) : ∃ g c, v = .slice (some ⟨g, 0, none⟩) l.length c ∧ g < W.heap.size ∧ ∀ j x, l[j]? = some x → W.cell? ⟨g, j, none⟩ = some (.int .i64 x) := by
  have h' : W.ownsRow base 3 1 v l.length (ints l) := h
  rcases h.2 with ⟨rfl, h0⟩ | ⟨g, cap, cur, rfl, _, hg, _⟩
  · exact absurd (List.length_eq_zero_iff.1 h0) hl
  · refine ⟨g, cap, rfl, (Array.getElem?_eq_some_iff.1 hg).1, fun j x hx => ?_⟩
    have hj : j < l.length := (List.getElem?_eq_some_iff.1 hx).1
    rw [h'.cellAt j (by omega)]
    unfold ints
    rw [List.getElem?_map, hx]
    rfl
theorem askG_ne (a : At) : askG a ≠ [] := by
  have h : ∀ f k, 1 ≤ (askN f k).length := by
    intro f k
    induction k with
    | zero => simp [askN]
    | succ k ih => simp only [askN, List.length_append]; omega
  intro e
  have h2 := congrArg List.length e
  unfold askG at h2
  have := h a.fl 9
  simp only [List.length_append, List.length_nil] at h2
  omega

set_option maxRecDepth 100000 in
set_option maxHeartbeats 1000000 in
theorem looks_yes (a : At) (A : Option Addr) (n c : Nat) (l : List Int) (w : World) (hl : lookB a = true) (hr : IRow w (.slice A n c) l) (hcap : n ≤ c) (hcm : c ≤ maxLen) (hwf : ∀ n ∈ l, (Lit.int .i64 n).wf = true) :
    Calls Try.prog 3 #[a.agg, .slice A n c] w fun e w' => e = .returned (.bool true) ∧ Below w.heap.size w w' := by
  obtain ⟨fg, bg, fl⟩ := a
  unfold maxLen at hcm
  have hn : n = l.length := by obtain ⟨A', c', e, _⟩ := hr; cases e; rfl
  have HR := hid hr
  have HW := hid hwf
  have HL := hid hl
  have HN := hid hn
  clear hr hwf hl hn
  show Calls _ _ #[.agg #[.int .i64 fg, .int .i64 bg, .int .i64 fl], _] _ _
  go_enter Try.func3, Try.ntmps3
  go_upto_region 1 with fail
  go_cut [1] (fun v wx => ∃ (A' : Option Addr) (n' c' : Nat), v = .slice A' n' c' ∧ n' ≤ c' ∧ IRow w v (l.take 20) ∧ Box wx w.heap.size 23 #[.int .i64 fg, .int .i64 bg, .int .i64 fl] ∧ Below w.heap.size w wx)
  case first =>
    by_cases h20 : 20 < n
    · have h20' : (20 : Int) < n := by omega
      go_wp2
      all_goals go_meet
      all_goals exact ⟨A, 20, c, rfl, by omega, by have h := HR.out.take 20; rw [List.length_take, ← HN.out] at h; rw [show min 20 n = 20 by omega] at h; exact h, Box.new _ _ _, below_alloc _ _⟩
    · have h20' : (n : Int) ≤ 20 := by omega
      go_wp2
      all_goals go_meet
      all_goals exact ⟨A, n, c, rfl, hcap, by rw [List.take_of_length_le (by rw [← HN.out]; omega)]; exact HR.out, Box.new _ _ _, below_alloc _ _⟩
  case rest =>
    obtain ⟨A', n', c', rfl, hcap', hrow, hbox, hbel⟩ := hcut
    have hwfL : ∀ x ∈ l.take 20, (Lit.int .i64 x).wf = true := fun x hx => HW.out x (List.mem_of_mem_take hx)
    have hlenL : (l.take 20).length ≤ 20 := by rw [List.length_take]; omega
    clear HR HW HN hcap hcm
    generalize l.take 20 = L at *
    have hrowx := fun W (hb : Below w.heap.size w W) => hrow.below hb
    have hch := change_yes ⟨fg, bg, fl⟩ A' n' c' L _ HL.out (hrowx _ hbel) hcap' (by omega) hwfL
    have hrch := fun W (hb : Below w.heap.size w W) => rChange_any ⟨fg, bg, fl⟩ (.slice A' n' c') L W HL.out (hrowx W hb) (by omega)
    generalize changeG ⟨fg, bg, fl⟩ L = X at *
    obtain ⟨xf, xb, xl⟩ := X
    have hask := fun W => pAsk_yes ⟨fg, bg, fl⟩ W HL.out
    have hrask := fun W => rAsk_any ⟨fg, bg, fl⟩ W HL.out
    have hKn := askG_ne ⟨fg, bg, fl⟩
    have hK16 := askG_length ⟨fg, bg, fl⟩
    generalize askG ⟨fg, bg, fl⟩ = K at *
    have hpl := pLook_any ⟨fg, bg, fl⟩
    have hrl := rLook_any ⟨fg, bg, fl⟩
    rw [HL.out] at hpl hrl
    unfold TwoPost At.agg at hch
    unfold At.agg at hrch hask hrask hpl hrl
    simp only at hch hrch hask hrask hpl hrl
    obtain ⟨⟨b0, b1, b2⟩, f0, f1, f2⟩ := hbox.three
    have hB0 := hbox.lt
    go_upto_region 3 with (go_at_call 4; refine hch.mono ?_; rintro e w2 ⟨rfl, hb2⟩)
    have hz2 := hb2.size
    have h2 := hbel.trans (hb2.mono hbel.size)
    have d0 := (hbox.below hb2 hB0).alloc (.cells #[.int .i64 xf, .int .i64 xb, .int .i64 xl] 23)
    have dx := Box.new w2 23 #[.int .i64 xf, .int .i64 xb, .int .i64 xl]
    have h2a := h2.alloc h2.size (.cells #[.int .i64 xf, .int .i64 xb, .int .i64 xl] 23)
    generalize w2.alloc (.cells #[.int .i64 xf, .int .i64 xb, .int .i64 xl] 23) = W3 at *
    generalize w2.heap.size = N at *
    clear hch h2 hb2 hz2 hbel hbox b0 b1 b2 f0 f1 f2 hB0
    obtain ⟨⟨b0, b1, b2⟩, f0, f1, f2⟩ := d0.three
    go_upto_region 4 with (go_at_call 5; refine (hask _).mono ?_; rintro e w4 ⟨⟨v4, rfl, hown4⟩, hb4⟩)
    have d0 := d0.below hb4 d0.lt
    have dx := dx.below hb4 dx.lt
    have h4 := h2a.trans (hb4.mono h2a.size)
    obtain ⟨g4, c4, rfl, hg4, hk4⟩ := hown4.row hKn
    clear hask hown4 h2a hb4 b0 b1 b2 f0 f1 f2
    have hd0 := d0.lt
    obtain ⟨⟨b0, b1, b2⟩, f0, f1, f2⟩ := d0.three
    have b0 := cell_regrown b0
    have b1 := cell_regrown b1
    have b2 := cell_regrown b2
    have cP : ∀ d os, Calls Try.prog 6 #[.agg #[.int .i64 fg, .int .i64 bg, .int .i64 fl]] (Go.Sort.grow (redrawn w4 d) os) fun e w'' => e = .returned (.bool true) ∧ ∃ p : Regrown, w'' = Go.Sort.grow (redrawn w4 p.d) p.os := fun d os => Calls.regrown_of (hpl _)
    have cR : ∀ d os, Calls Try.prog 7 #[.agg #[.int .i64 fg, .int .i64 bg, .int .i64 fl]] (Go.Sort.grow (redrawn w4 d) os) fun e w'' => e = .returned (.bool true) ∧ ∃ p : Regrown, w'' = Go.Sort.grow (redrawn w4 p.d) p.os := fun d os => Calls.regrown_of (hrl _)
    have cA : ∀ d os, Calls Try.prog 8 #[] (Go.Sort.grow (redrawn w4 d) os) fun e w'' => e = .returned (.bool true) ∧ ∃ p : Regrown, w'' = Go.Sort.grow (redrawn w4 p.d) p.os := fun d os => Calls.regrown_of (alive4_any _)
    refine wp_region_quiet_below (by kernel_rfl) (by kernel_rfl) ?_
    repeat (quiet_step (first | exact cP _ _ | exact cR _ _ | exact cA _ _))
    refine wpQuiet_nil ?_
    intro _ hw'
    obtain ⟨⟨dq, osq⟩, hw''⟩ := hw'
    subst hw''
    have hb6 := below_regrown w4 dq osq
    have hk4 := fun j x hx => (hb6.cell (p := ⟨g4, j, none⟩) hg4).trans (hk4 j x hx)
    have hg4 := Nat.lt_of_lt_of_le hg4 hb6.size
    have d0 := d0.below hb6 hd0
    have dx := dx.below hb6 dx.lt
    have h6 := h4.trans (hb6.mono h4.size)
    generalize Go.Sort.grow (redrawn w4 dq) osq = w6 at *
    clear hb6 cP cR cA hd0 h4 hpl b0 b1 b2 f0 f1 f2
    obtain ⟨⟨b0, b1, b2⟩, f0, f1, f2⟩ := d0.three
    go_upto_region 8 with (go_at_call 7; refine (hrl _).mono ?_; rintro e w7 ⟨rfl, hb7⟩)
    have hk4 := fun j x hx => (hb7.cell (p := ⟨g4, j, none⟩) hg4).trans (hk4 j x hx)
    have hg4 := Nat.lt_of_lt_of_le hg4 hb7.size
    have d0 := d0.below hb7 d0.lt
    have dx := dx.below hb7 dx.lt
    have h7 := h6.trans (hb7.mono h6.size)
    clear hb7 hrl b0 b1 b2 f0 f1 f2 h6
    obtain ⟨⟨b0, b1, b2⟩, f0, f1, f2⟩ := d0.three
    go_upto_region 9 with (go_at_call 9; refine (hrask _).mono ?_; rintro e w8 ⟨⟨v8, rfl, hown8⟩, hb8⟩)
    have hk4 := fun j x hx => (hb8.cell (p := ⟨g4, j, none⟩) hg4).trans (hk4 j x hx)
    have hg4 := Nat.lt_of_lt_of_le hg4 hb8.size
    have d0 := d0.below hb8 d0.lt
    have dx := dx.below hb8 dx.lt
    have h8 := h7.trans (hb8.mono h7.size)
    obtain ⟨g8, c8, rfl, hg8, hk8⟩ := hown8.row hKn
    clear hb8 hrask hown8 b0 b1 b2 f0 f1 f2 h7
    have HK4 := hid hk4
    have HK8 := hid hk8
    obtain ⟨m, hm⟩ : ∃ m, K.length = m := ⟨_, rfl⟩
    rw [hm] at hK16 ⊢
    have HM := hid hm
    clear hk4 hk8 hm hKn
    go_wp2_with fail
    go_loopw [64] (fun i wr => ∃ k : Nat, k ≤ m ∧ i = .int .i64 k ∧ Below w8.heap.size w8 wr) (fun i _ => m - (intOf i).toNat)
    case atStart => exact ⟨0, by omega, rfl, Below.refl _ _⟩
    case round =>
      obtain ⟨k, hk, rfl, hbr⟩ := hrel
      by_cases hkm : k < m
      · obtain ⟨x, hx⟩ : ∃ x, K[k]? = some x := ⟨_, List.getElem?_eq_getElem (by rw [HM.out]; exact hkm)⟩
        have x4 : wr.cell? ⟨g4, k, none⟩ = some (.int .i64 x) := (hbr.cell (p := ⟨g4, k, none⟩) hg4).trans (HK4.out k x hx)
        have x8 : wr.cell? ⟨g8, k, none⟩ = some (.int .i64 x) := (hbr.cell (p := ⟨g8, k, none⟩) hg8).trans (HK8.out k x hx)
        have hki : (k : Int) < m := by omega
        clear hx
        go_wp2
        go_quiet (fail)
        go_wp2
        go_roundw
        case rel => exact ⟨k + 1, by omega, by go_num, hbr.trans ((below_drew _ _).mono hbr.size)⟩
        case measure => simp [intOf]; omega
      · have hkm' : k = m := by omega
        subst hkm'
        have d0 := d0.below hbr d0.lt
        have dx := dx.below hbr dx.lt
        have h9 := h8.trans (hbr.mono h8.size)
        clear hbr hkm hk
        go_wp2
        have heq := run_eqlA xf xb xl xf xb xl
        rw [decide_eq_true ⟨rfl, rfl, rfl⟩] at heq
        obtain ⟨⟨b0, b1, b2⟩, f0, f1, f2⟩ := d0.three
        obtain ⟨⟨e0, e1, e2⟩, k0, k1, k2⟩ := dx.three
        have b0 := cell_regrown b0
        have b1 := cell_regrown b1
        have b2 := cell_regrown b2
        have e0 := cell_regrown e0
        have e1 := cell_regrown e1
        have e2 := cell_regrown e2
        have cC : ∀ d os, Calls Try.prog 10 #[.agg #[.int .i64 fg, .int .i64 bg, .int .i64 fl], .slice A' n' c'] (Go.Sort.grow (redrawn wr d) os) fun e w'' => e = .returned (.agg #[.int .i64 xf, .int .i64 xb, .int .i64 xl]) ∧ ∃ p : Regrown, w'' = Go.Sort.grow (redrawn wr p.d) p.os := fun d os => Calls.regrown_of (hrch _ (h9.trans ((below_regrown wr d os).mono h9.size)))
        refine wp_region_quiet_below (by kernel_rfl) (by kernel_rfl) ?_
        repeat (quiet_step (exact cC _ _))
        refine wpQuiet_nil ?_
        intro _ hw'
        obtain ⟨⟨dq, osq⟩, hw''⟩ := hw'
        subst hw''
        have h10 := h9.trans ((below_regrown wr dq osq).mono h9.size)
        clear b0 b1 b2 e0 e1 e2 f0 f1 f2 k0 k1 k2 cC heq hrch
        generalize Go.Sort.grow (redrawn wr dq) osq = w10 at *
        go_wp2
        go_ret
        exact ⟨rfl, h10⟩

set_option maxRecDepth 100000 in
set_option maxHeartbeats 1000000 in
theorem looks_no (a : At) (A : Option Addr) (n c : Nat) (w : World) (hl : lookB a = false) (hcap : n ≤ c) (hcm : c ≤ maxLen) :
    Calls Try.prog 3 #[a.agg, .slice A n c] w fun e w' => e = .returned (.bool true) ∧ Below w.heap.size w w' := by
  obtain ⟨fg, bg, fl⟩ := a
  unfold maxLen at hcm
  have HL := hid hl
  clear hl
  show Calls _ _ #[.agg #[.int .i64 fg, .int .i64 bg, .int .i64 fl], _] _ _
  go_enter Try.func3, Try.ntmps3
  go_upto_region 1 with fail
  go_cut [1] (fun v wx => ∃ (A' : Option Addr) (n' c' : Nat), v = .slice A' n' c' ∧ Box wx w.heap.size 23 #[.int .i64 fg, .int .i64 bg, .int .i64 fl] ∧ Below w.heap.size w wx)
  case first =>
    by_cases h20 : 20 < n
    · have h20' : (20 : Int) < n := by omega
      go_wp2
      all_goals go_meet
      all_goals exact ⟨A, 20, c, rfl, Box.new _ _ _, below_alloc _ _⟩
    · have h20' : (n : Int) ≤ 20 := by omega
      go_wp2
      all_goals go_meet
      all_goals exact ⟨A, n, c, rfl, Box.new _ _ _, below_alloc _ _⟩
  case rest =>
    obtain ⟨A', n', c', rfl, hbox, hbel⟩ := hcut
    clear hcap hcm
    have hch := fun W => change_no ⟨fg, bg, fl⟩ (.slice A' n' c') W HL.out
    have hask := fun W => pAsk_no ⟨fg, bg, fl⟩ W HL.out
    have hpl := pLook_any ⟨fg, bg, fl⟩
    have hrl := rLook_any ⟨fg, bg, fl⟩
    rw [HL.out] at hpl hrl
    unfold TwoPost At.agg at hch
    unfold At.agg at hask hpl hrl
    simp only at hch hask hpl hrl
    obtain ⟨⟨b0, b1, b2⟩, f0, f1, f2⟩ := hbox.three
    have hB0 := hbox.lt
    go_upto_region 3 with (go_at_call 4; refine (hch _).mono ?_; rintro e w2 ⟨rfl, hb2⟩)
    have h2 := hbel.trans (hb2.mono hbel.size)
    have d0 := (hbox.below hb2 hB0).alloc (.cells #[.int .i64 0, .int .i64 0, .int .i64 0] 23)
    have dx := Box.new w2 23 #[.int .i64 0, .int .i64 0, .int .i64 0]
    have h2a := h2.alloc h2.size (.cells #[.int .i64 0, .int .i64 0, .int .i64 0] 23)
    generalize w2.alloc (.cells #[.int .i64 0, .int .i64 0, .int .i64 0] 23) = W3 at *
    generalize w2.heap.size = N at *
    clear hch h2 hb2 hbel hbox b0 b1 b2 f0 f1 f2 hB0
    obtain ⟨⟨b0, b1, b2⟩, f0, f1, f2⟩ := d0.three
    go_upto_region 4 with (go_at_call 5; refine (hask _).mono ?_; rintro e w4 ⟨rfl, hb4⟩)
    have d0 := d0.below hb4 d0.lt
    have dx := dx.below hb4 dx.lt
    have h4 := h2a.trans (hb4.mono h2a.size)
    clear hask h2a hb4 b0 b1 b2 f0 f1 f2
    have hd0 := d0.lt
    obtain ⟨⟨b0, b1, b2⟩, f0, f1, f2⟩ := d0.three
    have b0 := cell_regrown b0
    have b1 := cell_regrown b1
    have b2 := cell_regrown b2
    have cP : ∀ d os, Calls Try.prog 6 #[.agg #[.int .i64 fg, .int .i64 bg, .int .i64 fl]] (Go.Sort.grow (redrawn w4 d) os) fun e w'' => e = .returned (.bool false) ∧ ∃ p : Regrown, w'' = Go.Sort.grow (redrawn w4 p.d) p.os := fun d os => Calls.regrown_of (hpl _)
    have cR : ∀ d os, Calls Try.prog 7 #[.agg #[.int .i64 fg, .int .i64 bg, .int .i64 fl]] (Go.Sort.grow (redrawn w4 d) os) fun e w'' => e = .returned (.bool false) ∧ ∃ p : Regrown, w'' = Go.Sort.grow (redrawn w4 p.d) p.os := fun d os => Calls.regrown_of (hrl _)
    have cA : ∀ d os, Calls Try.prog 8 #[] (Go.Sort.grow (redrawn w4 d) os) fun e w'' => e = .returned (.bool true) ∧ ∃ p : Regrown, w'' = Go.Sort.grow (redrawn w4 p.d) p.os := fun d os => Calls.regrown_of (alive4_any _)
    refine wp_region_quiet_below (by kernel_rfl) (by kernel_rfl) ?_
    repeat (quiet_step (first | exact cP _ _ | exact cR _ _ | exact cA _ _))
    refine wpQuiet_nil ?_
    intro _ hw'
    obtain ⟨⟨dq, osq⟩, hw''⟩ := hw'
    subst hw''
    have hb6 := below_regrown w4 dq osq
    have d0 := d0.below hb6 hd0
    have dx := dx.below hb6 dx.lt
    have h6 := h4.trans (hb6.mono h4.size)
    generalize Go.Sort.grow (redrawn w4 dq) osq = w6 at *
    clear hb6 cP cR cA hd0 h4 hpl b0 b1 b2 f0 f1 f2
    obtain ⟨⟨b0, b1, b2⟩, f0, f1, f2⟩ := d0.three
    have heq := run_eqlA 0 0 0 0 0 0
    rw [decide_eq_true ⟨rfl, rfl, rfl⟩] at heq
    have hdx := dx.lt
    go_upto_region 7 with (go_at_call 7; refine (hrl _).mono ?_; rintro e w7 ⟨rfl, hb7⟩)
    have dx := dx.below hb7 hdx
    have h7 := h6.trans (hb7.mono h6.size)
    clear hb7 b0 b1 b2 f0 f1 f2
    obtain ⟨⟨b0, b1, b2⟩, f0, f1, f2⟩ := dx.three
    go_wp2
    go_ret
    exact ⟨rfl, h7⟩

theorem looks_any (a : At) (A : Option Addr) (n c : Nat) (l : List Int) (w : World) (hr : IRow w (.slice A n c) l) (hcap : n ≤ c) (hcm : c ≤ maxLen) (hwf : ∀ n ∈ l, (Lit.int .i64 n).wf = true) :
    Calls Try.prog 3 #[a.agg, .slice A n c] w fun e w' => e = .returned (.bool true) ∧ Below w.heap.size w w' := by
  cases hl : lookB a
  · exact looks_no a A n c w hl hcap hcm
  · exact looks_yes a A n c l w hl hr hcap hcm hwf
end Go.Proofs.Ytlcahkbbefcjnaa
