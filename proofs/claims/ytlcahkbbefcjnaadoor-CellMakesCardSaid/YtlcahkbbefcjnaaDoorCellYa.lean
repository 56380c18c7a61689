/- Layer 4: cells compared; one mark more; the law's cut; the reference's blank cell. -/
import Derived.Test.YtlcahkbbefcjnaaDoorCellG
import Derived.Test.YtlcahkbbefcjnaaDoorCellS
import Derived.Test.YtlcahkbbefcjnaaDoorKeysM
namespace Go.Proofs.YtlcahkbbefcjnaaDoor
open Go.RowKit

theorem run_eqA9 (a b c : Int) (W : World) :
    (Op.equalIn 9999 30 (.agg #[.int .i64 a, .int .i64 b, .int .i64 c]) (.agg #[.int .i64 a, .int .i64 b, .int .i64 c])).run Tryd.prog W = .ok true W := by
  have ht : Tryd.prog.underlying 30 = some (.struct (Tryd.prog.fieldsOf 30)) := by unfold Program.fieldsOf; rw [Tryd.underlying30]
  have hp : Tryd.prog.stoodInHeld 30 = false := by kernel_rfl
  rw [run_equalIn_struct W 9998 _ _ _ ht hp]
  unfold Program.fieldsOf
  rw [Tryd.underlying30]
  have u1 := Tryd.underlying3
  have p1 : ∀ W, (part 3 #[.int .i64 a, .int .i64 b, .int .i64 c] 0).run Tryd.prog W = .ok (.int .i64 a) W := fun W => by kernel_rfl
  have p2 : ∀ W, (part 3 #[.int .i64 a, .int .i64 b, .int .i64 c] 1).run Tryd.prog W = .ok (.int .i64 b) W := fun W => by kernel_rfl
  have p3 : ∀ W, (part 3 #[.int .i64 a, .int .i64 b, .int .i64 c] 2).run Tryd.prog W = .ok (.int .i64 c) W := fun W => by kernel_rfl
  have q : ∀ x W, (Op.equalIn 9998 3 (.int .i64 x) (.int .i64 x)).run Tryd.prog W = .ok (x == x) W := fun x W => run_equalIn_int W 9997 _ _ _ x x u1
  simp only [Op.eqFields]
  simp [Sem.run_bind, p1, p2, p3, q, Result.andThen_ok, Sem.run_ite]
theorem run_eqC (t : ByteArray) (v a b c : Int) (W : World) :
    (Op.equalIn 10000 32 (.agg #[.string t, .int .i64 v, .int .i64 a, .int .i64 b, .int .i64 c]) (.agg #[.string t, .int .i64 v, .int .i64 a, .int .i64 b, .int .i64 c])).run Tryd.prog W = .ok true W := by
  have ht : Tryd.prog.underlying 32 = some (.struct (Tryd.prog.fieldsOf 32)) := by unfold Program.fieldsOf; rw [Tryd.underlying32]
  have hp : Tryd.prog.stoodInHeld 32 = false := by kernel_rfl
  rw [run_equalIn_struct W 9999 _ _ _ ht hp]
  unfold Program.fieldsOf
  rw [Tryd.underlying32]
  have u1 := Tryd.underlying3
  have u2 := Tryd.underlying9
  have p1 : ∀ W, (part 9 #[.string t, .int .i64 v, .int .i64 a, .int .i64 b, .int .i64 c] 0).run Tryd.prog W = .ok (.string t) W := fun W => by kernel_rfl
  have p2 : ∀ W, (part 3 #[.string t, .int .i64 v, .int .i64 a, .int .i64 b, .int .i64 c] 1).run Tryd.prog W = .ok (.int .i64 v) W := fun W => by kernel_rfl
  have p3 : ∀ W, (part 30 #[.string t, .int .i64 v, .int .i64 a, .int .i64 b, .int .i64 c] 2).run Tryd.prog W = .ok (.agg #[.int .i64 a, .int .i64 b, .int .i64 c]) W := fun W => by kernel_rfl
  have q1 : ∀ W, (Op.equalIn 9999 9 (.string t) (.string t)).run Tryd.prog W = .ok (t.toList == t.toList) W := fun W => run_equalIn_string W 9998 _ t t u2
  have q2 : ∀ x W, (Op.equalIn 9999 3 (.int .i64 x) (.int .i64 x)).run Tryd.prog W = .ok (x == x) W := fun x W => run_equalIn_int W 9998 _ _ _ x x u1
  have q3 := run_eqA9 a b c
  simp only [Op.eqFields]
  simp [Sem.run_bind, p1, p2, p3, q1, q2, q3, Result.andThen_ok, Sem.run_ite]
theorem run_eqlC (t : ByteArray) (v a b c : Int) (W : World) : (binOp .eql 32 (.agg #[.string t, .int .i64 v, .int .i64 a, .int .i64 b, .int .i64 c]) (.agg #[.string t, .int .i64 v, .int .i64 a, .int .i64 b, .int .i64 c])).run Tryd.prog W = .ok (.bool true) W := by
  rw [run_eql_struct, run_eqC]; rfl
theorem run_neqC (t : ByteArray) (v a b c : Int) (W : World) : (binOp .neq 32 (.agg #[.string t, .int .i64 v, .int .i64 a, .int .i64 b, .int .i64 c]) (.agg #[.string t, .int .i64 v, .int .i64 a, .int .i64 b, .int .i64 c])).run Tryd.prog W = .ok (.bool false) W := by
  rw [run_neq_struct, run_eqC]; rfl

theorem enc_len {r : Int} (h : 0 ≤ widthI r) : (Utf8.encode r).size ≤ 4 := by
  have hl := width_letter h
  have := sizeOf_bd r
  have := (enc_bytes hl).1
  omega

/-- One mark more behind marks. -/
theorem marks_more {r : Int} (h : widthI r = 0) : ∀ (f : Nat) (s : ByteArray) (m k : Nat), marksF f s m = some k → marksF f (s ++ Utf8.encode r) m = if k = m + f then none else some (k + 1) := by
  have hr := width_letter (r := r) (by omega)
  have hz := enc_pos hr
  intro f
  induction f with
  | zero =>
    intro s m k hk
    rw [marksF] at hk
    by_cases h0 : s.size = 0
    · rw [if_pos h0] at hk
      obtain rfl : m = k := Option.some.inj hk
      rw [marksF, if_neg (by rw [size_append']; omega), if_pos (by omega)]
    · rw [if_neg h0] at hk; cases hk
  | succ f ih =>
    intro s m k hk
    rw [marksF] at hk
    by_cases h0 : s.size = 0
    · rw [if_pos h0] at hk
      obtain rfl : m = k := Option.some.inj hk
      have hs := empty_yes h0
      subst hs
      rw [nil_app]
      have e := marks_front (f := f) (m := m) (s := ⟨#[]⟩) h
      rw [app_nil] at e
      rw [e, if_neg (by omega)]
      cases f <;> rw [marksF, if_pos h0]
    · rw [if_neg h0] at hk
      by_cases hc : (firstG s).e = 0 ∧ widthI (firstG s).r = 0
      · rw [if_pos hc] at hk
        have hm := firstG_more s (Utf8.encode r) (fun e => by rw [e] at hc; exact absurd hc.1 (by decide))
        have hle := (firstG_in s).2.1
        rw [marksF, if_neg (by rw [size_append']; omega), hm, if_pos hc, extract_append_left hle, ih _ _ _ hk]
        exact if_iff (by omega)
      · rw [if_neg hc] at hk; cases hk
theorem marks_le : ∀ (f : Nat) (s : ByteArray) (m k : Nat), marksF f s m = some k → k ≤ m + f := by
  intro f
  induction f with
  | zero =>
    intro s m k hk
    rw [marksF] at hk
    split at hk
    · have := Option.some.inj hk; omega
    · cases hk
  | succ f ih =>
    intro s m k hk
    rw [marksF] at hk
    split at hk
    · have := Option.some.inj hk; omega
    · split at hk
      · have := ih _ _ _ hk; omega
      · cases hk
/-- A cell that may be, with a mark more, may be, unless it had two. -/
theorem right_more {c : Ce} {r : Int} (h : widthI r = 0) (hr : rightB c = true) (h0 : c.tx.size ≠ 0) : rightB ⟨c.tx ++ Utf8.encode r, c.wd, c.fg, c.bg, c.fl⟩ = decide ((partsG c.tx).2 ≠ 2) := by
  unfold rightB at hr
  rw [Bool.and_eq_true, if_neg h0] at hr
  obtain ⟨hl, hp⟩ := hr
  have hp := of_decide_eq_true hp
  have hz := size_append' c.tx (Utf8.encode r)
  unfold rightB
  show (lookB c.at && _) = _
  rw [hl, Bool.true_and, if_neg (by show (c.tx ++ Utf8.encode r).size ≠ 0; omega)]
  show decide (0 < (partsG (c.tx ++ Utf8.encode r)).1 ∧ (partsG (c.tx ++ Utf8.encode r)).1 = c.wd) = _
  unfold partsG at hp ⊢
  by_cases hc : (firstG c.tx).e = 0 ∧ 1 ≤ widthI (firstG c.tx).r
  · rw [if_pos hc] at hp
    have hm := firstG_more c.tx (Utf8.encode r) (fun e => by rw [e] at hc; exact absurd hc.1 (by decide))
    have hle := (firstG_in c.tx).2.1
    rw [hm, if_pos hc, if_pos hc, extract_append_left hle]
    cases hk : marksF 2 (c.tx.extract (firstG c.tx).n.toNat c.tx.size) 0 with
    | none => rw [hk] at hp; simp at hp
    | some k =>
      rw [hk] at hp
      simp only at hp
      have hb := marks_le _ _ _ _ hk
      rw [marks_more h _ _ _ _ hk]
      by_cases h2 : k = 2
      · rw [if_pos (by omega)]
        simp [h2]
      · rw [if_neg (by omega)]
        simp only
        rw [decide_eq_true hp, decide_eq_true h2]
  · rw [if_neg hc] at hp
    exact absurd hp.1 (by simp)

set_option maxRecDepth 100000 in
set_option maxHeartbeats 1000000 in
theorem rblank_any (a : At) (w : World) :
    Calls Tryd.prog 15 #[a.agg] w fun e w' => e = .returned (Ce.agg ⟨⟨#[]⟩, 1, 0, a.bg, 0⟩) ∧ Below w.heap.size w w' := by
  obtain ⟨fg, bg, fl⟩ := a
  unfold At.agg
  go_enter Tryd.func15, Tryd.ntmps15
  go_wp2
  refine bodyPost_ret (v := Ce.agg ⟨⟨#[]⟩, 1, 0, bg, 0⟩) (by simp [results, Tryd.results15, go_sem, Ce.agg, Ce.cells]) rfl ⟨rfl, ?_⟩
  exact (below_alloc _ _).alloc (by simp) _

set_option maxRecDepth 100000 in
set_option maxHeartbeats 1000000 in
theorem lcut_any (c : Ce) (w : World) (hs : c.tx.size ≤ maxLen) :
    Calls Tryd.prog 9 #[c.agg] w fun e w' => e = .returned (Ce.agg ⟨c.tx.extract 0 20, c.wd, c.fg, c.bg, c.fl⟩) ∧ Below w.heap.size w w' := by
  obtain ⟨tx, wd, fg, bg, fl⟩ := c
  unfold maxLen at hs
  simp only at hs
  obtain ⟨x, hx⟩ : ∃ x, tx.extract 0 20 = x := ⟨_, rfl⟩
  have hk : ((tx.size : Int) ≤ 20 ∧ Hid (tx = x)) ∨ ((20 : Int) < tx.size ∧ (20 : Int) ≤ tx.size ∧ Hid (tx.extract 0 20 = x)) := by
    rcases Nat.lt_or_ge 20 tx.size with q | q
    · exact Or.inr ⟨by omega, by omega, hx⟩
    · refine Or.inl ⟨by omega, ?_⟩
      unfold Hid
      rw [← hx]
      apply bytes_ext
      · rw [size_extract']; omega
      · intro i hi
        rw [byteAt_extract _ _ _ _ (by omega), Nat.zero_add]
  unfold Ce.agg Ce.cells
  simp only
  rw [hx]
  clear hx
  rcases hk with ⟨p, E⟩ | ⟨p, q, E⟩
  all_goals
    go_enter Tryd.func9, Tryd.ntmps9
    go_wp2
    refine bodyPost_ret (v := .agg #[.string x, .int .i64 wd, .int .i64 fg, .int .i64 bg, .int .i64 fl]) (by simp [results, Tryd.results9, go_sem, E.out]) rfl ⟨rfl, ?_⟩
    repeat (first | exact below_alloc _ _ | exact (below_alloc _ _).alloc (by simp) _ | refine Below.setCell ?_ (by simp) _)
end Go.Proofs.YtlcahkbbefcjnaaDoor
