/- Layer 11, the package: parts, the iterator over a tree; Contains, of panes that were met. -/
import Derived.Test.YtglfolbimafcaaaTreeHQ
import Derived.Test.YtglfolbimafcaaaIntsQ
namespace Go.Proofs.Ytglfolbimafcaaa
open Go.RowKit Go.Shelf
attribute [local go_sem] Oper.semAt_some

theorem hand_ret {w0 W W' : World} {J : List Nat → List (It w0) → World → Prop} {Jx : List (It w0) → World → Prop} {t : Tr} {q : Rc} {e : Ending} (h : HandPost w0 W [] J Jx [] t q e W') :
    ∃ b, e = .returned (.bool b) ∧ ((∃ xs, itms xs = items q t ∧ J [] xs W') ∨ ∃ pre, itms pre <+: items q t ∧ Jx pre W') := by
  rcases h with ⟨rfl, ys, h1, h2, _⟩ | ⟨rfl, ys, h1, h2⟩
  · exact ⟨_, rfl, .inl ⟨ys, h1, h2⟩⟩
  · exact ⟨_, rfl, .inr ⟨ys, h1, h2⟩⟩
theorem parts_seq (w0 w : World) (t : Tr) (g o : Nat) (a b : Int) (B1 B2 B3 : Nat) (hnd : NodeAt w0 g o t) (hc : cntT t ≤ 1000) (hb : Below w0.heap.size w0 w)
    (c1 : w.cell? ⟨B1, 0, none⟩ = some (.pointer (some ⟨g, o, none⟩))) (c2 : w.cell? ⟨B2, 0, none⟩ = some (.int .i64 a)) (c3 : w.cell? ⟨B3, 0, none⟩ = some (.int .i64 b)) :
    SeqOwn 50 Try.prog 47 #[.pointer (some ⟨B1, 0, none⟩), .pointer (some ⟨B2, 0, none⟩), .pointer (some ⟨B3, 0, none⟩)] (itEnc (w0 := w0)) (KeptR w0.heap.size) (fun _ _ => True) (fun ys => itms ys = items ⟨0, 0, 0, a, b⟩ t) (fun pre => itms pre <+: items ⟨0, 0, 0, a, b⟩ t) (cntT t) w := by
  intro l J Jx W1 hW hJ hJb _ hY h0
  have hA := Alike.below hW
  have d1 := hA _ _ c1
  have d2 := hA _ _ c2
  have d3 := hA _ _ c3
  have H := hand_any w0 W1.heap.size l (cntT t) J Jx hJ hJb hY (cntT t) t g o ⟨0, 0, 0, a, b⟩ [] [] W1 (Nat.le_refl _) hnd hc (hb.trans (hW.mono hb.size)) (Nat.le_refl _) h0 (by simp)
  have HH := hid (show Calls Try.prog 48 #[.pointer (some ⟨g, o, none⟩), .agg #[.int .i64 0, .int .i64 0, .int .i64 0, .int .i64 a, .int .i64 b], .func (.yield l) #[] #[]] W1 (HandPost w0 W1 [] J Jx [] t ⟨0, 0, 0, a, b⟩) from H)
  clear H hY hJ hJb h0 c1 c2 c3 hA hnd
  show Calls Try.prog 47 #[.func (.yield l) #[] #[], .pointer (some ⟨B1, 0, none⟩), .pointer (some ⟨B2, 0, none⟩), .pointer (some ⟨B3, 0, none⟩)] W1 _
  go_enter Try.func47, Try.ntmps47
  go_wp2_with ((with_reducible refine HH.out.mono ?_); rintro e w2 hp; obtain ⟨bv, rfl, hq⟩ := hand_ret hp)
  go_end0
  exact ⟨⟨_, rfl⟩, hq⟩
/-- What parts comes to. -/
def PartsPost (W : World) (p : Addr) (a b : Int) (e : Ending) (w' : World) : Prop :=
  e = .returned (.func (.func 47) #[] #[.pointer (some ⟨W.heap.size, 0, none⟩), .pointer (some ⟨W.heap.size + 1, 0, none⟩), .pointer (some ⟨W.heap.size + 1 + 1, 0, none⟩)]) ∧ Below W.heap.size W w' ∧ w'.heap.size = W.heap.size + 1 + 1 + 1 ∧
    w'.cell? ⟨W.heap.size, 0, none⟩ = some (.pointer (some p)) ∧ w'.cell? ⟨W.heap.size + 1, 0, none⟩ = some (.int .i64 a) ∧ w'.cell? ⟨W.heap.size + 1 + 1, 0, none⟩ = some (.int .i64 b)
theorem parts_any (p : Addr) (a b : Int) (W : World) : Calls Try.prog 24 #[.pointer (some p), .int .i64 a, .int .i64 b] W (PartsPost W p a b) := by
  go_enter Try.func24, Try.ntmps24
  go_wp2
  go_ret
  refine ⟨rfl, ?_, ?_, ?_, ?_, ?_⟩
  · repeat (first | exact below_alloc _ _ | refine Below.alloc ?_ (by simp; try omega) _)
  all_goals simp [go_sem]
theorem OwnI.row {W : World} {base : Nat} {v : Value} {l : List Int} (h : OwnI W base v l) (hl : l ≠ []) : ∃ g c, v = .slice (some ⟨g, 0, none⟩) l.length c ∧ base ≤ g ∧ l.length ≤ c ∧ ∀ j x, l[j]? = some x → W.cell? ⟨g, j, none⟩ = some (.int .i64 x) := by
  have h' : W.ownsRow base 3 1 v l.length (ints l) := h
  rcases h.2 with ⟨rfl, h0⟩ | ⟨g, cap, cur, rfl, hb, hg, hc, _⟩
  · exact absurd (List.length_eq_zero_iff.1 h0) hl
  · refine ⟨g, cap, rfl, hb, hc, fun j x hx => ?_⟩
    have hj : j < l.length := (List.getElem?_eq_some_iff.1 hx).1
    rw [h'.cellAt j (by omega)]
    unfold ints
    rw [List.getElem?_map, hx]
    rfl
set_option maxHeartbeats 1000000 in
theorem index_any (v : Value) (l : List Int) (x : Int) (base : Nat) (W : World) (h : OwnI W base v l) (hn : l.length ≤ 1000) :
    Calls Try.prog 50 #[v, .int .i64 x] W fun e w' => (∃ r : Int, e = .returned (.int .i64 r) ∧ (decide (0 ≤ r) = decide (x ∈ l))) ∧ w' = W := by
  have hk := fun hl => h.row hl
  obtain ⟨A, c, rfl⟩ := h.spell
  obtain ⟨n, hnn⟩ : ∃ n, l.length = n := ⟨_, rfl⟩
  rw [hnn] at hk hn ⊢
  have HK := hid hk
  have hni : (n : Int) ≤ 1000 := by omega
  clear hk h
  go_enter Try.func50, Try.ntmps50
  go_wp2_with fail
  go_loopw [8] (fun i wr => ∃ k : Nat, i = .int .i64 k ∧ k ≤ n ∧ (∀ (j : Nat) (y : Int), j < k → l[j]? = some y → y ≠ x) ∧ wr = W) (fun i _ => n - (intOf i).toNat)
  case atStart => exact ⟨0, rfl, Nat.zero_le _, fun j y hj => absurd hj (Nat.not_lt_zero _), rfl⟩
  case round =>
    obtain ⟨k, rfl, hkn, hno, rfl⟩ := hrel
    by_cases hlt : k < n
    · have hki : (k : Int) < n := by omega
      obtain ⟨y, hy⟩ : ∃ y, l[k]? = some y := ⟨_, List.getElem?_eq_getElem (by omega)⟩
      obtain ⟨g, c', e, _, hc', hcell⟩ := HK.out (by intro e; rw [e] at hnn; simp at hnn; omega)
      cases e
      have q0 := hcell k y hy
      by_cases hyx : y = x
      · subst hyx
        have HV : Hid (decide ((0 : Int) ≤ (k : Int)) = decide (y ∈ l)) := by
          unfold Hid
          rw [decide_eq_true (by omega), decide_eq_true (List.mem_of_getElem? hy)]
        clear hno hy hcell
        go_wp2
        go_ret
        exact ⟨⟨_, rfl, HV.out⟩, rfl⟩
      · have hyx' : (x == y) = false := by simp; exact fun e => hyx e.symm
        have hyx2 : ¬ x = y := fun e => hyx e.symm
        have HNO := hid (show ∀ (j : Nat) (z : Int), j < k + 1 → l[j]? = some z → z ≠ x from fun j z hj hz => by
          by_cases e : j = k
          · subst e; rw [hy] at hz; cases hz; exact hyx
          · exact hno j z (by omega) hz)
        clear hno hy hcell hyx
        go_wp2
        go_roundw
        case rel => exact ⟨k + 1, by go_num, by omega, HNO.out, trivial⟩
        case measure => simp [intOf]; omega
    · have hkn' : k = n := by omega
      subst hkn'
      have HV : Hid (decide ((0 : Int) ≤ -1) = decide (x ∈ l)) := by
        unfold Hid
        rw [decide_eq_false (by omega), decide_eq_false]
        intro hm
        obtain ⟨j, hj⟩ := List.getElem?_of_mem hm
        exact hno j x (by have := (List.getElem?_eq_some_iff.1 hj).1; omega) hj rfl
      clear hno hlt
      go_wp2
      go_ret
      exact ⟨⟨_, rfl, HV.out⟩, rfl⟩
theorem contains_any (v : Value) (l : List Int) (x : Int) (base : Nat) (W : World) (h : OwnI W base v l) (hn : l.length ≤ 1000) :
    Calls Try.prog 26 #[v, .int .i64 x] W fun e w' => e = .returned (.bool (decide (x ∈ l))) ∧ w' = W := by
  have H := hid (index_any v l x base W h hn)
  obtain ⟨A, c, rfl⟩ := h.spell
  clear h
  go_enter Try.func26, Try.ntmps26
  go_wp2_with ((with_reducible refine H.out.mono ?_); rintro e w2 ⟨⟨r, rfl, hr⟩, rfl⟩)
  go_ret
  exact ⟨rfl, rfl⟩
end Go.Proofs.Ytglfolbimafcaaa
