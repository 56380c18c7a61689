/- The reference of layer 5, walked: rows of numbers, things that are done, parsers: the same. -/
import Derived.Test.YtpcpdbofbbpglaaDoorParseD
import Derived.Test.YtpcpdbofbbpglaaDoorIRow
import Derived.Test.YtpcpdbofbbpglaaDoorBlk
import Derived.BigQuiet
namespace Go.Proofs.YtpcpdbofbbpglaaDoor
open Go.RowKit

theorem ilists_ne {l1 l2 : List Int} {k : Nat} {x y : Int} (h1 : l1[k]? = some x) (h2 : l2[k]? = some y) (hn : ¬ x = y) : decide (l1 = l2) = false := by
  rw [decide_eq_false_iff_not]
  rintro rfl
  rw [h1] at h2
  exact hn (Option.some.inj h2)

set_option maxRecDepth 100000 in
set_option maxHeartbeats 1000000 in
theorem isame_any (v1 v2 : Value) (l1 l2 : List Int) (w : World) (h1 : IRow w v1 l1) (h2 : IRow w v2 l2) (n1 : l1.length ≤ 1000000) (_ : l2.length ≤ 1000000) :
    Calls Tryd.prog 24 #[v1, v2] w fun e w' => e = .returned (.bool (decide (l1 = l2))) ∧ Below w.heap.size w w' := by
  obtain ⟨A1, c1, rfl, hA1⟩ := h1
  obtain ⟨A2, c2, rfl, hA2⟩ := h2
  by_cases hl : l1.length = l2.length
  · obtain ⟨m, hm⟩ : ∃ m, l1.length = m := ⟨_, rfl⟩
    have hm2 := hl.symm.trans hm
    rw [hm, hm2]
    rw [hm] at n1
    have HM1 := hid hm
    have HM2 := hid hm2
    clear hl hm hm2
    go_enter Tryd.func24, Tryd.ntmps24
    go_wp2
    go_loopw [13] (fun i wr => ∃ k : Nat, k ≤ m ∧ i = .int .i64 k ∧ (∀ j, j < k → l1[j]? = l2[j]?) ∧ Below w.heap.size w wr) (fun i _ => m - (intOf i).toNat)
    case atStart => exact ⟨0, by omega, rfl, fun j h => absurd h (by omega), Below.refl _ _⟩
    case round =>
      obtain ⟨k, hk, rfl, heq, hb⟩ := hrel
      have HEQ := hid heq
      clear heq
      by_cases hlt : k < m
      · have k1 : k < l1.length := by rw [HM1.out]; exact hlt
        have k2 : k < l2.length := by rw [HM2.out]; exact hlt
        obtain ⟨a1, rfl, hg1, hc1⟩ := hA1 (by intro e; subst e; simp at k1)
        obtain ⟨a2, rfl, hg2, hc2⟩ := hA2 (by intro e; subst e; simp at k2)
        have L1 : Hid (l1[k]? = some l1[k]) := hid (List.getElem?_eq_getElem k1)
        have L2 : Hid (l2[k]? = some l2[k]) := hid (List.getElem?_eq_getElem k2)
        generalize l1[k] = x at *
        generalize l2[k] = y at *
        have p1 := (hb.cell (p := a1.add k) (by rw [add_blk]; exact hg1)).trans (hc1 k x L1.out)
        have p2 := (hb.cell (p := a2.add k) (by rw [add_blk]; exact hg2)).trans (hc2 k y L2.out)
        have hki : (k : Int) < m := by omega
        clear hc1 hc2 hA1 hA2 k1 k2
        by_cases hxy : x = y
        · subst hxy
          go_wp2
          go_quiet (fail)
          go_wp2
          go_roundw
          case rel => exact ⟨k + 1, by omega, by go_num, fun j hj => by
            by_cases e : j = k
            · subst e; rw [L1.out, L2.out]
            · exact HEQ.out j (by omega), hb.trans ((below_drew _ _).mono hb.size)⟩
          case measure => simp [intOf]; omega
        · have hne : (x != y) = true := by simp [hxy]
          have HR := hid (ilists_ne L1.out L2.out hxy)
          clear hxy
          go_wp2
          go_quiet (fail)
          go_wp2
          go_ret
          exact ⟨ret_bool HR.out.symm, hb.trans ((below_drew _ _).mono hb.size)⟩
      · have HR : Hid (decide (l1 = l2) = true) := by
          unfold Hid
          rw [decide_eq_true_eq]
          apply List.ext_getElem?
          intro j
          by_cases hj : j < k
          · exact HEQ.out j hj
          · rw [List.getElem?_eq_none (by rw [HM1.out]; omega), List.getElem?_eq_none (by rw [HM2.out]; omega)]
        clear hA1 hA2
        go_wp2
        go_ret
        exact ⟨ret_bool HR.out.symm, hb⟩
  · have HR : Hid (decide (l1 = l2) = false) := by unfold Hid; exact decide_eq_false (fun e => hl (by rw [e]))
    have hne : ((l1.length : Int) != (l2.length : Int)) = true := by simp; omega
    generalize l1.length = m1 at *
    generalize l2.length = m2 at *
    clear hl hA1 hA2
    go_enter Tryd.func24, Tryd.ntmps24
    go_wp2
    go_ret
    exact ⟨ret_bool (by rw [HR.out]), Below.refl _ _⟩

def Dn.cells (d : Dn) (v : Value) : Array Value := #[.int .i64 d.kind, .int .i32 d.rune, .int .i64 d.code, .int .i64 d.priv, v, .int .i64 d.inter, .string d.text]
def likeB (a b : Dn) : Bool := decide (a.kind = b.kind) && (decide (a.rune = b.rune) && (decide (a.code = b.code) && (decide (a.priv = b.priv) && (decide (a.params = b.params) && (decide (a.inter = b.inter) && decide (a.text = b.text))))))
theorem like_iff {a b : Dn} : likeB a b = true ↔ a = b := by
  obtain ⟨a1, a2, a3, a4, a5, a6, a7⟩ := a
  obtain ⟨b1, b2, b3, b4, b5, b6, b7⟩ := b
  unfold likeB
  simp only [Bool.and_eq_true, decide_eq_true_eq, Dn.mk.injEq]
theorem beq_text {s t : ByteArray} : (s.toList == t.toList) = decide (s = t) := by
  rw [ByteArray.toList_eq, ByteArray.toList_eq, Bool.eq_iff_iff]
  simp only [beq_iff_eq, decide_eq_true_eq]
  exact ⟨fun h => ByteArray.ext (Array.toList_inj.1 h), fun h => by rw [h]⟩
theorem Box.seven {W : World} {b : Nat} {t : TypeId} {p q r s u v x : Value} (h : Box W b t #[p, q, r, s, u, v, x]) :
    (W.cell? ⟨b, 0, none⟩ = some p ∧ W.cell? ⟨b, 1, none⟩ = some q ∧ W.cell? ⟨b, 2, none⟩ = some r ∧ W.cell? ⟨b, 3, none⟩ = some s ∧ W.cell? ⟨b, 4, none⟩ = some u ∧ W.cell? ⟨b, 5, none⟩ = some v ∧ W.cell? ⟨b, 6, none⟩ = some x) :=
  ⟨h.cell 0, h.cell 1, h.cell 2, h.cell 3, h.cell 4, h.cell 5, h.cell 6⟩

set_option maxRecDepth 100000 in
set_option maxHeartbeats 2000000 in
theorem rLike_any (a b : Dn) (va vb : Value) (w : World) (ha : IRow w va a.params) (hb : IRow w vb b.params) (n1 : a.params.length ≤ 1000000) (n2 : b.params.length ≤ 1000000) :
    Calls Tryd.prog 14 #[.agg (a.cells va), .agg (b.cells vb)] w fun e w' => e = .returned (.bool (likeB a b)) ∧ Below w.heap.size w w' := by
  obtain ⟨a1, a2, a3, a4, a5, a6, a7⟩ := a
  obtain ⟨b1, b2, b3, b4, b5, b6, b7⟩ := b
  simp only at ha hb n1 n2
  have hsm := fun W (h : Below w.heap.size w W) => isame_any va vb a5 b5 W (ha.below h) (hb.below h) n1 n2
  have hL : likeB ⟨a1, a2, a3, a4, a5, a6, a7⟩ ⟨b1, b2, b3, b4, b5, b6, b7⟩ = (decide (a1 = b1) && (decide (a2 = b2) && (decide (a3 = b3) && (decide (a4 = b4) && (decide (a5 = b5) && (decide (a6 = b6) && decide (a7 = b7))))))) := rfl
  unfold Dn.cells
  simp only
  have hA := (Box.new w 37 #[.int .i64 a1, .int .i32 a2, .int .i64 a3, .int .i64 a4, va, .int .i64 a6, .string a7]).alloc (.cells #[.int .i64 b1, .int .i32 b2, .int .i64 b3, .int .i64 b4, vb, .int .i64 b6, .string b7] 37)
  have hB := Box.new (w.alloc (.cells #[.int .i64 a1, .int .i32 a2, .int .i64 a3, .int .i64 a4, va, .int .i64 a6, .string a7] 37)) 37 #[.int .i64 b1, .int .i32 b2, .int .i64 b3, .int .i64 b4, vb, .int .i64 b6, .string b7]
  rw [World.size_alloc] at hB
  have hbel : Below w.heap.size w ((w.alloc (.cells #[.int .i64 a1, .int .i32 a2, .int .i64 a3, .int .i64 a4, va, .int .i64 a6, .string a7] 37)).alloc (.cells #[.int .i64 b1, .int .i32 b2, .int .i64 b3, .int .i64 b4, vb, .int .i64 b6, .string b7] 37)) := (below_alloc _ _).alloc (by simp) _
  have HA := hid hA
  have HB := hid hB
  have HBL := hid hbel
  obtain ⟨A1, k1, rfl, _⟩ := ha
  obtain ⟨A2, k2, rfl, _⟩ := hb
  clear hA hB hbel n1 n2
  generalize a5.length = m1 at *
  generalize b5.length = m2 at *
  by_cases e0 : a1 = b1
  · subst e0
    by_cases e1 : a2 = b2
    · subst e1
      by_cases e2 : a3 = b3
      · subst e2
        by_cases e3 : a4 = b4
        · subst e3
          cases e4 : decide (a5 = b5)
          · rw [e4] at hL hsm
            have HL : Hid (likeB ⟨a1, a2, a3, a4, a5, a6, a7⟩ ⟨a1, a2, a3, a4, b5, b6, b7⟩ = false) := hid (hL.trans (by simp))
            clear hL e4
            go_enter Tryd.func14, Tryd.ntmps14
            go_wp2_with (go_at_call 24; refine (hsm _ HBL.out).mono ?_; rintro e w2 ⟨rfl, hb2⟩; obtain ⟨c0, c1, c2, c3, c4, c5, c6⟩ := (HA.out.below hb2 (by simp; omega)).seven; obtain ⟨d0, d1, d2, d3, d4, d5, d6⟩ := (HB.out.below hb2 (by simp)).seven)
            go_ret
            exact ⟨ret_bool (by rw [HL.out]; first | done | simp), HBL.out.trans (hb2.mono (by simp; omega))⟩
          · rw [e4] at hL hsm
            by_cases e5 : a6 = b6
            · subst e5
              by_cases e6 : a7 = b7
              · subst e6
                have HL : Hid (likeB ⟨a1, a2, a3, a4, a5, a6, a7⟩ ⟨a1, a2, a3, a4, b5, a6, a7⟩ = true) := hid (hL.trans (by simp))
                clear hL e4
                go_enter Tryd.func14, Tryd.ntmps14
                go_wp2_with (go_at_call 24; refine (hsm _ HBL.out).mono ?_; rintro e w2 ⟨rfl, hb2⟩; obtain ⟨c0, c1, c2, c3, c4, c5, c6⟩ := (HA.out.below hb2 (by simp; omega)).seven; obtain ⟨d0, d1, d2, d3, d4, d5, d6⟩ := (HB.out.below hb2 (by simp)).seven)
                go_ret
                exact ⟨ret_bool (by rw [HL.out]; first | done | simp), HBL.out.trans (hb2.mono (by simp; omega))⟩
              · have q : (a7.toList == b7.toList) = false := by rw [beq_text]; exact decide_eq_false e6
                have HL : Hid (likeB ⟨a1, a2, a3, a4, a5, a6, a7⟩ ⟨a1, a2, a3, a4, b5, a6, b7⟩ = false) := hid (hL.trans (by simp [e6]))
                clear hL e4 e6
                go_enter Tryd.func14, Tryd.ntmps14
                go_wp2_with (go_at_call 24; refine (hsm _ HBL.out).mono ?_; rintro e w2 ⟨rfl, hb2⟩; obtain ⟨c0, c1, c2, c3, c4, c5, c6⟩ := (HA.out.below hb2 (by simp; omega)).seven; obtain ⟨d0, d1, d2, d3, d4, d5, d6⟩ := (HB.out.below hb2 (by simp)).seven)
                go_ret
                exact ⟨ret_bool (by rw [HL.out]; first | done | simp [q]), HBL.out.trans (hb2.mono (by simp; omega))⟩
            · have q : (a6 == b6) = false := by simp [e5]
              have HL : Hid (likeB ⟨a1, a2, a3, a4, a5, a6, a7⟩ ⟨a1, a2, a3, a4, b5, b6, b7⟩ = false) := hid (hL.trans (by simp [e5]))
              clear hL e4 e5
              go_enter Tryd.func14, Tryd.ntmps14
              go_wp2_with (go_at_call 24; refine (hsm _ HBL.out).mono ?_; rintro e w2 ⟨rfl, hb2⟩; obtain ⟨c0, c1, c2, c3, c4, c5, c6⟩ := (HA.out.below hb2 (by simp; omega)).seven; obtain ⟨d0, d1, d2, d3, d4, d5, d6⟩ := (HB.out.below hb2 (by simp)).seven)
              go_ret
              exact ⟨ret_bool (by rw [HL.out]; first | done | simp), HBL.out.trans (hb2.mono (by simp; omega))⟩
        · have q : (a4 == b4) = false := by simp [e3]
          have HL : Hid (likeB ⟨a1, a2, a3, a4, a5, a6, a7⟩ ⟨a1, a2, a3, b4, b5, b6, b7⟩ = false) := hid (hL.trans (by simp [e3]))
          clear hL e3
          clear hsm
          go_enter Tryd.func14, Tryd.ntmps14
          go_wp2
          go_ret
          exact ⟨ret_bool (by rw [HL.out]), HBL.out⟩
      · have q : (a3 == b3) = false := by simp [e2]
        have HL : Hid (likeB ⟨a1, a2, a3, a4, a5, a6, a7⟩ ⟨a1, a2, b3, b4, b5, b6, b7⟩ = false) := hid (hL.trans (by simp [e2]))
        clear hL e2
        clear hsm
        go_enter Tryd.func14, Tryd.ntmps14
        go_wp2
        go_ret
        exact ⟨ret_bool (by rw [HL.out]), HBL.out⟩
    · have q : (a2 == b2) = false := by simp [e1]
      have HL : Hid (likeB ⟨a1, a2, a3, a4, a5, a6, a7⟩ ⟨a1, b2, b3, b4, b5, b6, b7⟩ = false) := hid (hL.trans (by simp [e1]))
      clear hL e1
      clear hsm
      go_enter Tryd.func14, Tryd.ntmps14
      go_wp2
      go_ret
      exact ⟨ret_bool (by rw [HL.out]), HBL.out⟩
  · have q : (a1 == b1) = false := by simp [e0]
    have HL : Hid (likeB ⟨a1, a2, a3, a4, a5, a6, a7⟩ ⟨b1, b2, b3, b4, b5, b6, b7⟩ = false) := hid (hL.trans (by simp [e0]))
    clear hL e0
    clear hsm
    go_enter Tryd.func14, Tryd.ntmps14
    go_wp2
    go_ret
    exact ⟨ret_bool (by rw [HL.out]), HBL.out⟩

/-- A parser's cells, its numbers in a slice. -/
def Pa.cells (p : Pa) (v : Value) : Array Value := #[.int .i64 p.st, .int .i64 p.priv, v, .int .i64 p.inter, .string p.osc, .string p.pend]
theorem Box.six {W : World} {b : Nat} {t : TypeId} {p q r s u v : Value} (h : Box W b t #[p, q, r, s, u, v]) :
    (W.cell? ⟨b, 0, none⟩ = some p ∧ W.cell? ⟨b, 1, none⟩ = some q ∧ W.cell? ⟨b, 2, none⟩ = some r ∧ W.cell? ⟨b, 3, none⟩ = some s ∧ W.cell? ⟨b, 4, none⟩ = some u ∧ W.cell? ⟨b, 5, none⟩ = some v) :=
  ⟨h.cell 0, h.cell 1, h.cell 2, h.cell 3, h.cell 4, h.cell 5⟩
set_option maxRecDepth 100000 in
set_option maxHeartbeats 2000000 in
/-- One parser, its numbers in two slices. -/
theorem rLikeP_eq (p : Pa) (va vb : Value) (w : World) (ha : IRow w va p.params) (hb : IRow w vb p.params) (n1 : p.params.length ≤ 1000000) :
    Calls Tryd.prog 10 #[.agg (p.cells va), .agg (p.cells vb)] w fun e w' => e = .returned (.bool true) ∧ Below w.heap.size w w' := by
  obtain ⟨p1, p2, p3, p4, p5, p6⟩ := p
  simp only at ha hb n1
  have hsm := fun W (h : Below w.heap.size w W) => isame_any va vb p3 p3 W (ha.below h) (hb.below h) n1 n1
  rw [decide_eq_true rfl] at hsm
  unfold Pa.cells
  simp only
  have hA := (Box.new w 24 #[.int .i64 p1, .int .i64 p2, va, .int .i64 p4, .string p5, .string p6]).alloc (.cells #[.int .i64 p1, .int .i64 p2, vb, .int .i64 p4, .string p5, .string p6] 24)
  have hB := Box.new (w.alloc (.cells #[.int .i64 p1, .int .i64 p2, va, .int .i64 p4, .string p5, .string p6] 24)) 24 #[.int .i64 p1, .int .i64 p2, vb, .int .i64 p4, .string p5, .string p6]
  rw [World.size_alloc] at hB
  have hbel : Below w.heap.size w ((w.alloc (.cells #[.int .i64 p1, .int .i64 p2, va, .int .i64 p4, .string p5, .string p6] 24)).alloc (.cells #[.int .i64 p1, .int .i64 p2, vb, .int .i64 p4, .string p5, .string p6] 24)) := (below_alloc _ _).alloc (by simp) _
  have HA := hid hA
  have HB := hid hB
  have HBL := hid hbel
  obtain ⟨A1, k1, rfl, _⟩ := ha
  obtain ⟨A2, k2, rfl, _⟩ := hb
  clear hA hB hbel n1
  generalize p3.length = m1 at *
  go_enter Tryd.func10, Tryd.ntmps10
  go_wp2_with (go_at_call 24; refine (hsm _ HBL.out).mono ?_; rintro e w2 ⟨rfl, hb2⟩; obtain ⟨c0, c1, c2, c3, c4, c5⟩ := (HA.out.below hb2 (by simp; omega)).six; obtain ⟨d0, d1, d2, d3, d4, d5⟩ := (HB.out.below hb2 (by simp)).six)
  go_ret
  exact ⟨ret_bool (by first | rfl | simp), HBL.out.trans (hb2.mono (by simp; omega))⟩
end Go.Proofs.YtpcpdbofbbpglaaDoor
