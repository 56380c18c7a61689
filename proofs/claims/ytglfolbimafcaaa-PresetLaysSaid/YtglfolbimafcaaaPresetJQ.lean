/- Layer 12, the package: rootAbove; slices.Chunk and its iterator. Made by wip/gen/presetJ.py. -/
import Derived.Test.YtglfolbimafcaaaHeldRQ
import Derived.Test.YtglfolbimafcaaaHeldSQ
import Derived.Test.YtglfolbimafcaaaPresetIQ
import Derived.RangeFuncNested
import Derived.RangeFuncBound
import Derived.RangeFuncCalls
import Derived.RangeFuncLeaves
import Derived.RangeFuncBox
import Derived.Shelf.Abstract
import Derived.Shelf.RegionOpen
import Derived.OwnWalkIn
import Derived.TacticsInMore
import Derived.LoopNIn
import Derived.LoopIn
import Derived.Sort.CutIn
import Derived.Stop.RegionWithIn
namespace Go.Proofs.Ytglfolbimafcaaa
open Go.RowKit Go.Shelf
attribute [local go_sem] Oper.semAt_some

theorem root_step {n k : Nat} (hn : n ≤ 8) (hk : k ≤ rootN n) : (k * k < n ↔ k < rootN n) := by
  have h : ∀ n : Fin 9, ∀ k : Fin 4, k.val ≤ rootN n.val → (k.val * k.val < n.val ↔ k.val < rootN n.val) := by decide +kernel
  have := rootN_le n hn
  exact h ⟨n, by omega⟩ ⟨k, by omega⟩ hk
set_option maxRecDepth 100000 in
set_option maxHeartbeats 1000000 in
theorem root_any (n : Nat) (W : World) (hn : n ≤ 8) : Calls Try.prog 76 #[.int .i64 n] W fun e w' => e = .returned (.int .i64 (rootN n)) ∧ w' = W := by
  have h3 := rootN_le n hn
  go_enter Try.func76, Try.ntmps76
  go_wp2_with fail
  go_loopw [3] (fun i wr => ∃ k : Nat, i = .int .i64 k ∧ k ≤ rootN n ∧ wr = W) (fun i _ => rootN n - (intOf i).toNat)
  case atStart => exact ⟨0, rfl, Nat.zero_le _, rfl⟩
  case round =>
    obtain ⟨k, rfl, hk, rfl⟩ := hrel
    have hs := root_step hn hk
    have hk3 : (k : Int) ≤ 3 := by omega
    obtain ⟨q, hq⟩ : ∃ q : Nat, k * k = q := ⟨_, rfl⟩
    have hqi : (k : Int) * k = q := by rw [← hq]; rfl
    have hq9 : (q : Int) ≤ 9 := by
      have : k * k ≤ 3 * 3 := Nat.mul_le_mul (by omega) (by omega)
      omega
    rw [hq] at hs
    by_cases hlt : k < rootN n
    · have h1 : (q : Int) < n := by have := hs.2 hlt; omega
      clear hs hq
      go_wp2
      go_roundw
      case rel => exact ⟨k + 1, by go_num, by omega, trivial⟩
      case measure => simp [intOf]; omega
    · have h1 : ¬ (q : Int) < n := by intro h; exact hlt (hs.1 (by omega))
      have hke : k = rootN n := by omega
      have h2 : n ≤ q := by omega
      have h3' : (n : Int) ≤ q := by omega
      have d1 : decide ((q : Int) < n) = false := decide_eq_false h1
      clear hs hq
      have HKE := hid hke
      clear hke
      go_wp2
      go_ret
      exact ⟨ret_int (by rw [HKE.out]), rfl⟩
set_option maxHeartbeats 1000000 in
theorem chunk_any (A : Option Addr) (N c n : Nat) (W : World) (hn : 1 ≤ n) (hn8 : n ≤ 8) :
    Calls Try.prog 75 #[.slice A N c, .int .i64 n] W fun e w' => e = .returned (.func (.func 78) #[] #[.pointer (some ⟨W.heap.size, 0, none⟩), .pointer (some ⟨W.heap.size + 1, 0, none⟩)]) ∧ w' = (W.alloc (.cells #[.slice A N c] 36)).alloc (.cells #[.int .i64 n] 3) := by
  have d1 : decide ((n : Int) < 1) = false := decide_eq_false (by omega)
  go_enter Try.func75, Try.ntmps75
  go_wp2
  go_ret
  exact ⟨rfl, rfl⟩
/-- The cells of some blocks lie as they lay. -/
def KpC (P : Nat → Prop) (X Y : World) : Prop := ∀ (a : Addr) (v : Value), P a.block → X.cell? a = some v → Y.cell? a = some v
theorem KpC.refl (P : Nat → Prop) (X : World) : KpC P X X := fun _ _ _ h => h
theorem KpC.trans {P : Nat → Prop} {X Y Z : World} (h : KpC P X Y) (k : KpC P Y Z) : KpC P X Z := fun a v hp hv => k a v hp (h a v hp hv)
theorem KpC.below {P : Nat → Prop} {X Y : World} (h : Below X.heap.size X Y) : KpC P X Y := fun a v _ hv => by
  obtain ⟨o, ho, _⟩ := cells_of_cell hv
  exact (h.cell (Array.getElem?_eq_some_iff.1 ho).1).trans hv
theorem KpC.set {P : Nat → Prop} {X Y : World} (h : KpC P X Y) {b i : Nat} (hb : ¬ P b) (u : Value) : KpC P X (Y.setCell ⟨b, i, none⟩ u) := fun a v hp hv => by
  have h1 := h a v hp hv
  unfold World.cell? at h1 ⊢
  rw [Below.heap_setCell Y ⟨b, i, none⟩ u a.block (by rintro rfl; exact hb hp)]
  exact h1
theorem KpC.grown {P : Nat → Prop} {X Y Z : World} {row : Option Nat} (h : KpC P X Y) (hg : Y.grownBy Z row) (hr : ∀ r, row = some r → ¬ P r) : KpC P X Z := fun a v hp hv => by
  have h1 := h a v hp hv
  obtain ⟨o, ho, _⟩ := cells_of_cell h1
  have hlt : a.block < Y.heap.size := (Array.getElem?_eq_some_iff.1 ho).1
  have := hg.block a.block hlt (fun e => hr _ e.symm hp)
  unfold World.cell? at h1 ⊢
  rw [this]
  exact h1
theorem KpC.putObj {P : Nat → Prop} (W : World) (l : Nat) (o o' : Obj) (h : W.heap[l]? = some o) (h1 : o.isCells = false) : KpC P W (W.putObj l o') := fun a v _ hv => by
  obtain ⟨x, hx, hc⟩ := cells_of_cell hv
  have hne : a.block ≠ l := by rintro e; rw [e, h] at hx; cases hx; rw [h1] at hc; cases hc
  unfold World.cell? at hv ⊢
  rw [World.putObj_heap_other hne]
  exact hv
/-- Some panes, where they lie. -/
def CkP (w0 : World) (x : List Int × Value) : Prop := NRow w0 x.2 x.1 ∧ x.1 ≠ [] ∧ x.1.length ≤ 8
abbrev Ck (w0 : World) : Type := { x : List Int × Value // CkP w0 x }
abbrev ckEnc {w0 : World} (x : Ck w0) : Array Value := #[x.val.2]
theorem chunk_step {n f : Nat} {l : List Int} (hl : l ≠ []) (hf : l.length ≤ f) : ∃ f', f = f' + 1 ∧ chunkL n f l = l.take n :: chunkL n f' (l.drop n) := by
  have : 1 ≤ l.length := List.length_pos_iff.2 hl
  refine ⟨f - 1, by omega, ?_⟩
  obtain ⟨f', rfl⟩ : ∃ f', f = f' + 1 := ⟨f - 1, by omega⟩
  rw [chunkL, if_neg hl]
  rfl
theorem NRow.part {W : World} {g o N c : Nat} {ps : List Int} (h : NRow W (.slice (some ⟨g, o, none⟩) N c) ps) (i m : Nat) (hm : i + m ≤ ps.length) : NRow W (.slice (some ⟨g, o + i, none⟩) m m) ((ps.drop i).take m) := by
  obtain ⟨A', c', e, hc, hl⟩ := h
  cases e
  have hlen : ((ps.drop i).take m).length = m := by rw [List.length_take, List.length_drop]; omega
  refine ⟨some ⟨g, o + i, none⟩, m, by rw [hlen], by rw [hlen]; exact Nat.le_refl _, fun hn => ?_⟩
  obtain ⟨g', o', hA, hg, hx⟩ := hl (by intro e; rw [e] at hn; simp at hn)
  cases hA
  refine ⟨g, o + i, rfl, hg, fun j x hj => ?_⟩
  have hjm : j < m := by have := (List.getElem?_eq_some_iff.1 hj).1; omega
  rw [List.getElem?_take_of_lt hjm, List.getElem?_drop] at hj
  have := hx (i + j) x hj
  rwa [show o + (i + j) = o + i + j by omega] at this
set_option maxRecDepth 100000 in
theorem slice_from (g o n c i : Nat) (hi : i < n) (hc : n ≤ c) (W : World) : (Instr.sliceAt 36 (.slice (some ⟨g, o, none⟩) n c) (some (.int .i64 i)) none none).run Try.prog W = .ok (.slice (some ⟨g, o + i, none⟩) (n - i) (c - i)) W := by
  rw [run_sliceAt_slice W _ _ _ _ _ Try.underlying36, run_slice_l W 36 (some ⟨g, o, none⟩) n c Try.underlying36 .i64 i (by omega) (by omega)]
  have hs : (sizeOf (Try.prog.elem 36)).run Try.prog W = .ok 1 W := by kernel_rfl
  rw [hs]
  simp only [Result.andThen, Int.toNat_natCast, sliced]
  rw [if_neg (by omega)]
  simp [Addr.add]
set_option maxRecDepth 100000 in
theorem slice_part (g o n c i m : Nat) (hi : i + m ≤ n) (hm : 1 ≤ m) (hc : n ≤ c) (W : World) : (Instr.sliceAt 36 (.slice (some ⟨g, o, none⟩) n c) (some (.int .i64 i)) (some (.int .i64 ((i : Int) + m))) (some (.int .i64 ((i : Int) + m)))).run Try.prog W = .ok (.slice (some ⟨g, o + i, none⟩) m m) W := by
  rw [run_sliceAt_slice W _ _ _ _ _ Try.underlying36, run_slice_lhm W 36 (some ⟨g, o, none⟩) n c Try.underlying36 .i64 .i64 .i64 i (i + m) (i + m) (by omega) (by omega) (by omega) (by omega)]
  have hs : (sizeOf (Try.prog.elem 36)).run Try.prog W = .ok 1 W := by kernel_rfl
  rw [hs]
  simp only [Result.andThen, Int.toNat_natCast, sliced]
  rw [show ((i : Int) + m).toNat = i + m by omega, if_neg (by omega), show i + m - i = m by omega]
  simp [Addr.add]
theorem abides8c {β : Type} {B : Nat} {J : β → World → Prop} (h : AbidesFrom B J) {s : β} {W W' : World} (hs : J s W) (hb : Below W.heap.size W W') : J s W' :=
  h s W W' none hs ⟨hb.os, hb.tape, hb.output, hb.size, fun k hk _ => hb.block k hk⟩ (fun r e => by cases e)
set_option maxRecDepth 100000 in
set_option maxHeartbeats 4000000 in
theorem chunk1_in (nn : Nat) (hnn : 1 ≤ nn) (l B1 B2 : Nat) (ps : List Int) (n : Nat) (v : Value) (w0 : World) (hr : NRow w0 v ps) (hps : ps.length ≤ 8) (hp1 : 1 ≤ ps.length) (hn1 : 1 ≤ n) (hn3 : n ≤ 3) (P : Nat → Prop) (hP1 : P B1) (hP2 : P B2) (J Jx : List (Ck w0) → World → Prop) (B : Nat) (hJ : AbidesFrom B J) (_hJx : AbidesFrom B Jx)
    (hY : ∀ pre x W, J pre W → pre.length < ps.length → YieldAt Fence.wide (nn - 1) Try.prog l (ckEnc x) W fun e W' =>
      (e = .returned (.bool true) ∧ J (pre ++ [x]) W' ∧ KpC P W W') ∨ (e = .returned (.bool false) ∧ Jx (pre ++ [x]) W'))
    (W : World) (hc1 : W.cell? ⟨B1, 0, none⟩ = some v) (hc2 : W.cell? ⟨B2, 0, none⟩ = some (.int .i64 n)) (h0 : J [] W) :
    CallsIn Fence.wide nn Try.prog 78 #[.func (.yield l) #[] #[], .pointer (some ⟨B1, 0, none⟩), .pointer (some ⟨B2, 0, none⟩)] W fun e W' => (∃ v, e = .returned v) ∧
      ((∃ ys, ys.map (·.val.1) = chunkL n ps.length ps ∧ J ys W') ∨ (∃ pre, pre.map (·.val.1) <+: chunkL n ps.length ps ∧ Jx pre W')) := by
  refine callsIn_of_wp Try.func78 rfl trivial ?_ rfl
  have hr0 := hr
  obtain ⟨vA, c, rfl, hcc, hl⟩ := hr
  obtain ⟨g, o, rfl, _, _⟩ := hl (List.length_pos_iff.1 hp1)
  obtain ⟨N, hN⟩ : ∃ N, ps.length = N := ⟨_, rfl⟩
  rw [hN] at hr0 hps hp1 hcc hc1 hY
  have HR := hid hr0
  have HY := hid hY
  have HJ := hid hJ
  have HC1 := hid hc1
  have HC2 := hid hc2
  have HNN := hid hN
  clear hl hr0 hY hJ hc1 hc2
  simp only [Try.ntmps78, List.size_toArray, List.length_cons, List.length_nil, Nat.reduceAdd, Nat.reduceSub, Array.replicate_succ, Array.replicate_zero, List.push_toArray, List.append_toArray, List.nil_append, List.cons_append]
  gi_wp2
  gi_loopw [4] (fun p wr => ∃ (pre : List (Ck w0)) (i f : Nat), p = .int .i64 i ∧ i ≤ N + 3 ∧ pre.length ≤ i ∧ (ps.drop i).length ≤ f ∧ pre.map (·.val.1) ++ chunkL n f (ps.drop i) = chunkL n ps.length ps ∧ J pre wr ∧ KpC P W wr)
    (fun p _ => N + 3 - (intOf p).toNat)
  case atStart =>
    exact ⟨[], 0, ps.length, rfl, Nat.zero_le _, Nat.le_refl _, by simp, rfl, h0, KpC.refl _ _⟩
  case round =>
    obtain ⟨pre, i, f, rfl, hiN, hpi, hf, hck, hJs, hbw⟩ := hrel
    have c1 : wr.cell? ⟨B1, 0, none⟩ = some (.slice (some ⟨g, o, none⟩) N c) := hbw ⟨B1, 0, none⟩ _ hP1 HC1.out
    have c2 : wr.cell? ⟨B2, 0, none⟩ = some (.int .i64 n) := hbw ⟨B2, 0, none⟩ _ hP2 HC2.out
    by_cases hi : i < N
    · have hii : (i : Int) < N := by omega
      have hne : ps.drop i ≠ [] := by intro e; have := congrArg List.length e; rw [List.length_drop] at this; simp at this; omega
      obtain ⟨f', rfl, hst⟩ := chunk_step (n := n) hne hf
      obtain ⟨m, hm⟩ : ∃ m, min n (N - i) = m := ⟨_, rfl⟩
      have htk : (ps.drop i).take n = (ps.drop i).take m := by
        rw [← hm]
        rcases Nat.le_total n (N - i) with h | h
        · rw [Nat.min_eq_left h]
        · rw [Nat.min_eq_right h, List.take_of_length_le (by rw [List.length_drop]; omega), List.take_of_length_le (by rw [List.length_drop]; omega)]
      have hm1 : 1 ≤ m ∧ i + m ≤ N ∧ m ≤ 8 := by omega
      have hrow := HR.out.part i m (by have := HNN.out; omega)
      have hlen : ((ps.drop i).take m).length = m := by rw [List.length_take, List.length_drop]; have := HNN.out; omega
      rw [hst, htk, List.drop_drop] at hck
      have hxok : CkP w0 ((ps.drop i).take m, .slice (some ⟨g, o + i, none⟩) m m) := ⟨hrow, fun e => by have e : (ps.drop i).take m = [] := e; rw [e] at hlen; simp at hlen; omega, by show ((ps.drop i).take m).length ≤ 8; rw [hlen]; omega⟩
      have HS := hid (show (pre ++ [(⟨((ps.drop i).take m, .slice (some ⟨g, o + i, none⟩) m m), hxok⟩ : Ck w0)]).map (·.val.1) ++ chunkL n f' (ps.drop (i + n)) = chunkL n ps.length ps by
        rw [List.map_append, List.append_assoc]; exact hck)
      have HF := hid (show (ps.drop (i + n)).length ≤ f' by rw [List.length_drop] at hf ⊢; omega)
      have hs1 := slice_from g o N c i hi hcc
      have hs2 := slice_part g o N c i m hm1.2.1 hm1.1 hcc
      have hmin : min (n : Int) ((N - i : Nat) : Int) = m := by omega
      obtain ⟨rn, hrn⟩ : ∃ rn, N - i = rn := ⟨_, rfl⟩
      rw [hrn] at hs1 hmin
      have hrn1 : (1 : Int) ≤ rn ∧ (rn : Int) ≤ 8 := by omega
      have HPL := hid (show pre.length < N by omega)
      have HJS := hid hJs
      have HBW := hid hbw
      obtain ⟨m1, m2, m3⟩ := hm1
      have hmI : (1 : Int) ≤ m ∧ (i : Int) + m ≤ N ∧ (m : Int) ≤ 8 := by omega
      have hnI : (1 : Int) ≤ n ∧ (n : Int) ≤ 3 := by omega
      have hiI : (i : Int) ≤ 8 := by omega
      have HLI := hid (show i + n ≤ N + 3 ∧ (pre ++ [(⟨((ps.drop i).take m, .slice (some ⟨g, o + i, none⟩) m m), hxok⟩ : Ck w0)]).length ≤ i + n by rw [List.length_append, List.length_singleton]; omega)
      clear hne hst htk hrow hlen hck hf hJs hm hbw
      rcases Nat.lt_or_ge rn n with hlt | hlt
      · have hlI : (rn : Int) < n := by omega
        obtain rfl : m = rn := by omega
        have hti : ((i : Int) + m).toNat - i = m := by omega
        gi_upto_region 3 with fail
        have hS0 : wr.drew.cell? ⟨B1, 0, none⟩ = some (.slice (some ⟨g, o, none⟩) N c) ∧ wr.drew.cell? ⟨B2, 0, none⟩ = some (.int .i64 n) := ⟨c1, c2⟩
        refine wpIn_region_S0 (fun _ w' => w'.cell? ⟨B1, 0, none⟩ = some (.slice (some ⟨g, o, none⟩) N c) ∧ w'.cell? ⟨B2, 0, none⟩ = some (.int .i64 n)) (by kernel_rfl) ?_
        refine takeC (i := 0) (v := ?v0q) 13 rfl rfl (by kernel_rfl) (by kernel_rfl) (by kernel_rfl) (by kernel_rfl) (fun _ _ _ h => h) (Or.inl ⟨by rfl, fun w' hw' => ?hy0q⟩) hS0 ?rest0q
        case hy0q => have a0 := hw'.2; go_simp; try with_reducible rfl
        try simp only [Act.put, List.setIfInBounds_toArray, List.set_cons_zero, List.set_cons_succ]
        refine takeC (i := 1) (v := ?v1q) 14 rfl rfl (by kernel_rfl) (by kernel_rfl) (by kernel_rfl) (by kernel_rfl) (fun _ _ _ h => h) (Or.inl ⟨by rfl, fun w' hw' => ?hy1q⟩) hS0 ?rest1q
        case hy1q => have a1 := hw'.1; go_simp; try with_reducible rfl
        try simp only [Act.put, List.setIfInBounds_toArray, List.set_cons_zero, List.set_cons_succ]
        refine takeC (i := 2) (v := ?v2q) 15 rfl rfl (by kernel_rfl) (by kernel_rfl) (by kernel_rfl) (by kernel_rfl) (fun _ _ _ h => h) (Or.inl ⟨by rfl, fun w' hw' => ?hy2q⟩) hS0 ?rest2q
        case hy2q => go_simp; try with_reducible rfl
        try simp only [Act.put, List.setIfInBounds_toArray, List.set_cons_zero, List.set_cons_succ]
        refine takeC (i := 3) (v := ?v3q) 16 rfl rfl (by kernel_rfl) (by kernel_rfl) (by kernel_rfl) (by kernel_rfl) (fun _ _ _ h => h) (Or.inl ⟨by rfl, fun w' hw' => ?hy3q⟩) hS0 ?rest3q
        case hy3q => go_simp; try with_reducible rfl
        try simp only [Act.put, List.setIfInBounds_toArray, List.set_cons_zero, List.set_cons_succ]
        refine takeC (i := 4) (v := ?v4q) 17 rfl rfl (by kernel_rfl) (by kernel_rfl) (by kernel_rfl) (by kernel_rfl) (fun _ _ _ h => h) (Or.inl ⟨by rfl, fun w' hw' => ?hy4q⟩) hS0 ?rest4q
        case hy4q => go_simp; try with_reducible rfl
        try simp only [Act.put, List.setIfInBounds_toArray, List.set_cons_zero, List.set_cons_succ]
        refine takeC (i := 5) (v := ?v5q) 18 rfl rfl (by kernel_rfl) (by kernel_rfl) (by kernel_rfl) (by kernel_rfl) (fun _ _ _ h => h) (Or.inl ⟨by rfl, fun w' hw' => ?hy5q⟩) hS0 ?rest5q
        case hy5q => go_simp; try with_reducible rfl
        try simp only [Act.put, List.setIfInBounds_toArray, List.set_cons_zero, List.set_cons_succ]
        refine takeC (i := 6) (v := ?v6q) 5 rfl rfl (by kernel_rfl) (by kernel_rfl) (by kernel_rfl) (by kernel_rfl) (fun _ _ _ h => h) (Or.inl ⟨by rfl, fun w' hw' => ?hy6q⟩) hS0 ?rest6q
        case hy6q => go_simp; try with_reducible rfl
        try simp only [Act.put, List.setIfInBounds_toArray, List.set_cons_zero, List.set_cons_succ]
        refine doneS (by kernel_rfl) ?_ _
        have hJX : J pre wr.drew := abides8c HJ.out HJS.out (below_drew wr 1)
        have hbX : KpC P W wr.drew := HBW.out.trans (KpC.below (below_drew wr 1))
        have c1 : wr.drew.cell? ⟨B1, 0, none⟩ = some (.slice (some ⟨g, o, none⟩) N c) := c1
        obtain ⟨fn, tmps, assign, body, hy, hR⟩ := HY.out pre ⟨((ps.drop i).take m, .slice (some ⟨g, o + i, none⟩) m m), hxok⟩ wr.drew hJX HPL.out
        dsimp only [ckEnc] at hy
        gi_wp2
        refine hR.mono ?_
        rintro e W3 (⟨rfl, hJ3, hk3⟩ | ⟨rfl, hJx3⟩)
        · have c2' : W3.cell? ⟨B2, 0, none⟩ = some (.int .i64 n) := (hbX.trans hk3) ⟨B2, 0, none⟩ _ hP2 HC2.out
          gi_wp2
          go_roundw
          case rel => exact ⟨_, i + n, f', by go_num, HLI.out.1, HLI.out.2, HF.out, HS.out, hJ3, hbX.trans hk3⟩
          case measure => simp [intOf]; omega
        · gi_wp2
          refine bodyPost_ret (results_none rfl _ _ _) rfl ?_
          exact ⟨⟨_, rfl⟩, .inr ⟨_, ⟨_, HS.out⟩, hJx3⟩⟩
      · have hlI : (n : Int) ≤ rn := by omega
        obtain rfl : n = m := by omega
        have hti : ((i : Int) + n).toNat - i = n := by omega
        gi_upto_region 3 with fail
        have hS0 : wr.drew.cell? ⟨B1, 0, none⟩ = some (.slice (some ⟨g, o, none⟩) N c) ∧ wr.drew.cell? ⟨B2, 0, none⟩ = some (.int .i64 n) := ⟨c1, c2⟩
        refine wpIn_region_S0 (fun _ w' => w'.cell? ⟨B1, 0, none⟩ = some (.slice (some ⟨g, o, none⟩) N c) ∧ w'.cell? ⟨B2, 0, none⟩ = some (.int .i64 n)) (by kernel_rfl) ?_
        refine takeC (i := 0) (v := ?v0k) 13 rfl rfl (by kernel_rfl) (by kernel_rfl) (by kernel_rfl) (by kernel_rfl) (fun _ _ _ h => h) (Or.inl ⟨by rfl, fun w' hw' => ?hy0k⟩) hS0 ?rest0k
        case hy0k => have a0 := hw'.2; go_simp; try with_reducible rfl
        try simp only [Act.put, List.setIfInBounds_toArray, List.set_cons_zero, List.set_cons_succ]
        refine takeC (i := 1) (v := ?v1k) 14 rfl rfl (by kernel_rfl) (by kernel_rfl) (by kernel_rfl) (by kernel_rfl) (fun _ _ _ h => h) (Or.inl ⟨by rfl, fun w' hw' => ?hy1k⟩) hS0 ?rest1k
        case hy1k => have a1 := hw'.1; go_simp; try with_reducible rfl
        try simp only [Act.put, List.setIfInBounds_toArray, List.set_cons_zero, List.set_cons_succ]
        refine takeC (i := 2) (v := ?v2k) 15 rfl rfl (by kernel_rfl) (by kernel_rfl) (by kernel_rfl) (by kernel_rfl) (fun _ _ _ h => h) (Or.inl ⟨by rfl, fun w' hw' => ?hy2k⟩) hS0 ?rest2k
        case hy2k => go_simp; try with_reducible rfl
        try simp only [Act.put, List.setIfInBounds_toArray, List.set_cons_zero, List.set_cons_succ]
        refine takeC (i := 3) (v := ?v3k) 16 rfl rfl (by kernel_rfl) (by kernel_rfl) (by kernel_rfl) (by kernel_rfl) (fun _ _ _ h => h) (Or.inl ⟨by rfl, fun w' hw' => ?hy3k⟩) hS0 ?rest3k
        case hy3k => go_simp; try with_reducible rfl
        try simp only [Act.put, List.setIfInBounds_toArray, List.set_cons_zero, List.set_cons_succ]
        refine takeC (i := 4) (v := ?v4k) 17 rfl rfl (by kernel_rfl) (by kernel_rfl) (by kernel_rfl) (by kernel_rfl) (fun _ _ _ h => h) (Or.inl ⟨by rfl, fun w' hw' => ?hy4k⟩) hS0 ?rest4k
        case hy4k => go_simp; try with_reducible rfl
        try simp only [Act.put, List.setIfInBounds_toArray, List.set_cons_zero, List.set_cons_succ]
        refine takeC (i := 5) (v := ?v5k) 18 rfl rfl (by kernel_rfl) (by kernel_rfl) (by kernel_rfl) (by kernel_rfl) (fun _ _ _ h => h) (Or.inl ⟨by rfl, fun w' hw' => ?hy5k⟩) hS0 ?rest5k
        case hy5k => go_simp; try with_reducible rfl
        try simp only [Act.put, List.setIfInBounds_toArray, List.set_cons_zero, List.set_cons_succ]
        refine takeC (i := 6) (v := ?v6k) 5 rfl rfl (by kernel_rfl) (by kernel_rfl) (by kernel_rfl) (by kernel_rfl) (fun _ _ _ h => h) (Or.inl ⟨by rfl, fun w' hw' => ?hy6k⟩) hS0 ?rest6k
        case hy6k => go_simp; try with_reducible rfl
        try simp only [Act.put, List.setIfInBounds_toArray, List.set_cons_zero, List.set_cons_succ]
        refine doneS (by kernel_rfl) ?_ _
        have hJX : J pre wr.drew := abides8c HJ.out HJS.out (below_drew wr 1)
        have hbX : KpC P W wr.drew := HBW.out.trans (KpC.below (below_drew wr 1))
        have c1 : wr.drew.cell? ⟨B1, 0, none⟩ = some (.slice (some ⟨g, o, none⟩) N c) := c1
        obtain ⟨fn, tmps, assign, body, hy, hR⟩ := HY.out pre ⟨((ps.drop i).take n, .slice (some ⟨g, o + i, none⟩) n n), hxok⟩ wr.drew hJX HPL.out
        dsimp only [ckEnc] at hy
        gi_wp2
        refine hR.mono ?_
        rintro e W3 (⟨rfl, hJ3, hk3⟩ | ⟨rfl, hJx3⟩)
        · have c2' : W3.cell? ⟨B2, 0, none⟩ = some (.int .i64 n) := (hbX.trans hk3) ⟨B2, 0, none⟩ _ hP2 HC2.out
          gi_wp2
          go_roundw
          case rel => exact ⟨_, i + n, f', by go_num, HLI.out.1, HLI.out.2, HF.out, HS.out, hJ3, hbX.trans hk3⟩
          case measure => simp [intOf]; omega
        · gi_wp2
          refine bodyPost_ret (results_none rfl _ _ _) rfl ?_
          exact ⟨⟨_, rfl⟩, .inr ⟨_, ⟨_, HS.out⟩, hJx3⟩⟩
    · have hnil : ps.drop i = [] := List.drop_eq_nil_of_le (by have := HNN.out; omega)
      have HS : Hid (pre.map (·.val.1) = chunkL n ps.length ps) := by
        unfold Hid
        rw [← hck, hnil]
        cases f with
        | zero => exact (List.append_nil _).symm
        | succ f => rw [chunkL, if_pos rfl]; exact (List.append_nil _).symm
      have hd : decide ((i : Int) < N) = false := decide_eq_false (by omega)
      clear hck hnil hf
      gi_wp2
      go_end0
      exact ⟨⟨_, rfl⟩, .inl ⟨pre, HS.out, hJs⟩⟩
theorem chunk_stops (nn : Nat) (hnn : 1 ≤ nn) (B1 B2 : Nat) (ps : List Int) (n : Nat) (v : Value) (w0 ws : World) (hr : NRow w0 v ps) (hps : ps.length ≤ 8) (hp1 : 1 ≤ ps.length) (hn1 : 1 ≤ n) (hn3 : n ≤ 3) (P : Nat → Prop) (hP1 : P B1) (hP2 : P B2) (hc1 : ws.cell? ⟨B1, 0, none⟩ = some v) (hc2 : ws.cell? ⟨B2, 0, none⟩ = some (.int .i64 n)) :
    SeqStopsK Fence.wide nn Try.prog 78 #[.pointer (some ⟨B1, 0, none⟩), .pointer (some ⟨B2, 0, none⟩)] (ckEnc (w0 := w0)) (KpC P) (fun ys => ys.map (·.val.1) = chunkL n ps.length ps) (fun pre => pre.map (·.val.1) <+: chunkL n ps.length ps) ps.length ws := fun l J Jx W hW hJ hJx hY h0 =>
  chunk1_in nn hnn l B1 B2 ps n v w0 hr hps hp1 hn1 hn3 P hP1 hP2 J Jx _ hJ hJx hY W (KpC.below hW (P := P) _ _ hP1 hc1) (KpC.below hW (P := P) _ _ hP2 hc2) h0
end Go.Proofs.Ytglfolbimafcaaa
