/- The package wire: which frames stand in a text, one behind the other, and the iterator that hands them on. -/
import Derived.RangeFuncNested
import Derived.RangeFuncBound
import Derived.RangeFuncCalls
import Derived.RangeFuncLeaves
import Derived.RangeFuncBox
import Derived.Shelf.Abstract
import Derived.Shelf.RegionOpen
import Derived.OwnWalkIn
import Derived.TacticsInMore
import Derived.LoopNIn
import Derived.LoopIn
import Derived.Sort.CutIn
import Derived.Stop.RegionWithIn
import Derived.Test.YthkgflghiooboaaWireA
import Derived.Test.YthkgflghiooboaaClone
namespace Go.Proofs.Ythkgflghiooboaa
open Go.RowKit Go.Shelf
attribute [local go_sem] Oper.semAt_some

structure Fr where
  tag : Int
  text : ByteArray

def frOf (s : ByteArray) : Fr := ⟨byteAt s 0, s.extract 3 (sizeN s - 1)⟩
def restOf (s : ByteArray) : ByteArray := s.extract (sizeN s) s.size
theorem stands_le {s : ByteArray} (h : standsB s = true) : 3 ≤ s.size ∧ sizeN s ≤ s.size := by
  unfold standsB wholeB at h
  simp at h
  exact h.2
theorem restOf_size (s : ByteArray) : (restOf s).size = s.size - sizeN s := by unfold restOf; rw [size_extract']; omega
theorem restOf_lt {s : ByteArray} (h : standsB s = true) : (restOf s).size < s.size := by
  have := stands_le h; have := sizeN_bd s
  rw [restOf_size]; omega

/-- The frames that stand, one behind the other, each with what is behind it. -/
def pairsG (s : ByteArray) : List (Fr × ByteArray) := if _h : standsB s = true then (frOf s, restOf s) :: pairsG (restOf s) else []
termination_by s.size
decreasing_by exact restOf_lt _h
theorem pairsG_yes {s : ByteArray} (h : standsB s = true) : pairsG s = (frOf s, restOf s) :: pairsG (restOf s) := by rw [pairsG]; simp [h]
theorem pairsG_no {s : ByteArray} (h : standsB s = false) : pairsG s = [] := by rw [pairsG]; simp [h]
/-- What is left behind the last one. -/
def leftG (s : ByteArray) : ByteArray := if _h : standsB s = true then leftG (restOf s) else s
termination_by s.size
decreasing_by exact restOf_lt _h
theorem leftG_yes {s : ByteArray} (h : standsB s = true) : leftG s = leftG (restOf s) := by rw [leftG]; simp [h]
theorem leftG_no {s : ByteArray} (h : standsB s = false) : leftG s = s := by rw [leftG]; simp [h]

abbrev pairEnc (x : Fr × ByteArray) : Array Value := #[.agg #[.int .i64 x.1.tag, .string x.1.text], .string x.2]

theorem abides {β : Type} {B : Nat} {J : β → World → Prop} (h : AbidesFrom B J) {s : β} {W W' : World} (hs : J s W) (hb : Below W.heap.size W W') : J s W' :=
  h s W W' none hs ⟨hb.os, hb.tape, hb.output, hb.size, fun k hk _ => hb.block k hk⟩ (fun r e => by cases e)

set_option maxRecDepth 100000 in
set_option maxHeartbeats 2000000 in
theorem standing1_in (n : Nat) (hn : 1 ≤ n) (l Bn : Nat) (s : ByteArray) (hs : s.size ≤ 1000000) (J Jx : List (Fr × ByteArray) → World → Prop) (B : Nat) (hJ : AbidesFrom B J) (_hJx : AbidesFrom B Jx)
    (hY : ∀ pre x W, J pre W → pre.length < s.size → YieldAt Fence.wide (n - 1) Try.prog l (pairEnc x) W fun e W' =>
      (e = .returned (.bool true) ∧ J (pre ++ [x]) W' ∧ True) ∨ (e = .returned (.bool false) ∧ Jx (pre ++ [x]) W'))
    (W : World) (hBn : W.cell? ⟨Bn, 0, none⟩ = some (.string s)) (h0 : J [] W) :
    CallsIn Fence.wide n Try.prog 26 #[.func (.yield l) #[] #[], .pointer (some ⟨Bn, 0, none⟩)] W fun e W' => (∃ v, e = .returned v) ∧
      ((∃ ys, ys = pairsG s ∧ J ys W') ∨ (∃ pre, pre <+: pairsG s ∧ Jx pre W')) := by
  refine callsIn_of_wp Try.func26 rfl trivial ?_ rfl
  simp only [Try.ntmps26, List.size_toArray, List.length_cons, List.length_nil, Nat.reduceAdd, Nat.reduceSub, Array.replicate_succ, Array.replicate_zero, List.push_toArray, List.append_toArray, List.nil_append, List.cons_append]
  gi_wp2
  gi_loopw [3] (fun p wr => ∃ (pre : List (Fr × ByteArray)) (t : ByteArray), p = .string t ∧ pairsG s = pre ++ pairsG t ∧ pre.length + t.size ≤ s.size ∧ J pre wr)
    (fun p _ => strLen p)
  case atStart =>
    exact ⟨[], s, rfl, rfl, by simp, h0⟩
  case round =>
    obtain ⟨pre, t, rfl, hp, hlen, hJs⟩ := hrel
    have hst := fun W => stands_any t W (by unfold maxLen; omega)
    cases h : standsB t
    · rw [h] at hst
      have HP : Hid (pairsG s = pre) := by unfold Hid; rw [hp, pairsG_no h, List.append_nil]
      clear hp h
      gi_wp2_with ((try refine ⟨trivial, ?_⟩); gi_at_call 24; refine (callsIn_wide.2 (hst _)).mono ?_; rintro e w2 ⟨rfl, hb⟩)
      go_end0
      exact ⟨⟨_, rfl⟩, .inl ⟨pre, HP.out.symm, abides hJ hJs hb⟩⟩
    · rw [h] at hst
      obtain ⟨h3, hle⟩ := stands_le h
      have hp' := pairsG_yes h
      have hz := fun W => size_below t W h3 (by unfold maxLen; omega)
      have hbd := sizeN_bd t
      have hrs := restOf_size t
      have hfr : frOf t = ⟨byteAt t 0, t.extract 3 (sizeN t - 1)⟩ := rfl
      have hre : restOf t = t.extract (sizeN t) t.size := rfl
      obtain ⟨m, hm⟩ : ∃ m, sizeN t = m + 1 := ⟨sizeN t - 1, by omega⟩
      rw [hm] at hz hbd hrs hfr hre hle
      have hcl := fun W => clone_any (t.extract 3 m) W (by rw [size_extract']; omega)
      have hx : (frOf t, restOf t) = (⟨byteAt t 0, t.extract 3 m⟩, t.extract (m + 1) t.size) := by rw [hfr, hre]; rfl
      have HX : Hid (pairsG s = (pre ++ [(⟨byteAt t 0, t.extract 3 m⟩, t.extract (m + 1) t.size)]) ++ pairsG (t.extract (m + 1) t.size)) := by
        unfold Hid; rw [hp, hp', hx, hre]; simp
      have hls : (t.extract (m + 1) t.size).size = t.size - (m + 1) := by rw [size_extract']; omega
      have HL := hid hls
      have e0 := byteAt_eq (s := t) (n := 0) (by omega)
      have E0 := hid e0
      have t0 : (0 : Int) < t.size := by omega
      have t0n : 0 < t.size := by omega
      have t1 : ((m : Int) + 1) ≤ t.size := by omega
      have t1n : m + 1 ≤ t.size := by omega
      have t2 : (m : Int) ≤ t.size := by omega
      have t3 : (3 : Int) ≤ m := by omega
      have t3n : 3 ≤ m := by omega
      have hwr : IntKind.i64.wrap (t[0].toNat : Int) = byteAt t 0 := by rw [e0]; exact IntWalk.i64_in _ (by have := byteAt_bd t 0; omega)
      have hsub : IntKind.i64.wrap ((m : Int) + 1 - 1) = (m : Int) := by rw [IntWalk.i64_in _ (by omega)]; omega
      have hsub2 : IntKind.i64.wrap (m : Int) = (m : Int) := IntWalk.i64_in _ (by omega)
      clear hp hp' hfr hre hm hx hls e0 h hrs
      gi_upto_region 3 with ((try refine ⟨trivial, ?_⟩); first | (gi_at_call 24; refine (callsIn_wide.2 (hst _)).mono ?_; rintro e w2 ⟨rfl, hb⟩) | (gi_at_call 27; refine (callsIn_wide.2 (from_ (hz _) hb)).mono ?_; rintro e w3 ⟨rfl, hb⟩))
      have hsz := hb.size
      gi_cut [5] from 11 (fun v wx => ∃ g, v = .pointer (some ⟨g, 0, none⟩) ∧ wx.cell? ⟨g, 0, none⟩ = some (.int .i64 (byteAt t 0)) ∧ wx.cell? ⟨g, 1, none⟩ = some (.string (t.extract 3 m)) ∧ Below wr.heap.size wr wx)
      case first =>
        gi_region_with ((try refine ⟨trivial, ?_⟩); gi_at_call 20; refine (callsIn_wide.2 (hcl _)).mono ?_; rintro e w4 ⟨rfl, hb4⟩; obtain ⟨hc4, hf4⟩ := bcell hb4)
        all_goals gi_wp2
        all_goals gi_meet
        all_goals
          first
            | exact ⟨_, rfl, cell_of_row _ _ 0 _ _ _ (heap_alloc_new w4 _), cell_of_row _ _ 1 _ _ _ (heap_alloc_new w4 _), (hb.drew.trans (hb4.mono hsz)).alloc (Nat.le_trans hsz hb4.size) _⟩
            | exact ⟨_, rfl, by simp [go_sem, hc4], by simp [go_sem, hc4], (((hb.alloc hsz _).drew.trans (hb4.mono (by simp; omega))).setCell (p := ⟨_, 0, none⟩) hsz _).setCell (p := ⟨_, 1, none⟩) hsz _⟩
      case rest =>
        obtain ⟨g, rfl, hg0, hg1, hbc⟩ := hcut
        clear hb
        obtain ⟨fn, tmps, assign, body, hy, hR⟩ := hY pre (⟨byteAt t 0, t.extract 3 m⟩, t.extract (m + 1) t.size) wc (abides hJ hJs hbc) (by omega)
        dsimp only [pairEnc] at hy
        gi_wp2
        refine hR.mono ?_
        rintro e W3 (⟨rfl, hJ3, hk3⟩ | ⟨rfl, hJx3⟩)
        · gi_wp2
          go_roundw
          case rel => exact ⟨_, _, rfl, HX.out, by rw [HL.out]; simp; omega, hJ3⟩
          case measure =>
            show (t.extract (m + 1) t.size).size < t.size
            rw [HL.out]; omega
        · gi_wp2
          refine bodyPost_ret (results_none rfl _ _ _) rfl ?_
          exact ⟨⟨_, rfl⟩, .inr ⟨_, ⟨_, HX.out.symm⟩, hJx3⟩⟩

theorem standing_stops (n : Nat) (hn : 1 ≤ n) (Bn : Nat) (s : ByteArray) (hs : s.size ≤ 1000000) (w : World) (hBn : Bn < w.heap.size) (hc : w.cell? ⟨Bn, 0, none⟩ = some (.string s)) :
    SeqStopsK Fence.wide n Try.prog 26 #[.pointer (some ⟨Bn, 0, none⟩)] pairEnc (fun _ _ => True) (fun ys => ys = pairsG s) (fun pre => pre <+: pairsG s) s.size w := fun l J Jx W hW hJ hJx hY h0 =>
  standing1_in n hn l Bn s hs J Jx _ hJ hJx hY W ((hW.cell (p := ⟨Bn, 0, none⟩) hBn).trans hc) h0

set_option maxHeartbeats 1000000 in
theorem standing_any (s : ByteArray) (w : World) :
    Calls Try.prog 18 #[.string s] w fun e w' => e = .returned (.func (.func 26) #[] #[.pointer (some ⟨w.heap.size, 0, none⟩)]) ∧ w' = w.alloc (.cells #[.string s] 9) := by
  go_enter Try.func18, Try.ntmps18
  go_wp2
  go_ret
  exact ⟨rfl, rfl⟩
end Go.Proofs.Ythkgflghiooboaa
