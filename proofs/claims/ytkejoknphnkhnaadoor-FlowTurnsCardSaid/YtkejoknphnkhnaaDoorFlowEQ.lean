/- Layer 8, the package: eachLetter, an iterator over a row's letters; cmp.Or of two texts. -/
import Derived.Test.YtkejoknphnkhnaaDoorFlowPQ
import Derived.RangeFuncNested
import Derived.RangeFuncBound
import Derived.RangeFuncCalls
import Derived.RangeFuncLeaves
import Derived.RangeFuncBox
import Derived.Shelf.Abstract
import Derived.Shelf.RegionOpen
import Derived.OwnWalkIn
import Derived.TacticsInMore
import Derived.LoopNIn
import Derived.LoopIn
import Derived.Sort.CutIn
import Derived.Stop.RegionWithIn
namespace Go.Proofs.YtkejoknphnkhnaaDoor
open Go.RowKit Go.Shelf
attribute [local go_sem] Oper.semAt_some

theorem abides8 {β : Type} {B : Nat} {J : β → World → Prop} (h : AbidesFrom B J) {s : β} {W W' : World} (hs : J s W) (hb : Below W.heap.size W W') : J s W' :=
  h s W W' none hs ⟨hb.os, hb.tape, hb.output, hb.size, fun k hk _ => hb.block k hk⟩ (fun r e => by cases e)
/-- A letter's cells where they lie. -/
def SgP (w0 : World) (x : List Ce × Value) : Prop := segOk x.1 ∧ CeRow w0 x.2 x.1 ∧ ∀ c ∈ x.1, c.tx.size ≤ 1000
abbrev Sg (w0 : World) : Type := { x : List Ce × Value // SgP w0 x }
abbrev sgEnc {w0 : World} (x : Sg w0) : Array Value := #[x.val.2]
def lenV : Value → Nat
  | .slice _ n _ => n
  | _ => 0
set_option maxRecDepth 100000 in
theorem slice_ce_h8 {W : World} {A : Option Addr} {n c : Nat} {l : List Ce} (hr : CeRow W (.slice A n c) l) (hl : l.length = n) (h : Nat) (hhn : h ≤ n) :
    ∃ A', (∀ w, (Instr.sliceAt 52 (.slice A n c) none (some (.int .i64 h)) none).run Tryd.prog w = .ok (.slice A' h c) w) ∧ CeRow W (.slice A' h c) (l.take h) := by
  obtain ⟨A', c', e, hc, hcell⟩ := hr
  cases e
  have hlen : (l.take h).length = h := by rw [List.length_take]; omega
  refine ⟨if c = 0 then A else A.map (·.add (0 * 5)), fun w => ?_, ?_⟩
  · rw [run_sliceAt_slice w _ _ _ _ _ Tryd.underlying52, run_slice_h w 52 A _ c Tryd.underlying52 .i64 h (by omega) (by omega), ce_cells']
    simp only [Result.andThen, Int.toNat_natCast, sliced, Nat.sub_zero]
  · refine ⟨_, _, by rw [hlen], by omega, fun hne => ?_⟩
    have hpos : 0 < h := by rw [← hlen]; exact List.length_pos_iff.2 hne
    obtain ⟨g, o, rfl, hg, hcell⟩ := hcell (List.length_pos_iff.1 (by omega))
    refine ⟨g, o, ?_, hg, fun j e he => ?_⟩
    · rw [if_neg (by omega)]
      show some ((⟨g, o, none⟩ : Addr).add (0 * 5)) = _
      rw [addr_add]
      rfl
    · rw [List.getElem?_take] at he
      split at he
      · exact hcell j e he
      · cases he
set_option maxRecDepth 100000 in
theorem slice_ce_l {W : World} {A : Option Addr} {n c : Nat} {l : List Ce} (hr : CeRow W (.slice A n c) l) (hl : l.length = n) (k : Nat) (hk : k ≤ n) :
    ∃ A', (∀ w, (Instr.sliceAt 52 (.slice A n c) (some (.int .i64 k)) none none).run Tryd.prog w = .ok (.slice A' (n - k) (c - k)) w) ∧ CeRow W (.slice A' (n - k) (c - k)) (l.drop k) := by
  obtain ⟨A', c', e, hc, hcell⟩ := hr
  rw [hl] at e hc
  cases e
  have hlen : (l.drop k).length = n - k := by rw [List.length_drop, hl]
  refine ⟨if c = k then A else A.map (·.add (k * 5)), fun w => ?_, ?_⟩
  · rw [run_sliceAt_slice w _ _ _ _ _ Tryd.underlying52, run_slice_l w 52 A _ c Tryd.underlying52 .i64 k (by omega) (by omega), ce_cells']
    simp only [Result.andThen, Int.toNat_natCast, sliced]
  · refine ⟨_, _, by rw [hlen], by omega, fun hne => ?_⟩
    have hpos : 0 < n - k := by rw [← hlen]; exact List.length_pos_iff.2 hne
    obtain ⟨g, o, rfl, hg, hcell⟩ := hcell (List.length_pos_iff.1 (by omega))
    refine ⟨g, o + k * 5, ?_, hg, fun j e he i u hu => ?_⟩
    · rw [if_neg (by omega)]
      show some ((⟨g, o, none⟩ : Addr).add (k * 5)) = _
      rw [addr_add]
    · rw [List.getElem?_drop] at he
      have := hcell (k + j) e he i u hu
      rwa [show o + k * 5 + j * 5 + i = o + (k + j) * 5 + i by omega]

set_option maxRecDepth 100000 in
set_option maxHeartbeats 4000000 in
theorem letters1_in (n : Nat) (hn : 1 ≤ n) (l Bn : Nat) (row : List Ce) (v : Value) (w0 : World) (hr : CeRow w0 v row) (hok : okR row = true) (htx : ∀ c ∈ row, c.tx.size ≤ 1000) (hs : row.length ≤ 100000) (J Jx : List (Sg w0) → World → Prop) (B : Nat) (_hJ : AbidesFrom B J) (_hJx : AbidesFrom B Jx)
    (hY : ∀ pre x W, J pre W → pre.length < row.length → YieldAt Fence.wide (n - 1) Tryd.prog l (sgEnc x) W fun e W' =>
      (e = .returned (.bool true) ∧ J (pre ++ [x]) W' ∧ Below w0.heap.size W W') ∨ (e = .returned (.bool false) ∧ Jx (pre ++ [x]) W'))
    (W : World) (hW : Below w0.heap.size w0 W) (hBn : W.cell? ⟨Bn, 0, none⟩ = some v) (h0 : J [] W) :
    CallsIn Fence.wide n Tryd.prog 94 #[.func (.yield l) #[] #[], .pointer (some ⟨Bn, 0, none⟩)] W fun e W' => (∃ v, e = .returned v) ∧
      ((∃ ys, ys.map (·.val.1) = segs row ∧ J ys W') ∨ (∃ pre, True ∧ Jx pre W')) := by
  refine callsIn_of_wp Tryd.func94 rfl trivial ?_ rfl
  obtain ⟨vA, vc, rfl⟩ := hr.spell
  obtain ⟨N, hN⟩ : ∃ N, row.length = N := ⟨_, rfl⟩
  rw [hN] at hr hBn hs hY
  simp only [Tryd.ntmps94, List.size_toArray, List.length_cons, List.length_nil, Nat.reduceAdd, Nat.reduceSub, Array.replicate_succ, Array.replicate_zero, List.push_toArray, List.append_toArray, List.nil_append, List.cons_append]
  gi_wp2
  gi_loopw [3] (fun p wr => ∃ (pre : List (Sg w0)) (rest : List Ce), CeRow w0 p rest ∧ okR rest = true ∧ (∀ c ∈ rest, c.tx.size ≤ 1000) ∧ pre.map (·.val.1) ++ segs rest = segs row ∧ pre.length + rest.length ≤ N ∧ J pre wr ∧ Below w0.heap.size w0 wr)
    (fun p _ => lenV p)
  case atStart =>
    exact ⟨[], row, hr, hok, htx, rfl, by simp [hN], h0, hW⟩
  case round =>
    obtain ⟨pre, rest, hre, hko, htr, hsg, hlen, hJs, hbw⟩ := hrel
    obtain ⟨A, c, rfl⟩ := hre.spell
    obtain ⟨m, hm⟩ : ∃ m, rest.length = m := ⟨_, rfl⟩
    rw [hm] at hre hlen ⊢
    by_cases hm0 : m = 0
    · subst hm0
      obtain rfl := List.length_eq_zero_iff.1 hm
      have HS : Hid (pre.map (·.val.1) = segs row) := by unfold Hid; rw [← hsg]; exact (List.append_nil _).symm
      clear hre hko hsg hm htr
      gi_wp2
      go_end0
      exact ⟨⟨_, rfl⟩, .inl ⟨pre, HS.out, hJs⟩⟩
    · have hne : rest ≠ [] := by intro e; rw [e] at hm; exact hm0 hm.symm
      obtain ⟨t, r, htk, hl, hst, hkr, ⟨x, q, hlx, hwx⟩⟩ := segs_step hko hne
      obtain ⟨tl, htl⟩ : ∃ tl, t.length = tl := ⟨_, rfl⟩
      have htb := htk.len
      have hmt : m = tl + r.length := by rw [← hm, hl, List.length_append, htl]
      rw [htl] at hwx htb
      have hmi : (0 : Int) < m := by omega
      have hmn : (m : Int) ≤ 100000 := by omega
      have htm : (tl : Int) ≤ m := by omega
      have htm' : tl ≤ m := by omega
      have htp : (0 : Int) ≤ tl := by omega
      obtain ⟨A1, hsl1, hr1⟩ := slice_ce_h8 hre hm tl htm'
      obtain ⟨A2, hsl2, hr2⟩ := slice_ce_l hre hm tl htm'
      have htt : rest.take tl = t := by rw [hl, ← htl, List.take_left]
      have hdd : rest.drop tl = r := by rw [hl, ← htl, List.drop_left]
      rw [htt] at hr1
      rw [hdd] at hr2
      have hcap : m ≤ c := by
        obtain ⟨A', c', e', hcap, _⟩ := hre
        rw [hm] at e' hcap
        cases e'
        exact hcap
      obtain ⟨g, o, x', rfl, hg, hx', hcell⟩ := row_cells hre hm 0 (by omega)
      have hxx : x' = x := by rw [hlx] at hx'; simpa using hx'.symm
      subst hxx
      obtain ⟨_, p1, _⟩ := ccells (W := wr) (g := g) (o := o + 0 * 5) (e := x') (fun i u hu => hcell _ hbw i u hu)
      rw [Nat.zero_mul, Nat.add_zero, hwx] at p1
      have ht1 : ∀ c ∈ t, c.tx.size ≤ 1000 := fun c hc => htr c (by rw [hl]; exact List.mem_append_left _ hc)
      have HTR : Hid (∀ c ∈ r, c.tx.size ≤ 1000) := fun c hc => htr c (by rw [hl]; exact List.mem_append_right _ hc)
      have HSG : Hid ((pre ++ [(⟨(t, .slice A1 tl c), htk, hr1, ht1⟩ : Sg w0)]).map (·.val.1) ++ segs r = segs row) := by
        unfold Hid
        rw [← hsg, hst, List.map_append, List.append_assoc]
        rfl
      have HPL : Hid ((pre ++ [(⟨(t, .slice A1 tl c), htk, hr1, ht1⟩ : Sg w0)]).length + r.length ≤ N) := by unfold Hid; rw [List.length_append, List.length_singleton]; omega
      have HKR := hid hkr
      have HR2 := hid hr2
      have hpl : pre.length < N := by omega
      have hmr : m - tl = r.length := by omega
      rw [hmr] at hsl2 HR2
      have hrm : r.length < m := by omega
      have hyy := hY pre (⟨(t, .slice A1 tl c), htk, hr1, ht1⟩ : Sg w0) wr hJs hpl
      obtain ⟨fn, tmps, assign, body, hy, hR⟩ := hyy
      dsimp only [sgEnc] at hy
      clear hst hsg hlen hl hlx hx' hcell hre hko hm htt hdd hkr hr2 hwx hmt htr
      gi_wp2
      refine hR.mono ?_
      rintro e W3 (⟨rfl, hJ3, hk3⟩ | ⟨rfl, hJx3⟩)
      · gi_wp2
        go_roundw
        case rel => exact ⟨_, r, HR2.out, HKR.out, HTR.out, HSG.out, HPL.out, hJ3, hbw.trans hk3⟩
        case measure => exact hrm
      · gi_wp2
        refine bodyPost_ret (results_none rfl _ _ _) rfl ?_
        exact ⟨⟨_, rfl⟩, .inr ⟨_, trivial, hJx3⟩⟩
theorem letters_stops (n : Nat) (hn : 1 ≤ n) (Bn : Nat) (row : List Ce) (v : Value) (w0 w : World) (hr : CeRow w0 v row) (hok : okR row = true) (htx : ∀ c ∈ row, c.tx.size ≤ 1000) (hs : row.length ≤ 100000) (hb : Below w0.heap.size w0 w) (hBn : Bn < w.heap.size) (hc : w.cell? ⟨Bn, 0, none⟩ = some v) :
    SeqStopsK Fence.wide n Tryd.prog 94 #[.pointer (some ⟨Bn, 0, none⟩)] (sgEnc (w0 := w0)) (fun A B => Below w0.heap.size A B) (fun ys => ys.map (·.val.1) = segs row) (fun _ => True) row.length w := fun l J Jx W hW hJ hJx hY h0 =>
  letters1_in n hn l Bn row v w0 hr hok htx hs J Jx _ hJ hJx hY W (hb.trans (hW.mono hb.size)) ((hW.cell (p := ⟨Bn, 0, none⟩) hBn).trans hc) h0
set_option maxHeartbeats 1000000 in
theorem each_any (A : Option Addr) (n c : Nat) (w : World) :
    Calls Tryd.prog 81 #[.slice A n c] w fun e w' => e = .returned (.func (.func 94) #[] #[.pointer (some ⟨w.heap.size, 0, none⟩)]) ∧ w' = w.alloc (.cells #[.slice A n c] 52) := by
  go_enter Tryd.func81, Tryd.ntmps81
  go_wp2
  go_ret
  exact ⟨rfl, rfl⟩
end Go.Proofs.YtkejoknphnkhnaaDoor
