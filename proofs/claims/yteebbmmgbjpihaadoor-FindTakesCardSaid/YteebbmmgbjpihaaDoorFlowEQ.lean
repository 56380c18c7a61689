/- Layer 8, the package: eachLetter, an iterator over a row's letters; cmp.Or of two texts. -/
import Derived.Test.YteebbmmgbjpihaaDoorFlowPQ
import Derived.RangeFuncNested
import Derived.RangeFuncBound
import Derived.RangeFuncCalls
import Derived.RangeFuncLeaves
import Derived.RangeFuncBox
import Derived.Shelf.Abstract
import Derived.Shelf.RegionOpen
import Derived.OwnWalkIn
import Derived.TacticsInMore
import Derived.LoopNIn
import Derived.LoopIn
import Derived.Sort.CutIn
import Derived.Stop.RegionWithIn
namespace Go.Proofs.YteebbmmgbjpihaaDoor
open Go.RowKit Go.Shelf
attribute [local go_sem] Oper.semAt_some

theorem abides8 {β : Type} {B : Nat} {J : β → World → Prop} (h : AbidesFrom B J) {s : β} {W W' : World} (hs : J s W) (hb : Below W.heap.size W W') : J s W' :=
  h s W W' none hs ⟨hb.os, hb.tape, hb.output, hb.size, fun k hk _ => hb.block k hk⟩ (fun r e => by cases e)
/-- A letter's cells where they lie. -/
def SgP (w0 : World) (x : List Ce × Value) : Prop := segOk x.1 ∧ CeRow w0 x.2 x.1 ∧ ∀ c ∈ x.1, c.tx.size ≤ 1000
abbrev Sg (w0 : World) : Type := { x : List Ce × Value // SgP w0 x }
abbrev sgEnc {w0 : World} (x : Sg w0) : Array Value := #[x.val.2]
def lenV : Value → Nat
  | .slice _ n _ => n
  | _ => 0
set_option maxRecDepth 100000 in
theorem slice_ce_h8 {W : World} {A : Option Addr} {n c : Nat} {l : List Ce} (hr : CeRow W (.slice A n c) l) (hl : l.length = n) (h : Nat) (hhn : h ≤ n) :
    ∃ A', (∀ w, (Instr.sliceAt 37 (.slice A n c) none (some (.int .i64 h)) none).run Tryd.prog w = .ok (.slice A' h c) w) ∧ CeRow W (.slice A' h c) (l.take h) := by
  obtain ⟨A', c', e, hc, hcell⟩ := hr
  cases e
  have hlen : (l.take h).length = h := by rw [List.length_take]; omega
  refine ⟨if c = 0 then A else A.map (·.add (0 * 5)), fun w => ?_, ?_⟩
  · rw [run_sliceAt_slice w _ _ _ _ _ Tryd.underlying37, run_slice_h w 37 A _ c Tryd.underlying37 .i64 h (by omega) (by omega), ce_cells']
    simp only [Result.andThen, Int.toNat_natCast, sliced, Nat.sub_zero]
  · refine ⟨_, _, by rw [hlen], by omega, fun hne => ?_⟩
    have hpos : 0 < h := by rw [← hlen]; exact List.length_pos_iff.2 hne
    obtain ⟨g, o, rfl, hg, hcell⟩ := hcell (List.length_pos_iff.1 (by omega))
    refine ⟨g, o, ?_, hg, fun j e he => ?_⟩
    · rw [if_neg (by omega)]
      show some ((⟨g, o, none⟩ : Addr).add (0 * 5)) = _
      rw [addr_add]
      rfl
    · rw [List.getElem?_take] at he
      split at he
      · exact hcell j e he
      · cases he
set_option maxRecDepth 100000 in
theorem slice_ce_l {W : World} {A : Option Addr} {n c : Nat} {l : List Ce} (hr : CeRow W (.slice A n c) l) (hl : l.length = n) (k : Nat) (hk : k ≤ n) :
    ∃ A', (∀ w, (Instr.sliceAt 37 (.slice A n c) (some (.int .i64 k)) none none).run Tryd.prog w = .ok (.slice A' (n - k) (c - k)) w) ∧ CeRow W (.slice A' (n - k) (c - k)) (l.drop k) := by
  obtain ⟨A', c', e, hc, hcell⟩ := hr
  rw [hl] at e hc
  cases e
  have hlen : (l.drop k).length = n - k := by rw [List.length_drop, hl]
  refine ⟨if c = k then A else A.map (·.add (k * 5)), fun w => ?_, ?_⟩
  · rw [run_sliceAt_slice w _ _ _ _ _ Tryd.underlying37, run_slice_l w 37 A _ c Tryd.underlying37 .i64 k (by omega) (by omega), ce_cells']
    simp only [Result.andThen, Int.toNat_natCast, sliced]
  · refine ⟨_, _, by rw [hlen], by omega, fun hne => ?_⟩
    have hpos : 0 < n - k := by rw [← hlen]; exact List.length_pos_iff.2 hne
    obtain ⟨g, o, rfl, hg, hcell⟩ := hcell (List.length_pos_iff.1 (by omega))
    refine ⟨g, o + k * 5, ?_, hg, fun j e he i u hu => ?_⟩
    · rw [if_neg (by omega)]
      show some ((⟨g, o, none⟩ : Addr).add (k * 5)) = _
      rw [addr_add]
    · rw [List.getElem?_drop] at he
      have := hcell (k + j) e he i u hu
      rwa [show o + k * 5 + j * 5 + i = o + (k + j) * 5 + i by omega]

end Go.Proofs.YteebbmmgbjpihaaDoor
