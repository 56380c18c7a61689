/- Layer 6, the reference: a line mended. -/
import Derived.Test.YteebbmmgbjpihaaDoorGridEraseQ
import Derived.Test.YteebbmmgbjpihaaDoorGridRfQ
import Derived.Deep.DeepCutAuto
namespace Go.Proofs.YteebbmmgbjpihaaDoor
open Go.RowKit

theorem CeRow.drop {W : World} {g o c n : Nat} {l : List Ce} (h : CeRow W (.slice (some ⟨g, o, none⟩) n c) l) (hn : l.length = n) {k : Nat} (hk : k < n) : CeRow W (.slice (some ⟨g, o + k * 5, none⟩) (n - k) (c - k)) (l.drop k) := by
  obtain ⟨A', c', e, hc, hcell⟩ := h
  cases e
  obtain ⟨g', o', e', hg, hcell⟩ := hcell (by intro e; rw [e] at hk; simp at hk)
  cases e'
  refine ⟨_, _, by rw [List.length_drop, hn], by rw [List.length_drop]; omega, fun _ => ⟨g, o + k * 5, rfl, hg, fun j e he i u hu => ?_⟩⟩
  rw [List.getElem?_drop] at he
  have := hcell (k + j) e he i u hu
  rwa [show o + k * 5 + j * 5 + i = o + (k + j) * 5 + i by omega]
theorem OwnC.below {W W' : World} {base : Nat} {v : Value} {l : List Ce} (h : OwnC W base v l) (hg : W.grownBy W' v.ownBlock) {B : Nat} (hB : B ≤ base) (hs : B ≤ W.heap.size) : Below B W W' :=
  (Below.refl B W).grown hg hs (fun k hk => Nat.le_trans hB (World.ownsRow.lt h k hk).1)

/-- A cell appended to a row of the call's own, behind what a round has laid. -/
theorem own_step {W wr wz w7 : World} {ov : Value} {done : List Ce} {lit : Array Value} {l : List (Nat × TypeId × Array Value)} (hown : OwnC wr W.heap.size ov done) (hb : Below wr.heap.size wr wz) (hg : (wz.alloc (.cells lit 44)).grownBy w7 ov.ownBlock)
    (hbx : Bxs wr l) (hl : ∀ x ∈ l, x.2.1 ≠ 44) (hbr : Below W.heap.size W wr) : Bxs w7 l ∧ Below W.heap.size W w7 ∧ wr.heap.size ≤ w7.heap.size := by
  have hb6 := hb.trans ((below_alloc wz (.cells lit 44)).mono hb.size)
  have own6 := hown.kept hb6
  refine ⟨fun x hx => ((hbx.below hb6) x hx).grown hg (own6.not_box ((hbx.below hb6) x hx) (hl x hx)), ?_, Nat.le_trans hb6.size hg.size⟩
  exact (hbr.trans (hb6.mono hbr.size)).trans ((Below.refl _ _).grown hg (Nat.le_trans hbr.size hb6.size) (fun k hk => (World.ownsRow.lt own6 k hk).1))

def RmRel (W wr : World) (ov : Value) (l : List Ce) (k : Nat) : Prop :=
  ∃ done rest : List Ce, done.length = k ∧ k + rest.length = l.length ∧ rest = l.drop k ∧ done ++ mendL (lastW done) rest = mendL 1 l ∧ OwnC wr W.heap.size ov done
end Go.Proofs.YteebbmmgbjpihaaDoor
