/- Layer 11: trees in memory, to be read. -/
import Derived.Test.YtglfolbimafcaaaTreeMQ
import Derived.RangeFuncOwn
namespace Go.Proofs.Ytglfolbimafcaaa
open Go.RowKit

mutual
/-- A slice that reads as a tree's kids. -/
def TrAt (W : World) : Tr → Value → Prop
  | .mk _ _ _ l, v => ∃ A c, v = .slice A l.length c ∧ l.length ≤ c ∧ (l ≠ [] → ∃ g o, A = some ⟨g, o, none⟩ ∧ TrsAt W g o l)
/-- Trees, one behind the other. -/
def TrsAt (W : World) (g : Nat) : Nat → List Tr → Prop
  | _, [] => True
  | o, t :: r => (∃ v, W.cell? ⟨g, o, none⟩ = some (.int .i64 t.kind) ∧ W.cell? ⟨g, o + 1, none⟩ = some (.int .i64 t.pane) ∧ W.cell? ⟨g, o + 2, none⟩ = some (.int .i64 t.size) ∧ W.cell? ⟨g, o + 3, none⟩ = some v ∧ TrAt W t v) ∧ TrsAt W g (o + 4) r
end
/-- A tree that lies there. -/
def NodeAt (W : World) (g o : Nat) (t : Tr) : Prop :=
  ∃ v, W.cell? ⟨g, o, none⟩ = some (.int .i64 t.kind) ∧ W.cell? ⟨g, o + 1, none⟩ = some (.int .i64 t.pane) ∧ W.cell? ⟨g, o + 2, none⟩ = some (.int .i64 t.size) ∧ W.cell? ⟨g, o + 3, none⟩ = some v ∧ TrAt W t v
theorem TrsAt.at {W : World} {g : Nat} : ∀ {l : List Tr} {o j : Nat} {t : Tr}, TrsAt W g o l → l[j]? = some t → NodeAt W g (o + j * 4) t
  | [], _, _, _, _, h => by simp at h
  | u :: r, o, 0, t, h, hj => by
    simp at hj
    subst hj
    unfold TrsAt at h
    simpa [NodeAt] using h.1
  | u :: r, o, j + 1, t, h, hj => by
    unfold TrsAt at h
    have := TrsAt.at (j := j) h.2 (by simpa using hj)
    rwa [show o + 4 + j * 4 = o + (j + 1) * 4 by omega] at this
theorem TrAt.spell {W : World} {t : Tr} {v : Value} (h : TrAt W t v) : ∃ A c, v = .slice A t.kids.length c ∧ t.kids.length ≤ c := by
  cases t
  unfold TrAt at h
  obtain ⟨A, c, e, hc, _⟩ := h
  exact ⟨A, c, e, hc⟩
theorem TrAt.kid {W : World} {t : Tr} {v : Value} (h : TrAt W t v) {j : Nat} {k : Tr} (hj : t.kids[j]? = some k) : ∃ g o c, v = .slice (some ⟨g, o, none⟩) t.kids.length c ∧ t.kids.length ≤ c ∧ NodeAt W g (o + j * 4) k ∧ TrsAt W g o t.kids := by
  cases t
  unfold TrAt at h
  obtain ⟨A, c, e, hc, hl⟩ := h
  obtain ⟨g, o, rfl, ht⟩ := hl (by intro he; simp only [Tr.kids] at hj; rw [he] at hj; simp at hj)
  exact ⟨g, o, c, e, hc, ht.at hj, ht⟩
theorem t_cell_lt {W : World} {b i : Nat} {v : Value} (h : W.cell? ⟨b, i, none⟩ = some v) : b < W.heap.size := by
  obtain ⟨o, ho, _⟩ := cells_of_cell h
  exact (Array.getElem?_eq_some_iff.1 ho).1
/-- Cells that lie in both worlds alike. -/
def Alike (W W' : World) : Prop := ∀ (a : Addr) (v : Value), W.cell? a = some v → W'.cell? a = some v
mutual
theorem TrAt.alike {W W' : World} (hA : Alike W W') : ∀ (t : Tr) (v : Value), TrAt W t v → TrAt W' t v
  | .mk _ _ _ l, v, h => by
    unfold TrAt at h ⊢
    obtain ⟨A, c, e, hc, hl⟩ := h
    refine ⟨A, c, e, hc, fun hn => ?_⟩
    obtain ⟨g, o, hA', ht⟩ := hl hn
    exact ⟨g, o, hA', TrsAt.alike hA l o ht⟩
theorem TrsAt.alike {W W' : World} (hA : Alike W W') {g : Nat} : ∀ (l : List Tr) (o : Nat), TrsAt W g o l → TrsAt W' g o l
  | [], _, _ => by unfold TrsAt; trivial
  | t :: r, o, h => by
    unfold TrsAt at h ⊢
    obtain ⟨⟨v, h0, h1, h2, h3, ht⟩, hr⟩ := h
    exact ⟨⟨v, hA _ _ h0, hA _ _ h1, hA _ _ h2, hA _ _ h3, TrAt.alike hA t v ht⟩, TrsAt.alike hA r _ hr⟩
end
theorem Alike.below {W W' : World} (h : Below W.heap.size W W') : Alike W W' := fun a v hv => by
  obtain ⟨o, ho, hc⟩ := cells_of_cell hv
  have hlt : a.block < W.heap.size := (Array.getElem?_eq_some_iff.1 ho).1
  exact (h.cell hlt).trans hv
theorem TrAt.below {W W' : World} {t : Tr} {v : Value} (h : TrAt W t v) (hb : Below W.heap.size W W') : TrAt W' t v := h.alike (Alike.below hb) t v
theorem NodeAt.alike {W W' : World} {g o : Nat} {t : Tr} (h : NodeAt W g o t) (hA : Alike W W') : NodeAt W' g o t := by
  obtain ⟨v, h0, h1, h2, h3, ht⟩ := h
  exact ⟨v, hA _ _ h0, hA _ _ h1, hA _ _ h2, hA _ _ h3, TrAt.alike hA t v ht⟩
theorem NodeAt.below {W W' : World} {g o : Nat} {t : Tr} (h : NodeAt W g o t) (hb : Below W.heap.size W W') : NodeAt W' g o t := h.alike (Alike.below hb)
end Go.Proofs.Ytglfolbimafcaaa
