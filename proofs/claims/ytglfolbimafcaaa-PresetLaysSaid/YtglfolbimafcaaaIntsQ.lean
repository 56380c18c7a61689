/- A row of numbers of the call's own: what an append makes of it. -/
import Derived.Test.YtglfolbimafcaaaBlkQ
import Derived.Laws.AppendOwn
import Derived.OwnWalk
import Derived.ProofKit
namespace Go.Proofs.Ytglfolbimafcaaa
open Go.RowKit

def ints (l : List Int) : List Value := l.map (Value.int .i64)
theorem ints_length (l : List Int) : (ints l).length = l.length := List.length_map _
theorem ints_append (a b : List Int) : ints (a ++ b) = ints a ++ ints b := List.map_append
/-- A slice of the call's own that holds these numbers. -/
def OwnI (W : World) (base : Nat) (v : Value) (l : List Int) : Prop := W.ownsRow base 3 1 v l.length (ints l)
theorem int_info : (Try.prog.info? 3).map (fun i => (i.zero, i.size, i.bytes)) = some (some (.int .i64 0), 1, 8) := by kernel_rfl
theorem OwnI.spell {W : World} {base : Nat} {v : Value} {l : List Int} (h : OwnI W base v l) : ∃ A c, v = .slice A l.length c := by
  rcases h.2 with ⟨rfl, h0⟩ | ⟨g, cap, cur, rfl, _⟩
  · exact ⟨_, _, by rw [h0]⟩
  · exact ⟨_, _, rfl⟩
theorem OwnI.kept {W W' : World} {base : Nat} {v : Value} {l : List Int} (h : OwnI W base v l) (hb : Below W.heap.size W W') : OwnI W' base v l :=
  World.ownsRow.kept h ⟨hb.os, hb.tape, hb.output, hb.size, fun k hk _ => hb.block k hk⟩ (row := none) (by cases v.ownBlock <;> simp)
theorem OwnI.set {W : World} {base b i : Nat} {t : TypeId} {cs : Array Value} {v : Value} {l : List Int} (h : OwnI W base v l) (hb : Box W b t cs) (ht : t ≠ 3) (u : Value) : OwnI (W.setCell ⟨b, i, none⟩ u) base v l := by
  refine World.ownsRow.kept h (row := some b) ⟨rfl, rfl, rfl, by simp [World.setCell], fun k _ hk => Below.heap_setCell _ _ _ _ (fun e => hk (by rw [e]))⟩ (.inr ?_)
  rcases h.2 with ⟨rfl, _⟩ | ⟨g, cap, cur, rfl, _, hg, _⟩
  · simp [Value.ownBlock]
  · simp only [Value.ownBlock, ne_eq, Option.some.injEq]
    rintro rfl
    have hb' : W.heap[g]? = some (.cells cs t (0, 0)) := hb
    rw [hg] at hb'
    cases hb'
    exact ht rfl
theorem OwnI.not_box {W : World} {base b : Nat} {t : TypeId} {cs : Array Value} {v : Value} {l : List Int} (h : OwnI W base v l) (hb : Box W b t cs) (ht : t ≠ 3) : some b ≠ v.ownBlock := by
  rcases h.2 with ⟨rfl, _⟩ | ⟨g, cap, cur, rfl, _, hg, _⟩
  · simp [Value.ownBlock]
  · simp only [Value.ownBlock, ne_eq, Option.some.injEq]
    rintro rfl
    have hb' : W.heap[b]? = some (.cells cs t (0, 0)) := hb
    rw [hg] at hb'
    cases hb'
    exact ht rfl
theorem OwnI.lit {W : World} {base : Nat} (l : List Int) (hl : l.length ≤ 1000) (hb : base ≤ W.heap.size) : OwnI (W.alloc (.cells (ints l).toArray 3)) base (.slice (some ⟨W.heap.size, 0, none⟩) l.length l.length) l := by
  have h := World.ownsRow_lit (base := base) (e := 3) (size := 1) W (ints l).toArray l.length hb (by unfold maxLen; omega) (by simp [ints_length])
  unfold OwnI
  simpa using h
theorem OwnI.below_grown {W W' : World} {base B : Nat} {v : Value} {l : List Int} (h : OwnI W base v l) (hg : W.grownBy W' v.ownBlock) (hB : B ≤ W.heap.size) (hBb : B ≤ base) : Below B W W' :=
  (Below.refl B W).grown hg hB (fun k hk => Nat.le_trans hBb (World.ownsRow.lt h k hk).1)

theorem wpList_append_ints {ops : Array Oper} {rest : List Oper} {o : Oper} {a : Act} {w : World} {Q : Exit → Act → World → Prop} (hgd : o.guard = none) (s x : Operand)
    (ho : o.op = .call { callee := .builtin .append, args := #[s, x], argTypes := #[36, 36] }) (base : Nat) (v : Value) (L : List Int) (hs : a.eval s = v) (hown : OwnI w base v L)
    (news : List Int) (ad : Addr) (m c : Nat) (hx : a.eval x = .slice (some ad) m c) (hm : news.length = m) (hc : ∀ j u, (ints news)[j]? = some u → w.cell? (ad.add j) = some u) (hb : L.length + m ≤ 1000000) (hbase : base ≤ w.heap.size)
    (h : ∀ v' w', OwnI w' base v' (L ++ news) → w.grownBy w' v.ownBlock → wpList Try.prog ops Q rest (a.put o.dst v') w') : wpList Try.prog ops Q (o :: rest) a w := by
  subst hm
  obtain ⟨i0, hi, hz0, hz1, hz2⟩ := info_parts int_info
  refine wpList_append_own w hgd s x 36 ho base 3 i0 (.int .i64 0) 1 8 Try.underlying36 hi hz0 hz1 hz2 rfl (by decide) v L.length (ints L) hs hown ad news.length c (ints news) hx (by rw [ints_length]; omega) hc
    (fun u hu => by obtain ⟨_, _, rfl⟩ := List.mem_map.1 hu; rfl) (by unfold maxLen; omega) (by omega) hbase ?_
  intro v' w' h1 h2 _
  refine h v' w' ?_ h2
  unfold OwnI
  rw [List.length_append, ints_append]
  exact h1
theorem lit_at {W : World} {g : Nat} {t : TypeId} {l : List Value} (h : Box W g t l.toArray) : ∀ (j : Nat) (u : Value), l[j]? = some u → W.cell? ((⟨g, 0, none⟩ : Addr).add j) = some u := by
  intro j u hu
  have hadd : (⟨g, 0, none⟩ : Addr).add j = ⟨g, j, none⟩ := by unfold Addr.add; split <;> simp_all
  rw [hadd, h.cell j]
  simpa using hu
end Go.Proofs.Ytglfolbimafcaaa
