/- Appending a row of frames that lies elsewhere; what Feed answers for bytes in two parts. -/
import Derived.Test.YthkgflghiooboaaWireN
import Derived.Test.YthkgflghiooboaaWireG
import Derived.Maps.AppendAt
import Derived.Deep.AppendLies
import Derived.OwnWalk
namespace Go.Proofs.Ythkgflghiooboaa
open Go.RowKit

theorem FRow.grown {W W' : World} {v : Value} {l : List Fr} {row : Option Nat} {B : Nat} (h : FRow W v l) (hg : W.grownBy W' row) (hB : ∀ A c g, v = .slice A l.length c → A = some ⟨g, 0, none⟩ → g < B) (hr : ∀ g, row = some g → B ≤ g) : FRow W' v l := by
  obtain ⟨A, c, rfl, hl⟩ := h
  refine ⟨A, c, rfl, fun hn => ?_⟩
  obtain ⟨g, hA, hgl, hc⟩ := hl hn
  have hlt := hB A c g rfl hA
  have hblk := hg.block g hgl (fun e => by have := hr g e.symm; omega)
  exact ⟨g, hA, Nat.lt_of_lt_of_le hgl hg.size, fun j u hu => (World.cell?_of_block (a := ⟨g, j, none⟩) hblk).trans (hc j u hu)⟩

theorem flat_one : ∀ (l : List Fr), ∀ u ∈ flat l, u.oneCell' = true
  | [], _, h => by simp [flat] at h
  | f :: l, u, h => by
    simp only [flat, List.mem_cons] at h
    rcases h with rfl | rfl | h
    · rfl
    · rfl
    · exact flat_one l u h

theorem run_append_of_nil {P : Program} (w : World) (base : Nat) (t ty e : TypeId) (i : TypeInfo) (size : Nat) (ht : P.underlying t = some (.slice e)) (hi : P.info? e = some i)
    (v : Value) (n : Nat) (xs : List Value) (hown : w.ownsRow base e size v n xs) (c : Nat) : (Builtin.append_ #[t, t] ty #[v, .slice none 0 c]).run P w = .ok v w := by
  rcases hown.2 with ⟨rfl, rfl⟩ | ⟨g, cap, cur, rfl, _, _, hnc, _⟩
  · simp [Builtin.append_, run_underlying ht, sizeOf, typeInfo, hi, Builtin.lenOf, Builtin.firstCells]
  · simp [Builtin.append_, run_underlying ht, sizeOf, typeInfo, hi, Builtin.lenOf, Builtin.firstCells, hnc, storeCells]

/-- Frames appended to a row of the call's own. -/
theorem run_append_fr (w : World) (base : Nat) (v x : Value) (l m : List Fr) (hown : w.ownsRow base 23 2 v l.length (flat l)) (hx : FRow w x m) (ty : TypeId) (hb : l.length + m.length ≤ 1000000) (hbase : base ≤ w.heap.size) :
    ∃ v' w', (Builtin.append_ #[30, 30] ty #[v, x]).run Try.prog w = .ok v' w' ∧ w'.ownsRow base 23 2 v' (l ++ m).length (flat (l ++ m)) ∧ w.grownBy w' v.ownBlock := by
  obtain ⟨i0, hi, hz0, hz1, hz2⟩ := info_parts info_fr
  obtain ⟨A, c, rfl, hl⟩ := hx
  rcases A with _ | ad
  · have hm : m = [] := by
      cases m with
      | nil => rfl
      | cons a m => obtain ⟨g, h, _⟩ := hl (by simp); cases h
    subst hm
    refine ⟨v, w, ?_, by simpa using hown, World.grownBy.refl w _⟩
    exact run_append_of_nil w base _ ty _ i0 2 Try.underlying30 hi v _ _ hown c
  · have hcells : ∀ j u, (flat m)[j]? = some u → w.cell? (ad.add j) = some u := by
      intro j u hu
      cases hm : m with
      | nil => rw [hm] at hu; simp [flat] at hu
      | cons a r =>
        obtain ⟨g, h, _, hc⟩ := hl (by rw [hm]; simp)
        cases h
        have hadd : (⟨g, 0, none⟩ : Addr).add j = ⟨g, j, none⟩ := by unfold Addr.add; split <;> simp_all
        rw [hadd]
        exact hc j u hu
    obtain ⟨v', w', hrun, h2, h3, _⟩ := run_append_own (P := Try.prog) w base 30 ty 23 i0 (.agg #[.int .i64 0, .string ⟨#[]⟩]) 2 24 Try.underlying30 hi hz0 hz1 hz2 rfl (by decide) v l.length (flat l) hown ad m.length c (flat m) (flat_length m) hcells (flat_one m) (by unfold maxLen; omega) (by omega) hbase
    refine ⟨v', w', hrun, ?_, h3⟩
    rw [List.length_append, flat_append]
    exact h2

theorem wpList_append_fr {ops : Array Oper} {rest : List Oper} {o : Oper} {a : Act} {w : World} {Q : Exit → Act → World → Prop} (hw : Region.wanted o (yielded ops a.tmps) = true) (s x : Operand)
    (ho : o.op = .call { callee := .builtin .append, args := #[s, x], argTypes := #[30, 30] }) (base : Nat) (v xv : Value) (l m : List Fr)
    (hs : a.eval s = v) (hown : w.ownsRow base 23 2 v l.length (flat l)) (hxe : a.eval x = xv) (hx : FRow w xv m) (hb : l.length + m.length ≤ 1000000) (hbase : base ≤ w.heap.size)
    (h : ∀ v' w', w'.ownsRow base 23 2 v' (l ++ m).length (flat (l ++ m)) → w.grownBy w' v.ownBlock → wpList Try.prog ops Q rest (a.put o.dst v') w') : wpList Try.prog ops Q (o :: rest) a w := by
  obtain ⟨v', w', hrun, h2, h3⟩ := run_append_fr w base v xv l m hown hx o.type hb hbase
  simp only [wpList, hw, if_true]
  left
  unfold Oper.wp
  simp [execOp, ho, resolve, invoke, builtin, hs, hxe, hrun, Result.andThen]
  exact h v' w' h2 h3

/-- What Feed answers, for bytes in two parts. -/
theorem cuts_bad {buf : ByteArray} {dead : Bool} {s : ByteArray} (t : ByteArray) (h : (feedG buf dead s).err ≠ 0) : feedG buf dead (s ++ t) = feedG buf dead s := by
  unfold feedG at *
  by_cases h1 : rightB buf dead = false
  · rw [if_pos h1, if_pos h1]
  rw [if_neg h1] at h
  rw [if_neg h1, if_neg h1]
  by_cases h2 : dead = true
  · rw [if_pos h2, if_pos h2]
  rw [if_neg h2] at h
  rw [if_neg h2, if_neg h2]
  by_cases h3 : spoiltB (leftG (buf ++ s)) = true
  · obtain ⟨h4, h5⟩ := spoilt_on t h3
    rw [← ByteArray.append_assoc, if_pos h3, if_pos h5, h4]
  · rw [if_neg h3] at h
    exact absurd rfl h
theorem cuts_good {buf : ByteArray} {dead : Bool} {s : ByteArray} (t : ByteArray) (h : (feedG buf dead s).err = 0) :
    (feedG buf dead s).dead = false ∧ (feedG (feedG buf dead s).buf false t).err = (feedG buf dead (s ++ t)).err ∧ (feedG (feedG buf dead s).buf false t).buf = (feedG buf dead (s ++ t)).buf ∧ (feedG (feedG buf dead s).buf false t).dead = (feedG buf dead (s ++ t)).dead ∧
      (feedG buf dead s).frames ++ (feedG (feedG buf dead s).buf false t).frames = (feedG buf dead (s ++ t)).frames ∧ (feedG buf dead s).buf.size ≤ buf.size + s.size ∧ (feedG buf dead s).frames.length ≤ buf.size + s.size := by
  have key : ∀ b : Bool, b = dead → rightB buf b = true ∧ dead = false ∧ spoiltB (leftG (buf ++ s)) = false := by
    rintro b rfl
    unfold feedG at h
    by_cases h1 : rightB buf b = false
    · rw [if_pos h1] at h; simp at h
    rw [if_neg h1] at h
    by_cases h2 : b = true
    · rw [if_pos h2] at h; simp at h
    rw [if_neg h2] at h
    by_cases h3 : spoiltB (leftG (buf ++ s)) = true
    · rw [if_pos h3] at h; simp at h
    · exact ⟨by simpa using h1, by simpa using h2, by simpa using h3⟩
  obtain ⟨h1, h2, h3⟩ := key dead rfl
  subst h2
  have e1 : feedG buf false s = ⟨leftG (buf ++ s), false, framesG (buf ++ s), 0⟩ := by unfold feedG; rw [if_neg (by simp [h1]), if_neg (by simp), if_neg (by simp [h3])]
  rw [e1]
  have hr := right_left h3
  obtain ⟨g1, g2⟩ := frames_cut (buf ++ s) t
  have hl := leftG_size (buf ++ s)
  have hp := pairsG_length (buf ++ s)
  rw [size_append'] at hl hp
  have e2 : feedG buf false (s ++ t) = if spoiltB (leftG (leftG (buf ++ s) ++ t)) = true then ⟨⟨#[]⟩, true, framesG (buf ++ s) ++ framesG (leftG (buf ++ s) ++ t), 4⟩ else ⟨leftG (leftG (buf ++ s) ++ t), false, framesG (buf ++ s) ++ framesG (leftG (buf ++ s) ++ t), 0⟩ := by
    unfold feedG; rw [if_neg (by simp [h1]), if_neg (by simp), ← ByteArray.append_assoc, g1, g2]
  have e3 : feedG (leftG (buf ++ s)) false t = if spoiltB (leftG (leftG (buf ++ s) ++ t)) = true then ⟨⟨#[]⟩, true, framesG (leftG (buf ++ s) ++ t), 4⟩ else ⟨leftG (leftG (buf ++ s) ++ t), false, framesG (leftG (buf ++ s) ++ t), 0⟩ := by
    unfold feedG; rw [if_neg (by simp [hr]), if_neg (by simp)]
  have hfl : (framesG (buf ++ s)).length ≤ buf.size + s.size := by unfold framesG; rw [List.length_map]; exact hp
  rw [e2]
  show _ ∧ (feedG (leftG (buf ++ s)) false t).err = _ ∧ (feedG (leftG (buf ++ s)) false t).buf = _ ∧ (feedG (leftG (buf ++ s)) false t).dead = _ ∧ framesG (buf ++ s) ++ (feedG (leftG (buf ++ s)) false t).frames = _ ∧ (leftG (buf ++ s)).size ≤ _ ∧ (framesG (buf ++ s)).length ≤ _
  rw [e3]
  split
  · exact ⟨rfl, rfl, rfl, rfl, rfl, hl, hfl⟩
  · exact ⟨rfl, rfl, rfl, rfl, rfl, hl, hfl⟩
theorem feed_frames_length (buf : ByteArray) (dead : Bool) (s : ByteArray) : (feedG buf dead s).frames.length ≤ buf.size + s.size := by
  have hp := pairsG_length (buf ++ s)
  rw [size_append'] at hp
  unfold feedG
  split
  · simp
  split
  · simp
  split
  · show (framesG (buf ++ s)).length ≤ _; unfold framesG; rw [List.length_map]; exact hp
  · show (framesG (buf ++ s)).length ≤ _; unfold framesG; rw [List.length_map]; exact hp
end Go.Proofs.Ythkgflghiooboaa
