/- Layer 6, the package: what is done with a line: a letter put. -/
/- Layer 6, the package: what is done with a line: whether it goes on; cells erased. -/
/- Layer 6, the package: putting a letter in: refused, no room, done. Made by wip/gen/gridPut.py. -/
/- Layer 6, the package: a letter put in. Made by wip/gen/gridPutY.py. -/
/- Layer 6, the package: lines of blank cells; a new grid. -/
/- Layer 6: a new grid; what is put is there. -/
/- Layer 6, the statements' helpers: a line cut short. Made by wip/gen/gridLine.py. -/
/- Layer 6, the package: may cells be shifted, may lines go. Made by wip/gen/gridOps.py. -/
/- Layer 6, the package: whether a line goes on. Made by wip/gen/gridOps.py. -/
/- Layer 6, the package: cells erased. Made by wip/gen/gridOps.py. -/
import Derived.Test.YteebbmmgbjpihaaDoorGridOQ
import Derived.StillTailTactics
import Derived.IntWalk
import Derived.Laws.MakeOwn
namespace Go.Proofs.YteebbmmgbjpihaaDoor
open Go.RowKit

theorem CSl.some {W : World} {base : Nat} {v : Value} {l : List Ce} (h : CSl W base v l) (hl : l ≠ []) : ∃ g cap, v = .slice (some ⟨g, 0, none⟩) l.length cap ∧ base ≤ g ∧ CBox W g l cap := by
  rcases h with ⟨e, _⟩ | h
  · exact absurd e hl
  · exact h
/-- What putting a letter does with a line's cells, ahead of mending. -/
def putL (l : List Ce) (col : Nat) (c : Ce) : List Ce := if c.wd = 2 then (l.set col c).set (col + 1) (rhC c.at) else l.set col c

end Go.Proofs.YteebbmmgbjpihaaDoor

namespace Go.Proofs.YteebbmmgbjpihaaDoor
open Go.RowKit

end Go.Proofs.YteebbmmgbjpihaaDoor

namespace Go.Proofs.YteebbmmgbjpihaaDoor
open Go.RowKit

def GNo (W : World) (n : Int) (e : Ending) (w' : World) : Prop := e = .returned (.tuple #[.agg #[.int .i64 0, .slice none 0 0], .int .i64 n]) ∧ Below W.heap.size W w'
def GYes (W : World) (cols : Int) (lv : List (Ln × Value)) (ls : List Ln) (e : Ending) (w' : World) : Prop :=
  ∃ v lv', e = .returned (.tuple #[.agg #[.int .i64 cols, v], .int .i64 0]) ∧ lv'.map Prod.fst = ls ∧ LSl w' W.heap.size v lv' ∧ NewOf w' W.heap.size lv lv' ∧ Below W.heap.size W w'
/-- A grid as it is handed in. -/
structure GIn (W : World) (v : Value) (lv : List (Ln × Value)) : Prop where
  lr : LR W v lv
  ces : CesOf W lv
  sm : Sm lv
theorem GIn.below {W W' : World} {v : Value} {lv : List (Ln × Value)} (h : GIn W v lv) (hb : Below W.heap.size W W') : GIn W' v lv := ⟨h.lr.below hb, h.ces.below hb, h.sm⟩
def mayB (cols : Int) (lv : List (Ln × Value)) : Bool := sizeB cols lv.length && allB cols lv

end Go.Proofs.YteebbmmgbjpihaaDoor

namespace Go.Proofs.YteebbmmgbjpihaaDoor
open Go.RowKit

theorem allB_at {cols : Int} {lv : List (Ln × Value)} (h : allB cols lv = true) {k : Nat} {e : Ln × Value} (he : lv[k]? = some e) : fitsB cols e.1.cs = true := by
  unfold allB at h
  rw [List.all_eq_true] at h
  exact h e (List.mem_of_getElem? he)
theorem mayB_at {cols : Int} {lv : List (Ln × Value)} (h : mayB cols lv = true) {k : Nat} {e : Ln × Value} (he : lv[k]? = some e) : fitsB cols e.1.cs = true := by
  unfold mayB at h
  rw [Bool.and_eq_true] at h
  exact allB_at h.2 he
theorem putL_length (l : List Ce) (k : Nat) (c : Ce) : (putL l k c).length = l.length := by
  unfold putL
  split
  · rw [List.length_set, List.length_set]
  · rw [List.length_set]
end Go.Proofs.YteebbmmgbjpihaaDoor

namespace Go.Proofs.YteebbmmgbjpihaaDoor
open Go.RowKit

theorem made_at {z : Array Value} {n q : Nat} (h : q < n) {u : Value} (hu : z[q % z.size]? = some u) : (madeCells z n)[q]? = some u := by
  unfold madeCells
  obtain ⟨h1, h2⟩ := Array.getElem?_eq_some_iff.1 hu
  simp only [Array.getElem?_map, Array.getElem?_range, h, if_true, Option.map_some]
  rw [getElem!_pos z _ h1, h2]
def zLn : Ln × Value := (⟨[], false⟩, .slice none 0 0)
def lnM (n : Nat) : Array Value := madeCells #[.slice none 0 0, .bool false] (n * 2)
def ceM (n : Nat) : Array Value := madeCells Ce.zero.cells (n * 5)
theorem mk_lines (n : Nat) (hn : n ≤ 1000) (W : World) : (Instr.makeSlice 22 (.int .i64 (n : Int)) (.int .i64 (n : Int))).run Tryd.prog W = .ok (.slice (some ⟨W.heap.size, 0, none⟩) n n) (W.alloc (.cells (lnM n) 39)) := by
  obtain ⟨i0, hi, hz0, hz1, hz2⟩ := info_parts ln_info
  have h := run_make (P := Tryd.prog) W 22 39 i0 _ Tryd.underlying22 hi hz0 .i64 .i64 (n : Int) (n : Int) (by omega) (by omega) (by rw [hz2]; omega) (by omega)
  rw [hz1] at h
  simp only [Int.toNat_natCast] at h
  exact h
theorem mk_cells (n : Nat) (hn : n ≤ 1000) (W : World) : (Instr.makeSlice 37 (.int .i64 (n : Int)) (.int .i64 (n : Int))).run Tryd.prog W = .ok (.slice (some ⟨W.heap.size, 0, none⟩) n n) (W.alloc (.cells (ceM n) 44)) := by
  obtain ⟨i0, hi, hz0, hz1, hz2⟩ := info_parts ce_info
  have h := run_make (P := Tryd.prog) W 37 44 i0 _ Tryd.underlying37 hi hz0 .i64 .i64 (n : Int) (n : Int) (by omega) (by omega) (by rw [hz2]; omega) (by omega)
  rw [hz1] at h
  simp only [Int.toNat_natCast] at h
  exact h
theorem lnM_box (n : Nat) (W : World) : LBox (W.alloc (.cells (lnM n) 39)) W.heap.size (List.replicate n zLn) n := by
  refine ⟨_, Box.new W _ _, by unfold lnM; rw [size_madeCells], by simp, fun j e hj => ?_⟩
  rw [List.getElem?_replicate] at hj
  split at hj
  · cases hj
    refine ⟨made_at (by omega) ?_, made_at (by omega) ?_⟩
    · show (#[Value.slice none 0 0, .bool false] : Array Value)[j * 2 % 2]? = _
      rw [show j * 2 % 2 = 0 by omega]; rfl
    · show (#[Value.slice none 0 0, .bool false] : Array Value)[(j * 2 + 1) % 2]? = _
      rw [show (j * 2 + 1) % 2 = 1 by omega]; rfl
  · cases hj
theorem ceM_box (n : Nat) (W : World) : CBox (W.alloc (.cells (ceM n) 44)) W.heap.size (List.replicate n Ce.zero) n := by
  refine ⟨_, Box.new W _ _, by unfold ceM; rw [size_madeCells], by simp, fun j e hj i u hu => ?_⟩
  rw [List.getElem?_replicate] at hj
  split at hj
  · cases hj
    have hi : i < 5 := by have := (Array.getElem?_eq_some_iff.1 hu).1; simpa [Ce.cells, Ce.zero] using this
    refine made_at (by omega) ?_
    show Ce.zero.cells[(j * 5 + i) % 5]? = _
    rw [show (j * 5 + i) % 5 = i by omega]
    exact hu
  · cases hj
theorem LBox.set1 {W : World} {g cap : Nat} {l : List (Ln × Value)} (h : LBox W g l cap) {k : Nat} {e : Ln × Value} (hk : l[k]? = some e) (v : Value) (cs : List Ce) :
    LBox (W.setCell ⟨g, k * 2, none⟩ v) g (l.set k (⟨cs, e.1.soft⟩, v)) cap := by
  obtain ⟨cur, hb, hs, hl, hc⟩ := h
  have hkl := (List.getElem?_eq_some_iff.1 hk).1
  refine ⟨_, hb.set (i := k * 2) _, by simp [hs], by rw [List.length_set]; exact hl, ?_⟩
  intro j e' hj
  simp only [Array.getElem?_setIfInBounds]
  by_cases hjk : j = k
  · subst hjk
    rw [List.getElem?_set_self hkl] at hj
    cases hj
    refine ⟨?_, ?_⟩
    · rw [if_pos rfl, if_pos (by omega)]
    · rw [if_neg (by omega)]
      exact (hc j e hk).2
  · rw [List.getElem?_set_ne (Ne.symm hjk)] at hj
    have := hc j e' hj
    refine ⟨?_, ?_⟩
    · rw [if_neg (by omega)]; exact this.1
    · rw [if_neg (by omega)]; exact this.2
theorem LBox.drew {W : World} {g cap : Nat} {l : List (Ln × Value)} (h : LBox W g l cap) : LBox W.drew g l cap := h
theorem erase_all (n : Nat) (a : At) : eraseL (List.replicate n Ce.zero) 0 n a = List.replicate n (blkC a) := by
  unfold eraseL
  simp
/-- A line of blank cells. -/
def bareN (cols : Nat) (a : At) : Ln := ⟨List.replicate cols (blkC a), false⟩

def BlRel (base gL rows cols k : Nat) (a : At) (wr : World) : Prop :=
  ∃ done : List (Ln × Value), done.map Prod.fst = List.replicate k (bareN cols a) ∧ LBox wr gL (done ++ List.replicate (rows - k) zLn) rows ∧ ∀ x ∈ done, CSl wr base x.2 x.1.cs
theorem bl_step {base gL rows cols k : Nat} {a : At} {W W' W'' : World} (h : BlRel base gL rows cols k a W) (hk : k < rows) (hb : base ≤ W.heap.size) (hg : gL < W.heap.size)
    (h1 : W' = (W.alloc (.cells (ceM cols) 44)).setCell ⟨gL, k * 2, none⟩ (.slice (some ⟨W.heap.size, 0, none⟩) cols cols)) (h2 : CBox W'' W.heap.size (List.replicate cols (blkC a)) cols) (h3 : Only W.heap.size W'.drew W'') : BlRel base gL rows cols (k + 1) a W'' := by
  obtain ⟨done, hd, hl, hc⟩ := h
  have hdl : done.length = k := by have := congrArg List.length hd; simpa using this
  have hz : (done ++ List.replicate (rows - k) zLn)[k]? = some zLn := by
    rw [List.getElem?_append_right (by omega), List.getElem?_replicate, if_pos (by omega)]
  have hl1 := hl.below (below_alloc W (.cells (ceM cols) 44)) hg
  have hl2 := hl1.set1 hz (.slice (some ⟨W.heap.size, 0, none⟩) cols cols) (List.replicate cols (blkC a))
  have e : (done ++ List.replicate (rows - k) zLn).set k (⟨List.replicate cols (blkC a), zLn.1.soft⟩, .slice (some ⟨W.heap.size, 0, none⟩) cols cols) = (done ++ [(bareN cols a, .slice (some ⟨W.heap.size, 0, none⟩) cols cols)]) ++ List.replicate (rows - (k + 1)) zLn := by
    rw [← hdl, List.set_append_right (h := Nat.le_refl _), show rows - done.length = rows - (done.length + 1) + 1 by omega, List.replicate_succ]
    simp [bareN, zLn]
  rw [e, ← h1] at hl2
  refine ⟨done ++ [(bareN cols a, .slice (some ⟨W.heap.size, 0, none⟩) cols cols)], ?_, hl2.drew.only h3 (by omega), ?_⟩
  · rw [List.map_append, hd, List.replicate_succ']
    rfl
  · intro x hx
    rw [List.mem_append, List.mem_singleton] at hx
    rcases hx with hx | rfl
    · rcases hc x hx with h | ⟨g, cap, h4, h5, h6⟩
      · exact .inl h
      · refine .inr ⟨g, cap, h4, h5, ?_⟩
        have h7 := h6.below (below_alloc W (.cells (ceM cols) 44)) h6.lt
        obtain ⟨cur, hcb, hrest⟩ := h7
        obtain ⟨curL, hlb, _⟩ := hl1
        have hne : g ≠ gL := by
          rintro rfl
          have q1 : _ = _ := hcb
          have q2 : _ = _ := hlb
          rw [q1] at q2
          cases q2
        have h8 : CBox W' g x.1.cs cap := by rw [h1]; exact ⟨cur, hcb.other hne _, hrest⟩
        exact h8.drew.only h3 (by have := h6.lt; omega)
    · exact .inr ⟨W.heap.size, cols, by simp [bareN], hb, by simpa [bareN] using h2⟩

def BlPost (W : World) (rows cols : Nat) (a : At) (e : Ending) (w' : World) : Prop :=
  ∃ v lv, e = .returned v ∧ lv.map Prod.fst = List.replicate rows (bareN cols a) ∧ LSl w' W.heap.size v lv ∧ (∀ x ∈ lv, CSl w' W.heap.size x.2 x.1.cs) ∧ Below W.heap.size W w'
end Go.Proofs.YteebbmmgbjpihaaDoor

namespace Go.Proofs.YteebbmmgbjpihaaDoor
open Go.RowKit

theorem hf_one (p : Int) (c : Ce) (r : List Ce) (h : c.wd = 1) : hf p c r = false := by
  unfold hf
  rw [if_neg (by omega), if_neg (by omega)]
theorem whole_ones : ∀ (l : List Ce) (p : Int), (∀ c ∈ l, c.wd = 1) → wholeL p l = true
  | [], _, _ => rfl
  | c :: r, p, h => by
    unfold wholeL
    rw [hf_one p c r (h c (by simp)), whole_ones r _ (fun x hx => h x (by simp [hx]))]; rfl
theorem fits_bare {a : At} (h : lookB a = true) (n : Nat) : fitsB n (List.replicate n (blkC a)) = true := by
  refine fits_iff.2 ⟨by simp, rights_iff.2 ?_, whole_ones _ _ ?_⟩
  · intro c hc
    rw [(List.mem_replicate.1 hc).2]
    exact right_blk h
  · intro c hc
    rw [(List.mem_replicate.1 hc).2]
    rfl
theorem allB_map (cols : Int) (lv : List (Ln × Value)) : allB cols lv = (lv.map Prod.fst).all fun l => fitsB cols l.cs := by
  unfold allB
  rw [List.all_map]
  rfl
def NewPost (W : World) (rows cols : Nat) (e : Ending) (w' : World) : Prop :=
  ∃ v lv, e = .returned (.tuple #[.agg #[.int .i64 cols, v], .int .i64 0]) ∧ lv.map Prod.fst = List.replicate rows (bareN cols ⟨0, 0, 0⟩) ∧ LSl w' W.heap.size v lv ∧ (∀ x ∈ lv, CSl w' W.heap.size x.2 x.1.cs) ∧ Below W.heap.size W w'
def xC : Ce := ⟨⟨#[120]⟩, 1, 0, 0, 0⟩
theorem xC_right : rightB xC = true := by decide +kernel
theorem alive_lines : mendL 1 (putL (List.replicate 3 (blkC ⟨0, 0, 0⟩)) 2 xC) = [blkC ⟨0, 0, 0⟩, blkC ⟨0, 0, 0⟩, xC] := by rfl
theorem lv_two {lv : List (Ln × Value)} {a b : Ln} (h : lv.map Prod.fst = [a, b]) : ∃ v u, lv = [(a, v), (b, u)] := by
  match lv, h with
  | [(x, v), (y, u)], h =>
    simp only [List.map_cons, List.map_nil, List.cons.injEq, and_true] at h
    exact ⟨v, u, by rw [h.1, h.2]⟩
end Go.Proofs.YteebbmmgbjpihaaDoor

namespace Go.Proofs.YteebbmmgbjpihaaDoor
open Go.RowKit

def cutC (c : Ce) : Ce := ⟨c.tx.extract 0 20, c.wd, c.fg, c.bg, c.fl⟩
def lineG (l : List Ce) : List Ce := (l.take 82).map cutC
theorem cutC_size (c : Ce) : (cutC c).tx.size ≤ 20 := by
  unfold cutC
  simp only
  rw [size_extract']
  omega
theorem lineG_length (l : List Ce) : (lineG l).length = min 82 l.length := by
  unfold lineG
  rw [List.length_map, List.length_take]
theorem lineG_size {l : List Ce} : ∀ c ∈ lineG l, c.tx.size ≤ 20 := by
  intro c hc
  obtain ⟨x, _, rfl⟩ := List.mem_map.1 hc
  exact cutC_size x
theorem cutC_short {tx : ByteArray} (h : tx.size ≤ 20) : tx.extract 0 20 = tx := by
  apply bytes_ext
  · rw [size_extract']; omega
  · intro i hi
    rw [size_extract'] at hi
    rw [byteAt_extract _ _ _ _ (by omega), Nat.zero_add]
theorem take_cut {l : List Ce} {k : Nat} {c : Ce} (h : l[k]? = some c) : (l.take (k + 1)).map cutC = (l.take k).map cutC ++ [cutC c] := by
  obtain ⟨hk, rfl⟩ := List.getElem?_eq_some_iff.1 h
  rw [List.take_succ_eq_append_getElem hk, List.map_append]
  rfl
theorem ce_lit (W : World) (e : Ce) : CeRow (W.alloc (.cells e.cells 44)) (.slice (some ⟨W.heap.size, 0, none⟩) 1 1) [e] := by
  refine ⟨_, _, rfl, Nat.le_refl _, fun _ => ⟨W.heap.size, 0, rfl, by simp, fun j x hj i u hu => ?_⟩⟩
  have hb := Box.new W 44 e.cells
  cases j with
  | zero =>
    simp at hj
    subst hj
    rw [show 0 + 0 * 5 + i = i by omega, hb.cell]
    exact hu
  | succ j => simp at hj
def LineRel (W wr : World) (l : List Ce) (soft : Bool) (k : Nat) : Prop :=
  ∃ ov, Box wr (W.heap.size + 1 + 1) 39 #[ov, .bool soft] ∧ OwnC wr W.heap.size ov ((l.take k).map cutC)

end Go.Proofs.YteebbmmgbjpihaaDoor

namespace Go.Proofs.YteebbmmgbjpihaaDoor
open Go.RowKit

def shiftOk (cols : Int) (lv : List (Ln × Value)) (row col num : Int) (a : At) : Bool := mayB cols lv && (rowB row lv.length && (colB col cols && (decide (0 ≤ num) && lookB a)))
def scrollOk (cols : Int) (lv : List (Ln × Value)) (top bot num : Int) (a : At) : Bool := mayB cols lv && (rowB top lv.length && (rowB bot lv.length && (decide (top ≤ bot) && (decide (0 ≤ num) && lookB a))))
end Go.Proofs.YteebbmmgbjpihaaDoor

namespace Go.Proofs.YteebbmmgbjpihaaDoor
open Go.RowKit

end Go.Proofs.YteebbmmgbjpihaaDoor

namespace Go.Proofs.YteebbmmgbjpihaaDoor
open Go.RowKit

end Go.Proofs.YteebbmmgbjpihaaDoor
