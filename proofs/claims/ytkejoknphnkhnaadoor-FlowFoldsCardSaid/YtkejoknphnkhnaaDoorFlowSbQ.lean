/- Layer 8, the statements' helpers: a long row in two lines. -/
/- Layer 8, what the laws want. Made by wip/gen/flowJn.py. -/
/- Layer 8, plain: rows without wide letters, folded and joined again. -/
/- Layer 8: many lines compared; how long folded lines are. Made by wip/gen/flowFd.py. -/
import Derived.Test.YtkejoknphnkhnaaDoorFlowLaQ
import Derived.Test.YtkejoknphnkhnaaDoorFlowXQ
import Derived.Test.YtkejoknphnkhnaaDoorGridSmQ
import Derived.StillTailTactics
namespace Go.Proofs.YtkejoknphnkhnaaDoor
open Go.RowKit

def a8C (b : UInt8) : Ce := ⟨⟨#[b]⟩, 1, 0, 0, 0⟩
def abc : List Ce := [a8C 97, a8C 98, a8C 99]
theorem abc_ok : okR abc = true := by decide +kernel
theorem abc_fold : foldP 2 abc = [⟨[a8C 97, a8C 98], true⟩, ⟨[a8C 99, b0C], false⟩] := by rfl
theorem abc_join : (joinP [⟨[a8C 97, a8C 98], true⟩, ⟨[a8C 99, b0C], false⟩]).map sayP = [⟨#[97, 98, 99]⟩] := by decide +kernel
theorem abc_tx : (∀ c ∈ [a8C 97, a8C 98], c.tx.size ≤ 1000) ∧ ∀ c ∈ [a8C 99, b0C], c.tx.size ≤ 1000 := by decide
theorem abc_fits : fitsB 2 [a8C 97, a8C 98] = true ∧ fitsB 2 [a8C 99, b0C] = true := by decide +kernel
set_option maxRecDepth 100000 in
set_option maxHeartbeats 1000000 in
theorem flAlive (W : World) (hT : Tab W) (hW : TabW W) : Calls Tryd.prog 26 #[] W fun e w' => e = .returned (.bool true) ∧ Below W.heap.size W w' := by
  have hlit := (OwnC.lit (W := W) (base := 0) abc (by decide) (Nat.zero_le _)).csl.row
  have hb1 := below_alloc W (.cells (cflat abc).toArray 66)
  have hfold := fold_out (.slice (some ⟨W.heap.size, 0, none⟩) 3 3) abc 2 _ hlit (by decide) (by decide) (hT.below hb1) (hW.below hb1)
  rw [show (colsB 2 && okR abc) = true by rw [abc_ok]; rfl, show (2 : Int).toNat = 2 from rfl, abc_fold] at hfold
  have hfold : Calls Tryd.prog 31 #[.slice (some ⟨W.heap.size, 0, none⟩) 3 3, .int .i64 2] (W.alloc (.cells #[.string ⟨#[97]⟩, .int .i64 1, .int .i64 0, .int .i64 0, .int .i64 0, .string ⟨#[98]⟩, .int .i64 1, .int .i64 0, .int .i64 0, .int .i64 0, .string ⟨#[99]⟩, .int .i64 1, .int .i64 0, .int .i64 0, .int .i64 0] 66)) (FOut (W.alloc (.cells #[.string ⟨#[97]⟩, .int .i64 1, .int .i64 0, .int .i64 0, .int .i64 0, .string ⟨#[98]⟩, .int .i64 1, .int .i64 0, .int .i64 0, .int .i64 0, .string ⟨#[99]⟩, .int .i64 1, .int .i64 0, .int .i64 0, .int .i64 0] 66)) true [⟨[a8C 97, a8C 98], true⟩, ⟨[a8C 99, b0C], false⟩]) := hfold
  have hb1 : Below W.heap.size W (W.alloc (.cells #[.string ⟨#[97]⟩, .int .i64 1, .int .i64 0, .int .i64 0, .int .i64 0, .string ⟨#[98]⟩, .int .i64 1, .int .i64 0, .int .i64 0, .int .i64 0, .string ⟨#[99]⟩, .int .i64 1, .int .i64 0, .int .i64 0, .int .i64 0] 66)) := hb1
  have HF := hid hfold
  have HB := hid hb1
  have HT := hid hT
  have HW := hid hW
  clear hfold hb1 hT hW hlit
  go_enter Tryd.func26, Tryd.ntmps26
  go_wp2_with fail
  with_reducible refine HF.out.mono ?_
  rintro e w2 ⟨A, k, c, n, rfl, hb2, ⟨_, rfl, lv, hlv, hown, hcs⟩ | ⟨h, _⟩⟩
  rotate_left
  · cases h
  dsimp only
  have hB2 := HB.out.trans (hb2.mono HB.out.size)
  obtain ⟨v0, v1, rfl⟩ : ∃ v0 v1, lv = [(⟨[a8C 97, a8C 98], true⟩, v0), (⟨[a8C 99, b0C], false⟩, v1)] := by
    rcases lv with _ | ⟨⟨a0, v0⟩, _ | ⟨⟨a1, v1⟩, _ | ⟨_, _⟩⟩⟩ <;> simp at hlv
    obtain ⟨rfl, rfl⟩ := hlv
    exact ⟨_, _, rfl⟩
  have hk : k = 2 := by
    obtain ⟨A', c', e⟩ := hown.spell
    cases e
    rfl
  subst hk
  have hsm : Sm [((⟨[a8C 97, a8C 98], true⟩ : Ln), v0), (⟨[a8C 99, b0C], false⟩, v1)] := ⟨by simp, fun e he => by
    simp only [List.mem_cons, List.mem_nil_iff, or_false] at he
    rcases he with rfl | rfl
    · exact ⟨by simp, abc_tx.1⟩
    · exact ⟨by simp, abc_tx.2⟩⟩
  have hkp : keptB [((⟨[a8C 97, a8C 98], true⟩ : Ln), v0), (⟨[a8C 99, b0C], false⟩, v1)] = true := by rfl
  have hfl : Fl w2 (.slice A 2 c) [((⟨[a8C 97, a8C 98], true⟩ : Ln), v0), (⟨[a8C 99, b0C], false⟩, v1)] := ⟨hown.lsl.row, fun e he => (hcs e he).row, hsm, by simp, fun e he => (by
    simp only [List.mem_cons, List.mem_nil_iff, or_false] at he
    rcases he with rfl | rfl <;> simp)⟩
  have hlet := letters_out _ _ w2 hfl (HT.out.below hB2) (HW.out.below hB2)
  rw [hkp, hlv, abc_join] at hlet
  obtain ⟨A', c', e, _, hcell⟩ := hown.lsl.row
  obtain ⟨g, o, e2, hg, hcell⟩ := hcell (by simp)
  obtain rfl : A = some ⟨g, o, none⟩ := by rw [← e2]; injection e
  obtain ⟨_, q0⟩ := hcell 0 _ rfl
  obtain ⟨_, q1⟩ := hcell 1 _ rfl
  simp only at q0 q1
  have HQ0 := hid q0
  have HQ1 := hid q1
  have HL := hid hlet
  have HB2 := hid hB2
  clear q0 q1 hlet hB2 hcell hsm hkp hfl hown hcs hlv e e2 hb2 HF
  go_wp2_with fail
  with_reducible refine HL.out.mono ?_
  rintro e w3 ⟨A3, k3, c3, n3, rfl, hb3, ⟨_, rfl, hS⟩ | ⟨h, _⟩⟩
  rotate_left
  · cases h
  dsimp only
  obtain ⟨g3, cc3, e3, hg3, hS3⟩ := hS.row (by simp)
  cases e3
  have r0 := hS3 0 _ rfl
  have q0 := (hb3.cell (p := ⟨g, o + 0 * 2 + 1, none⟩) hg).trans HQ0.out
  have q1 := (hb3.cell (p := ⟨g, o + 1 * 2 + 1, none⟩) hg).trans HQ1.out
  simp only [Nat.zero_mul, Nat.add_zero, Nat.one_mul] at q0 q1
  have hg' : g < w3.heap.size := Nat.lt_of_lt_of_le hg hb3.size
  have HB3 := hid (HB2.out.trans (hb3.mono HB2.out.size))
  clear hS hS3 HL hb3 HQ0 HQ1
  go_wp2
  go_ret
  exact ⟨rfl, HB3.out⟩
end Go.Proofs.YtkejoknphnkhnaaDoor

namespace Go.Proofs.YtkejoknphnkhnaaDoor
open Go.RowKit

theorem takeN_mem {ls : List Ln} {m : Nat} {x : Ln} (h : x ∈ takeN ls m) : ∃ y, x = cutN y := by
  unfold takeN at h
  obtain ⟨y, _, rfl⟩ := List.mem_map.1 h
  exact ⟨y, rfl⟩
/-- Few lines, cut short. -/
theorem few_fl {W : World} {base : Nat} {v : Value} {lv : List (Ln × Value)} {ls : List Ln} (h : lv.map Prod.fst = takeN ls 30) (hl : LSl W base v lv) (hc : ∀ x ∈ lv, CSl W base x.2 x.1.cs) : Fl W v lv := by
  have hn : lv.length ≤ 30 := by
    have := congrArg List.length h
    unfold takeN at this
    rw [List.length_map, List.length_map, List.length_take] at this
    omega
  have hx : ∀ e ∈ lv, ∃ y, e.1 = cutN y := fun e he => takeN_mem (by rw [← h]; exact List.mem_map.2 ⟨e, he, rfl⟩)
  have h82 : ∀ e ∈ lv, e.1.cs.length ≤ 82 ∧ ∀ c ∈ e.1.cs, c.tx.size ≤ 20 := fun e he => by
    obtain ⟨y, hy⟩ := hx e he
    rw [hy]
    exact ⟨by show (lineG y.cs).length ≤ 82; rw [lineG_length]; omega, lineG_size⟩
  exact ⟨hl.row, fun e he => (hc e he).row, ⟨by omega, fun e he => ⟨by have := (h82 e he).1; omega, fun c hcc => by have := (h82 e he).2 c hcc; omega⟩⟩, by omega, fun e he => by have := (h82 e he).1; omega⟩
theorem Fl.may {W : World} {v : Value} {lv : List (Ln × Value)} (h : Fl W v lv) : mayLs lv = keptB lv := by unfold mayLs; rw [decide_eq_true h.n, Bool.and_true]
theorem le_sumL {r : List Ce} : ∀ {rs : List (List Ce)}, r ∈ rs → r.length ≤ sumL rs
  | x :: l, h => by
    have e : sumL (x :: l) = x.length + sumL l := by unfold sumL; simp
    rcases List.mem_cons.1 h with rfl | h
    · omega
    · have := le_sumL h
      omega
set_option maxRecDepth 100000 in
theorem lSame_any (v1 v2 : Value) (l : List Ce) (W : World) (h1 : CeRow W v1 l) (h2 : CeRow W v2 l) (n1 : l.length ≤ 1000000) :
    Calls Tryd.prog 28 #[v1, v2] W fun e w' => e = .returned (.bool true) ∧ Below W.heap.size W w' := by
  have hS := rSameLine_eq v1 v2 false l W h1 h2 n1
  obtain ⟨A1, c1, rfl⟩ := h1.spell
  obtain ⟨A2, c2, rfl⟩ := h2.spell
  obtain ⟨n, hn⟩ : ∃ n, l.length = n := ⟨_, rfl⟩
  rw [hn] at hS ⊢
  have HS := hid hS
  clear hS h1 h2 n1 hn
  go_enter Tryd.func28, Tryd.ntmps28
  go_wp2_with fail
  with_reducible refine HS.out.mono ?_
  rintro e w1 ⟨rfl, hb⟩
  dsimp only
  go_wp2
  go_ret
  exact ⟨rfl, hb⟩
/-- The reads of such rows. -/
theorem OwnR.at {W : World} {base : Nat} {A : Option Addr} {n c : Nat} {rv : List (List Ce × Value)} (h : OwnR W base (.slice A n c) rv) : n = rv.length ∧ (rv ≠ [] → ∃ g o, A = some ⟨g, o, none⟩ ∧ g < W.heap.size ∧ ∀ j e, rv[j]? = some e → W.cell? ⟨g, o + j, none⟩ = some e.2) := by
  obtain ⟨A', c', e, _, hcell⟩ := h.row
  cases e
  exact ⟨rfl, hcell⟩
theorem OwnS.at {W : World} {base : Nat} {A : Option Addr} {n c : Nat} {l : List ByteArray} (h : OwnS W base (.slice A n c) l) : n = l.length ∧ (l ≠ [] → ∃ g, A = some ⟨g, 0, none⟩ ∧ g < W.heap.size ∧ ∀ j x, l[j]? = some x → W.cell? ⟨g, j, none⟩ = some (.string x)) := by
  obtain ⟨A', c', e, hcell⟩ := h.any
  cases e
  exact ⟨rfl, hcell⟩
theorem OwnS.below {W W' : World} {base : Nat} {v : Value} {l : List ByteArray} (h : OwnS W base v l) (hb : Below W.heap.size W W') : OwnS W' base v l := h.kept hb
end Go.Proofs.YtkejoknphnkhnaaDoor

namespace Go.Proofs.YtkejoknphnkhnaaDoor
open Go.RowKit

def jStep (s : List (List Ce) × List Ce) (l : Ln) : List (List Ce) × List Ce :=
  if l.soft = true then (s.1, s.2 ++ l.cs) else (s.1 ++ [trimL (s.2 ++ l.cs)], [])
def endOk (ls : List Ln) : Prop := ls = [] ∨ ∃ a l, ls = a ++ [l] ∧ l.soft = false
theorem joinS_fold {ls : List Ln} (h : endOk ls) : ∀ k, k ≤ ls.length → joinS ls k = (ls.take k).foldl jStep ([], [])
  | 0, _ => rfl
  | k + 1, hk => by
    have ih := joinS_fold h k (by omega)
    have hx : ls[k]? = some ls[k] := List.getElem?_eq_getElem (by omega)
    rw [List.take_succ_eq_append_getElem (by omega), List.foldl_append, ← ih]
    show joinS ls (k + 1) = jStep (joinS ls k) ls[k]
    unfold jStep
    by_cases hs : ls[k].soft = true
    · rw [if_pos hs]
      refine joinS_go hx hs fun e => ?_
      rcases h with rfl | ⟨a, l, h1, h2⟩
      · simp at hk
      · have hl : ls.length = a.length + 1 := by rw [h1, List.length_append, List.length_singleton]
        have hka : k = a.length := by omega
        subst h1
        subst hka
        rw [List.getElem?_concat_length] at hx
        rw [← Option.some.inj hx, h2] at hs
        cases hs
    · rw [if_neg hs]
      exact joinS_end hx (.inl (by simpa using hs))
theorem joinP_fold {ls : List Ln} (h : endOk ls) : joinP ls = (ls.foldl jStep ([], [])).1 := by
  unfold joinP
  rw [joinS_fold h _ (Nat.le_refl _), List.take_length]
/-- Cells that stand alone. -/
def Ones (l : List Ce) : Prop := ∀ c ∈ l, rightB c = true ∧ c.wd = 1 ∧ c.tx.size ≤ 1000
theorem b0_ones : rightB b0C = true := by decide +kernel
theorem Ones.ok : ∀ {l : List Ce}, Ones l → okR l = true
  | [], _ => rfl
  | c :: r, h => by
    obtain ⟨h1, h2, _⟩ := h c (by simp)
    have ih := Ones.ok (l := r) fun x hx => h x (by simp [hx])
    obtain ⟨i1, i2⟩ := okR_iff.1 ih
    refine okR_iff.2 ⟨?_, ?_⟩
    · rw [rights_cons, h1, i1]; rfl
    · show (!hf 1 c r && wholeL c.wd r) = true
      rw [hf_one _ _ _ h2, h2, i2]; rfl
theorem Ones.segs : ∀ {l : List Ce}, Ones l → segs l = l.map fun c => [c]
  | [], _ => rfl
  | c :: r, h => by
    rw [segs_one (h c (by simp)).2.1, Ones.segs (l := r) fun x hx => h x (by simp [hx])]
    rfl
theorem Ones.append {a b : List Ce} (ha : Ones a) (hb : Ones b) : Ones (a ++ b) := fun c hc => (List.mem_append.1 hc).elim (ha c) (hb c)
theorem Ones.b0 (k : Nat) : Ones (List.replicate k b0C) := fun c hc => by
  rw [List.eq_of_mem_replicate hc]
  exact ⟨b0_ones, rfl, by decide⟩
theorem Ones.trim {l : List Ce} (h : Ones l) : Ones (trimL l) := fun c hc => h c (trimL_mem hc)
theorem joinS_ones {ls : List Ln} (h : ∀ l ∈ ls, Ones l.cs) : ∀ k, k ≤ ls.length → (∀ r ∈ (joinS ls k).1, Ones r ∧ trimL r = r) ∧ Ones (joinS ls k).2
  | 0, _ => ⟨fun r hr => by simp [joinS] at hr, fun c hc => by simp [joinS] at hc⟩
  | k + 1, hk => by
    obtain ⟨i1, i2⟩ := joinS_ones h k (by omega)
    have hx : ls[k]? = some ls[k] := List.getElem?_eq_getElem (by omega)
    have hl := i2.append (h _ (List.mem_of_getElem? hx))
    by_cases hs : ls[k].soft = true ∧ k + 1 ≠ ls.length
    · rw [joinS_go hx hs.1 hs.2]
      exact ⟨i1, hl⟩
    · rw [joinS_end hx (by
        by_cases h1 : ls[k].soft = true
        · exact .inr (Classical.byContradiction fun e => hs ⟨h1, e⟩)
        · exact .inl (by simpa using h1))]
      refine ⟨fun r hr => ?_, fun c hc => by simp at hc⟩
      rw [List.mem_append, List.mem_singleton] at hr
      rcases hr with hr | rfl
      · exact i1 r hr
      · exact ⟨hl.trim, trimL_trim _⟩
theorem joinP_ones {ls : List Ln} (h : ∀ l ∈ ls, Ones l.cs) : ∀ r ∈ joinP ls, Ones r ∧ trimL r = r := (joinS_ones h _ (Nat.le_refl _)).1
/-- Such rows, folded: each line is full, but for the last one. -/
theorem foldS_ones {C : Nat} (hC : 1 ≤ C) (rs : List (List Ce)) {r : List Ce} : Ones r →
    (∀ l ∈ (foldS C (r.map fun c => [c])).1, l.soft = true ∧ l.cs.length = C ∧ Ones l.cs) ∧ Ones (foldS C (r.map fun c => [c])).2 ∧
    ∃ X, (foldS C (r.map fun c => [c])).1.foldl jStep (rs, []) = (rs, X) ∧ X ++ (foldS C (r.map fun c => [c])).2 = r := by
  refine snoc_ind (P := fun r => Ones r →
    (∀ l ∈ (foldS C (r.map fun c => [c])).1, l.soft = true ∧ l.cs.length = C ∧ Ones l.cs) ∧ Ones (foldS C (r.map fun c => [c])).2 ∧
    ∃ X, (foldS C (r.map fun c => [c])).1.foldl jStep (rs, []) = (rs, X) ∧ X ++ (foldS C (r.map fun c => [c])).2 = r) (fun _ => ⟨fun l hl => by simp [foldS] at hl, fun c hc => by simp [foldS] at hc, [], rfl, rfl⟩) (fun r c ih h => ?_) r
  have hr : Ones r := fun x hx => h x (by simp [hx])
  have hc1 : Ones [c] := fun x hx => h x (by simp at hx; simp [hx])
  obtain ⟨i1, i2, X, i3, i4⟩ := ih hr
  have hlen := (foldS_len C (r.map fun c => [c])).1
  rw [List.map_append, List.map_singleton, foldS_snoc]
  unfold foldStep
  rw [if_neg (by simp; omega)]
  by_cases hf : C < (foldS C (r.map fun c => [c])).2.length + [c].length
  · rw [if_pos hf]
    simp only [List.length_singleton] at hf
    have hl : (foldS C (r.map fun c => [c])).2.length = C := by omega
    have hfill : fillP C (foldS C (r.map fun c => [c])).2 = (foldS C (r.map fun c => [c])).2 := by
      unfold fillP
      rw [hl, Nat.sub_self, List.replicate_zero, List.append_nil]
    rw [hfill]
    refine ⟨fun l hm => ?_, hc1, X ++ (foldS C (r.map fun c => [c])).2, ?_, by rw [i4]⟩
    · rw [List.mem_append, List.mem_singleton] at hm
      rcases hm with hm | rfl
      · exact i1 l hm
      · exact ⟨rfl, hl, i2⟩
    · rw [List.foldl_append, i3]
      rfl
  · rw [if_neg hf]
    exact ⟨i1, i2.append hc1, X, i3, by rw [← List.append_assoc, i4]⟩
theorem foldP_ones {C : Nat} (hC : 1 ≤ C) (rs : List (List Ce)) {r : List Ce} (h : Ones r) :
    (∀ l ∈ foldP C r, l.cs.length = C ∧ Ones l.cs) ∧ (foldP C r).foldl jStep (rs, []) = (rs ++ [trimL r], []) := by
  obtain ⟨i1, i2, X, i3, i4⟩ := foldS_ones hC rs h
  have hlen := (foldS_len C (r.map fun c => [c])).1
  unfold foldP
  rw [h.segs]
  refine ⟨fun l hl => ?_, ?_⟩
  · rw [List.mem_append, List.mem_singleton] at hl
    rcases hl with hl | rfl
    · exact ⟨(i1 l hl).2.1, (i1 l hl).2.2⟩
    · refine ⟨?_, i2.append (Ones.b0 _)⟩
      show ((foldS C (r.map fun c => [c])).2 ++ List.replicate _ b0C).length = C
      rw [List.length_append, List.length_replicate]
      omega
  · rw [List.foldl_append, i3]
    show (rs ++ [trimL (X ++ ((foldS C (r.map fun c => [c])).2 ++ List.replicate _ b0C))], ([] : List Ce)) = _
    rw [← List.append_assoc, i4, trimL_pad]
theorem flow_fold {C : Nat} (hC : 1 ≤ C) : ∀ (rows : List (List Ce)) (rs : List (List Ce)), (∀ r ∈ rows, Ones r) → ((rows.map (foldP C)).flatten).foldl jStep (rs, []) = (rs ++ rows.map trimL, [])
  | [], rs, _ => by simp
  | r :: q, rs, h => by
    rw [List.map_cons, List.flatten_cons, List.foldl_append, (foldP_ones hC rs (h r (by simp))).2, flow_fold hC q _ fun x hx => h x (by simp [hx])]
    simp
theorem flow_end (C : Nat) (rows : List (List Ce)) : endOk (rows.map (foldP C)).flatten := by
  refine snoc_ind (P := fun rows => endOk (rows.map (foldP C)).flatten) (.inl rfl) (fun q r _ => ?_) rows
  right
  refine ⟨(q.map (foldP C)).flatten ++ (foldS C (segs r)).1, ⟨fillP C (foldS C (segs r)).2, false⟩, ?_, rfl⟩
  rw [List.map_append, List.flatten_append, List.append_assoc]
  congr 1
  simp [foldP]
/-- Lines that flow say the same. -/
theorem flow_joins {C : Nat} (hC : 1 ≤ C) {ls : List Ln} (h : ∀ l ∈ ls, Ones l.cs) : joinP (flowP C ls) = joinP ls ∧ ∀ l ∈ flowP C ls, l.cs.length = C ∧ Ones l.cs := by
  have hj := joinP_ones h
  refine ⟨?_, fun l hl => ?_⟩
  · unfold flowP
    rw [joinP_fold (flow_end C _), flow_fold hC _ _ fun r hr => (hj r hr).1]
    show [] ++ (joinP ls).map trimL = joinP ls
    rw [List.nil_append]
    conv => rhs; rw [← List.map_id (joinP ls)]
    exact List.map_congr_left fun r hr => (hj r hr).2
  · unfold flowP at hl
    obtain ⟨p, hp, hlp⟩ := List.mem_flatten.1 hl
    obtain ⟨r, hr, rfl⟩ := List.mem_map.1 hp
    exact (foldP_ones hC [] (hj r hr).1).1 l hlp
/-- Lines of so many columns may be. -/
theorem ones_kept {C : Nat} (hC : 1 ≤ C) (hC2 : C ≤ 80) {lv : List (Ln × Value)} (h : ∀ e ∈ lv, e.1.cs.length = C ∧ Ones e.1.cs) : keptB lv = true := by
  unfold keptB
  rw [List.all_eq_true]
  intro e he
  obtain ⟨h1, h2⟩ := h e he
  unfold keptE
  rw [okR_fits, h2.ok, Bool.and_true, h1]
  exact decide_eq_true ⟨by omega, by omega⟩
end Go.Proofs.YtkejoknphnkhnaaDoor

namespace Go.Proofs.YtkejoknphnkhnaaDoor
open Go.RowKit

def SzB (lv : List (Ln × Value)) : Prop := lv.length ≤ 100000 ∧ ∀ e ∈ lv, e.1.cs.length ≤ 1000
set_option maxRecDepth 100000 in
set_option maxHeartbeats 1000000 in
theorem same_big (v1 v2 : Value) (l1 l2 : List (Ln × Value)) (W : World) (r1 : LR W v1 l1) (r2 : LR W v2 l2) (c1 : CesOf W l1) (c2 : CesOf W l2) (hm : l1.map Prod.fst = l2.map Prod.fst) (s1 : SzB l1) :
    Calls Tryd.prog 15 #[v1, v2] W fun e w' => e = .returned (.bool true) ∧ Below W.heap.size W w' := by
  have hlen : l1.length = l2.length := by have := congrArg List.length hm; simpa using this
  obtain ⟨A1, k1, rfl, _, h1⟩ := r1
  obtain ⟨A2, k2, rfl, _, h2⟩ := r2
  obtain ⟨n, hn⟩ : ∃ n, l1.length = n := ⟨_, rfl⟩
  rw [← hlen, hn]
  have HN := hid hn
  have HM := hid hm
  have HL2 : Hid (l2.length = n) := by unfold Hid; rw [← hlen, hn]
  have hn1 : n ≤ 100000 := by rw [← hn]; exact s1.1
  have C1 := hid c1
  have C2 := hid c2
  have S1 := hid s1
  clear hn hm hlen c1 c2 s1
  go_enter Tryd.func15, Tryd.ntmps15
  go_wp2
  go_loopw [13] (fun i wr => ∃ k : Nat, k ≤ n ∧ i = .int .i64 k ∧ Below W.heap.size W wr) (fun i _ => n - (intOf i).toNat)
  case atStart => exact ⟨0, by omega, rfl, Below.refl _ _⟩
  case round =>
    obtain ⟨k, hk, rfl, hb⟩ := hrel
    by_cases hlt : k < n
    · have hki : (k : Int) < n := by omega
      have kl1 : k < l1.length := by rw [HN.out]; exact hlt
      have kl2 : k < l2.length := by rw [HL2.out]; exact hlt
      obtain ⟨g1, o1, rfl, hg1, hc1⟩ := h1 (by intro e; rw [e] at kl1; simp at kl1)
      obtain ⟨g2, o2, rfl, hg2, hc2⟩ := h2 (by intro e; rw [e] at kl2; simp at kl2)
      have hx1 := List.getElem?_eq_getElem kl1
      have hx2 := List.getElem?_eq_getElem kl2
      obtain ⟨p0, p1⟩ := hc1 k _ hx1
      obtain ⟨q0, q1⟩ := hc2 k _ hx2
      have p0 := (hb.cell (p := ⟨g1, o1 + k * 2, none⟩) hg1).trans p0
      have p1 := (hb.cell (p := ⟨g1, o1 + k * 2 + 1, none⟩) hg1).trans p1
      have q0 := (hb.cell (p := ⟨g2, o2 + k * 2, none⟩) hg2).trans q0
      have q1 := (hb.cell (p := ⟨g2, o2 + k * 2 + 1, none⟩) hg2).trans q1
      have hf : l1[k].1 = l2[k].1 := by
        have h := congrArg (fun l => l[k]?) HM.out
        simp only [List.getElem?_map, hx1, hx2, Option.map_some] at h
        exact Option.some.inj h
      have e1 := C1.out l1[k] (List.getElem_mem _)
      have e2 := C2.out l2[k] (List.getElem_mem _)
      have z1 := S1.out.2 l1[k] (List.getElem_mem _)
      generalize l1[k] = x1 at *
      generalize l2[k] = x2 at *
      obtain ⟨⟨cs, soft⟩, u1⟩ := x1
      obtain ⟨L2, u2⟩ := x2
      simp only at hf e1 e2 z1 p0 p1 q0 q1
      subst hf
      simp only at e2 q1
      have hS := rSameLine_eq u1 u2 soft cs wr.drew (((e1.below hb)).below (Below.refl _ _).drew) (((e2.below hb)).below (Below.refl _ _).drew) (by omega)
      obtain ⟨B1, d1, rfl⟩ := e1.spell
      obtain ⟨B2, d2, rfl⟩ := e2.spell
      have HS := hid hS
      have HB := hid hb
      clear hx1 hx2 e1 e2 hS hb hc1 hc2 h1 h2
      go_wp2_with fail
      go_still_tail 8, (by kernel_rfl)
      change wpList _ _ _ _ _ wr.drew
      go_wp2_with fail
      with_reducible refine HS.out.mono ?_
      rintro e w2 ⟨rfl, hb2⟩
      dsimp only
      have hb3 := HB.out.trans (((Below.refl _ _).drew.trans hb2).mono HB.out.size)
      have HB3 := hid hb3
      clear hb2 hb3 p0 p1 q0 q1
      go_wp2
      go_roundw
      case rel => exact ⟨k + 1, by omega, by go_num, HB3.out⟩
      case measure => simp [intOf]; omega
    · have hkm : k = n := by omega
      subst hkm
      clear h1 h2
      go_wp2
      go_ret
      exact ⟨rfl, hb⟩

theorem fill_len {C : Nat} {l : List Ce} (h : l.length ≤ C) : (fillP C l).length = C := by
  unfold fillP
  rw [List.length_append, List.length_replicate]
  omega
theorem foldS_lines (C : Nat) (ts : List (List Ce)) : ∀ l ∈ (foldS C ts).1, l.cs.length = C := by
  refine snoc_ind (P := fun ts => ∀ l ∈ (foldS C ts).1, l.cs.length = C) (fun l hl => by simp [foldS] at hl) (fun ts t ih => ?_) ts
  have hlen := (foldS_len C ts).1
  rw [foldS_snoc]
  unfold foldStep
  split
  · exact ih
  · split
    · intro l hl
      rw [List.mem_append, List.mem_singleton] at hl
      rcases hl with hl | rfl
      · exact ih l hl
      · exact fill_len hlen
    · exact ih
theorem foldP_lines (C : Nat) (row : List Ce) : ∀ l ∈ foldP C row, l.cs.length = C := fun l hl => by
  unfold foldP at hl
  rw [List.mem_append, List.mem_singleton] at hl
  rcases hl with hl | rfl
  · exact foldS_lines C _ l hl
  · exact fill_len (foldS_len C _).1
theorem flowP_lines (C : Nat) (ls : List Ln) : ∀ l ∈ flowP C ls, l.cs.length = C := fun l hl => by
  unfold flowP at hl
  obtain ⟨p, hp, hlp⟩ := List.mem_flatten.1 hl
  obtain ⟨r, _, rfl⟩ := List.mem_map.1 hp
  exact foldP_lines C r l hlp
theorem szb {lv : List (Ln × Value)} {ls : List Ln} {C : Nat} (hm : lv.map Prod.fst = ls) (hC : C ≤ 80) (hl : ∀ l ∈ ls, l.cs.length = C) (hn : ls.length ≤ 100000) : SzB lv := by
  subst hm
  exact ⟨by rwa [List.length_map] at hn, fun e he => by rw [hl _ (List.mem_map.2 ⟨e, he, rfl⟩)]; omega⟩
theorem flow_n {W : World} {v : Value} {lv : List (Ln × Value)} (h : Fl W v lv) (hk : keptB lv = true) (C : Nat) : (flowP C (lv.map Prod.fst)).length ≤ 100000 := by
  obtain ⟨h1, h2, h3⟩ := h.rows hk
  have := flat_len C fun r hr => (h1 r hr).1
  unfold flowP
  omega
theorem cut8_tx {most : Nat} {l : List Ce} : ∀ c ∈ cutN8 most l, c.tx.size ≤ 1000 := fun c hc => by
  obtain ⟨x, _, rfl⟩ := List.mem_map.1 hc
  have := cutC_size x
  omega
theorem cut8_len (most : Nat) (l : List Ce) : (cutN8 most l).length ≤ most := by
  unfold cutN8
  rw [List.length_map, List.length_take]
  omega
/-- What folding, or flowing, answers. -/
def FAns (W : World) (ok : Bool) (tgt : List Ln) (A : Option Addr) (k c : Nat) (n : Int) : Prop :=
  (ok = true ∧ n = 0 ∧ ∃ lv, lv.map Prod.fst = tgt ∧ LR W (.slice A k c) lv ∧ CesOf W lv) ∨ (ok = false ∧ n = 1 ∧ (.slice A k c : Value) = .slice none 0 0)
theorem FAns.below {W W' : World} {ok : Bool} {tgt : List Ln} {A : Option Addr} {k c : Nat} {n : Int} (h : FAns W ok tgt A k c n) (hb : Below W.heap.size W W') : FAns W' ok tgt A k c n :=
  h.imp (fun ⟨p, q, lv, r, s, t⟩ => ⟨p, q, lv, r, s.below hb, t.below hb⟩) id
theorem fans {W : World} {base : Nat} {ok : Bool} {tgt : List Ln} {A : Option Addr} {k c : Nat} {n : Int}
    (h : (ok = true ∧ n = 0 ∧ ∃ lv', lv'.map Prod.fst = tgt ∧ OwnL W base (.slice A k c) lv' ∧ ∀ x ∈ lv', CSl W base x.2 x.1.cs) ∨ (ok = false ∧ n = 1 ∧ (.slice A k c : Value) = .slice none 0 0)) : FAns W ok tgt A k c n :=
  h.imp (fun ⟨p, q, lv, r, s, t⟩ => ⟨p, q, lv, r, s.lsl.row, fun x hx => (t x hx).row⟩) id
theorem colsB_c {C : Nat} (h : 1 ≤ C) (h2 : C ≤ 80) : colsB (C : Int) = true := decide_eq_true ⟨by omega, by omega⟩
end Go.Proofs.YtkejoknphnkhnaaDoor
