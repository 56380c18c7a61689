/- Layer 10, plain: blanks left out at the end; texts joined; what is taken. -/
/- Layer 10, the package: what cells say, without the blanks at the end; cells of a word. -/
/- Layer 10, the package: texts joined; what is in a block. -/
import Derived.Test.YteebbmmgbjpihaaDoorFindAlQ
import Derived.Test.YteebbmmgbjpihaaDoorFindShQ
import Derived.Test.YteebbmmgbjpihaaDoorFlowSQ
import Derived.Test.YteebbmmgbjpihaaDoorFlowLmQ
import Derived.Test.YteebbmmgbjpihaaDoorBackPQ
namespace Go.Proofs.YteebbmmgbjpihaaDoor
open Go.RowKit

def endN (s : ByteArray) : Nat → Nat
  | 0 => 0
  | n + 1 => if byteAt s n = 32 then endN s n else n + 1
def endB (s : ByteArray) : ByteArray := s.extract 0 (endN s s.size)
theorem endN_le (s : ByteArray) : ∀ n, endN s n ≤ n
  | 0 => Nat.le_refl _
  | n + 1 => by
    unfold endN
    split
    · exact Nat.le_succ_of_le (endN_le s n)
    · exact Nat.le_refl _
theorem endN_blank (s : ByteArray) : ∀ n j, endN s n ≤ j → j < n → byteAt s j = 32
  | n + 1, j, h1, h2 => by
    unfold endN at h1
    split at h1
    · rename_i h
      rcases Nat.lt_or_ge j n with hj | hj
      · exact endN_blank s n j h1 hj
      · rw [show j = n by omega]; exact h
    · omega
theorem endN_stop (s : ByteArray) : ∀ n, 0 < endN s n → byteAt s (endN s n - 1) ≠ 32
  | n + 1, h => by
    unfold endN at h ⊢
    split
    · rename_i h2
      rw [if_pos h2] at h
      exact endN_stop s n h
    · rename_i h2
      simpa using h2
theorem byteAt_list (s : ByteArray) (j : Nat) (b : UInt8) (h : s.data.toList[j]? = some b) : byteAt s j = b.toNat := by
  obtain ⟨hl, hb⟩ := List.getElem?_eq_some_iff.1 h
  have hs : j < s.size := by rw [Lib.size_eq]; exact hl
  rw [← byteAt_eq hs]
  exact congrArg (fun x : UInt8 => (x.toNat : Int)) hb
theorem bare_trim (s : ByteArray) : (⟨(Lib.trimRightB s.data.toList 32).toArray⟩ : ByteArray) = endB s := by
  have h := Lib.trimRightB_take s.data.toList 32 (endN s s.size) (by rw [← Lib.size_eq]; exact endN_le _ _) (fun j b hj hb => by
      have hl := (List.getElem?_eq_some_iff.1 hb).1
      rw [← Lib.size_eq] at hl
      have := endN_blank s s.size j hj hl
      rw [byteAt_list s j b hb] at this
      exact UInt8.toNat_inj.1 (by show b.toNat = 32; omega)) (fun b h0 hb hc => by
      have := endN_stop s s.size h0
      rw [byteAt_list s _ b hb, hc] at this
      exact this rfl)
  rw [h]
  unfold endB
  apply ByteArray.ext
  apply Array.toList_inj.1
  simp
def nlB : ByteArray := ⟨#[10]⟩
/-- Texts, one behind the other, with a byte 10 between. -/
def joinN : List ByteArray → ByteArray
  | [] => ⟨#[]⟩
  | x :: r => r.foldl (fun a y => a ++ nlB ++ y) x
theorem joinN_snoc (l : List ByteArray) (h : l ≠ []) (y : ByteArray) : joinN (l ++ [y]) = joinN l ++ nlB ++ y := by
  cases l with
  | nil => exact absurd rfl h
  | cons x r => show (r ++ [y]).foldl _ x = _; rw [List.foldl_append]; rfl
theorem joinN_one (x : ByteArray) : joinN [x] = x := rfl
theorem foldl_nl (r : List ByteArray) : ∀ x : ByteArray, (r.foldl (fun a y => a ++ nlB ++ y) x).data.toList = x.data.toList ++ Lib.joinTail [10] (r.map (·.data.toList)) := by
  induction r with
  | nil => intro x; simp [Lib.joinTail]
  | cons y r ih =>
    intro x
    rw [List.foldl_cons, ih]
    simp [Lib.joinTail, nlB]
theorem join_lib (l : List ByteArray) : (⟨(Lib.join (l.map (·.data.toList)) (⟨#[10]⟩ : ByteArray).data.toList).toArray⟩ : ByteArray) = joinN l := by
  apply ByteArray.ext
  apply Array.toList_inj.1
  cases l with
  | nil => rfl
  | cons x r =>
    show ((Lib.join (x.data.toList :: r.map (·.data.toList)) [10]).toArray).toList = (r.foldl (fun a y => a ++ nlB ++ y) x).data.toList
    rw [foldl_nl, Lib.join_cons]
/-- What is of a line, from one place to another one. -/
def segT (ls : List Ln) (a b : Nat × Nat) (r : Nat) : List Ce :=
  let cs := match ls[r]? with | some l => l.cs | none => []
  let cs := if r = b.1 then cs.take (b.2 + 1) else cs
  if r = a.1 then cs.drop a.2 else cs
def softP (ls : List Ln) (r : Nat) : Bool := match ls[r]? with | some l => l.soft | none => false
/-- So many lines of it: the texts that are whole, and what is begun. -/
def tkS (ls : List Ln) (a b : Nat × Nat) : Nat → List ByteArray × List Ce
  | 0 => ([], [])
  | k + 1 =>
    let w := (tkS ls a b k).2 ++ segT ls a b (a.1 + k)
    if softP ls (a.1 + k) = true ∧ a.1 + k ≠ b.1 then ((tkS ls a b k).1, w) else ((tkS ls a b k).1 ++ [endB (sayCs w)], [])
def tkT (ls : List Ln) (a b : Nat × Nat) : ByteArray := joinN (tkS ls a b (b.1 + 1 - a.1)).1
theorem tkS_go {ls : List Ln} {a b : Nat × Nat} {k : Nat} (h : softP ls (a.1 + k) = true) (hb : a.1 + k ≠ b.1) : tkS ls a b (k + 1) = ((tkS ls a b k).1, (tkS ls a b k).2 ++ segT ls a b (a.1 + k)) := if_pos ⟨h, hb⟩
theorem tkS_end {ls : List Ln} {a b : Nat × Nat} {k : Nat} (h : softP ls (a.1 + k) = false ∨ a.1 + k = b.1) : tkS ls a b (k + 1) = ((tkS ls a b k).1 ++ [endB (sayCs ((tkS ls a b k).2 ++ segT ls a b (a.1 + k)))], []) := by
  refine if_neg (fun ⟨h1, h2⟩ => ?_)
  rcases h with h | h
  · rw [h] at h1; cases h1
  · exact h2 h
/-- A block's part of a line. -/
def segB (cs : List Ce) (left right : Nat) : List Ce := (cs.take (right + 1)).drop left
def bkS (ls : List Ln) (top left right k : Nat) : List ByteArray := ((ls.drop top).take k).map fun l => endB (sayCs (segB l.cs left right))
def bkT (ls : List Ln) (a b : Nat × Nat) : ByteArray := joinN (bkS ls (min a.1 b.1) (min a.2 b.2) (max a.2 b.2) (max a.1 b.1 + 1 - min a.1 b.1))
theorem bkS_step {ls : List Ln} {top left right k : Nat} {l : Ln} (h : ls[top + k]? = some l) : bkS ls top left right (k + 1) = bkS ls top left right k ++ [endB (sayCs (segB l.cs left right))] := by
  have : (ls.drop top)[k]? = some l := by rw [List.getElem?_drop]; exact h
  unfold bkS
  rw [List.take_add_one, this, List.map_append]
  rfl
theorem sayCs_append (a b : List Ce) : sayCs (a ++ b) = sayCs a ++ sayCs b := by
  unfold sayCs
  rw [List.foldl_append, foldl_say]
  rfl
theorem sayCs_size {l : List Ce} (h : ∀ c ∈ l, c.tx.size ≤ 1000) : (sayCs l).size ≤ l.length * 1001 := by
  rw [← sayN_all]
  exact sayN_size h l.length (Nat.le_refl _)
theorem endB_size (s : ByteArray) : (endB s).size ≤ s.size := by unfold endB; rw [size_extract']; omega
/-- A cell of a word. -/
def wordC (c : Ce) : Bool := decide (c.wd = 0 ∨ (c.tx.size ≠ 0 ∧ c.tx ≠ ⟨#[32]⟩))
theorem word_say {c : Ce} (h : rightB c = true) : decide (sayC c ≠ ⟨#[32]⟩) = wordC c := by
  unfold wordC
  rw [sayC_right h, decide_eq_decide]
  by_cases h0 : c.wd = 0
  · rw [if_pos h0]
    exact ⟨fun _ => .inl h0, fun _ => by decide⟩
  · rw [if_neg h0]
    unfold orB
    by_cases hz : c.tx.size = 0
    · rw [if_pos hz]
      exact ⟨fun h => absurd rfl h, fun h => by rcases h with h | h; exact absurd h h0; exact absurd hz h.1⟩
    · rw [if_neg hz]
      exact ⟨fun h => .inr ⟨hz, h⟩, fun h => by rcases h with h | h; exact absurd h h0; exact h.2⟩
end Go.Proofs.YteebbmmgbjpihaaDoor

namespace Go.Proofs.YteebbmmgbjpihaaDoor
open Go.RowKit Go.Shelf

set_option maxHeartbeats 1000000 in
theorem ofWord_any (c : Ce) (W : World) (hc : rightB c = true) : Calls Tryd.prog 26 #[c.agg] W fun e w' => e = .returned (.bool (wordC c)) ∧ Below W.heap.size W w' := by
  have HS := hid (fun X => says_any c X hc)
  have HW := hid (word_say hc)
  obtain ⟨x, hx⟩ : ∃ x, sayC c = x := ⟨_, rfl⟩
  obtain ⟨b, hb⟩ : ∃ b, wordC c = b := ⟨_, rfl⟩
  rw [hx] at HS HW
  rw [hb] at HW ⊢
  clear hx hb hc
  obtain ⟨tx, wd, fg, bg, fl⟩ := c
  unfold Ce.agg Ce.cells at HS
  unfold Ce.agg Ce.cells
  simp only at HS ⊢
  have HBA := hid (below_alloc W (.cells #[.string tx, .int .i64 wd, .int .i64 fg, .int .i64 bg, .int .i64 fl] 44))
  by_cases h : x = ⟨#[32]⟩
  · subst h
    have HB : Hid (b = false) := by unfold Hid; rw [← HW.out]; decide
    go_enter Tryd.func26, Tryd.ntmps26
    go_wp2_with (refine (HS.out _).mono ?_; rintro e w1 ⟨rfl, hb⟩)
    go_ret
    exact ⟨ret_bool HB.out.symm, HBA.out.trans (hb.mono HBA.out.size)⟩
  · have HB : Hid (b = true) := by unfold Hid; rw [← HW.out]; exact decide_eq_true h
    have HE : (x.toList == [32]) = false := by
      have : (x.toList == (⟨#[32]⟩ : ByteArray).toList) = false := by rw [beq_str]; exact decide_eq_false h
      rw [ByteArray.toList_eq ⟨#[32]⟩] at this
      exact this
    clear h
    go_enter Tryd.func26, Tryd.ntmps26
    go_wp2_with (refine (HS.out _).mono ?_; rintro e w1 ⟨rfl, hb⟩)
    go_ret
    exact ⟨ret_bool HB.out.symm, HBA.out.trans (hb.mono HBA.out.size)⟩
theorem sayT_step {l : List Ce} {k : Nat} {c : Ce} (h : l[k]? = some c) : sayCs (l.take (k + 1)) = sayCs (l.take k) ++ sayC c := by
  rw [List.take_add_one, h, sayCs_append]
  rfl
theorem builder_below {B b : Nat} {bs : List Value} {X Y : World} (h : Lib.IsBuilder 83 5 B b bs X) (hb : Below X.heap.size X Y) : Lib.IsBuilder 83 5 B b bs Y :=
  builder_own (β := Unit) B b (fun _ => bs) () X Y none h ⟨hb.os, hb.tape, hb.output, hb.size, fun k hk _ => hb.block k hk⟩ (fun r e => by cases e)
set_option maxRecDepth 100000 in
set_option maxHeartbeats 2000000 in
theorem fsaid_any (v : Value) (l : List Ce) (W : World) (hr : CeRow W v l) (hc : ∀ c ∈ l, rightB c = true ∧ c.tx.size ≤ 1000) (hm : l.length ≤ 100000) :
    Calls Tryd.prog 40 #[v] W fun e w' => e = .returned (.string (endB (sayCs l))) ∧ Below W.heap.size W w' := by
  obtain ⟨A, cap, rfl⟩ := hr.spell
  obtain ⟨n, hnn⟩ : ∃ n, l.length = n := ⟨_, rfl⟩
  have hsz := sayCs_size (l := l) (fun c h => (hc c h).2)
  have htr := bare_trim (sayCs l)
  rw [hnn] at hr hm hsz ⊢
  have HR := hid hr
  have HN := hid hnn
  have HC := hid hc
  have HSZ := hid hsz
  have HTR := hid htr
  have HB0 : Hid (Lib.IsBuilder 83 5 W.heap.size W.heap.size [] (W.alloc (.cells #[.pointer none, .slice none 0 0] 83))) := Lib.fresh_isBuilder _ _ _
  clear hr hnn hc hsz htr
  go_enter Tryd.func40, Tryd.ntmps40
  go_wp2
  go_loopw [8] (fun i wr => ∃ k : Nat, k ≤ n ∧ i = .int .i64 k ∧ Lib.IsBuilder 83 5 W.heap.size W.heap.size (Lib.strCells (sayCs (l.take k))) wr ∧ Below W.heap.size W wr) (fun i _ => n - (intOf i).toNat)
  case atStart => exact ⟨0, by omega, rfl, HB0.out, below_alloc _ _⟩
  case round =>
    obtain ⟨k, hk, rfl, hbd, hb⟩ := hrel
    by_cases hlt : k < n
    · have hki : (k : Int) < n := by omega
      have hkb : (k : Int) ≤ 100000 := by omega
      obtain ⟨g, o, c, eg, hg, hx, hcell⟩ := row_cells HR.out HN.out k hlt
      subst eg
      obtain ⟨p0, p1, p2, p3, p4⟩ := ccells (W := wr) (g := g) (o := o + k * 5) (e := c) (fun i u hu => hcell _ hb i u hu)
      obtain ⟨hcr, hct⟩ := HC.out c (List.mem_of_getElem? hx)
      have hzk := sayCs_size (l := l.take k) (fun c h => (HC.out c (List.mem_of_mem_take h)).2)
      rw [List.length_take, HN.out] at hzk
      have hzc := sayC_size hct
      have hzt : (sayCs (l.take k)).size ≤ 100100000 := by
        have : min k n * 1001 ≤ 100000 * 1001 := Nat.mul_le_mul_right _ (by omega)
        omega
      have HST := hid (sayT_step hx)
      have hba := below_alloc wr (.cells #[.string c.tx, .int .i64 c.wd, .int .i64 c.fg, .int .i64 c.bg, .int .i64 c.fl] 44)
      have HSA := hid (says_any c (wr.alloc (.cells #[.string c.tx, .int .i64 c.wd, .int .i64 c.fg, .int .i64 c.bg, .int .i64 c.fl] 44)) hcr)
      have hWS := fun (X : World) (hX : Below wr.heap.size wr X) => writeString_any W.heap.size W.heap.size _ (sayC c) X (builder_below hbd hX) (by rw [Lib.strCells_length]; omega) (Nat.le_trans hb.size hX.size)
      have HWS := hid hWS
      have HBA := hid hba
      have HB := hid hb
      obtain ⟨y, hy⟩ : ∃ y, sayC c = y := ⟨_, rfl⟩
      rw [hy] at HSA HWS HST
      clear hx hcell hcr hct hzk hzc hzt hba hWS hb hbd hy
      obtain ⟨tx, wd, fg, bg, fl⟩ := c
      unfold Ce.agg Ce.cells at HSA
      simp only at HSA HBA p0 p1 p2 p3 p4
      go_wp2_with first | (go_at_call 36; refine HSA.out.mono ?_; rintro e w4 ⟨rfl, hb4⟩; have HB4 := hid (HBA.out.trans (hb4.mono HBA.out.size))) | (go_at_call 49; refine (HWS.out _ HB4.out).mono ?_; rintro e w5 ⟨rfl, hb5, hB5, hK5⟩)
      go_roundw
      case rel => exact ⟨k + 1, by omega, by go_num, by rw [HST.out, strCells_append]; exact .inr hb5, HB.out.trans ((HB4.out.mono HB.out.size).trans hB5)⟩
      case measure => simp [intOf]; omega
    · have hkn : k = n := by omega
      subst hkn
      rw [List.take_of_length_le (by rw [HN.out]; omega)] at hbd
      have hst := string_any W.heap.size W.heap.size (sayCs l).data.toList wr hbd hb.size
      have hsp : (⟨(sayCs l).data.toList.toArray⟩ : ByteArray) = sayCs l := rfl
      rw [hsp] at hst
      have HST := hid hst
      have hzl : (sayCs l).size ≤ 9223372036854775807 := by
        have h1 := HSZ.out
        have : k * 1001 ≤ 100000 * 1001 := Nat.mul_le_mul_right _ hm
        omega
      have hTR := fun X => sh_strings_TrimRight_one (sayCs l) 32 (by decide) X hzl
      rw [HTR.out] at hTR
      have HT := hid hTR
      have HB := hid hb
      obtain ⟨y, hy⟩ : ∃ y, sayCs l = y := ⟨_, rfl⟩
      rw [hy] at HST HT
      have HY := hid hy
      clear hbd hst hsp hzl hTR hb hy hlt HSZ HTR
      go_wp2_with first | (go_at_call 51; refine HST.out.mono ?_; rintro e w4 ⟨rfl, hB4, hO4⟩) | (go_at_call 50; refine (HT.out _).mono ?_; rintro e w5 ⟨rfl, rfl⟩)
      go_ret
      exact ⟨ret_str (by rw [HY.out]), HB.out.trans hB4⟩
end Go.Proofs.YteebbmmgbjpihaaDoor

namespace Go.Proofs.YteebbmmgbjpihaaDoor
open Go.RowKit Go.Shelf

set_option maxRecDepth 100000 in
theorem slice_ln_lh {W : World} {A : Option Addr} {n c : Nat} {lv : List (Ln × Value)} (hr : LR W (.slice A n c) lv) (hl : lv.length = n) (l h : Nat) (hi : Int) (hhi : hi = (h : Int)) (hlh : l ≤ h) (hhn : h ≤ n) :
    ∃ A', (∀ w, (Instr.sliceAt 22 (.slice A n c) (some (.int .i64 l)) (some (.int .i64 hi)) none).run Tryd.prog w = .ok (.slice A' (h - l) (c - l)) w) ∧ LR W (.slice A' (h - l) (c - l)) ((lv.drop l).take (h - l)) := by
  have hc : n ≤ c := by obtain ⟨A', c', e, h, _⟩ := hr; cases e; rw [← hl]; exact h
  obtain ⟨A', h1, h2⟩ := hr.part hl l h c hlh hhn (by omega)
  subst hhi
  refine ⟨A', fun w => ?_, h2⟩
  rw [run_sliceAt_slice w _ _ _ _ _ Tryd.underlying22, run_slice_lh w 22 A n c Tryd.underlying22 .i64 .i64 l h (by omega) (by omega) (by omega), ln_cells]
  simp only [Result.andThen, Int.toNat_natCast]
  rw [h1]
theorem lens_le {l : List ByteArray} {M : Nat} (h : ∀ x ∈ l, x.size ≤ M) : Lib.lens (l.map (·.data.toList)) ≤ l.length * M := by
  induction l with
  | nil => simp [Lib.lens]
  | cons x r ih =>
    have h1 := ih (fun y hy => h y (List.mem_cons_of_mem _ hy))
    have h2 := h x (by simp)
    rw [Lib.size_eq] at h2
    have e : Lib.lens ((x :: r).map (·.data.toList)) = x.data.toList.length + Lib.lens (r.map (·.data.toList)) := by simp [Lib.lens]
    rw [e, List.length_cons, Nat.succ_mul]
    omega
/-- strings.Join of a row of one's own, with a byte 10 between. -/
theorem fjoin_any {base : Nat} {v : Value} {l : List ByteArray} (W : World) (h : OwnS W base v l) (hne : l ≠ []) (hn : l.length ≤ 1000) (hs : ∀ x ∈ l, x.size ≤ 100000000) :
    Calls Tryd.prog 41 #[v, .string ⟨#[10]⟩] W fun e w' => e = .returned (.string (joinN l)) ∧ Below W.heap.size W w' := by
  obtain ⟨g, c, rfl, hg, hcell⟩ := h.row hne
  have hcap : l.length ≤ c := by
    rcases h.2 with ⟨e, _⟩ | ⟨g', cap, cur, e, _, _, hcap, _⟩
    · cases e
    · cases e; exact hcap
  have hlen : (Lib.join (l.map (·.data.toList)) (⟨#[10]⟩ : ByteArray).data.toList).length ≤ 140737488355328 := by
    obtain ⟨x, r, rfl⟩ := List.exists_cons_of_ne_nil hne
    have h1 := Lib.join_length x.data.toList (r.map (·.data.toList)) (⟨#[10]⟩ : ByteArray).data.toList
    have h2 := lens_le hs
    simp only [List.map_cons] at h1 h2 ⊢
    rw [h1, List.length_map]
    have h3 : (⟨#[10]⟩ : ByteArray).data.toList.length = 1 := rfl
    rw [h3]
    have h4 : (x :: r).length * 100000000 ≤ 1000 * 100000000 := Nat.mul_le_mul_right _ hn
    simp only [List.length_cons] at hn h4 h2
    omega
  have := sh_strings_Join g 0 c l ⟨#[10]⟩ W (fun j x hx => by rw [Nat.zero_add]; exact hcell j x hx) hg (by omega) hcap hlen
  rw [join_lib] at this
  exact this
theorem segB_is (cs : List Ce) {left right p q : Nat} (hp : p = min cs.length (right + 1)) (hq : q = min p left) : segB cs left right = (cs.take p).drop q := by
  unfold segB
  have e : cs.take (right + 1) = cs.take p := by
    rcases Nat.lt_or_ge cs.length (right + 1) with h | h
    · rw [List.take_of_length_le (by omega), List.take_of_length_le (by omega)]
    · rw [show p = right + 1 by omega]
  rw [e]
  rcases Nat.lt_or_ge p left with h | h
  · have hl : (cs.take p).length ≤ p := by rw [List.length_take]; omega
    rw [List.drop_of_length_le (by omega), List.drop_of_length_le (by omega)]
  · rw [show q = left by omega]
theorem bkS_length {ls : List Ln} {top left right k : Nat} (h : top + k ≤ ls.length) : (bkS ls top left right k).length = k := by
  unfold bkS
  rw [List.length_map, List.length_take, List.length_drop]
  omega
theorem endB_say {l : List Ce} (h : ∀ c ∈ l, c.tx.size ≤ 1000) (hl : l.length ≤ 90000) : (endB (sayCs l)).size ≤ 100000000 := by
  have h1 := endB_size (sayCs l)
  have h2 := sayCs_size h
  have h3 : l.length * 1001 ≤ 90000 * 1001 := Nat.mul_le_mul_right _ hl
  omega
theorem bkS_mem {ls : List Ln} (hok : ∀ l ∈ ls, okR l.cs = true ∧ (∀ c ∈ l.cs, c.tx.size ≤ 1000) ∧ 1 ≤ l.cs.length ∧ l.cs.length ≤ 80) {top left right k : Nat} : ∀ x ∈ bkS ls top left right k, x.size ≤ 100000000 := by
  intro x hx
  unfold bkS at hx
  obtain ⟨l, hl, rfl⟩ := List.mem_map.1 hx
  obtain ⟨_, h2, _, h4⟩ := hok l (List.drop_subset _ _ (List.take_subset _ _ hl))
  refine endB_say (fun c hc => h2 c (List.take_subset _ _ (List.drop_subset _ _ hc))) ?_
  unfold segB
  rw [List.length_drop, List.length_take]
  omega
/-- Two places in their boxes, and texts of one's own. -/
structure WRel (W X : World) (ar ac br bc : Nat) (tv : Value) (ts : List ByteArray) : Prop where
  hb : Below W.heap.size W X
  b0 : Box X W.heap.size 50 #[.int .i64 ar, .int .i64 ac]
  b1 : Box X (W.heap.size + 1) 50 #[.int .i64 br, .int .i64 bc]
  tx : OwnS X W.heap.size tv ts
theorem WRel.below {W X Y : World} {ar ac br bc : Nat} {tv : Value} {ts : List ByteArray} (h : WRel W X ar ac br bc tv ts) (hb : Below X.heap.size X Y) : WRel W Y ar ac br bc tv ts :=
  ⟨h.hb.trans (hb.mono h.hb.size), h.b0.below hb h.b0.lt, h.b1.below hb h.b1.lt, h.tx.kept hb⟩
theorem WRel.more {W X Y : World} {ar ac br bc : Nat} {tv tv' : Value} {ts ts' : List ByteArray} (h : WRel W X ar ac br bc tv ts) (h1 : OwnS Y W.heap.size tv' ts') (hg : X.grownBy Y tv.ownBlock) : WRel W Y ar ac br bc tv' ts' :=
  ⟨h.hb.grown hg h.hb.size (fun q hq => (World.ownsRow.lt h.tx q hq).1), h.b0.grown hg (h.tx.not_box h.b0 (by decide)), h.b1.grown hg (h.tx.not_box h.b1 (by decide)), h1⟩
set_option maxRecDepth 100000 in
set_option maxHeartbeats 4000000 in
theorem bwithin_any (v : Value) (lv : List (Ln × Value)) (ar ac br bc : Nat) (W : World) (hf : Fl W v lv) (hk : keptB lv = true) (ha : (ar, ac) ∈ placesP (lv.map Prod.fst)) (hb : (br, bc) ∈ placesP (lv.map Prod.fst)) :
    Calls Tryd.prog 23 #[v, .agg #[.int .i64 ar, .int .i64 ac], .agg #[.int .i64 br, .int .i64 bc]] W fun e w' => e = .returned (.string (bkT (lv.map Prod.fst) (ar, ac) (br, bc))) ∧ Below W.heap.size W w' := by
  have hok := kept_ok hf.sm hk
  have h1 := (inP_iff.1 (inP_nat.2 ha)).1.2
  have h2 := (inP_iff.1 (inP_nat.2 hb)).1.2
  have h3 := places_mem.1 ha
  have h4 := places_mem.1 hb
  simp only [toI, List.length_map] at h1 h2 h3 h4
  have hcol : ∀ r, lenP (lv.map Prod.fst) r ≤ 80 := fun r => by
    unfold lenP
    split
    · rename_i l hl; exact (hok l (List.mem_of_getElem? hl)).2.2.2
    · omega
  have h5 := hcol ar
  have h6 := hcol br
  have hn := hf.n
  unfold bkT
  simp only
  obtain ⟨top, htop⟩ : ∃ top, min ar br = top := ⟨_, rfl⟩
  obtain ⟨bot, hbot⟩ : ∃ bot, max ar br = bot := ⟨_, rfl⟩
  obtain ⟨left, hleft⟩ : ∃ left, min ac bc = left := ⟨_, rfl⟩
  obtain ⟨right, hright⟩ : ∃ right, max ac bc = right := ⟨_, rfl⟩
  obtain ⟨N, hN⟩ : ∃ N, bot + 1 - top = N := ⟨_, rfl⟩
  rw [htop, hbot, hleft, hright, hN]
  obtain ⟨A, cap, rfl⟩ := hf.lr.spell
  obtain ⟨n, hnn⟩ : ∃ n, lv.length = n := ⟨_, rfl⟩
  have hlr := hf.lr
  rw [hnn] at hlr h1 h2 hn ⊢
  obtain ⟨A', hsl, hlr'⟩ := slice_ln_lh hlr hnn top (bot + 1) ((bot : Int) + 1) (by omega) (by omega) (by omega)
  rw [hN] at hsl hlr'
  have m1 : min (ar : Int) (br : Int) = (top : Int) := by omega
  have m2 : max (ar : Int) (br : Int) = (bot : Int) := by omega
  have m3 : max (ac : Int) (bc : Int) = (right : Int) := by omega
  have hst : WRel W ((W.alloc (.cells #[.int .i64 ar, .int .i64 ac] 50)).alloc (.cells #[.int .i64 br, .int .i64 bc] 50)) ar ac br bc (.slice none 0 0) (bkS (lv.map Prod.fst) top left right 0) := by
    refine ⟨(below_alloc _ _).alloc (by simp) _, (Box.new _ _ _).alloc _, ?_, OwnS.nil _ _⟩
    have := Box.new (W.alloc (.cells #[.int .i64 ar, .int .i64 ac] 50)) 50 #[.int .i64 br, .int .i64 bc]
    rwa [World.size_alloc] at this
  have HST := hid hst
  have HOK := hid hok
  have HLR := hid hlr'
  have HCE := hid hf.ces
  have HSL := hid (show top + N ≤ (lv.map Prod.fst).length by rw [List.length_map, hnn]; omega)
  have hN200 : N ≤ 200 := by omega
  have hN1 : 1 ≤ N := by omega
  have hLt : ((lv.drop top).take N).length = N := by rw [List.length_take, List.length_drop, hnn]; omega
  have hrb : right ≤ 80 := by omega
  have hlb : left ≤ 80 := by omega
  have hacb : (ac : Int) ≤ 80 := by omega
  have hbcb : (bc : Int) ≤ 80 := by omega
  have HLT := hid hLt
  clear hst hok hlr' hf hk ha hb h3 h4 hcol h5 h6 hlr hLt
  go_enter Tryd.func23, Tryd.ntmps23
  have k0 := HST.out.b0.two.1.1
  have k1 := HST.out.b1.two.1.1
  go_wp2
  clear k0 k1
  go_loopw [7, 25] (fun tv i wr => ∃ k : Nat, k ≤ N ∧ i = .int .i64 k ∧ WRel W wr ar ac br bc tv (bkS (lv.map Prod.fst) top left right k)) (fun _ i _ => N - (intOf i).toNat)
  case atStart => exact ⟨0, by omega, rfl, HST.out⟩
  case round =>
    obtain ⟨k, hk, rfl, hw⟩ := hrel
    obtain ⟨tA, tc, htv⟩ := hw.tx.spell
    have hlk := bkS_length (ls := lv.map Prod.fst) (top := top) (left := left) (right := right) (k := k) (by have := HSL.out; omega)
    rw [hlk] at htv
    subst htv
    by_cases hlt : k < N
    · have hki : (k : Int) < N := by omega
      have hkb : (k : Int) ≤ 200 := by omega
      obtain ⟨g, o, e, eA, hg, he, hcell⟩ := lr_at HLR.out HLT.out k hlt
      subst eA
      obtain ⟨p0, p1⟩ := hcell wr hw.hb
      have hel : lv[top + k]? = some e := by
        rw [List.getElem?_take, if_pos hlt, List.getElem?_drop] at he
        exact he
      have hxl : (lv.map Prod.fst)[top + k]? = some e.1 := by rw [List.getElem?_map, hel]; rfl
      have HBS := hid (bkS_step (top := top) (left := left) (right := right) hxl)
      obtain ⟨q1, q2, q3, q4⟩ := HOK.out e.1 (List.mem_of_getElem? hxl)
      have hce := (HCE.out e (List.mem_of_getElem? hel)).below hw.hb
      obtain ⟨⟨cs, soft⟩, cv⟩ := e
      simp only at p0 p1 q1 q2 q3 q4 hce HBS
      obtain ⟨cA, cc, rfl⟩ := hce.spell
      obtain ⟨m, hm⟩ : ∃ m, cs.length = m := ⟨_, rfl⟩
      have hcap : m ≤ cc := by
        obtain ⟨A', c', e', hcap, _⟩ := hce
        rw [hm] at e' hcap
        cases e'
        exact hcap
      obtain ⟨p, hp⟩ : ∃ p, min m (right + 1) = p := ⟨_, rfl⟩
      obtain ⟨q, hq⟩ : ∃ q, min p left = q := ⟨_, rfl⟩
      rw [hm] at p0 hce q3 q4
      obtain ⟨A1, hs1, hr1⟩ := slice_ce_h8 hce hm p (by omega)
      have hl1 : (cs.take p).length = p := by rw [List.length_take]; omega
      obtain ⟨A2, hs2, hr2⟩ := slice_ce_l hr1 hl1 q (by omega)
      have hsb : segB cs left right = (cs.take p).drop q := segB_is cs (by rw [hm]; exact hp.symm) hq.symm
      have hmin1 : min (m : Int) ((right : Int) + 1) = (p : Int) := by omega
      have hcase : ((ac : Int) < p ∧ (bc : Int) < ac ∧ q = bc) ∨ ((ac : Int) < p ∧ ¬ (bc : Int) < ac ∧ q = ac) ∨ (¬ (ac : Int) < p ∧ (bc : Int) < p ∧ q = bc) ∨ (¬ (ac : Int) < p ∧ ¬ (bc : Int) < p ∧ q = p) := by omega
      have hpm : (p : Int) ≤ m := by omega
      have hpmn : p ≤ m := by omega
      have hqp : (q : Int) ≤ p := by omega
      have hqpn : q ≤ p := by omega
      have hp0 : (0 : Int) ≤ p := by omega
      have hq0 : (0 : Int) ≤ q := by omega
      have hpc : (p : Int) ≤ cc := by omega
      have hdl : ((cs.take p).drop q).length ≤ 80 := by rw [List.length_drop, List.length_take]; omega
      have hsa := fun (X : World) (hX : Below wr.heap.size wr X) => fsaid_any (.slice A2 (p - q) (cc - q)) ((cs.take p).drop q) X (hr2.below hX) (fun c hc => ⟨rights_iff.1 (okR_iff.1 q1).1 c (List.take_subset _ _ (List.drop_subset _ _ hc)), q2 c (List.take_subset _ _ (List.drop_subset _ _ hc))⟩) (by omega)
      rw [← hsb] at hsa
      obtain ⟨y, hy⟩ : ∃ y, endB (sayCs (segB cs left right)) = y := ⟨_, rfl⟩
      rw [hy] at hsa HBS
      have HSA := hid hsa
      have HW := hid hw
      have HLK := hid hlk
      have hba := below_alloc wr (.cells #[.slice cA m cc, .bool soft] 39)
      have HBA := hid hba
      have hw2 := hw.below hba
      obtain ⟨⟨x0, x1⟩, _⟩ := hw.b0.two
      obtain ⟨⟨x2, x3⟩, _⟩ := hw.b1.two
      have z1 := hw2.b0.two.1.2
      have z3 := hw2.b1.two.1.2
      clear hcell he hel hxl hce hcap hp hq hr1 hl1 hr2 hsb hdl hsa hy q1 q2 hw hlk hba hw2
      rcases hcase with ⟨c1, c2, rfl⟩ | ⟨c1, c2, rfl⟩ | ⟨c1, c2, rfl⟩ | ⟨c1, c2, rfl⟩
      rotate_left 3
      · rw [Nat.sub_self] at HSA hs2
        have c3 : (q : Int) ≤ ac := by omega
        have c4 : (q : Int) ≤ bc := by omega
        go_wp2_with first
          | (go_at_call 40; refine (HSA.out _ HBA.out).mono ?_; rintro e5 w5 ⟨rfl, hb5⟩; have HW5 := hid (HW.out.below (HBA.out.trans (hb5.mono HBA.out.size))); have HO5 := hid (HW5.out.tx.kept (below_alloc w5 (.cells #[.string y] 9))))
          | (at_builtin; refine wpList_append_strs rfl _ _ rfl W.heap.size _ _ rfl HO5.out [y] ⟨w5.heap.size, 0, none⟩ 1 1 rfl rfl (slit_at (l := [.string y]) (Box.new w5 _ _)) (by rw [HLK.out]; omega) (by have := HW5.out.hb.size; simp; omega) ?_; intro v7 w7 g1 g2; obtain ⟨A7, c7, hv7⟩ := g1.spell; rw [List.length_append, HLK.out, List.length_singleton] at hv7; subst hv7; have G1 := hid g1; have G2 := hid g2; clear g1 g2)
        go_roundw
        case rel => exact ⟨k + 1, by omega, by go_num, by rw [HBS.out]; exact (HW5.out.below (below_alloc _ _)).more G1.out G2.out⟩
        case measure => simp [intOf]; omega
      all_goals
        go_wp2_with first
          | (go_at_call 40; refine (HSA.out _ HBA.out).mono ?_; rintro e5 w5 ⟨rfl, hb5⟩; have HW5 := hid (HW.out.below (HBA.out.trans (hb5.mono HBA.out.size))); have HO5 := hid (HW5.out.tx.kept (below_alloc w5 (.cells #[.string y] 9))))
          | (at_builtin; refine wpList_append_strs rfl _ _ rfl W.heap.size _ _ rfl HO5.out [y] ⟨w5.heap.size, 0, none⟩ 1 1 rfl rfl (slit_at (l := [.string y]) (Box.new w5 _ _)) (by rw [HLK.out]; omega) (by have := HW5.out.hb.size; simp; omega) ?_; intro v7 w7 g1 g2; obtain ⟨A7, c7, hv7⟩ := g1.spell; rw [List.length_append, HLK.out, List.length_singleton] at hv7; subst hv7; have G1 := hid g1; have G2 := hid g2; clear g1 g2)
        go_roundw
        case rel => exact ⟨k + 1, by omega, by go_num, by rw [HBS.out]; exact (HW5.out.below (below_alloc _ _)).more G1.out G2.out⟩
        case measure => simp [intOf]; omega
    · have hkn : k = N := by omega
      subst hkn
      have HJ := hid (fjoin_any wr hw.tx (by intro e; rw [e] at hlk; simp at hlk; omega) (by rw [hlk]; omega) (bkS_mem HOK.out))
      have HB := hid hw.hb
      clear hw hlk hlt
      go_wp2_with (refine HJ.out.mono ?_; rintro e w4 ⟨rfl, hb4⟩)
      go_ret
      exact ⟨rfl, HB.out.trans (hb4.mono HB.out.size)⟩
end Go.Proofs.YteebbmmgbjpihaaDoor
