/- Layer 8, the statements' helpers: a long row in two lines. -/
/- Layer 8, what the laws want. Made by wip/gen/flowJn.py. -/
/- The law FlowTurns, walked. -/
import Derived.Test.YtkejoknphnkhnaaDoorFlowLaQ
import Derived.Test.YtkejoknphnkhnaaDoorFlowTpQ
import Derived.Deep.DeepCutAuto
import Derived.BigQuiet
namespace Go.Proofs.YtkejoknphnkhnaaDoor
open Go.RowKit

def a8C (b : UInt8) : Ce := ⟨⟨#[b]⟩, 1, 0, 0, 0⟩
def abc : List Ce := [a8C 97, a8C 98, a8C 99]
theorem abc_ok : okR abc = true := by decide +kernel
theorem abc_fold : foldP 2 abc = [⟨[a8C 97, a8C 98], true⟩, ⟨[a8C 99, b0C], false⟩] := by rfl
theorem abc_join : (joinP [⟨[a8C 97, a8C 98], true⟩, ⟨[a8C 99, b0C], false⟩]).map sayP = [⟨#[97, 98, 99]⟩] := by decide +kernel
theorem abc_tx : (∀ c ∈ [a8C 97, a8C 98], c.tx.size ≤ 1000) ∧ ∀ c ∈ [a8C 99, b0C], c.tx.size ≤ 1000 := by decide
theorem abc_fits : fitsB 2 [a8C 97, a8C 98] = true ∧ fitsB 2 [a8C 99, b0C] = true := by decide +kernel
set_option maxRecDepth 100000 in
set_option maxHeartbeats 1000000 in
theorem flAlive (W : World) (hT : Tab W) (hW : TabW W) : Calls Tryd.prog 26 #[] W fun e w' => e = .returned (.bool true) ∧ Below W.heap.size W w' := by
  have hlit := (OwnC.lit (W := W) (base := 0) abc (by decide) (Nat.zero_le _)).csl.row
  have hb1 := below_alloc W (.cells (cflat abc).toArray 66)
  have hfold := fold_out (.slice (some ⟨W.heap.size, 0, none⟩) 3 3) abc 2 _ hlit (by decide) (by decide) (hT.below hb1) (hW.below hb1)
  rw [show (colsB 2 && okR abc) = true by rw [abc_ok]; rfl, show (2 : Int).toNat = 2 from rfl, abc_fold] at hfold
  have hfold : Calls Tryd.prog 31 #[.slice (some ⟨W.heap.size, 0, none⟩) 3 3, .int .i64 2] (W.alloc (.cells #[.string ⟨#[97]⟩, .int .i64 1, .int .i64 0, .int .i64 0, .int .i64 0, .string ⟨#[98]⟩, .int .i64 1, .int .i64 0, .int .i64 0, .int .i64 0, .string ⟨#[99]⟩, .int .i64 1, .int .i64 0, .int .i64 0, .int .i64 0] 66)) (FOut (W.alloc (.cells #[.string ⟨#[97]⟩, .int .i64 1, .int .i64 0, .int .i64 0, .int .i64 0, .string ⟨#[98]⟩, .int .i64 1, .int .i64 0, .int .i64 0, .int .i64 0, .string ⟨#[99]⟩, .int .i64 1, .int .i64 0, .int .i64 0, .int .i64 0] 66)) true [⟨[a8C 97, a8C 98], true⟩, ⟨[a8C 99, b0C], false⟩]) := hfold
  have hb1 : Below W.heap.size W (W.alloc (.cells #[.string ⟨#[97]⟩, .int .i64 1, .int .i64 0, .int .i64 0, .int .i64 0, .string ⟨#[98]⟩, .int .i64 1, .int .i64 0, .int .i64 0, .int .i64 0, .string ⟨#[99]⟩, .int .i64 1, .int .i64 0, .int .i64 0, .int .i64 0] 66)) := hb1
  have HF := hid hfold
  have HB := hid hb1
  have HT := hid hT
  have HW := hid hW
  clear hfold hb1 hT hW hlit
  go_enter Tryd.func26, Tryd.ntmps26
  go_wp2_with fail
  with_reducible refine HF.out.mono ?_
  rintro e w2 ⟨A, k, c, n, rfl, hb2, ⟨_, rfl, lv, hlv, hown, hcs⟩ | ⟨h, _⟩⟩
  rotate_left
  · cases h
  dsimp only
  have hB2 := HB.out.trans (hb2.mono HB.out.size)
  obtain ⟨v0, v1, rfl⟩ : ∃ v0 v1, lv = [(⟨[a8C 97, a8C 98], true⟩, v0), (⟨[a8C 99, b0C], false⟩, v1)] := by
    rcases lv with _ | ⟨⟨a0, v0⟩, _ | ⟨⟨a1, v1⟩, _ | ⟨_, _⟩⟩⟩ <;> simp at hlv
    obtain ⟨rfl, rfl⟩ := hlv
    exact ⟨_, _, rfl⟩
  have hk : k = 2 := by
    obtain ⟨A', c', e⟩ := hown.spell
    cases e
    rfl
  subst hk
  have hsm : Sm [((⟨[a8C 97, a8C 98], true⟩ : Ln), v0), (⟨[a8C 99, b0C], false⟩, v1)] := ⟨by simp, fun e he => by
    simp only [List.mem_cons, List.mem_nil_iff, or_false] at he
    rcases he with rfl | rfl
    · exact ⟨by simp, abc_tx.1⟩
    · exact ⟨by simp, abc_tx.2⟩⟩
  have hkp : keptB [((⟨[a8C 97, a8C 98], true⟩ : Ln), v0), (⟨[a8C 99, b0C], false⟩, v1)] = true := by rfl
  have hfl : Fl w2 (.slice A 2 c) [((⟨[a8C 97, a8C 98], true⟩ : Ln), v0), (⟨[a8C 99, b0C], false⟩, v1)] := ⟨hown.lsl.row, fun e he => (hcs e he).row, hsm, by simp, fun e he => (by
    simp only [List.mem_cons, List.mem_nil_iff, or_false] at he
    rcases he with rfl | rfl <;> simp)⟩
  have hlet := letters_out _ _ w2 hfl (HT.out.below hB2) (HW.out.below hB2)
  rw [hkp, hlv, abc_join] at hlet
  obtain ⟨A', c', e, _, hcell⟩ := hown.lsl.row
  obtain ⟨g, o, e2, hg, hcell⟩ := hcell (by simp)
  obtain rfl : A = some ⟨g, o, none⟩ := by rw [← e2]; injection e
  obtain ⟨_, q0⟩ := hcell 0 _ rfl
  obtain ⟨_, q1⟩ := hcell 1 _ rfl
  simp only at q0 q1
  have HQ0 := hid q0
  have HQ1 := hid q1
  have HL := hid hlet
  have HB2 := hid hB2
  clear q0 q1 hlet hB2 hcell hsm hkp hfl hown hcs hlv e e2 hb2 HF
  go_wp2_with fail
  with_reducible refine HL.out.mono ?_
  rintro e w3 ⟨A3, k3, c3, n3, rfl, hb3, ⟨_, rfl, hS⟩ | ⟨h, _⟩⟩
  rotate_left
  · cases h
  dsimp only
  obtain ⟨g3, cc3, e3, hg3, hS3⟩ := hS.row (by simp)
  cases e3
  have r0 := hS3 0 _ rfl
  have q0 := (hb3.cell (p := ⟨g, o + 0 * 2 + 1, none⟩) hg).trans HQ0.out
  have q1 := (hb3.cell (p := ⟨g, o + 1 * 2 + 1, none⟩) hg).trans HQ1.out
  simp only [Nat.zero_mul, Nat.add_zero, Nat.one_mul] at q0 q1
  have hg' : g < w3.heap.size := Nat.lt_of_lt_of_le hg hb3.size
  have HB3 := hid (HB2.out.trans (hb3.mono HB2.out.size))
  clear hS hS3 HL hb3 HQ0 HQ1
  go_wp2
  go_ret
  exact ⟨rfl, HB3.out⟩
end Go.Proofs.YtkejoknphnkhnaaDoor

namespace Go.Proofs.YtkejoknphnkhnaaDoor
open Go.RowKit

theorem takeN_mem {ls : List Ln} {m : Nat} {x : Ln} (h : x ∈ takeN ls m) : ∃ y, x = cutN y := by
  unfold takeN at h
  obtain ⟨y, _, rfl⟩ := List.mem_map.1 h
  exact ⟨y, rfl⟩
/-- Few lines, cut short. -/
theorem few_fl {W : World} {base : Nat} {v : Value} {lv : List (Ln × Value)} {ls : List Ln} (h : lv.map Prod.fst = takeN ls 30) (hl : LSl W base v lv) (hc : ∀ x ∈ lv, CSl W base x.2 x.1.cs) : Fl W v lv := by
  have hn : lv.length ≤ 30 := by
    have := congrArg List.length h
    unfold takeN at this
    rw [List.length_map, List.length_map, List.length_take] at this
    omega
  have hx : ∀ e ∈ lv, ∃ y, e.1 = cutN y := fun e he => takeN_mem (by rw [← h]; exact List.mem_map.2 ⟨e, he, rfl⟩)
  have h82 : ∀ e ∈ lv, e.1.cs.length ≤ 82 ∧ ∀ c ∈ e.1.cs, c.tx.size ≤ 20 := fun e he => by
    obtain ⟨y, hy⟩ := hx e he
    rw [hy]
    exact ⟨by show (lineG y.cs).length ≤ 82; rw [lineG_length]; omega, lineG_size⟩
  exact ⟨hl.row, fun e he => (hc e he).row, ⟨by omega, fun e he => ⟨by have := (h82 e he).1; omega, fun c hcc => by have := (h82 e he).2 c hcc; omega⟩⟩, by omega, fun e he => by have := (h82 e he).1; omega⟩
theorem Fl.may {W : World} {v : Value} {lv : List (Ln × Value)} (h : Fl W v lv) : mayLs lv = keptB lv := by unfold mayLs; rw [decide_eq_true h.n, Bool.and_true]
theorem le_sumL {r : List Ce} : ∀ {rs : List (List Ce)}, r ∈ rs → r.length ≤ sumL rs
  | x :: l, h => by
    have e : sumL (x :: l) = x.length + sumL l := by unfold sumL; simp
    rcases List.mem_cons.1 h with rfl | h
    · omega
    · have := le_sumL h
      omega
set_option maxRecDepth 100000 in
theorem lSame_any (v1 v2 : Value) (l : List Ce) (W : World) (h1 : CeRow W v1 l) (h2 : CeRow W v2 l) (n1 : l.length ≤ 1000000) :
    Calls Tryd.prog 28 #[v1, v2] W fun e w' => e = .returned (.bool true) ∧ Below W.heap.size W w' := by
  have hS := rSameLine_eq v1 v2 false l W h1 h2 n1
  obtain ⟨A1, c1, rfl⟩ := h1.spell
  obtain ⟨A2, c2, rfl⟩ := h2.spell
  obtain ⟨n, hn⟩ : ∃ n, l.length = n := ⟨_, rfl⟩
  rw [hn] at hS ⊢
  have HS := hid hS
  clear hS h1 h2 n1 hn
  go_enter Tryd.func28, Tryd.ntmps28
  go_wp2_with fail
  with_reducible refine HS.out.mono ?_
  rintro e w1 ⟨rfl, hb⟩
  dsimp only
  go_wp2
  go_ret
  exact ⟨rfl, hb⟩
/-- The reads of such rows. -/
theorem OwnR.at {W : World} {base : Nat} {A : Option Addr} {n c : Nat} {rv : List (List Ce × Value)} (h : OwnR W base (.slice A n c) rv) : n = rv.length ∧ (rv ≠ [] → ∃ g o, A = some ⟨g, o, none⟩ ∧ g < W.heap.size ∧ ∀ j e, rv[j]? = some e → W.cell? ⟨g, o + j, none⟩ = some e.2) := by
  obtain ⟨A', c', e, _, hcell⟩ := h.row
  cases e
  exact ⟨rfl, hcell⟩
theorem OwnS.at {W : World} {base : Nat} {A : Option Addr} {n c : Nat} {l : List ByteArray} (h : OwnS W base (.slice A n c) l) : n = l.length ∧ (l ≠ [] → ∃ g, A = some ⟨g, 0, none⟩ ∧ g < W.heap.size ∧ ∀ j x, l[j]? = some x → W.cell? ⟨g, j, none⟩ = some (.string x)) := by
  obtain ⟨A', c', e, hcell⟩ := h.any
  cases e
  exact ⟨rfl, hcell⟩
theorem OwnS.below {W W' : World} {base : Nat} {v : Value} {l : List ByteArray} (h : OwnS W base v l) (hb : Below W.heap.size W W') : OwnS W' base v l := h.kept hb
end Go.Proofs.YtkejoknphnkhnaaDoor

namespace Go.Proofs.YtkejoknphnkhnaaDoor
open Go.RowKit

theorem tmod_20 (c : Int) : -20 < c.tmod 20 ∧ c.tmod 20 < 20 := by
  rcases Int.le_total 0 c with h | h
  · rw [Int.tmod_eq_emod_of_nonneg h]; omega
  · obtain ⟨d, rfl⟩ : ∃ d, c = -d := ⟨-c, by omega⟩
    rw [Int.neg_tmod, Int.tmod_eq_emod_of_nonneg (by omega)]; omega
theorem c20_facts (c : Int) : ∃ C : Nat, wrap64 (1 + (wrap64 (c.tmod 20 + 20)).tmod 20) = C ∧ 1 ≤ C ∧ C ≤ 20 := by
  have h := tmod_20 c
  have hw : wrap64 (c.tmod 20 + 20) = c.tmod 20 + 20 := by unfold wrap64; omega
  obtain ⟨d, hd⟩ : ∃ d : Nat, (c.tmod 20 + 20) % 20 = d := ⟨((c.tmod 20 + 20) % 20).toNat, by omega⟩
  refine ⟨d + 1, ?_, by omega, by omega⟩
  rw [hw, Int.tmod_eq_emod_of_nonneg (by omega), hd]
  unfold wrap64
  omega
theorem one_lines {W : World} {v : Value} {lv : List (Ln × Value)} (h : Fl W v lv) (hk : keptB lv = true) (h1 : ∀ e ∈ lv, ∀ c ∈ e.1.cs, c.wd = 1) : ∀ l ∈ lv.map Prod.fst, Ones l.cs := fun l hl c hc => by
  obtain ⟨a, b, _⟩ := kept_ok h.sm hk l hl
  obtain ⟨e, he, rfl⟩ := List.mem_map.1 hl
  exact ⟨rights_iff.1 (okR_iff.1 a).1 c hc, h1 e he c hc, b c hc⟩
/-- Lines that flowed may flow on. -/
theorem flow_fl {W : World} {base C : Nat} {v : Value} {lv : List (Ln × Value)} {ls : List Ln} (h : ∀ l ∈ ls, Ones l.cs) (hC : 1 ≤ C) (hC2 : C ≤ 80) (hm : lv.map Prod.fst = flowP C ls) (hl : LSl W base v lv) (hc : ∀ x ∈ lv, CSl W base x.2 x.1.cs) (hn : lv.length ≤ 200) : Fl W v lv ∧ keptB lv = true ∧ ∀ l ∈ lv.map Prod.fst, Ones l.cs := by
  have hf := (flow_joins hC h).2
  have hx : ∀ e ∈ lv, e.1.cs.length = C ∧ Ones e.1.cs := fun e he => hf e.1 (by rw [← hm]; exact List.mem_map.2 ⟨e, he, rfl⟩)
  refine ⟨⟨hl.row, fun e he => (hc e he).row, ⟨by omega, fun e he => ⟨by rw [(hx e he).1]; omega, fun c hcc => ((hx e he).2 c hcc).2.2⟩⟩, hn, fun e he => by rw [(hx e he).1]; omega⟩, ones_kept hC hC2 hx, fun l hl => ?_⟩
  obtain ⟨e, he, rfl⟩ := List.mem_map.1 hl
  exact (hx e he).2
theorem OwnL.n {W : World} {base : Nat} {A : Option Addr} {n c : Nat} {lv : List (Ln × Value)} (h : OwnL W base (.slice A n c) lv) : n = lv.length := by
  obtain ⟨A', c', e⟩ := h.spell
  cases e
  rfl
theorem colsB_ok {C : Nat} (h : 1 ≤ C) (h2 : C ≤ 20) : colsB (C : Int) = true := decide_eq_true ⟨by omega, by omega⟩

set_option maxRecDepth 100000 in
set_option maxHeartbeats 8000000 in
theorem turns_any (cols other : Int) (v : Value) (lv : List (Ln × Value)) (W : World) (hr : LR W v lv) (hc : CesOf W lv) (hn : (lv.length : Int) ≤ 9223372036854775807)
    (hl : ∀ e ∈ lv, (e.1.cs.length : Int) ≤ 9223372036854775807 ∧ ∀ c ∈ e.1.cs, (c.tx.size : Int) ≤ 9223372036854775807) (hT : Tab W) (hW : TabW W) :
    Calls Tryd.prog 6 #[v, .int .i64 cols, .int .i64 other] W fun e w' => e = .returned (.bool true) ∧ Below W.heap.size W w' := by
  have hfew := few8_any v lv W hr hc hn hl
  obtain ⟨A0, c0, rfl⟩ := hr.spell
  obtain ⟨n0, hn0⟩ : ∃ n0, lv.length = n0 := ⟨_, rfl⟩
  rw [hn0] at hfew ⊢
  obtain ⟨C, hC, hC1, hC2⟩ := c20_facts cols
  obtain ⟨D, hD, hD1, hD2⟩ := c20_facts other
  have HCC := hid hC
  have HDD := hid hD
  have HF := hid hfew
  have HT := hid hT
  have HW := hid hW
  clear hfew hr hc hn hl hT hW hn0 hC hD
  go_enter Tryd.func6, Tryd.ntmps6
  go_wp2_with fail
  with_reducible refine HF.out.mono ?_
  rintro e w1 ⟨v1, lv1, rfl, hm1, hl1, hc1, hb1⟩
  dsimp only
  have hfl := few_fl hm1 hl1 hc1
  obtain ⟨A1, c1, rfl⟩ := hl1.spell
  obtain ⟨n, hn1⟩ : ∃ n, lv1.length = n := ⟨_, rfl⟩
  rw [hn1] at hfl ⊢
  have HN := hid hn1
  have hn30 : n ≤ 200 := by rw [← hn1]; exact hfl.n
  have FL := hid hfl
  have HB := hid hb1
  clear HF hm1 hl1 hc1 hb1 hfl hn1
  go_upto_region 2 with fail
  go_cut [1, 2] (fun a b wx => a = .int .i64 C ∧ b = .int .i64 D ∧ w1 = wx)
  case first =>
    go_wp2_with fail
    go_meet
    exact ⟨by rw [← HCC.out], by rw [← HDD.out], rfl⟩
  case rest =>
    obtain ⟨rfl, rfl, rfl⟩ := hcut
    clear HCC HDD
    go_wp2_with fail
    go_loopw [33] (fun i wr => ∃ k : Nat, k ≤ n ∧ i = .int .i64 k ∧ Below w1.heap.size w1 wr ∧ ∀ e ∈ lv1.take k, ∀ c ∈ e.1.cs, c.wd = 1) (fun i _ => n - (intOf i).toNat)
    case atStart => exact ⟨0, by omega, rfl, Below.refl _ _, fun e he => by simp at he⟩
    case round =>
      obtain ⟨wo, rfl⟩ : ∃ wo : World, wo = wr := ⟨_, rfl⟩
      obtain ⟨k, hk, rfl, hbr, hones⟩ := hrel
      by_cases hlt : k < n
      · have hki : (k : Int) < n := by omega
        obtain ⟨⟨⟨cs, soft⟩, cv⟩, hx⟩ : ∃ e, lv1[k]? = some e := ⟨_, List.getElem?_eq_getElem (by rw [HN.out]; exact hlt)⟩
        obtain ⟨A', c', e, _, hcell⟩ := FL.out.lr
        rw [HN.out] at e
        cases e
        obtain ⟨g, o, rfl, hg, hcell⟩ := hcell (by intro e; rw [e] at hx; simp at hx)
        have p0 := (hbr.cell (p := ⟨g, o + k * 2, none⟩) hg).trans (hcell k _ hx).1
        have hce := (FL.out.ces _ (List.mem_of_getElem? hx)).below hbr
        have hcl := FL.out.c _ (List.mem_of_getElem? hx)
        simp only at p0 hce hcl
        obtain ⟨cA, cc, rfl⟩ := hce.spell
        obtain ⟨cn, hcn⟩ : ∃ cn, cs.length = cn := ⟨_, rfl⟩
        rw [hcn] at p0 hce hcl
        obtain ⟨A'', c'', e, hcap, hcc⟩ := hce
        rw [hcn] at e
        cases e
        have hgo : g < wo.heap.size := Nat.lt_of_lt_of_le hg hbr.size
        have HX := hid hx
        have HBR := hid hbr
        have HO := hid hones
        have HCC := hid hcc
        have HCN := hid hcn
        clear hx hbr hones hcell hcc hcn hg hcap
        go_wp2_with fail
        go_loopw [42] (fun j wr => ∃ q : Nat, q ≤ cn ∧ j = .int .i64 q ∧ Below wo.heap.size wo wr ∧ ∀ c ∈ cs.take q, c.wd = 1) (fun j _ => cn - (intOf j).toNat)
        case atStart => exact ⟨0, by omega, rfl, Below.refl _ _, fun c hc => by simp at hc⟩
        case round =>
          obtain ⟨q, hq, rfl, hbi, hone2⟩ := hrel
          by_cases hlt2 : q < cn
          · have hqi : (q : Int) < cn := by omega
            obtain ⟨x, hx⟩ : ∃ x, cs[q]? = some x := ⟨_, List.getElem?_eq_getElem (by rw [HCN.out]; exact hlt2)⟩
            obtain ⟨cg, co, rfl, hcg, hcell⟩ := HCC.out (by intro e; rw [e] at hx; simp at hx)
            obtain ⟨p0, p1, p2, p3, p4⟩ := ccells (W := wr) (g := cg) (o := co + q * 5) (e := x) (fun i u hu => (hbi.cell (p := ⟨cg, co + q * 5 + i, none⟩) hcg).trans (hcell q x hx i u hu))
            obtain ⟨tx, wd, fg, bg, fl⟩ := x
            simp only at p0 p1 p2 p3 p4
            have HBI := hid hbi
            have HO2 := hid hone2
            have HX2 := hid hx
            clear hbi hone2 hx hcell hcg
            have hba : Below wr.heap.size wr (wr.alloc (.cells #[.string tx, .int .i64 wd, .int .i64 fg, .int .i64 bg, .int .i64 fl] 66)) := below_alloc _ _
            have HBA := hid (HBI.out.trans (hba.mono HBI.out.size))
            clear hba
            by_cases hw : wd = 1
            · subst hw
              go_wp2_with fail
              go_roundw
              case rel =>
                refine ⟨q + 1, by omega, by go_num, HBA.out, fun c hc => ?_⟩
                rw [take_snoc HX2.out, List.mem_append, List.mem_singleton] at hc
                rcases hc with hc | rfl
                · exact HO2.out c hc
                · rfl
              case measure => simp [intOf]; omega
            · have hB9 := (HB.out.trans (HBR.out.mono HB.out.size)).trans (HBA.out.mono (Nat.le_trans HB.out.size HBR.out.size))
              have hal := flAlive _ (HT.out.below hB9) (HW.out.below hB9)
              have HAL := hid hal
              have HB9 := hid hB9
              clear hal hB9
              go_wp2_with fail
              with_reducible refine HAL.out.mono ?_
              rintro e w9 ⟨rfl, hb⟩
              dsimp only
              have HZ := hid (HB9.out.trans (hb.mono HB9.out.size))
              clear hb
              go_wp2
              go_ret
              exact ⟨rfl, HZ.out⟩
          · have hqc : q = cn := by omega
            subst hqc
            have HBI := hid hbi
            have HO2 := hid hone2
            clear hbi hone2
            go_wp2_with fail
            go_roundw
            case rel =>
              refine ⟨k + 1, by omega, by go_num, HBR.out.trans (HBI.out.mono HBR.out.size), fun e he => ?_⟩
              rw [take_snoc HX.out, List.mem_append, List.mem_singleton] at he
              rcases he with he | rfl
              · exact HO.out e he
              · have h := HO2.out
                rw [← HCN.out, List.take_length] at h
                exact h
            case measure => simp [intOf]; omega
      · have hkn : k = n := by omega
        subst hkn
        have hone : ∀ e ∈ lv1, ∀ c ∈ e.1.cs, c.wd = 1 := by
          rw [← HN.out, List.take_length] at hones
          exact hones
        have HB2 := hid (HB.out.trans (hbr.mono HB.out.size))
        have FL2 := hid (FL.out.below hbr)
        have HO := hid hone
        clear hone hones hbr FL HB
        obtain ⟨KB, hKB⟩ : ∃ KB, keptB lv1 = KB := ⟨_, rfl⟩
        obtain ⟨w0, rfl⟩ : ∃ w0 : World, w0 = wo := ⟨_, rfl⟩
        have hs := letters_out _ lv1 w0 FL2.out (HT.out.below HB2.out) (HW.out.below HB2.out)
        rw [hKB] at hs
        have HS := hid hs
        have HKB := hid hKB
        clear hs hKB
        go_wp2_with fail
        with_reducible refine HS.out.mono ?_
        rintro e w2 ⟨sA, sk, sc, sn, rfl, hb2, hs⟩
        dsimp only
        have hB3 := HB2.out.trans (hb2.mono HB2.out.size)
        have hf := flow_out _ lv1 (C : Int) w2 (FL2.out.below hb2) (HT.out.below hB3) (HW.out.below hB3)
        rw [HKB.out, colsB_ok hC1 hC2, Bool.and_true, Int.toNat_natCast] at hf
        have HFL := hid hf
        have SS := hid hs
        have HB3 := hid hB3
        clear hs hB3 hf HS hb2
        go_wp2_with fail
        with_reducible refine HFL.out.mono ?_
        rintro e w3 ⟨aA, ak, ac, an, rfl, hb3, ha⟩
        dsimp only
        have HB4 := hid (HB3.out.trans (hb3.mono HB3.out.size))
        have hal := flAlive w3 (HT.out.below HB4.out) (HW.out.below HB4.out)
        have HAL := hid hal
        clear HFL hal
        cases KB
        · rcases SS.out with ⟨h, _⟩ | ⟨_, rfl, hsv⟩
          · cases h
          rcases ha with ⟨h, _⟩ | ⟨_, rfl, hav⟩
          · cases h
          cases hsv
          cases hav
          clear SS hb3
          go_wp2_with fail
          with_reducible refine HAL.out.mono ?_
          rintro e w5 ⟨rfl, hb5⟩
          dsimp only
          have HZ := hid (HB4.out.trans (hb5.mono HB4.out.size))
          clear HAL hb5
          go_wp2
          go_ret
          exact ⟨rfl, HZ.out⟩
        · rcases SS.out with ⟨_, rfl, hs1⟩ | ⟨h, _⟩
          rotate_left
          · cases h
          rcases ha with ⟨_, rfl, la, ha1, ha2, ha3⟩ | ⟨h, _⟩
          rotate_left
          · cases h
          have hon := one_lines FL2.out HKB.out HO.out
          have hak := ha2.n
          have S1 := hid (hs1.kept hb3)
          have HON := hid hon
          clear SS hb3 hon HO HB3 hs1
          by_cases h200 : ak ≤ 200
          · have h200i : (ak : Int) ≤ 200 := by omega
            obtain ⟨hfa, hka, hoa⟩ := flow_fl HON.out hC1 (by omega) ha1 ha2.lsl ha3 (by omega)
            have hf := flow_out _ la (D : Int) w3 hfa (HT.out.below HB4.out) (HW.out.below HB4.out)
            rw [hka, colsB_ok hD1 hD2, Bool.and_true, Int.toNat_natCast, ha1] at hf
            have HFL := hid hf
            have HOA := hid hoa
            have HA1 := hid ha1
            clear hf hfa hka hoa ha1 ha2 ha3 hak HAL
            go_wp2_with fail
            with_reducible refine HFL.out.mono ?_
            rintro e w4 ⟨bA, bk, bc, bn, rfl, hb4, hb⟩
            dsimp only
            rcases hb with ⟨_, rfl, lb, hb1, hb2, hb3⟩ | ⟨h, _⟩
            rotate_left
            · cases h
            have hbk := hb2.n
            have S2 := hid (S1.out.kept hb4)
            have HB5 := hid (HB4.out.trans (hb4.mono HB4.out.size))
            have hal := flAlive w4 (HT.out.below HB5.out) (HW.out.below HB5.out)
            have HAL := hid hal
            clear hal HFL S1 hb4
            by_cases h201 : bk ≤ 200
            · have h201i : (bk : Int) ≤ 200 := by omega
              have hoa := HOA.out
              rw [HA1.out] at hoa
              obtain ⟨hfb, hkb, hob⟩ := flow_fl hoa hD1 (by omega) hb1 hb2.lsl hb3 (by omega)
              have hlt := letters_out _ lb w4 hfb (HT.out.below HB5.out) (HW.out.below HB5.out)
              rw [hkb, hb1, (flow_joins hD1 hoa).1, (flow_joins hC1 HON.out).1] at hlt
              have HLT := hid hlt
              clear hlt hfb hkb hob hoa hb1 hb2 hb3 hbk HAL
              go_wp2_with fail
              with_reducible refine HLT.out.mono ?_
              rintro e w5 ⟨tA, tk, tc, tn, rfl, hb5, ht⟩
              dsimp only
              rcases ht with ⟨_, rfl, ht1⟩ | ⟨h, _⟩
              rotate_left
              · cases h
              have s1 := S2.out.kept hb5
              obtain ⟨ts, hts⟩ : ∃ ts, (joinP (lv1.map Prod.fst)).map sayP = ts := ⟨_, rfl⟩
              rw [hts] at ht1 s1
              obtain ⟨m, hm⟩ : ∃ m, ts.length = m := ⟨_, rfl⟩
              have hm200 : m ≤ 200 := by rw [← hm, ← hts, List.length_map]; exact (FL2.out.rows HKB.out).2.2
              have l1 : m = sk := by symm; rw [s1.at.1, hm]
              have l2 : m = tk := by symm; rw [ht1.at.1, hm]
              subst l1
              subst l2
              have HB6 := hid (HB5.out.trans (hb5.mono HB5.out.size))
              have hal := flAlive w5 (HT.out.below HB6.out) (HW.out.below HB6.out)
              have HAL := hid hal
              have SA := hid s1
              have TA := hid ht1
              have HM := hid hm
              clear hal HLT S2 hb5 s1 ht1 hm hts
              go_wp2_with fail
              with_reducible refine HAL.out.mono ?_
              rintro e w6 ⟨rfl, hb6⟩
              dsimp only
              have s1 := (SA.out.kept hb6).at.2
              have t1 := (TA.out.kept hb6).at.2
              have SC := hid s1
              have TC := hid t1
              have HB7 := hid (HB6.out.trans (hb6.mono HB6.out.size))
              clear s1 t1 hb6 HAL SA TA
              go_wp2_with fail
              go_loopw [122] (fun i wr => ∃ k : Nat, k ≤ m ∧ i = .int .i64 k ∧ Below w6.heap.size w6 wr) (fun i _ => m - (intOf i).toNat)
              case atStart => exact ⟨0, by omega, rfl, Below.refl _ _⟩
              case round =>
                obtain ⟨k, hk, rfl, hbr⟩ := hrel
                by_cases hlt : k < m
                · have hki : (k : Int) < m := by omega
                  obtain ⟨x, hx⟩ : ∃ x, ts[k]? = some x := ⟨_, List.getElem?_eq_getElem (by rw [HM.out]; exact hlt)⟩
                  obtain ⟨g1, rfl, hg1, hc1⟩ := SC.out (by intro e; rw [e] at hx; simp at hx)
                  obtain ⟨g2, rfl, hg2, hc2⟩ := TC.out (by intro e; rw [e] at hx; simp at hx)
                  have p1 := (hbr.cell (p := ⟨g1, k, none⟩) hg1).trans (hc1 k x hx)
                  have p2 := (hbr.cell (p := ⟨g2, k, none⟩) hg2).trans (hc2 k x hx)
                  have hg1' : g1 < wr.heap.size := Nat.lt_of_lt_of_le hg1 hbr.size
                  have hg2' : g2 < wr.heap.size := Nat.lt_of_lt_of_le hg2 hbr.size
                  have HBR := hid hbr
                  clear hx hc1 hc2 hbr hg1 hg2
                  go_upto_region 26 with fail
                  go_quiet (fail)
                  have HBD := hid (fun nq => HBR.out.trans ((below_drew wr nq).mono HBR.out.size))
                  go_wp2_with fail
                  go_roundw
                  case rel => exact ⟨k + 1, by omega, by go_num, HBD.out _⟩
                  case measure => simp [intOf]; omega
                · have hkm : k = m := by omega
                  subst hkm
                  have HZ := hid (HB7.out.trans (hbr.mono HB7.out.size))
                  clear hbr
                  go_wp2
                  go_ret
                  exact ⟨rfl, HZ.out⟩
            · have h201i : (200 : Int) < bk := by omega
              clear hb1 hb2 hb3 hbk S2
              go_wp2_with fail
              with_reducible refine HAL.out.mono ?_
              rintro e w5 ⟨rfl, hb5⟩
              dsimp only
              have HZ := hid (HB5.out.trans (hb5.mono HB5.out.size))
              clear HAL hb5
              go_wp2
              go_ret
              exact ⟨rfl, HZ.out⟩
          · have h200i : (200 : Int) < ak := by omega
            clear ha1 ha2 ha3 hak S1 HON
            go_wp2_with fail
            with_reducible refine HAL.out.mono ?_
            rintro e w5 ⟨rfl, hb5⟩
            dsimp only
            have HZ := hid (HB4.out.trans (hb5.mono HB4.out.size))
            clear HAL hb5
            go_wp2
            go_ret
            exact ⟨rfl, HZ.out⟩
end Go.Proofs.YtkejoknphnkhnaaDoor
