/- Layer 8, the package: Join, Flow, Letters, Fold. Made by wip/gen/flowX.py. -/
/- Layer 8, plain: rows without wide letters, folded and joined again. -/
import Derived.Test.YtkejoknphnkhnaaDoorFlowTQ
import Derived.Test.YtkejoknphnkhnaaDoorFlowPQ
import Derived.Test.YtkejoknphnkhnaaDoorFlowSQ
import Derived.Test.YtkejoknphnkhnaaDoorStrsQ
namespace Go.Proofs.YtkejoknphnkhnaaDoor
open Go.RowKit

def sumL (rs : List (List Ce)) : Nat := (rs.map List.length).sum
theorem sumL_snoc (rs : List (List Ce)) (r : List Ce) : sumL (rs ++ [r]) = sumL rs + r.length := by unfold sumL; rw [List.map_append, List.sum_append]; simp
theorem joinS_sum {ls : List Ln} (h : ∀ l ∈ ls, l.cs.length ≤ 100) : ∀ k, k ≤ ls.length → sumL (joinS ls k).1 + (joinS ls k).2.length ≤ k * 100
  | 0, _ => Nat.le_refl _
  | k + 1, hk => by
    have ih := joinS_sum h k (by omega)
    have hx : ls[k]? = some ls[k] := List.getElem?_eq_getElem (by omega)
    have hl := h _ (List.mem_of_getElem? hx)
    by_cases hs : ls[k].soft = true ∧ k + 1 ≠ ls.length
    · rw [joinS_go hx hs.1 hs.2]
      simp only [List.length_append]
      omega
    · rw [joinS_end hx (by
        cases h0 : ls[k].soft
        · exact .inl rfl
        · exact .inr (Classical.byContradiction fun e => hs ⟨h0, e⟩))]
      have := trimL_length ((joinS ls k).2 ++ ls[k].cs)
      rw [List.length_append] at this
      simp only [sumL_snoc, List.length_nil]
      omega
theorem joinS_ok {ls : List Ln} (h : ∀ l ∈ ls, okR l.cs = true ∧ ∀ c ∈ l.cs, c.tx.size ≤ 1000) : ∀ k, k ≤ ls.length → (∀ r ∈ (joinS ls k).1, okR r = true ∧ ∀ c ∈ r, c.tx.size ≤ 1000) ∧ okR (joinS ls k).2 = true ∧ ∀ c ∈ (joinS ls k).2, c.tx.size ≤ 1000
  | 0, _ => ⟨fun r hr => by simp [joinS] at hr, rfl, fun c hc => by simp [joinS] at hc⟩
  | k + 1, hk => by
    obtain ⟨i1, i2, i3⟩ := joinS_ok h k (by omega)
    have hx : ls[k]? = some ls[k] := List.getElem?_eq_getElem (by omega)
    obtain ⟨l1, l2⟩ := h _ (List.mem_of_getElem? hx)
    have hok := okR_append i2 l1
    have htx : ∀ c ∈ (joinS ls k).2 ++ ls[k].cs, c.tx.size ≤ 1000 := fun c hc => (List.mem_append.1 hc).elim (i3 c) (l2 c)
    by_cases hs : ls[k].soft = true ∧ k + 1 ≠ ls.length
    · rw [joinS_go hx hs.1 hs.2]
      exact ⟨i1, hok, htx⟩
    · rw [joinS_end hx (by
        cases h0 : ls[k].soft
        · exact .inl rfl
        · exact .inr (Classical.byContradiction fun e => hs ⟨h0, e⟩))]
      refine ⟨fun r hr => ?_, rfl, fun c hc => by simp at hc⟩
      rw [List.mem_append, List.mem_singleton] at hr
      rcases hr with hr | rfl
      · exact i1 r hr
      · exact ⟨okR_trim hok, fun c hc => htx c (trimL_mem hc)⟩
theorem kept_ok {lv : List (Ln × Value)} (hs : Sm lv) (h : keptB lv = true) : ∀ l ∈ lv.map Prod.fst, okR l.cs = true ∧ (∀ c ∈ l.cs, c.tx.size ≤ 1000) ∧ 1 ≤ l.cs.length ∧ l.cs.length ≤ 80 := fun l hl => by
  obtain ⟨e, he, rfl⟩ := List.mem_map.1 hl
  have h1 := List.all_eq_true.1 h e he
  unfold keptE at h1
  rw [Bool.and_eq_true] at h1
  have := of_decide_eq_true h1.1
  exact ⟨fits_okR h1.2, (hs.2 e he).2, by omega, by omega⟩
theorem foldP_len_le {row : List Ce} (cols : Nat) (h : okR row = true) : (foldP cols row).length ≤ row.length + 1 := by
  have h1 := foldP_length cols row
  have h2 := (segs_all h).2.2
  omega
theorem flat_len {rs : List (List Ce)} (cols : Nat) (h : ∀ r ∈ rs, okR r = true) : ((rs.map (foldP cols)).flatten).length ≤ sumL rs + rs.length := by
  induction rs with
  | nil => exact Nat.le_refl _
  | cons r l ih =>
    have h1 := foldP_len_le cols (h r (by simp))
    have h2 := ih fun x hx => h x (by simp [hx])
    have h3 : sumL (r :: l) = r.length + sumL l := by unfold sumL; simp
    rw [List.map_cons, List.flatten_cons, List.length_append, h3, List.length_cons]
    omega
theorem sumL_take (rs : List (List Ce)) : ∀ k, sumL (rs.take k) ≤ sumL rs := fun k => by
  have h : sumL rs = sumL (rs.take k) + sumL (rs.drop k) := by
    unfold sumL
    rw [← List.sum_append, ← List.map_append, List.take_append_drop]
  omega
/-- What such lines may be: small, and whole. -/
structure Fl (W : World) (v : Value) (lv : List (Ln × Value)) : Prop where
  lr : LR W v lv
  ces : CesOf W lv
  sm : Sm lv
  n : lv.length ≤ 200
  c : ∀ e ∈ lv, e.1.cs.length ≤ 100
theorem Fl.below {W W' : World} {v : Value} {lv : List (Ln × Value)} (h : Fl W v lv) (hb : Below W.heap.size W W') : Fl W' v lv := ⟨h.lr.below hb, h.ces.below hb, h.sm, h.n, h.c⟩
theorem Fl.c' {W : World} {v : Value} {lv : List (Ln × Value)} (h : Fl W v lv) : ∀ l ∈ lv.map Prod.fst, l.cs.length ≤ 100 := fun l hl => by
  obtain ⟨e, he, rfl⟩ := List.mem_map.1 hl
  exact h.c e he
theorem Fl.rows {W : World} {v : Value} {lv : List (Ln × Value)} (h : Fl W v lv) (hk : keptB lv = true) : (∀ r ∈ joinP (lv.map Prod.fst), okR r = true ∧ ∀ c ∈ r, c.tx.size ≤ 1000) ∧ sumL (joinP (lv.map Prod.fst)) ≤ 20000 ∧ (joinP (lv.map Prod.fst)).length ≤ 200 := by
  have h1 := joinS_ok (fun l hl => ⟨(kept_ok h.sm hk l hl).1, (kept_ok h.sm hk l hl).2.1⟩) (lv.map Prod.fst).length (Nat.le_refl _)
  have h2 := joinS_sum h.c' (lv.map Prod.fst).length (Nat.le_refl _)
  have h3 := (joinS_len h.c' (lv.map Prod.fst).length (Nat.le_refl _)).2
  have h4 := h.n
  rw [List.length_map] at h2 h3
  unfold joinP
  rw [List.length_map] at h1 ⊢
  exact ⟨h1.1, by omega, by omega⟩
def JOut (W : World) (ok : Bool) (tgt : List (List Ce)) (e : Ending) (w' : World) : Prop :=
  ∃ A k c n, e = .returned (.tuple #[.slice A k c, .int .i64 n]) ∧ Below W.heap.size W w' ∧
    ((ok = true ∧ n = 0 ∧ ∃ rv, rv.map Prod.fst = tgt ∧ OwnR w' W.heap.size (.slice A k c) rv ∧ RvC w' W.heap.size rv) ∨ (ok = false ∧ n = 1 ∧ (.slice A k c : Value) = .slice none 0 0))
def FOut (W : World) (ok : Bool) (tgt : List Ln) (e : Ending) (w' : World) : Prop :=
  ∃ A k c n, e = .returned (.tuple #[.slice A k c, .int .i64 n]) ∧ Below W.heap.size W w' ∧
    ((ok = true ∧ n = 0 ∧ ∃ lv', lv'.map Prod.fst = tgt ∧ OwnL w' W.heap.size (.slice A k c) lv' ∧ ∀ x ∈ lv', CSl w' W.heap.size x.2 x.1.cs) ∨ (ok = false ∧ n = 1 ∧ (.slice A k c : Value) = .slice none 0 0))
def SOut (W : World) (ok : Bool) (tgt : List ByteArray) (e : Ending) (w' : World) : Prop :=
  ∃ A k c n, e = .returned (.tuple #[.slice A k c, .int .i64 n]) ∧ Below W.heap.size W w' ∧
    ((ok = true ∧ n = 0 ∧ OwnS w' W.heap.size (.slice A k c) tgt) ∨ (ok = false ∧ n = 1 ∧ (.slice A k c : Value) = .slice none 0 0))
theorem world_own {w : World} {b b' size n : Nat} {t : TypeId} {v : Value} {xs : List Value} (h : w.ownsRow b t size v n xs) (hb : b' ≤ b) : w.ownsRow b' t size v n xs := by
  refine ⟨h.1, ?_⟩
  rcases h.2 with hn | ⟨g, cap, cur, rfl, h1, rest⟩
  · exact .inl hn
  · exact .inr ⟨g, cap, cur, rfl, Nat.le_trans hb h1, rest⟩
set_option maxHeartbeats 1000000 in
theorem join_out (v : Value) (lv : List (Ln × Value)) (W : World) (hf : Fl W v lv) (hT : Tab W) (hW : TabW W) :
    Calls Tryd.prog 23 #[v] W (JOut W (keptB lv) (joinP (lv.map Prod.fst))) := by
  have hm := mayBe_any v lv W hf.lr hf.ces hf.sm hT hW
  have hj := fun W' (hb : Below W.heap.size W W') => joined_any v lv W' (hf.below hb).lr (hf.below hb).ces hf.n hf.c
  have he : mayLs lv = keptB lv := by unfold mayLs; rw [decide_eq_true hf.n, Bool.and_true]
  rw [he] at hm
  obtain ⟨KB, hKB⟩ : ∃ KB, keptB lv = KB := ⟨_, rfl⟩
  rw [hKB] at hm ⊢
  obtain ⟨A, c, rfl⟩ := hf.lr.spell
  have HM := hid hm
  have HJ := hid hj
  clear hm hj he hf hT hW hKB
  cases KB
  · go_enter Tryd.func23, Tryd.ntmps23
    go_wp2_with (with_reducible refine HM.out.mono ?_; rintro e w2 ⟨rfl, hb⟩)
    go_ret2
    exact ⟨none, 0, 0, 1, rfl, hb, .inr ⟨rfl, rfl, rfl⟩⟩
  · go_enter Tryd.func23, Tryd.ntmps23
    go_wp2_with fail
    with_reducible refine HM.out.mono ?_
    rintro e w2 ⟨rfl, hb⟩
    dsimp only
    go_wp2_with fail
    with_reducible refine (HJ.out _ hb).mono ?_
    rintro e w3 ⟨v3, rv, rfl, h1, h2, h3, hb3⟩
    dsimp only
    obtain ⟨A3, c3, rfl⟩ := h2.spell
    go_wp2
    go_ret2
    exact ⟨A3, rv.length, c3, 0, rfl, hb.trans (hb3.mono hb.size), .inl ⟨rfl, rfl, rv, h1, world_own h2 hb.size, fun e he => (h3 e he).mono hb.size⟩⟩
theorem colsB_nat {cols : Int} (h : colsB cols = true) : ∃ C : Nat, cols = C ∧ 1 ≤ C ∧ C ≤ 80 := by
  have := of_decide_eq_true h
  exact ⟨cols.toNat, by omega, by omega, by omega⟩
theorem take_snoc {α : Type} {l : List α} {k : Nat} {x : α} (h : l[k]? = some x) : l.take (k + 1) = l.take k ++ [x] := by
  obtain ⟨hk, rfl⟩ := List.getElem?_eq_some_iff.1 h
  rw [List.take_succ_eq_append_getElem hk]
/-- Lines so far, row by row. -/
def FwRel (wj wr : World) (C : Nat) (rs : List (List Ce)) (k : Nat) (ov : Value) : Prop :=
  ∃ lines, OwnL wr wj.heap.size ov lines ∧ (∀ e ∈ lines, CSl wr wj.heap.size e.2 e.1.cs) ∧ lines.map Prod.fst = ((rs.take k).map (foldP C)).flatten ∧ Below wj.heap.size wj wr
theorem fw_step {wj wr w2 w7 : World} {C : Nat} {rs : List (List Ce)} {k : Nat} {ov v7 : Value} {lines ll : List (Ln × Value)} {r : List Ce} (h1 : OwnL wr wj.heap.size ov lines) (h2 : ∀ e ∈ lines, CSl wr wj.heap.size e.2 e.1.cs) (h3 : lines.map Prod.fst = ((rs.take k).map (foldP C)).flatten) (h4 : Below wj.heap.size wj wr)
    (hx : rs[k]? = some r) (hb : Below wr.heap.size wr w2) (hl : ll.map Prod.fst = foldP C r) (hc : ∀ e ∈ ll, CSl w2 wr.heap.size e.2 e.1.cs) (h7 : OwnL w7 wj.heap.size v7 (lines ++ ll)) (hg : w2.grownBy w7 ov.ownBlock) : FwRel wj w7 C rs (k + 1) v7 := by
  have o2 := h1.kept hb
  refine ⟨_, h7, fun e he => ?_, ?_, ?_⟩
  · rw [List.mem_append] at he
    rcases he with he | he
    · exact ((h2 e he).below hb (Nat.le_refl _)).grown o2 hg
    · exact ((hc e he).mono h4.size).grown o2 hg
  · rw [List.map_append, h3, hl, take_snoc hx, List.map_append, List.flatten_append]
    simp
  · exact (h4.trans (hb.mono h4.size)).grown hg (Nat.le_trans h4.size hb.size) fun q hq => (World.ownsRow.lt o2 q hq).1
set_option maxRecDepth 100000 in
set_option maxHeartbeats 4000000 in
theorem flow_out (v : Value) (lv : List (Ln × Value)) (cols : Int) (W : World) (hf : Fl W v lv) (hT : Tab W) (hW : TabW W) :
    Calls Tryd.prog 32 #[v, .int .i64 cols] W (FOut W (keptB lv && colsB cols) (flowP cols.toNat (lv.map Prod.fst))) := by
  have hm := mayBe_any v lv W hf.lr hf.ces hf.sm hT hW
  have hj := fun W' (hb : Below W.heap.size W W') => joined_any v lv W' (hf.below hb).lr (hf.below hb).ces hf.n hf.c
  have hcr := fun W' => colsRight_any cols W'
  have he : mayLs lv = keptB lv := by unfold mayLs; rw [decide_eq_true hf.n, Bool.and_true]
  have hrows := hf.rows
  rw [he] at hm
  obtain ⟨KB, hKB⟩ : ∃ KB, keptB lv = KB := ⟨_, rfl⟩
  rw [hKB] at hm hrows ⊢
  obtain ⟨CB, hCB⟩ : ∃ CB, colsB cols = CB := ⟨_, rfl⟩
  have hcn := @colsB_nat cols
  rw [hCB] at hcr hcn ⊢
  obtain ⟨A, c, rfl⟩ := hf.lr.spell
  have HM := hid hm
  have HJ := hid hj
  have HCR := hid hcr
  have HRO := hid hrows
  clear hm hj he hf hT hW hKB hrows hcr hCB
  cases KB
  · go_enter Tryd.func32, Tryd.ntmps32
    go_wp2_with (with_reducible refine HM.out.mono ?_; rintro e w2 ⟨rfl, hb⟩)
    go_ret2
    exact ⟨none, 0, 0, 1, rfl, hb, .inr ⟨rfl, rfl, rfl⟩⟩
  · cases CB
    · go_enter Tryd.func32, Tryd.ntmps32
      go_wp2_with (first | (with_reducible refine HM.out.mono ?_; rintro e w2 ⟨rfl, hb⟩) | (with_reducible refine (HCR.out _).mono ?_; rintro e w3 ⟨rfl, rfl⟩))
      go_ret2
      exact ⟨none, 0, 0, 1, rfl, hb, .inr ⟨rfl, rfl, rfl⟩⟩
    · obtain ⟨C, rfl, hC1, hC2⟩ := hcn rfl
      have hct : ((C : Int)).toNat = C := Int.toNat_natCast C
      rw [hct]
      clear hcn hct
      obtain ⟨hro1, hro2, hro3⟩ := HRO.out rfl
      obtain ⟨rs, hrs⟩ : ∃ rs, joinP (lv.map Prod.fst) = rs := ⟨_, rfl⟩
      unfold flowP
      rw [hrs] at HJ hro1 hro2 hro3 ⊢
      clear HRO hrs
      go_enter Tryd.func32, Tryd.ntmps32
      go_upto_region 4 with (first | (with_reducible refine HM.out.mono ?_; rintro e w2 ⟨rfl, hb⟩) | (with_reducible refine (HCR.out _).mono ?_; rintro e w3 ⟨rfl, rfl⟩))
      go_wp2_with fail
      with_reducible refine (HJ.out _ hb).mono ?_
      rintro e wj ⟨v3, rv, rfl, h1, h2, h3, hb3⟩
      dsimp only
      have hbj := hb.trans (hb3.mono hb.size)
      obtain ⟨A3, c3, e3, hcap, hRR⟩ := h2.row
      subst e3
      obtain ⟨n, hn⟩ : ∃ n, rv.length = n := ⟨_, rfl⟩
      have hrl : rs.length = n := by rw [← h1, List.length_map, hn]
      have hni : n ≤ 200 := by omega
      rw [hn] at hcap ⊢
      have HN := hid hn
      have H1 := hid h1
      have H3 := hid h3
      have HBJ := hid hbj
      have HR1 := hid hro1
      clear h1 h2 h3 hn hb3 hbj hro1 HM HJ HCR hb
      have hst : FwRel wj wj C rs 0 (.slice none 0 0) := ⟨[], OwnL.nil _ _, fun e he => by simp at he, rfl, Below.refl _ _⟩
      have HST := hid hst
      clear hst
      go_wp2
      go_loopw [6, 20] (fun ov i wr => ∃ k : Nat, k ≤ n ∧ i = .int .i64 k ∧ FwRel wj wr C rs k ov) (fun _ i _ => n - (intOf i).toNat)
      case atStart => exact ⟨0, by omega, rfl, HST.out⟩
      case round =>
        obtain ⟨k, hk, rfl, lines, q1, q2, q3, q4⟩ := hrel
        obtain ⟨lA, lc, hlv⟩ := q1.spell
        obtain ⟨ln, hln⟩ : ∃ ln, lines.length = ln := ⟨_, rfl⟩
        rw [hln] at hlv
        subst hlv
        have hlen : ln ≤ 20200 := by
          have t1 := flat_len (rs := rs.take k) C (fun r hr => (HR1.out r (List.mem_of_mem_take hr)).1)
          have t2 := sumL_take rs k
          rw [← q3, List.length_map, hln, List.length_take] at t1
          omega
        by_cases hlt : k < n
        · have hki : (k : Int) < n := by omega
          have hkb : (k : Int) ≤ 200 := by omega
          have hkl : k < rv.length := by rw [HN.out]; exact hlt
          have hx := List.getElem?_eq_getElem hkl
          obtain ⟨g, o, rfl, hg, hcell⟩ := hRR (by intro e; rw [e] at hkl; simp at hkl)
          have p0 := (q4.cell (p := ⟨g, o + k, none⟩) hg).trans (hcell k _ hx)
          have hce := (H3.out rv[k] (List.getElem_mem _)).row.below q4
          have hxl : rs[k]? = some (rv[k]).1 := by rw [← H1.out, List.getElem?_map, hx]; rfl
          have hrk := HR1.out (rv[k]).1 (List.mem_of_getElem? hxl)
          have hrl2 : (rv[k]).1.length ≤ 20000 := by
            have : sumL (rs.take (k + 1)) = sumL (rs.take k) + (rv[k]).1.length := by rw [take_snoc hxl, sumL_snoc]
            have := sumL_take rs (k + 1)
            omega
          generalize rv[k] = x at *
          obtain ⟨cs, cv⟩ := x
          simp only at p0 hce hxl hrk hrl2
          have hfo := folded_any cv cs C wr hce hrk.1 hrk.2 (by omega) hC1 hC2
          obtain ⟨cA, cc, rfl⟩ := hce.spell
          have hcl := foldP_len_le C hrk.1
          have HFO := hid hfo
          have Q1 := hid q1
          have Q2 := hid q2
          have Q3 := hid q3
          have Q4 := hid q4
          have HXL := hid hxl
          have HLN := hid hln
          have hwj := q4.size
          clear hfo q1 q2 q3 q4 hxl hln hce hrk hx hcell hRR hg
          go_wp2_with fail
          with_reducible refine HFO.out.mono ?_
          rintro e w2 ⟨v2, ll, rfl, f1, f2, f3, hb2⟩
          dsimp only
          have hll : ll.length ≤ 20001 := by have := congrArg List.length f1; rw [List.length_map] at this; omega
          obtain ⟨m2, hm2⟩ : ∃ m2, ll.length = m2 := ⟨_, rfl⟩
          have HLL := hid hm2
          rw [hm2] at hll
          clear hm2
          have hlr2 := f2.lsl.row
          have hcs2 : CesOf w2 ll := fun e he => (f3 e he).row
          have ho2 := Q1.out.kept hb2
          have HLR := hid hlr2
          have HCS := hid hcs2
          have HO2 := hid ho2
          have F1 := hid f1
          have F3 := hid f3
          have HB2 := hid hb2
          have hw2 : wj.heap.size ≤ w2.heap.size := Nat.le_trans hwj hb2.size
          clear hlr2 hcs2 ho2 f1 f2 f3 hb2
          go_wp2_with (at_builtin; refine wpList_append_ln rfl _ _ rfl wj.heap.size _ _ lines ll rfl HO2.out rfl HLR.out HCS.out (by rw [HLN.out, HLL.out]; omega) hw2 ?_; intro v7 w7 g1 g2; obtain ⟨A7, c7, hv7⟩ := g1.spell; rw [List.length_append, HLN.out, HLL.out] at hv7; subst hv7; have G1 := hid g1; have G2 := hid g2; clear g1 g2)
          go_roundw
          case rel => exact ⟨k + 1, by omega, by go_num, fw_step Q1.out Q2.out Q3.out Q4.out HXL.out HB2.out F1.out F3.out G1.out G2.out⟩
          case measure => simp [intOf]; omega
        · have hkn : k = n := by omega
          subst hkn
          have htk : rs.take k = rs := by rw [← hrl]; exact List.take_length
          rw [htk] at q3
          have HFIN : Hid (∃ lv', lv'.map Prod.fst = (rs.map (foldP C)).flatten ∧ OwnL wr W.heap.size (.slice lA ln lc) lv' ∧ ∀ x ∈ lv', CSl wr W.heap.size x.2 x.1.cs) := ⟨lines, q3, world_own q1 HBJ.out.size, fun e he => (q2 e he).mono HBJ.out.size⟩
          have HBF := hid (HBJ.out.trans (q4.mono HBJ.out.size))
          clear q1 q2 q3 q4 hlt htk hln
          go_wp2
          go_ret2
          exact ⟨lA, ln, lc, 0, rfl, HBF.out, .inl ⟨rfl, rfl, HFIN.out⟩⟩
/-- Texts so far. -/
def LwRel (wj wr : World) (rs : List (List Ce)) (k : Nat) (ov : Value) : Prop := OwnS wr wj.heap.size ov ((rs.take k).map sayP) ∧ Below wj.heap.size wj wr
set_option maxRecDepth 100000 in
set_option maxHeartbeats 4000000 in
theorem letters_out (v : Value) (lv : List (Ln × Value)) (W : World) (hf : Fl W v lv) (hT : Tab W) (hW : TabW W) :
    Calls Tryd.prog 24 #[v] W (SOut W (keptB lv) ((joinP (lv.map Prod.fst)).map sayP)) := by
  have hm := mayBe_any v lv W hf.lr hf.ces hf.sm hT hW
  have hj := fun W' (hb : Below W.heap.size W W') => joined_any v lv W' (hf.below hb).lr (hf.below hb).ces hf.n hf.c
  have he : mayLs lv = keptB lv := by unfold mayLs; rw [decide_eq_true hf.n, Bool.and_true]
  have hrows := hf.rows
  rw [he] at hm
  obtain ⟨KB, hKB⟩ : ∃ KB, keptB lv = KB := ⟨_, rfl⟩
  rw [hKB] at hm hrows ⊢
  obtain ⟨A, c, rfl⟩ := hf.lr.spell
  have HM := hid hm
  have HJ := hid hj
  have HRO := hid hrows
  clear hm hj he hf hT hW hKB hrows
  cases KB
  · go_enter Tryd.func24, Tryd.ntmps24
    go_wp2_with (with_reducible refine HM.out.mono ?_; rintro e w2 ⟨rfl, hb⟩)
    go_ret2
    exact ⟨none, 0, 0, 1, rfl, hb, .inr ⟨rfl, rfl, rfl⟩⟩
  · obtain ⟨hro1, hro2, hro3⟩ := HRO.out rfl
    obtain ⟨rs, hrs⟩ : ∃ rs, joinP (lv.map Prod.fst) = rs := ⟨_, rfl⟩
    rw [hrs] at HJ hro1 hro2 hro3 ⊢
    clear HRO hrs
    go_enter Tryd.func24, Tryd.ntmps24
    go_upto_region 4 with (with_reducible refine HM.out.mono ?_; rintro e w2 ⟨rfl, hb⟩)
    go_wp2_with fail
    with_reducible refine (HJ.out _ hb).mono ?_
    rintro e wj ⟨v3, rv, rfl, h1, h2, h3, hb3⟩
    dsimp only
    have hbj := hb.trans (hb3.mono hb.size)
    obtain ⟨A3, c3, e3, hcap, hRR⟩ := h2.row
    subst e3
    obtain ⟨n, hn⟩ : ∃ n, rv.length = n := ⟨_, rfl⟩
    have hrl : rs.length = n := by rw [← h1, List.length_map, hn]
    have hni : n ≤ 200 := by omega
    rw [hn] at hcap ⊢
    have HN := hid hn
    have H1 := hid h1
    have H3 := hid h3
    have HBJ := hid hbj
    have HR1 := hid hro1
    clear h1 h2 h3 hn hb3 hbj hro1 HM HJ hb
    have hst : LwRel wj wj rs 0 (.slice none 0 0) := ⟨OwnS.nil _ _, Below.refl _ _⟩
    have HST := hid hst
    clear hst
    go_wp2
    go_loopw [4, 13] (fun ov i wr => ∃ k : Nat, k ≤ n ∧ i = .int .i64 k ∧ LwRel wj wr rs k ov) (fun _ i _ => n - (intOf i).toNat)
    case atStart => exact ⟨0, by omega, rfl, HST.out⟩
    case round =>
      obtain ⟨k, hk, rfl, q1, q4⟩ := hrel
      obtain ⟨lA, lc, hlv⟩ := q1.spell
      have hlk : ((rs.take k).map sayP).length = k := by rw [List.length_map, List.length_take]; omega
      rw [hlk] at hlv
      subst hlv
      by_cases hlt : k < n
      · have hki : (k : Int) < n := by omega
        have hkb : (k : Int) ≤ 200 := by omega
        have hkl : k < rv.length := by rw [HN.out]; exact hlt
        have hx := List.getElem?_eq_getElem hkl
        obtain ⟨g, o, rfl, hg, hcell⟩ := hRR (by intro e; rw [e] at hkl; simp at hkl)
        have p0 := (q4.cell (p := ⟨g, o + k, none⟩) hg).trans (hcell k _ hx)
        have hce := (H3.out rv[k] (List.getElem_mem _)).row.below q4
        have hxl : rs[k]? = some (rv[k]).1 := by rw [← H1.out, List.getElem?_map, hx]; rfl
        have hrk := HR1.out (rv[k]).1 (List.mem_of_getElem? hxl)
        have hrl2 : (rv[k]).1.length ≤ 20000 := by
          have : sumL (rs.take (k + 1)) = sumL (rs.take k) + (rv[k]).1.length := by rw [take_snoc hxl, sumL_snoc]
          have := sumL_take rs (k + 1)
          omega
        generalize rv[k] = x at *
        obtain ⟨cs, cv⟩ := x
        simp only at p0 hce hxl hrk hrl2
        have hsa := said_any cv cs wr hce hrk.1 hrk.2 (by omega)
        obtain ⟨cA, cc, rfl⟩ := hce.spell
        have HSA := hid hsa
        have Q1 := hid q1
        have Q4 := hid q4
        have HXL := hid hxl
        have HLK := hid hlk
        have hwj := q4.size
        clear hsa q1 q4 hxl hlk hce hrk hx hcell hRR hg
        go_wp2_with fail
        with_reducible refine HSA.out.mono ?_
        rintro e w2 ⟨rfl, hb2⟩
        dsimp only
        obtain ⟨sp, hsp⟩ : ∃ sp, sayP cs = sp := ⟨_, rfl⟩
        rw [hsp]
        have ho2 := (Q1.out.kept hb2).kept (below_alloc w2 (.cells #[.string sp] 9))
        have HO2 := hid ho2
        have HB2 := hid hb2
        have HSP := hid hsp
        have hw2 : wj.heap.size ≤ w2.heap.size := Nat.le_trans hwj hb2.size
        clear ho2 hb2 hsp
        go_wp2_with (at_builtin; refine wpList_append_strs rfl _ _ rfl wj.heap.size _ _ rfl HO2.out [sp] ⟨w2.heap.size, 0, none⟩ 1 1 rfl rfl (slit_at (l := [.string sp]) (Box.new w2 _ _)) (by rw [HLK.out]; omega) (by simp; omega) ?_; intro v7 w7 g1 g2; obtain ⟨A7, c7, hv7⟩ := g1.spell; rw [List.length_append, HLK.out, List.length_singleton] at hv7; subst hv7; have G1 := hid g1; have G2 := hid g2; clear g1 g2)
        go_roundw
        case rel =>
          refine ⟨k + 1, by omega, by go_num, ?_, ?_⟩
          · rw [take_snoc HXL.out, List.map_append, List.map_singleton, HSP.out]; exact G1.out
          · have hb8 := HB2.out.trans ((below_alloc w2 (.cells #[.string sp] 9)).mono HB2.out.size)
            exact (Q4.out.trans (hb8.mono Q4.out.size)).grown G2.out (Nat.le_trans hwj hb8.size) fun q hq => (World.ownsRow.lt HO2.out q hq).1
        case measure => simp [intOf]; omega
      · have hkn : k = n := by omega
        subst hkn
        have htk : rs.take k = rs := by rw [← hrl]; exact List.take_length
        rw [htk] at q1
        have HFIN : Hid (OwnS wr W.heap.size (.slice lA k lc) (rs.map sayP)) := world_own q1 HBJ.out.size
        have HBF := hid (HBJ.out.trans (q4.mono HBJ.out.size))
        clear q1 q4 hlt htk hlk
        go_wp2
        go_ret2
        exact ⟨lA, k, lc, 0, rfl, HBF.out, .inl ⟨rfl, rfl, HFIN.out⟩⟩
set_option maxRecDepth 100000 in
set_option maxHeartbeats 2000000 in
theorem fold_out (v : Value) (row : List Ce) (cols : Int) (W : World) (hr : CeRow W v row) (htx : ∀ c ∈ row, c.tx.size ≤ 1000) (hn : row.length ≤ 1000) (hT : Tab W) (hW : TabW W) :
    Calls Tryd.prog 31 #[v, .int .i64 cols] W (FOut W (colsB cols && okR row) (foldP cols.toNat row)) := by
  have hcr := fun W' => colsRight_any cols W'
  have hfit := pFits_any (row.length : Int) v row false W hr htx (by omega) hT hW
  rw [okR_fits] at hfit
  obtain ⟨CB, hCB⟩ : ∃ CB, colsB cols = CB := ⟨_, rfl⟩
  have hcn := @colsB_nat cols
  rw [hCB] at hcr hcn ⊢
  obtain ⟨OB, hOB⟩ : ∃ OB, okR row = OB := ⟨_, rfl⟩
  have hfo := fun C (h1 : 1 ≤ C) (h2 : C ≤ 80) (h3 : okR row = true) W' (hb : Below W.heap.size W W') => folded_any v row C W' (hr.below hb) h3 htx (by omega) h1 h2
  rw [hOB] at hfit hfo ⊢
  obtain ⟨A, c, rfl⟩ := hr.spell
  obtain ⟨n, hnn⟩ : ∃ n, row.length = n := ⟨_, rfl⟩
  rw [hnn] at hfit hfo hn ⊢
  have hni : ¬ (16000 : Int) < (n : Int) := by omega
  have HCR := hid hcr
  have HFIT := hid hfit
  have HFO := hid hfo
  clear hcr hfit hfo hT hW hCB hOB hr hnn
  cases CB
  · go_enter Tryd.func31, Tryd.ntmps31
    go_wp2_with (with_reducible refine (HCR.out _).mono ?_; rintro e w3 ⟨rfl, rfl⟩)
    go_ret2
    exact ⟨none, 0, 0, 1, rfl, Below.refl _ _, .inr ⟨rfl, rfl, rfl⟩⟩
  · cases OB
    · go_enter Tryd.func31, Tryd.ntmps31
      go_wp2_with (first | (with_reducible refine (HCR.out _).mono ?_; rintro e w3 ⟨rfl, rfl⟩) | (with_reducible refine HFIT.out.mono ?_; rintro e w2 ⟨rfl, hb⟩))
      go_ret2
      exact ⟨none, 0, 0, 1, rfl, hb, .inr ⟨rfl, rfl, rfl⟩⟩
    · obtain ⟨C, rfl, hC1, hC2⟩ := hcn rfl
      have hct : ((C : Int)).toNat = C := Int.toNat_natCast C
      rw [hct]
      clear hcn hct
      go_enter Tryd.func31, Tryd.ntmps31
      go_upto_region 3 with (first | (with_reducible refine (HCR.out _).mono ?_; rintro e w3 ⟨rfl, rfl⟩) | (with_reducible refine HFIT.out.mono ?_; rintro e w2 ⟨rfl, hb⟩))
      go_wp2_with fail
      with_reducible refine (HFO.out C hC1 hC2 (by simp) _ hb).mono ?_
      rintro e w4 ⟨v4, lv4, rfl, h1, h2, h3, hb4⟩
      dsimp only
      obtain ⟨A4, c4, rfl⟩ := h2.spell
      go_wp2
      go_ret2
      exact ⟨A4, _, c4, 0, rfl, hb.trans (hb4.mono hb.size), .inl ⟨rfl, rfl, lv4, h1, world_own h2 hb.size, fun e he => (h3 e he).mono hb.size⟩⟩
end Go.Proofs.YtkejoknphnkhnaaDoor

namespace Go.Proofs.YtkejoknphnkhnaaDoor
open Go.RowKit

def jStep (s : List (List Ce) × List Ce) (l : Ln) : List (List Ce) × List Ce :=
  if l.soft = true then (s.1, s.2 ++ l.cs) else (s.1 ++ [trimL (s.2 ++ l.cs)], [])
def endOk (ls : List Ln) : Prop := ls = [] ∨ ∃ a l, ls = a ++ [l] ∧ l.soft = false
theorem joinS_fold {ls : List Ln} (h : endOk ls) : ∀ k, k ≤ ls.length → joinS ls k = (ls.take k).foldl jStep ([], [])
  | 0, _ => rfl
  | k + 1, hk => by
    have ih := joinS_fold h k (by omega)
    have hx : ls[k]? = some ls[k] := List.getElem?_eq_getElem (by omega)
    rw [List.take_succ_eq_append_getElem (by omega), List.foldl_append, ← ih]
    show joinS ls (k + 1) = jStep (joinS ls k) ls[k]
    unfold jStep
    by_cases hs : ls[k].soft = true
    · rw [if_pos hs]
      refine joinS_go hx hs fun e => ?_
      rcases h with rfl | ⟨a, l, h1, h2⟩
      · simp at hk
      · have hl : ls.length = a.length + 1 := by rw [h1, List.length_append, List.length_singleton]
        have hka : k = a.length := by omega
        subst h1
        subst hka
        rw [List.getElem?_concat_length] at hx
        rw [← Option.some.inj hx, h2] at hs
        cases hs
    · rw [if_neg hs]
      exact joinS_end hx (.inl (by simpa using hs))
theorem joinP_fold {ls : List Ln} (h : endOk ls) : joinP ls = (ls.foldl jStep ([], [])).1 := by
  unfold joinP
  rw [joinS_fold h _ (Nat.le_refl _), List.take_length]
/-- Cells that stand alone. -/
def Ones (l : List Ce) : Prop := ∀ c ∈ l, rightB c = true ∧ c.wd = 1 ∧ c.tx.size ≤ 1000
theorem b0_ones : rightB b0C = true := by decide +kernel
theorem Ones.ok : ∀ {l : List Ce}, Ones l → okR l = true
  | [], _ => rfl
  | c :: r, h => by
    obtain ⟨h1, h2, _⟩ := h c (by simp)
    have ih := Ones.ok (l := r) fun x hx => h x (by simp [hx])
    obtain ⟨i1, i2⟩ := okR_iff.1 ih
    refine okR_iff.2 ⟨?_, ?_⟩
    · rw [rights_cons, h1, i1]; rfl
    · show (!hf 1 c r && wholeL c.wd r) = true
      rw [hf_one _ _ _ h2, h2, i2]; rfl
theorem Ones.segs : ∀ {l : List Ce}, Ones l → segs l = l.map fun c => [c]
  | [], _ => rfl
  | c :: r, h => by
    rw [segs_one (h c (by simp)).2.1, Ones.segs (l := r) fun x hx => h x (by simp [hx])]
    rfl
theorem Ones.append {a b : List Ce} (ha : Ones a) (hb : Ones b) : Ones (a ++ b) := fun c hc => (List.mem_append.1 hc).elim (ha c) (hb c)
theorem Ones.b0 (k : Nat) : Ones (List.replicate k b0C) := fun c hc => by
  rw [List.eq_of_mem_replicate hc]
  exact ⟨b0_ones, rfl, by decide⟩
theorem Ones.trim {l : List Ce} (h : Ones l) : Ones (trimL l) := fun c hc => h c (trimL_mem hc)
theorem joinS_ones {ls : List Ln} (h : ∀ l ∈ ls, Ones l.cs) : ∀ k, k ≤ ls.length → (∀ r ∈ (joinS ls k).1, Ones r ∧ trimL r = r) ∧ Ones (joinS ls k).2
  | 0, _ => ⟨fun r hr => by simp [joinS] at hr, fun c hc => by simp [joinS] at hc⟩
  | k + 1, hk => by
    obtain ⟨i1, i2⟩ := joinS_ones h k (by omega)
    have hx : ls[k]? = some ls[k] := List.getElem?_eq_getElem (by omega)
    have hl := i2.append (h _ (List.mem_of_getElem? hx))
    by_cases hs : ls[k].soft = true ∧ k + 1 ≠ ls.length
    · rw [joinS_go hx hs.1 hs.2]
      exact ⟨i1, hl⟩
    · rw [joinS_end hx (by
        by_cases h1 : ls[k].soft = true
        · exact .inr (Classical.byContradiction fun e => hs ⟨h1, e⟩)
        · exact .inl (by simpa using h1))]
      refine ⟨fun r hr => ?_, fun c hc => by simp at hc⟩
      rw [List.mem_append, List.mem_singleton] at hr
      rcases hr with hr | rfl
      · exact i1 r hr
      · exact ⟨hl.trim, trimL_trim _⟩
theorem joinP_ones {ls : List Ln} (h : ∀ l ∈ ls, Ones l.cs) : ∀ r ∈ joinP ls, Ones r ∧ trimL r = r := (joinS_ones h _ (Nat.le_refl _)).1
/-- Such rows, folded: each line is full, but for the last one. -/
theorem foldS_ones {C : Nat} (hC : 1 ≤ C) (rs : List (List Ce)) {r : List Ce} : Ones r →
    (∀ l ∈ (foldS C (r.map fun c => [c])).1, l.soft = true ∧ l.cs.length = C ∧ Ones l.cs) ∧ Ones (foldS C (r.map fun c => [c])).2 ∧
    ∃ X, (foldS C (r.map fun c => [c])).1.foldl jStep (rs, []) = (rs, X) ∧ X ++ (foldS C (r.map fun c => [c])).2 = r := by
  refine snoc_ind (P := fun r => Ones r →
    (∀ l ∈ (foldS C (r.map fun c => [c])).1, l.soft = true ∧ l.cs.length = C ∧ Ones l.cs) ∧ Ones (foldS C (r.map fun c => [c])).2 ∧
    ∃ X, (foldS C (r.map fun c => [c])).1.foldl jStep (rs, []) = (rs, X) ∧ X ++ (foldS C (r.map fun c => [c])).2 = r) (fun _ => ⟨fun l hl => by simp [foldS] at hl, fun c hc => by simp [foldS] at hc, [], rfl, rfl⟩) (fun r c ih h => ?_) r
  have hr : Ones r := fun x hx => h x (by simp [hx])
  have hc1 : Ones [c] := fun x hx => h x (by simp at hx; simp [hx])
  obtain ⟨i1, i2, X, i3, i4⟩ := ih hr
  have hlen := (foldS_len C (r.map fun c => [c])).1
  rw [List.map_append, List.map_singleton, foldS_snoc]
  unfold foldStep
  rw [if_neg (by simp; omega)]
  by_cases hf : C < (foldS C (r.map fun c => [c])).2.length + [c].length
  · rw [if_pos hf]
    simp only [List.length_singleton] at hf
    have hl : (foldS C (r.map fun c => [c])).2.length = C := by omega
    have hfill : fillP C (foldS C (r.map fun c => [c])).2 = (foldS C (r.map fun c => [c])).2 := by
      unfold fillP
      rw [hl, Nat.sub_self, List.replicate_zero, List.append_nil]
    rw [hfill]
    refine ⟨fun l hm => ?_, hc1, X ++ (foldS C (r.map fun c => [c])).2, ?_, by rw [i4]⟩
    · rw [List.mem_append, List.mem_singleton] at hm
      rcases hm with hm | rfl
      · exact i1 l hm
      · exact ⟨rfl, hl, i2⟩
    · rw [List.foldl_append, i3]
      rfl
  · rw [if_neg hf]
    exact ⟨i1, i2.append hc1, X, i3, by rw [← List.append_assoc, i4]⟩
theorem foldP_ones {C : Nat} (hC : 1 ≤ C) (rs : List (List Ce)) {r : List Ce} (h : Ones r) :
    (∀ l ∈ foldP C r, l.cs.length = C ∧ Ones l.cs) ∧ (foldP C r).foldl jStep (rs, []) = (rs ++ [trimL r], []) := by
  obtain ⟨i1, i2, X, i3, i4⟩ := foldS_ones hC rs h
  have hlen := (foldS_len C (r.map fun c => [c])).1
  unfold foldP
  rw [h.segs]
  refine ⟨fun l hl => ?_, ?_⟩
  · rw [List.mem_append, List.mem_singleton] at hl
    rcases hl with hl | rfl
    · exact ⟨(i1 l hl).2.1, (i1 l hl).2.2⟩
    · refine ⟨?_, i2.append (Ones.b0 _)⟩
      show ((foldS C (r.map fun c => [c])).2 ++ List.replicate _ b0C).length = C
      rw [List.length_append, List.length_replicate]
      omega
  · rw [List.foldl_append, i3]
    show (rs ++ [trimL (X ++ ((foldS C (r.map fun c => [c])).2 ++ List.replicate _ b0C))], ([] : List Ce)) = _
    rw [← List.append_assoc, i4, trimL_pad]
theorem flow_fold {C : Nat} (hC : 1 ≤ C) : ∀ (rows : List (List Ce)) (rs : List (List Ce)), (∀ r ∈ rows, Ones r) → ((rows.map (foldP C)).flatten).foldl jStep (rs, []) = (rs ++ rows.map trimL, [])
  | [], rs, _ => by simp
  | r :: q, rs, h => by
    rw [List.map_cons, List.flatten_cons, List.foldl_append, (foldP_ones hC rs (h r (by simp))).2, flow_fold hC q _ fun x hx => h x (by simp [hx])]
    simp
theorem flow_end (C : Nat) (rows : List (List Ce)) : endOk (rows.map (foldP C)).flatten := by
  refine snoc_ind (P := fun rows => endOk (rows.map (foldP C)).flatten) (.inl rfl) (fun q r _ => ?_) rows
  right
  refine ⟨(q.map (foldP C)).flatten ++ (foldS C (segs r)).1, ⟨fillP C (foldS C (segs r)).2, false⟩, ?_, rfl⟩
  rw [List.map_append, List.flatten_append, List.append_assoc]
  congr 1
  simp [foldP]
/-- Lines that flow say the same. -/
theorem flow_joins {C : Nat} (hC : 1 ≤ C) {ls : List Ln} (h : ∀ l ∈ ls, Ones l.cs) : joinP (flowP C ls) = joinP ls ∧ ∀ l ∈ flowP C ls, l.cs.length = C ∧ Ones l.cs := by
  have hj := joinP_ones h
  refine ⟨?_, fun l hl => ?_⟩
  · unfold flowP
    rw [joinP_fold (flow_end C _), flow_fold hC _ _ fun r hr => (hj r hr).1]
    show [] ++ (joinP ls).map trimL = joinP ls
    rw [List.nil_append]
    conv => rhs; rw [← List.map_id (joinP ls)]
    exact List.map_congr_left fun r hr => (hj r hr).2
  · unfold flowP at hl
    obtain ⟨p, hp, hlp⟩ := List.mem_flatten.1 hl
    obtain ⟨r, hr, rfl⟩ := List.mem_map.1 hp
    exact (foldP_ones hC [] (hj r hr).1).1 l hlp
/-- Lines of so many columns may be. -/
theorem ones_kept {C : Nat} (hC : 1 ≤ C) (hC2 : C ≤ 80) {lv : List (Ln × Value)} (h : ∀ e ∈ lv, e.1.cs.length = C ∧ Ones e.1.cs) : keptB lv = true := by
  unfold keptB
  rw [List.all_eq_true]
  intro e he
  obtain ⟨h1, h2⟩ := h e he
  unfold keptE
  rw [okR_fits, h2.ok, Bool.and_true, h1]
  exact decide_eq_true ⟨by omega, by omega⟩
end Go.Proofs.YtkejoknphnkhnaaDoor
