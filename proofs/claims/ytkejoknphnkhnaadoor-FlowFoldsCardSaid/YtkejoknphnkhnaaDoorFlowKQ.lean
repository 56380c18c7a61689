/- Layer 8, the reference: Line, Say. -/
/- Layer 8, the reference: Fold, Flow. Made by wip/gen/flowK.py. -/
import Derived.Test.YtkejoknphnkhnaaDoorFlowXQ
import Derived.Deep.LoopGhost
import Derived.Test.YtkejoknphnkhnaaDoorFlowJQ
namespace Go.Proofs.YtkejoknphnkhnaaDoor
open Go.RowKit

/-- What holds while a line is filled. -/
def LnRel (W wr : World) (l : List Ce) (cols : Nat) (soft : Bool) (k : Nat) : Prop :=
  ∃ v j, l.length + j + k = cols ∧ Box wr (W.heap.size + 1) 61 #[v, .bool soft] ∧ OwnC wr W.heap.size v (l ++ List.replicate j b0C) ∧ Box wr W.heap.size 61 #[.slice none 0 0, .bool false] ∧ Below W.heap.size W wr
theorem ln_step {W wr w7 : World} {l : List Ce} {soft : Bool} {v v' : Value} {m : List Ce} {lc : Array Value} (hb : Box wr (W.heap.size + 1) 61 #[v, .bool soft]) (ho : OwnC wr W.heap.size v l) (hz : Box wr W.heap.size 61 #[.slice none 0 0, .bool false]) (hW : Below W.heap.size W wr)
    (h7 : OwnC w7 W.heap.size v' (l ++ m)) (wz : World) (hwz : wz = wr ∨ wz = wr.alloc (.cells lc 66)) (hg : wz.grownBy w7 v.ownBlock) :
    Box (w7.setCell ⟨W.heap.size + 1, 0, none⟩ v') (W.heap.size + 1) 61 #[v', .bool soft] ∧ OwnC (w7.setCell ⟨W.heap.size + 1, 0, none⟩ v') W.heap.size v' (l ++ m) ∧ Box (w7.setCell ⟨W.heap.size + 1, 0, none⟩ v') W.heap.size 61 #[.slice none 0 0, .bool false] ∧ Below W.heap.size W (w7.setCell ⟨W.heap.size + 1, 0, none⟩ v') := by
  have hbz : Below wr.heap.size wr wz := by
    rcases hwz with rfl | rfl
    · exact Below.refl _ _
    · exact below_alloc _ _
  have o2 := ho.kept hbz
  have b7 := (hb.below hbz hb.lt).grown hg (o2.not_box (hb.below hbz hb.lt) (by decide))
  have z7 := (hz.below hbz hz.lt).grown hg (o2.not_box (hz.below hbz hz.lt) (by decide))
  refine ⟨b7.set (i := 0) v', h7.set b7 (by decide) _, z7.other (by omega) _, below_set ((hW.trans (hbz.mono hW.size)).grown hg (Nat.le_trans hW.size hbz.size) fun q hq => (World.ownsRow.lt o2 q hq).1) (by omega) _⟩
set_option maxRecDepth 100000 in
set_option maxHeartbeats 4000000 in
theorem rLine_any (cols : Nat) (v : Value) (l : List Ce) (soft : Bool) (W : World) (hr : CeRow W v l) (hl : l.length ≤ cols) (hc : cols ≤ 100) :
    Calls Tryd.prog 64 #[v, .int .i64 (cols : Int), .bool soft] W (LinePost W (fillP cols l) soft) := by
  obtain ⟨A, c0, rfl⟩ := hr.spell
  have b0 := ((Bxs.nil W).alloc 61 #[.slice none 0 0, .bool false]).alloc 61 #[.slice none 0 0, .bool soft]
  simp only [World.size_alloc, List.nil_append, List.cons_append] at b0
  have h0 : Below W.heap.size W ((W.alloc (.cells #[.slice none 0 0, .bool false] 61)).alloc (.cells #[.slice none 0 0, .bool soft] 61)) := (below_alloc _ _).alloc (by simp) _
  have s0 : W.heap.size + 1 < ((W.alloc (.cells #[.slice none 0 0, .bool false] 61)).alloc (.cells #[.slice none 0 0, .bool soft] 61)).heap.size := by simp
  obtain ⟨n, hn⟩ : ∃ n, l.length = n := ⟨_, rfl⟩
  rw [hn] at hr hl ⊢
  have HN := hid hn
  have HR := hid (hr.below h0)
  have H0 := hid h0
  have B0 := hid b0
  clear h0 b0 hr hn
  unfold LinePost
  go_enter Tryd.func64, Tryd.ntmps64
  go_upto_region 2 with fail
  generalize ((W.alloc (.cells #[.slice none 0 0, .bool false] 61)).alloc (.cells #[.slice none 0 0, .bool soft] 61)) = w0 at *
  have hq1 : Box w0 (W.heap.size + 1) 61 #[.slice none 0 0, .bool soft] := B0.out.get 1 rfl
  have hq0 : Box w0 W.heap.size 61 #[.slice none 0 0, .bool false] := B0.out.get 0 rfl
  have HQ1 := hid hq1
  have HQ0 := hid hq0
  obtain ⟨⟨k0, k1⟩, f0, f1⟩ := hq1.two
  clear hq1 hq0
  have hsW : W.heap.size ≤ w0.heap.size := H0.out.size
  go_upto_region 3 with (at_builtin; refine wpList_append_ce rfl _ _ rfl W.heap.size _ _ [] l rfl (OwnC.nil _ _) rfl HR.out (by rw [HN.out, List.length_nil]; omega) hsW ?_; intro v1 w1 g1 g2; obtain ⟨A1, c1, hv1⟩ := g1.spell; rw [List.nil_append, HN.out] at hv1; subst hv1; have G1 := hid g1; have G2 := hid g2; clear g1 g2; have hbx := HQ1.out.grown G2.out (OwnC.not_box (OwnC.nil w0 W.heap.size) HQ1.out (by decide)); obtain ⟨⟨m0, m1⟩, mf0, mf1⟩ := hbx.two)
  have hst := ln_step (lc := #[]) HQ1.out (OwnC.nil _ _) HQ0.out H0.out G1.out w0 (.inl rfl) G2.out
  have hstart : LnRel W (w1.setCell ⟨W.heap.size + 1, 0, none⟩ (.slice A1 n c1)) l cols soft (cols - n) := ⟨_, 0, by rw [HN.out]; omega, hst.1, by have := hst.2.1; rw [List.nil_append] at this; rw [List.replicate_zero, List.append_nil]; exact this, hst.2.2.1, hst.2.2.2⟩
  have HST := hid hstart
  clear hst hstart m0 m1 mf0 mf1 k0 k1 f0 f1 hbx
  go_wp2
  go_loopg [] (cols - n) (fun k wr => LnRel W wr l cols soft k)
  case atStart => exact HST.out
  case round =>
    obtain ⟨v, j, q1, q2, q3, q4, q5⟩ := hrel
    rw [HN.out] at q1
    obtain ⟨A2, c2, hv2⟩ := q3.spell
    have hlen : (l ++ List.replicate j b0C).length = n + j := by rw [List.length_append, List.length_replicate, HN.out]
    rw [hlen] at hv2
    subst hv2
    obtain ⟨⟨k0, k1⟩, f0, f1⟩ := q2.two
    obtain ⟨⟨z0, z1⟩, y0, y1⟩ := q4.two
    have HL := hid hlen
    have Q2 := hid q2
    have Q3 := hid q3
    have Q4 := hid q4
    have Q5 := hid q5
    have hsz : W.heap.size ≤ wr.heap.size := q5.size
    have hlt1 : W.heap.size + 1 < wr.heap.size := q2.lt
    clear hlen q2 q3 q4 q5
    by_cases hlt : n + j < cols
    · have hki : (n : Int) + (j : Int) < (cols : Int) := by omega
      have hown2 : OwnC (wr.alloc (.cells #[.string ⟨#[]⟩, .int .i64 1, .int .i64 0, .int .i64 0, .int .i64 0] 66)) W.heap.size (.slice A2 (n + j) c2) (l ++ List.replicate j b0C) := Q3.out.kept (below_alloc wr _)
      have hlit : CeRow (wr.alloc (.cells #[.string ⟨#[]⟩, .int .i64 1, .int .i64 0, .int .i64 0, .int .i64 0] 66)) (.slice (some ⟨wr.heap.size, 0, none⟩) 1 1) [b0C] := ce_lit wr b0C
      have HO2 := hid hown2
      have HLIT := hid hlit
      clear hown2 hlit
      go_wp2_with (at_builtin; refine wpList_append_ce rfl _ _ rfl W.heap.size _ _ _ [b0C] rfl HO2.out rfl HLIT.out (by rw [HL.out]; simp; omega) (by simp; omega) ?_; intro v7 w7 g1 g2; obtain ⟨A7, c7, hv7⟩ := g1.spell; rw [List.length_append, HL.out, List.length_singleton] at hv7; subst hv7; have G1 := hid g1; have G2 := hid g2; clear g1 g2; have hbx := (Q2.out.alloc (.cells #[.string ⟨#[]⟩, .int .i64 1, .int .i64 0, .int .i64 0, .int .i64 0] 66)).grown G2.out (OwnC.not_box HO2.out (Q2.out.alloc _) (by decide)); obtain ⟨⟨m0, m1⟩, mf0, mf1⟩ := hbx.two)
      have hst := ln_step Q2.out Q3.out Q4.out Q5.out G1.out _ (.inr rfl) G2.out
      have HST2 := hid hst
      clear hst
      go_roundg (gk - 1)
      case rel => exact ⟨_, j + 1, by rw [HN.out]; omega, HST2.out.1, by rw [List.replicate_succ', ← List.append_assoc]; exact HST2.out.2.1, HST2.out.2.2.1, HST2.out.2.2.2⟩
      case measure => omega
    · have hjc : j = cols - n := by omega
      have hnj : n + j = cols := by omega
      have hki : ¬ (n : Int) + (j : Int) < (cols : Int) := by omega
      have hF : CSl ((wr.setCell ⟨W.heap.size, 0, none⟩ (.slice A2 (n + j) c2)).setCell ⟨W.heap.size, 1, none⟩ (.bool soft)) W.heap.size (.slice A2 (n + j) c2) (fillP cols l) := by
        have h := (Q3.out.csl.set Q4.out (by decide) (i := 0) (.slice A2 (n + j) c2)).set (Q4.out.set _) (by decide) (i := 1) (.bool soft)
        unfold fillP
        rw [HN.out, ← hjc]
        exact h
      have hB : Below W.heap.size W ((wr.setCell ⟨W.heap.size, 0, none⟩ (.slice A2 (n + j) c2)).setCell ⟨W.heap.size, 1, none⟩ (.bool soft)) := below_set (below_set Q5.out (Nat.le_refl _) _) (Nat.le_refl _) _
      have HF := hid hF
      have HB := hid hB
      clear hF hB hjc hnj hlt
      go_wp2
      refine bodyPost_ret (v := .agg #[.slice A2 (n + j) c2, .bool soft]) (by simp [results, Tryd.results64, go_sem, z0, z1]) rfl ?_
      exact ⟨_, rfl, HF.out, HB.out⟩
end Go.Proofs.YtkejoknphnkhnaaDoor

namespace Go.Proofs.YtkejoknphnkhnaaDoor
open Go.RowKit

set_option maxRecDepth 100000 in
theorem slice_ce_lh {W : World} {A : Option Addr} {n c : Nat} {l : List Ce} (hr : CeRow W (.slice A n c) l) (hl : l.length = n) (k m : Nat) (hk : k + m ≤ n) (hm : 0 < m) (hi : Int) (hhi : hi = (k : Int) + (m : Int)) :
    ∃ A', (∀ w, (Instr.sliceAt 52 (.slice A n c) (some (.int .i64 k)) (some (.int .i64 hi)) none).run Tryd.prog w = .ok (.slice A' m (c - k)) w) ∧ CeRow W (.slice A' m (c - k)) ((l.drop k).take m) := by
  obtain ⟨A', c', e, hc, hcell⟩ := hr
  rw [hl] at e hc
  cases e
  have hlen : ((l.drop k).take m).length = m := by rw [List.length_take, List.length_drop, hl]; omega
  refine ⟨if c = k then A else A.map (·.add (k * 5)), fun w => ?_, ?_⟩
  · rw [run_sliceAt_slice w _ _ _ _ _ Tryd.underlying52, run_slice_lh w 52 A _ c Tryd.underlying52 .i64 .i64 k hi (by omega) (by omega) (by omega), ce_cells']
    simp only [Result.andThen, Int.toNat_natCast, sliced]
    rw [show hi.toNat - k = m by omega]
  · refine ⟨_, _, by rw [hlen], by omega, fun _ => ?_⟩
    obtain ⟨g, o, rfl, hg, hcell⟩ := hcell (List.length_pos_iff.1 (by omega))
    refine ⟨g, o + k * 5, ?_, hg, fun j e he i u hu => ?_⟩
    · rw [if_neg (by omega)]
      show some ((⟨g, o, none⟩ : Addr).add (k * 5)) = _
      rw [addr_add]
    · rw [List.getElem?_take] at he
      split at he
      · rw [List.getElem?_drop] at he
        have := hcell (k + j) e he i u hu
        rwa [show o + k * 5 + j * 5 + i = o + (k + j) * 5 + i by omega]
      · cases he
def FRel (W wr : World) (C : Nat) (done : List (List Ce)) (ov nv : Value) : Prop :=
  ∃ w0 lines now, (∀ e ∈ lines, CSl w0 W.heap.size e.2 e.1.cs) ∧ OwnL w0 W.heap.size ov lines ∧ lines.map Prod.fst = (foldS C done).1 ∧ OwnC wr w0.heap.size nv now ∧ now = (foldS C done).2 ∧ Below W.heap.size W w0 ∧ Below w0.heap.size w0 wr
/-- A line more. -/
theorem fold_more {W w0 wr w2 w7 : World} {lines : List (Ln × Value)} {ov v' v2 : Value} {x : Ln} (h1 : ∀ e ∈ lines, CSl w0 W.heap.size e.2 e.1.cs) (h2 : OwnL w0 W.heap.size ov lines) (hW : Below W.heap.size W w0) (hA : Below w0.heap.size w0 wr) (hb : Below wr.heap.size wr w2) (hy : CSl w2 wr.heap.size v2 x.cs)
    (_h7 : OwnL w7 W.heap.size v' (lines ++ [(x, v2)])) (hg : (w2.alloc (.cells #[v2, .bool x.soft] 61)).grownBy w7 ov.ownBlock) : (∀ e ∈ lines ++ [(x, v2)], CSl w7 W.heap.size e.2 e.1.cs) ∧ Below W.heap.size W w7 := by
  have h02 := hA.trans (hb.mono hA.size)
  have hB := h02.trans ((below_alloc w2 (.cells #[v2, .bool x.soft] 61)).mono h02.size)
  have o2 := h2.kept hB
  refine ⟨fun e he => ?_, ?_⟩
  · rw [List.mem_append, List.mem_singleton] at he
    rcases he with he | rfl
    · exact ((h1 e he).below hB (Nat.le_refl _)).grown o2 hg
    · exact ((hy.below (below_alloc w2 _) (Nat.le_refl _)).mono (Nat.le_trans hW.size hA.size)).grown o2 hg
  · exact (hW.trans (hB.mono hW.size)).grown hg (Nat.le_trans hW.size hB.size) (fun q hq => (World.ownsRow.lt o2 q hq).1)
theorem OwnL.lit0 {W : World} {base : Nat} (hb : base ≤ W.heap.size) : OwnL (W.alloc (.cells #[] 61)) base (.slice (some ⟨W.heap.size, 0, none⟩) 0 0) [] := by
  have h := OwnL.lit (W := W) (base := base) [] (by simp) hb
  simpa [lflat] using h
set_option maxRecDepth 100000 in
set_option maxHeartbeats 8000000 in
theorem rFold_any (v : Value) (row : List Ce) (C : Nat) (W : World) (hr : CeRow W v row) (hok : okR row = true) (hn : row.length ≤ 100000) (hC1 : 1 ≤ C) (hC2 : C ≤ 80) :
    Calls Tryd.prog 34 #[v, .int .i64 (C : Int)] W (FoPost W (foldP C row)) := by
  obtain ⟨A, c0, rfl⟩ := hr.spell
  obtain ⟨n, hnn⟩ : ∃ n, row.length = n := ⟨_, rfl⟩
  have hcap : n ≤ c0 := by
    obtain ⟨A', c', e', hcap, _⟩ := hr
    rw [hnn] at e' hcap
    cases e'
    exact hcap
  rw [hnn] at hr hn ⊢
  have hst : FRel W ((W.alloc (.cells #[] 61)).alloc (.cells #[] 66)) C [] (.slice (some ⟨W.heap.size, 0, none⟩) 0 0) (.slice (some ⟨W.heap.size + 1, 0, none⟩) 0 0) := by
    refine ⟨W.alloc (.cells #[] 61), [], [], fun e he => by simp at he, OwnL.lit0 (Nat.le_refl _), rfl, ?_, rfl, below_alloc _ _, below_alloc _ _⟩
    have := OwnC.lit0 (W := W.alloc (.cells #[] 61)) (base := (W.alloc (.cells #[] 61)).heap.size) (Nat.le_refl _)
    simpa using this
  have HN := hid hnn
  have HR := hid hr
  have HOK := hid hok
  have HST := hid hst
  have hCi : (1 : Int) ≤ (C : Int) := by omega
  have hCj : (C : Int) ≤ 80 := by omega
  unfold FoPost
  clear hr hok hst hnn
  go_enter Tryd.func34, Tryd.ntmps34
  go_wp2
  go_loopw [5, 6, 7] (fun ov nv i wr => ∃ (k : Nat) (done : List (List Ce)), k ≤ n ∧ i = .int .i64 k ∧ okR (row.drop k) = true ∧ done ++ segs (row.drop k) = segs row ∧ done.length ≤ k ∧ FRel W wr C done ov nv) (fun _ _ i _ => n - (intOf i).toNat)
  case atStart => exact ⟨0, [], by omega, rfl, HOK.out, rfl, Nat.le_refl _, HST.out⟩
  case round =>
    obtain ⟨k, done, hk, rfl, hko, hsg, hdl, w0, lines, now, h1, h2, h3, h4, h5, h6, h7⟩ := hrel
    obtain ⟨lA, lc, hlv⟩ := h2.spell
    obtain ⟨ln, hln⟩ : ∃ ln, lines.length = ln := ⟨_, rfl⟩
    rw [hln] at hlv
    subst hlv
    obtain ⟨nA, nc, hnv⟩ := h4.spell
    obtain ⟨nn, hnn⟩ : ∃ nn, now.length = nn := ⟨_, rfl⟩
    rw [hnn] at hnv
    subst hnv
    have hfl := foldS_len C done
    rw [← h3, ← h5, hnn, List.length_map, hln] at hfl
    obtain ⟨hfl1, hfl2⟩ := hfl
    have hbl : Below W.heap.size W wr := h6.trans (h7.mono h6.size)
    by_cases hlt : k < n
    · have hki : (k : Int) < n := by omega
      have hkb : (k : Int) ≤ 100000 := by omega
      have hk0 : (0 : Int) ≤ k := by omega
      have hdn : row.drop k ≠ [] := by intro e; have := congrArg List.length e; rw [List.length_drop, HN.out] at this; simp at this; omega
      obtain ⟨t, r, htk, hl, hsst, hkr, ⟨x, q, hlx, hwx⟩⟩ := segs_step hko hdn
      obtain ⟨tl, htl⟩ : ∃ tl, t.length = tl := ⟨_, rfl⟩
      have htb := htk.len
      rw [htl] at hwx htb
      have hlen := congrArg List.length hl
      rw [List.length_drop, List.length_append, HN.out, htl] at hlen
      have hkt : k + tl ≤ n := by omega
      have htne : t ≠ [] := by rintro rfl; simp at htl; omega
      obtain ⟨g, o, x', rfl, hg, hx', hcell⟩ := row_cells HR.out HN.out k hlt
      have hxx : x' = x := by
        have e1 : (row.drop k)[0]? = some x := by rw [hlx]; rfl
        rw [List.getElem?_drop, Nat.add_zero, hx'] at e1
        exact Option.some.inj e1
      subst hxx
      obtain ⟨_, p1, _⟩ := ccells (W := wr) (g := g) (o := o + k * 5) (e := x') (fun i u hu => hcell _ hbl i u hu)
      rw [hwx] at p1
      obtain ⟨A3, hsl, hr3⟩ := slice_ce_lh HR.out HN.out k tl hkt (by omega) ((k : Int) + (tl : Int)) rfl
      have htt : (row.drop k).take tl = t := by rw [hl, ← htl, List.take_left]
      have hdd : row.drop (k + tl) = r := by rw [← List.drop_drop, hl, ← htl, List.drop_left]
      rw [htt] at hr3
      have HKR : Hid (okR (row.drop (k + tl)) = true) := by unfold Hid; rw [hdd]; exact hkr
      have HSG : Hid ((done ++ [t]) ++ segs (row.drop (k + tl)) = segs row) := by unfold Hid; rw [hdd, ← hsg, hsst, List.append_assoc]; rfl
      have HDL : Hid ((done ++ [t]).length ≤ k + tl) := by unfold Hid; rw [List.length_append, List.length_singleton]; omega
      have HFS : Hid (foldS C (done ++ [t]) = foldStep C (lines.map Prod.fst, now) t) := by unfold Hid; rw [foldS_snoc, h3, h5]
      have HTL := hid htl
      have HR3 := hid hr3
      have H1 := hid h1
      have H2 := hid h2
      have H4 := hid h4
      have H6 := hid h6
      have H7 := hid h7
      have HNN := hid hnn
      have HLN := hid hln
      have HBL := hid hbl
      have hnni : (nn : Int) ≤ 80 := by omega
      have hw0 : w0.heap.size ≤ wr.heap.size := h7.size
      have hWw : W.heap.size ≤ w0.heap.size := h6.size
      clear hko hsg h1 h2 h3 h4 h5 h6 h7 hnn hln hbl hdn htk hl hsst hkr hlx hwx hlen hx' hcell htt hdd hr3 htl hg
      rcases htb with rfl | rfl
      · have e0 : ((1 : Nat) : Int) = 1 := rfl
        rw [e0] at p1 hsl
        have hw1i : (1 : Int) ≤ (C : Int) := by omega
        by_cases hw2 : C < nn + 1
        · have HR1 : Hid (foldS C (done ++ [t]) = (lines.map Prod.fst ++ [⟨fillP C now, true⟩], t)) := by unfold Hid; rw [HFS.out, foldStep, if_neg (by rw [HTL.out]; omega)]; simp only; rw [if_pos (by rw [HTL.out, HNN.out]; exact hw2)]
          have hw2i : (C : Int) < (nn : Int) + 1 := by omega
          have hli := rLine_any C (.slice nA nn nc) now true wr H4.out.csl.row (by rw [HNN.out]; exact hfl1) (by omega)
          have HLI := hid hli
          clear hli hw2
          go_upto_region 9 with fail
          go_wp2_with fail
          with_reducible refine HLI.out.mono ?_
          rintro e w2 ⟨v2, rfl, f2, hb2⟩
          dsimp only
          have hoA := (H2.out.kept (H7.out.trans (hb2.mono hw0))).kept (below_alloc w2 (.cells #[v2, .bool true] 61))
          have hlit := ln_lit w2 ((⟨fillP C now, true⟩ : Ln), v2)
          simp only at hlit
          have hcsl : CesOf (w2.alloc (.cells #[v2, .bool true] 61)) [((⟨fillP C now, true⟩ : Ln), v2)] := by
            intro y hy
            rw [List.mem_singleton] at hy
            subst hy
            exact f2.row.below (below_alloc _ _)
          obtain ⟨A2, k2, c2, hv2⟩ : ∃ A2 k2 c2, v2 = .slice A2 k2 c2 := by obtain ⟨A2, c2, h⟩ := f2.spell; exact ⟨_, _, _, h⟩
          subst hv2
          have HOA := hid hoA
          have HLIT := hid hlit
          have HCSL := hid hcsl
          have F2 := hid f2
          have HB2 := hid hb2
          have hsz2 : W.heap.size ≤ w2.heap.size := Nat.le_trans (Nat.le_trans hWw hw0) hb2.size
          clear hoA hlit hcsl f2 hb2
          go_upto_region 10 with (at_builtin; refine wpList_append_ln rfl _ _ rfl W.heap.size _ _ lines [((⟨fillP C now, true⟩ : Ln), (.slice A2 k2 c2 : Value))] rfl HOA.out rfl HLIT.out HCSL.out (by rw [HLN.out]; simp; omega) (by simp; omega) ?_; intro v7 w7 g1 g2; obtain ⟨A7, c7, hv7⟩ := g1.spell; rw [List.length_append, HLN.out, List.length_singleton] at hv7; subst hv7; have K1 := hid g1; have K2 := hid g2; clear g1 g2)
          obtain ⟨hq1, hq2⟩ := fold_more H1.out H2.out H6.out H7.out HB2.out F2.out K1.out K2.out
          have HQ1 := hid hq1
          have HQ2 := hid hq2
          have hWw7 : W.heap.size ≤ w7.heap.size := hq2.size
          have hcr7 := HR3.out.below (hq2.trans (Below.refl _ _))
          have hcr8 := hcr7.below (below_alloc w7 (.cells #[] 66))
          have HCR := hid hcr8
          have hnw := OwnC.lit0 (W := w7) (base := w7.heap.size) (Nat.le_refl _)
          have HNW := hid hnw
          clear hq1 hq2 hcr7 hcr8 hnw
          go_upto_region 12 with fail
          go_wp2_with (at_builtin; refine wpList_append_ce rfl _ _ rfl w7.heap.size _ _ [] t rfl HNW.out rfl HCR.out (by rw [HTL.out, List.length_nil]; omega) (by simp) ?_; intro v8 w8 g1 g2; obtain ⟨A8, c8, hv8⟩ := g1.spell; rw [List.nil_append, HTL.out] at hv8; subst hv8; have L1 := hid g1; have L2 := hid g2; clear g1 g2)
          go_roundw
          case rel =>
            have hbb : Below w7.heap.size w7 w8 := (below_alloc w7 _).grown L2.out (by simp) fun q hq => (World.ownsRow.lt HNW.out q hq).1
            exact ⟨k + 1, done ++ [t], by omega, by go_num, HKR.out, HSG.out, HDL.out, w7, _, t, HQ1.out, K1.out, by rw [HR1.out, List.map_append]; rfl, by have := L1.out; rwa [List.nil_append] at this, by rw [HR1.out], HQ2.out, hbb⟩
          case measure => simp [intOf]; omega
        · have HR1 : Hid (foldS C (done ++ [t]) = (lines.map Prod.fst, now ++ t)) := by unfold Hid; rw [HFS.out, foldStep, if_neg (by rw [HTL.out]; omega)]; simp only; rw [if_neg (by rw [HTL.out, HNN.out]; exact hw2)]
          have hw2i : ¬ (C : Int) < (nn : Int) + 1 := by omega
          have hcr8 := HR3.out.below HBL.out
          have HCR := hid hcr8
          clear hcr8 hw2
          go_upto_region 12 with fail
          go_wp2_with (at_builtin; refine wpList_append_ce rfl _ _ rfl w0.heap.size _ _ now t rfl H4.out rfl HCR.out (by rw [HTL.out, HNN.out]; omega) hw0 ?_; intro v8 w8 g1 g2; obtain ⟨A8, c8, hv8⟩ := g1.spell; rw [List.length_append, HNN.out, HTL.out] at hv8; subst hv8; have L1 := hid g1; have L2 := hid g2; clear g1 g2)
          go_roundw
          case rel =>
            have hbb : Below w0.heap.size w0 w8 := H7.out.grown L2.out hw0 fun q hq => (World.ownsRow.lt H4.out q hq).1
            exact ⟨k + 1, done ++ [t], by omega, by go_num, HKR.out, HSG.out, HDL.out, w0, lines, now ++ t, H1.out, H2.out, by rw [HR1.out], L1.out, by rw [HR1.out], H6.out, hbb⟩
          case measure => simp [intOf]; omega
      · have e0 : ((2 : Nat) : Int) = 2 := rfl
        rw [e0] at p1 hsl
        by_cases hw1 : C < 2
        · have HR1 : Hid (foldS C (done ++ [t]) = (lines.map Prod.fst, now)) := by unfold Hid; rw [HFS.out, foldStep, if_pos (by rw [HTL.out]; exact hw1)]
          have hw1i : ¬ (2 : Int) ≤ (C : Int) := by omega
          clear hw1
          go_wp2
          go_roundw
          case rel =>
            exact ⟨k + 2, done ++ [t], by omega, by go_num, HKR.out, HSG.out, HDL.out, w0, lines, now, H1.out, H2.out, by rw [HR1.out], H4.out, by rw [HR1.out], H6.out, H7.out⟩
          case measure => simp [intOf]; omega
        · have hw1i : (2 : Int) ≤ (C : Int) := by omega
          by_cases hw2 : C < nn + 2
          · have HR1 : Hid (foldS C (done ++ [t]) = (lines.map Prod.fst ++ [⟨fillP C now, true⟩], t)) := by unfold Hid; rw [HFS.out, foldStep, if_neg (by rw [HTL.out]; omega)]; simp only; rw [if_pos (by rw [HTL.out, HNN.out]; exact hw2)]
            have hw2i : (C : Int) < (nn : Int) + 2 := by omega
            have hli := rLine_any C (.slice nA nn nc) now true wr H4.out.csl.row (by rw [HNN.out]; exact hfl1) (by omega)
            have HLI := hid hli
            clear hli hw2
            go_upto_region 9 with fail
            go_wp2_with fail
            with_reducible refine HLI.out.mono ?_
            rintro e w2 ⟨v2, rfl, f2, hb2⟩
            dsimp only
            have hoA := (H2.out.kept (H7.out.trans (hb2.mono hw0))).kept (below_alloc w2 (.cells #[v2, .bool true] 61))
            have hlit := ln_lit w2 ((⟨fillP C now, true⟩ : Ln), v2)
            simp only at hlit
            have hcsl : CesOf (w2.alloc (.cells #[v2, .bool true] 61)) [((⟨fillP C now, true⟩ : Ln), v2)] := by
              intro y hy
              rw [List.mem_singleton] at hy
              subst hy
              exact f2.row.below (below_alloc _ _)
            obtain ⟨A2, k2, c2, hv2⟩ : ∃ A2 k2 c2, v2 = .slice A2 k2 c2 := by obtain ⟨A2, c2, h⟩ := f2.spell; exact ⟨_, _, _, h⟩
            subst hv2
            have HOA := hid hoA
            have HLIT := hid hlit
            have HCSL := hid hcsl
            have F2 := hid f2
            have HB2 := hid hb2
            have hsz2 : W.heap.size ≤ w2.heap.size := Nat.le_trans (Nat.le_trans hWw hw0) hb2.size
            clear hoA hlit hcsl f2 hb2
            go_upto_region 10 with (at_builtin; refine wpList_append_ln rfl _ _ rfl W.heap.size _ _ lines [((⟨fillP C now, true⟩ : Ln), (.slice A2 k2 c2 : Value))] rfl HOA.out rfl HLIT.out HCSL.out (by rw [HLN.out]; simp; omega) (by simp; omega) ?_; intro v7 w7 g1 g2; obtain ⟨A7, c7, hv7⟩ := g1.spell; rw [List.length_append, HLN.out, List.length_singleton] at hv7; subst hv7; have K1 := hid g1; have K2 := hid g2; clear g1 g2)
            obtain ⟨hq1, hq2⟩ := fold_more H1.out H2.out H6.out H7.out HB2.out F2.out K1.out K2.out
            have HQ1 := hid hq1
            have HQ2 := hid hq2
            have hWw7 : W.heap.size ≤ w7.heap.size := hq2.size
            have hcr7 := HR3.out.below (hq2.trans (Below.refl _ _))
            have hcr8 := hcr7.below (below_alloc w7 (.cells #[] 66))
            have HCR := hid hcr8
            have hnw := OwnC.lit0 (W := w7) (base := w7.heap.size) (Nat.le_refl _)
            have HNW := hid hnw
            clear hq1 hq2 hcr7 hcr8 hnw
            go_upto_region 12 with fail
            go_wp2_with (at_builtin; refine wpList_append_ce rfl _ _ rfl w7.heap.size _ _ [] t rfl HNW.out rfl HCR.out (by rw [HTL.out, List.length_nil]; omega) (by simp) ?_; intro v8 w8 g1 g2; obtain ⟨A8, c8, hv8⟩ := g1.spell; rw [List.nil_append, HTL.out] at hv8; subst hv8; have L1 := hid g1; have L2 := hid g2; clear g1 g2)
            go_roundw
            case rel =>
              have hbb : Below w7.heap.size w7 w8 := (below_alloc w7 _).grown L2.out (by simp) fun q hq => (World.ownsRow.lt HNW.out q hq).1
              exact ⟨k + 2, done ++ [t], by omega, by go_num, HKR.out, HSG.out, HDL.out, w7, _, t, HQ1.out, K1.out, by rw [HR1.out, List.map_append]; rfl, by have := L1.out; rwa [List.nil_append] at this, by rw [HR1.out], HQ2.out, hbb⟩
            case measure => simp [intOf]; omega
          · have HR1 : Hid (foldS C (done ++ [t]) = (lines.map Prod.fst, now ++ t)) := by unfold Hid; rw [HFS.out, foldStep, if_neg (by rw [HTL.out]; omega)]; simp only; rw [if_neg (by rw [HTL.out, HNN.out]; exact hw2)]
            have hw2i : ¬ (C : Int) < (nn : Int) + 2 := by omega
            have hcr8 := HR3.out.below HBL.out
            have HCR := hid hcr8
            clear hcr8 hw2
            go_upto_region 12 with fail
            go_wp2_with (at_builtin; refine wpList_append_ce rfl _ _ rfl w0.heap.size _ _ now t rfl H4.out rfl HCR.out (by rw [HTL.out, HNN.out]; omega) hw0 ?_; intro v8 w8 g1 g2; obtain ⟨A8, c8, hv8⟩ := g1.spell; rw [List.length_append, HNN.out, HTL.out] at hv8; subst hv8; have L1 := hid g1; have L2 := hid g2; clear g1 g2)
            go_roundw
            case rel =>
              have hbb : Below w0.heap.size w0 w8 := H7.out.grown L2.out hw0 fun q hq => (World.ownsRow.lt H4.out q hq).1
              exact ⟨k + 2, done ++ [t], by omega, by go_num, HKR.out, HSG.out, HDL.out, w0, lines, now ++ t, H1.out, H2.out, by rw [HR1.out], L1.out, by rw [HR1.out], H6.out, hbb⟩
            case measure => simp [intOf]; omega
    · have hkn : k = n := by omega
      subst hkn
      have hdr : row.drop k = [] := List.drop_eq_nil_of_le (by rw [HN.out]; omega)
      rw [hdr] at hsg
      have hdone : done = segs row := by rw [← hsg]; exact (List.append_nil _).symm
      have HFO : Hid (foldP C row = lines.map Prod.fst ++ [⟨fillP C now, false⟩]) := by unfold Hid foldP; rw [← hdone, h3, h5]
      have hli := rLine_any C (.slice nA nn nc) now false wr h4.csl.row (by rw [hnn]; exact hfl1) (by omega)
      have HLI := hid hli
      have H1 := hid h1
      have H2 := hid h2
      have H6 := hid h6
      have H7 := hid h7
      have HLN := hid hln
      have hw0 : w0.heap.size ≤ wr.heap.size := h7.size
      have hWw : W.heap.size ≤ w0.heap.size := h6.size
      clear hli h1 h2 h3 h4 h5 h6 h7 hln hnn hsg hdr hdone hko hbl hlt
      go_upto_region 14 with fail
      go_wp2_with fail
      with_reducible refine HLI.out.mono ?_
      rintro e w2 ⟨v2, rfl, f2, hb2⟩
      dsimp only
      have hoA := (H2.out.kept (H7.out.trans (hb2.mono hw0))).kept (below_alloc w2 (.cells #[v2, .bool false] 61))
      have hlit := ln_lit w2 ((⟨fillP C now, false⟩ : Ln), v2)
      simp only at hlit
      have hcsl : CesOf (w2.alloc (.cells #[v2, .bool false] 61)) [((⟨fillP C now, false⟩ : Ln), v2)] := by
        intro y hy
        rw [List.mem_singleton] at hy
        subst hy
        exact f2.row.below (below_alloc _ _)
      obtain ⟨A2, k2, c2, hv2⟩ : ∃ A2 k2 c2, v2 = .slice A2 k2 c2 := by obtain ⟨A2, c2, h⟩ := f2.spell; exact ⟨_, _, _, h⟩
      subst hv2
      have HOA := hid hoA
      have HLIT := hid hlit
      have HCSL := hid hcsl
      have F2 := hid f2
      have HB2 := hid hb2
      have hsz2 : W.heap.size ≤ w2.heap.size := Nat.le_trans (Nat.le_trans hWw hw0) hb2.size
      clear hoA hlit hcsl f2 hb2
      go_upto_region 15 with (at_builtin; refine wpList_append_ln rfl _ _ rfl W.heap.size _ _ lines [((⟨fillP C now, false⟩ : Ln), (.slice A2 k2 c2 : Value))] rfl HOA.out rfl HLIT.out HCSL.out (by rw [HLN.out]; simp; omega) (by simp; omega) ?_; intro v7 w7 g1 g2; obtain ⟨A7, c7, hv7⟩ := g1.spell; rw [List.length_append, HLN.out, List.length_singleton] at hv7; subst hv7; have K1 := hid g1; have K2 := hid g2; clear g1 g2)
      obtain ⟨hq1, hq2⟩ := fold_more H1.out H2.out H6.out H7.out HB2.out F2.out K1.out K2.out
      have HQ1 := hid hq1
      have HQ2 := hid hq2
      clear hq1 hq2
      go_wp2
      go_ret
      exact ⟨_, _, rfl, by rw [HFO.out, List.map_append]; rfl, K1.out, HQ1.out, HQ2.out⟩
end Go.Proofs.YtkejoknphnkhnaaDoor
