/- Layer 6, the reference: a grid with a line changed: Set, Soft. Made by wip/gen/gridSet.py. -/
/- Layer 6, the reference: cells erased. Made by wip/gen/gridRef.py. -/
/- Layer 6, the reference: a letter put. Made by wip/gen/gridRef.py. -/
/- What the law GridPuts wants. Made by wip/gen/gridPutsLaw.py. -/
/- Layer 6, the reference: a line of blank cells. -/
import Derived.Test.YtkejoknphnkhnaaDoorGridRmQ
import Derived.Test.YtkejoknphnkhnaaDoorGridLaQ
import Derived.Test.YtkejoknphnkhnaaDoorGridEraseQ
import Derived.Test.YtkejoknphnkhnaaDoorGridInsQ
import Derived.Deep.DeepCutAuto
import Derived.Deep.RegionWith
import Derived.Test.YtkejoknphnkhnaaDoorGridLineQ
import Derived.Deep.RegionLaw
namespace Go.Proofs.YtkejoknphnkhnaaDoor
open Go.RowKit

/-- Each line's cells are those of one of these, or the call's own. -/
def Newc (W : World) (base : Nat) (lv lv' : List (Ln × Value)) : Prop := ∀ x ∈ lv', (∃ z ∈ lv, z.2 = x.2 ∧ z.1.cs = x.1.cs) ∨ CSl W base x.2 x.1.cs
theorem Newc.set {W : World} {base b i : Nat} {t : TypeId} {cs : Array Value} {lv lv' : List (Ln × Value)} (h : Newc W base lv lv') (hb : Box W b t cs) (ht : t ≠ 66) (u : Value) : Newc (W.setCell ⟨b, i, none⟩ u) base lv lv' :=
  fun x hx => (h x hx).imp id fun h => h.set hb ht u
theorem Newc.below {W W' : World} {base B : Nat} {lv lv' : List (Ln × Value)} (h : Newc W base lv lv') (hb : Below B W W') (hB : W.heap.size ≤ B) : Newc W' base lv lv' := fun x hx => (h x hx).imp id fun h => h.below hb hB
theorem Newc.mono {W : World} {base base' : Nat} {lv lv' : List (Ln × Value)} (h : Newc W base lv lv') (hb : base' ≤ base) : Newc W base' lv lv' := fun x hx => (h x hx).imp id fun h => h.mono hb
theorem Newc.ces {W : World} {base : Nat} {lv lv' : List (Ln × Value)} (h : Newc W base lv lv') (hc : CesOf W lv) : CesOf W lv' := fun x hx => (h x hx).elim (fun ⟨z, hz, h1, h2⟩ => by rw [← h1, ← h2]; exact hc z hz) fun h => h.row
theorem Newc.grown {W W' : World} {base base' : Nat} {v' : Value} {lv lv' lw : List (Ln × Value)} (h : Newc W base lv lv') (ho : OwnL W base' v' lw) (hg : W.grownBy W' v'.ownBlock) : Newc W' base lv lv' := fun x hx => (h x hx).imp id fun h => h.grown ho hg
def GrRel (W wr : World) (cols : Int) (lv : List (Ln × Value)) (tgt : List Ln) (k : Nat) : Prop :=
  ∃ ov lvk, Box wr (W.heap.size + 1 + 1) 24 #[.int .i64 cols, ov] ∧ OwnL wr W.heap.size ov lvk ∧ lvk.map Prod.fst = tgt.take k ∧ Newc wr W.heap.size lv lvk
def RPost (W : World) (cols : Int) (lv : List (Ln × Value)) (tgt : List Ln) (e : Ending) (w' : World) : Prop :=
  ∃ v lv', e = .returned (.agg #[.int .i64 cols, v]) ∧ lv'.map Prod.fst = tgt ∧ LSl w' W.heap.size v lv' ∧ Newc w' W.heap.size lv lv' ∧ Below W.heap.size W w'
theorem take_one {α : Type} {l : List α} {k : Nat} {x : α} (h : l[k]? = some x) : l.take (k + 1) = l.take k ++ [x] := by
  obtain ⟨hk, rfl⟩ := List.getElem?_eq_some_iff.1 h
  rw [List.take_succ_eq_append_getElem hk]
/-- One line more. -/
theorem gr_step {W wr wz w7 : World} {cols : Int} {lv : List (Ln × Value)} {tgt : List Ln} {k : Nat} {y : Ln × Value} {ov v' : Value} {lvk : List (Ln × Value)} {lc : Array Value} (hbo : Box wr (W.heap.size + 1 + 1) 24 #[.int .i64 cols, ov]) (hown : OwnL wr W.heap.size ov lvk)
    (hm : lvk.map Prod.fst = tgt.take k) (hcs : Newc wr W.heap.size lv lvk) (hx : tgt[k]? = some y.1) (hbz : Below wr.heap.size wr wz) (hy : Newc wz W.heap.size lv [y])
    (hown7 : OwnL w7 W.heap.size v' (lvk ++ [y])) (hg7 : (wz.alloc (.cells lc 61)).grownBy w7 ov.ownBlock) (hz : Box wr (W.heap.size + 1) 24 #[.int .i64 0, .slice none 0 0]) (hbr : Below W.heap.size W wr) (hsz : W.heap.size + 1 + 1 + 1 ≤ wr.heap.size) :
    GrRel W (w7.setCell ⟨W.heap.size + 1 + 1, 1, none⟩ v') cols lv tgt (k + 1) ∧ Box (w7.setCell ⟨W.heap.size + 1 + 1, 1, none⟩ v') (W.heap.size + 1) 24 #[.int .i64 0, .slice none 0 0] ∧ Below W.heap.size W (w7.setCell ⟨W.heap.size + 1 + 1, 1, none⟩ v') ∧ W.heap.size + 1 + 1 + 1 ≤ (w7.setCell ⟨W.heap.size + 1 + 1, 1, none⟩ v').heap.size := by
  have hb6 := hbz.trans ((below_alloc wz (.cells lc 61)).mono hbz.size)
  have own6 := hown.kept hb6
  have box6 := hbo.below hb6 hbo.lt
  have box7 := box6.grown hg7 (own6.not_box box6 (by decide))
  refine ⟨⟨v', lvk ++ [y], box7.set (i := 1) v', hown7.set box7 (by decide) _, ?_, fun x hx => ?_⟩, ?_, ?_, ?_⟩
  · rw [List.map_append, hm, take_one hx]; rfl
  · rw [List.mem_append] at hx
    rcases hx with hx | hx
    · exact (((hcs.below hb6 (Nat.le_refl _)).grown own6 hg7).set box7 (by decide) _) x hx
    · exact (((hy.below (below_alloc wz (.cells lc 61)) (Nat.le_refl _)).grown own6 hg7).set box7 (by decide) _) x hx
  · exact ((hz.below hb6 hz.lt).grown hg7 (own6.not_box (hz.below hb6 hz.lt) (by decide))).other (by omega) _
  · exact (((hbr.trans (hb6.mono hbr.size)).trans ((Below.refl W.heap.size _).grown hg7 (Nat.le_trans hbr.size hb6.size) (fun q hq => (World.ownsRow.lt own6 q hq).1)))).setCell (p := ⟨W.heap.size + 1 + 1, 1, none⟩) (by show W.heap.size ≤ W.heap.size + 1 + 1; omega) _
  · have := hg7.size
    have := hb6.size
    rw [size_set]
    omega

set_option maxRecDepth 100000 in
set_option maxHeartbeats 4000000 in
theorem rSet_any (cols : Int) (v : Value) (lv : List (Ln × Value)) (r : Nat) (W : World) (cv : Value) (cells : List Ce) (hcv : CeRow W cv cells) (hcl : cells.length ≤ 1000) (cs0 : List Ce) (soft0 : Bool) (lvl0 : Value) (hr : LR W v lv) (hc : CesOf W lv) (hs : Sm lv) (hx0 : lv[r]? = some (⟨cs0, soft0⟩, lvl0)) :
    Calls Tryd.prog 54 #[.agg #[.int .i64 cols, v], .int .i64 r, cv] W (RPost W cols lv ((lv.map Prod.fst).set r ⟨mendL 1 cells, soft0⟩)) := by
  obtain ⟨A, c0, rfl, hcap, hA⟩ := hr
  obtain ⟨n, hnl⟩ : ∃ n, lv.length = n := ⟨_, rfl⟩
  have HNL := hid hnl
  obtain ⟨hs1, hs2⟩ := hs
  rw [hnl] at hcap hs1 ⊢
  have b0 := (((Bxs.nil W).alloc 24 #[.int .i64 cols, .slice A n c0]).alloc 24 #[.int .i64 0, .slice none 0 0]).alloc 24 #[.int .i64 cols, .slice none 0 0]
  simp only [World.size_alloc, List.nil_append, List.cons_append] at b0
  have h0 : Below W.heap.size W (((W.alloc (.cells #[.int .i64 cols, .slice A n c0] 24)).alloc (.cells #[.int .i64 0, .slice none 0 0] 24)).alloc (.cells #[.int .i64 cols, .slice none 0 0] 24)) := ((below_alloc _ _).alloc (by simp) _).alloc (by simp <;> omega) _
  have s0 : (((W.alloc (.cells #[.int .i64 cols, .slice A n c0] 24)).alloc (.cells #[.int .i64 0, .slice none 0 0] 24)).alloc (.cells #[.int .i64 cols, .slice none 0 0] 24)).heap.size = W.heap.size + 1 + 1 + 1 := by simp
  obtain ⟨tgt, htg⟩ : ∃ tgt, (lv.map Prod.fst).set r ⟨mendL 1 cells, soft0⟩ = tgt := ⟨_, rfl⟩
  have htl : tgt.length = n := by rw [← htg, List.length_set, List.length_map, hnl]
  have hta : tgt[r]? = some ⟨mendL 1 cells, soft0⟩ := by
    have hrl := (List.getElem?_eq_some_iff.1 hx0).1
    rw [← htg, List.getElem?_set_self (by rw [List.length_map]; exact hrl)]
  have htn : ∀ (k : Nat) (x : Ln × Value), k ≠ r → lv[k]? = some x → tgt[k]? = some x.1 := fun k x hk hx => by
    rw [← htg, List.getElem?_set_ne (Ne.symm hk), List.getElem?_map, hx]; rfl
  rw [htg]
  have BX0 := hid b0
  have H0 := hid h0
  have S0 := hid s0
  have HC := hid hc
  have HX0 := hid hx0
  have HTL := hid htl
  have HTA := hid hta
  have HTN := hid htn
  have HS2 := hid hs2
  have HCV := hid hcv
  obtain ⟨cA, cc, rfl⟩ := hcv.spell
  clear hcv
  clear b0 h0 s0 htg htl hta htn hc hs2 hnl hx0
  go_enter Tryd.func54, Tryd.ntmps54
  go_wp2
  go_loopw [16] (fun i wr => ∃ k : Nat, k ≤ n ∧ i = .int .i64 k ∧ GrRel W wr cols lv tgt k ∧ Box wr (W.heap.size + 1) 24 #[.int .i64 0, .slice none 0 0] ∧ W.heap.size + 1 + 1 + 1 ≤ wr.heap.size ∧ Below W.heap.size W wr) (fun i _ => n - (intOf i).toNat)
  case atStart => exact ⟨0, by omega, rfl, ⟨_, [], BX0.out.get 2 rfl, OwnL.nil _ _, rfl, by intro x hx; simp at hx⟩, BX0.out.get 1 rfl, by rw [S0.out]; exact Nat.le_refl _, H0.out⟩
  case round =>
    obtain ⟨k, hk, rfl, ⟨ov, lvk, hbo, hown, hmap, hcs⟩, hbz, hsz, hbr⟩ := hrel
    obtain ⟨oA, oc, hov⟩ := hown.spell
    have hlo : lvk.length = k := by have h := congrArg List.length hmap; rw [List.length_map, List.length_take, HTL.out] at h; omega
    rw [hlo] at hov
    subst hov
    by_cases hlt : k < n
    · have hki : (k : Int) < n := by omega
      have hkl : k < lv.length := by rw [HNL.out]; exact hlt
      obtain ⟨g, o, rfl, hg, hcell⟩ := hA (by intro e; rw [e] at hkl; simp at hkl)
      have hx := List.getElem?_eq_getElem hkl
      have hce := HC.out lv[k] (List.getElem_mem _)
      have hmem : lv[k] ∈ lv := List.getElem_mem _
      obtain ⟨p0, p1⟩ := hcell k lv[k] hx
      have p0 := (hbr.cell (p := ⟨g, o + k * 2, none⟩) hg).trans p0
      have p1 := (hbr.cell (p := ⟨g, o + k * 2 + 1, none⟩) hg).trans p1
      generalize lv[k] = x at *
      obtain ⟨⟨cs, soft⟩, u⟩ := x
      simp only at p0 p1 hce
      obtain ⟨uA, uc, rfl⟩ := hce.spell
      obtain ⟨⟨k0, k1⟩, f0, f1⟩ := hbo.two
      have hltb : W.heap.size + 1 + 1 < wr.heap.size := by omega
      have HX := hid hx
      have HMEM := hid hmem
      have HLO := hid hlo
      have HOWN := hid hown
      have HBO := hid hbo
      have HBZ := hid hbz
      have HBR := hid hbr
      have HMAP := hid hmap
      have HCS := hid hcs
      have HCE := hid hce
      clear hx hmem hlo hown hbo hbz hbr hmap hcs hce hcell hA
      by_cases hkr : k = r
      · subst hkr
        have he := HX.out.symm.trans HX0.out
        simp only [Option.some.injEq, Prod.mk.injEq, Ln.mk.injEq] at he
        obtain ⟨⟨rfl, rfl⟩, rfl⟩ := he
        have hmend := rMend_any _ cells soft (wr.alloc (.cells #[.slice uA cs.length uc, .bool soft] 61)) ((HCV.out.below HBR.out).below (below_alloc _ _)) hcl
        have HMEND := hid hmend
        have hbl := (Box.new wr 61 #[.slice uA cs.length uc, .bool soft])
        have HBL := hid hbl
        obtain ⟨⟨l0, l1⟩, q0, q1⟩ := hbl.two
        clear hmend hbl
        go_wp2_with fail
        with_reducible refine HMEND.out.mono ?_
        rintro e5 w5 ⟨v5, rfl, hc5, hb5⟩
        dsimp only
        obtain ⟨A5, c5, hv5⟩ := hc5.spell
        subst hv5
        have d5 := HBL.out.below hb5 (by simp)
        clear l0 l1 q0 q1
        obtain ⟨⟨l0, l1⟩, q0, q1⟩ := d5.two
        go_upto_region 7 with fail
        have d6 := (d5.set (i := 0) (.slice A5 (mendL 1 cells).length c5)).set (i := 1) (.bool soft)
        simp only [List.setIfInBounds_toArray, List.set_cons_zero, List.set_cons_succ] at d6
        have hc6 := ((hc5.set d5 (by decide) (i := 0) (.slice A5 (mendL 1 cells).length c5)).set (d5.set _) (by decide) (i := 1) (.bool soft)).mono (base' := W.heap.size) (by simp; have := HBR.out.size; omega)
        have hb6 : Below wr.heap.size wr ((w5.setCell ⟨wr.heap.size, 0, none⟩ (.slice A5 (mendL 1 cells).length c5)).setCell ⟨wr.heap.size, 1, none⟩ (.bool soft)) := below_set (below_set (Below.behind hb5) (Nat.le_refl _) _) (Nat.le_refl _) _
        generalize ((w5.setCell ⟨wr.heap.size, 0, none⟩ (.slice A5 (mendL 1 cells).length c5)).setCell ⟨wr.heap.size, 1, none⟩ (.bool soft)) = w6 at *
        have hk6 := HBO.out.below hb6 HBO.out.lt
        have HC6 := hid hc6
        have HB6 := hid hb6
        clear l0 l1 q0 q1 k0 k1 f0 f1 d5 hc5 hb5 hc6 hb6
        obtain ⟨⟨l0, l1⟩, q0, q1⟩ := d6.two
        obtain ⟨⟨k0, k1⟩, f0, f1⟩ := hk6.two
        clear d6 hk6
        have hbz : Below wr.heap.size wr w6 := HB6.out
        have hy : Newc w6 W.heap.size lv [(⟨mendL 1 cells, soft⟩, .slice A5 (mendL 1 cells).length c5)] := by intro z hz; rw [List.mem_singleton] at hz; subst hz; exact .inr HC6.out
        have hown6 : OwnL (w6.alloc (.cells #[.slice A5 (mendL 1 cells).length c5, .bool soft] 61)) W.heap.size (.slice oA k oc) lvk := HOWN.out.kept (hbz.trans ((below_alloc _ _).mono hbz.size))
        have hlit : LR (w6.alloc (.cells #[.slice A5 (mendL 1 cells).length c5, .bool soft] 61)) (.slice (some ⟨w6.heap.size, 0, none⟩) 1 1) [(⟨mendL 1 cells, soft⟩, .slice A5 (mendL 1 cells).length c5)] := ln_lit _ (⟨mendL 1 cells, soft⟩, .slice A5 (mendL 1 cells).length c5)
        try simp only [World.size_alloc] at hlit
        have hces : CesOf (w6.alloc (.cells #[.slice A5 (mendL 1 cells).length c5, .bool soft] 61)) [(⟨mendL 1 cells, soft⟩, .slice A5 (mendL 1 cells).length c5)] := (hy.below (below_alloc _ _) (Nat.le_refl _)).ces ((HC.out.below HBR.out).below (hbz.trans ((below_alloc _ _).mono hbz.size)))
        have hszz : W.heap.size + 1 + 1 < w6.heap.size := Nat.lt_of_lt_of_le hltb hbz.size
        have hbo6 := HBO.out.below (hbz.trans ((below_alloc w6 (.cells #[.slice A5 (mendL 1 cells).length c5, .bool soft] 61)).mono hbz.size)) HBO.out.lt
        have HBZZ := hid hbz
        have HY := hid hy
        have HOWN6 := hid hown6
        have HLIT := hid hlit
        have HCES := hid hces
        have HBO6 := hid hbo6
        have HTG : Hid (tgt[k]? = some (⟨mendL 1 cells, soft⟩)) := HTA.out
        clear hbz hy hown6 hlit hces hbo6
        go_wp2_with (at_builtin; refine wpList_append_ln rfl _ _ rfl W.heap.size _ _ lvk [(⟨mendL 1 cells, soft⟩, .slice A5 (mendL 1 cells).length c5)] rfl HOWN6.out rfl HLIT.out HCES.out (by rw [HLO.out]; simp; omega) (by simp; omega) ?_; intro v9 w9 h1 h2; obtain ⟨A9, c9, hv9⟩ := h1.spell; rw [List.length_append, HLO.out, List.length_singleton] at hv9; subst hv9; have H1 := hid h1; have H2 := hid h2; clear h1 h2; have hb7 := HBO6.out.grown H2.out (HOWN6.out.not_box HBO6.out (by decide)); obtain ⟨⟨m0, m1⟩, n0, n1⟩ := hb7.two; clear hb7)
        have hst := gr_step HBO.out HOWN.out HMAP.out HCS.out HTG.out HBZZ.out HY.out H1.out H2.out HBZ.out HBR.out hsz
        have HST := hid hst
        clear hst
        go_roundw
        case rel => exact ⟨k + 1, by omega, by go_num, HST.out.1, HST.out.2.1, HST.out.2.2.2, HST.out.2.2.1⟩
        case measure => simp [intOf]; omega
      · have hkq : ((k : Int) == (r : Int)) = false := by rw [beq_eq_false_iff_ne]; omega
        have HNE := hid hkr
        clear hkr
        have hbz : Below wr.heap.size wr (wr.alloc (.cells #[.slice uA cs.length uc, .bool soft] 61)) := below_alloc _ _
        have hy : Newc (wr.alloc (.cells #[.slice uA cs.length uc, .bool soft] 61)) W.heap.size lv [(⟨cs, soft⟩, .slice uA cs.length uc)] := by intro z hz; rw [List.mem_singleton] at hz; subst hz; exact .inl ⟨_, HMEM.out, rfl, rfl⟩
        have hown6 : OwnL ((wr.alloc (.cells #[.slice uA cs.length uc, .bool soft] 61)).alloc (.cells #[.slice uA cs.length uc, .bool soft] 61)) W.heap.size (.slice oA k oc) lvk := HOWN.out.kept (hbz.trans ((below_alloc _ _).mono hbz.size))
        have hlit : LR ((wr.alloc (.cells #[.slice uA cs.length uc, .bool soft] 61)).alloc (.cells #[.slice uA cs.length uc, .bool soft] 61)) (.slice (some ⟨(wr.alloc (.cells #[.slice uA cs.length uc, .bool soft] 61)).heap.size, 0, none⟩) 1 1) [(⟨cs, soft⟩, .slice uA cs.length uc)] := ln_lit _ (⟨cs, soft⟩, .slice uA cs.length uc)
        try simp only [World.size_alloc] at hlit
        have hces : CesOf ((wr.alloc (.cells #[.slice uA cs.length uc, .bool soft] 61)).alloc (.cells #[.slice uA cs.length uc, .bool soft] 61)) [(⟨cs, soft⟩, .slice uA cs.length uc)] := (hy.below (below_alloc _ _) (Nat.le_refl _)).ces ((HC.out.below HBR.out).below (hbz.trans ((below_alloc _ _).mono hbz.size)))
        have hszz : W.heap.size + 1 + 1 < (wr.alloc (.cells #[.slice uA cs.length uc, .bool soft] 61)).heap.size := Nat.lt_of_lt_of_le hltb hbz.size
        have hbo6 := HBO.out.below (hbz.trans ((below_alloc (wr.alloc (.cells #[.slice uA cs.length uc, .bool soft] 61)) (.cells #[.slice uA cs.length uc, .bool soft] 61)).mono hbz.size)) HBO.out.lt
        have HBZZ := hid hbz
        have HY := hid hy
        have HOWN6 := hid hown6
        have HLIT := hid hlit
        have HCES := hid hces
        have HBO6 := hid hbo6
        have HTG : Hid (tgt[k]? = some (⟨cs, soft⟩)) := HTN.out k _ HNE.out HX.out
        clear hbz hy hown6 hlit hces hbo6
        go_wp2_with (at_builtin; refine wpList_append_ln rfl _ _ rfl W.heap.size _ _ lvk [(⟨cs, soft⟩, .slice uA cs.length uc)] rfl HOWN6.out rfl HLIT.out HCES.out (by rw [HLO.out]; simp; omega) (by simp; omega) ?_; intro v9 w9 h1 h2; obtain ⟨A9, c9, hv9⟩ := h1.spell; rw [List.length_append, HLO.out, List.length_singleton] at hv9; subst hv9; have H1 := hid h1; have H2 := hid h2; clear h1 h2; have hb7 := HBO6.out.grown H2.out (HOWN6.out.not_box HBO6.out (by decide)); obtain ⟨⟨m0, m1⟩, n0, n1⟩ := hb7.two; clear hb7)
        have hst := gr_step HBO.out HOWN.out HMAP.out HCS.out HTG.out HBZZ.out HY.out H1.out H2.out HBZ.out HBR.out hsz
        have HST := hid hst
        clear hst
        go_roundw
        case rel => exact ⟨k + 1, by omega, by go_num, HST.out.1, HST.out.2.1, HST.out.2.2.2, HST.out.2.2.1⟩
        case measure => simp [intOf]; omega
    · have hkm : k = n := by omega
      subst hkm
      obtain ⟨⟨k0, k1⟩, f0, f1⟩ := hbo.two
      obtain ⟨⟨z0, z1⟩, y0, y1⟩ := hbz.two
      rw [List.take_of_length_le (by rw [HTL.out]; exact Nat.le_refl _)] at hmap
      have HOWN := hid hown
      have HBZ := hid hbz
      have HBR := hid hbr
      have HMAP := hid hmap
      have HCS := hid hcs
      clear hown hbz hbr hbo hlo hA hmap hcs
      go_wp2
      refine bodyPost_ret (v := .agg #[.int .i64 cols, .slice oA k oc]) (by simp [results, Tryd.results54, go_sem, z0, z1]) rfl ⟨_, lvk, rfl, HMAP.out, ?_, ?_, ?_⟩
      · exact ((HOWN.out.set HBZ.out (by decide) (i := 0) (.int .i64 cols)).set (HBZ.out.set _) (by decide) (i := 1) (.slice oA k oc)).lsl
      · exact (HCS.out.set HBZ.out (by decide) (i := 0) (.int .i64 cols)).set (HBZ.out.set _) (by decide) (i := 1) (.slice oA k oc)
      · exact (HBR.out.setCell (p := ⟨W.heap.size + 1, 0, none⟩) (by show W.heap.size ≤ W.heap.size + 1; omega) _).setCell (p := ⟨W.heap.size + 1, 1, none⟩) (by show W.heap.size ≤ W.heap.size + 1; omega) _

end Go.Proofs.YtkejoknphnkhnaaDoor

namespace Go.Proofs.YtkejoknphnkhnaaDoor
open Go.RowKit

theorem rpost_end {W w' w'' : World} {cols : Int} {lv lv' : List (Ln × Value)} {tgt : List Ln} {v : Value} {b lo : Nat} {cs : Array Value} {x y : Value} (hm : lv'.map Prod.fst = tgt) (hl : LSl w' lo v lv') (hn : Newc w' lo lv lv') (hlo : W.heap.size ≤ lo) (hb : Below W.heap.size W w') (hbx : Box w' b 24 cs) (hB : W.heap.size ≤ b)
    (hw : w'' = (w'.setCell ⟨b, 0, none⟩ x).setCell ⟨b, 1, none⟩ y) : RPost W cols lv tgt (.returned (.agg #[.int .i64 cols, v])) w'' := by
  subst hw
  exact ⟨v, lv', rfl, hm, ((hl.set hbx (by decide) _).set (hbx.set (i := 0) x) (by decide) _).mono hlo, ((hn.set hbx (by decide) _).set (hbx.set (i := 0) x) (by decide) _).mono hlo, (hb.setCell (p := ⟨b, 0, none⟩) hB _).setCell (p := ⟨b, 1, none⟩) hB _⟩
theorem putL_at {l : List Ce} {k j : Nat} {c : Ce} (h : c.wd = 2 → k + 1 < l.length) (hk : k < l.length) : (putL l k c)[j]? = if j = k then some c else if j = k + 1 ∧ c.wd = 2 then some (rhC c.at) else l[j]? := by
  unfold putL
  by_cases h2 : c.wd = 2
  · rw [if_pos h2]
    have hl := h h2
    by_cases h3 : j = k + 1
    · subst h3
      rw [List.getElem?_set_self (by rw [List.length_set]; exact hl), if_neg (by omega), if_pos ⟨rfl, h2⟩]
    · rw [List.getElem?_set_ne (Ne.symm h3), if_neg (c := j = k + 1 ∧ c.wd = 2) (fun h => h3 h.1)]
      by_cases h4 : j = k
      · subst h4; rw [List.getElem?_set_self hk, if_pos rfl]
      · rw [List.getElem?_set_ne (Ne.symm h4), if_neg h4]
  · rw [if_neg h2, if_neg (c := j = k + 1 ∧ c.wd = 2) (fun h => h2 h.2)]
    by_cases h4 : j = k
    · subst h4; rw [List.getElem?_set_self hk, if_pos rfl]
    · rw [List.getElem?_set_ne (Ne.symm h4), if_neg h4]

end Go.Proofs.YtkejoknphnkhnaaDoor

namespace Go.Proofs.YtkejoknphnkhnaaDoor
open Go.RowKit

/-- A cell appended to a row of the call's own whose block lies behind the boxes. -/
theorem own_step2 {W wr wz w7 : World} {base : Nat} {ov : Value} {done : List Ce} {lit : Array Value} {l : List (Nat × TypeId × Array Value)} (hown : OwnC wr base ov done) (hb : Below wr.heap.size wr wz) (hg : (wz.alloc (.cells lit 66)).grownBy w7 ov.ownBlock)
    (hbx : Bxs wr l) (hl : ∀ x ∈ l, x.1 < base) (hbr : Below W.heap.size W wr) (hB : W.heap.size ≤ base) : Bxs w7 l ∧ Below W.heap.size W w7 ∧ wr.heap.size ≤ w7.heap.size := by
  have hb6 := hb.trans ((below_alloc wz (.cells lit 66)).mono hb.size)
  have own6 := hown.kept hb6
  refine ⟨fun x hx => ((hbx.below hb6) x hx).grown hg (fun e => ?_), ?_, Nat.le_trans hb6.size hg.size⟩
  · have := (World.ownsRow.lt own6 _ e.symm).1
    have := hl x hx
    omega
  · exact (hbr.trans (hb6.mono hbr.size)).trans ((Below.refl _ _).grown hg (Nat.le_trans hbr.size hb6.size) (fun k hk => Nat.le_trans hB (World.ownsRow.lt own6 k hk).1))

end Go.Proofs.YtkejoknphnkhnaaDoor

namespace Go.Proofs.YtkejoknphnkhnaaDoor
open Go.RowKit

/-- What was answered reads as a grid, or is refused. -/
def XF (W : World) (cols : Int) (ok : Bool) (n : Int) (tgt : List Ln) (xc : Int) (A : Option Addr) (k c : Nat) (xn : Int) : Prop :=
  (ok = true ∧ xc = cols ∧ xn = 0 ∧ ∃ lv', lv'.map Prod.fst = tgt ∧ LR W (.slice A k c) lv' ∧ CesOf W lv') ∨ (ok = false ∧ xc = 0 ∧ (.slice A k c : Value) = .slice none 0 0 ∧ xn = n)
theorem XF.below {W W' : World} {cols : Int} {ok : Bool} {n : Int} {tgt : List Ln} {xc : Int} {A : Option Addr} {k c : Nat} {xn : Int} (h : XF W cols ok n tgt xc A k c xn) (hb : Below W.heap.size W W') : XF W' cols ok n tgt xc A k c xn := by
  rcases h with ⟨h1, h2, h3, lv', h4, h5, h6⟩ | h
  · exact .inl ⟨h1, h2, h3, lv', h4, h5.below hb, h6.below hb⟩
  · exact .inr h
theorem XF.of {W w' : World} {cols : Int} {lv : List (Ln × Value)} {ok : Bool} {n : Int} {tgt : List Ln} {xc : Int} {A : Option Addr} {k c : Nat} {xn : Int} (hc : CesOf w' lv)
    (h : (ok = true ∧ xc = cols ∧ xn = 0 ∧ ∃ lv', lv'.map Prod.fst = tgt ∧ LSl w' W.heap.size (.slice A k c) lv' ∧ NewOf w' W.heap.size lv lv') ∨ (ok = false ∧ xc = 0 ∧ (.slice A k c : Value) = .slice none 0 0 ∧ xn = n)) : XF w' cols ok n tgt xc A k c xn := by
  rcases h with ⟨h1, h2, h3, lv', h4, h5, h6⟩ | h
  · exact .inl ⟨h1, h2, h3, lv', h4, h5.row, h6.ces hc⟩
  · exact .inr h
theorem there_eq (cols row : Int) (lv : List (Ln × Value)) : ((sizeB cols lv.length && allB cols lv) && (rowB row lv.length && colB 0 cols)) = softOk cols lv row := by
  unfold softOk mayB
  cases h : (sizeB cols lv.length && allB cols lv)
  · rfl
  · have := mayB_cols (cols := cols) (lv := lv) h
    have hc : colB 0 cols = true := decide_eq_true (by omega)
    rw [hc, Bool.and_true]
theorem few_in {W : World} {v : Value} {lv lv1 : List (Ln × Value)} (hm : lv1.map Prod.fst = fewG (lv.map Prod.fst)) (hr : LR W v lv1) (hc : CesOf W lv1) : GIn W v lv1 := by
  obtain ⟨h1, h2⟩ := fewG_sm hm
  exact ⟨hr, hc, by omega, fun e he => ⟨by have := (h2 e he).1; omega, fun c hc => by have := (h2 e he).2 c hc; omega⟩⟩

theorem eraseT_sz {cols row fr tt : Int} {a : At} {lv : List (Ln × Value)} (hs : Sm lv) (h : eraseOk cols lv row fr tt a = true) : SzL (eraseT (lv.map Prod.fst) row fr tt a) := by
  unfold eraseOk at h
  simp only [Bool.and_eq_true, decide_eq_true_iff] at h
  obtain ⟨⟨h0, h1⟩, h2, h3, h4, _⟩ := h
  obtain ⟨r, cs, soft, u, rfl, hx, hrow⟩ := row_there h1
  have hf := fits_iff.1 (mayB_at h0 hx)
  simp only at hf
  refine hs.szl.set _ ?_
  rw [hrow]
  show (mendL 1 (eraseL cs _ _ a)).length ≤ 1000
  rw [mendL_length, eraseL_length _ (by omega)]
  exact (hs.2 _ (List.mem_of_getElem? hx)).1
theorem CSl.set_lt {W : World} {base b i : Nat} {v : Value} {l : List Ce} (h : CSl W base v l) (hb : b < base) (u : Value) : CSl (W.setCell ⟨b, i, none⟩ u) base v l := by
  rcases h with h | ⟨g, cap, rfl, h1, cur, hg, h2⟩
  · exact .inl h
  · exact .inr ⟨g, cap, rfl, h1, cur, hg.other (by omega) u, h2⟩
theorem LSl.set_lt {W : World} {base b i : Nat} {v : Value} {l : List (Ln × Value)} (h : LSl W base v l) (hb : b < base) (u : Value) : LSl (W.setCell ⟨b, i, none⟩ u) base v l := by
  rcases h with h | ⟨g, cap, rfl, h1, cur, hg, h2⟩
  · exact .inl h
  · exact .inr ⟨g, cap, rfl, h1, cur, hg.other (by omega) u, h2⟩

theorem softT_sz {cols row : Int} {s : Bool} {lv : List (Ln × Value)} (hs : Sm lv) (h : softOk cols lv row = true) : SzL (softT (lv.map Prod.fst) row s) := by
  unfold softOk at h
  rw [Bool.and_eq_true] at h
  obtain ⟨r, cs, soft, u, rfl, hx, hrow⟩ := row_there h.2
  refine hs.szl.set _ ?_
  rw [hrow]
  exact (hs.2 _ (List.mem_of_getElem? hx)).1
theorem put_parts {cols row col : Int} {c : Ce} {lv : List (Ln × Value)} (h : putOk cols lv row col c = true) (h2 : roomB cols col c = false) :
    ∃ (r q : Nat) (cs : List Ce) (soft : Bool) (u : Value), row = r ∧ col = q ∧ lv[r]? = some (⟨cs, soft⟩, u) ∧ rowL (lv.map Prod.fst) row = ⟨cs, soft⟩ ∧ q < cs.length ∧ (c.wd = 2 → q + 1 < cs.length) := by
  unfold putOk at h
  rw [Bool.and_eq_true, Bool.and_eq_true, Bool.and_eq_true] at h
  obtain ⟨h0, h1, hc, _⟩ := h
  obtain ⟨r, cs, soft, u, hr, hx, hrow⟩ := row_there h1
  have hf := fits_iff.1 (mayB_at h0 hx)
  simp only at hf
  have hcl : 0 ≤ col ∧ col < cols := of_decide_eq_true hc
  have hrm : ¬ (c.wd = 2 ∧ col = cols - 1) := of_decide_eq_false h2
  refine ⟨r, col.toNat, cs, soft, u, hr, by omega, hx, hrow, by omega, fun hw => ?_⟩
  have : ¬ col = cols - 1 := fun e => hrm ⟨hw, e⟩
  omega
theorem putT_sz {cols row col : Int} {c : Ce} {lv : List (Ln × Value)} (hs : Sm lv) (h : putOk cols lv row col c = true) (h2 : roomB cols col c = false) : SzL (putT (lv.map Prod.fst) row col c) := by
  obtain ⟨r, q, cs, soft, u, rfl, rfl, hx, hrow, hq, hw⟩ := put_parts h h2
  refine hs.szl.set _ ?_
  rw [hrow]
  show (mendL 1 (putL cs _ c)).length ≤ 1000
  rw [mendL_length, putL_length]
  exact (hs.2 _ (List.mem_of_getElem? hx)).1
end Go.Proofs.YtkejoknphnkhnaaDoor

namespace Go.Proofs.YtkejoknphnkhnaaDoor
open Go.RowKit

theorem step_append_ce {ops : Array Oper} {o : Oper} {a : Act} {w : World} {K : Act → World → Prop} {Q : Exit → Act → World → Prop} {E : Prop} (hgd : o.guard = none) (s x : Operand)
    (ho : o.op = .call { callee := .builtin .append, args := #[s, x], argTypes := #[52, 52] }) (base : Nat) (v xv : Value) (l m : List Ce)
    (hs : a.eval s = v) (hown : OwnC w base v l) (hxe : a.eval x = xv) (hx : CeRow w xv m) (hb : l.length + m.length ≤ 1000000) (hbase : base ≤ w.heap.size)
    (h : ∀ v' w', OwnC w' base v' (l ++ m) → w.grownBy w' v.ownBlock → K (a.put o.dst v') w') : if Region.wanted o (yielded ops a.tmps) = true then Oper.wp Tryd.prog o a w K Q else E := by
  have hw : Region.wanted o (yielded ops a.tmps) = true := by simp [Region.wanted, hgd]
  rw [if_pos hw]
  obtain ⟨v', w', hrun, h2, h3⟩ := run_append_ce w base v xv l m hown hx o.type hb hbase
  unfold Oper.wp
  simp [execOp, ho, resolve, invoke, builtin, hs, hxe, hrun, Result.andThen]
  exact h v' w' h2 h3
def BarePost (W : World) (C : Nat) (a : At) (e : Ending) (w' : World) : Prop :=
  ∃ v, e = .returned (.agg #[v, .bool false]) ∧ CSl w' W.heap.size v (List.replicate C (blkC a)) ∧ Below W.heap.size W w'
set_option maxRecDepth 100000 in
set_option maxHeartbeats 2000000 in
theorem rBare_any (C : Nat) (a : At) (W : World) (hC : C ≤ 1000) :
    Calls Tryd.prog 46 #[.int .i64 (C : Int), a.agg] W (BarePost W C a) := by
  have hblk := rblank_any a
  obtain ⟨x, hxb⟩ : ∃ x, blkC a = x := ⟨_, rfl⟩
  unfold BarePost
  rw [hxb] at hblk ⊢
  obtain ⟨fg, bg, fl⟩ := a
  unfold At.agg Ce.agg Ce.cells at hblk
  unfold At.agg
  simp only at hblk ⊢
  have b0 := (((Bxs.nil W).alloc 26 #[.int .i64 fg, .int .i64 bg, .int .i64 fl]).alloc 61 #[.slice none 0 0, .bool false]).alloc 61 #[.slice none 0 0, .bool false]
  simp only [World.size_alloc, List.nil_append, List.cons_append] at b0
  have h0 : Below W.heap.size W (((W.alloc (.cells #[.int .i64 fg, .int .i64 bg, .int .i64 fl] 26)).alloc (.cells #[.slice none 0 0, .bool false] 61)).alloc (.cells #[.slice none 0 0, .bool false] 61)) := ((below_alloc _ _).alloc (by simp) _).alloc (by simp; omega) _
  have BX0 := hid b0
  have H0 := hid h0
  have HBLK := hid hblk
  clear b0 h0 hblk hxb
  go_enter Tryd.func46, Tryd.ntmps46
  go_wp2
  go_loopw [6] (fun i wr => ∃ k : Nat, k ≤ C ∧ i = .int .i64 k ∧ (∃ ov, Box wr (W.heap.size + 1 + 1) 61 #[ov, .bool false] ∧ OwnC wr W.heap.size ov (List.replicate k x)) ∧ Box wr W.heap.size 26 #[.int .i64 fg, .int .i64 bg, .int .i64 fl] ∧ Box wr (W.heap.size + 1) 61 #[.slice none 0 0, .bool false] ∧ Below W.heap.size W wr) (fun i _ => C - (intOf i).toNat)
  case atStart => exact ⟨0, by omega, rfl, ⟨_, BX0.out.get 2 rfl, OwnC.nil _ _⟩, BX0.out.get 0 rfl, BX0.out.get 1 rfl, H0.out⟩
  case round =>
    obtain ⟨k, hk, rfl, ⟨ov, hbo, hown⟩, hba, hbz, hbr⟩ := hrel
    obtain ⟨oA, oc, rfl⟩ := hown.spell
    rw [List.length_replicate] at hown hbo
    obtain ⟨⟨k0, k1⟩, f0, f1⟩ := hbo.two
    obtain ⟨⟨a0, a1, a2⟩, e0, e1, e2⟩ := hba.three
    by_cases hlt : k < C
    · have hki : (k : Int) < C := by omega
      have hkb : (k : Int) ≤ 1000 := by omega
      have hltb : W.heap.size + 1 + 1 < wr.heap.size := hbo.lt
      have HOWN := hid hown
      have HBO := hid hbo
      have HBA := hid hba
      have HBZ := hid hbz
      have HBR := hid hbr
      clear hown hbo hba hbz hbr
      have hd0 : Below wr.heap.size wr wr.drew := (Below.refl _ _).drew
      go_upto_region 5 with fail
      first | go_region_law (first | (go_simp; go_at_call 53; refine (HBLK.out _).mono ?_; rintro e w5 ⟨rfl, hb5⟩; have hd5 := hd0.trans (hb5.mono hd0.size); obtain ⟨⟨k0, k1⟩, f0, f1⟩ := (HBO.out.below hd5 HBO.out.lt).two; have hlt6 : W.heap.size + 1 + 1 < w5.heap.size := Nat.lt_of_lt_of_le hltb hd5.size; have hd6 := hid (hd5.trans ((below_alloc w5 (.cells #[.string x.tx, .int .i64 x.wd, .int .i64 x.fg, .int .i64 x.bg, .int .i64 x.fl] 66)).mono hd5.size)); have hlit := ce_lit w5 x; unfold Ce.cells at hlit; have HLIT := hid hlit; clear hlit) | (refine step_append_ce rfl _ _ rfl W.heap.size _ _ (List.replicate k x) [x] rfl (HOWN.out.kept hd6.out) rfl HLIT.out (by simp; omega) (Nat.le_trans HBR.out.size hd6.out.size) ?_; intro v' w7 h1 h2; obtain ⟨A', c', hv'⟩ := h1.spell; rw [List.length_append, List.length_replicate, List.length_singleton] at hv'; subst hv'; have H1 := hid h1; have H2 := hid h2; clear h1 h2; have hb7 := (HBO.out.below hd6.out HBO.out.lt).grown H2.out (OwnC.not_box (HOWN.out.kept hd6.out) (HBO.out.below hd6.out HBO.out.lt) (by decide)); obtain ⟨⟨m0, m1⟩, n0, n1⟩ := hb7.two)) | fail
      all_goals
        have own7 : OwnC (w7.setCell ⟨W.heap.size + 1 + 1, 0, none⟩ (.slice A' (k + 1) c')) W.heap.size (.slice A' (k + 1) c') (List.replicate (k + 1) x) := by
          rw [List.replicate_succ']
          exact H1.out.set hb7 (by decide) _
        have box7 := hb7.set (i := 0) (.slice A' (k + 1) c')
        have boxa := ((HBA.out.below hd6.out HBA.out.lt).grown H2.out (OwnC.not_box (HOWN.out.kept hd6.out) (HBA.out.below hd6.out HBA.out.lt) (by decide))).other (b' := W.heap.size + 1 + 1) (i := 0) (by omega) (.slice A' (k + 1) c')
        have boxz := ((HBZ.out.below hd6.out HBZ.out.lt).grown H2.out (OwnC.not_box (HOWN.out.kept hd6.out) (HBZ.out.below hd6.out HBZ.out.lt) (by decide))).other (b' := W.heap.size + 1 + 1) (i := 0) (by omega) (.slice A' (k + 1) c')
        have hlt7 : ∀ q, (Value.slice oA k oc).ownBlock = some q → W.heap.size ≤ q := fun q hq => (World.ownsRow.lt (HOWN.out.kept hd6.out) q hq).1
        have hbb := (((HBR.out.trans (hd6.out.mono HBR.out.size)).trans ((Below.refl W.heap.size _).grown H2.out (Nat.le_trans HBR.out.size hd6.out.size) hlt7))).setCell (p := ⟨W.heap.size + 1 + 1, 0, none⟩) (by show W.heap.size ≤ W.heap.size + 1 + 1; omega) (.slice A' (k + 1) c')
        have HO := hid own7
        have HX := hid box7
        have HA := hid boxa
        have HZ := hid boxz
        have HBB := hid hbb
        clear own7 box7 boxa boxz hlt7 hbb m0 m1 n0 n1 hb7
        go_wp2
        go_roundw
        case rel => exact ⟨k + 1, by omega, by go_num, ⟨_, HX.out, HO.out⟩, HA.out, HZ.out, HBB.out⟩
        case measure => simp [intOf]; omega
    · have hkm : k = C := by omega
      subst hkm
      obtain ⟨⟨z0, z1⟩, y0, y1⟩ := hbz.two
      have HOWN := hid hown
      have HBZ := hid hbz
      have HBR := hid hbr
      clear hown hbz hbr hbo hba
      go_wp2
      refine bodyPost_ret (v := .agg #[.slice oA k oc, .bool false]) (by simp [results, Tryd.results46, go_sem, z0, z1]) rfl ⟨_, rfl, ?_, ?_⟩
      · exact ((HOWN.out.csl.set HBZ.out (by decide) _).set (HBZ.out.set (i := 0) _) (by decide) _)
      · exact below_set (below_set HBR.out (by omega) _) (by omega) _
end Go.Proofs.YtkejoknphnkhnaaDoor
