/- Layer 6, the reference: a grid with a line changed: Set, Soft. Made by wip/gen/gridSet.py. -/
import Derived.Test.YtkejoknphnkhnaaDoorGridRmQ
import Derived.Test.YtkejoknphnkhnaaDoorGridLaQ
namespace Go.Proofs.YtkejoknphnkhnaaDoor
open Go.RowKit

/-- Each line's cells are those of one of these, or the call's own. -/
def Newc (W : World) (base : Nat) (lv lv' : List (Ln × Value)) : Prop := ∀ x ∈ lv', (∃ z ∈ lv, z.2 = x.2 ∧ z.1.cs = x.1.cs) ∨ CSl W base x.2 x.1.cs
theorem Newc.set {W : World} {base b i : Nat} {t : TypeId} {cs : Array Value} {lv lv' : List (Ln × Value)} (h : Newc W base lv lv') (hb : Box W b t cs) (ht : t ≠ 66) (u : Value) : Newc (W.setCell ⟨b, i, none⟩ u) base lv lv' :=
  fun x hx => (h x hx).imp id fun h => h.set hb ht u
theorem Newc.below {W W' : World} {base B : Nat} {lv lv' : List (Ln × Value)} (h : Newc W base lv lv') (hb : Below B W W') (hB : W.heap.size ≤ B) : Newc W' base lv lv' := fun x hx => (h x hx).imp id fun h => h.below hb hB
theorem Newc.mono {W : World} {base base' : Nat} {lv lv' : List (Ln × Value)} (h : Newc W base lv lv') (hb : base' ≤ base) : Newc W base' lv lv' := fun x hx => (h x hx).imp id fun h => h.mono hb
theorem Newc.ces {W : World} {base : Nat} {lv lv' : List (Ln × Value)} (h : Newc W base lv lv') (hc : CesOf W lv) : CesOf W lv' := fun x hx => (h x hx).elim (fun ⟨z, hz, h1, h2⟩ => by rw [← h1, ← h2]; exact hc z hz) fun h => h.row
theorem Newc.grown {W W' : World} {base base' : Nat} {v' : Value} {lv lv' lw : List (Ln × Value)} (h : Newc W base lv lv') (ho : OwnL W base' v' lw) (hg : W.grownBy W' v'.ownBlock) : Newc W' base lv lv' := fun x hx => (h x hx).imp id fun h => h.grown ho hg
def GrRel (W wr : World) (cols : Int) (lv : List (Ln × Value)) (tgt : List Ln) (k : Nat) : Prop :=
  ∃ ov lvk, Box wr (W.heap.size + 1 + 1) 24 #[.int .i64 cols, ov] ∧ OwnL wr W.heap.size ov lvk ∧ lvk.map Prod.fst = tgt.take k ∧ Newc wr W.heap.size lv lvk
def RPost (W : World) (cols : Int) (lv : List (Ln × Value)) (tgt : List Ln) (e : Ending) (w' : World) : Prop :=
  ∃ v lv', e = .returned (.agg #[.int .i64 cols, v]) ∧ lv'.map Prod.fst = tgt ∧ LSl w' W.heap.size v lv' ∧ Newc w' W.heap.size lv lv' ∧ Below W.heap.size W w'
theorem take_one {α : Type} {l : List α} {k : Nat} {x : α} (h : l[k]? = some x) : l.take (k + 1) = l.take k ++ [x] := by
  obtain ⟨hk, rfl⟩ := List.getElem?_eq_some_iff.1 h
  rw [List.take_succ_eq_append_getElem hk]
/-- One line more. -/
theorem gr_step {W wr wz w7 : World} {cols : Int} {lv : List (Ln × Value)} {tgt : List Ln} {k : Nat} {y : Ln × Value} {ov v' : Value} {lvk : List (Ln × Value)} {lc : Array Value} (hbo : Box wr (W.heap.size + 1 + 1) 24 #[.int .i64 cols, ov]) (hown : OwnL wr W.heap.size ov lvk)
    (hm : lvk.map Prod.fst = tgt.take k) (hcs : Newc wr W.heap.size lv lvk) (hx : tgt[k]? = some y.1) (hbz : Below wr.heap.size wr wz) (hy : Newc wz W.heap.size lv [y])
    (hown7 : OwnL w7 W.heap.size v' (lvk ++ [y])) (hg7 : (wz.alloc (.cells lc 61)).grownBy w7 ov.ownBlock) (hz : Box wr (W.heap.size + 1) 24 #[.int .i64 0, .slice none 0 0]) (hbr : Below W.heap.size W wr) (hsz : W.heap.size + 1 + 1 + 1 ≤ wr.heap.size) :
    GrRel W (w7.setCell ⟨W.heap.size + 1 + 1, 1, none⟩ v') cols lv tgt (k + 1) ∧ Box (w7.setCell ⟨W.heap.size + 1 + 1, 1, none⟩ v') (W.heap.size + 1) 24 #[.int .i64 0, .slice none 0 0] ∧ Below W.heap.size W (w7.setCell ⟨W.heap.size + 1 + 1, 1, none⟩ v') ∧ W.heap.size + 1 + 1 + 1 ≤ (w7.setCell ⟨W.heap.size + 1 + 1, 1, none⟩ v').heap.size := by
  have hb6 := hbz.trans ((below_alloc wz (.cells lc 61)).mono hbz.size)
  have own6 := hown.kept hb6
  have box6 := hbo.below hb6 hbo.lt
  have box7 := box6.grown hg7 (own6.not_box box6 (by decide))
  refine ⟨⟨v', lvk ++ [y], box7.set (i := 1) v', hown7.set box7 (by decide) _, ?_, fun x hx => ?_⟩, ?_, ?_, ?_⟩
  · rw [List.map_append, hm, take_one hx]; rfl
  · rw [List.mem_append] at hx
    rcases hx with hx | hx
    · exact (((hcs.below hb6 (Nat.le_refl _)).grown own6 hg7).set box7 (by decide) _) x hx
    · exact (((hy.below (below_alloc wz (.cells lc 61)) (Nat.le_refl _)).grown own6 hg7).set box7 (by decide) _) x hx
  · exact ((hz.below hb6 hz.lt).grown hg7 (own6.not_box (hz.below hb6 hz.lt) (by decide))).other (by omega) _
  · exact (((hbr.trans (hb6.mono hbr.size)).trans ((Below.refl W.heap.size _).grown hg7 (Nat.le_trans hbr.size hb6.size) (fun q hq => (World.ownsRow.lt own6 q hq).1)))).setCell (p := ⟨W.heap.size + 1 + 1, 1, none⟩) (by show W.heap.size ≤ W.heap.size + 1 + 1; omega) _
  · have := hg7.size
    have := hb6.size
    rw [size_set]
    omega

set_option maxRecDepth 100000 in
set_option maxHeartbeats 4000000 in
theorem rSet_any (cols : Int) (v : Value) (lv : List (Ln × Value)) (r : Nat) (W : World) (cv : Value) (cells : List Ce) (hcv : CeRow W cv cells) (hcl : cells.length ≤ 1000) (cs0 : List Ce) (soft0 : Bool) (lvl0 : Value) (hr : LR W v lv) (hc : CesOf W lv) (hs : Sm lv) (hx0 : lv[r]? = some (⟨cs0, soft0⟩, lvl0)) :
    Calls Tryd.prog 54 #[.agg #[.int .i64 cols, v], .int .i64 r, cv] W (RPost W cols lv ((lv.map Prod.fst).set r ⟨mendL 1 cells, soft0⟩)) := by
  obtain ⟨A, c0, rfl, hcap, hA⟩ := hr
  obtain ⟨n, hnl⟩ : ∃ n, lv.length = n := ⟨_, rfl⟩
  have HNL := hid hnl
  obtain ⟨hs1, hs2⟩ := hs
  rw [hnl] at hcap hs1 ⊢
  have b0 := (((Bxs.nil W).alloc 24 #[.int .i64 cols, .slice A n c0]).alloc 24 #[.int .i64 0, .slice none 0 0]).alloc 24 #[.int .i64 cols, .slice none 0 0]
  simp only [World.size_alloc, List.nil_append, List.cons_append] at b0
  have h0 : Below W.heap.size W (((W.alloc (.cells #[.int .i64 cols, .slice A n c0] 24)).alloc (.cells #[.int .i64 0, .slice none 0 0] 24)).alloc (.cells #[.int .i64 cols, .slice none 0 0] 24)) := ((below_alloc _ _).alloc (by simp) _).alloc (by simp <;> omega) _
  have s0 : (((W.alloc (.cells #[.int .i64 cols, .slice A n c0] 24)).alloc (.cells #[.int .i64 0, .slice none 0 0] 24)).alloc (.cells #[.int .i64 cols, .slice none 0 0] 24)).heap.size = W.heap.size + 1 + 1 + 1 := by simp
  obtain ⟨tgt, htg⟩ : ∃ tgt, (lv.map Prod.fst).set r ⟨mendL 1 cells, soft0⟩ = tgt := ⟨_, rfl⟩
  have htl : tgt.length = n := by rw [← htg, List.length_set, List.length_map, hnl]
  have hta : tgt[r]? = some ⟨mendL 1 cells, soft0⟩ := by
    have hrl := (List.getElem?_eq_some_iff.1 hx0).1
    rw [← htg, List.getElem?_set_self (by rw [List.length_map]; exact hrl)]
  have htn : ∀ (k : Nat) (x : Ln × Value), k ≠ r → lv[k]? = some x → tgt[k]? = some x.1 := fun k x hk hx => by
    rw [← htg, List.getElem?_set_ne (Ne.symm hk), List.getElem?_map, hx]; rfl
  rw [htg]
  have BX0 := hid b0
  have H0 := hid h0
  have S0 := hid s0
  have HC := hid hc
  have HX0 := hid hx0
  have HTL := hid htl
  have HTA := hid hta
  have HTN := hid htn
  have HS2 := hid hs2
  have HCV := hid hcv
  obtain ⟨cA, cc, rfl⟩ := hcv.spell
  clear hcv
  clear b0 h0 s0 htg htl hta htn hc hs2 hnl hx0
  go_enter Tryd.func54, Tryd.ntmps54
  go_wp2
  go_loopw [16] (fun i wr => ∃ k : Nat, k ≤ n ∧ i = .int .i64 k ∧ GrRel W wr cols lv tgt k ∧ Box wr (W.heap.size + 1) 24 #[.int .i64 0, .slice none 0 0] ∧ W.heap.size + 1 + 1 + 1 ≤ wr.heap.size ∧ Below W.heap.size W wr) (fun i _ => n - (intOf i).toNat)
  case atStart => exact ⟨0, by omega, rfl, ⟨_, [], BX0.out.get 2 rfl, OwnL.nil _ _, rfl, by intro x hx; simp at hx⟩, BX0.out.get 1 rfl, by rw [S0.out]; exact Nat.le_refl _, H0.out⟩
  case round =>
    obtain ⟨k, hk, rfl, ⟨ov, lvk, hbo, hown, hmap, hcs⟩, hbz, hsz, hbr⟩ := hrel
    obtain ⟨oA, oc, hov⟩ := hown.spell
    have hlo : lvk.length = k := by have h := congrArg List.length hmap; rw [List.length_map, List.length_take, HTL.out] at h; omega
    rw [hlo] at hov
    subst hov
    by_cases hlt : k < n
    · have hki : (k : Int) < n := by omega
      have hkl : k < lv.length := by rw [HNL.out]; exact hlt
      obtain ⟨g, o, rfl, hg, hcell⟩ := hA (by intro e; rw [e] at hkl; simp at hkl)
      have hx := List.getElem?_eq_getElem hkl
      have hce := HC.out lv[k] (List.getElem_mem _)
      have hmem : lv[k] ∈ lv := List.getElem_mem _
      obtain ⟨p0, p1⟩ := hcell k lv[k] hx
      have p0 := (hbr.cell (p := ⟨g, o + k * 2, none⟩) hg).trans p0
      have p1 := (hbr.cell (p := ⟨g, o + k * 2 + 1, none⟩) hg).trans p1
      generalize lv[k] = x at *
      obtain ⟨⟨cs, soft⟩, u⟩ := x
      simp only at p0 p1 hce
      obtain ⟨uA, uc, rfl⟩ := hce.spell
      obtain ⟨⟨k0, k1⟩, f0, f1⟩ := hbo.two
      have hltb : W.heap.size + 1 + 1 < wr.heap.size := by omega
      have HX := hid hx
      have HMEM := hid hmem
      have HLO := hid hlo
      have HOWN := hid hown
      have HBO := hid hbo
      have HBZ := hid hbz
      have HBR := hid hbr
      have HMAP := hid hmap
      have HCS := hid hcs
      have HCE := hid hce
      clear hx hmem hlo hown hbo hbz hbr hmap hcs hce hcell hA
      by_cases hkr : k = r
      · subst hkr
        have he := HX.out.symm.trans HX0.out
        simp only [Option.some.injEq, Prod.mk.injEq, Ln.mk.injEq] at he
        obtain ⟨⟨rfl, rfl⟩, rfl⟩ := he
        have hmend := rMend_any _ cells soft (wr.alloc (.cells #[.slice uA cs.length uc, .bool soft] 61)) ((HCV.out.below HBR.out).below (below_alloc _ _)) hcl
        have HMEND := hid hmend
        have hbl := (Box.new wr 61 #[.slice uA cs.length uc, .bool soft])
        have HBL := hid hbl
        obtain ⟨⟨l0, l1⟩, q0, q1⟩ := hbl.two
        clear hmend hbl
        go_wp2_with fail
        with_reducible refine HMEND.out.mono ?_
        rintro e5 w5 ⟨v5, rfl, hc5, hb5⟩
        dsimp only
        obtain ⟨A5, c5, hv5⟩ := hc5.spell
        subst hv5
        have d5 := HBL.out.below hb5 (by simp)
        clear l0 l1 q0 q1
        obtain ⟨⟨l0, l1⟩, q0, q1⟩ := d5.two
        go_upto_region 7 with fail
        have d6 := (d5.set (i := 0) (.slice A5 (mendL 1 cells).length c5)).set (i := 1) (.bool soft)
        simp only [List.setIfInBounds_toArray, List.set_cons_zero, List.set_cons_succ] at d6
        have hc6 := ((hc5.set d5 (by decide) (i := 0) (.slice A5 (mendL 1 cells).length c5)).set (d5.set _) (by decide) (i := 1) (.bool soft)).mono (base' := W.heap.size) (by simp; have := HBR.out.size; omega)
        have hb6 : Below wr.heap.size wr ((w5.setCell ⟨wr.heap.size, 0, none⟩ (.slice A5 (mendL 1 cells).length c5)).setCell ⟨wr.heap.size, 1, none⟩ (.bool soft)) := below_set (below_set (Below.behind hb5) (Nat.le_refl _) _) (Nat.le_refl _) _
        generalize ((w5.setCell ⟨wr.heap.size, 0, none⟩ (.slice A5 (mendL 1 cells).length c5)).setCell ⟨wr.heap.size, 1, none⟩ (.bool soft)) = w6 at *
        have hk6 := HBO.out.below hb6 HBO.out.lt
        have HC6 := hid hc6
        have HB6 := hid hb6
        clear l0 l1 q0 q1 k0 k1 f0 f1 d5 hc5 hb5 hc6 hb6
        obtain ⟨⟨l0, l1⟩, q0, q1⟩ := d6.two
        obtain ⟨⟨k0, k1⟩, f0, f1⟩ := hk6.two
        clear d6 hk6
        have hbz : Below wr.heap.size wr w6 := HB6.out
        have hy : Newc w6 W.heap.size lv [(⟨mendL 1 cells, soft⟩, .slice A5 (mendL 1 cells).length c5)] := by intro z hz; rw [List.mem_singleton] at hz; subst hz; exact .inr HC6.out
        have hown6 : OwnL (w6.alloc (.cells #[.slice A5 (mendL 1 cells).length c5, .bool soft] 61)) W.heap.size (.slice oA k oc) lvk := HOWN.out.kept (hbz.trans ((below_alloc _ _).mono hbz.size))
        have hlit : LR (w6.alloc (.cells #[.slice A5 (mendL 1 cells).length c5, .bool soft] 61)) (.slice (some ⟨w6.heap.size, 0, none⟩) 1 1) [(⟨mendL 1 cells, soft⟩, .slice A5 (mendL 1 cells).length c5)] := ln_lit _ (⟨mendL 1 cells, soft⟩, .slice A5 (mendL 1 cells).length c5)
        try simp only [World.size_alloc] at hlit
        have hces : CesOf (w6.alloc (.cells #[.slice A5 (mendL 1 cells).length c5, .bool soft] 61)) [(⟨mendL 1 cells, soft⟩, .slice A5 (mendL 1 cells).length c5)] := (hy.below (below_alloc _ _) (Nat.le_refl _)).ces ((HC.out.below HBR.out).below (hbz.trans ((below_alloc _ _).mono hbz.size)))
        have hszz : W.heap.size + 1 + 1 < w6.heap.size := Nat.lt_of_lt_of_le hltb hbz.size
        have hbo6 := HBO.out.below (hbz.trans ((below_alloc w6 (.cells #[.slice A5 (mendL 1 cells).length c5, .bool soft] 61)).mono hbz.size)) HBO.out.lt
        have HBZZ := hid hbz
        have HY := hid hy
        have HOWN6 := hid hown6
        have HLIT := hid hlit
        have HCES := hid hces
        have HBO6 := hid hbo6
        have HTG : Hid (tgt[k]? = some (⟨mendL 1 cells, soft⟩)) := HTA.out
        clear hbz hy hown6 hlit hces hbo6
        go_wp2_with (at_builtin; refine wpList_append_ln rfl _ _ rfl W.heap.size _ _ lvk [(⟨mendL 1 cells, soft⟩, .slice A5 (mendL 1 cells).length c5)] rfl HOWN6.out rfl HLIT.out HCES.out (by rw [HLO.out]; simp; omega) (by simp; omega) ?_; intro v9 w9 h1 h2; obtain ⟨A9, c9, hv9⟩ := h1.spell; rw [List.length_append, HLO.out, List.length_singleton] at hv9; subst hv9; have H1 := hid h1; have H2 := hid h2; clear h1 h2; have hb7 := HBO6.out.grown H2.out (HOWN6.out.not_box HBO6.out (by decide)); obtain ⟨⟨m0, m1⟩, n0, n1⟩ := hb7.two; clear hb7)
        have hst := gr_step HBO.out HOWN.out HMAP.out HCS.out HTG.out HBZZ.out HY.out H1.out H2.out HBZ.out HBR.out hsz
        have HST := hid hst
        clear hst
        go_roundw
        case rel => exact ⟨k + 1, by omega, by go_num, HST.out.1, HST.out.2.1, HST.out.2.2.2, HST.out.2.2.1⟩
        case measure => simp [intOf]; omega
      · have hkq : ((k : Int) == (r : Int)) = false := by rw [beq_eq_false_iff_ne]; omega
        have HNE := hid hkr
        clear hkr
        have hbz : Below wr.heap.size wr (wr.alloc (.cells #[.slice uA cs.length uc, .bool soft] 61)) := below_alloc _ _
        have hy : Newc (wr.alloc (.cells #[.slice uA cs.length uc, .bool soft] 61)) W.heap.size lv [(⟨cs, soft⟩, .slice uA cs.length uc)] := by intro z hz; rw [List.mem_singleton] at hz; subst hz; exact .inl ⟨_, HMEM.out, rfl, rfl⟩
        have hown6 : OwnL ((wr.alloc (.cells #[.slice uA cs.length uc, .bool soft] 61)).alloc (.cells #[.slice uA cs.length uc, .bool soft] 61)) W.heap.size (.slice oA k oc) lvk := HOWN.out.kept (hbz.trans ((below_alloc _ _).mono hbz.size))
        have hlit : LR ((wr.alloc (.cells #[.slice uA cs.length uc, .bool soft] 61)).alloc (.cells #[.slice uA cs.length uc, .bool soft] 61)) (.slice (some ⟨(wr.alloc (.cells #[.slice uA cs.length uc, .bool soft] 61)).heap.size, 0, none⟩) 1 1) [(⟨cs, soft⟩, .slice uA cs.length uc)] := ln_lit _ (⟨cs, soft⟩, .slice uA cs.length uc)
        try simp only [World.size_alloc] at hlit
        have hces : CesOf ((wr.alloc (.cells #[.slice uA cs.length uc, .bool soft] 61)).alloc (.cells #[.slice uA cs.length uc, .bool soft] 61)) [(⟨cs, soft⟩, .slice uA cs.length uc)] := (hy.below (below_alloc _ _) (Nat.le_refl _)).ces ((HC.out.below HBR.out).below (hbz.trans ((below_alloc _ _).mono hbz.size)))
        have hszz : W.heap.size + 1 + 1 < (wr.alloc (.cells #[.slice uA cs.length uc, .bool soft] 61)).heap.size := Nat.lt_of_lt_of_le hltb hbz.size
        have hbo6 := HBO.out.below (hbz.trans ((below_alloc (wr.alloc (.cells #[.slice uA cs.length uc, .bool soft] 61)) (.cells #[.slice uA cs.length uc, .bool soft] 61)).mono hbz.size)) HBO.out.lt
        have HBZZ := hid hbz
        have HY := hid hy
        have HOWN6 := hid hown6
        have HLIT := hid hlit
        have HCES := hid hces
        have HBO6 := hid hbo6
        have HTG : Hid (tgt[k]? = some (⟨cs, soft⟩)) := HTN.out k _ HNE.out HX.out
        clear hbz hy hown6 hlit hces hbo6
        go_wp2_with (at_builtin; refine wpList_append_ln rfl _ _ rfl W.heap.size _ _ lvk [(⟨cs, soft⟩, .slice uA cs.length uc)] rfl HOWN6.out rfl HLIT.out HCES.out (by rw [HLO.out]; simp; omega) (by simp; omega) ?_; intro v9 w9 h1 h2; obtain ⟨A9, c9, hv9⟩ := h1.spell; rw [List.length_append, HLO.out, List.length_singleton] at hv9; subst hv9; have H1 := hid h1; have H2 := hid h2; clear h1 h2; have hb7 := HBO6.out.grown H2.out (HOWN6.out.not_box HBO6.out (by decide)); obtain ⟨⟨m0, m1⟩, n0, n1⟩ := hb7.two; clear hb7)
        have hst := gr_step HBO.out HOWN.out HMAP.out HCS.out HTG.out HBZZ.out HY.out H1.out H2.out HBZ.out HBR.out hsz
        have HST := hid hst
        clear hst
        go_roundw
        case rel => exact ⟨k + 1, by omega, by go_num, HST.out.1, HST.out.2.1, HST.out.2.2.2, HST.out.2.2.1⟩
        case measure => simp [intOf]; omega
    · have hkm : k = n := by omega
      subst hkm
      obtain ⟨⟨k0, k1⟩, f0, f1⟩ := hbo.two
      obtain ⟨⟨z0, z1⟩, y0, y1⟩ := hbz.two
      rw [List.take_of_length_le (by rw [HTL.out]; exact Nat.le_refl _)] at hmap
      have HOWN := hid hown
      have HBZ := hid hbz
      have HBR := hid hbr
      have HMAP := hid hmap
      have HCS := hid hcs
      clear hown hbz hbr hbo hlo hA hmap hcs
      go_wp2
      refine bodyPost_ret (v := .agg #[.int .i64 cols, .slice oA k oc]) (by simp [results, Tryd.results54, go_sem, z0, z1]) rfl ⟨_, lvk, rfl, HMAP.out, ?_, ?_, ?_⟩
      · exact ((HOWN.out.set HBZ.out (by decide) (i := 0) (.int .i64 cols)).set (HBZ.out.set _) (by decide) (i := 1) (.slice oA k oc)).lsl
      · exact (HCS.out.set HBZ.out (by decide) (i := 0) (.int .i64 cols)).set (HBZ.out.set _) (by decide) (i := 1) (.slice oA k oc)
      · exact (HBR.out.setCell (p := ⟨W.heap.size + 1, 0, none⟩) (by show W.heap.size ≤ W.heap.size + 1; omega) _).setCell (p := ⟨W.heap.size + 1, 1, none⟩) (by show W.heap.size ≤ W.heap.size + 1; omega) _

end Go.Proofs.YtkejoknphnkhnaaDoor
