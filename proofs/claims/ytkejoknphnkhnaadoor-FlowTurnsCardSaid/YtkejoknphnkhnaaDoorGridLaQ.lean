/- Layer 6, the statements' helpers: a grid cut short. Made by wip/gen/gridFew.py. -/
/- Lines appended to a row of the call's own: where the row lies then. -/
import Derived.Test.YtkejoknphnkhnaaDoorGridLineQ
import Derived.Deep.RegionLaw
import Derived.Deep.DeepCutAuto
import Derived.Deep.RegionWith
import Derived.Maps.AppendAt
namespace Go.Proofs.YtkejoknphnkhnaaDoor
open Go.RowKit

def cutN (l : Ln) : Ln := ⟨lineG l.cs, l.soft⟩
def fewG (ls : List Ln) : List Ln := (ls.take 52).map cutN
theorem take_cutN {l : List Ln} {k : Nat} {c : Ln} (h : l[k]? = some c) : (l.take (k + 1)).map cutN = (l.take k).map cutN ++ [cutN c] := by
  obtain ⟨hk, rfl⟩ := List.getElem?_eq_some_iff.1 h
  rw [List.take_succ_eq_append_getElem hk, List.map_append]
  rfl
theorem ln_lit (W : World) (e : Ln × Value) : LR (W.alloc (.cells #[e.2, .bool e.1.soft] 61)) (.slice (some ⟨W.heap.size, 0, none⟩) 1 1) [e] := by
  refine ⟨_, _, rfl, Nat.le_refl _, fun _ => ⟨W.heap.size, 0, rfl, by simp, fun j x hj => ?_⟩⟩
  have hb := Box.new W 61 #[e.2, .bool e.1.soft]
  cases j with
  | zero =>
    simp at hj
    subst hj
    exact ⟨hb.cell 0, hb.cell 1⟩
  | succ j => simp at hj
theorem CSl.grown {W W' : World} {base base' : Nat} {v v' : Value} {l : List Ce} {lv : List (Ln × Value)} (h : CSl W base v l) (ho : OwnL W base' v' lv) (hg : W.grownBy W' v'.ownBlock) : CSl W' base v l := by
  rcases h with h | ⟨g, cap, rfl, h1, cur, hb, h2⟩
  · exact .inl h
  · exact .inr ⟨g, cap, rfl, h1, cur, hb.grown hg (ho.not_box hb (by decide)), h2⟩
theorem step_append_ln {ops : Array Oper} {o : Oper} {a : Act} {w : World} {K : Act → World → Prop} {Q : Exit → Act → World → Prop} {E : Prop} (hgd : o.guard = none) (s x : Operand)
    (ho : o.op = .call { callee := .builtin .append, args := #[s, x], argTypes := #[22, 22] }) (base : Nat) (v xv : Value) (l m : List (Ln × Value))
    (hs : a.eval s = v) (hown : OwnL w base v l) (hxe : a.eval x = xv) (hx : LR w xv m) (hm : CesOf w m) (hb : l.length + m.length ≤ 1000000) (hbase : base ≤ w.heap.size)
    (h : ∀ v' w', OwnL w' base v' (l ++ m) → w.grownBy w' v.ownBlock → K (a.put o.dst v') w') : if Region.wanted o (yielded ops a.tmps) = true then Oper.wp Tryd.prog o a w K Q else E := by
  have hw : Region.wanted o (yielded ops a.tmps) = true := by simp [Region.wanted, hgd]
  rw [if_pos hw]
  obtain ⟨v', w', hrun, h2, h3⟩ := run_append_ln w base v xv l m hown hx hm o.type hb hbase
  unfold Oper.wp
  simp [execOp, ho, resolve, invoke, builtin, hs, hxe, hrun, Result.andThen]
  exact h v' w' h2 h3
def FewRel (W wr : World) (cols : Int) (ls : List Ln) (k : Nat) : Prop :=
  ∃ ov lvk, Box wr (W.heap.size + 1 + 1) 24 #[.int .i64 cols, ov] ∧ OwnL wr W.heap.size ov lvk ∧ lvk.map Prod.fst = (ls.take k).map cutN ∧ ∀ x ∈ lvk, CSl wr W.heap.size x.2 x.1.cs
def FewPost (W : World) (cols : Int) (ls : List Ln) (e : Ending) (w' : World) : Prop :=
  ∃ v lv', e = .returned (.agg #[.int .i64 cols, v]) ∧ lv'.map Prod.fst = ls ∧ LSl w' W.heap.size v lv' ∧ (∀ x ∈ lv', CSl w' W.heap.size x.2 x.1.cs) ∧ Below W.heap.size W w'
/-- One line more. -/
theorem few_step {W wr w5 w7 : World} {cols : Int} {ls : List Ln} {k : Nat} {x : Ln} {ov v5 v' : Value} {lvk : List (Ln × Value)} {lc : Array Value} (hbo : Box wr (W.heap.size + 1 + 1) 24 #[.int .i64 cols, ov]) (hown : OwnL wr W.heap.size ov lvk)
    (hm : lvk.map Prod.fst = (ls.take k).map cutN) (hcs : ∀ x ∈ lvk, CSl wr W.heap.size x.2 x.1.cs) (hx : ls[k]? = some x) (hb5 : Below wr.heap.size wr w5) (hc5 : CSl w5 wr.heap.size v5 (lineG x.cs)) (hsz : W.heap.size ≤ wr.heap.size)
    (hown7 : OwnL w7 W.heap.size v' (lvk ++ [(cutN x, v5)])) (hg7 : (w5.alloc (.cells lc 61)).grownBy w7 ov.ownBlock) : FewRel W (w7.setCell ⟨W.heap.size + 1 + 1, 1, none⟩ v') cols ls (k + 1) := by
  have hb6 := hb5.trans ((below_alloc w5 (.cells lc 61)).mono hb5.size)
  have own6 := hown.kept hb6
  have box6 := hbo.below hb6 hbo.lt
  have box7 := box6.grown hg7 (own6.not_box box6 (by decide))
  refine ⟨v', lvk ++ [(cutN x, v5)], box7.set (i := 1) v', hown7.set box7 (by decide) _, ?_, fun y hy => ?_⟩
  · rw [List.map_append, hm, take_cutN hx]; rfl
  · rw [List.mem_append, List.mem_singleton] at hy
    rcases hy with hy | rfl
    · exact (((hcs y hy).below hb6 (Nat.le_refl _)).grown own6 hg7).set box7 (by decide) _
    · exact ((((hc5.mono hsz).below (below_alloc w5 (.cells lc 61)) (Nat.le_refl _)).grown own6 hg7).set box7 (by decide) _ : CSl _ _ v5 (lineG x.cs))

set_option maxRecDepth 100000 in
set_option maxHeartbeats 2000000 in
theorem few_m (cols : Int) (v : Value) (lv : List (Ln × Value)) (m : Nat) (W : World) (hr : LR W v lv) (hc : CesOf W lv) (hn : (lv.length : Int) ≤ 9223372036854775807) (hl : ∀ e ∈ lv, (e.1.cs.length : Int) ≤ 9223372036854775807 ∧ ∀ c ∈ e.1.cs, (c.tx.size : Int) ≤ 9223372036854775807) (hm : (lv.length ≤ 52 ∧ m = lv.length) ∨ (52 < lv.length ∧ m = 52)) :
    Calls Tryd.prog 7 #[.agg #[.int .i64 cols, v]] W (FewPost W cols (fewG (lv.map Prod.fst))) := by
  have hr' := hr
  obtain ⟨A, c0, rfl, hcap, hA⟩ := hr
  obtain ⟨n, hnl⟩ : ∃ n, lv.length = n := ⟨_, rfl⟩
  have HNL := hid hnl
  rw [hnl] at hcap hn hm ⊢
  have b0 := (((Bxs.nil W).alloc 24 #[.int .i64 cols, .slice A n c0]).alloc 24 #[.int .i64 0, .slice none 0 0]).alloc 24 #[.int .i64 cols, .slice none 0 0]
  simp only [World.size_alloc, List.nil_append, List.cons_append] at b0
  have h0 : Below W.heap.size W (((W.alloc (.cells #[.int .i64 cols, .slice A n c0] 24)).alloc (.cells #[.int .i64 0, .slice none 0 0] 24)).alloc (.cells #[.int .i64 cols, .slice none 0 0] 24)) := ((below_alloc _ _).alloc (by simp) _).alloc (by simp <;> omega) _
  have BX0 := hid b0
  have H0 := hid h0
  have HR := hid hr'
  have HC := hid hc
  have HMM := hid hm
  have hml : m ≤ n := by omega
  have hm82 : m ≤ 52 := by omega
  have hlg : fewG (lv.map Prod.fst) = ((lv.map Prod.fst).take m).map cutN := by
    unfold fewG
    rcases hm with ⟨h1, h2⟩ | ⟨h1, rfl⟩
    · rw [h2]
      rw [List.take_of_length_le (by rw [List.length_map, HNL.out]; exact h1), List.take_of_length_le (by rw [List.length_map, HNL.out]; exact Nat.le_refl _)]
    · rfl
  have HLG := hid hlg
  have htt := hid hl
  have s0 : (((W.alloc (.cells #[.int .i64 cols, .slice A n c0] 24)).alloc (.cells #[.int .i64 0, .slice none 0 0] 24)).alloc (.cells #[.int .i64 cols, .slice none 0 0] 24)).heap.size = W.heap.size + 1 + 1 + 1 := by simp
  have S0 := hid s0
  clear b0 h0 hr' hlg hm hl s0 hnl hc
  rcases HMM.out with ⟨h1, h2⟩ | ⟨h1, h2⟩
  · subst h2
    have hi1 : (m : Int) ≤ 52 := by omega
    go_enter Tryd.func7, Tryd.ntmps7
    go_wp2
    go_loopw [17] (fun i wr => ∃ k : Nat, k ≤ m ∧ i = .int .i64 k ∧ FewRel W wr cols (lv.map Prod.fst) k ∧ Box wr (W.heap.size + 1) 24 #[.int .i64 0, .slice none 0 0] ∧ W.heap.size + 1 + 1 + 1 ≤ wr.heap.size ∧ Below W.heap.size W wr) (fun i _ => m - (intOf i).toNat)
    case atStart => exact ⟨0, by omega, rfl, ⟨_, [], BX0.out.get 2 rfl, OwnL.nil _ _, rfl, by simp⟩, BX0.out.get 1 rfl, by rw [S0.out]; exact Nat.le_refl _, H0.out⟩
    case round =>
      obtain ⟨k, hk, rfl, ⟨ov, lvk, hbo, hown, hmap, hcs⟩, hbz, hsz, hbr⟩ := hrel
      obtain ⟨oA, oc, rfl⟩ := hown.spell
      have hlo : lvk.length = k := by have h := congrArg List.length hmap; rw [List.length_map, List.length_map, List.length_take, List.length_map, HNL.out] at h; omega
      rw [hlo] at hown hbo
      by_cases hlt : k < m
      · have hki : (k : Int) < m := by omega
        have hkl : k < lv.length := by rw [HNL.out]; omega
        obtain ⟨g, o, rfl, hg, hcell⟩ := hA (by intro e; rw [e] at hkl; simp at hkl)
        have hx := List.getElem?_eq_getElem hkl
        have hts := htt.out lv[k] (List.getElem_mem _)
        have hce := HC.out lv[k] (List.getElem_mem _)
        obtain ⟨p0, p1⟩ := hcell k lv[k] hx
        have p0 := (hbr.cell (p := ⟨g, o + k * 2, none⟩) hg).trans p0
        have p1 := (hbr.cell (p := ⟨g, o + k * 2 + 1, none⟩) hg).trans p1
        have hxm : (lv.map Prod.fst)[k]? = some lv[k].1 := by rw [List.getElem?_map, hx]; rfl
        generalize lv[k] = x at *
        obtain ⟨⟨cs, soft⟩, cv⟩ := x
        simp only at p0 p1 hts hce hxm
        obtain ⟨cA, cc, rfl⟩ := hce.spell
        have hline := fun W' (hb : Below wr.heap.size wr W') => line_any _ cs soft W' ((hce.below hbr).below hb) hts.1 hts.2
        obtain ⟨⟨k0, k1⟩, f0, f1⟩ := hbo.two
        have hne : ¬ W.heap.size + 1 + 1 = wr.heap.size := by omega
        have hltb : W.heap.size + 1 + 1 < wr.heap.size := by omega
        have HXM := hid hxm
        have HLO := hid hlo
        have HOWN := hid hown
        have HBO := hid hbo
        have HBZ := hid hbz
        have HBR := hid hbr
        have HMAP := hid hmap
        have HCS := hid hcs
        have HLINE := hid hline
        clear hx hxm hlo hown hbo hbz hbr hcell hA hmap hcs hline hce hts
        have hd0 : Below wr.heap.size wr (wr.alloc (.cells #[.slice cA cs.length cc, .bool soft] 61)).drew := (below_alloc _ _).drew
        go_upto_region 5 with fail
        first | go_region_law (first | (go_simp; go_at_call 36; refine (HLINE.out _ hd0).mono ?_; rintro e w5 ⟨v5, rfl, hc5, hb5⟩; have hd5 := hd0.trans (hb5.mono hd0.size); obtain ⟨⟨k0, k1⟩, f0, f1⟩ := (HBO.out.below hd5 HBO.out.lt).two; obtain ⟨A5, c5, hs5⟩ := hc5.spell; subst hs5; have hlt5 : wr.heap.size ≤ w5.heap.size := hd5.size; have hlt6 : W.heap.size + 1 + 1 < w5.heap.size := Nat.lt_of_lt_of_le hltb hlt5; have HC5 := hid hc5; clear hc5; have hd6 := hid (hd5.trans ((below_alloc w5 (.cells #[.slice A5 (lineG cs).length c5, .bool soft] 61)).mono hd5.size))) | (refine step_append_ln rfl _ _ rfl W.heap.size _ _ lvk [(cutN ⟨cs, soft⟩, .slice A5 (lineG cs).length c5)] rfl (HOWN.out.kept hd6.out) rfl (ln_lit w5 (cutN ⟨cs, soft⟩, .slice A5 (lineG cs).length c5)) (by intro y hy; rw [List.mem_singleton] at hy; subst hy; exact HC5.out.row.below (below_alloc _ _)) (by rw [HLO.out]; simp; omega) (by simp; omega) ?_; intro v' w7 h1 h2; obtain ⟨A', c', hv'⟩ := h1.spell; rw [List.length_append, HLO.out, List.length_singleton] at hv'; subst hv'; have H1 := hid h1; have H2 := hid h2; clear h1 h2; have hb7 := (HBO.out.below hd6.out HBO.out.lt).grown H2.out (OwnL.not_box (HOWN.out.kept hd6.out) (HBO.out.below hd6.out HBO.out.lt) (by decide)); obtain ⟨⟨m0, m1⟩, n0, n1⟩ := hb7.two)) | fail
        all_goals
          have hst := few_step HBO.out HOWN.out HMAP.out HCS.out HXM.out hd5 (HC5.out.mono hd0.size) (by omega) H1.out H2.out
          have hz := ((HBZ.out.below hd6.out HBZ.out.lt).grown H2.out (OwnL.not_box (HOWN.out.kept hd6.out) (HBZ.out.below hd6.out HBZ.out.lt) (by decide))).other (b' := W.heap.size + 1 + 1) (i := 1) (by omega) (.slice A' (k + 1) c')
          have hlt7 : ∀ q, (Value.slice oA k oc).ownBlock = some q → W.heap.size ≤ q := fun q hq => (World.ownsRow.lt (HOWN.out.kept hd6.out) q hq).1
          have hbb := (((HBR.out.trans (hd6.out.mono HBR.out.size)).trans ((Below.refl W.heap.size _).grown H2.out (by have := HBR.out.size; have := hd6.out.size; omega) hlt7))).setCell (p := ⟨W.heap.size + 1 + 1, 1, none⟩) (by show W.heap.size ≤ W.heap.size + 1 + 1; omega) (.slice A' (k + 1) c')
          have hzz : W.heap.size + 1 + 1 + 1 ≤ (w7.setCell ⟨W.heap.size + 1 + 1, 1, none⟩ (.slice A' (k + 1) c')).heap.size := by
            have := H2.out.size
            have := hd6.out.size
            rw [size_set]
            omega
          have HST := hid hst
          have HZ := hid hz
          have HBB := hid hbb
          have HZZ := hid hzz
          clear hst hz hlt7 hbb hzz m0 m1 n0 n1
          go_wp2
          go_roundw
          case rel => exact ⟨k + 1, by omega, by go_num, HST.out, HZ.out, HZZ.out, HBB.out⟩
          case measure => simp [intOf]; omega
      · have hkm : k = m := by omega
        subst hkm
        obtain ⟨⟨k0, k1⟩, f0, f1⟩ := hbo.two
        obtain ⟨⟨z0, z1⟩, y0, y1⟩ := hbz.two
        have HOWN := hid hown
        have HBZ := hid hbz
        have HBR := hid hbr
        have HMAP := hid hmap
        have HCS := hid hcs
        clear hown hbz hbr hbo hlo hA hmap hcs
        go_wp2
        refine bodyPost_ret (v := .agg #[.int .i64 cols, .slice oA k oc]) (by simp [results, Tryd.results7, go_sem, z0, z1]) rfl ⟨_, lvk, rfl, ?_, ?_, ?_, ?_⟩
        · rw [HLG.out]
          exact HMAP.out
        · exact ((HOWN.out.set HBZ.out (by decide) (i := 0) (.int .i64 cols)).set (HBZ.out.set _) (by decide) (i := 1) (.slice oA k oc)).lsl
        · exact fun x hx => ((HCS.out x hx).set HBZ.out (by decide) (i := 0) (.int .i64 cols)).set (HBZ.out.set _) (by decide) (i := 1) (.slice oA k oc)
        · exact (HBR.out.setCell (p := ⟨W.heap.size + 1, 0, none⟩) (by show W.heap.size ≤ W.heap.size + 1; omega) _).setCell (p := ⟨W.heap.size + 1, 1, none⟩) (by show W.heap.size ≤ W.heap.size + 1; omega) _
  · have hi1 : (52 : Int) < n := by omega
    have hi2 : (52 : Int) ≤ c0 := by omega
    subst h2
    go_enter Tryd.func7, Tryd.ntmps7
    go_wp2
    go_loopw [17] (fun i wr => ∃ k : Nat, k ≤ 52 ∧ i = .int .i64 k ∧ FewRel W wr cols (lv.map Prod.fst) k ∧ Box wr (W.heap.size + 1) 24 #[.int .i64 0, .slice none 0 0] ∧ W.heap.size + 1 + 1 + 1 ≤ wr.heap.size ∧ Below W.heap.size W wr) (fun i _ => 52 - (intOf i).toNat)
    case atStart => exact ⟨0, by omega, rfl, ⟨_, [], BX0.out.get 2 rfl, OwnL.nil _ _, rfl, by simp⟩, BX0.out.get 1 rfl, by rw [S0.out]; exact Nat.le_refl _, H0.out⟩
    case round =>
      obtain ⟨k, hk, rfl, ⟨ov, lvk, hbo, hown, hmap, hcs⟩, hbz, hsz, hbr⟩ := hrel
      obtain ⟨oA, oc, rfl⟩ := hown.spell
      have hlo : lvk.length = k := by have h := congrArg List.length hmap; rw [List.length_map, List.length_map, List.length_take, List.length_map, HNL.out] at h; omega
      rw [hlo] at hown hbo
      by_cases hlt : k < 52
      · have hki : (k : Int) < 52 := by omega
        have hkl : k < lv.length := by rw [HNL.out]; omega
        obtain ⟨g, o, rfl, hg, hcell⟩ := hA (by intro e; rw [e] at hkl; simp at hkl)
        have hx := List.getElem?_eq_getElem hkl
        have hts := htt.out lv[k] (List.getElem_mem _)
        have hce := HC.out lv[k] (List.getElem_mem _)
        obtain ⟨p0, p1⟩ := hcell k lv[k] hx
        have p0 := (hbr.cell (p := ⟨g, o + k * 2, none⟩) hg).trans p0
        have p1 := (hbr.cell (p := ⟨g, o + k * 2 + 1, none⟩) hg).trans p1
        have hxm : (lv.map Prod.fst)[k]? = some lv[k].1 := by rw [List.getElem?_map, hx]; rfl
        generalize lv[k] = x at *
        obtain ⟨⟨cs, soft⟩, cv⟩ := x
        simp only at p0 p1 hts hce hxm
        obtain ⟨cA, cc, rfl⟩ := hce.spell
        have hline := fun W' (hb : Below wr.heap.size wr W') => line_any _ cs soft W' ((hce.below hbr).below hb) hts.1 hts.2
        obtain ⟨⟨k0, k1⟩, f0, f1⟩ := hbo.two
        have hne : ¬ W.heap.size + 1 + 1 = wr.heap.size := by omega
        have hltb : W.heap.size + 1 + 1 < wr.heap.size := by omega
        have HXM := hid hxm
        have HLO := hid hlo
        have HOWN := hid hown
        have HBO := hid hbo
        have HBZ := hid hbz
        have HBR := hid hbr
        have HMAP := hid hmap
        have HCS := hid hcs
        have HLINE := hid hline
        clear hx hxm hlo hown hbo hbz hbr hcell hA hmap hcs hline hce hts
        have hd0 : Below wr.heap.size wr (wr.alloc (.cells #[.slice cA cs.length cc, .bool soft] 61)).drew := (below_alloc _ _).drew
        go_upto_region 5 with fail
        first | go_region_law (first | (go_simp; go_at_call 36; refine (HLINE.out _ hd0).mono ?_; rintro e w5 ⟨v5, rfl, hc5, hb5⟩; have hd5 := hd0.trans (hb5.mono hd0.size); obtain ⟨⟨k0, k1⟩, f0, f1⟩ := (HBO.out.below hd5 HBO.out.lt).two; obtain ⟨A5, c5, hs5⟩ := hc5.spell; subst hs5; have hlt5 : wr.heap.size ≤ w5.heap.size := hd5.size; have hlt6 : W.heap.size + 1 + 1 < w5.heap.size := Nat.lt_of_lt_of_le hltb hlt5; have HC5 := hid hc5; clear hc5; have hd6 := hid (hd5.trans ((below_alloc w5 (.cells #[.slice A5 (lineG cs).length c5, .bool soft] 61)).mono hd5.size))) | (refine step_append_ln rfl _ _ rfl W.heap.size _ _ lvk [(cutN ⟨cs, soft⟩, .slice A5 (lineG cs).length c5)] rfl (HOWN.out.kept hd6.out) rfl (ln_lit w5 (cutN ⟨cs, soft⟩, .slice A5 (lineG cs).length c5)) (by intro y hy; rw [List.mem_singleton] at hy; subst hy; exact HC5.out.row.below (below_alloc _ _)) (by rw [HLO.out]; simp; omega) (by simp; omega) ?_; intro v' w7 h1 h2; obtain ⟨A', c', hv'⟩ := h1.spell; rw [List.length_append, HLO.out, List.length_singleton] at hv'; subst hv'; have H1 := hid h1; have H2 := hid h2; clear h1 h2; have hb7 := (HBO.out.below hd6.out HBO.out.lt).grown H2.out (OwnL.not_box (HOWN.out.kept hd6.out) (HBO.out.below hd6.out HBO.out.lt) (by decide)); obtain ⟨⟨m0, m1⟩, n0, n1⟩ := hb7.two)) | fail
        all_goals
          have hst := few_step HBO.out HOWN.out HMAP.out HCS.out HXM.out hd5 (HC5.out.mono hd0.size) (by omega) H1.out H2.out
          have hz := ((HBZ.out.below hd6.out HBZ.out.lt).grown H2.out (OwnL.not_box (HOWN.out.kept hd6.out) (HBZ.out.below hd6.out HBZ.out.lt) (by decide))).other (b' := W.heap.size + 1 + 1) (i := 1) (by omega) (.slice A' (k + 1) c')
          have hlt7 : ∀ q, (Value.slice oA k oc).ownBlock = some q → W.heap.size ≤ q := fun q hq => (World.ownsRow.lt (HOWN.out.kept hd6.out) q hq).1
          have hbb := (((HBR.out.trans (hd6.out.mono HBR.out.size)).trans ((Below.refl W.heap.size _).grown H2.out (by have := HBR.out.size; have := hd6.out.size; omega) hlt7))).setCell (p := ⟨W.heap.size + 1 + 1, 1, none⟩) (by show W.heap.size ≤ W.heap.size + 1 + 1; omega) (.slice A' (k + 1) c')
          have hzz : W.heap.size + 1 + 1 + 1 ≤ (w7.setCell ⟨W.heap.size + 1 + 1, 1, none⟩ (.slice A' (k + 1) c')).heap.size := by
            have := H2.out.size
            have := hd6.out.size
            rw [size_set]
            omega
          have HST := hid hst
          have HZ := hid hz
          have HBB := hid hbb
          have HZZ := hid hzz
          clear hst hz hlt7 hbb hzz m0 m1 n0 n1
          go_wp2
          go_roundw
          case rel => exact ⟨k + 1, by omega, by go_num, HST.out, HZ.out, HZZ.out, HBB.out⟩
          case measure => simp [intOf]; omega
      · have hkm : k = 52 := by omega
        subst hkm
        obtain ⟨⟨k0, k1⟩, f0, f1⟩ := hbo.two
        obtain ⟨⟨z0, z1⟩, y0, y1⟩ := hbz.two
        have HOWN := hid hown
        have HBZ := hid hbz
        have HBR := hid hbr
        have HMAP := hid hmap
        have HCS := hid hcs
        clear hown hbz hbr hbo hlo hA hmap hcs
        go_wp2
        refine bodyPost_ret (v := .agg #[.int .i64 cols, .slice oA 52 oc]) (by simp [results, Tryd.results7, go_sem, z0, z1]) rfl ⟨_, lvk, rfl, ?_, ?_, ?_, ?_⟩
        · rw [HLG.out]
          exact HMAP.out
        · exact ((HOWN.out.set HBZ.out (by decide) (i := 0) (.int .i64 cols)).set (HBZ.out.set _) (by decide) (i := 1) (.slice oA 52 oc)).lsl
        · exact fun x hx => ((HCS.out x hx).set HBZ.out (by decide) (i := 0) (.int .i64 cols)).set (HBZ.out.set _) (by decide) (i := 1) (.slice oA 52 oc)
        · exact (HBR.out.setCell (p := ⟨W.heap.size + 1, 0, none⟩) (by show W.heap.size ≤ W.heap.size + 1; omega) _).setCell (p := ⟨W.heap.size + 1, 1, none⟩) (by show W.heap.size ≤ W.heap.size + 1; omega) _

theorem few_any (cols : Int) (v : Value) (lv : List (Ln × Value)) (W : World) (hr : LR W v lv) (hc : CesOf W lv) (hn : (lv.length : Int) ≤ 9223372036854775807) (hl : ∀ e ∈ lv, (e.1.cs.length : Int) ≤ 9223372036854775807 ∧ ∀ c ∈ e.1.cs, (c.tx.size : Int) ≤ 9223372036854775807) :
    Calls Tryd.prog 7 #[.agg #[.int .i64 cols, v]] W (FewPost W cols (fewG (lv.map Prod.fst))) := by
  by_cases h : lv.length ≤ 52
  · exact few_m cols v lv lv.length W hr hc hn hl (.inl ⟨h, rfl⟩)
  · exact few_m cols v lv 52 W hr hc hn hl (.inr ⟨by omega, rfl⟩)
theorem fewG_sm {lv lv' : List (Ln × Value)} (h : lv'.map Prod.fst = fewG (lv.map Prod.fst)) : lv'.length ≤ 52 ∧ ∀ e ∈ lv', e.1.cs.length ≤ 82 ∧ ∀ c ∈ e.1.cs, c.tx.size ≤ 20 := by
  refine ⟨?_, fun e he => ?_⟩
  · have := congrArg List.length h
    unfold fewG at this
    rw [List.length_map, List.length_map, List.length_take] at this
    omega
  · have hm : e.1 ∈ lv'.map Prod.fst := List.mem_map.2 ⟨e, he, rfl⟩
    rw [h] at hm
    obtain ⟨x, _, hx⟩ := List.mem_map.1 hm
    rw [← hx]
    refine ⟨?_, lineG_size⟩
    show (lineG x.cs).length ≤ 82
    rw [lineG_length]
    omega
end Go.Proofs.YtkejoknphnkhnaaDoor

namespace Go.Proofs.YtkejoknphnkhnaaDoor
open Go.RowKit

theorem run_append_ln_at (w : World) (base : Nat) (v x : Value) (l m : List (Ln × Value)) (hown : OwnL w base v l) (hx : LR w x m) (hm : CesOf w m) (hne : m ≠ []) (ty : TypeId) (hb : l.length + m.length ≤ 1000000) (hbase : base ≤ w.heap.size) :
    ∃ v' w', (Builtin.append_ #[22, 22] ty #[v, x]).run Tryd.prog w = .ok v' w' ∧ OwnL w' base v' (l ++ m) ∧ w.grownBy w' v.ownBlock ∧ (v'.ownBlock = v.ownBlock ∨ v'.ownBlock = some w.heap.size) := by
  obtain ⟨i0, hi, hz0, hz1, hz2⟩ := info_parts ln_info
  obtain ⟨A, c, rfl, _, hl⟩ := hx
  obtain ⟨g, o, rfl, _, hc⟩ := hl hne
  have hcells : ∀ j u, (lflat m)[j]? = some u → w.cell? ((⟨g, o, none⟩ : Addr).add j) = some u := by
    intro j u hu
    obtain ⟨e, h1, h2⟩ := lflat_inv m j u hu
    rw [addr_add]
    have := hc (j / 2) e h1
    rcases h2 with ⟨h3, rfl⟩ | ⟨h3, rfl⟩
    · have := this.1
      rwa [show o + j / 2 * 2 = o + j by omega] at this
    · have := this.2
      rwa [show o + j / 2 * 2 + 1 = o + j by omega] at this
  obtain ⟨v', w', hrun, h2, h3, _, h5⟩ := run_append_own_at (P := Tryd.prog) (w := w) base 22 ty 61 i0 _ 2 32 Tryd.underlying22 hi hz0 hz1 hz2 rfl (by decide) v l.length (lflat l) hown ⟨g, o, none⟩ m.length c (lflat m) (lflat_length m) hcells (cesOf_one hm) (by unfold maxLen; omega) (by omega) hbase
  refine ⟨v', w', hrun, ?_, h3, h5⟩
  unfold OwnL
  rw [List.length_append, lflat_append]
  exact h2
theorem wpList_append_ln_at {ops : Array Oper} {rest : List Oper} {o : Oper} {a : Act} {w : World} {Q : Exit → Act → World → Prop} (hw : Region.wanted o (yielded ops a.tmps) = true) (s x : Operand)
    (ho : o.op = .call { callee := .builtin .append, args := #[s, x], argTypes := #[22, 22] }) (base : Nat) (v xv : Value) (l m : List (Ln × Value))
    (hs : a.eval s = v) (hown : OwnL w base v l) (hxe : a.eval x = xv) (hx : LR w xv m) (hm : CesOf w m) (hne : m ≠ []) (hb : l.length + m.length ≤ 1000000) (hbase : base ≤ w.heap.size)
    (h : ∀ v' w', OwnL w' base v' (l ++ m) → w.grownBy w' v.ownBlock → (v'.ownBlock = v.ownBlock ∨ v'.ownBlock = some w.heap.size) → wpList Tryd.prog ops Q rest (a.put o.dst v') w') : wpList Tryd.prog ops Q (o :: rest) a w := by
  obtain ⟨v', w', hrun, h2, h3, h4⟩ := run_append_ln_at w base v xv l m hown hx hm hne o.type hb hbase
  simp only [wpList, hw, if_true]
  left
  unfold Oper.wp
  simp [execOp, ho, resolve, invoke, builtin, hs, hxe, hrun, Result.andThen]
  exact h v' w' h2 h3 h4
theorem step_append_ln_at {ops : Array Oper} {o : Oper} {a : Act} {w : World} {K : Act → World → Prop} {Q : Exit → Act → World → Prop} {E : Prop} (hgd : o.guard = none) (s x : Operand)
    (ho : o.op = .call { callee := .builtin .append, args := #[s, x], argTypes := #[22, 22] }) (base : Nat) (v xv : Value) (l m : List (Ln × Value))
    (hs : a.eval s = v) (hown : OwnL w base v l) (hxe : a.eval x = xv) (hx : LR w xv m) (hm : CesOf w m) (hne : m ≠ []) (hb : l.length + m.length ≤ 1000000) (hbase : base ≤ w.heap.size)
    (h : ∀ v' w', OwnL w' base v' (l ++ m) → w.grownBy w' v.ownBlock → (v'.ownBlock = v.ownBlock ∨ v'.ownBlock = some w.heap.size) → K (a.put o.dst v') w') : if Region.wanted o (yielded ops a.tmps) = true then Oper.wp Tryd.prog o a w K Q else E := by
  have hw : Region.wanted o (yielded ops a.tmps) = true := by simp [Region.wanted, hgd]
  rw [if_pos hw]
  obtain ⟨v', w', hrun, h2, h3, h4⟩ := run_append_ln_at w base v xv l m hown hx hm hne o.type hb hbase
  unfold Oper.wp
  simp [execOp, ho, resolve, invoke, builtin, hs, hxe, hrun, Result.andThen]
  exact h v' w' h2 h3 h4
end Go.Proofs.YtkejoknphnkhnaaDoor
