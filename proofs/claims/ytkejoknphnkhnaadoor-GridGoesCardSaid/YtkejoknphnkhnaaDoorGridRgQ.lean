/- Layer 6, the reference: cells erased. Made by wip/gen/gridRef.py. -/
/- Layer 6, the reference: a letter put. Made by wip/gen/gridRef.py. -/
/- What the law GridPuts wants. Made by wip/gen/gridPutsLaw.py. -/
/- Layer 6, the reference: a line of blank cells. -/
/- Layer 6, the reference: may lines go? A line of blank cells. Made by wip/gen/gridRg.py. -/
import Derived.Test.YtkejoknphnkhnaaDoorGridSetQ
import Derived.Test.YtkejoknphnkhnaaDoorGridEraseQ
import Derived.Test.YtkejoknphnkhnaaDoorGridInsQ
import Derived.Test.YtkejoknphnkhnaaDoorGridLaQ
import Derived.Deep.DeepCutAuto
import Derived.Deep.RegionWith
import Derived.Test.YtkejoknphnkhnaaDoorGridAQ
import Derived.Deep.RegionLaw
import Derived.Test.YtkejoknphnkhnaaDoorGridShiftQ
namespace Go.Proofs.YtkejoknphnkhnaaDoor
open Go.RowKit

theorem rpost_end {W w' w'' : World} {cols : Int} {lv lv' : List (Ln × Value)} {tgt : List Ln} {v : Value} {b lo : Nat} {cs : Array Value} {x y : Value} (hm : lv'.map Prod.fst = tgt) (hl : LSl w' lo v lv') (hn : Newc w' lo lv lv') (hlo : W.heap.size ≤ lo) (hb : Below W.heap.size W w') (hbx : Box w' b 24 cs) (hB : W.heap.size ≤ b)
    (hw : w'' = (w'.setCell ⟨b, 0, none⟩ x).setCell ⟨b, 1, none⟩ y) : RPost W cols lv tgt (.returned (.agg #[.int .i64 cols, v])) w'' := by
  subst hw
  exact ⟨v, lv', rfl, hm, ((hl.set hbx (by decide) _).set (hbx.set (i := 0) x) (by decide) _).mono hlo, ((hn.set hbx (by decide) _).set (hbx.set (i := 0) x) (by decide) _).mono hlo, (hb.setCell (p := ⟨b, 0, none⟩) hB _).setCell (p := ⟨b, 1, none⟩) hB _⟩
theorem putL_at {l : List Ce} {k j : Nat} {c : Ce} (h : c.wd = 2 → k + 1 < l.length) (hk : k < l.length) : (putL l k c)[j]? = if j = k then some c else if j = k + 1 ∧ c.wd = 2 then some (rhC c.at) else l[j]? := by
  unfold putL
  by_cases h2 : c.wd = 2
  · rw [if_pos h2]
    have hl := h h2
    by_cases h3 : j = k + 1
    · subst h3
      rw [List.getElem?_set_self (by rw [List.length_set]; exact hl), if_neg (by omega), if_pos ⟨rfl, h2⟩]
    · rw [List.getElem?_set_ne (Ne.symm h3), if_neg (c := j = k + 1 ∧ c.wd = 2) (fun h => h3 h.1)]
      by_cases h4 : j = k
      · subst h4; rw [List.getElem?_set_self hk, if_pos rfl]
      · rw [List.getElem?_set_ne (Ne.symm h4), if_neg h4]
  · rw [if_neg h2, if_neg (c := j = k + 1 ∧ c.wd = 2) (fun h => h2 h.2)]
    by_cases h4 : j = k
    · subst h4; rw [List.getElem?_set_self hk, if_pos rfl]
    · rw [List.getElem?_set_ne (Ne.symm h4), if_neg h4]

end Go.Proofs.YtkejoknphnkhnaaDoor

namespace Go.Proofs.YtkejoknphnkhnaaDoor
open Go.RowKit

/-- A cell appended to a row of the call's own whose block lies behind the boxes. -/
theorem own_step2 {W wr wz w7 : World} {base : Nat} {ov : Value} {done : List Ce} {lit : Array Value} {l : List (Nat × TypeId × Array Value)} (hown : OwnC wr base ov done) (hb : Below wr.heap.size wr wz) (hg : (wz.alloc (.cells lit 66)).grownBy w7 ov.ownBlock)
    (hbx : Bxs wr l) (hl : ∀ x ∈ l, x.1 < base) (hbr : Below W.heap.size W wr) (hB : W.heap.size ≤ base) : Bxs w7 l ∧ Below W.heap.size W w7 ∧ wr.heap.size ≤ w7.heap.size := by
  have hb6 := hb.trans ((below_alloc wz (.cells lit 66)).mono hb.size)
  have own6 := hown.kept hb6
  refine ⟨fun x hx => ((hbx.below hb6) x hx).grown hg (fun e => ?_), ?_, Nat.le_trans hb6.size hg.size⟩
  · have := (World.ownsRow.lt own6 _ e.symm).1
    have := hl x hx
    omega
  · exact (hbr.trans (hb6.mono hbr.size)).trans ((Below.refl _ _).grown hg (Nat.le_trans hbr.size hb6.size) (fun k hk => Nat.le_trans hB (World.ownsRow.lt own6 k hk).1))

end Go.Proofs.YtkejoknphnkhnaaDoor

namespace Go.Proofs.YtkejoknphnkhnaaDoor
open Go.RowKit

/-- What was answered reads as a grid, or is refused. -/
def XF (W : World) (cols : Int) (ok : Bool) (n : Int) (tgt : List Ln) (xc : Int) (A : Option Addr) (k c : Nat) (xn : Int) : Prop :=
  (ok = true ∧ xc = cols ∧ xn = 0 ∧ ∃ lv', lv'.map Prod.fst = tgt ∧ LR W (.slice A k c) lv' ∧ CesOf W lv') ∨ (ok = false ∧ xc = 0 ∧ (.slice A k c : Value) = .slice none 0 0 ∧ xn = n)
theorem XF.below {W W' : World} {cols : Int} {ok : Bool} {n : Int} {tgt : List Ln} {xc : Int} {A : Option Addr} {k c : Nat} {xn : Int} (h : XF W cols ok n tgt xc A k c xn) (hb : Below W.heap.size W W') : XF W' cols ok n tgt xc A k c xn := by
  rcases h with ⟨h1, h2, h3, lv', h4, h5, h6⟩ | h
  · exact .inl ⟨h1, h2, h3, lv', h4, h5.below hb, h6.below hb⟩
  · exact .inr h
theorem XF.of {W w' : World} {cols : Int} {lv : List (Ln × Value)} {ok : Bool} {n : Int} {tgt : List Ln} {xc : Int} {A : Option Addr} {k c : Nat} {xn : Int} (hc : CesOf w' lv)
    (h : (ok = true ∧ xc = cols ∧ xn = 0 ∧ ∃ lv', lv'.map Prod.fst = tgt ∧ LSl w' W.heap.size (.slice A k c) lv' ∧ NewOf w' W.heap.size lv lv') ∨ (ok = false ∧ xc = 0 ∧ (.slice A k c : Value) = .slice none 0 0 ∧ xn = n)) : XF w' cols ok n tgt xc A k c xn := by
  rcases h with ⟨h1, h2, h3, lv', h4, h5, h6⟩ | h
  · exact .inl ⟨h1, h2, h3, lv', h4, h5.row, h6.ces hc⟩
  · exact .inr h
theorem there_eq (cols row : Int) (lv : List (Ln × Value)) : ((sizeB cols lv.length && allB cols lv) && (rowB row lv.length && colB 0 cols)) = softOk cols lv row := by
  unfold softOk mayB
  cases h : (sizeB cols lv.length && allB cols lv)
  · rfl
  · have := mayB_cols (cols := cols) (lv := lv) h
    have hc : colB 0 cols = true := decide_eq_true (by omega)
    rw [hc, Bool.and_true]
theorem few_in {W : World} {v : Value} {lv lv1 : List (Ln × Value)} (hm : lv1.map Prod.fst = fewG (lv.map Prod.fst)) (hr : LR W v lv1) (hc : CesOf W lv1) : GIn W v lv1 := by
  obtain ⟨h1, h2⟩ := fewG_sm hm
  exact ⟨hr, hc, by omega, fun e he => ⟨by have := (h2 e he).1; omega, fun c hc => by have := (h2 e he).2 c hc; omega⟩⟩

theorem eraseT_sz {cols row fr tt : Int} {a : At} {lv : List (Ln × Value)} (hs : Sm lv) (h : eraseOk cols lv row fr tt a = true) : SzL (eraseT (lv.map Prod.fst) row fr tt a) := by
  unfold eraseOk at h
  simp only [Bool.and_eq_true, decide_eq_true_iff] at h
  obtain ⟨⟨h0, h1⟩, h2, h3, h4, _⟩ := h
  obtain ⟨r, cs, soft, u, rfl, hx, hrow⟩ := row_there h1
  have hf := fits_iff.1 (mayB_at h0 hx)
  simp only at hf
  refine hs.szl.set _ ?_
  rw [hrow]
  show (mendL 1 (eraseL cs _ _ a)).length ≤ 1000
  rw [mendL_length, eraseL_length _ (by omega)]
  exact (hs.2 _ (List.mem_of_getElem? hx)).1
theorem CSl.set_lt {W : World} {base b i : Nat} {v : Value} {l : List Ce} (h : CSl W base v l) (hb : b < base) (u : Value) : CSl (W.setCell ⟨b, i, none⟩ u) base v l := by
  rcases h with h | ⟨g, cap, rfl, h1, cur, hg, h2⟩
  · exact .inl h
  · exact .inr ⟨g, cap, rfl, h1, cur, hg.other (by omega) u, h2⟩
theorem LSl.set_lt {W : World} {base b i : Nat} {v : Value} {l : List (Ln × Value)} (h : LSl W base v l) (hb : b < base) (u : Value) : LSl (W.setCell ⟨b, i, none⟩ u) base v l := by
  rcases h with h | ⟨g, cap, rfl, h1, cur, hg, h2⟩
  · exact .inl h
  · exact .inr ⟨g, cap, rfl, h1, cur, hg.other (by omega) u, h2⟩

theorem softT_sz {cols row : Int} {s : Bool} {lv : List (Ln × Value)} (hs : Sm lv) (h : softOk cols lv row = true) : SzL (softT (lv.map Prod.fst) row s) := by
  unfold softOk at h
  rw [Bool.and_eq_true] at h
  obtain ⟨r, cs, soft, u, rfl, hx, hrow⟩ := row_there h.2
  refine hs.szl.set _ ?_
  rw [hrow]
  exact (hs.2 _ (List.mem_of_getElem? hx)).1
theorem put_parts {cols row col : Int} {c : Ce} {lv : List (Ln × Value)} (h : putOk cols lv row col c = true) (h2 : roomB cols col c = false) :
    ∃ (r q : Nat) (cs : List Ce) (soft : Bool) (u : Value), row = r ∧ col = q ∧ lv[r]? = some (⟨cs, soft⟩, u) ∧ rowL (lv.map Prod.fst) row = ⟨cs, soft⟩ ∧ q < cs.length ∧ (c.wd = 2 → q + 1 < cs.length) := by
  unfold putOk at h
  rw [Bool.and_eq_true, Bool.and_eq_true, Bool.and_eq_true] at h
  obtain ⟨h0, h1, hc, _⟩ := h
  obtain ⟨r, cs, soft, u, hr, hx, hrow⟩ := row_there h1
  have hf := fits_iff.1 (mayB_at h0 hx)
  simp only at hf
  have hcl : 0 ≤ col ∧ col < cols := of_decide_eq_true hc
  have hrm : ¬ (c.wd = 2 ∧ col = cols - 1) := of_decide_eq_false h2
  refine ⟨r, col.toNat, cs, soft, u, hr, by omega, hx, hrow, by omega, fun hw => ?_⟩
  have : ¬ col = cols - 1 := fun e => hrm ⟨hw, e⟩
  omega
theorem putT_sz {cols row col : Int} {c : Ce} {lv : List (Ln × Value)} (hs : Sm lv) (h : putOk cols lv row col c = true) (h2 : roomB cols col c = false) : SzL (putT (lv.map Prod.fst) row col c) := by
  obtain ⟨r, q, cs, soft, u, rfl, rfl, hx, hrow, hq, hw⟩ := put_parts h h2
  refine hs.szl.set _ ?_
  rw [hrow]
  show (mendL 1 (putL cs _ c)).length ≤ 1000
  rw [mendL_length, putL_length]
  exact (hs.2 _ (List.mem_of_getElem? hx)).1
end Go.Proofs.YtkejoknphnkhnaaDoor

namespace Go.Proofs.YtkejoknphnkhnaaDoor
open Go.RowKit

theorem step_append_ce {ops : Array Oper} {o : Oper} {a : Act} {w : World} {K : Act → World → Prop} {Q : Exit → Act → World → Prop} {E : Prop} (hgd : o.guard = none) (s x : Operand)
    (ho : o.op = .call { callee := .builtin .append, args := #[s, x], argTypes := #[52, 52] }) (base : Nat) (v xv : Value) (l m : List Ce)
    (hs : a.eval s = v) (hown : OwnC w base v l) (hxe : a.eval x = xv) (hx : CeRow w xv m) (hb : l.length + m.length ≤ 1000000) (hbase : base ≤ w.heap.size)
    (h : ∀ v' w', OwnC w' base v' (l ++ m) → w.grownBy w' v.ownBlock → K (a.put o.dst v') w') : if Region.wanted o (yielded ops a.tmps) = true then Oper.wp Tryd.prog o a w K Q else E := by
  have hw : Region.wanted o (yielded ops a.tmps) = true := by simp [Region.wanted, hgd]
  rw [if_pos hw]
  obtain ⟨v', w', hrun, h2, h3⟩ := run_append_ce w base v xv l m hown hx o.type hb hbase
  unfold Oper.wp
  simp [execOp, ho, resolve, invoke, builtin, hs, hxe, hrun, Result.andThen]
  exact h v' w' h2 h3
def BarePost (W : World) (C : Nat) (a : At) (e : Ending) (w' : World) : Prop :=
  ∃ v, e = .returned (.agg #[v, .bool false]) ∧ CSl w' W.heap.size v (List.replicate C (blkC a)) ∧ Below W.heap.size W w'
set_option maxRecDepth 100000 in
set_option maxHeartbeats 2000000 in
theorem rBare_any (C : Nat) (a : At) (W : World) (hC : C ≤ 1000) :
    Calls Tryd.prog 46 #[.int .i64 (C : Int), a.agg] W (BarePost W C a) := by
  have hblk := rblank_any a
  obtain ⟨x, hxb⟩ : ∃ x, blkC a = x := ⟨_, rfl⟩
  unfold BarePost
  rw [hxb] at hblk ⊢
  obtain ⟨fg, bg, fl⟩ := a
  unfold At.agg Ce.agg Ce.cells at hblk
  unfold At.agg
  simp only at hblk ⊢
  have b0 := (((Bxs.nil W).alloc 26 #[.int .i64 fg, .int .i64 bg, .int .i64 fl]).alloc 61 #[.slice none 0 0, .bool false]).alloc 61 #[.slice none 0 0, .bool false]
  simp only [World.size_alloc, List.nil_append, List.cons_append] at b0
  have h0 : Below W.heap.size W (((W.alloc (.cells #[.int .i64 fg, .int .i64 bg, .int .i64 fl] 26)).alloc (.cells #[.slice none 0 0, .bool false] 61)).alloc (.cells #[.slice none 0 0, .bool false] 61)) := ((below_alloc _ _).alloc (by simp) _).alloc (by simp; omega) _
  have BX0 := hid b0
  have H0 := hid h0
  have HBLK := hid hblk
  clear b0 h0 hblk hxb
  go_enter Tryd.func46, Tryd.ntmps46
  go_wp2
  go_loopw [6] (fun i wr => ∃ k : Nat, k ≤ C ∧ i = .int .i64 k ∧ (∃ ov, Box wr (W.heap.size + 1 + 1) 61 #[ov, .bool false] ∧ OwnC wr W.heap.size ov (List.replicate k x)) ∧ Box wr W.heap.size 26 #[.int .i64 fg, .int .i64 bg, .int .i64 fl] ∧ Box wr (W.heap.size + 1) 61 #[.slice none 0 0, .bool false] ∧ Below W.heap.size W wr) (fun i _ => C - (intOf i).toNat)
  case atStart => exact ⟨0, by omega, rfl, ⟨_, BX0.out.get 2 rfl, OwnC.nil _ _⟩, BX0.out.get 0 rfl, BX0.out.get 1 rfl, H0.out⟩
  case round =>
    obtain ⟨k, hk, rfl, ⟨ov, hbo, hown⟩, hba, hbz, hbr⟩ := hrel
    obtain ⟨oA, oc, rfl⟩ := hown.spell
    rw [List.length_replicate] at hown hbo
    obtain ⟨⟨k0, k1⟩, f0, f1⟩ := hbo.two
    obtain ⟨⟨a0, a1, a2⟩, e0, e1, e2⟩ := hba.three
    by_cases hlt : k < C
    · have hki : (k : Int) < C := by omega
      have hkb : (k : Int) ≤ 1000 := by omega
      have hltb : W.heap.size + 1 + 1 < wr.heap.size := hbo.lt
      have HOWN := hid hown
      have HBO := hid hbo
      have HBA := hid hba
      have HBZ := hid hbz
      have HBR := hid hbr
      clear hown hbo hba hbz hbr
      have hd0 : Below wr.heap.size wr wr.drew := (Below.refl _ _).drew
      go_upto_region 5 with fail
      first | go_region_law (first | (go_simp; go_at_call 53; refine (HBLK.out _).mono ?_; rintro e w5 ⟨rfl, hb5⟩; have hd5 := hd0.trans (hb5.mono hd0.size); obtain ⟨⟨k0, k1⟩, f0, f1⟩ := (HBO.out.below hd5 HBO.out.lt).two; have hlt6 : W.heap.size + 1 + 1 < w5.heap.size := Nat.lt_of_lt_of_le hltb hd5.size; have hd6 := hid (hd5.trans ((below_alloc w5 (.cells #[.string x.tx, .int .i64 x.wd, .int .i64 x.fg, .int .i64 x.bg, .int .i64 x.fl] 66)).mono hd5.size)); have hlit := ce_lit w5 x; unfold Ce.cells at hlit; have HLIT := hid hlit; clear hlit) | (refine step_append_ce rfl _ _ rfl W.heap.size _ _ (List.replicate k x) [x] rfl (HOWN.out.kept hd6.out) rfl HLIT.out (by simp; omega) (Nat.le_trans HBR.out.size hd6.out.size) ?_; intro v' w7 h1 h2; obtain ⟨A', c', hv'⟩ := h1.spell; rw [List.length_append, List.length_replicate, List.length_singleton] at hv'; subst hv'; have H1 := hid h1; have H2 := hid h2; clear h1 h2; have hb7 := (HBO.out.below hd6.out HBO.out.lt).grown H2.out (OwnC.not_box (HOWN.out.kept hd6.out) (HBO.out.below hd6.out HBO.out.lt) (by decide)); obtain ⟨⟨m0, m1⟩, n0, n1⟩ := hb7.two)) | fail
      all_goals
        have own7 : OwnC (w7.setCell ⟨W.heap.size + 1 + 1, 0, none⟩ (.slice A' (k + 1) c')) W.heap.size (.slice A' (k + 1) c') (List.replicate (k + 1) x) := by
          rw [List.replicate_succ']
          exact H1.out.set hb7 (by decide) _
        have box7 := hb7.set (i := 0) (.slice A' (k + 1) c')
        have boxa := ((HBA.out.below hd6.out HBA.out.lt).grown H2.out (OwnC.not_box (HOWN.out.kept hd6.out) (HBA.out.below hd6.out HBA.out.lt) (by decide))).other (b' := W.heap.size + 1 + 1) (i := 0) (by omega) (.slice A' (k + 1) c')
        have boxz := ((HBZ.out.below hd6.out HBZ.out.lt).grown H2.out (OwnC.not_box (HOWN.out.kept hd6.out) (HBZ.out.below hd6.out HBZ.out.lt) (by decide))).other (b' := W.heap.size + 1 + 1) (i := 0) (by omega) (.slice A' (k + 1) c')
        have hlt7 : ∀ q, (Value.slice oA k oc).ownBlock = some q → W.heap.size ≤ q := fun q hq => (World.ownsRow.lt (HOWN.out.kept hd6.out) q hq).1
        have hbb := (((HBR.out.trans (hd6.out.mono HBR.out.size)).trans ((Below.refl W.heap.size _).grown H2.out (Nat.le_trans HBR.out.size hd6.out.size) hlt7))).setCell (p := ⟨W.heap.size + 1 + 1, 0, none⟩) (by show W.heap.size ≤ W.heap.size + 1 + 1; omega) (.slice A' (k + 1) c')
        have HO := hid own7
        have HX := hid box7
        have HA := hid boxa
        have HZ := hid boxz
        have HBB := hid hbb
        clear own7 box7 boxa boxz hlt7 hbb m0 m1 n0 n1 hb7
        go_wp2
        go_roundw
        case rel => exact ⟨k + 1, by omega, by go_num, ⟨_, HX.out, HO.out⟩, HA.out, HZ.out, HBB.out⟩
        case measure => simp [intOf]; omega
    · have hkm : k = C := by omega
      subst hkm
      obtain ⟨⟨z0, z1⟩, y0, y1⟩ := hbz.two
      have HOWN := hid hown
      have HBZ := hid hbz
      have HBR := hid hbr
      clear hown hbz hbr hbo hba
      go_wp2
      refine bodyPost_ret (v := .agg #[.slice oA k oc, .bool false]) (by simp [results, Tryd.results46, go_sem, z0, z1]) rfl ⟨_, rfl, ?_, ?_⟩
      · exact ((HOWN.out.csl.set HBZ.out (by decide) _).set (HBZ.out.set (i := 0) _) (by decide) _)
      · exact below_set (below_set HBR.out (by omega) _) (by omega) _
end Go.Proofs.YtkejoknphnkhnaaDoor

namespace Go.Proofs.YtkejoknphnkhnaaDoor
open Go.RowKit

theorem scroll_eq (cols top bot num : Int) (a : At) (lv : List (Ln × Value)) : scrollOk cols lv top bot num a = (softOk cols lv top && (softOk cols lv bot && (decide (top ≤ bot) && (decide (0 ≤ num) && lookB a)))) := by
  unfold scrollOk softOk
  cases mayB cols lv <;> cases rowB top lv.length <;> cases rowB bot lv.length <;> rfl
set_option maxRecDepth 100000 in
set_option maxHeartbeats 2000000 in
theorem rRegion_any (cols top bot num : Int) (a : At) (v : Value) (lv : List (Ln × Value)) (W : World) (hg : GIn W v lv) :
    Calls Tryd.prog 12 #[.agg #[.int .i64 cols, v], .int .i64 top, .int .i64 bot, .int .i64 num, a.agg] W fun e w' => e = .returned (.bool (scrollOk cols lv top bot num a)) ∧ Below W.heap.size W w' := by
  obtain ⟨A, c0, rfl⟩ := hg.lr.spell
  rw [scroll_eq]
  have hpl : ∀ r W', Below W.heap.size W W' → Calls Tryd.prog 17 #[.agg #[.int .i64 cols, .slice A lv.length c0], .int .i64 r, .int .i64 0] W' fun e w' => e = .returned (.bool (softOk cols lv r)) ∧ Below W'.heap.size W' w' := fun r W' hb => by
    have := place_any cols r 0 (.slice A lv.length c0) lv W' (hg.lr.below hb) (hg.ces.below hb) hg.sm
    rw [there_eq] at this
    exact this
  have hlook := fun w => rLook_any a w
  obtain ⟨S1, hS1⟩ : ∃ S1, softOk cols lv top = S1 := ⟨_, rfl⟩
  obtain ⟨S2, hS2⟩ : ∃ S2, softOk cols lv bot = S2 := ⟨_, rfl⟩
  obtain ⟨S3, hS3⟩ : ∃ S3, lookB a = S3 := ⟨_, rfl⟩
  rw [hS1, hS2, hS3]
  rw [hS3] at hlook
  have h1 := hpl top
  have h2 := hpl bot
  rw [hS1] at h1
  rw [hS2] at h2
  obtain ⟨fg, bg, fl⟩ := a
  unfold At.agg at hlook ⊢
  simp only at hlook ⊢
  obtain ⟨n, hn⟩ : ∃ n, lv.length = n := ⟨_, rfl⟩
  rw [hn] at h1 h2 ⊢
  have H1 := hid h1
  have H2 := hid h2
  have HL := hid hlook
  have b0 := ((Bxs.nil W).alloc 24 #[.int .i64 cols, .slice A n c0]).alloc 26 #[.int .i64 fg, .int .i64 bg, .int .i64 fl]
  simp only [World.size_alloc, List.nil_append, List.cons_append] at b0
  have h0 : Below W.heap.size W ((W.alloc (.cells #[.int .i64 cols, .slice A n c0] 24)).alloc (.cells #[.int .i64 fg, .int .i64 bg, .int .i64 fl] 26)) := (below_alloc _ _).alloc (by simp) _
  have BX := hid b0
  have H0 := hid h0
  clear hg hpl hlook h1 h2 hS1 hS2 hS3 b0 h0 hn
  have hway : S1 = false ∨ (S1 = true ∧ S2 = false) ∨ (S1 = true ∧ S2 = true ∧ bot < top) ∨ (S1 = true ∧ S2 = true ∧ top ≤ bot ∧ num < 0) ∨ (S1 = true ∧ S2 = true ∧ top ≤ bot ∧ 0 ≤ num) := by
    cases S1 <;> cases S2 <;> simp <;> omega
  rcases hway with rfl | ⟨rfl, rfl⟩ | ⟨rfl, rfl, h⟩ | ⟨rfl, rfl, h, h4⟩ | ⟨rfl, rfl, h, h4⟩
  · have _u := trivial
    go_enter Tryd.func12, Tryd.ntmps12
    go_upto_region 1 with fail
    generalize ((W.alloc (.cells #[.int .i64 cols, .slice A n c0] 24)).alloc (.cells #[.int .i64 fg, .int .i64 bg, .int .i64 fl] 26)) = w0 at *
    obtain ⟨⟨k0, k1⟩, f0, f1⟩ := (BX.out.get 0 rfl).two; obtain ⟨⟨c0_, c1_, c2_⟩, _, _⟩ := (BX.out.get 1 rfl).three
    go_wp2_with fail
    ((with_reducible refine (H1.out _ H0.out).mono ?_); rintro e w1 ⟨rfl, hd1⟩)
    dsimp only
    have hb1 : Below w0.heap.size w0 w1 := hd1
    have q1 := H0.out.trans (hb1.mono H0.out.size)
    clear hd1 k0 k1 f0 f1 c0_ c1_ c2_
    obtain ⟨⟨k0, k1⟩, f0, f1⟩ := ((BX.out.below hb1).get 0 rfl).two; obtain ⟨⟨c0_, c1_, c2_⟩, _, _⟩ := ((BX.out.below hb1).get 1 rfl).three
    go_wp2
    go_ret
    exact ⟨rfl, q1⟩
  · have _u := trivial
    go_enter Tryd.func12, Tryd.ntmps12
    go_upto_region 1 with fail
    generalize ((W.alloc (.cells #[.int .i64 cols, .slice A n c0] 24)).alloc (.cells #[.int .i64 fg, .int .i64 bg, .int .i64 fl] 26)) = w0 at *
    obtain ⟨⟨k0, k1⟩, f0, f1⟩ := (BX.out.get 0 rfl).two; obtain ⟨⟨c0_, c1_, c2_⟩, _, _⟩ := (BX.out.get 1 rfl).three
    go_wp2_with fail
    ((with_reducible refine (H1.out _ H0.out).mono ?_); rintro e w1 ⟨rfl, hd1⟩)
    dsimp only
    have hb1 : Below w0.heap.size w0 w1 := hd1
    have q1 := H0.out.trans (hb1.mono H0.out.size)
    clear hd1 k0 k1 f0 f1 c0_ c1_ c2_
    obtain ⟨⟨k0, k1⟩, f0, f1⟩ := ((BX.out.below hb1).get 0 rfl).two; obtain ⟨⟨c0_, c1_, c2_⟩, _, _⟩ := ((BX.out.below hb1).get 1 rfl).three
    go_wp2_with fail
    ((with_reducible refine (H2.out _ q1).mono ?_); rintro e w2 ⟨rfl, hd2⟩)
    dsimp only
    have hb2 : Below w0.heap.size w0 w2 := hb1.trans (hd2.mono hb1.size)
    have q2 := H0.out.trans (hb2.mono H0.out.size)
    clear hd2 k0 k1 f0 f1 c0_ c1_ c2_
    obtain ⟨⟨k0, k1⟩, f0, f1⟩ := ((BX.out.below hb2).get 0 rfl).two; obtain ⟨⟨c0_, c1_, c2_⟩, _, _⟩ := ((BX.out.below hb2).get 1 rfl).three
    go_wp2
    go_ret
    exact ⟨rfl, q2⟩
  · have HE : Hid (decide (top ≤ bot) = false) := decide_eq_false (by omega)
    go_enter Tryd.func12, Tryd.ntmps12
    go_upto_region 1 with fail
    generalize ((W.alloc (.cells #[.int .i64 cols, .slice A n c0] 24)).alloc (.cells #[.int .i64 fg, .int .i64 bg, .int .i64 fl] 26)) = w0 at *
    obtain ⟨⟨k0, k1⟩, f0, f1⟩ := (BX.out.get 0 rfl).two; obtain ⟨⟨c0_, c1_, c2_⟩, _, _⟩ := (BX.out.get 1 rfl).three
    go_wp2_with fail
    ((with_reducible refine (H1.out _ H0.out).mono ?_); rintro e w1 ⟨rfl, hd1⟩)
    dsimp only
    have hb1 : Below w0.heap.size w0 w1 := hd1
    have q1 := H0.out.trans (hb1.mono H0.out.size)
    clear hd1 k0 k1 f0 f1 c0_ c1_ c2_
    obtain ⟨⟨k0, k1⟩, f0, f1⟩ := ((BX.out.below hb1).get 0 rfl).two; obtain ⟨⟨c0_, c1_, c2_⟩, _, _⟩ := ((BX.out.below hb1).get 1 rfl).three
    go_wp2_with fail
    ((with_reducible refine (H2.out _ q1).mono ?_); rintro e w2 ⟨rfl, hd2⟩)
    dsimp only
    have hb2 : Below w0.heap.size w0 w2 := hb1.trans (hd2.mono hb1.size)
    have q2 := H0.out.trans (hb2.mono H0.out.size)
    clear hd2 k0 k1 f0 f1 c0_ c1_ c2_
    obtain ⟨⟨k0, k1⟩, f0, f1⟩ := ((BX.out.below hb2).get 0 rfl).two; obtain ⟨⟨c0_, c1_, c2_⟩, _, _⟩ := ((BX.out.below hb2).get 1 rfl).three
    go_wp2
    go_ret
    exact ⟨by first | rfl | (rw [HE.out]; rfl), q2⟩
  · have HE : Hid (decide (top ≤ bot) = true) := decide_eq_true h
    have HE2 : Hid (decide (0 ≤ num) = false) := decide_eq_false (by omega)
    go_enter Tryd.func12, Tryd.ntmps12
    go_upto_region 1 with fail
    generalize ((W.alloc (.cells #[.int .i64 cols, .slice A n c0] 24)).alloc (.cells #[.int .i64 fg, .int .i64 bg, .int .i64 fl] 26)) = w0 at *
    obtain ⟨⟨k0, k1⟩, f0, f1⟩ := (BX.out.get 0 rfl).two; obtain ⟨⟨c0_, c1_, c2_⟩, _, _⟩ := (BX.out.get 1 rfl).three
    go_wp2_with fail
    ((with_reducible refine (H1.out _ H0.out).mono ?_); rintro e w1 ⟨rfl, hd1⟩)
    dsimp only
    have hb1 : Below w0.heap.size w0 w1 := hd1
    have q1 := H0.out.trans (hb1.mono H0.out.size)
    clear hd1 k0 k1 f0 f1 c0_ c1_ c2_
    obtain ⟨⟨k0, k1⟩, f0, f1⟩ := ((BX.out.below hb1).get 0 rfl).two; obtain ⟨⟨c0_, c1_, c2_⟩, _, _⟩ := ((BX.out.below hb1).get 1 rfl).three
    go_wp2_with fail
    ((with_reducible refine (H2.out _ q1).mono ?_); rintro e w2 ⟨rfl, hd2⟩)
    dsimp only
    have hb2 : Below w0.heap.size w0 w2 := hb1.trans (hd2.mono hb1.size)
    have q2 := H0.out.trans (hb2.mono H0.out.size)
    clear hd2 k0 k1 f0 f1 c0_ c1_ c2_
    obtain ⟨⟨k0, k1⟩, f0, f1⟩ := ((BX.out.below hb2).get 0 rfl).two; obtain ⟨⟨c0_, c1_, c2_⟩, _, _⟩ := ((BX.out.below hb2).get 1 rfl).three
    go_wp2
    go_ret
    exact ⟨by first | rfl | (rw [HE2.out]; rfl) | (rw [HE.out]; rfl) | (rw [HE.out, HE2.out]; rfl), q2⟩
  · have HE : Hid (decide (top ≤ bot) = true) := decide_eq_true h
    have HE2 : Hid (decide (0 ≤ num) = true) := decide_eq_true h4
    go_enter Tryd.func12, Tryd.ntmps12
    go_upto_region 1 with fail
    generalize ((W.alloc (.cells #[.int .i64 cols, .slice A n c0] 24)).alloc (.cells #[.int .i64 fg, .int .i64 bg, .int .i64 fl] 26)) = w0 at *
    obtain ⟨⟨k0, k1⟩, f0, f1⟩ := (BX.out.get 0 rfl).two; obtain ⟨⟨c0_, c1_, c2_⟩, _, _⟩ := (BX.out.get 1 rfl).three
    go_wp2_with fail
    ((with_reducible refine (H1.out _ H0.out).mono ?_); rintro e w1 ⟨rfl, hd1⟩)
    dsimp only
    have hb1 : Below w0.heap.size w0 w1 := hd1
    have q1 := H0.out.trans (hb1.mono H0.out.size)
    clear hd1 k0 k1 f0 f1 c0_ c1_ c2_
    obtain ⟨⟨k0, k1⟩, f0, f1⟩ := ((BX.out.below hb1).get 0 rfl).two; obtain ⟨⟨c0_, c1_, c2_⟩, _, _⟩ := ((BX.out.below hb1).get 1 rfl).three
    go_wp2_with fail
    ((with_reducible refine (H2.out _ q1).mono ?_); rintro e w2 ⟨rfl, hd2⟩)
    dsimp only
    have hb2 : Below w0.heap.size w0 w2 := hb1.trans (hd2.mono hb1.size)
    have q2 := H0.out.trans (hb2.mono H0.out.size)
    clear hd2 k0 k1 f0 f1 c0_ c1_ c2_
    obtain ⟨⟨k0, k1⟩, f0, f1⟩ := ((BX.out.below hb2).get 0 rfl).two; obtain ⟨⟨c0_, c1_, c2_⟩, _, _⟩ := ((BX.out.below hb2).get 1 rfl).three
    go_wp2_with fail
    ((with_reducible refine (HL.out _).mono ?_); rintro e w3 ⟨rfl, hd3⟩)
    dsimp only
    have hb3 : Below w0.heap.size w0 w3 := hb2.trans (hd3.mono hb2.size)
    have q3 := H0.out.trans (hb3.mono H0.out.size)
    clear hd3 k0 k1 f0 f1 c0_ c1_ c2_
    obtain ⟨⟨k0, k1⟩, f0, f1⟩ := ((BX.out.below hb3).get 0 rfl).two; obtain ⟨⟨c0_, c1_, c2_⟩, _, _⟩ := ((BX.out.below hb3).get 1 rfl).three
    go_wp2
    go_ret
    exact ⟨by first | rfl | (rw [HE2.out]; rfl) | (rw [HE.out]; rfl) | (rw [HE.out, HE2.out]; rfl), q3⟩
end Go.Proofs.YtkejoknphnkhnaaDoor
