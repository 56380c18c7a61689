/- Layer 7, the statements' helpers: lines cut short. Made by wip/gen/backF.py. -/
/- Layer 8, the statements' helpers: a row's cells cut short. Made by wip/gen/flowLa.py. -/
import Derived.Test.YtkejoknphnkhnaaDoorBackPQ
import Derived.Test.YtkejoknphnkhnaaDoorHeldSQ
import Derived.Test.YtkejoknphnkhnaaDoorCellEq2Q
namespace Go.Proofs.YtkejoknphnkhnaaDoor
open Go.RowKit

theorem ce_cells (w : World) : (Go.sizeOf (Tryd.prog.elem 52)).run Tryd.prog w = .ok 5 w := by kernel_rfl
set_option maxRecDepth 100000 in
theorem slice_ce_h {W : World} {A : Option Addr} {n c : Nat} {l : List Ce} (hr : CeRow W (.slice A n c) l) (hl : l.length = n) (h : Nat) (hhn : h ≤ n) :
    ∃ A', (∀ w, (Instr.sliceAt 52 (.slice A n c) none (some (.int .i64 h)) none).run Tryd.prog w = .ok (.slice A' h c) w) ∧ CeRow W (.slice A' h c) (l.take h) := by
  obtain ⟨A', c', e, hc, hcell⟩ := hr
  cases e
  have hlen : (l.take h).length = h := by rw [List.length_take]; omega
  refine ⟨if c = 0 then A else A.map (·.add (0 * 5)), fun w => ?_, ?_⟩
  · rw [run_sliceAt_slice w _ _ _ _ _ Tryd.underlying52, run_slice_h w 52 A _ c Tryd.underlying52 .i64 h (by omega) (by omega), ce_cells]
    simp only [Result.andThen, Int.toNat_natCast, sliced, Nat.sub_zero]
  · refine ⟨_, _, by rw [hlen], by omega, fun hne => ?_⟩
    have hpos : 0 < h := by rw [← hlen]; exact List.length_pos_iff.2 hne
    obtain ⟨g, o, rfl, hg, hcell⟩ := hcell (List.length_pos_iff.1 (by omega))
    refine ⟨g, o, ?_, hg, fun j e he => ?_⟩
    · rw [if_neg (by omega)]
      show some ((⟨g, o, none⟩ : Addr).add (0 * 5)) = _
      rw [addr_add]
      rfl
    · rw [List.getElem?_take] at he
      split at he
      · exact hcell j e he
      · cases he

def takeN (ls : List Ln) (m : Nat) : List Ln := (ls.take m).map cutN
theorem lf_step {W wr w5 w7 : World} {ls : List Ln} {k : Nat} {x : Ln} {ov v5 : Value} {lvk : List (Ln × Value)} {lc : Array Value} (hown : OwnL wr W.heap.size ov lvk)
    (hm : lvk.map Prod.fst = takeN ls k) (hcs : ∀ x ∈ lvk, CSl wr W.heap.size x.2 x.1.cs) (hx : ls[k]? = some x) (hb5 : Below wr.heap.size wr w5) (hc5 : CSl w5 wr.heap.size v5 (lineG x.cs)) (hsz : W.heap.size ≤ wr.heap.size)
    (hg7 : (w5.alloc (.cells lc 61)).grownBy w7 ov.ownBlock) :
    (lvk ++ [(cutN x, v5)]).map Prod.fst = takeN ls (k + 1) ∧ ∀ y ∈ lvk ++ [(cutN x, v5)], CSl w7 W.heap.size y.2 y.1.cs := by
  have hb6 := hb5.trans ((below_alloc w5 (.cells lc 61)).mono hb5.size)
  have own6 := hown.kept hb6
  refine ⟨?_, fun y hy => ?_⟩
  · unfold takeN at *
    rw [List.map_append, hm, take_cutN hx]; rfl
  · rw [List.mem_append, List.mem_singleton] at hy
    rcases hy with hy | rfl
    · exact ((hcs y hy).below hb6 (Nat.le_refl _)).grown own6 hg7
    · exact (((hc5.mono hsz).below (below_alloc w5 (.cells lc 61)) (Nat.le_refl _)).grown own6 hg7 : CSl _ _ v5 (lineG x.cs))

def LFew (W : World) (ls : List Ln) (e : Ending) (w' : World) : Prop :=
  ∃ v lv', e = .returned v ∧ lv'.map Prod.fst = ls ∧ LSl w' W.heap.size v lv' ∧ (∀ x ∈ lv', CSl w' W.heap.size x.2 x.1.cs) ∧ Below W.heap.size W w'
def InRel (wr wi : World) (cs : List Ce) (soft : Bool) (q : Nat) : Prop :=
  ∃ ov, Box wi (wr.heap.size + 1) 61 #[ov, .bool soft] ∧ OwnC wi wr.heap.size ov ((cs.take q).map cutC) ∧ Below wr.heap.size wr wi ∧ wr.heap.size + 1 + 1 ≤ wi.heap.size
def OutRel (W wr : World) (ls : List Ln) (k : Nat) (ov : Value) : Prop :=
  ∃ lvk, OwnL wr W.heap.size ov lvk ∧ lvk.map Prod.fst = takeN ls k ∧ (∀ x ∈ lvk, CSl wr W.heap.size x.2 x.1.cs) ∧ Below W.heap.size W wr

def LCut (W : World) (mx : Int) (ls : List Ln) (e : Ending) (w' : World) : Prop :=
  ∃ v lv', e = .returned (.agg #[.int .i64 mx, v]) ∧ lv'.map Prod.fst = ls ∧ LSl w' W.heap.size v lv' ∧ (∀ x ∈ lv', CSl w' W.heap.size x.2 x.1.cs) ∧ Below W.heap.size W w'
end Go.Proofs.YtkejoknphnkhnaaDoor

namespace Go.Proofs.YtkejoknphnkhnaaDoor
open Go.RowKit

def cutN8 (most : Nat) (l : List Ce) : List Ce := (l.take most).map cutC
def Cut8Post (W : World) (l : List Ce) (e : Ending) (w' : World) : Prop := ∃ v, e = .returned v ∧ CSl w' W.heap.size v l ∧ Below W.heap.size W w'

set_option maxRecDepth 100000 in
set_option maxHeartbeats 4000000 in
theorem cells_any (v : Value) (l : List Ce) (most : Nat) (W : World) (hr : CeRow W v l) (hn : (l.length : Int) ≤ 9223372036854775807) (ht : ∀ c ∈ l, (c.tx.size : Int) ≤ 9223372036854775807) (hmost : most ≤ 1000) :
    Calls Tryd.prog 30 #[v, .int .i64 most] W (Cut8Post W (cutN8 most l)) := by
  obtain ⟨m, hmm⟩ : ∃ m, min l.length most = m := ⟨_, rfl⟩
  obtain ⟨A, c0, rfl⟩ := hr.spell
  obtain ⟨A', hs1, hr1⟩ := slice_ce_h hr rfl m (by omega)
  have hcap : l.length ≤ c0 := by obtain ⟨A', c', e, h, _⟩ := hr; cases e; exact h
  obtain ⟨n, hnl⟩ : ∃ n, l.length = n := ⟨_, rfl⟩
  have htk : cutN8 most l = (l.take m).map cutC := by
    unfold cutN8
    by_cases h : n ≤ most
    · rw [List.take_of_length_le (by omega), List.take_of_length_le (by omega)]
    · rw [show m = most by omega]
  rw [htk]
  rw [hnl] at hs1 hn hmm hcap ⊢
  have HNL := hid hnl
  have HR := hid hr1
  have HL := hid ht
  have HMM := hid hmm
  have HCAP := hid hcap
  clear hr ht hr1 hmm hnl htk hcap
  have hm1000 : m ≤ 1000 := by have := HMM.out; omega
  go_enter Tryd.func30, Tryd.ntmps30
  go_upto_region 2 with fail
  go_cut [5, 13, 14, 15] (fun z a b c wx => z = .slice none 0 0 ∧ a = .slice A' m c0 ∧ b = .int .i64 m ∧ c = .int .i64 0 ∧ W = wx)
  case first =>
    have hmm := HMM.out
    by_cases h : n ≤ most
    · have h' : (n : Int) ≤ most := by omega
      obtain rfl : n = m := by omega
      clear hmm h
      go_wp2_with fail
      go_meet
      exact ⟨rfl, rfl, rfl, rfl, rfl⟩
    · have h' : (most : Int) < n := by omega
      obtain rfl : most = m := by omega
      clear hmm h
      go_wp2_with fail
      go_meet
      exact ⟨rfl, rfl, rfl, rfl, rfl⟩
  case rest =>
    obtain ⟨rfl, rfl, rfl, rfl, rfl⟩ := hcut
    clear hs1
    go_wp2_with fail
    go_loopw [5, 15] (fun z i wr => ∃ k ov, k ≤ m ∧ i = .int .i64 (k : Nat) ∧ z = ov ∧ OwnC wr W.heap.size ov ((l.take k).map cutC) ∧ Below W.heap.size W wr) (fun _ i _ => m - (intOf i).toNat)
    case atStart => exact ⟨0, _, by omega, rfl, rfl, OwnC.nil _ _, Below.refl _ _⟩
    case round =>
      obtain ⟨k, ov, hk, rfl, rfl, hown, hbr⟩ := hrel
      obtain ⟨oA, oc, rfl⟩ := hown.spell
      have hlo : ((l.take k).map cutC).length = k := by rw [List.length_map, List.length_take, HNL.out]; have := HMM.out; omega
      rw [hlo] at hown ⊢
      by_cases hlt : k < m
      · have hki : (k : Int) < m := by omega
        have hkl : k < l.length := by rw [HNL.out]; have := HMM.out; omega
        have hx := List.getElem?_eq_getElem hkl
        have hts := HL.out l[k] (List.getElem_mem _)
        have hstep := take_cut hx
        have hxt : (l.take m)[k]? = some l[k] := by rw [List.getElem?_take, if_pos hlt]; exact hx
        obtain ⟨A'', c', e, _, hcell⟩ := HR.out
        rw [show (l.take m).length = m by rw [List.length_take, HNL.out]; have := HMM.out; omega] at e
        cases e
        obtain ⟨g, o, rfl, hg, hcell⟩ := hcell (by intro e; rw [e] at hxt; simp at hxt)
        obtain ⟨p0, p1, p2, p3, p4⟩ := ccells (W := wr) (g := g) (o := o + k * 5) (e := l[k]) (fun i u hu => (hbr.cell (p := ⟨g, o + k * 5 + i, none⟩) hg).trans (hcell k l[k] hxt i u hu))
        generalize l[k] = x at *
        obtain ⟨tx, wd, fg, bg, fl⟩ := x
        simp only at p0 p1 p2 p3 p4 hts
        have HX := hid hx
        have HLO := hid hlo
        have HOWN := hid hown
        have HBR := hid hbr
        have HST := hid hstep
        clear hx hxt hlo hown hbr hstep hcell hg hkl
        by_cases hs : tx.size ≤ 20
        · have hs' : (tx.size : Int) ≤ 20 := by omega
          have HC : Hid (cutC ⟨tx, wd, fg, bg, fl⟩ = ⟨tx, wd, fg, bg, fl⟩) := by unfold Hid cutC; rw [cutC_short hs]
          clear hs
          have hwl : Below wr.heap.size wr ((wr.alloc (.cells #[.string tx, .int .i64 wd, .int .i64 fg, .int .i64 bg, .int .i64 fl] 66)).alloc (.cells #[.string tx, .int .i64 wd, .int .i64 fg, .int .i64 bg, .int .i64 fl] 66)) := (below_alloc _ _).alloc (by simp) _
          have hrow := ce_lit (wr.alloc (.cells #[.string tx, .int .i64 wd, .int .i64 fg, .int .i64 bg, .int .i64 fl] 66)) ⟨tx, wd, fg, bg, fl⟩
          rw [World.size_alloc] at hrow
          unfold Ce.cells at hrow
          simp only at hrow
          have HROW := hid hrow
          have HWL := hid hwl
          clear hrow hwl
          go_wp2_with (at_builtin; refine wpList_append_ce rfl _ _ rfl W.heap.size _ _ _ [⟨tx, wd, fg, bg, fl⟩] rfl (HOWN.out.kept HWL.out) rfl HROW.out (by rw [HLO.out]; simp; omega) (by simp; have := HBR.out.size; omega) ?_; intro v' w' h1 h2; obtain ⟨A', c', hv'⟩ := h1.spell; rw [List.length_append, HLO.out, List.length_singleton] at hv'; subst hv'; have H1 := hid h1; have H2 := hid h2; clear h1 h2)
          go_roundw
          case rel =>
            have hst := HST.out
            rw [HC.out] at hst
            have hlt7 : ∀ q, (Value.slice oA k oc).ownBlock = some q → W.heap.size ≤ q := fun q hq => (World.ownsRow.lt (HOWN.out.kept HWL.out) q hq).1
            exact ⟨k + 1, _, by omega, by go_num, rfl, by rw [hst]; exact H1.out, (HBR.out.trans (HWL.out.mono HBR.out.size)).trans ((Below.refl W.heap.size _).grown H2.out (by have := HBR.out.size; have := HWL.out.size; omega) hlt7)⟩
          case measure => simp [intOf]; omega
        · have hs' : (20 : Int) < tx.size := by omega
          have hs2 : (20 : Int) ≤ tx.size := by omega
          obtain ⟨y, hy⟩ : ∃ y, tx.extract 0 20 = y := ⟨_, rfl⟩
          have HC : Hid (cutC ⟨tx, wd, fg, bg, fl⟩ = ⟨y, wd, fg, bg, fl⟩) := by unfold Hid cutC; rw [← hy]
          clear hs
          have hwl : Below wr.heap.size wr ((wr.alloc (.cells #[.string y, .int .i64 wd, .int .i64 fg, .int .i64 bg, .int .i64 fl] 66)).alloc (.cells #[.string y, .int .i64 wd, .int .i64 fg, .int .i64 bg, .int .i64 fl] 66)) := (below_alloc _ _).alloc (by simp) _
          have hrow := ce_lit (wr.alloc (.cells #[.string y, .int .i64 wd, .int .i64 fg, .int .i64 bg, .int .i64 fl] 66)) ⟨y, wd, fg, bg, fl⟩
          rw [World.size_alloc] at hrow
          unfold Ce.cells at hrow
          simp only at hrow
          have HROW := hid hrow
          have HWL := hid hwl
          clear hrow hwl
          go_wp2_with (at_builtin; refine wpList_append_ce rfl _ _ rfl W.heap.size _ _ _ [⟨y, wd, fg, bg, fl⟩] rfl (HOWN.out.kept HWL.out) rfl HROW.out (by rw [HLO.out]; simp; omega) (by simp; have := HBR.out.size; omega) ?_; intro v' w' h1 h2; obtain ⟨A', c', hv'⟩ := h1.spell; rw [List.length_append, HLO.out, List.length_singleton] at hv'; subst hv'; have H1 := hid h1; have H2 := hid h2; clear h1 h2)
          go_roundw
          case rel =>
            have hst := HST.out
            rw [HC.out] at hst
            have hlt7 : ∀ q, (Value.slice oA k oc).ownBlock = some q → W.heap.size ≤ q := fun q hq => (World.ownsRow.lt (HOWN.out.kept HWL.out) q hq).1
            exact ⟨k + 1, _, by omega, by go_num, rfl, by rw [hst]; exact H1.out, (HBR.out.trans (HWL.out.mono HBR.out.size)).trans ((Below.refl W.heap.size _).grown H2.out (by have := HBR.out.size; have := HWL.out.size; omega) hlt7)⟩
          case measure => simp [intOf]; omega
      · have hkm : k = m := by omega
        subst hkm
        have HOWN := hid hown
        have HBR := hid hbr
        clear hown hbr hlo
        go_wp2
        go_ret
        exact ⟨_, rfl, HOWN.out.csl, HBR.out⟩

theorem cutN8_82 (l : List Ce) : cutN8 82 l = lineG l := rfl
set_option maxRecDepth 100000 in
set_option maxHeartbeats 4000000 in
theorem few8_any (v : Value) (lv : List (Ln × Value)) (W : World) (hr : LR W v lv) (hc : CesOf W lv) (hn : (lv.length : Int) ≤ 9223372036854775807) (hl : ∀ e ∈ lv, (e.1.cs.length : Int) ≤ 9223372036854775807 ∧ ∀ c ∈ e.1.cs, (c.tx.size : Int) ≤ 9223372036854775807) :
    Calls Tryd.prog 22 #[v] W (LFew W (takeN (lv.map Prod.fst) 30)) := by
  obtain ⟨m, hmm⟩ : ∃ m, min lv.length 30 = m := ⟨_, rfl⟩
  obtain ⟨A, c0, rfl⟩ := hr.spell
  obtain ⟨A', hs1, hr1⟩ := slice_ln_h hr rfl m (by omega)
  have hcap : lv.length ≤ c0 := by obtain ⟨A', c', e, h, _⟩ := hr; cases e; exact h
  obtain ⟨n, hnl⟩ : ∃ n, lv.length = n := ⟨_, rfl⟩
  have htk : takeN (lv.map Prod.fst) 30 = takeN (lv.map Prod.fst) m := by
    unfold takeN
    by_cases h : n ≤ 30
    · rw [List.take_of_length_le (by rw [List.length_map]; omega), List.take_of_length_le (by rw [List.length_map]; omega)]
    · rw [show m = 30 by omega]
  rw [htk]
  rw [hnl] at hs1 hn hmm hcap ⊢
  have HNL := hid hnl
  have HR := hid hr1
  have HC := hid hc
  have HL := hid hl
  have HMM := hid hmm
  clear hr hc hl hr1 hmm hnl htk
  have hm30 : m ≤ 30 := by have := HMM.out; omega
  go_enter Tryd.func22, Tryd.ntmps22
  go_upto_region 2 with fail
  go_cut [3, 10, 11, 12] (fun z a b c wx => z = .slice none 0 0 ∧ a = .slice A' m c0 ∧ b = .int .i64 m ∧ c = .int .i64 0 ∧ W = wx)
  case first =>
    have hmm := HMM.out
    by_cases h : n ≤ 30
    · have h' : (n : Int) ≤ 30 := by omega
      obtain rfl : n = m := by omega
      clear hmm h
      go_wp2_with fail
      go_meet
      exact ⟨rfl, rfl, rfl, rfl, rfl⟩
    · have h' : (30 : Int) < n := by omega
      obtain rfl : m = 30 := by omega
      have hs3 : ∀ w, (Instr.sliceAt 22 (.slice A n c0) none (some (.int .i64 30)) none).run Tryd.prog w = .ok (.slice A' 30 c0) w := hs1
      clear hmm h hs1
      go_wp2_with fail
      go_meet
      exact ⟨rfl, rfl, rfl, rfl, rfl⟩
  case rest =>
    obtain ⟨rfl, rfl, rfl, rfl, rfl⟩ := hcut
    clear hs1 hcap
    go_wp2_with fail
    go_loopw [3, 12] (fun z i wr => ∃ k ov, k ≤ m ∧ i = .int .i64 (k : Nat) ∧ z = ov ∧ OutRel W wr (lv.map Prod.fst) k ov) (fun _ i _ => m - (intOf i).toNat)
    case atStart => exact ⟨0, _, by omega, rfl, rfl, [], OwnL.nil _ _, rfl, by simp, Below.refl _ _⟩
    case round =>
      obtain ⟨wo, rfl⟩ : ∃ wo : World, wo = wr := ⟨_, rfl⟩
      obtain ⟨k, ov, hk, rfl, rfl, lvk, hown, hmap, hcs, hbr⟩ := hrel
      obtain ⟨oA, oc, rfl⟩ := hown.spell
      have hlo : lvk.length = k := by have h := congrArg List.length hmap; unfold takeN at h; rw [List.length_map, List.length_map, List.length_take, List.length_map, HNL.out] at h; have := HMM.out; omega
      rw [hlo] at hown ⊢
      by_cases hlt : k < m
      · have hki : (k : Int) < m := by omega
        have hkl : k < lv.length := by rw [HNL.out]; have := HMM.out; omega
        have hxt : (lv.take m)[k]? = some lv[k] := by rw [List.getElem?_take, if_pos hlt]; exact List.getElem?_eq_getElem hkl
        obtain ⟨A'', c', e, _, hcell⟩ := HR.out
        rw [show (lv.take m).length = m by rw [List.length_take, HNL.out]; have := HMM.out; omega] at e
        cases e
        obtain ⟨g, o, rfl, hg, hcell⟩ := hcell (by intro e; rw [e] at hxt; simp at hxt)
        have hts := HL.out lv[k] (List.getElem_mem _)
        have hce := HC.out lv[k] (List.getElem_mem _)
        obtain ⟨p0, p1⟩ := hcell k lv[k] hxt
        have p0 := (hbr.cell (p := ⟨g, o + k * 2, none⟩) hg).trans p0
        have p1 := (hbr.cell (p := ⟨g, o + k * 2 + 1, none⟩) hg).trans p1
        have hxm : (lv.map Prod.fst)[k]? = some lv[k].1 := by rw [List.getElem?_map, List.getElem?_eq_getElem hkl]; rfl
        generalize lv[k] = x at *
        obtain ⟨⟨cs, soft⟩, cv⟩ := x
        simp only at p0 p1 hts hce hxm
        obtain ⟨cA, cc, rfl⟩ := hce.spell
        have hline := fun W' (hb : Below wo.heap.size wo W') => cells_any _ cs 82 W' ((hce.below hbr).below hb) hts.1 hts.2 (by omega)
        obtain ⟨cn, hcn⟩ : ∃ cn, cs.length = cn := ⟨_, rfl⟩
        rw [hcn] at p0 hline
        have hWw : W.heap.size ≤ wo.heap.size := hbr.size
        have HXM := hid hxm
        have HLO := hid hlo
        have HOWN := hid hown
        have HBR := hid hbr
        have HMAP := hid hmap
        have HCS := hid hcs
        have HLINE := hid hline
        clear hxm hlo hown hbr hcell hmap hcs hline hce hts hcn hxt hkl hg
        have hd0 : Below wo.heap.size wo (wo.alloc (.cells #[.slice cA cn cc, .bool soft] 61)).drew := (below_alloc _ _).drew
        have hbx0 := (Box.new wo 61 #[.slice cA cn cc, .bool soft])
        have HBX0 := hid hbx0
        clear hbx0
        go_upto_region 5 with fail
        first | go_region_law (first | (go_simp; go_at_call 30; refine (HLINE.out _ hd0).mono ?_; rintro e w5 ⟨v5, rfl, hc5, hb5⟩; have hd5 := hd0.trans (hb5.mono hd0.size); have hbz := (HBX0.out.drew).below hb5 (HBX0.out.drew).lt; obtain ⟨⟨k0, k1⟩, f0, f1⟩ := hbz.two; obtain ⟨A5, c5, hs5⟩ := hc5.spell; subst hs5; have hlt5 : wo.heap.size ≤ w5.heap.size := hd5.size; have HC5 := hid hc5; clear hc5 hbz; have hd6 := hid (hd5.trans ((below_alloc w5 (.cells #[.slice A5 (cutN8 82 cs).length c5, .bool soft] 61)).mono hd5.size))) | (refine step_append_ln rfl _ _ rfl W.heap.size _ _ lvk [(cutN ⟨cs, soft⟩, .slice A5 (cutN8 82 cs).length c5)] rfl (HOWN.out.kept hd6.out) rfl (ln_lit w5 (cutN ⟨cs, soft⟩, .slice A5 (cutN8 82 cs).length c5)) (by intro y hy; rw [List.mem_singleton] at hy; subst hy; exact HC5.out.row.below (below_alloc _ _)) (by rw [HLO.out]; simp; omega) (by simp; omega) ?_; intro v' w7 h1 h2; obtain ⟨A', c', hv'⟩ := h1.spell; rw [List.length_append, HLO.out, List.length_singleton] at hv'; subst hv'; have H1 := hid h1; have H2 := hid h2; clear h1 h2)) | fail
        all_goals
          have hls := lf_step HOWN.out HMAP.out HCS.out HXM.out hd5 (HC5.out.mono hd0.size) hWw H2.out
          have hlt7 : ∀ z, (Value.slice oA k oc).ownBlock = some z → W.heap.size ≤ z := fun z hz => (World.ownsRow.lt (HOWN.out.kept hd6.out) z hz).1
          have hbb := (HBR.out.trans (hd6.out.mono HBR.out.size)).trans ((Below.refl W.heap.size _).grown H2.out (Nat.le_trans hWw hd6.out.size) hlt7)
          have HLS := hid hls
          have HBB := hid hbb
          clear hls hlt7 hbb
          go_wp2
          go_roundw
          case rel => exact ⟨k + 1, _, by omega, by go_num, rfl, _, H1.out, HLS.out.1, HLS.out.2, HBB.out⟩
          case measure => simp [intOf]; omega
      · have hkm : k = m := by omega
        subst hkm
        go_wp2
        go_ret
        exact ⟨_, lvk, rfl, hmap, hown.lsl, hcs, hbr⟩
end Go.Proofs.YtkejoknphnkhnaaDoor
