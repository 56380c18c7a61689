/- Layer 7, the statements' helpers: lines cut short. Made by wip/gen/backF.py. -/
/- Layer 10, the statements' lines, cut short. Made by wip/gen/fewL.py. -/
/- Layer 8, the statements' helpers: a row's cells cut short. Made by wip/gen/flowLa.py. -/
import Derived.Test.YteebbmmgbjpihaaDoorBackPQ
import Derived.Test.YteebbmmgbjpihaaDoorHeldSQ
import Derived.Test.YteebbmmgbjpihaaDoorGridRbQ
namespace Go.Proofs.YteebbmmgbjpihaaDoor
open Go.RowKit

theorem ce_cells (w : World) : (Go.sizeOf (Tryd.prog.elem 37)).run Tryd.prog w = .ok 5 w := by kernel_rfl
set_option maxRecDepth 100000 in
theorem slice_ce_h {W : World} {A : Option Addr} {n c : Nat} {l : List Ce} (hr : CeRow W (.slice A n c) l) (hl : l.length = n) (h : Nat) (hhn : h ≤ n) :
    ∃ A', (∀ w, (Instr.sliceAt 37 (.slice A n c) none (some (.int .i64 h)) none).run Tryd.prog w = .ok (.slice A' h c) w) ∧ CeRow W (.slice A' h c) (l.take h) := by
  obtain ⟨A', c', e, hc, hcell⟩ := hr
  cases e
  have hlen : (l.take h).length = h := by rw [List.length_take]; omega
  refine ⟨if c = 0 then A else A.map (·.add (0 * 5)), fun w => ?_, ?_⟩
  · rw [run_sliceAt_slice w _ _ _ _ _ Tryd.underlying37, run_slice_h w 37 A _ c Tryd.underlying37 .i64 h (by omega) (by omega), ce_cells]
    simp only [Result.andThen, Int.toNat_natCast, sliced, Nat.sub_zero]
  · refine ⟨_, _, by rw [hlen], by omega, fun hne => ?_⟩
    have hpos : 0 < h := by rw [← hlen]; exact List.length_pos_iff.2 hne
    obtain ⟨g, o, rfl, hg, hcell⟩ := hcell (List.length_pos_iff.1 (by omega))
    refine ⟨g, o, ?_, hg, fun j e he => ?_⟩
    · rw [if_neg (by omega)]
      show some ((⟨g, o, none⟩ : Addr).add (0 * 5)) = _
      rw [addr_add]
      rfl
    · rw [List.getElem?_take] at he
      split at he
      · exact hcell j e he
      · cases he

def cutLs (ls : List Ln) (m : Nat) : List Ln := (ls.take m).map cutN
theorem lf_step {W wr w5 w7 : World} {ls : List Ln} {k : Nat} {x : Ln} {ov v5 : Value} {lvk : List (Ln × Value)} {lc : Array Value} (hown : OwnL wr W.heap.size ov lvk)
    (hm : lvk.map Prod.fst = cutLs ls k) (hcs : ∀ x ∈ lvk, CSl wr W.heap.size x.2 x.1.cs) (hx : ls[k]? = some x) (hb5 : Below wr.heap.size wr w5) (hc5 : CSl w5 wr.heap.size v5 (lineG x.cs)) (hsz : W.heap.size ≤ wr.heap.size)
    (hg7 : (w5.alloc (.cells lc 39)).grownBy w7 ov.ownBlock) :
    (lvk ++ [(cutN x, v5)]).map Prod.fst = cutLs ls (k + 1) ∧ ∀ y ∈ lvk ++ [(cutN x, v5)], CSl w7 W.heap.size y.2 y.1.cs := by
  have hb6 := hb5.trans ((below_alloc w5 (.cells lc 39)).mono hb5.size)
  have own6 := hown.kept hb6
  refine ⟨?_, fun y hy => ?_⟩
  · unfold cutLs at *
    rw [List.map_append, hm, take_cutN hx]; rfl
  · rw [List.mem_append, List.mem_singleton] at hy
    rcases hy with hy | rfl
    · exact ((hcs y hy).below hb6 (Nat.le_refl _)).grown own6 hg7
    · exact (((hc5.mono hsz).below (below_alloc w5 (.cells lc 39)) (Nat.le_refl _)).grown own6 hg7 : CSl _ _ v5 (lineG x.cs))

def LFew (W : World) (ls : List Ln) (e : Ending) (w' : World) : Prop :=
  ∃ v lv', e = .returned v ∧ lv'.map Prod.fst = ls ∧ LSl w' W.heap.size v lv' ∧ (∀ x ∈ lv', CSl w' W.heap.size x.2 x.1.cs) ∧ Below W.heap.size W w'
def BInRel (wr wi : World) (cs : List Ce) (soft : Bool) (q : Nat) : Prop :=
  ∃ ov, Box wi (wr.heap.size + 1) 39 #[ov, .bool soft] ∧ OwnC wi wr.heap.size ov ((cs.take q).map cutC) ∧ Below wr.heap.size wr wi ∧ wr.heap.size + 1 + 1 ≤ wi.heap.size
def OutRel (W wr : World) (ls : List Ln) (k : Nat) (ov : Value) : Prop :=
  ∃ lvk, OwnL wr W.heap.size ov lvk ∧ lvk.map Prod.fst = cutLs ls k ∧ (∀ x ∈ lvk, CSl wr W.heap.size x.2 x.1.cs) ∧ Below W.heap.size W wr

def LCut (W : World) (mx : Int) (ls : List Ln) (e : Ending) (w' : World) : Prop :=
  ∃ v lv', e = .returned (.agg #[.int .i64 mx, v]) ∧ lv'.map Prod.fst = ls ∧ LSl w' W.heap.size v lv' ∧ (∀ x ∈ lv', CSl w' W.heap.size x.2 x.1.cs) ∧ Below W.heap.size W w'
end Go.Proofs.YteebbmmgbjpihaaDoor

namespace Go.Proofs.YteebbmmgbjpihaaDoor
open Go.RowKit

set_option maxRecDepth 100000 in
set_option maxHeartbeats 4000000 in
theorem ffew_any (v : Value) (lv : List (Ln × Value)) (W : World) (hr : LR W v lv) (hc : CesOf W lv) (hn : (lv.length : Int) ≤ 9223372036854775807) (hl : ∀ e ∈ lv, (e.1.cs.length : Int) ≤ 9223372036854775807 ∧ ∀ c ∈ e.1.cs, (c.tx.size : Int) ≤ 9223372036854775807) :
    Calls Tryd.prog 6 #[v] W (LFew W (cutLs (lv.map Prod.fst) 30)) := by
  obtain ⟨m, hmm⟩ : ∃ m, min lv.length 30 = m := ⟨_, rfl⟩
  obtain ⟨A, c0, rfl⟩ := hr.spell
  obtain ⟨A', hs1, hr1⟩ := slice_ln_h hr rfl m (by omega)
  have hcap : lv.length ≤ c0 := by obtain ⟨A', c', e, h, _⟩ := hr; cases e; exact h
  obtain ⟨n, hnl⟩ : ∃ n, lv.length = n := ⟨_, rfl⟩
  have htk : cutLs (lv.map Prod.fst) 30 = cutLs (lv.map Prod.fst) m := by
    unfold cutLs
    by_cases h : n ≤ 30
    · rw [List.take_of_length_le (by rw [List.length_map]; omega), List.take_of_length_le (by rw [List.length_map]; omega)]
    · rw [show m = 30 by omega]
  rw [htk]
  rw [hnl] at hs1 hn hmm hcap ⊢
  have HNL := hid hnl
  have HR := hid hr1
  have HC := hid hc
  have HL := hid hl
  have HMM := hid hmm
  have HCAP := hid hcap
  clear hr hc hl hr1 hmm hnl htk hcap
  go_enter Tryd.func6, Tryd.ntmps6
  go_upto_region 2 with fail
  go_cut [3, 13, 14, 15] (fun z a b c wx => z = .slice none 0 0 ∧ a = .slice A' m c0 ∧ b = .int .i64 m ∧ c = .int .i64 0 ∧ W = wx)
  case first =>
    have hmm := HMM.out
    by_cases h : n ≤ 30
    · have h' : (n : Int) ≤ 30 := by omega
      obtain rfl : n = m := by omega
      clear hmm h
      go_wp2_with fail
      go_meet
      exact ⟨rfl, rfl, rfl, rfl, rfl⟩
    · have h' : (30 : Int) < n := by omega
      obtain rfl : m = 30 := by omega
      have hs3 : ∀ w, (Instr.sliceAt 22 (.slice A n c0) none (some (.int .i64 30)) none).run Tryd.prog w = .ok (.slice A' 30 c0) w := hs1
      clear hmm h hs1
      go_wp2_with fail
      go_meet
      exact ⟨rfl, rfl, rfl, rfl, rfl⟩
  case rest =>
    obtain ⟨rfl, rfl, rfl, rfl, rfl⟩ := hcut
    clear hs1
    have hm100 : m ≤ 100 := by have := HMM.out; omega
    go_wp2_with fail
    go_loopw [3, 15] (fun z i wr => ∃ k ov, k ≤ m ∧ i = .int .i64 (k : Nat) ∧ z = ov ∧ OutRel W wr (lv.map Prod.fst) k ov) (fun _ i _ => m - (intOf i).toNat)
    case atStart => exact ⟨0, _, by omega, rfl, rfl, [], OwnL.nil _ _, rfl, by simp, Below.refl _ _⟩
    case round =>
      obtain ⟨wo, rfl⟩ : ∃ wo : World, wo = wr := ⟨_, rfl⟩
      obtain ⟨k, ov, hk, rfl, rfl, lvk, hown, hmap, hcs, hbr⟩ := hrel
      obtain ⟨oA, oc, rfl⟩ := hown.spell
      have hlo : lvk.length = k := by have h := congrArg List.length hmap; unfold cutLs at h; rw [List.length_map, List.length_map, List.length_take, List.length_map, HNL.out] at h; have := HMM.out; omega
      rw [hlo] at hown ⊢
      by_cases hlt : k < m
      · have hki : (k : Int) < m := by omega
        have hkl : k < lv.length := by rw [HNL.out]; have := HMM.out; omega
        have hxt : (lv.take m)[k]? = some lv[k] := by rw [List.getElem?_take, if_pos hlt]; exact List.getElem?_eq_getElem hkl
        obtain ⟨A'', c', e, _, hcell⟩ := HR.out
        rw [show (lv.take m).length = m by rw [List.length_take, HNL.out]; have := HMM.out; omega] at e
        cases e
        obtain ⟨g, o, rfl, hg, hcell⟩ := hcell (by intro e; rw [e] at hxt; simp at hxt)
        have hts := HL.out lv[k] (List.getElem_mem _)
        have hce := HC.out lv[k] (List.getElem_mem _)
        obtain ⟨p0, p1⟩ := hcell k lv[k] hxt
        have p0 := (hbr.cell (p := ⟨g, o + k * 2, none⟩) hg).trans p0
        have p1 := (hbr.cell (p := ⟨g, o + k * 2 + 1, none⟩) hg).trans p1
        have hxm : (lv.map Prod.fst)[k]? = some lv[k].1 := by rw [List.getElem?_map, List.getElem?_eq_getElem hkl]; rfl
        generalize lv[k] = x at *
        obtain ⟨⟨cs, soft⟩, cv⟩ := x
        simp only at p0 p1 hts hce hxm
        obtain ⟨cA, cc, rfl⟩ := hce.spell
        have hcec : cs.length ≤ cc := by obtain ⟨A', c', e, h, _⟩ := hce; cases e; exact h
        obtain ⟨p, hpp⟩ : ∃ p, min cs.length 82 = p := ⟨_, rfl⟩
        obtain ⟨cB, hs2, hr2⟩ := slice_ce_h hce rfl p (by omega)
        obtain ⟨cn, hcn⟩ : ∃ cn, cs.length = cn := ⟨_, rfl⟩
        have hlg : lineG cs = (cs.take p).map cutC := by
          unfold lineG
          by_cases h : cn ≤ 82
          · rw [List.take_of_length_le (by omega), List.take_of_length_le (by omega)]
          · rw [show p = 82 by omega]
        have hts1 := hts.1
        have HTS := hid hts.2
        have hbw := hbr.mono (Nat.le_refl W.heap.size)
        have hr2w := hr2.below hbr
        rw [hcn] at hs2 p0 hts1 hcec
        have HXM := hid hxm
        have HOWN := hid hown
        have HBR := hid hbr
        have HMAP := hid hmap
        have HCS := hid hcs
        have HPP := hid hpp
        have HCN := hid hcn
        have HR2 := hid hr2w
        have HLG := hid hlg
        have HLO := hid hlo
        have HG := hid hg
        have HCEC := hid hcec
        clear hxm hown hbr hcell hmap hcs hce hts hpp hr2 hr2w hxt hkl hlo hcn hlg hbw hg hcec
        have hb0 : Below wo.heap.size wo ((wo.alloc (.cells #[.slice cA cn cc, .bool soft] 39)).alloc (.cells #[.slice none 0 0, .bool soft] 39)) := (below_alloc _ _).alloc (by simp) _
        have HB0 := hid hb0
        have hbx := Box.new (wo.alloc (.cells #[.slice cA cn cc, .bool soft] 39)) 39 #[.slice none 0 0, .bool soft]
        rw [World.size_alloc] at hbx
        have HBX := hid hbx
        have hbx0 := (Box.new wo 39 #[.slice cA cn cc, .bool soft]).alloc (.cells #[.slice none 0 0, .bool soft] 39)
        have HBX0 := hid hbx0
        have hs0 : wo.heap.size + 1 + 1 ≤ ((wo.alloc (.cells #[.slice cA cn cc, .bool soft] 39)).alloc (.cells #[.slice none 0 0, .bool soft] 39)).heap.size := by simp
        have HS0 := hid hs0
        clear hb0 hbx hs0 hbx0
        go_upto_region 6 with fail
        generalize ((wo.alloc (.cells #[.slice cA cn cc, .bool soft] 39)).alloc (.cells #[.slice none 0 0, .bool soft] 39)) = w0 at *
        go_cut [28, 29, 30] (fun a b c wx => a = .slice cB p cc ∧ b = .int .i64 p ∧ c = .int .i64 0 ∧ w0 = wx)
        case first =>
          have hpp := HPP.out
          rw [HCN.out] at hpp
          obtain ⟨⟨k0, k1⟩, f0, f1⟩ := HBX0.out.two
          by_cases h : cn ≤ 82
          · have h' : (cn : Int) ≤ 82 := by omega
            obtain rfl : cn = p := by omega
            clear hpp h
            go_wp2_with fail
            go_meet
            exact ⟨rfl, rfl, rfl, rfl⟩
          · have h' : (82 : Int) < cn := by omega
            obtain rfl : p = 82 := by omega
            have hs3 : ∀ w, (Instr.sliceAt 37 (.slice cA cn cc) none (some (.int .i64 82)) none).run Tryd.prog w = .ok (.slice cB 82 cc) w := hs2
            clear hpp h hs2
            go_wp2_with fail
            go_meet
            exact ⟨rfl, rfl, rfl, rfl⟩
        case rest =>
          obtain ⟨rfl, rfl, rfl, rfl⟩ := hcut
          clear hs2 p0 p1
          have hp82 : p ≤ 82 := by have := HPP.out; omega
          go_wp2_with fail
          go_loopw [30] (fun j wi => ∃ q : Nat, q ≤ p ∧ j = .int .i64 q ∧ BInRel wo wi cs soft q) (fun j _ => p - (intOf j).toNat)
          case atStart => exact ⟨0, by omega, rfl, _, HBX.out, OwnC.nil _ _, HB0.out, HS0.out⟩
          case round =>
            obtain ⟨q, hq, rfl, iv, hbo, howi, hbi, hsz⟩ := hrel
            obtain ⟨iA, ic, rfl⟩ := howi.spell
            have hli : ((cs.take q).map cutC).length = q := by rw [List.length_map, List.length_take, HCN.out]; have h1 := HPP.out; rw [HCN.out] at h1; omega
            rw [hli] at howi hbo
            by_cases hlt2 : q < p
            · have hqi : (q : Int) < p := by omega
              have hql : q < cs.length := by have := HPP.out; omega
              have hx := List.getElem?_eq_getElem hql
              have htx := HTS.out cs[q] (List.getElem_mem _)
              have hstep := take_cut hx
              have hxt : (cs.take p)[q]? = some cs[q] := by rw [List.getElem?_take, if_pos hlt2]; exact hx
              obtain ⟨cB', cc', e, _, hcell⟩ := HR2.out
              rw [show (cs.take p).length = p by rw [List.length_take]; have := HPP.out; omega] at e
              cases e
              obtain ⟨cg, co, rfl, hcg, hcell⟩ := hcell (by intro e; rw [e] at hxt; simp at hxt)
              obtain ⟨p0, p1, p2, p3, p4⟩ := ccells (W := wr) (g := cg) (o := co + q * 5) (e := cs[q]) (fun i u hu => (hbi.cell (p := ⟨cg, co + q * 5 + i, none⟩) hcg).trans (hcell q cs[q] hxt i u hu))
              generalize cs[q] = x at *
              obtain ⟨tx, wd, fg, bg, fl⟩ := x
              simp only at p0 p1 p2 p3 p4 htx
              obtain ⟨⟨k0, k1⟩, f0, f1⟩ := hbo.two
              have hne : ¬ wo.heap.size + 1 = wr.heap.size := by omega
              have hltb : wo.heap.size + 1 < wr.heap.size := by omega
              have hltc : wo.heap.size ≤ wr.heap.size := by omega
              have HX := hid hx
              have HLI := hid hli
              have HOWI := hid howi
              have HBO := hid hbo
              have HBI := hid hbi
              have HST := hid hstep
              clear hx hxt hli howi hbo hbi hstep hcell hcg hql
              by_cases hs : tx.size ≤ 20
              · have hs' : (tx.size : Int) ≤ 20 := by omega
                have HC : Hid (cutC ⟨tx, wd, fg, bg, fl⟩ = ⟨tx, wd, fg, bg, fl⟩) := by unfold Hid cutC; rw [cutC_short hs]
                clear hs
                have hwl : Below wr.heap.size wr ((wr.alloc (.cells #[.string tx, .int .i64 wd, .int .i64 fg, .int .i64 bg, .int .i64 fl] 44)).alloc (.cells #[.string tx, .int .i64 wd, .int .i64 fg, .int .i64 bg, .int .i64 fl] 44)) := (below_alloc _ _).alloc (by simp) _
                have hrow := ce_lit (wr.alloc (.cells #[.string tx, .int .i64 wd, .int .i64 fg, .int .i64 bg, .int .i64 fl] 44)) ⟨tx, wd, fg, bg, fl⟩
                rw [World.size_alloc] at hrow
                unfold Ce.cells at hrow
                simp only at hrow
                have HROW := hid hrow
                have HWL := hid hwl
                clear hrow hwl
                go_wp2_with (at_builtin; refine wpList_append_ce rfl _ _ rfl wo.heap.size _ _ _ [⟨tx, wd, fg, bg, fl⟩] rfl (HOWI.out.kept HWL.out) rfl HROW.out (by rw [HLI.out]; simp; omega) (by simp; omega) ?_; intro v' w' h1 h2; obtain ⟨A', c', hv'⟩ := h1.spell; rw [List.length_append, HLI.out, List.length_singleton] at hv'; subst hv'; have H1 := hid h1; have H2 := hid h2; clear h1 h2; have hb7 := (HBO.out.below HWL.out HBO.out.lt).grown H2.out (OwnC.not_box (HOWI.out.kept HWL.out) (HBO.out.below HWL.out HBO.out.lt) (by decide)); obtain ⟨⟨m0, m1⟩, n0, n1⟩ := hb7.two; have HB7 := hid hb7; clear hb7)
                go_roundw
                case rel =>
                  have hst := HST.out
                  rw [HC.out] at hst
                  refine ⟨q + 1, by omega, by go_num, _, HB7.out.set (i := 0) _, ?_, ?_, ?_⟩
                  · rw [hst]
                    exact H1.out.set HB7.out (by decide) _
                  · have hlt7 : ∀ z, (Value.slice iA q ic).ownBlock = some z → wo.heap.size ≤ z := fun z hz => (World.ownsRow.lt (HOWI.out.kept HWL.out) z hz).1
                    exact (((HBI.out.trans (HWL.out.mono HBI.out.size)).trans ((Below.refl wo.heap.size _).grown H2.out (by have := HBI.out.size; have := HWL.out.size; omega) hlt7))).setCell (p := ⟨wo.heap.size + 1, 0, none⟩) (by show wo.heap.size ≤ wo.heap.size + 1; omega) _
                  · have := H2.out.size
                    have := HWL.out.size
                    rw [size_set]
                    omega
                case measure => simp [intOf]; omega
              · have hs' : (20 : Int) < tx.size := by omega
                have hs2 : (20 : Int) ≤ tx.size := by omega
                obtain ⟨y, hy⟩ : ∃ y, tx.extract 0 20 = y := ⟨_, rfl⟩
                have HC : Hid (cutC ⟨tx, wd, fg, bg, fl⟩ = ⟨y, wd, fg, bg, fl⟩) := by unfold Hid cutC; rw [← hy]
                clear hs
                have hwl : Below wr.heap.size wr ((wr.alloc (.cells #[.string y, .int .i64 wd, .int .i64 fg, .int .i64 bg, .int .i64 fl] 44)).alloc (.cells #[.string y, .int .i64 wd, .int .i64 fg, .int .i64 bg, .int .i64 fl] 44)) := (below_alloc _ _).alloc (by simp) _
                have hrow := ce_lit (wr.alloc (.cells #[.string y, .int .i64 wd, .int .i64 fg, .int .i64 bg, .int .i64 fl] 44)) ⟨y, wd, fg, bg, fl⟩
                rw [World.size_alloc] at hrow
                unfold Ce.cells at hrow
                simp only at hrow
                have HROW := hid hrow
                have HWL := hid hwl
                clear hrow hwl
                go_wp2_with (at_builtin; refine wpList_append_ce rfl _ _ rfl wo.heap.size _ _ _ [⟨y, wd, fg, bg, fl⟩] rfl (HOWI.out.kept HWL.out) rfl HROW.out (by rw [HLI.out]; simp; omega) (by simp; omega) ?_; intro v' w' h1 h2; obtain ⟨A', c', hv'⟩ := h1.spell; rw [List.length_append, HLI.out, List.length_singleton] at hv'; subst hv'; have H1 := hid h1; have H2 := hid h2; clear h1 h2; have hb7 := (HBO.out.below HWL.out HBO.out.lt).grown H2.out (OwnC.not_box (HOWI.out.kept HWL.out) (HBO.out.below HWL.out HBO.out.lt) (by decide)); obtain ⟨⟨m0, m1⟩, n0, n1⟩ := hb7.two; have HB7 := hid hb7; clear hb7)
                go_roundw
                case rel =>
                  have hst := HST.out
                  rw [HC.out] at hst
                  refine ⟨q + 1, by omega, by go_num, _, HB7.out.set (i := 0) _, ?_, ?_, ?_⟩
                  · rw [hst]
                    exact H1.out.set HB7.out (by decide) _
                  · have hlt7 : ∀ z, (Value.slice iA q ic).ownBlock = some z → wo.heap.size ≤ z := fun z hz => (World.ownsRow.lt (HOWI.out.kept HWL.out) z hz).1
                    exact (((HBI.out.trans (HWL.out.mono HBI.out.size)).trans ((Below.refl wo.heap.size _).grown H2.out (by have := HBI.out.size; have := HWL.out.size; omega) hlt7))).setCell (p := ⟨wo.heap.size + 1, 0, none⟩) (by show wo.heap.size ≤ wo.heap.size + 1; omega) _
                  · have := H2.out.size
                    have := HWL.out.size
                    rw [size_set]
                    omega
                case measure => simp [intOf]; omega
            · have hqp : q = p := by omega
              subst hqp
              obtain ⟨⟨k0, k1⟩, f0, f1⟩ := hbo.two
              have hc5 : CSl wr wo.heap.size (.slice iA q ic) (lineG cs) := by rw [HLG.out]; exact howi.csl
              have hlit := ln_lit wr (cutN ⟨cs, soft⟩, .slice iA q ic)
              have hce5 : CesOf (wr.alloc (.cells #[.slice iA q ic, .bool soft] 39)) [(cutN ⟨cs, soft⟩, .slice iA q ic)] := by
                intro e he
                rw [List.mem_singleton] at he
                subst he
                exact hc5.row.below (below_alloc _ _)
              have hown6 := HOWN.out.kept (hbi.trans ((below_alloc wr (.cells #[.slice iA q ic, .bool soft] 39)).mono hbi.size))
              have HC5 := hid hc5
              have HLIT : Hid (LR (wr.alloc (.cells #[.slice iA q ic, .bool soft] 39)) (.slice (some ⟨wr.heap.size, 0, none⟩) 1 1) [(cutN ⟨cs, soft⟩, .slice iA q ic)]) := hlit
              have HCE5 := hid hce5
              have HOWN6 := hid hown6
              have HBI := hid hbi
              have hltc : wo.heap.size ≤ wr.heap.size := by omega
              have HSZ : Hid (W.heap.size ≤ wo.heap.size) := HBR.out.size
              clear hc5 hlit hce5 hown6 hbi howi hbo hli
              go_wp2_with (at_builtin; refine wpList_append_ln rfl _ _ rfl W.heap.size _ _ lvk [(cutN ⟨cs, soft⟩, .slice iA q ic)] rfl HOWN6.out rfl HLIT.out HCE5.out (by rw [HLO.out]; simp; omega) (by simp; have := HSZ.out; omega) ?_; intro v' w7 h1 h2; have H1 := hid h1; have H2 := hid h2; clear h1 h2)
              go_roundw
              case rel =>
                have hls := lf_step HOWN.out HMAP.out HCS.out HXM.out HBI.out HC5.out HSZ.out H2.out
                have hb6 := HBI.out.trans ((below_alloc wr (.cells #[.slice iA q ic, .bool soft] 39)).mono HBI.out.size)
                have hlt7 : ∀ z, (Value.slice oA k oc).ownBlock = some z → W.heap.size ≤ z := fun z hz => (World.ownsRow.lt HOWN6.out z hz).1
                exact ⟨k + 1, _, by omega, by go_num, rfl, _, H1.out, hls.1, hls.2, (HBR.out.trans (hb6.mono HBR.out.size)).trans ((Below.refl W.heap.size _).grown H2.out (Nat.le_trans HSZ.out hb6.size) hlt7)⟩
              case measure => simp [intOf]; omega
      · have hkm : k = m := by omega
        subst hkm
        go_wp2
        go_ret
        exact ⟨_, lvk, rfl, hmap, hown.lsl, hcs, hbr⟩

end Go.Proofs.YteebbmmgbjpihaaDoor

namespace Go.Proofs.YteebbmmgbjpihaaDoor
open Go.RowKit

def cutN8 (most : Nat) (l : List Ce) : List Ce := (l.take most).map cutC
def Cut8Post (W : World) (l : List Ce) (e : Ending) (w' : World) : Prop := ∃ v, e = .returned v ∧ CSl w' W.heap.size v l ∧ Below W.heap.size W w'

theorem cutN8_82 (l : List Ce) : cutN8 82 l = lineG l := rfl
end Go.Proofs.YteebbmmgbjpihaaDoor
