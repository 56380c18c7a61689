/- Layer 7, the statements' helpers: lines cut short. Made by wip/gen/backF.py. -/
import Derived.Test.YtdpicbfpjnampaaDoorBackCQ
import Derived.Test.YtdpicbfpjnampaaDoorHeldSQ
namespace Go.Proofs.YtdpicbfpjnampaaDoor
open Go.RowKit

theorem ce_cells (w : World) : (Go.sizeOf (Tryd.prog.elem 55)).run Tryd.prog w = .ok 5 w := by kernel_rfl
set_option maxRecDepth 100000 in
theorem slice_ce_h {W : World} {A : Option Addr} {n c : Nat} {l : List Ce} (hr : CeRow W (.slice A n c) l) (hl : l.length = n) (h : Nat) (hhn : h ≤ n) :
    ∃ A', (∀ w, (Instr.sliceAt 55 (.slice A n c) none (some (.int .i64 h)) none).run Tryd.prog w = .ok (.slice A' h c) w) ∧ CeRow W (.slice A' h c) (l.take h) := by
  obtain ⟨A', c', e, hc, hcell⟩ := hr
  cases e
  have hlen : (l.take h).length = h := by rw [List.length_take]; omega
  refine ⟨if c = 0 then A else A.map (·.add (0 * 5)), fun w => ?_, ?_⟩
  · rw [run_sliceAt_slice w _ _ _ _ _ Tryd.underlying55, run_slice_h w 55 A _ c Tryd.underlying55 .i64 h (by omega) (by omega), ce_cells]
    simp only [Result.andThen, Int.toNat_natCast, sliced, Nat.sub_zero]
  · refine ⟨_, _, by rw [hlen], by omega, fun hne => ?_⟩
    have hpos : 0 < h := by rw [← hlen]; exact List.length_pos_iff.2 hne
    obtain ⟨g, o, rfl, hg, hcell⟩ := hcell (List.length_pos_iff.1 (by omega))
    refine ⟨g, o, ?_, hg, fun j e he => ?_⟩
    · rw [if_neg (by omega)]
      show some ((⟨g, o, none⟩ : Addr).add (0 * 5)) = _
      rw [addr_add]
      rfl
    · rw [List.getElem?_take] at he
      split at he
      · exact hcell j e he
      · cases he

def takeN (ls : List Ln) (m : Nat) : List Ln := (ls.take m).map cutN
theorem lf_step {W wr w5 w7 : World} {ls : List Ln} {k : Nat} {x : Ln} {ov v5 : Value} {lvk : List (Ln × Value)} {lc : Array Value} (hown : OwnL wr W.heap.size ov lvk)
    (hm : lvk.map Prod.fst = takeN ls k) (hcs : ∀ x ∈ lvk, CSl wr W.heap.size x.2 x.1.cs) (hx : ls[k]? = some x) (hb5 : Below wr.heap.size wr w5) (hc5 : CSl w5 wr.heap.size v5 (lineG x.cs)) (hsz : W.heap.size ≤ wr.heap.size)
    (hg7 : (w5.alloc (.cells lc 57)).grownBy w7 ov.ownBlock) :
    (lvk ++ [(cutN x, v5)]).map Prod.fst = takeN ls (k + 1) ∧ ∀ y ∈ lvk ++ [(cutN x, v5)], CSl w7 W.heap.size y.2 y.1.cs := by
  have hb6 := hb5.trans ((below_alloc w5 (.cells lc 57)).mono hb5.size)
  have own6 := hown.kept hb6
  refine ⟨?_, fun y hy => ?_⟩
  · unfold takeN at *
    rw [List.map_append, hm, take_cutN hx]; rfl
  · rw [List.mem_append, List.mem_singleton] at hy
    rcases hy with hy | rfl
    · exact ((hcs y hy).below hb6 (Nat.le_refl _)).grown own6 hg7
    · exact (((hc5.mono hsz).below (below_alloc w5 (.cells lc 57)) (Nat.le_refl _)).grown own6 hg7 : CSl _ _ v5 (lineG x.cs))

def LFew (W : World) (ls : List Ln) (e : Ending) (w' : World) : Prop :=
  ∃ v lv', e = .returned v ∧ lv'.map Prod.fst = ls ∧ LSl w' W.heap.size v lv' ∧ (∀ x ∈ lv', CSl w' W.heap.size x.2 x.1.cs) ∧ Below W.heap.size W w'
def InRel (wr wi : World) (cs : List Ce) (soft : Bool) (q : Nat) : Prop :=
  ∃ ov, Box wi (wr.heap.size + 1) 57 #[ov, .bool soft] ∧ OwnC wi wr.heap.size ov ((cs.take q).map cutC) ∧ Below wr.heap.size wr wi ∧ wr.heap.size + 1 + 1 ≤ wi.heap.size
def OutRel (W wr : World) (ls : List Ln) (k : Nat) (ov : Value) : Prop :=
  ∃ lvk, OwnL wr W.heap.size ov lvk ∧ lvk.map Prod.fst = takeN ls k ∧ (∀ x ∈ lvk, CSl wr W.heap.size x.2 x.1.cs) ∧ Below W.heap.size W wr

set_option maxRecDepth 100000 in
set_option maxHeartbeats 4000000 in
theorem lfew_any (v : Value) (lv : List (Ln × Value)) (most : Nat) (W : World) (hr : LR W v lv) (hc : CesOf W lv) (hn : (lv.length : Int) ≤ 9223372036854775807) (hl : ∀ e ∈ lv, (e.1.cs.length : Int) ≤ 9223372036854775807 ∧ ∀ c ∈ e.1.cs, (c.tx.size : Int) ≤ 9223372036854775807) (hmost : most ≤ 100) :
    Calls Tryd.prog 34 #[v, .int .i64 most] W (LFew W (takeN (lv.map Prod.fst) most)) := by
  obtain ⟨m, hmm⟩ : ∃ m, min lv.length most = m := ⟨_, rfl⟩
  obtain ⟨A, c0, rfl⟩ := hr.spell
  obtain ⟨A', hs1, hr1⟩ := slice_ln_h hr rfl m (by omega)
  have hcap : lv.length ≤ c0 := by obtain ⟨A', c', e, h, _⟩ := hr; cases e; exact h
  obtain ⟨n, hnl⟩ : ∃ n, lv.length = n := ⟨_, rfl⟩
  have htk : takeN (lv.map Prod.fst) most = takeN (lv.map Prod.fst) m := by
    unfold takeN
    by_cases h : n ≤ most
    · rw [List.take_of_length_le (by rw [List.length_map]; omega), List.take_of_length_le (by rw [List.length_map]; omega)]
    · rw [show m = most by omega]
  rw [htk]
  rw [hnl] at hs1 hn hmm hcap ⊢
  have HNL := hid hnl
  have HR := hid hr1
  have HC := hid hc
  have HL := hid hl
  have HMM := hid hmm
  have HCAP := hid hcap
  clear hr hc hl hr1 hmm hnl htk hcap
  go_enter Tryd.func34, Tryd.ntmps34
  go_upto_region 2 with fail
  go_cut [5, 16, 17, 18] (fun z a b c wx => z = .slice none 0 0 ∧ a = .slice A' m c0 ∧ b = .int .i64 m ∧ c = .int .i64 0 ∧ W = wx)
  case first =>
    have hmm := HMM.out
    by_cases h : n ≤ most
    · have h' : (n : Int) ≤ most := by omega
      obtain rfl : n = m := by omega
      clear hmm h
      go_wp2_with fail
      go_meet
      exact ⟨rfl, rfl, rfl, rfl, rfl⟩
    · have h' : (most : Int) < n := by omega
      obtain rfl : most = m := by omega
      clear hmm h
      go_wp2_with fail
      go_meet
      exact ⟨rfl, rfl, rfl, rfl, rfl⟩
  case rest =>
    obtain ⟨rfl, rfl, rfl, rfl, rfl⟩ := hcut
    clear hs1
    have hm100 : m ≤ 100 := by have := HMM.out; omega
    go_wp2_with fail
    go_loopw [5, 18] (fun z i wr => ∃ k ov, k ≤ m ∧ i = .int .i64 (k : Nat) ∧ z = ov ∧ OutRel W wr (lv.map Prod.fst) k ov) (fun _ i _ => m - (intOf i).toNat)
    case atStart => exact ⟨0, _, by omega, rfl, rfl, [], OwnL.nil _ _, rfl, by simp, Below.refl _ _⟩
    case round =>
      obtain ⟨wo, rfl⟩ : ∃ wo : World, wo = wr := ⟨_, rfl⟩
      obtain ⟨k, ov, hk, rfl, rfl, lvk, hown, hmap, hcs, hbr⟩ := hrel
      obtain ⟨oA, oc, rfl⟩ := hown.spell
      have hlo : lvk.length = k := by have h := congrArg List.length hmap; unfold takeN at h; rw [List.length_map, List.length_map, List.length_take, List.length_map, HNL.out] at h; have := HMM.out; omega
      rw [hlo] at hown ⊢
      by_cases hlt : k < m
      · have hki : (k : Int) < m := by omega
        have hkl : k < lv.length := by rw [HNL.out]; have := HMM.out; omega
        have hxt : (lv.take m)[k]? = some lv[k] := by rw [List.getElem?_take, if_pos hlt]; exact List.getElem?_eq_getElem hkl
        obtain ⟨A'', c', e, _, hcell⟩ := HR.out
        rw [show (lv.take m).length = m by rw [List.length_take, HNL.out]; have := HMM.out; omega] at e
        cases e
        obtain ⟨g, o, rfl, hg, hcell⟩ := hcell (by intro e; rw [e] at hxt; simp at hxt)
        have hts := HL.out lv[k] (List.getElem_mem _)
        have hce := HC.out lv[k] (List.getElem_mem _)
        obtain ⟨p0, p1⟩ := hcell k lv[k] hxt
        have p0 := (hbr.cell (p := ⟨g, o + k * 2, none⟩) hg).trans p0
        have p1 := (hbr.cell (p := ⟨g, o + k * 2 + 1, none⟩) hg).trans p1
        have hxm : (lv.map Prod.fst)[k]? = some lv[k].1 := by rw [List.getElem?_map, List.getElem?_eq_getElem hkl]; rfl
        generalize lv[k] = x at *
        obtain ⟨⟨cs, soft⟩, cv⟩ := x
        simp only at p0 p1 hts hce hxm
        obtain ⟨cA, cc, rfl⟩ := hce.spell
        have hcec : cs.length ≤ cc := by obtain ⟨A', c', e, h, _⟩ := hce; cases e; exact h
        obtain ⟨p, hpp⟩ : ∃ p, min cs.length 82 = p := ⟨_, rfl⟩
        obtain ⟨cB, hs2, hr2⟩ := slice_ce_h hce rfl p (by omega)
        obtain ⟨cn, hcn⟩ : ∃ cn, cs.length = cn := ⟨_, rfl⟩
        have hlg : lineG cs = (cs.take p).map cutC := by
          unfold lineG
          by_cases h : cn ≤ 82
          · rw [List.take_of_length_le (by omega), List.take_of_length_le (by omega)]
          · rw [show p = 82 by omega]
        have hts1 := hts.1
        have HTS := hid hts.2
        have hbw := hbr.mono (Nat.le_refl W.heap.size)
        have hr2w := hr2.below hbr
        rw [hcn] at hs2 p0 hts1 hcec
        have HXM := hid hxm
        have HOWN := hid hown
        have HBR := hid hbr
        have HMAP := hid hmap
        have HCS := hid hcs
        have HPP := hid hpp
        have HCN := hid hcn
        have HR2 := hid hr2w
        have HLG := hid hlg
        have HLO := hid hlo
        have HG := hid hg
        have HCEC := hid hcec
        clear hxm hown hbr hcell hmap hcs hce hts hpp hr2 hr2w hxt hkl hlo hcn hlg hbw hg hcec
        have hb0 : Below wo.heap.size wo ((wo.alloc (.cells #[.slice cA cn cc, .bool soft] 57)).alloc (.cells #[.slice none 0 0, .bool soft] 57)) := (below_alloc _ _).alloc (by simp) _
        have HB0 := hid hb0
        have hbx := Box.new (wo.alloc (.cells #[.slice cA cn cc, .bool soft] 57)) 57 #[.slice none 0 0, .bool soft]
        rw [World.size_alloc] at hbx
        have HBX := hid hbx
        have hbx0 := (Box.new wo 57 #[.slice cA cn cc, .bool soft]).alloc (.cells #[.slice none 0 0, .bool soft] 57)
        have HBX0 := hid hbx0
        have hs0 : wo.heap.size + 1 + 1 ≤ ((wo.alloc (.cells #[.slice cA cn cc, .bool soft] 57)).alloc (.cells #[.slice none 0 0, .bool soft] 57)).heap.size := by simp
        have HS0 := hid hs0
        clear hb0 hbx hs0 hbx0
        go_upto_region 6 with fail
        generalize ((wo.alloc (.cells #[.slice cA cn cc, .bool soft] 57)).alloc (.cells #[.slice none 0 0, .bool soft] 57)) = w0 at *
        go_cut [31, 32, 33] (fun a b c wx => a = .slice cB p cc ∧ b = .int .i64 p ∧ c = .int .i64 0 ∧ w0 = wx)
        case first =>
          have hpp := HPP.out
          rw [HCN.out] at hpp
          obtain ⟨⟨k0, k1⟩, f0, f1⟩ := HBX0.out.two
          by_cases h : cn ≤ 82
          · have h' : (cn : Int) ≤ 82 := by omega
            obtain rfl : cn = p := by omega
            clear hpp h
            go_wp2_with fail
            go_meet
            exact ⟨rfl, rfl, rfl, rfl⟩
          · have h' : (82 : Int) < cn := by omega
            obtain rfl : p = 82 := by omega
            have hs3 : ∀ w, (Instr.sliceAt 55 (.slice cA cn cc) none (some (.int .i64 82)) none).run Tryd.prog w = .ok (.slice cB 82 cc) w := hs2
            clear hpp h hs2
            go_wp2_with fail
            go_meet
            exact ⟨rfl, rfl, rfl, rfl⟩
        case rest =>
          obtain ⟨rfl, rfl, rfl, rfl⟩ := hcut
          clear hs2 p0 p1
          have hp82 : p ≤ 82 := by have := HPP.out; omega
          go_wp2_with fail
          go_loopw [33] (fun j wi => ∃ q : Nat, q ≤ p ∧ j = .int .i64 q ∧ InRel wo wi cs soft q) (fun j _ => p - (intOf j).toNat)
          case atStart => exact ⟨0, by omega, rfl, _, HBX.out, OwnC.nil _ _, HB0.out, HS0.out⟩
          case round =>
            obtain ⟨q, hq, rfl, iv, hbo, howi, hbi, hsz⟩ := hrel
            obtain ⟨iA, ic, rfl⟩ := howi.spell
            have hli : ((cs.take q).map cutC).length = q := by rw [List.length_map, List.length_take, HCN.out]; have h1 := HPP.out; rw [HCN.out] at h1; omega
            rw [hli] at howi hbo
            by_cases hlt2 : q < p
            · have hqi : (q : Int) < p := by omega
              have hql : q < cs.length := by have := HPP.out; omega
              have hx := List.getElem?_eq_getElem hql
              have htx := HTS.out cs[q] (List.getElem_mem _)
              have hstep := take_cut hx
              have hxt : (cs.take p)[q]? = some cs[q] := by rw [List.getElem?_take, if_pos hlt2]; exact hx
              obtain ⟨cB', cc', e, _, hcell⟩ := HR2.out
              rw [show (cs.take p).length = p by rw [List.length_take]; have := HPP.out; omega] at e
              cases e
              obtain ⟨cg, co, rfl, hcg, hcell⟩ := hcell (by intro e; rw [e] at hxt; simp at hxt)
              obtain ⟨p0, p1, p2, p3, p4⟩ := ccells (W := wr) (g := cg) (o := co + q * 5) (e := cs[q]) (fun i u hu => (hbi.cell (p := ⟨cg, co + q * 5 + i, none⟩) hcg).trans (hcell q cs[q] hxt i u hu))
              generalize cs[q] = x at *
              obtain ⟨tx, wd, fg, bg, fl⟩ := x
              simp only at p0 p1 p2 p3 p4 htx
              obtain ⟨⟨k0, k1⟩, f0, f1⟩ := hbo.two
              have hne : ¬ wo.heap.size + 1 = wr.heap.size := by omega
              have hltb : wo.heap.size + 1 < wr.heap.size := by omega
              have hltc : wo.heap.size ≤ wr.heap.size := by omega
              have HX := hid hx
              have HLI := hid hli
              have HOWI := hid howi
              have HBO := hid hbo
              have HBI := hid hbi
              have HST := hid hstep
              clear hx hxt hli howi hbo hbi hstep hcell hcg hql
              by_cases hs : tx.size ≤ 20
              · have hs' : (tx.size : Int) ≤ 20 := by omega
                have HC : Hid (cutC ⟨tx, wd, fg, bg, fl⟩ = ⟨tx, wd, fg, bg, fl⟩) := by unfold Hid cutC; rw [cutC_short hs]
                clear hs
                have hwl : Below wr.heap.size wr ((wr.alloc (.cells #[.string tx, .int .i64 wd, .int .i64 fg, .int .i64 bg, .int .i64 fl] 28)).alloc (.cells #[.string tx, .int .i64 wd, .int .i64 fg, .int .i64 bg, .int .i64 fl] 28)) := (below_alloc _ _).alloc (by simp) _
                have hrow := ce_lit (wr.alloc (.cells #[.string tx, .int .i64 wd, .int .i64 fg, .int .i64 bg, .int .i64 fl] 28)) ⟨tx, wd, fg, bg, fl⟩
                rw [World.size_alloc] at hrow
                unfold Ce.cells at hrow
                simp only at hrow
                have HROW := hid hrow
                have HWL := hid hwl
                clear hrow hwl
                go_wp2_with (at_builtin; refine wpList_append_ce rfl _ _ rfl wo.heap.size _ _ _ [⟨tx, wd, fg, bg, fl⟩] rfl (HOWI.out.kept HWL.out) rfl HROW.out (by rw [HLI.out]; simp; omega) (by simp; omega) ?_; intro v' w' h1 h2; obtain ⟨A', c', hv'⟩ := h1.spell; rw [List.length_append, HLI.out, List.length_singleton] at hv'; subst hv'; have H1 := hid h1; have H2 := hid h2; clear h1 h2; have hb7 := (HBO.out.below HWL.out HBO.out.lt).grown H2.out (OwnC.not_box (HOWI.out.kept HWL.out) (HBO.out.below HWL.out HBO.out.lt) (by decide)); obtain ⟨⟨m0, m1⟩, n0, n1⟩ := hb7.two; have HB7 := hid hb7; clear hb7)
                go_roundw
                case rel =>
                  have hst := HST.out
                  rw [HC.out] at hst
                  refine ⟨q + 1, by omega, by go_num, _, HB7.out.set (i := 0) _, ?_, ?_, ?_⟩
                  · rw [hst]
                    exact H1.out.set HB7.out (by decide) _
                  · have hlt7 : ∀ z, (Value.slice iA q ic).ownBlock = some z → wo.heap.size ≤ z := fun z hz => (World.ownsRow.lt (HOWI.out.kept HWL.out) z hz).1
                    exact (((HBI.out.trans (HWL.out.mono HBI.out.size)).trans ((Below.refl wo.heap.size _).grown H2.out (by have := HBI.out.size; have := HWL.out.size; omega) hlt7))).setCell (p := ⟨wo.heap.size + 1, 0, none⟩) (by show wo.heap.size ≤ wo.heap.size + 1; omega) _
                  · have := H2.out.size
                    have := HWL.out.size
                    rw [size_set]
                    omega
                case measure => simp [intOf]; omega
              · have hs' : (20 : Int) < tx.size := by omega
                have hs2 : (20 : Int) ≤ tx.size := by omega
                obtain ⟨y, hy⟩ : ∃ y, tx.extract 0 20 = y := ⟨_, rfl⟩
                have HC : Hid (cutC ⟨tx, wd, fg, bg, fl⟩ = ⟨y, wd, fg, bg, fl⟩) := by unfold Hid cutC; rw [← hy]
                clear hs
                have hwl : Below wr.heap.size wr ((wr.alloc (.cells #[.string y, .int .i64 wd, .int .i64 fg, .int .i64 bg, .int .i64 fl] 28)).alloc (.cells #[.string y, .int .i64 wd, .int .i64 fg, .int .i64 bg, .int .i64 fl] 28)) := (below_alloc _ _).alloc (by simp) _
                have hrow := ce_lit (wr.alloc (.cells #[.string y, .int .i64 wd, .int .i64 fg, .int .i64 bg, .int .i64 fl] 28)) ⟨y, wd, fg, bg, fl⟩
                rw [World.size_alloc] at hrow
                unfold Ce.cells at hrow
                simp only at hrow
                have HROW := hid hrow
                have HWL := hid hwl
                clear hrow hwl
                go_wp2_with (at_builtin; refine wpList_append_ce rfl _ _ rfl wo.heap.size _ _ _ [⟨y, wd, fg, bg, fl⟩] rfl (HOWI.out.kept HWL.out) rfl HROW.out (by rw [HLI.out]; simp; omega) (by simp; omega) ?_; intro v' w' h1 h2; obtain ⟨A', c', hv'⟩ := h1.spell; rw [List.length_append, HLI.out, List.length_singleton] at hv'; subst hv'; have H1 := hid h1; have H2 := hid h2; clear h1 h2; have hb7 := (HBO.out.below HWL.out HBO.out.lt).grown H2.out (OwnC.not_box (HOWI.out.kept HWL.out) (HBO.out.below HWL.out HBO.out.lt) (by decide)); obtain ⟨⟨m0, m1⟩, n0, n1⟩ := hb7.two; have HB7 := hid hb7; clear hb7)
                go_roundw
                case rel =>
                  have hst := HST.out
                  rw [HC.out] at hst
                  refine ⟨q + 1, by omega, by go_num, _, HB7.out.set (i := 0) _, ?_, ?_, ?_⟩
                  · rw [hst]
                    exact H1.out.set HB7.out (by decide) _
                  · have hlt7 : ∀ z, (Value.slice iA q ic).ownBlock = some z → wo.heap.size ≤ z := fun z hz => (World.ownsRow.lt (HOWI.out.kept HWL.out) z hz).1
                    exact (((HBI.out.trans (HWL.out.mono HBI.out.size)).trans ((Below.refl wo.heap.size _).grown H2.out (by have := HBI.out.size; have := HWL.out.size; omega) hlt7))).setCell (p := ⟨wo.heap.size + 1, 0, none⟩) (by show wo.heap.size ≤ wo.heap.size + 1; omega) _
                  · have := H2.out.size
                    have := HWL.out.size
                    rw [size_set]
                    omega
                case measure => simp [intOf]; omega
            · have hqp : q = p := by omega
              subst hqp
              obtain ⟨⟨k0, k1⟩, f0, f1⟩ := hbo.two
              have hc5 : CSl wr wo.heap.size (.slice iA q ic) (lineG cs) := by rw [HLG.out]; exact howi.csl
              have hlit := ln_lit wr (cutN ⟨cs, soft⟩, .slice iA q ic)
              have hce5 : CesOf (wr.alloc (.cells #[.slice iA q ic, .bool soft] 57)) [(cutN ⟨cs, soft⟩, .slice iA q ic)] := by
                intro e he
                rw [List.mem_singleton] at he
                subst he
                exact hc5.row.below (below_alloc _ _)
              have hown6 := HOWN.out.kept (hbi.trans ((below_alloc wr (.cells #[.slice iA q ic, .bool soft] 57)).mono hbi.size))
              have HC5 := hid hc5
              have HLIT : Hid (LR (wr.alloc (.cells #[.slice iA q ic, .bool soft] 57)) (.slice (some ⟨wr.heap.size, 0, none⟩) 1 1) [(cutN ⟨cs, soft⟩, .slice iA q ic)]) := hlit
              have HCE5 := hid hce5
              have HOWN6 := hid hown6
              have HBI := hid hbi
              have hltc : wo.heap.size ≤ wr.heap.size := by omega
              have HSZ : Hid (W.heap.size ≤ wo.heap.size) := HBR.out.size
              clear hc5 hlit hce5 hown6 hbi howi hbo hli
              go_wp2_with (at_builtin; refine wpList_append_ln rfl _ _ rfl W.heap.size _ _ lvk [(cutN ⟨cs, soft⟩, .slice iA q ic)] rfl HOWN6.out rfl HLIT.out HCE5.out (by rw [HLO.out]; simp; omega) (by simp; have := HSZ.out; omega) ?_; intro v' w7 h1 h2; have H1 := hid h1; have H2 := hid h2; clear h1 h2)
              go_roundw
              case rel =>
                have hls := lf_step HOWN.out HMAP.out HCS.out HXM.out HBI.out HC5.out HSZ.out H2.out
                have hb6 := HBI.out.trans ((below_alloc wr (.cells #[.slice iA q ic, .bool soft] 57)).mono HBI.out.size)
                have hlt7 : ∀ z, (Value.slice oA k oc).ownBlock = some z → W.heap.size ≤ z := fun z hz => (World.ownsRow.lt HOWN6.out z hz).1
                exact ⟨k + 1, _, by omega, by go_num, rfl, _, H1.out, hls.1, hls.2, (HBR.out.trans (hb6.mono HBR.out.size)).trans ((Below.refl W.heap.size _).grown H2.out (Nat.le_trans HSZ.out hb6.size) hlt7)⟩
              case measure => simp [intOf]; omega
      · have hkm : k = m := by omega
        subst hkm
        go_wp2
        go_ret
        exact ⟨_, lvk, rfl, hmap, hown.lsl, hcs, hbr⟩

def LCut (W : World) (mx : Int) (ls : List Ln) (e : Ending) (w' : World) : Prop :=
  ∃ v lv', e = .returned (.agg #[.int .i64 mx, v]) ∧ lv'.map Prod.fst = ls ∧ LSl w' W.heap.size v lv' ∧ (∀ x ∈ lv', CSl w' W.heap.size x.2 x.1.cs) ∧ Below W.heap.size W w'
set_option maxRecDepth 100000 in
set_option maxHeartbeats 1000000 in
theorem lcut_any (mx : Int) (v : Value) (lv : List (Ln × Value)) (W : World) (hr : LR W v lv) (hc : CesOf W lv) (hn : (lv.length : Int) ≤ 9223372036854775807) (hl : ∀ e ∈ lv, (e.1.cs.length : Int) ≤ 9223372036854775807 ∧ ∀ c ∈ e.1.cs, (c.tx.size : Int) ≤ 9223372036854775807) :
    Calls Tryd.prog 33 #[.agg #[.int .i64 mx, v]] W (LCut W mx (takeN (lv.map Prod.fst) 42)) := by
  have hF : ∀ W', Below W.heap.size W W' → Calls Tryd.prog 34 #[v, .int .i64 42] W' (LFew W' (takeN (lv.map Prod.fst) 42)) := fun W' (hb : Below W.heap.size W W') => lfew_any v lv 42 W' (hr.below hb) (hc.below hb) hn hl (by omega)
  obtain ⟨A, c, rfl⟩ := hr.spell
  have b0 := ((Bxs.nil W).alloc 61 #[.int .i64 mx, .slice A lv.length c]).alloc 61 #[.int .i64 0, .slice none 0 0]
  simp only [World.size_alloc, List.nil_append, List.cons_append] at b0
  have h0 : Below W.heap.size W ((W.alloc (.cells #[.int .i64 mx, .slice A lv.length c] 61)).alloc (.cells #[.int .i64 0, .slice none 0 0] 61)) := (below_alloc _ _).alloc (by simp) _
  obtain ⟨n, hnl⟩ : ∃ n, lv.length = n := ⟨_, rfl⟩
  rw [hnl] at hF b0 h0 ⊢
  have HF := hid hF
  have BX0 := hid b0
  have H0 := hid h0
  clear hF b0 h0 hr hc hn hl hnl
  go_enter Tryd.func33, Tryd.ntmps33
  go_upto_region 1 with fail
  generalize ((W.alloc (.cells #[.int .i64 mx, .slice A n c] 61)).alloc (.cells #[.int .i64 0, .slice none 0 0] 61)) = w0 at *
  obtain ⟨⟨k0, k1⟩, f0, f1⟩ := (BX0.out.get 0 rfl).two
  refine wp_region_S (TwoS 6 6 (fun w' => Below w0.heap.size w0 w') (fun _ => True)) (by kernel_rfl) ?_
  have hS : ∀ L, TwoS 6 6 (fun w' => Below w0.heap.size w0 w') (fun _ => True) L w0.drew := fun L => ⟨fun _ => (Below.refl _ _).drew, fun _ => trivial⟩
  refine takeS (i := 0) (v := ?v0) 3 rfl rfl (by kernel_rfl) (by kernel_rfl) (by kernel_rfl) (by kernel_rfl) (by decide) (by decide) (fun _ _ _ h => h) (Or.inl ⟨by rfl, fun w' _ => ?hy0⟩) (hS _) ?rest0
  case hy0 => go_simp; try with_reducible rfl
  simp only [Act.put, List.setIfInBounds_toArray, List.set_cons_zero, List.set_cons_succ]
  refine takeS1 (i := 1) (v := ?v1) 4 rfl rfl (by kernel_rfl) (by kernel_rfl) (by kernel_rfl) (by kernel_rfl) (by decide) (by decide) (by kernel_rfl) (fun _ _ _ h => h) (Or.inl ⟨by rfl, fun w' hw' => ?hy1⟩) (hS _) ?rest1
  case hy1 => obtain ⟨⟨k0, k1⟩, f0, f1⟩ := ((BX0.out.below hw').get 0 rfl).two; go_simp; try with_reducible rfl
  simp only [Act.put, List.setIfInBounds_toArray, List.set_cons_zero, List.set_cons_succ]
  refine takeS (i := 2) (v := ?v2) 5 rfl rfl (by kernel_rfl) (by kernel_rfl) (by kernel_rfl) (by kernel_rfl) (by decide) (by decide) (fun _ _ _ h => h) (Or.inl ⟨by rfl, fun w' _ => ?hy2⟩) (hS _) ?rest2
  case hy2 => go_simp; try with_reducible rfl
  simp only [Act.put, List.setIfInBounds_toArray, List.set_cons_zero, List.set_cons_succ]
  refine takeS1 (i := 3) (v := ?v3) 6 rfl rfl (by kernel_rfl) (by kernel_rfl) (by kernel_rfl) (by kernel_rfl) (by decide) (by decide) (by kernel_rfl) (fun _ _ _ h => h) (Or.inl ⟨by rfl, fun w' hw' => ?hy3⟩) (hS _) ?rest3
  case hy3 => obtain ⟨⟨k0, k1⟩, f0, f1⟩ := ((BX0.out.below hw').get 0 rfl).two; go_simp; try with_reducible rfl
  simp only [Act.put, List.setIfInBounds_toArray, List.set_cons_zero, List.set_cons_succ]
  clear hS
  refine oneS (k := 4) (by kernel_rfl) rfl (by rfl) (fun K hK => ?_)
  go_simp
  go_at_call 34
  refine (HF.out w0.drew H0.out.drew).mono ?_
  rintro e w1 ⟨v1, lv1, rfl, hm, hl, hc, hb⟩
  obtain ⟨A1, c1, rfl⟩ := hl.row.spell
  dsimp only
  have hb1 := (Below.refl _ _).drew.trans hb
  refine hK _ _ ⟨fun _ => hb1, fun _ => trivial⟩ ?_
  clear hK K
  refine oneS (k := 5) (by kernel_rfl) rfl (by rfl) (fun K hK => ?_)
  go_simp
  refine hK _ _ ⟨fun _ => hb1, fun _ => trivial⟩ ?_
  clear hK K
  clear k0 k1 f0 f1
  have BX1 := hid (BX0.out.below hb1)
  have H1 := hid (H0.out.trans (hb1.mono H0.out.size))
  obtain ⟨⟨r0, r1⟩, g0, g1⟩ := (BX1.out.get 1 rfl).two
  have q1 : Box w1 (W.heap.size + 1) 61 #[.int .i64 0, .slice none 0 0] := BX1.out.get 1 rfl
  have hsz : W.heap.size ≤ w0.heap.size := H0.out.size
  have HL1 : Hid (LSl w1 W.heap.size (.slice A1 lv1.length c1) lv1) := (hl.mono hsz)
  have HC1 : Hid (∀ x ∈ lv1, CSl w1 W.heap.size x.2 x.1.cs) := fun x hx => (hc x hx).mono hsz
  have HQ := hid q1
  have HMM := hid hm
  clear hm hl hc hb hb1 hsz q1
  refine oneS (k := 6) (by kernel_rfl) rfl (by rfl) (fun K hK => ?_)
  go_simp
  refine hK _ _ ⟨fun h => absurd h (by decide), fun _ => trivial⟩ ?_
  clear hK K
  refine doneS (by kernel_rfl) ?_ _
  go_wp2
  refine bodyPost_ret (v := .agg #[.int .i64 mx, .slice A1 lv1.length c1]) (by simp [results, Tryd.results33, go_sem, r0, r1]) rfl ⟨_, lv1, rfl, HMM.out, ?_, fun x hx => ?_, ?_⟩
  · exact (HL1.out.set HQ.out (by decide) (i := 0) (.int .i64 mx)).set (HQ.out.set _) (by decide) (i := 1) (.slice A1 lv1.length c1)
  · exact ((HC1.out x hx).set HQ.out (by decide) (i := 0) (.int .i64 mx)).set (HQ.out.set _) (by decide) (i := 1) (.slice A1 lv1.length c1)
  · exact (H1.out.setCell (p := ⟨W.heap.size + 1, 0, none⟩) (by show W.heap.size ≤ W.heap.size + 1; omega) _).setCell (p := ⟨W.heap.size + 1, 1, none⟩) (by show W.heap.size ≤ W.heap.size + 1; omega) _

set_option maxRecDepth 100000 in
set_option maxHeartbeats 1000000 in
theorem blike_any (mx : Int) (v1 v2 : Value) (l1 l2 : List (Ln × Value)) (W : World) (r1 : LR W v1 l1) (r2 : LR W v2 l2) (c1 : CesOf W l1) (c2 : CesOf W l2) (hm : l1.map Prod.fst = l2.map Prod.fst) (s1 : Sz l1) :
    Calls Tryd.prog 41 #[.agg #[.int .i64 mx, v1], .agg #[.int .i64 mx, v2]] W (IsPost W) := by
  have hbel : Below W.heap.size W ((W.alloc (.cells #[.int .i64 mx, v1] 61)).alloc (.cells #[.int .i64 mx, v2] 61)) := (below_alloc _ _).alloc (by simp) _
  have hs := same_any v1 v2 l1 l2 _ (r1.below hbel) (r2.below hbel) (c1.below hbel) (c2.below hbel) hm s1
  obtain ⟨A1, k1, rfl⟩ := r1.spell
  obtain ⟨A2, k2, rfl⟩ := r2.spell
  have HS := hid hs
  have HB := hid hbel
  clear hbel hs hm r1 r2
  have hq : (mx == mx) = true := by simp
  go_enter Tryd.func41, Tryd.ntmps41
  go_wp2_with (with_reducible refine HS.out.mono ?_; rintro e w2 ⟨rfl, hb⟩)
  go_ret
  exact ⟨rfl, HB.out.trans (hb.mono HB.out.size)⟩
theorem blike_nil (W : World) : Calls Tryd.prog 41 #[.agg #[.int .i64 0, .slice none 0 0], .agg #[.int .i64 0, .slice none 0 0]] W (IsPost W) :=
  blike_any 0 (.slice none 0 0) (.slice none 0 0) [] [] W (LR.nil _ _ _) (LR.nil _ _ _) (by intro e h; simp at h) (by intro e h; simp at h) rfl ⟨by simp, by simp⟩
end Go.Proofs.YtdpicbfpjnampaaDoor
