/- Layer 10, the reference: Block, Take. Made by wip/gen/findZ.py. -/
/- Layer 10, the reference: Take. Made by wip/gen/findZ.py. -/
import Derived.Test.YteebbmmgbjpihaaDoorFindYQ
namespace Go.Proofs.YteebbmmgbjpihaaDoor
open Go.RowKit Go.Shelf

theorem segB_step {l : List Ce} {j lo hi : Nat} {x : Ce} (h : l[j]? = some x) : segB (l.take (j + 1)) lo hi = if lo ≤ j ∧ j ≤ hi then segB (l.take j) lo hi ++ [x] else segB (l.take j) lo hi := by
  have hj : j < l.length := (List.getElem?_eq_some_iff.1 h).1
  have ht : l.take (j + 1) = l.take j ++ [x] := take_snoc h
  have hlen : (l.take j).length = j := by rw [List.length_take]; omega
  unfold segB
  by_cases h2 : j ≤ hi
  · rw [List.take_of_length_le (by rw [List.length_take]; omega), List.take_of_length_le (l := l.take j) (by omega), ht]
    by_cases h1 : lo ≤ j
    · rw [if_pos ⟨h1, h2⟩, List.drop_append_of_le_length (by omega)]
    · rw [if_neg (fun e => h1 e.1), List.drop_of_length_le (by rw [List.length_append, hlen]; simp; omega), List.drop_of_length_le (by omega)]
  · rw [if_neg (fun e => h2 e.2), List.take_take, List.take_take, show min (hi + 1) (j + 1) = hi + 1 by omega, show min (hi + 1) j = hi + 1 by omega]
theorem joinN_size {M : Nat} (l : List ByteArray) (h : ∀ x ∈ l, x.size ≤ M) : (joinN l).size ≤ l.length * (M + 1) := by
  induction l using snoc_ind with
  | h0 => exact Nat.zero_le _
  | h1 l c ih =>
    have h1 := ih (fun x hx => h x (List.mem_append_left _ hx))
    have h2 := h c (by simp)
    by_cases hl : l = []
    · subst hl
      show c.size ≤ _
      simp
      omega
    · rw [joinN_snoc l hl, size_append', size_append', List.length_append, List.length_singleton, Nat.succ_mul]
      have : nlB.size = 1 := rfl
      omega
set_option maxRecDepth 100000 in
set_option maxHeartbeats 8000000 in
theorem rblock_any (v : Value) (lv : List (Ln × Value)) (ar ac br bc : Nat) (W : World) (hf : Fl W v lv) (hk : keptB lv = true) (ha : (ar, ac) ∈ placesP (lv.map Prod.fst)) (hb : (br, bc) ∈ placesP (lv.map Prod.fst)) :
    Calls Tryd.prog 16 #[v, .int .i64 ar, .int .i64 ac, .int .i64 br, .int .i64 bc] W fun e w' => e = .returned (.string (bkT (lv.map Prod.fst) (ar, ac) (br, bc))) ∧ Below W.heap.size W w' := by
  have hok := kept_ok hf.sm hk
  have h1 := (inP_iff.1 (inP_nat.2 ha)).1.2
  have h2 := (inP_iff.1 (inP_nat.2 hb)).1.2
  have h3 := places_mem.1 ha
  have h4 := places_mem.1 hb
  simp only [toI, List.length_map] at h1 h2 h3 h4
  have hcol : ∀ r, lenP (lv.map Prod.fst) r ≤ 80 := fun r => by
    unfold lenP
    split
    · rename_i l hl; exact (hok l (List.mem_of_getElem? hl)).2.2.2
    · omega
  have h5 := hcol ar
  have h6 := hcol br
  have hn := hf.n
  unfold bkT
  simp only
  have HL1 := hid (fun (X : World) => least_any ar br X)
  have HL2 := hid (fun (X : World) => least_any ac bc X)
  obtain ⟨top, htop⟩ : ∃ top, min ar br = top := ⟨_, rfl⟩
  obtain ⟨bot, hbot⟩ : ∃ bot, max ar br = bot := ⟨_, rfl⟩
  obtain ⟨lo, hleft⟩ : ∃ left, min ac bc = left := ⟨_, rfl⟩
  obtain ⟨hi, hright⟩ : ∃ right, max ac bc = right := ⟨_, rfl⟩
  obtain ⟨N, hN⟩ : ∃ N, bot + 1 - top = N := ⟨_, rfl⟩
  rw [htop] at HL1
  rw [hleft] at HL2
  rw [htop, hbot, hleft, hright, hN]
  obtain ⟨A, cap, rfl⟩ := hf.lr.spell
  obtain ⟨n, hnn⟩ : ∃ n, lv.length = n := ⟨_, rfl⟩
  obtain ⟨ls, hls⟩ : ∃ ls, lv.map Prod.fst = ls := ⟨_, rfl⟩
  have hlr := hf.lr
  rw [hls] at hok ⊢
  rw [hnn] at hlr h1 h2 hn ⊢
  have e1 : (ar : Int) + (br : Int) - (top : Int) = (bot : Int) := by omega
  have e2 : (ac : Int) + (bc : Int) - (lo : Int) = (hi : Int) := by omega
  have e3 : IntKind.i64.wrap (bot : Int) = (bot : Int) := IntWalk.i64_in _ (by omega)
  have e4 : IntKind.i64.wrap (hi : Int) = (hi : Int) := IntWalk.i64_in _ (by omega)
  have har : (ar : Int) ≤ 200 := by omega
  have hbr : (br : Int) ≤ 200 := by omega
  have hac : (ac : Int) ≤ 80 := by omega
  have hbc : (bc : Int) ≤ 80 := by omega
  have hbotn : bot < n := by omega
  have htb : top ≤ bot := by omega
  have hbot200 : bot ≤ 200 := by omega
  have HOK := hid hok
  have HLR := hid hlr
  have HCEL := hid hf.ces
  have HLS := hid hls
  have HMEM := hid (fun k => bkS_mem hok (top := top) (left := lo) (right := hi) (k := k))
  have HLEN := hid (fun k (h : top + k ≤ n) => bkS_length (ls := ls) (top := top) (left := lo) (right := hi) (k := k) (by rw [← hls, List.length_map, hnn]; exact h))
  clear hok hlr hf hk ha hb h1 h2 h3 h4 hcol h5 h6 htop hbot hleft hright hls
  go_enter Tryd.func16, Tryd.ntmps16
  go_wp2_with first | (with_reducible refine (HL1.out _).mono ?_; rintro e w1 ⟨rfl, rfl⟩) | (with_reducible refine (HL2.out _).mono ?_; rintro e w1 ⟨rfl, rfl⟩)
  clear e1 e2 e3 e4
  go_loopw [15, 16] (fun ov i wr => ∃ k : Nat, top + k ≤ bot + 1 ∧ i = .int .i64 ((top + k : Nat) : Int) ∧ ov = .string (joinN (bkS ls top lo hi k)) ∧ Below W.heap.size W wr) (fun _ i _ => bot + 1 - (intOf i).toNat)
  case atStart => exact ⟨0, by omega, by rw [Nat.add_zero], rfl, Below.refl _ _⟩
  case round =>
    obtain ⟨wo, rfl⟩ : ∃ wo : World, wo = wr := ⟨_, rfl⟩
    obtain ⟨k, hk, rfl, rfl, hbo⟩ := hrel
    have HBO := hid hbo
    clear hbo
    obtain ⟨r, hr⟩ : ∃ r, top + k = r := ⟨_, rfl⟩
    rw [hr] at hk ⊢
    by_cases hlt : r ≤ bot
    · have hri : (r : Int) ≤ bot := by omega
      have hrn : (r : Int) < n := by omega
      have hrb : (r : Int) ≤ 200 := by omega
      obtain ⟨g, o, e, eA, hg, he, hcell⟩ := lr_at HLR.out hnn r (by omega)
      subst eA
      obtain ⟨p0, p1⟩ := hcell wo HBO.out
      have hgo : g < wo.heap.size := Nat.lt_of_lt_of_le hg HBO.out.size
      have hxl : ls[r]? = some e.1 := by rw [← HLS.out, List.getElem?_map, he]; rfl
      obtain ⟨y1, y2, y3, y4⟩ := HOK.out e.1 (List.mem_of_getElem? hxl)
      have hce := HCEL.out e (List.mem_of_getElem? he)
      obtain ⟨⟨cs, soft⟩, cv⟩ := e
      simp only at p0 p1 y1 y2 y3 y4 hce hxl hcell
      obtain ⟨cA, cc, rfl⟩ := hce.spell
      obtain ⟨m, hm⟩ : ∃ m, cs.length = m := ⟨_, rfl⟩
      rw [hm] at p0 hce y3 y4 hcell
      have HST := hid (bkS_step (ls := ls) (top := top) (left := lo) (right := hi) (k := k) (by rw [hr]; exact hxl))
      simp only at HST
      have hssz := joinN_size (bkS ls top lo hi k) (HMEM.out k)
      rw [HLEN.out k (by omega)] at hssz
      obtain ⟨out, hout⟩ : ∃ out, joinN (bkS ls top lo hi k) = out := ⟨_, rfl⟩
      obtain ⟨y, hy⟩ : ∃ y, sayCs (segB cs lo hi) = y := ⟨_, rfl⟩
      have hysz : y.size ≤ 100000 := by
        rw [← hy]
        have h1 := sayCs_size (l := segB cs lo hi) (fun c hc => y2 c (List.take_subset _ _ (List.drop_subset _ _ hc)))
        have h2 : (segB cs lo hi).length ≤ 80 := by unfold segB; rw [List.length_drop, List.length_take]; omega
        have h3 : (segB cs lo hi).length * 1001 ≤ 80 * 1001 := Nat.mul_le_mul_right _ h2
        omega
      have hfin : joinN (bkS ls top lo hi (k + 1)) = if k = 0 then endB y else out ++ nlB ++ endB y := by
        rw [HST.out, hy]
        by_cases h0 : k = 0
        · rw [if_pos h0, h0]; rfl
        · rw [if_neg h0, joinN_snoc _ (by intro e; have := HLEN.out k (by omega); rw [e] at this; simp at this; omega), hout]
      rw [hout] at hssz ⊢
      have hk201 : k ≤ 201 := by omega
      have hosz : out.size ≤ 30000000000 := by
        have : k * (100000000 + 1) ≤ 201 * (100000000 + 1) := Nat.mul_le_mul_right _ hk201
        omega
      have HSG := hid hy
      have HTX := hid y2
      have HCE := hid hce
      have HM := hid hm
      have HFIN := hid hfin
      have HO0 : Hid (k = 0 → out = ⟨#[]⟩) := fun h => by rw [← hout, h]; rfl
      have HR := hid hr
      have HBA := hid (fun (X : World) => rbare_any y X (by omega))
      have hes := endB_size y
      obtain ⟨yb, hyb⟩ : ∃ yb, endB y = yb := ⟨_, rfl⟩
      rw [hyb] at HFIN HBA hes
      have hyi : (y.size : Int) ≤ 100000 := by omega
      clear hy hout hfin hssz hxl hce hcell he y1 y2 hm hr HST hyb
      go_wp2_with fail
      go_loopw [17, 49] (fun cv i wr => ∃ j : Nat, j ≤ m ∧ i = .int .i64 j ∧ OwnC wr wo.heap.size cv (segB (cs.take j) lo hi) ∧ Below wo.heap.size wo wr) (fun _ i _ => m - (intOf i).toNat)
      case atStart =>
        refine ⟨0, by omega, rfl, ?_, below_alloc _ _⟩
        have h0 : segB (cs.take 0) lo hi = [] := by unfold segB; simp
        rw [h0]
        exact OwnC.lit [] (by simp) (Nat.le_refl _)
      case round =>
        obtain ⟨j, hj, rfl, hown, hbi⟩ := hrel
        obtain ⟨oA, oc, hov⟩ := hown.spell
        obtain ⟨on, hon⟩ : ∃ on, (segB (cs.take j) lo hi).length = on := ⟨_, rfl⟩
        rw [hon] at hov
        subst hov
        have hon80 : on ≤ 80 := by
          rw [← hon]
          unfold segB
          rw [List.length_drop, List.length_take, List.length_take]
          omega
        have hbw := HBO.out.trans (hbi.mono HBO.out.size)
        by_cases hlt2 : j < m
        · have hji : (j : Int) < m := by omega
          have hjb : (j : Int) ≤ 80 := by omega
          obtain ⟨cg, co, z, ez, hcg, hz, hcc⟩ := row_cells HCE.out HM.out j hlt2
          subst ez
          obtain ⟨q0, q1, q2, q3, q4⟩ := ccells (W := wr) (g := cg) (o := co + j * 5) (e := z) (fun i u hu => hcc wr hbw i u hu)
          have HSB := hid (segB_step (lo := lo) (hi := hi) hz)
          have HON := hid hon
          have HOWN := hid hown
          have HBI := hid hbi
          clear hcc hz hon hown hbi hbw
          by_cases hin : lo ≤ j ∧ j ≤ hi
          · have HS : Hid (segB (cs.take (j + 1)) lo hi = segB (cs.take j) lo hi ++ [z]) := by unfold Hid; rw [HSB.out, if_pos hin]
            have hwl : Below wr.heap.size wr ((wr.alloc (.cells #[.string z.tx, .int .i64 z.wd, .int .i64 z.fg, .int .i64 z.bg, .int .i64 z.fl] 44)).alloc (.cells #[.string z.tx, .int .i64 z.wd, .int .i64 z.fg, .int .i64 z.bg, .int .i64 z.fl] 44)) := (below_alloc _ _).alloc (by simp) _
            have hrow := ce_lit (wr.alloc (.cells #[.string z.tx, .int .i64 z.wd, .int .i64 z.fg, .int .i64 z.bg, .int .i64 z.fl] 44)) z
            rw [World.size_alloc] at hrow
            have HROW := hid hrow
            have HWL := hid hwl
            clear hrow hwl HSB
            have hj1 : (lo : Int) ≤ (j : Int) := by omega
            have hj2 : (j : Int) ≤ (hi : Int) := by omega
            clear hin
            obtain ⟨tx, wd, fg, bg, fl⟩ := z
            unfold Ce.cells at HROW
            simp only at HROW HWL q0 q1 q2 q3 q4
            go_wp2_with first
              | (at_builtin; refine wpList_append_ce rfl _ _ rfl wo.heap.size _ _ _ [⟨tx, wd, fg, bg, fl⟩] rfl (HOWN.out.kept HWL.out) rfl HROW.out (by rw [HON.out]; simp; omega) (by have := HBI.out.size; simp; omega) ?_; intro v' w' h1 h2; obtain ⟨A', c', hv'⟩ := h1.spell; rw [List.length_append, HON.out, List.length_singleton] at hv'; subst hv'; have H1 := hid h1; have H2 := hid h2; clear h1 h2)
            go_roundw
            case rel =>
              have hlt7 : ∀ z, (Value.slice oA on oc).ownBlock = some z → wo.heap.size ≤ z := fun z hz => (World.ownsRow.lt (HOWN.out.kept HWL.out) z hz).1
              exact ⟨j + 1, by omega, by go_num, by rw [HS.out]; exact H1.out, ((HBI.out.trans (HWL.out.mono HBI.out.size)).trans ((Below.refl wo.heap.size _).grown H2.out (by have := HBI.out.size; have := HWL.out.size; omega) hlt7))⟩
            case measure => simp [intOf]; omega
          · have HS : Hid (segB (cs.take (j + 1)) lo hi = segB (cs.take j) lo hi) := by unfold Hid; rw [HSB.out, if_neg hin]
            clear HSB
            have hj1 : decide ((lo : Int) ≤ (j : Int)) = decide (lo ≤ j) := decide_eq_decide.2 (by omega)
            have hj2 : decide ((j : Int) ≤ (hi : Int)) = decide (j ≤ hi) := decide_eq_decide.2 (by omega)
            have hj3 : ¬ (lo : Int) ≤ (j : Int) ∨ ((lo : Int) ≤ (j : Int) ∧ ¬ (j : Int) ≤ (hi : Int)) := by omega
            clear hj1 hj2 hin
            obtain ⟨tx, wd, fg, bg, fl⟩ := z
            simp only at q0 q1 q2 q3 q4
            rcases hj3 with hj3 | ⟨hj3, hj4⟩
            · have hj5 : decide ((lo : Int) ≤ (j : Int)) = false := decide_eq_false hj3
              go_wp2
              go_roundw
              case rel => exact ⟨j + 1, by omega, by go_num, by rw [HS.out]; exact HOWN.out.kept (below_alloc _ _), HBI.out.alloc HBI.out.size _⟩
              case measure => simp [intOf]; omega
            have hj5 : decide ((j : Int) ≤ (hi : Int)) = false := decide_eq_false hj4
            go_wp2
            go_roundw
            case rel => exact ⟨j + 1, by omega, by go_num, by rw [HS.out]; exact HOWN.out.kept (below_alloc _ _), HBI.out.alloc HBI.out.size _⟩
            case measure => simp [intOf]; omega
        · have hjm : j = m := by omega
          subst hjm
          rw [List.take_of_length_le (by rw [HM.out]; omega)] at hown hon
          have HSAY := hid (rSay_raw (.slice oA on oc) (segB cs lo hi) wr hown.csl.row (fun c hc => HTX.out c (List.take_subset _ _ (List.drop_subset _ _ hc))) (by rw [hon]; omega))
          rw [sayN_all, HSG.out] at HSAY
          have HBW := hid hbw
          clear hown hbi hbw hlt2
          by_cases hk0 : k = 0
          · have hrt : ¬ (top : Int) < r := by have := HR.out; omega
            have hrtb : decide ((top : Int) < (r : Int)) = false := decide_eq_false hrt
            have ho0 : out = ⟨#[]⟩ ∨ True := .inr trivial
            have HF : Hid (joinN (bkS ls top lo hi (k + 1)) = yb) := by unfold Hid; rw [HFIN.out, if_pos hk0]
            have HO : Hid (out = ⟨#[]⟩) := HO0.out hk0
            clear hk0 ho0
            have hoe := HO.out
            subst hoe
            go_wp2_with first | (go_at_call 27; refine HSAY.out.mono ?_; rintro e w3 ⟨rfl, hb3⟩; have HB3 := hid (HBW.out.trans (hb3.mono HBW.out.size))) | (go_at_call 28; refine (HBA.out _).mono ?_; rintro e w4 ⟨rfl, rfl⟩)
            go_roundw
            case rel => exact ⟨k + 1, by have := HR.out; omega, congrArg (Value.int .i64) (by have := HR.out; omega), by rw [HF.out]; try rw [nil_app], HB3.out⟩
            case measure => first | (simp [intOf]; done) | (simp [intOf]; omega)
          · have hrt : (top : Int) < r := by have := HR.out; omega
            have HF : Hid (joinN (bkS ls top lo hi (k + 1)) = out ++ nlB ++ yb) := by unfold Hid; rw [HFIN.out, if_neg hk0]
            unfold nlB at HF
            clear hk0
            have hsz1 : (out ++ (⟨#[10]⟩ : ByteArray)).size = out.size + 1 := by rw [size_append']; rfl
            go_wp2_with first | (go_at_call 27; refine HSAY.out.mono ?_; rintro e w3 ⟨rfl, hb3⟩; have HB3 := hid (HBW.out.trans (hb3.mono HBW.out.size))) | (go_at_call 28; refine (HBA.out _).mono ?_; rintro e w4 ⟨rfl, rfl⟩)
            go_roundw
            case rel => exact ⟨k + 1, by have := HR.out; omega, congrArg (Value.int .i64) (by have := HR.out; omega), by rw [HF.out], HB3.out⟩
            case measure => first | (simp [intOf]; done) | (simp [intOf]; omega)
    · have hrb : r = bot + 1 := by omega
      have hri : ¬ (r : Int) ≤ bot := by omega
      have hrib : decide ((r : Int) ≤ (bot : Int)) = false := decide_eq_false hri
      obtain rfl : k = N := by omega
      clear hlt hr
      go_wp2
      go_ret
      exact ⟨rfl, HBO.out⟩
end Go.Proofs.YteebbmmgbjpihaaDoor

namespace Go.Proofs.YteebbmmgbjpihaaDoor
open Go.RowKit Go.Shelf

theorem tkS_mem {ls : List Ln} {ar ac br bc : Nat} (hok : ∀ l ∈ ls, okR l.cs = true ∧ (∀ c ∈ l.cs, c.tx.size ≤ 1000) ∧ 1 ≤ l.cs.length ∧ l.cs.length ≤ 80) :
    ∀ k, k ≤ 201 → ∀ ts whole, tkS ls (ar, ac) (br, bc) k = (ts, whole) → ∀ x ∈ ts, x.size ≤ 100000000 := by
  have hsum := tkS_sum (ls := ls) (a := (ar, ac)) (b := (br, bc)) (fun l hl => ⟨(hok l hl).2.2.2, fun c hc => ⟨rights_iff.1 (okR_iff.1 (hok l hl).1).1 c hc, (hok l hl).2.1 c hc⟩⟩)
  intro k
  induction k with
  | zero => intro _ ts whole h x hx; cases h; simp at hx
  | succ k ih =>
    intro hk ts whole h x hx
    have hs := hsum k
    have hsg := tkS_sum.seg_ok (ls := ls) (a := (ar, ac)) (b := (br, bc)) (r := ar + k) (fun l hl => ⟨(hok l hl).2.2.2, fun c hc => ⟨rights_iff.1 (okR_iff.1 (hok l hl).1).1 c hc, (hok l hl).2.1 c hc⟩⟩)
    by_cases hg : softP ls (ar + k) = true ∧ ar + k ≠ br
    · have e : tkS ls (ar, ac) (br, bc) (k + 1) = _ := tkS_go hg.1 hg.2
      rw [e] at h
      cases h
      exact ih (by omega) _ _ rfl x hx
    · have e : tkS ls (ar, ac) (br, bc) (k + 1) = _ := tkS_end (by
        cases hs : softP ls (ar + k) with
        | false => exact .inl rfl
        | true => exact .inr (Classical.byContradiction fun hne => hg ⟨hs, hne⟩))
      rw [e] at h
      cases h
      rcases List.mem_append.1 hx with hx | hx
      · exact ih (by omega) _ _ rfl x hx
      · rw [List.mem_singleton.1 hx]
        refine endB_say (fun c hc => ?_) ?_
        · rcases List.mem_append.1 hc with hc | hc
          · exact (hs.2.2 c hc).2
          · exact (hsg.2 c hc).2
        · rw [List.length_append]
          have := hs.1
          have := hsg.1
          simp only at *
          omega
def preO (l : List ByteArray) : ByteArray := l.foldl (fun a t => a ++ t ++ nlB) ⟨#[]⟩
theorem preO_snoc (l : List ByteArray) (x : ByteArray) : preO (l ++ [x]) = preO l ++ x ++ nlB := by unfold preO; rw [List.foldl_append]; rfl
theorem preO_join (l : List ByteArray) : ∀ x, preO l ++ x = joinN (l ++ [x]) := by
  induction l using snoc_ind with
  | h0 => intro x; exact nil_app x
  | h1 l c ih => intro x; rw [preO_snoc, ih c, joinN_snoc (l ++ [c]) (by simp)]
theorem preO_size {M : Nat} (l : List ByteArray) (h : ∀ x ∈ l, x.size ≤ M) : (preO l).size ≤ l.length * (M + 1) := by
  induction l using snoc_ind with
  | h0 => exact Nat.zero_le _
  | h1 l c ih =>
    have h1 := ih (fun x hx => h x (List.mem_append_left _ hx))
    have h2 := h c (by simp)
    rw [preO_snoc, size_append', size_append', List.length_append, List.length_singleton, Nat.succ_mul]
    have : nlB.size = 1 := rfl
    omega
theorem segT_B {ls : List Ln} {ar ac br bc r : Nat} {l : Ln} (h : ls[r]? = some l) : segT ls (ar, ac) (br, bc) r = segB l.cs (if r = ar then ac else 0) (if r = br then bc else l.cs.length) := by
  unfold segT segB
  rw [h]
  simp only
  by_cases h1 : r = br
  · rw [if_pos h1, if_pos h1]
    by_cases h2 : r = ar
    · rw [if_pos h2, if_pos h2]
    · rw [if_neg h2, if_neg h2, List.drop_zero]
  · rw [if_neg h1, if_neg h1, List.take_of_length_le (by omega)]
    by_cases h2 : r = ar
    · rw [if_pos h2, if_pos h2]
    · rw [if_neg h2, if_neg h2, List.drop_zero]
set_option maxRecDepth 100000 in
set_option maxHeartbeats 8000000 in
theorem rtake_le (v : Value) (lv : List (Ln × Value)) (ar ac br bc : Nat) (W : World) (hf : Fl W v lv) (hk : keptB lv = true) (ha : (ar, ac) ∈ placesP (lv.map Prod.fst)) (hb : (br, bc) ∈ placesP (lv.map Prod.fst)) (hle : ¬ behP (ar, ac) (br, bc)) :
    Calls Tryd.prog 15 #[v, .int .i64 ar, .int .i64 ac, .int .i64 br, .int .i64 bc] W fun e w' => e = .returned (.string (tkT (lv.map Prod.fst) (ar, ac) (br, bc))) ∧ Below W.heap.size W w' := by
  have hok := kept_ok hf.sm hk
  have h1 := (inP_iff.1 (inP_nat.2 ha)).1.2
  have h2 := (inP_iff.1 (inP_nat.2 hb)).1.2
  simp only [toI, List.length_map] at h1 h2
  have hn := hf.n
  have HB0 := hid (fun (X : World) => behind_any ar ac br bc X)
  rw [show behI (ar : Int) (ac : Int) (br : Int) (bc : Int) = false from (behI_nat (ar, ac) (br, bc)).trans (decide_eq_false hle)] at HB0
  unfold behP at hle
  simp only at hle
  obtain ⟨A, cap, rfl⟩ := hf.lr.spell
  obtain ⟨n, hnn⟩ : ∃ n, lv.length = n := ⟨_, rfl⟩
  obtain ⟨ls, hls⟩ : ∃ ls, lv.map Prod.fst = ls := ⟨_, rfl⟩
  have hlr := hf.lr
  rw [hls] at hok ⊢
  rw [hnn] at hlr h1 h2 hn ⊢
  have hmem := tkS_mem (ar := ar) (ac := ac) (br := br) (bc := bc) hok
  have hsum := tkS_sum (ls := ls) (a := (ar, ac)) (b := (br, bc)) (fun l hl => ⟨(hok l hl).2.2.2, fun c hc => ⟨rights_iff.1 (okR_iff.1 (hok l hl).1).1 c hc, (hok l hl).2.1 c hc⟩⟩)
  have harb : ar ≤ br := by omega
  have hbrn : br < n := by omega
  have hbrb : (br : Int) ≤ 200 := by omega
  have hbr200 : br ≤ 199 := by omega
  have HOK := hid hok
  have HLR := hid hlr
  have HCEL := hid hf.ces
  have HLS := hid hls
  have HMEM := hid hmem
  have HSUM := hid hsum
  clear hok hlr hf hk ha hb h1 h2 hls hmem hsum hle
  go_enter Tryd.func15, Tryd.ntmps15
  go_wp2_with (with_reducible refine (HB0.out _).mono ?_; rintro e w1 ⟨rfl, rfl⟩)
  clear HB0
  go_loopw [11, 12, 13] (fun ov nv i wr => ∃ k : Nat, ar + k ≤ br + 1 ∧ i = .int .i64 ((ar + k : Nat) : Int) ∧ nv = .string (sayCs (tkS ls (ar, ac) (br, bc) k).2) ∧ ov = .string (if ar + k ≤ br then preO (tkS ls (ar, ac) (br, bc) k).1 else joinN (tkS ls (ar, ac) (br, bc) k).1) ∧ Below W.heap.size W wr) (fun _ _ i _ => br + 1 - (intOf i).toNat)
  case atStart => exact ⟨0, by omega, by rw [Nat.add_zero], rfl, by rw [if_pos (by omega)]; rfl, Below.refl _ _⟩
  case round =>
    obtain ⟨wo, rfl⟩ : ∃ wo : World, wo = wr := ⟨_, rfl⟩
    obtain ⟨k, hk, rfl, rfl, rfl, hbo⟩ := hrel
    have HBO := hid hbo
    clear hbo
    obtain ⟨⟨ts, whole⟩, hst⟩ : ∃ st, tkS ls (ar, ac) (br, bc) k = st := ⟨_, rfl⟩
    obtain ⟨s1, s2, s3⟩ := HSUM.out k
    rw [hst] at s1 s2 s3 ⊢
    simp only at s1 s2 s3 ⊢
    obtain ⟨r, hr⟩ : ∃ r, ar + k = r := ⟨_, rfl⟩
    rw [hr] at hk ⊢
    by_cases hlt : r ≤ br
    · rw [if_pos hlt]
      have hri : (r : Int) ≤ br := by omega
      have hrn : (r : Int) < n := by omega
      have hrb : (r : Int) ≤ 200 := by omega
      obtain ⟨g, o, e, eA, hg, he, hcell⟩ := lr_at HLR.out hnn r (by omega)
      subst eA
      obtain ⟨p0, p1⟩ := hcell wo HBO.out
      have hgo : g < wo.heap.size := Nat.lt_of_lt_of_le hg HBO.out.size
      have hxl : ls[r]? = some e.1 := by rw [← HLS.out, List.getElem?_map, he]; rfl
      obtain ⟨y1, y2, y3, y4⟩ := HOK.out e.1 (List.mem_of_getElem? hxl)
      have hce := HCEL.out e (List.mem_of_getElem? he)
      have hseg := segT_B (ar := ar) (ac := ac) (br := br) (bc := bc) hxl
      obtain ⟨⟨cs, soft⟩, cv⟩ := e
      simp only at p0 p1 y1 y2 y3 y4 hce hxl hcell hseg
      have hso : softP ls r = soft := by unfold softP; rw [hxl]
      obtain ⟨cA, cc, rfl⟩ := hce.spell
      obtain ⟨m, hm⟩ : ∃ m, cs.length = m := ⟨_, rfl⟩
      rw [hm] at p0 hce y3 y4 hcell hseg
      obtain ⟨lo, hlo⟩ : ∃ lo, (if r = ar then ac else 0) = lo := ⟨_, rfl⟩
      obtain ⟨hi, hhi⟩ : ∃ hi, (if r = br then bc else m) = hi := ⟨_, rfl⟩
      rw [hlo, hhi] at hseg
      have hle1 : ∀ j, j < m → (lo ≤ j ↔ ¬ behP (ar, ac) (r, j)) := fun j hj => by
        unfold behP
        simp only
        rw [← hlo]
        split <;> omega
      have hle2 : ∀ j, j < m → (j ≤ hi ↔ ¬ behP (r, j) (br, bc)) := fun j hj => by
        unfold behP
        simp only
        rw [← hhi]
        split <;> omega
      obtain ⟨y, hy⟩ : ∃ y, sayCs (segB cs lo hi) = y := ⟨_, rfl⟩
      obtain ⟨now, hnow⟩ : ∃ now, sayCs whole = now := ⟨_, rfl⟩
      obtain ⟨out, hout⟩ : ∃ out, preO ts = out := ⟨_, rfl⟩
      have hadd : sayCs (whole ++ segT ls (ar, ac) (br, bc) r) = now ++ y := by rw [sayCs_append, hseg, hnow, hy]
      have hk201 : k ≤ 201 := by omega
      have hysz : y.size ≤ 100000 := by
        rw [← hy]
        have h1 := sayCs_size (l := segB cs lo hi) (fun c hc => y2 c (List.take_subset _ _ (List.drop_subset _ _ hc)))
        have h2 : (segB cs lo hi).length ≤ 80 := by unfold segB; rw [List.length_drop, List.length_take]; omega
        have h3 : (segB cs lo hi).length * 1001 ≤ 80 * 1001 := Nat.mul_le_mul_right _ h2
        omega
      have hnsz : now.size ≤ 100000000 := by
        rw [← hnow]
        have h1 := sayCs_size (l := whole) (fun c hc => (s3 c hc).2)
        have h3 : whole.length * 1001 ≤ (201 * 80) * 1001 := Nat.mul_le_mul_right _ (by omega)
        omega
      have hosz : out.size ≤ 30000000000 := by
        rw [← hout]
        have h1 := preO_size ts (HMEM.out k hk201 ts whole hst)
        have : ts.length * (100000000 + 1) ≤ 201 * (100000000 + 1) := Nat.mul_le_mul_right _ (by omega)
        omega
      have hgos : soft = true → r ≠ br → tkS ls (ar, ac) (br, bc) (k + 1) = (ts, whole ++ segT ls (ar, ac) (br, bc) r) := fun a b => by
        rw [tkS_go (by show softP ls (ar + k) = true; rw [hr, hso]; exact a) (by show ar + k ≠ br; omega), hst]
        show (ts, whole ++ segT ls (ar, ac) (br, bc) (ar + k)) = _
        rw [hr]
      have hends : soft = false ∨ r = br → tkS ls (ar, ac) (br, bc) (k + 1) = (ts ++ [endB (now ++ y)], []) := fun a => by
        rw [tkS_end (by rcases a with a | a; exact .inl (by show softP ls (ar + k) = false; rw [hr, hso]; exact a); exact .inr (by show ar + k = br; omega)), hst]
        show (ts ++ [endB (sayCs (whole ++ segT ls (ar, ac) (br, bc) (ar + k)))], []) = _
        rw [hr, hadd]
      rw [hnow, hout]
      have HSG := hid hy
      have HTX := hid y2
      have HCE := hid hce
      have HM := hid hm
      have HR := hid hr
      have HGO := hid hgos
      have HEN := hid hends
      have HADD := hid hadd
      have HOUT := hid hout
      have HL1 := hid hle1
      have HL2 := hid hle2
      have hny : (now ++ y).size ≤ 100100000 := by rw [size_append']; omega
      have HBA := hid (fun (X : World) => rbare_any (now ++ y) X (by omega))
      have hes := endB_size (now ++ y)
      obtain ⟨yb, hyb⟩ : ∃ yb, endB (now ++ y) = yb := ⟨_, rfl⟩
      rw [hyb] at HEN HBA hes
      have hybz : yb.size ≤ 100100000 := by omega
      have hpj := preO_join ts yb
      rw [hout] at hpj
      have HPJ := hid hpj
      have HPS := hid (preO_snoc ts yb)
      rw [hout] at HPS
      have HCELL := hid hcell
      have hsz2 : (now ++ y).size = now.size + y.size := size_append' _ _
      clear hy hnow hout hadd hxl hce he y1 y2 hm hr hyb s1 s2 s3 hst hseg hso hlo hhi hle1 hle2 hgos hends hpj hcell hk hny hsz2 hes
      go_wp2_with fail
      go_loopw [14, 41] (fun cv i wr => ∃ j : Nat, j ≤ m ∧ i = .int .i64 j ∧ OwnC wr wo.heap.size cv (segB (cs.take j) lo hi) ∧ Below wo.heap.size wo wr) (fun _ i _ => m - (intOf i).toNat)
      case atStart =>
        refine ⟨0, by omega, rfl, ?_, below_alloc _ _⟩
        have h0 : segB (cs.take 0) lo hi = [] := by unfold segB; simp
        rw [h0]
        exact OwnC.lit [] (by simp) (Nat.le_refl _)
      case round =>
        obtain ⟨j, hj, rfl, hown, hbi⟩ := hrel
        obtain ⟨oA, oc, hov⟩ := hown.spell
        obtain ⟨on, hon⟩ : ∃ on, (segB (cs.take j) lo hi).length = on := ⟨_, rfl⟩
        rw [hon] at hov
        subst hov
        have hon80 : on ≤ 80 := by
          rw [← hon]
          unfold segB
          rw [List.length_drop, List.length_take, List.length_take]
          omega
        have hbw := HBO.out.trans (hbi.mono HBO.out.size)
        by_cases hlt2 : j < m
        · have hji : (j : Int) < m := by omega
          have hjb : (j : Int) ≤ 80 := by omega
          obtain ⟨cg, co, z, ez, hcg, hz, hcc⟩ := row_cells HCE.out HM.out j hlt2
          subst ez
          obtain ⟨q0, q1, q2, q3, q4⟩ := ccells (W := wr) (g := cg) (o := co + j * 5) (e := z) (fun i u hu => hcc wr hbw i u hu)
          have HSB := hid (segB_step (lo := lo) (hi := hi) hz)
          have HON := hid hon
          have HOWN := hid hown
          have HBI := hid hbi
          clear hcc hz hon hown hbi hbw
          by_cases hin : lo ≤ j ∧ j ≤ hi
          · have HS : Hid (segB (cs.take (j + 1)) lo hi = segB (cs.take j) lo hi ++ [z]) := by unfold Hid; rw [HSB.out, if_pos hin]
            have hwl : Below wr.heap.size wr ((wr.alloc (.cells #[.string z.tx, .int .i64 z.wd, .int .i64 z.fg, .int .i64 z.bg, .int .i64 z.fl] 44)).alloc (.cells #[.string z.tx, .int .i64 z.wd, .int .i64 z.fg, .int .i64 z.bg, .int .i64 z.fl] 44)) := (below_alloc _ _).alloc (by simp) _
            have hrow := ce_lit (wr.alloc (.cells #[.string z.tx, .int .i64 z.wd, .int .i64 z.fg, .int .i64 z.bg, .int .i64 z.fl] 44)) z
            rw [World.size_alloc] at hrow
            have HROW := hid hrow
            have HWL := hid hwl
            clear hrow hwl HSB
            have HC1 := hid (fun (X : World) => behind_any ar ac r j X)
            have HC2 := hid (fun (X : World) => behind_any r j br bc X)
            rw [show behI (ar : Int) (ac : Int) (r : Int) (j : Int) = false from (behI_nat (ar, ac) (r, j)).trans (decide_eq_false ((HL1.out j hlt2).1 hin.1))] at HC1
            rw [show behI (r : Int) (j : Int) (br : Int) (bc : Int) = false from (behI_nat (r, j) (br, bc)).trans (decide_eq_false ((HL2.out j hlt2).1 hin.2))] at HC2
            clear hin
            obtain ⟨tx, wd, fg, bg, fl⟩ := z
            unfold Ce.cells at HROW
            simp only at HROW HWL q0 q1 q2 q3 q4
            go_wp2_with first
              | (go_at_call 18; with_reducible refine (HC1.out _).mono ?_; rintro e1 w1 ⟨rfl, rfl⟩)
              | (go_at_call 18; with_reducible refine (HC2.out _).mono ?_; rintro e1 w1 ⟨rfl, rfl⟩)
              | (at_builtin; refine wpList_append_ce rfl _ _ rfl wo.heap.size _ _ _ [⟨tx, wd, fg, bg, fl⟩] rfl (HOWN.out.kept HWL.out) rfl HROW.out (by rw [HON.out]; simp; omega) (by have := HBI.out.size; simp; omega) ?_; intro v' w' h1 h2; obtain ⟨A', c', hv'⟩ := h1.spell; rw [List.length_append, HON.out, List.length_singleton] at hv'; subst hv'; have H1 := hid h1; have H2 := hid h2; clear h1 h2)
            go_roundw
            case rel =>
              have hlt7 : ∀ z, (Value.slice oA on oc).ownBlock = some z → wo.heap.size ≤ z := fun z hz => (World.ownsRow.lt (HOWN.out.kept HWL.out) z hz).1
              exact ⟨j + 1, by omega, by go_num, by rw [HS.out]; exact H1.out, ((HBI.out.trans (HWL.out.mono HBI.out.size)).trans ((Below.refl wo.heap.size _).grown H2.out (by have := HBI.out.size; have := HWL.out.size; omega) hlt7))⟩
            case measure => simp [intOf]; omega
          · have HS : Hid (segB (cs.take (j + 1)) lo hi = segB (cs.take j) lo hi) := by unfold Hid; rw [HSB.out, if_neg hin]
            clear HSB
            have HC1 := hid (fun (X : World) => behind_any ar ac r j X)
            have HC2 := hid (fun (X : World) => behind_any r j br bc X)
            have hj3 : ¬ lo ≤ j ∨ (lo ≤ j ∧ ¬ j ≤ hi) := by omega
            clear hin
            obtain ⟨tx, wd, fg, bg, fl⟩ := z
            simp only at q0 q1 q2 q3 q4
            rcases hj3 with hj3 | ⟨hj3, hj4⟩
            · rw [show behI (ar : Int) (ac : Int) (r : Int) (j : Int) = true from (behI_nat (ar, ac) (r, j)).trans (decide_eq_true (Classical.byContradiction fun h => hj3 ((HL1.out j hlt2).2 h)))] at HC1
              clear hj3 HC2
              go_wp2_with (with_reducible refine (HC1.out _).mono ?_; rintro e1 w1 ⟨rfl, rfl⟩)
              go_roundw
              case rel => exact ⟨j + 1, by omega, by go_num, by rw [HS.out]; exact HOWN.out.kept (below_alloc _ _), HBI.out.alloc HBI.out.size _⟩
              case measure => simp [intOf]; omega
            rw [show behI (ar : Int) (ac : Int) (r : Int) (j : Int) = false from (behI_nat (ar, ac) (r, j)).trans (decide_eq_false ((HL1.out j hlt2).1 hj3))] at HC1
            rw [show behI (r : Int) (j : Int) (br : Int) (bc : Int) = true from (behI_nat (r, j) (br, bc)).trans (decide_eq_true (Classical.byContradiction fun h => hj4 ((HL2.out j hlt2).2 h)))] at HC2
            clear hj3 hj4
            go_wp2_with first | (with_reducible refine (HC1.out _).mono ?_; rintro e1 w1 ⟨rfl, rfl⟩) | (with_reducible refine (HC2.out _).mono ?_; rintro e1 w1 ⟨rfl, rfl⟩)
            go_roundw
            case rel => exact ⟨j + 1, by omega, by go_num, by rw [HS.out]; exact HOWN.out.kept (below_alloc _ _), HBI.out.alloc HBI.out.size _⟩
            case measure => simp [intOf]; omega
        · have hjm : j = m := by omega
          subst hjm
          rw [List.take_of_length_le (by rw [HM.out]; omega)] at hown hon
          have HSAY := hid (rSay_raw (.slice oA on oc) (segB cs lo hi) wr hown.csl.row (fun c hc => HTX.out c (List.take_subset _ _ (List.drop_subset _ _ hc))) (by rw [hon]; omega))
          rw [sayN_all, HSG.out] at HSAY
          have HBW := hid hbw
          clear hown hbi hbw hlt2
          have hyi : (y.size : Int) ≤ 100000 := by omega
          by_cases hrl : r = br
          · have HE := hid (HEN.out (.inr hrl))
            have hrt : ¬ (r : Int) < br := by omega
            have hrtb : decide ((r : Int) < (br : Int)) = false := decide_eq_false hrt
            have HRL := hid hrl
            clear hrl
            go_wp2_with first | (go_at_call 27; refine HSAY.out.mono ?_; rintro e w3 ⟨rfl, hb3⟩; have HB3 := hid (HBW.out.trans (hb3.mono HBW.out.size)); obtain ⟨_, p13⟩ := HCELL.out w3 HB3.out) | (go_at_call 28; refine (HBA.out _).mono ?_; rintro e w4 ⟨rfl, rfl⟩)
            go_roundw
            case rel => exact ⟨k + 1, by have := HR.out; omega, congrArg (Value.int .i64) (by have := HR.out; omega), by rw [HE.out]; rfl, by rw [HE.out, if_neg (by have := HR.out; have := HRL.out; omega)]; simp only; rw [← HPJ.out], HB3.out⟩
            case measure => first | (simp [intOf]; done) | (simp [intOf]; omega)
          · have hrt : (r : Int) < br := by omega
            have HRL := hid hrl
            cases soft with
            | true =>
              have HG := hid (HGO.out rfl hrl)
              clear hrl
              go_wp2_with first | (go_at_call 27; refine HSAY.out.mono ?_; rintro e w3 ⟨rfl, hb3⟩; have HB3 := hid (HBW.out.trans (hb3.mono HBW.out.size)); obtain ⟨_, p13⟩ := HCELL.out w3 HB3.out) | (go_at_call 28; refine (HBA.out _).mono ?_; rintro e w4 ⟨rfl, rfl⟩)
              go_roundw
              case rel => exact ⟨k + 1, by have := HR.out; omega, congrArg (Value.int .i64) (by have := HR.out; omega), by rw [HG.out]; simp only; rw [HADD.out], by rw [HG.out, if_pos (by have := HR.out; have := HRL.out; omega)]; simp only; rw [HOUT.out], HB3.out⟩
              case measure => first | (simp [intOf]; done) | (simp [intOf]; omega)
            | false =>
              have HE := hid (HEN.out (.inl rfl))
              clear hrl
              have hsz1 : (out ++ yb).size = out.size + yb.size := size_append' _ _
              unfold nlB at HPS
              go_wp2_with first | (go_at_call 27; refine HSAY.out.mono ?_; rintro e w3 ⟨rfl, hb3⟩; have HB3 := hid (HBW.out.trans (hb3.mono HBW.out.size)); obtain ⟨_, p13⟩ := HCELL.out w3 HB3.out) | (go_at_call 28; refine (HBA.out _).mono ?_; rintro e w4 ⟨rfl, rfl⟩)
              go_roundw
              case rel => exact ⟨k + 1, by have := HR.out; omega, congrArg (Value.int .i64) (by have := HR.out; omega), by rw [HE.out]; rfl, by rw [HE.out, if_pos (by have := HR.out; have := HRL.out; omega)]; simp only; rw [HPS.out], HB3.out⟩
              case measure => first | (simp [intOf]; done) | (simp [intOf]; omega)
    · have hrb : r = br + 1 := by omega
      have hri : ¬ (r : Int) ≤ br := by omega
      have hrib : decide ((r : Int) ≤ (br : Int)) = false := decide_eq_false hri
      have HF : Hid (joinN ts = tkT ls (ar, ac) (br, bc)) := by unfold Hid tkT; rw [show br + 1 - ar = k by omega, hst]
      rw [if_neg hlt]
      clear hlt hr hst s1 s2 s3
      go_wp2
      go_ret
      exact ⟨ret_str HF.out, HBO.out⟩
set_option maxRecDepth 100000 in
theorem rtake_any (v : Value) (lv : List (Ln × Value)) (ar ac br bc : Nat) (W : World) (hf : Fl W v lv) (hk : keptB lv = true) (ha : (ar, ac) ∈ placesP (lv.map Prod.fst)) (hb : (br, bc) ∈ placesP (lv.map Prod.fst)) :
    Calls Tryd.prog 15 #[v, .int .i64 ar, .int .i64 ac, .int .i64 br, .int .i64 bc] W fun e w' => e = .returned (.string (if behP (ar, ac) (br, bc) then tkT (lv.map Prod.fst) (br, bc) (ar, ac) else tkT (lv.map Prod.fst) (ar, ac) (br, bc))) ∧ Below W.heap.size W w' := by
  by_cases hbe : behP (ar, ac) (br, bc)
  · rw [if_pos hbe]
    have HT := hid (rtake_le v lv br bc ar ac W hf hk hb ha (behP_asymm hbe))
    have HB0 := hid (fun (X : World) => behind_any ar ac br bc X)
    rw [show behI (ar : Int) (ac : Int) (br : Int) (bc : Int) = true from (behI_nat (ar, ac) (br, bc)).trans (decide_eq_true hbe)] at HB0
    obtain ⟨A, cap, rfl⟩ := hf.lr.spell
    generalize lv.length = n at *
    obtain ⟨y, hy⟩ : ∃ y, tkT (lv.map Prod.fst) (br, bc) (ar, ac) = y := ⟨_, rfl⟩
    rw [hy] at HT ⊢
    clear hf hk ha hb hbe hy
    go_enter Tryd.func15, Tryd.ntmps15
    go_wp2_with first | (with_reducible refine (HB0.out _).mono ?_; rintro e w1 ⟨rfl, rfl⟩) | (with_reducible refine HT.out.mono ?_; rintro e w2 ⟨rfl, hb2⟩)
    go_ret
    exact ⟨rfl, hb2⟩
  · rw [if_neg hbe]
    exact rtake_le v lv ar ac br bc W hf hk ha hb hbe
end Go.Proofs.YteebbmmgbjpihaaDoor
