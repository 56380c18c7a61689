/- Layer 8, the reference: is a cell blank, may lines be. Made by wip/gen/flowB.py. -/
/- Layer 8: rows that are joined. Made by wip/gen/flowJ.py. -/
/- Layer 8, the package: filled, colsRight, mayBe; cmp.Or of two texts. -/
/- Layer 8, the package: mayBe, colsRight; cmp.Or of two texts. -/
import Derived.Test.YtkejoknphnkhnaaDoorCellEq2Q
import Derived.Test.YtkejoknphnkhnaaDoorGridSmQ
import Derived.Deep.DeepCutAuto
import Derived.Test.YtkejoknphnkhnaaDoorCellGQ
import Derived.Test.YtkejoknphnkhnaaDoorBackPQ
namespace Go.Proofs.YtkejoknphnkhnaaDoor
open Go.RowKit

set_option maxHeartbeats 1000000 in
theorem rblank0_any (c : Ce) (W : World) : Calls Tryd.prog 58 #[c.agg] W fun e w' => e = .returned (.bool (blank0 c)) ∧ Below W.heap.size W w' := by
  obtain ⟨tx, wd, fg, bg, fl⟩ := c
  have hbx := Box.new W 66 #[.string tx, .int .i64 wd, .int .i64 fg, .int .i64 bg, .int .i64 fl]
  obtain ⟨⟨a0, a1, a2, a3, a4⟩, _⟩ := hbx.five
  have hb := below_alloc W (.cells #[.string tx, .int .i64 wd, .int .i64 fg, .int .i64 bg, .int .i64 fl] 66)
  have HB := hid hb
  clear hb hbx
  unfold Ce.agg Ce.cells
  simp only
  by_cases h0 : tx.size = 0
  · obtain rfl := empty_yes h0
    clear h0
    by_cases h1 : wd = 1
    · have qh1 : (wd == 1) = true := by simp [h1]
      by_cases h2 : fg = 0
      · have qh2 : (fg == 0) = true := by simp [h2]
        by_cases h3 : bg = 0
        · have qh3 : (bg == 0) = true := by simp [h3]
          by_cases h4 : fl = 0
          · have qh4 : (fl == 0) = true := by simp [h4]
            have HE : Hid (blank0 ⟨⟨#[]⟩, wd, fg, bg, fl⟩ = true) := decide_eq_true ⟨rfl, h1, h2, h3, h4⟩
            clear h1 h2 h3 h4
            go_enter Tryd.func58, Tryd.ntmps58
            go_wp2
            go_ret
            exact ⟨ret_bool HE.out.symm, HB.out⟩
          · have qh4 : (fl == 0) = false := by simp [h4]
            have HE : Hid (blank0 ⟨⟨#[]⟩, wd, fg, bg, fl⟩ = false) := decide_eq_false (fun e => h4 (by obtain ⟨_, e1, e2, e3, e4⟩ := e; exact e4))
            clear h1 h2 h3 h4
            go_enter Tryd.func58, Tryd.ntmps58
            go_wp2
            go_ret
            exact ⟨ret_bool HE.out.symm, HB.out⟩
        · have qh3 : (bg == 0) = false := by simp [h3]
          have HE : Hid (blank0 ⟨⟨#[]⟩, wd, fg, bg, fl⟩ = false) := decide_eq_false (fun e => h3 (by obtain ⟨_, e1, e2, e3, e4⟩ := e; exact e3))
          clear h1 h2 h3
          go_enter Tryd.func58, Tryd.ntmps58
          go_wp2
          go_ret
          exact ⟨ret_bool HE.out.symm, HB.out⟩
      · have qh2 : (fg == 0) = false := by simp [h2]
        have HE : Hid (blank0 ⟨⟨#[]⟩, wd, fg, bg, fl⟩ = false) := decide_eq_false (fun e => h2 (by obtain ⟨_, e1, e2, e3, e4⟩ := e; exact e2))
        clear h1 h2
        go_enter Tryd.func58, Tryd.ntmps58
        go_wp2
        go_ret
        exact ⟨ret_bool HE.out.symm, HB.out⟩
    · have qh1 : (wd == 1) = false := by simp [h1]
      have HE : Hid (blank0 ⟨⟨#[]⟩, wd, fg, bg, fl⟩ = false) := decide_eq_false (fun e => h1 (by obtain ⟨_, e1, e2, e3, e4⟩ := e; exact e1))
      clear h1
      go_enter Tryd.func58, Tryd.ntmps58
      go_wp2
      go_ret
      exact ⟨ret_bool HE.out.symm, HB.out⟩
  · have hne := empty_no h0
    have HE : Hid (blank0 ⟨tx, wd, fg, bg, fl⟩ = false) := decide_eq_false (fun e => h0 e.1)
    clear h0
    go_enter Tryd.func58, Tryd.ntmps58
    go_wp2
    go_ret
    exact ⟨ret_bool HE.out.symm, HB.out⟩

def mayLs (lv : List (Ln × Value)) : Bool := keptB lv && decide (lv.length ≤ 200)
set_option maxRecDepth 100000 in
set_option maxHeartbeats 2000000 in
theorem rMay_any (v : Value) (lv : List (Ln × Value)) (W : World) (hr : LR W v lv) (hc : CesOf W lv) (hs : Sm lv) :
    Calls Tryd.prog 25 #[v] W fun e w' => e = .returned (.bool (mayLs lv)) ∧ Below W.heap.size W w' := by
  obtain ⟨A, c0, rfl, _, hA⟩ := hr
  obtain ⟨n, hnl⟩ : ∃ n, lv.length = n := ⟨_, rfl⟩
  have HN := hid hnl
  have hn : n ≤ 1000 := by have := hs.1; omega
  rw [hnl]
  clear hnl
  go_enter Tryd.func25, Tryd.ntmps25
  go_wp2
  go_loopw [7] (fun i wr => ∃ k : Nat, k ≤ n ∧ i = .int .i64 k ∧ Below W.heap.size W wr ∧ keptB (lv.take k) = true) (fun i _ => n - (intOf i).toNat)
  case atStart => exact ⟨0, by omega, rfl, Below.refl _ _, rfl⟩
  case round =>
    obtain ⟨k, hk, rfl, hbl, hkept⟩ := hrel
    by_cases hlt : k < n
    · have hki : (k : Int) < n := by omega
      have hkl : k < lv.length := by rw [HN.out]; exact hlt
      have hx := List.getElem?_eq_getElem hkl
      obtain ⟨g, o, rfl, hg, hcell⟩ := hA (by intro e; rw [e] at hkl; simp at hkl)
      obtain ⟨p0, p1⟩ := hcell k _ hx
      have p0 := (hbl.cell (p := ⟨g, o + k * 2, none⟩) hg).trans p0
      have p1 := (hbl.cell (p := ⟨g, o + k * 2 + 1, none⟩) hg).trans p1
      have hce := hc lv[k] (List.getElem_mem _)
      have hsm := hs.2 lv[k] (List.getElem_mem _)
      have hst := fun h => keptB_step hkept hx h
      have hno := keptB_no (lv := lv) hx
      have HX := hid hx
      generalize lv[k] = x at *
      obtain ⟨⟨cs, soft⟩, cv⟩ := x
      simp only at p0 p1 hce hsm
      have hfit := fun (W' : World) (hb : Below W.heap.size W W') => rFits_any cs.length cv cs soft W' (hce.below hb) hsm.2 (by omega)
      have hlo := fun h => @keptE_lo cs soft cv h
      have hhi := fun h => @keptE_hi cs soft cv h
      have hmid := fun h1 h2 => @keptE_mid cs soft cv h1 h2
      obtain ⟨cA, cc, rfl⟩ := hce.spell
      obtain ⟨cl, hcl⟩ : ∃ cl, cs.length = cl := ⟨_, rfl⟩
      rw [hcl] at p0 hfit hlo hhi hmid hst hno
      have hlb := Box.new wr 61 #[.slice cA cl cc, .bool soft]
      obtain ⟨⟨l0, l1⟩, lf0, lf1⟩ := hlb.two
      have hb8 := hbl.alloc hbl.size (.cells #[.slice cA cl cc, .bool soft] 61)
      have HB8 := hid hb8
      have HFIT := hid hfit
      clear hfit hb8 hlb hkept hce hsm hcl hcell hA
      by_cases h1 : (cl : Int) < 1
      · have HE : Hid (mayLs lv = false) := by unfold Hid mayLs; rw [hno (hlo h1)]; rfl
        clear hst hno hlo hhi hmid
        go_wp2
        go_ret
        exact ⟨ret_bool HE.out.symm, HB8.out⟩
      · by_cases h2 : 80 < (cl : Int)
        · have HE : Hid (mayLs lv = false) := by unfold Hid mayLs; rw [hno (hhi h2)]; rfl
          clear hst hno hlo hhi hmid
          go_wp2
          go_ret
          exact ⟨ret_bool HE.out.symm, HB8.out⟩
        · have h3 := hmid (by omega) (by omega)
          rw [h3] at hst hno
          clear hlo hhi hmid h3
          cases hF : fitsB (cl : Int) cs
          · have HE : Hid (mayLs lv = false) := by unfold Hid mayLs; rw [hno hF]; rfl
            rw [hF] at HFIT
            clear hst hno hF
            go_wp2_with (with_reducible refine (HFIT.out _ HB8.out).mono ?_; rintro e6 w6 ⟨rfl, D6⟩)
            go_ret
            exact ⟨ret_bool HE.out.symm, HB8.out.trans (D6.mono HB8.out.size)⟩
          · rw [hF] at HFIT
            have HST := hid (hst hF)
            clear hst hno hF
            go_wp2_with (with_reducible refine (HFIT.out _ HB8.out).mono ?_; rintro e6 w6 ⟨rfl, D6⟩)
            go_roundw
            case rel => exact ⟨k + 1, by omega, by go_num, HB8.out.trans (D6.mono HB8.out.size), HST.out⟩
            case measure => simp [intOf]; omega
    · have hkm : k = n := by omega
      subst hkm
      rw [← HN.out] at hkept
      have h1 := keptB_stop hkept
      clear hkept
      by_cases h2 : (k : Int) ≤ 200
      · have HE : Hid (mayLs lv = true) := by unfold Hid mayLs; rw [h1, HN.out, decide_eq_true (by omega)]; rfl
        have hd : decide ((k : Int) ≤ 200) = true := decide_eq_true h2
        clear h1 hlt
        go_wp2
        go_ret
        exact ⟨ret_bool HE.out.symm, hbl⟩
      · have HE : Hid (mayLs lv = false) := by unfold Hid mayLs; rw [h1, HN.out, decide_eq_false (by omega)]; rfl
        have hd : decide ((k : Int) ≤ 200) = false := decide_eq_false h2
        clear h1 hlt
        go_wp2
        go_ret
        exact ⟨ret_bool HE.out.symm, hbl⟩
end Go.Proofs.YtkejoknphnkhnaaDoor

namespace Go.Proofs.YtkejoknphnkhnaaDoor
open Go.RowKit

theorem joinS_len {ls : List Ln} (h : ∀ l ∈ ls, l.cs.length ≤ 100) : ∀ k, k ≤ ls.length → (joinS ls k).2.length ≤ k * 100 ∧ (joinS ls k).1.length ≤ k
  | 0, _ => ⟨Nat.le_refl _, Nat.le_refl _⟩
  | k + 1, hk => by
    obtain ⟨h1, h2⟩ := joinS_len h k (by omega)
    have hx : ls[k]? = some ls[k] := List.getElem?_eq_getElem (by omega)
    have hl := h _ (List.mem_of_getElem? hx)
    by_cases hs : ls[k].soft = true ∧ k + 1 ≠ ls.length
    · rw [joinS_go hx hs.1 hs.2]
      simp only [List.length_append]
      omega
    · rw [joinS_end hx (by
        cases h0 : ls[k].soft
        · exact .inl rfl
        · exact .inr (Classical.byContradiction fun e => hs ⟨h0, e⟩))]
      simp only [List.length_append, List.length_singleton, List.length_nil]
      omega
def JRel (W wr : World) (ls : List Ln) (k : Nat) (rv nv : Value) : Prop :=
  ∃ w0 rows now, RvC w0 W.heap.size rows ∧ OwnR w0 W.heap.size rv rows ∧ rows.map Prod.fst = (joinS ls k).1 ∧ OwnC wr w0.heap.size nv now ∧ now = (joinS ls k).2 ∧ Below W.heap.size W w0 ∧ Below w0.heap.size w0 wr
/-- A row more. -/
theorem join_more {W w0 wA w7 : World} {rows : List (List Ce × Value)} {rv v' : Value} {y : List Ce × Value} {lc : Array Value} (h1 : RvC w0 W.heap.size rows) (h2 : OwnR w0 W.heap.size rv rows) (hW : Below W.heap.size W w0) (hA : Below w0.heap.size w0 wA) (hy : CSl wA w0.heap.size y.2 y.1)
    (_h7 : OwnR w7 W.heap.size v' (rows ++ [y])) (hg : (wA.alloc (.cells lc 52)).grownBy w7 rv.ownBlock) : RvC w7 W.heap.size (rows ++ [y]) ∧ Below W.heap.size W w7 := by
  have hB := hA.trans ((below_alloc wA (.cells lc 52)).mono hA.size)
  have o2 := h2.kept hB
  refine ⟨((h1.below hB (Nat.le_refl _)).grownR o2 hg).snoc (((hy.below (below_alloc wA _) (Nat.le_refl _)).mono hW.size).grownR o2 hg), ?_⟩
  exact (hW.trans (hB.mono hW.size)).grown hg (Nat.le_trans hW.size hB.size) (fun q hq => (World.ownsRow.lt o2 q hq).1)
theorem OwnC.lit0 {W : World} {base : Nat} (hb : base ≤ W.heap.size) : OwnC (W.alloc (.cells #[] 66)) base (.slice (some ⟨W.heap.size, 0, none⟩) 0 0) [] := by
  have h := OwnC.lit (W := W) (base := base) [] (by simp) hb
  simpa [cflat] using h
/-- Cells more in the row under way. -/
theorem now_more {w0 wr w2 : World} {nv : Value} {now : List Ce} {lc : Array Value} (ho : OwnC wr w0.heap.size nv now) (hr : Below w0.heap.size w0 wr) (hg : (wr.alloc (.cells lc 61)).grownBy w2 nv.ownBlock) : Below w0.heap.size w0 w2 ∧ Box w2 wr.heap.size 61 lc := by
  have hb := below_alloc wr (.cells lc 61)
  have o8 := ho.kept hb
  exact ⟨(hr.trans (hb.mono hr.size)).grown hg (Nat.le_trans hr.size hb.size) (fun q hq => (World.ownsRow.lt o8 q hq).1), (Box.new wr _ _).grown hg (o8.not_box (Box.new wr _ _) (by decide))⟩
end Go.Proofs.YtkejoknphnkhnaaDoor

namespace Go.Proofs.YtkejoknphnkhnaaDoor
open Go.RowKit

/-- A row of the call's own, filled: where nothing else lay, all stays. -/
def FilPost (W : World) (base : Nat) (v : Value) (tgt : List Ce) (e : Ending) (w' : World) : Prop :=
  ∃ v', e = .returned v' ∧ OwnC w' base v' tgt ∧ W.grownBy w' v.ownBlock
def FilRel (W wr : World) (base : Nat) (v0 v : Value) (l : List Ce) (k : Nat) : Prop :=
  OwnC wr base v (l ++ List.replicate k b0C) ∧ W.grownBy wr v0.ownBlock ∧ (v.ownBlock = v0.ownBlock ∨ ∀ q, v.ownBlock = some q → W.heap.size ≤ q)
theorem grown_two {W w1 w2 : World} {r0 r1 : Option Nat} (h : W.grownBy w1 r0) (h2 : w1.grownBy w2 r1) (hr : r1 = r0 ∨ ∀ q, r1 = some q → W.heap.size ≤ q) : W.grownBy w2 r0 := by
  refine ⟨h2.os.trans h.os, h2.tape.trans h.tape, h2.output.trans h.output, Nat.le_trans h.size h2.size, fun k hk hne => (h2.block k (Nat.lt_of_lt_of_le hk h.size) ?_).trans (h.block k hk hne)⟩
  rcases hr with rfl | hr
  · exact hne
  · intro e
    have := hr k e.symm
    omega
theorem grown_below {W w1 w2 : World} {r0 : Option Nat} (h : W.grownBy w1 r0) (hb : Below w1.heap.size w1 w2) : W.grownBy w2 r0 :=
  grown_two (r1 := none) h ⟨hb.os, hb.tape, hb.output, hb.size, fun k hk _ => hb.block k hk⟩ (.inr fun q hq => by cases hq)
theorem fil_step {W wr wz w7 : World} {base : Nat} {v0 v v' : Value} {l : List Ce} {k : Nat} {lc : Array Value} (h : FilRel W wr base v0 v l k) (hb : Below wr.heap.size wr wz)
    (h7 : OwnC w7 base v' (l ++ List.replicate k b0C ++ [b0C])) (hg : (wz.alloc (.cells lc 66)).grownBy w7 v.ownBlock) (hv : v'.ownBlock = v.ownBlock ∨ v'.ownBlock = some (wz.alloc (.cells lc 66)).heap.size) : FilRel W w7 base v0 v' l (k + 1) := by
  obtain ⟨h1, h2, h3⟩ := h
  have hb2 := hb.trans ((below_alloc wz (.cells lc 66)).mono hb.size)
  have h4 := grown_below h2 hb2
  refine ⟨by rw [List.replicate_succ', ← List.append_assoc]; exact h7, grown_two h4 hg h3, ?_⟩
  rcases hv with hv | hv
  · rw [hv]; exact h3
  · exact .inr fun q hq => by rw [hv] at hq; cases hq; exact Nat.le_trans h2.size hb2.size
theorem run_append_ce_at (w : World) (base : Nat) (v x : Value) (l m : List Ce) (hown : OwnC w base v l) (hx : CeRow w x m) (hne : m ≠ []) (ty : TypeId) (hb : l.length + m.length ≤ 1000000) (hbase : base ≤ w.heap.size) :
    ∃ v' w', (Builtin.append_ #[52, 52] ty #[v, x]).run Tryd.prog w = .ok v' w' ∧ OwnC w' base v' (l ++ m) ∧ w.grownBy w' v.ownBlock ∧ (v'.ownBlock = v.ownBlock ∨ v'.ownBlock = some w.heap.size) := by
  obtain ⟨i0, hi, hz0, hz1, hz2⟩ := info_parts ce_info
  obtain ⟨A, c, rfl, _, hl⟩ := hx
  obtain ⟨g, o, rfl, _, hc⟩ := hl hne
  have hcells : ∀ j u, (cflat m)[j]? = some u → w.cell? ((⟨g, o, none⟩ : Addr).add j) = some u := by
    intro j u hu
    obtain ⟨e, h1, h2⟩ := cflat_inv m j u hu
    rw [addr_add]
    have := hc (j / 5) e h1 (j % 5) u h2
    rwa [show o + j / 5 * 5 + j % 5 = o + j by omega] at this
  obtain ⟨v', w', hrun, h2, h3, _, h5⟩ := run_append_own_at (P := Tryd.prog) (w := w) base 52 ty 66 i0 _ 5 48 Tryd.underlying52 hi hz0 hz1 hz2 rfl (by decide) v l.length (cflat l) hown ⟨g, o, none⟩ m.length c (cflat m) (cflat_length m) hcells cflat_one (by unfold maxLen; omega) (by omega) hbase
  refine ⟨v', w', hrun, ?_, h3, h5⟩
  unfold OwnC
  rw [List.length_append, cflat_append]
  exact h2
theorem wpList_append_ce_at {ops : Array Oper} {rest : List Oper} {o : Oper} {a : Act} {w : World} {Q : Exit → Act → World → Prop} (hw : Region.wanted o (yielded ops a.tmps) = true) (s x : Operand)
    (ho : o.op = .call { callee := .builtin .append, args := #[s, x], argTypes := #[52, 52] }) (base : Nat) (v xv : Value) (l m : List Ce)
    (hs : a.eval s = v) (hown : OwnC w base v l) (hxe : a.eval x = xv) (hx : CeRow w xv m) (hne : m ≠ []) (hb : l.length + m.length ≤ 1000000) (hbase : base ≤ w.heap.size)
    (h : ∀ v' w', OwnC w' base v' (l ++ m) → w.grownBy w' v.ownBlock → (v'.ownBlock = v.ownBlock ∨ v'.ownBlock = some w.heap.size) → wpList Tryd.prog ops Q rest (a.put o.dst v') w') : wpList Tryd.prog ops Q (o :: rest) a w := by
  obtain ⟨v', w', hrun, h2, h3, h4⟩ := run_append_ce_at w base v xv l m hown hx hne o.type hb hbase
  simp only [wpList, hw, if_true]
  left
  unfold Oper.wp
  simp [execOp, ho, resolve, invoke, builtin, hs, hxe, hrun, Result.andThen]
  exact h v' w' h2 h3 h4

set_option maxRecDepth 100000 in
set_option maxHeartbeats 4000000 in
theorem filled_any (base : Nat) (v : Value) (l : List Ce) (cols : Nat) (W : World) (h : OwnC W base v l) (hl : l.length ≤ cols) (hc : cols ≤ 100) (hB : base ≤ W.heap.size) :
    Calls Tryd.prog 86 #[v, .int .i64 (cols : Int)] W (FilPost W base v (fillP cols l)) := by
  have hst : FilRel W W base v v l 0 := ⟨by rw [List.replicate_zero, List.append_nil]; exact h, World.grownBy.refl _ _, .inl rfl⟩
  obtain ⟨A0, c0, hv⟩ := h.spell
  obtain ⟨v0, hv0⟩ : ∃ v0, v = v0 := ⟨_, rfl⟩
  rw [hv0] at hst
  have hpost : FilPost W base v (fillP cols l) = FilPost W base v0 (fillP cols l) := by rw [hv0]
  rw [hpost]
  subst hv
  have hst2 : FilRel W W base v0 (.slice A0 l.length c0) l 0 := by rw [← hv0] at hst ⊢; exact hst
  obtain ⟨n, hn⟩ : ∃ n, l.length = n := ⟨_, rfl⟩
  have HST := hid hst2
  have hblk := fun w => blank_any ⟨0, 0, 0⟩ w
  unfold At.agg Ce.agg Ce.cells at hblk
  simp only at hblk
  have HBLK := hid hblk
  have HN := hid hn
  unfold FilPost fillP
  rw [hn] at hl ⊢
  clear hst hst2 hpost hv0 h hblk hn
  go_enter Tryd.func86, Tryd.ntmps86
  go_wp2
  go_loopw [0] (fun ov wr => ∃ k : Nat, n + k ≤ cols ∧ FilRel W wr base v0 ov l k) (fun ov _ => cols - (match ov with | .slice _ m _ => m | _ => 0))
  case atStart => exact ⟨0, by omega, by rw [← HN.out]; exact HST.out⟩
  case round =>
    obtain ⟨k, hk, hrel⟩ := hrel
    obtain ⟨A, c, rfl⟩ := hrel.1.spell
    have hlen : (l ++ List.replicate k b0C).length = n + k := by rw [List.length_append, List.length_replicate, HN.out]
    rw [hlen] at hrel ⊢
    have HR := hid hrel
    have HL := hid hlen
    have hBw : base ≤ wr.heap.size := Nat.le_trans hB hrel.2.1.size
    clear hrel hlen
    by_cases hlt : n + k < cols
    · have hki : (n : Int) + (k : Int) < (cols : Int) := by omega
      go_wp2_with fail
      with_reducible refine (HBLK.out _).mono ?_
      rintro e w2 ⟨rfl, hb⟩
      dsimp only
      have hown2 : OwnC (w2.alloc (.cells #[.string ⟨#[]⟩, .int .i64 1, .int .i64 0, .int .i64 0, .int .i64 0] 66)) base (.slice A (n + k) c) (l ++ List.replicate k b0C) := (HR.out.1.kept hb).kept (below_alloc w2 _)
      have hlit : CeRow (w2.alloc (.cells #[.string ⟨#[]⟩, .int .i64 1, .int .i64 0, .int .i64 0, .int .i64 0] 66)) (.slice (some ⟨w2.heap.size, 0, none⟩) 1 1) [b0C] := ce_lit w2 b0C
      have HO2 := hid hown2
      have HLIT := hid hlit
      have hBw2 : base ≤ w2.heap.size := Nat.le_trans hBw hb.size
      have HB := hid hb
      clear hown2 hlit hb
      go_wp2_with (at_builtin; refine wpList_append_ce_at rfl _ _ rfl base _ _ _ [b0C] rfl HO2.out rfl HLIT.out (by simp) (by rw [HL.out]; simp; omega) (by simp; omega) ?_; intro v7 w7 g1 g2 g3; obtain ⟨A7, c7, hv7⟩ := g1.spell; rw [List.length_append, HL.out, List.length_singleton] at hv7; subst hv7; have G1 := hid g1; have G2 := hid g2; have G3 := hid g3; clear g1 g2 g3)
      go_roundw
      case rel => exact ⟨k + 1, by omega, fil_step HR.out HB.out G1.out G2.out G3.out⟩
      case measure => show cols - (n + k + 1) < cols - (n + k); omega
    · have hkn : n + k = cols := by omega
      have hkc : k = cols - n := by omega
      have HF : Hid (∃ v', Ending.returned (.slice A (n + k) c) = .returned v' ∧ OwnC wr base v' (l ++ List.replicate (cols - n) b0C) ∧ W.grownBy wr v0.ownBlock) := ⟨_, rfl, by rw [← hkc]; exact HR.out.1, HR.out.2.1⟩
      have hlt' : ¬ (n : Int) + (k : Int) < (cols : Int) := by omega
      clear hkn hkc hlt HR
      go_wp2
      go_ret
      exact HF.out
end Go.Proofs.YtkejoknphnkhnaaDoor

namespace Go.Proofs.YtkejoknphnkhnaaDoor
open Go.RowKit

set_option maxRecDepth 100000 in
set_option maxHeartbeats 1000000 in
theorem mayBe_any (v : Value) (lv : List (Ln × Value)) (W : World) (hr : LR W v lv) (hc : CesOf W lv) (hs : Sm lv) (hT : Tab W) (hW : TabW W) :
    Calls Tryd.prog 55 #[v] W fun e w' => e = .returned (.bool (mayLs lv)) ∧ Below W.heap.size W w' := by
  have hp := push_any 0 (.slice none 0 0) v [] lv W (LR.nil _ _ _) (fun e h => by simp at h) ⟨by simp, fun e h => by simp at h⟩ hr hc hs hT hW
  have hb0 : backB 0 [] = true := rfl
  rw [hb0, Bool.true_and] at hp
  unfold BOut at hp
  obtain ⟨A, c, rfl⟩ := hr.spell
  obtain ⟨n, hn⟩ : ∃ n, lv.length = n := ⟨_, rfl⟩
  have hn1 : n ≤ 1000 := by have := hs.1; omega
  rw [hn] at hp ⊢
  have HP := hid hp
  have HN := hid hn
  clear hp hn hr hc hs hT hW hb0
  by_cases h2 : (n : Int) ≤ 200
  · have HE : Hid (mayLs lv = keptB lv) := by unfold Hid mayLs; rw [HN.out, decide_eq_true (by omega), Bool.and_true]
    go_enter Tryd.func55, Tryd.ntmps55
    go_wp2_with fail
    with_reducible refine HP.out.mono ?_
    rintro e w2 ⟨xc, xA, xk, xp, xn, rfl, hb, hx⟩
    dsimp only
    have HB := hid (hb.alloc hb.size (.cells #[.int .i64 xc, .slice xA xk xp] 96))
    rcases hx with ⟨h1, rfl, rfl, _⟩ | ⟨h1, rfl, _, rfl⟩
    · have HV : Hid (mayLs lv = true) := by unfold Hid; rw [HE.out, h1]
      clear hb h1
      go_wp2
      go_ret
      exact ⟨ret_bool HV.out.symm, HB.out⟩
    · have HV : Hid (mayLs lv = false) := by unfold Hid; rw [HE.out, h1]
      clear hb h1
      go_wp2
      go_ret
      exact ⟨ret_bool HV.out.symm, HB.out⟩
  · have HE : Hid (mayLs lv = false) := by unfold Hid mayLs; rw [HN.out, decide_eq_false (by omega), Bool.and_false]
    have h3 : (200 : Int) < (n : Int) := by omega
    clear h2
    go_enter Tryd.func55, Tryd.ntmps55
    go_wp2
    go_ret
    exact ⟨ret_bool HE.out.symm, Below.refl _ _⟩
def colsB (cols : Int) : Bool := decide (1 ≤ cols ∧ cols ≤ 80)
set_option maxHeartbeats 1000000 in
theorem colsRight_any (cols : Int) (W : World) : Calls Tryd.prog 59 #[.int .i64 cols] W fun e w' => e = .returned (.bool (colsB cols)) ∧ w' = W := by
  by_cases h1 : 1 ≤ cols
  · have hd : decide (1 ≤ cols) = true := decide_eq_true h1
    by_cases h2 : cols ≤ 80
    · have hd2 : decide (cols ≤ 80) = true := decide_eq_true h2
      have HE : Hid (colsB cols = true) := decide_eq_true ⟨h1, h2⟩
      clear h1 h2
      go_enter Tryd.func59, Tryd.ntmps59
      go_wp2
      go_ret
      exact ⟨ret_bool HE.out.symm, rfl⟩
    · have hd2 : decide (cols ≤ 80) = false := decide_eq_false h2
      have HE : Hid (colsB cols = false) := decide_eq_false (fun e => h2 e.2)
      clear h1 h2
      go_enter Tryd.func59, Tryd.ntmps59
      go_wp2
      go_ret
      exact ⟨ret_bool HE.out.symm, rfl⟩
  · have hd : decide (1 ≤ cols) = false := decide_eq_false h1
    have HE : Hid (colsB cols = false) := decide_eq_false (fun e => h1 e.1)
    clear h1
    go_enter Tryd.func59, Tryd.ntmps59
    go_wp2
    go_ret
    exact ⟨ret_bool HE.out.symm, rfl⟩
def orB (x : ByteArray) : ByteArray := if x.size = 0 then ⟨#[32]⟩ else x
set_option maxRecDepth 100000 in
set_option maxHeartbeats 1000000 in
theorem cmpOr_any (x : ByteArray) (g : Nat) (W : World) (p0 : W.cell? ⟨g, 0, none⟩ = some (.string x)) (p1 : W.cell? ⟨g, 1, none⟩ = some (.string ⟨#[32]⟩)) :
    Calls Tryd.prog 83 #[.slice (some ⟨g, 0, none⟩) 2 2] W fun e w' => e = .returned (.string (orB x)) ∧ w' = W := by
  go_enter Tryd.func83, Tryd.ntmps83
  go_wp2
  go_loopw [8] (fun v wx => (v = .int .i64 0 ∨ (v = .int .i64 1 ∧ x.size = 0)) ∧ W = wx) (fun v _ => 2 - (intOf v).toNat)
  case atStart => exact ⟨.inl rfl, rfl⟩
  case round =>
    obtain ⟨rfl | ⟨rfl, h0⟩, rfl⟩ := hrel
    · by_cases h0 : x.size = 0
      · have hx := empty_yes h0
        subst hx
        clear h0
        go_wp2
        go_roundw
        case rel => exact ⟨.inr ⟨rfl, by rfl⟩, by simp⟩
        case measure => simp [intOf]
      · have hne := empty_no h0
        have HE : Hid (orB x = x) := by unfold Hid orB; rw [if_neg h0]
        clear h0
        go_wp2
        go_ret
        exact ⟨ret_str HE.out.symm, rfl⟩
    · have HE : Hid (orB x = ⟨#[32]⟩) := by unfold Hid orB; rw [if_pos h0]
      clear h0
      go_wp2
      go_ret
      exact ⟨ret_str HE.out.symm, rfl⟩
end Go.Proofs.YtkejoknphnkhnaaDoor
