/- Layer 6, the package: lines of blank cells; a new grid. -/
/- Layer 6: a new grid; what is put is there. -/
/- Layer 6, the statements' helpers: a line cut short. Made by wip/gen/gridLine.py. -/
import Derived.Test.YtkejoknphnkhnaaDoorGridEraseQ
import Derived.Laws.MakeOwn
namespace Go.Proofs.YtkejoknphnkhnaaDoor
open Go.RowKit

theorem made_at {z : Array Value} {n q : Nat} (h : q < n) {u : Value} (hu : z[q % z.size]? = some u) : (madeCells z n)[q]? = some u := by
  unfold madeCells
  obtain ⟨h1, h2⟩ := Array.getElem?_eq_some_iff.1 hu
  simp only [Array.getElem?_map, Array.getElem?_range, h, if_true, Option.map_some]
  rw [getElem!_pos z _ h1, h2]
def zLn : Ln × Value := (⟨[], false⟩, .slice none 0 0)
def lnM (n : Nat) : Array Value := madeCells #[.slice none 0 0, .bool false] (n * 2)
def ceM (n : Nat) : Array Value := madeCells Ce.zero.cells (n * 5)
theorem mk_lines (n : Nat) (hn : n ≤ 1000) (W : World) : (Instr.makeSlice 22 (.int .i64 (n : Int)) (.int .i64 (n : Int))).run Tryd.prog W = .ok (.slice (some ⟨W.heap.size, 0, none⟩) n n) (W.alloc (.cells (lnM n) 61)) := by
  obtain ⟨i0, hi, hz0, hz1, hz2⟩ := info_parts ln_info
  have h := run_make (P := Tryd.prog) W 22 61 i0 _ Tryd.underlying22 hi hz0 .i64 .i64 (n : Int) (n : Int) (by omega) (by omega) (by rw [hz2]; omega) (by omega)
  rw [hz1] at h
  simp only [Int.toNat_natCast] at h
  exact h
theorem mk_cells (n : Nat) (hn : n ≤ 1000) (W : World) : (Instr.makeSlice 52 (.int .i64 (n : Int)) (.int .i64 (n : Int))).run Tryd.prog W = .ok (.slice (some ⟨W.heap.size, 0, none⟩) n n) (W.alloc (.cells (ceM n) 66)) := by
  obtain ⟨i0, hi, hz0, hz1, hz2⟩ := info_parts ce_info
  have h := run_make (P := Tryd.prog) W 52 66 i0 _ Tryd.underlying52 hi hz0 .i64 .i64 (n : Int) (n : Int) (by omega) (by omega) (by rw [hz2]; omega) (by omega)
  rw [hz1] at h
  simp only [Int.toNat_natCast] at h
  exact h
theorem lnM_box (n : Nat) (W : World) : LBox (W.alloc (.cells (lnM n) 61)) W.heap.size (List.replicate n zLn) n := by
  refine ⟨_, Box.new W _ _, by unfold lnM; rw [size_madeCells], by simp, fun j e hj => ?_⟩
  rw [List.getElem?_replicate] at hj
  split at hj
  · cases hj
    refine ⟨made_at (by omega) ?_, made_at (by omega) ?_⟩
    · show (#[Value.slice none 0 0, .bool false] : Array Value)[j * 2 % 2]? = _
      rw [show j * 2 % 2 = 0 by omega]; rfl
    · show (#[Value.slice none 0 0, .bool false] : Array Value)[(j * 2 + 1) % 2]? = _
      rw [show (j * 2 + 1) % 2 = 1 by omega]; rfl
  · cases hj
theorem ceM_box (n : Nat) (W : World) : CBox (W.alloc (.cells (ceM n) 66)) W.heap.size (List.replicate n Ce.zero) n := by
  refine ⟨_, Box.new W _ _, by unfold ceM; rw [size_madeCells], by simp, fun j e hj i u hu => ?_⟩
  rw [List.getElem?_replicate] at hj
  split at hj
  · cases hj
    have hi : i < 5 := by have := (Array.getElem?_eq_some_iff.1 hu).1; simpa [Ce.cells, Ce.zero] using this
    refine made_at (by omega) ?_
    show Ce.zero.cells[(j * 5 + i) % 5]? = _
    rw [show (j * 5 + i) % 5 = i by omega]
    exact hu
  · cases hj
theorem LBox.set1 {W : World} {g cap : Nat} {l : List (Ln × Value)} (h : LBox W g l cap) {k : Nat} {e : Ln × Value} (hk : l[k]? = some e) (v : Value) (cs : List Ce) :
    LBox (W.setCell ⟨g, k * 2, none⟩ v) g (l.set k (⟨cs, e.1.soft⟩, v)) cap := by
  obtain ⟨cur, hb, hs, hl, hc⟩ := h
  have hkl := (List.getElem?_eq_some_iff.1 hk).1
  refine ⟨_, hb.set (i := k * 2) _, by simp [hs], by rw [List.length_set]; exact hl, ?_⟩
  intro j e' hj
  simp only [Array.getElem?_setIfInBounds]
  by_cases hjk : j = k
  · subst hjk
    rw [List.getElem?_set_self hkl] at hj
    cases hj
    refine ⟨?_, ?_⟩
    · rw [if_pos rfl, if_pos (by omega)]
    · rw [if_neg (by omega)]
      exact (hc j e hk).2
  · rw [List.getElem?_set_ne (Ne.symm hjk)] at hj
    have := hc j e' hj
    refine ⟨?_, ?_⟩
    · rw [if_neg (by omega)]; exact this.1
    · rw [if_neg (by omega)]; exact this.2
theorem LBox.drew {W : World} {g cap : Nat} {l : List (Ln × Value)} (h : LBox W g l cap) : LBox W.drew g l cap := h
theorem erase_all (n : Nat) (a : At) : eraseL (List.replicate n Ce.zero) 0 n a = List.replicate n (blkC a) := by
  unfold eraseL
  simp
/-- A line of blank cells. -/
def bareN (cols : Nat) (a : At) : Ln := ⟨List.replicate cols (blkC a), false⟩

def BlRel (base gL rows cols k : Nat) (a : At) (wr : World) : Prop :=
  ∃ done : List (Ln × Value), done.map Prod.fst = List.replicate k (bareN cols a) ∧ LBox wr gL (done ++ List.replicate (rows - k) zLn) rows ∧ ∀ x ∈ done, CSl wr base x.2 x.1.cs
theorem bl_step {base gL rows cols k : Nat} {a : At} {W W' W'' : World} (h : BlRel base gL rows cols k a W) (hk : k < rows) (hb : base ≤ W.heap.size) (hg : gL < W.heap.size)
    (h1 : W' = (W.alloc (.cells (ceM cols) 66)).setCell ⟨gL, k * 2, none⟩ (.slice (some ⟨W.heap.size, 0, none⟩) cols cols)) (h2 : CBox W'' W.heap.size (List.replicate cols (blkC a)) cols) (h3 : Only W.heap.size W'.drew W'') : BlRel base gL rows cols (k + 1) a W'' := by
  obtain ⟨done, hd, hl, hc⟩ := h
  have hdl : done.length = k := by have := congrArg List.length hd; simpa using this
  have hz : (done ++ List.replicate (rows - k) zLn)[k]? = some zLn := by
    rw [List.getElem?_append_right (by omega), List.getElem?_replicate, if_pos (by omega)]
  have hl1 := hl.below (below_alloc W (.cells (ceM cols) 66)) hg
  have hl2 := hl1.set1 hz (.slice (some ⟨W.heap.size, 0, none⟩) cols cols) (List.replicate cols (blkC a))
  have e : (done ++ List.replicate (rows - k) zLn).set k (⟨List.replicate cols (blkC a), zLn.1.soft⟩, .slice (some ⟨W.heap.size, 0, none⟩) cols cols) = (done ++ [(bareN cols a, .slice (some ⟨W.heap.size, 0, none⟩) cols cols)]) ++ List.replicate (rows - (k + 1)) zLn := by
    rw [← hdl, List.set_append_right (h := Nat.le_refl _), show rows - done.length = rows - (done.length + 1) + 1 by omega, List.replicate_succ]
    simp [bareN, zLn]
  rw [e, ← h1] at hl2
  refine ⟨done ++ [(bareN cols a, .slice (some ⟨W.heap.size, 0, none⟩) cols cols)], ?_, hl2.drew.only h3 (by omega), ?_⟩
  · rw [List.map_append, hd, List.replicate_succ']
    rfl
  · intro x hx
    rw [List.mem_append, List.mem_singleton] at hx
    rcases hx with hx | rfl
    · rcases hc x hx with h | ⟨g, cap, h4, h5, h6⟩
      · exact .inl h
      · refine .inr ⟨g, cap, h4, h5, ?_⟩
        have h7 := h6.below (below_alloc W (.cells (ceM cols) 66)) h6.lt
        obtain ⟨cur, hcb, hrest⟩ := h7
        obtain ⟨curL, hlb, _⟩ := hl1
        have hne : g ≠ gL := by
          rintro rfl
          have q1 : _ = _ := hcb
          have q2 : _ = _ := hlb
          rw [q1] at q2
          cases q2
        have h8 : CBox W' g x.1.cs cap := by rw [h1]; exact ⟨cur, hcb.other hne _, hrest⟩
        exact h8.drew.only h3 (by have := h6.lt; omega)
    · exact .inr ⟨W.heap.size, cols, by simp [bareN], hb, by simpa [bareN] using h2⟩

def BlPost (W : World) (rows cols : Nat) (a : At) (e : Ending) (w' : World) : Prop :=
  ∃ v lv, e = .returned v ∧ lv.map Prod.fst = List.replicate rows (bareN cols a) ∧ LSl w' W.heap.size v lv ∧ (∀ x ∈ lv, CSl w' W.heap.size x.2 x.1.cs) ∧ Below W.heap.size W w'
set_option maxRecDepth 100000 in
set_option maxHeartbeats 1000000 in
theorem blankLines_any (rows cols : Nat) (a : At) (W : World) (hr : rows ≤ 1000) (hc : cols ≤ 1000) :
    Calls Tryd.prog 40 #[.int .i64 rows, .int .i64 cols, a.agg] W (BlPost W rows cols a) := by
  have hmL := mk_lines rows hr
  have hmC := mk_cells cols hc
  have hbx := (Box.new W 26 a.cells).alloc (.cells (lnM rows) 61)
  have hlb := lnM_box rows (W.alloc (.cells a.cells 26))
  rw [World.size_alloc] at hlb
  have hbel : Below W.heap.size W ((W.alloc (.cells a.cells 26)).alloc (.cells (lnM rows) 61)) := (below_alloc _ _).alloc (by simp) _
  have her := fun (w : World) (g : Nat) (h : CBox w g (List.replicate cols Ce.zero) cols) => erase_some g 0 cols cols cols _ a w h (by simp) (by simp; omega)
  have hsz : ((W.alloc (.cells a.cells 26)).alloc (.cells (lnM rows) 61)).heap.size = W.heap.size + 1 + 1 := by simp
  obtain ⟨fg, bg, fl⟩ := a
  unfold At.agg at her ⊢
  unfold At.cells at hbx hlb hbel hsz
  simp only [erase_all, Nat.zero_mul] at her
  simp only at hbx hlb hbel hsz ⊢
  have HBX := hid hbx
  have HLB := hid hlb
  have HBL := hid hbel
  have HER := hid her
  have HSZ := hid hsz
  clear hbx hlb hbel her hsz
  go_enter Tryd.func40, Tryd.ntmps40
  go_wp2
  go_loopw [13] (fun i wr => ∃ k : Nat, k ≤ rows ∧ i = .int .i64 k ∧ Box wr W.heap.size 26 #[.int .i64 fg, .int .i64 bg, .int .i64 fl] ∧ BlRel W.heap.size (W.heap.size + 1) rows cols k ⟨fg, bg, fl⟩ wr ∧ W.heap.size + 1 + 1 ≤ wr.heap.size ∧ Below W.heap.size W wr) (fun i _ => rows - (intOf i).toNat)
  case atStart => exact ⟨0, by omega, rfl, HBX.out, ⟨[], rfl, by simpa using HLB.out, by simp⟩, by rw [HSZ.out]; exact Nat.le_refl _, HBL.out⟩
  case round =>
    obtain ⟨k, hk, rfl, hbA, hrl, hzr, hbr⟩ := hrel
    by_cases hlt : k < rows
    · have hki : (k : Int) < rows := by omega
      obtain ⟨⟨a0, a1, a2⟩, af0, af1, af2⟩ := hbA.three
      have hrl' := hrl
      obtain ⟨done, hd, hl, hcs⟩ := hrl'
      have hdl : done.length = k := by have := congrArg List.length hd; simpa using this
      obtain ⟨⟨q0, q1⟩, r0, r1⟩ := hl.two (j := k) (e := zLn) (by rw [List.getElem?_append_right (by omega), List.getElem?_replicate, if_pos (by omega)])
      unfold zLn at q0 q1
      simp only at q0 q1
      have hcb : CBox ((wr.alloc (.cells (ceM cols) 66)).setCell ⟨W.heap.size + 1, k * 2, none⟩ (.slice (some ⟨wr.heap.size, 0, none⟩) cols cols)).drew wr.heap.size (List.replicate cols Ce.zero) cols :=
        ((ceM_box cols wr).only (Only.set (Only.refl (W.heap.size + 1) _) (i := k * 2) (.slice (some ⟨wr.heap.size, 0, none⟩) cols cols)) (by omega)).drew
      have hz : (done ++ List.replicate (rows - k) zLn)[k]? = some zLn := by rw [List.getElem?_append_right (by omega), List.getElem?_replicate, if_pos (by omega)]
      have hl1 := hl.below (below_alloc wr (.cells (ceM cols) 66)) (by omega)
      have hl2 := hl1.set1 hz (.slice (some ⟨wr.heap.size, 0, none⟩) cols cols) (List.replicate cols (blkC ⟨fg, bg, fl⟩))
      have hA1 := ((hbA.alloc (.cells (ceM cols) 66)).other (b' := W.heap.size + 1) (i := k * 2) (by omega) (.slice (some ⟨wr.heap.size, 0, none⟩) cols cols))
      have hzs : ((wr.alloc (.cells (ceM cols) 66)).setCell ⟨W.heap.size + 1, k * 2, none⟩ (.slice (some ⟨wr.heap.size, 0, none⟩) cols cols)).heap.size = wr.heap.size + 1 := by rw [size_set, World.size_alloc]
      have hcall := HER.out _ _ hcb
      have HL2 := hid hl2
      have HA1 := hid hA1
      have HZS := hid hzs
      have hblen : k < (done ++ List.replicate (rows - k) zLn).length := by simp; omega
      have HH := hid ((List.getElem?_set_self (a := ((⟨List.replicate cols (blkC ⟨fg, bg, fl⟩), zLn.1.soft⟩ : Ln), (Value.slice (some ⟨wr.heap.size, 0, none⟩) cols cols))) hblen))
      clear hl1 hl2 hA1 hz hblen hzs
      have HRL := hid hrl
      have HCALL := hid hcall
      have HBR := hid hbr
      have HBA := hid hbA
      clear hrl hcall hcb hbr hl hcs hd hdl hbA
      have hne1 : ¬ wr.heap.size = W.heap.size := by omega
      have hne2 : ¬ wr.heap.size = W.heap.size + 1 := by omega
      have hlt2 : W.heap.size + 1 < wr.heap.size := by omega
      go_upto_region 6 with fail
      obtain ⟨W1, hW1⟩ : ∃ W1, (wr.alloc (.cells (ceM cols) 66)).setCell ⟨W.heap.size + 1, k * 2, none⟩ (.slice (some ⟨wr.heap.size, 0, none⟩) cols cols) = W1 := ⟨_, rfl⟩
      rw [hW1] at HCALL HL2 HA1 HZS
      rw [← World.setCell_alloc_past (w := wr) (.cells (ceM cols) 66) (W.heap.size + 1) (k * 2) _ hlt2, hW1]
      have HW1 := hid hW1
      clear hW1 a0 a1 a2 af0 af1 af2 q0 q1 r0 r1
      obtain ⟨⟨a0, a1, a2⟩, af0, af1, af2⟩ := HA1.out.three
      obtain ⟨⟨q0, q1⟩, r0, r1⟩ := HL2.out.two HH.out
      simp only at q0
      go_wp2_with fail
      go_still_tail 6, (by kernel_rfl)
      change wpList _ _ _ _ _ W1.drew
      go_wp2_with fail
      with_reducible refine HCALL.out.mono ?_
      rintro e w2 ⟨rfl, hc2, ho2⟩
      dsimp only
      have hst := bl_step HRL.out hlt (by omega) (by omega) HW1.out.symm hc2 ho2
      have hbA2 : Box w2 W.heap.size 26 #[.int .i64 fg, .int .i64 bg, .int .i64 fl] := HA1.out.drew.only ho2 (by omega)
      have hzz : W.heap.size + 1 + 1 ≤ w2.heap.size := by have := ho2.size; have := HZS.out; rw [show W1.drew.heap.size = W1.heap.size from rfl] at *; omega
      have hbb : Below W.heap.size W w2 := (HW1.out ▸ (HBR.out.alloc HBR.out.size _).setCell (p := ⟨W.heap.size + 1, k * 2, none⟩) (by show W.heap.size ≤ W.heap.size + 1; omega) _ : Below W.heap.size W W1).drew.trans (ho2.below (by show W.heap.size ≤ W1.heap.size; have := HZS.out; omega) (by omega))
      have HST := hid hst
      have HA2 := hid hbA2
      have HBB := hid hbb
      clear hst hbA2 hbb hc2 ho2 a0 a1 a2 af0 af1 af2 q0 q1 r0 r1
      go_wp2
      go_roundw
      case rel => exact ⟨k + 1, by omega, by go_num, HA2.out, HST.out, hzz, HBB.out⟩
      case measure => simp [intOf]; omega
    · have hkm : k = rows := by omega
      subst hkm
      have HRL := hid hrl
      clear hrl hmL hmC
      go_wp2
      go_ret
      obtain ⟨done, hd, hl, hcs⟩ := HRL.out
      rw [Nat.sub_self, List.replicate_zero, List.append_nil] at hl
      have hdl : done.length = k := by have := congrArg List.length hd; simpa using this
      exact ⟨_, done, rfl, hd, .inr ⟨W.heap.size + 1, k, by rw [hdl]; rfl, by omega, hl⟩, hcs, hbr⟩
end Go.Proofs.YtkejoknphnkhnaaDoor

namespace Go.Proofs.YtkejoknphnkhnaaDoor
open Go.RowKit

theorem hf_one (p : Int) (c : Ce) (r : List Ce) (h : c.wd = 1) : hf p c r = false := by
  unfold hf
  rw [if_neg (by omega), if_neg (by omega)]
theorem whole_ones : ∀ (l : List Ce) (p : Int), (∀ c ∈ l, c.wd = 1) → wholeL p l = true
  | [], _, _ => rfl
  | c :: r, p, h => by
    unfold wholeL
    rw [hf_one p c r (h c (by simp)), whole_ones r _ (fun x hx => h x (by simp [hx]))]; rfl
theorem fits_bare {a : At} (h : lookB a = true) (n : Nat) : fitsB n (List.replicate n (blkC a)) = true := by
  refine fits_iff.2 ⟨by simp, rights_iff.2 ?_, whole_ones _ _ ?_⟩
  · intro c hc
    rw [(List.mem_replicate.1 hc).2]
    exact right_blk h
  · intro c hc
    rw [(List.mem_replicate.1 hc).2]
    rfl
theorem allB_map (cols : Int) (lv : List (Ln × Value)) : allB cols lv = (lv.map Prod.fst).all fun l => fitsB cols l.cs := by
  unfold allB
  rw [List.all_map]
  rfl
def NewPost (W : World) (rows cols : Nat) (e : Ending) (w' : World) : Prop :=
  ∃ v lv, e = .returned (.tuple #[.agg #[.int .i64 cols, v], .int .i64 0]) ∧ lv.map Prod.fst = List.replicate rows (bareN cols ⟨0, 0, 0⟩) ∧ LSl w' W.heap.size v lv ∧ (∀ x ∈ lv, CSl w' W.heap.size x.2 x.1.cs) ∧ Below W.heap.size W w'
set_option maxRecDepth 100000 in
set_option maxHeartbeats 1000000 in
theorem new_yes (cols rows : Nat) (W : World) (h : sizeB cols rows = true) : Calls Tryd.prog 51 #[.int .i64 cols, .int .i64 rows] W (NewPost W rows cols) := by
  have hz := h
  unfold sizeB at hz
  rw [Bool.and_eq_true, decide_eq_true_iff, decide_eq_true_iff] at hz
  have hsz := fun W => size_any cols rows W
  rw [h] at hsz
  have hbl := blankLines_any rows cols ⟨0, 0, 0⟩ (W.alloc (.cells #[.int .i64 0, .slice none 0 0] 24)) (by omega) (by omega)
  have hbx := Box.new W 24 #[.int .i64 0, .slice none 0 0]
  unfold At.agg at hbl
  have HB := hid hbl
  have HX := hid hbx
  clear hbl hbx h hz
  go_enter Tryd.func51, Tryd.ntmps51
  go_wp2_with fail
  with_reducible refine (hsz _).mono ?_
  rintro e w2 ⟨rfl, rfl⟩
  dsimp only
  go_wp2_with fail
  with_reducible refine HB.out.mono ?_
  rintro e w2 ⟨v, lv, rfl, hm, hl, hc, hb⟩
  dsimp only
  have bx := HX.out.below hb (by simp)
  obtain ⟨A5, c5, hs5⟩ := hl.spell
  subst hs5
  obtain ⟨⟨k0, k1⟩, f0, f1⟩ := bx.two
  have HM := hid hm
  have HL := hid hl
  have HC := hid hc
  have HBX := hid bx
  have HBB := hid (Below.behind hb)
  clear hm hl hc bx hb
  go_wp2
  refine bodyPost_ret (v := .tuple #[.agg #[.int .i64 cols, .slice A5 lv.length c5], .int .i64 0]) (by simp [results, Tryd.results51, go_sem, k0, k1]) rfl ⟨_, lv, rfl, HM.out, ?_, ?_, ?_⟩
  · exact ((HL.out.set HBX.out (by decide) (i := 0) _).set (HBX.out.set _) (by decide) (i := 1) _).mono (by simp)
  · exact fun x hx => (((HC.out x hx).set HBX.out (by decide) (i := 0) _).set (HBX.out.set _) (by decide) (i := 1) _).mono (by simp)
  · exact (HBB.out.setCell (p := ⟨W.heap.size, 0, none⟩) (Nat.le_refl _) _).setCell (p := ⟨W.heap.size, 1, none⟩) (Nat.le_refl _) _

def xC : Ce := ⟨⟨#[120]⟩, 1, 0, 0, 0⟩
theorem xC_right : rightB xC = true := by decide +kernel
theorem alive_lines : mendL 1 (putL (List.replicate 3 (blkC ⟨0, 0, 0⟩)) 2 xC) = [blkC ⟨0, 0, 0⟩, blkC ⟨0, 0, 0⟩, xC] := by rfl
theorem lv_two {lv : List (Ln × Value)} {a b : Ln} (h : lv.map Prod.fst = [a, b]) : ∃ v u, lv = [(a, v), (b, u)] := by
  match lv, h with
  | [(x, v), (y, u)], h =>
    simp only [List.map_cons, List.map_nil, List.cons.injEq, and_true] at h
    exact ⟨v, u, by rw [h.1, h.2]⟩
set_option maxRecDepth 100000 in
set_option maxHeartbeats 2000000 in
theorem alive_any (W : World) (hT : Tab W) (hW : TabW W) : Calls Tryd.prog 19 #[] W fun e w' => e = .returned (.bool true) ∧ Below W.heap.size W w' := by
  have hnew := new_yes 3 2 W (by decide)
  have HT := hid hT
  have HW := hid hW
  clear hT hW
  go_enter Tryd.func19, Tryd.ntmps19
  go_wp2_with fail
  refine hnew.mono ?_
  rintro e w2 ⟨v, lv, rfl, hm, hl, hc, hb⟩
  dsimp only
  obtain ⟨v0, v1, rfl⟩ := lv_two hm
  clear hm hnew
  have hbx := Box.new w2 24 #[.int .i64 3, v]
  have hb2 := hb.alloc hb.size (.cells #[.int .i64 3, v] 24)
  have hin : GIn (w2.alloc (.cells #[.int .i64 3, v] 24)) v [(bareN 3 ⟨0, 0, 0⟩, v0), (bareN 3 ⟨0, 0, 0⟩, v1)] := by
    refine ⟨hl.row.below (below_alloc _ _), fun x hx => (hc x hx).row.below (below_alloc _ _), by simp, ?_⟩
    intro x hx
    have hxx : x.1 = bareN 3 ⟨0, 0, 0⟩ := by
      simp only [List.mem_cons, List.mem_nil_iff, or_false] at hx
      rcases hx with rfl | rfl <;> rfl
    rw [hxx]
    refine ⟨by simp [bareN], fun c hc => ?_⟩
    rw [(List.mem_replicate.1 hc).2]
    show (⟨#[]⟩ : ByteArray).size ≤ 1000
    decide
  have hput := put_yes1 3 1 2 v _ xC _ false v1 _ hin (by decide) (HT.out.below hb2) (HW.out.below hb2) (show [(bareN 3 ⟨0, 0, 0⟩, v0), (bareN 3 ⟨0, 0, 0⟩, v1)][1]? = some (⟨List.replicate 3 (blkC ⟨0, 0, 0⟩), false⟩, v1) from rfl) (by
    unfold mayB
    rw [allB_map]
    have := fits_bare (a := ⟨0, 0, 0⟩) (by decide) 3
    simp only [List.map_cons, List.map_nil, List.all_cons, List.all_nil, Bool.and_true]
    rw [show fitsB 3 (bareN 3 ⟨0, 0, 0⟩).cs = true from this]
    rfl) (by rfl) (by decide) xC_right (by decide) (by decide)
  rw [alive_lines, show ((1 : Nat) : Int) = 1 from rfl, show ((2 : Nat) : Int) = 2 from rfl] at hput
  unfold Ce.agg Ce.cells xC at hput
  simp only [List.map_cons, List.map_nil, List.set_cons_succ, List.set_cons_zero] at hput
  obtain ⟨A, c, rfl⟩ := hl.spell
  have HCE : Hid (∀ x ∈ [(bareN 3 ⟨0, 0, 0⟩, v0), (bareN 3 ⟨0, 0, 0⟩, v1)], CSl (w2.alloc (.cells #[.int .i64 3, .slice A 2 c] 24)) W.heap.size x.2 x.1.cs) := fun x hx => (hc x hx).below (below_alloc _ _) (Nat.le_refl _)
  have HP := hid hput
  have HBX := hid hbx
  have HB2 := hid hb2
  have hn0 : w2.heap.size = w2.heap.size := rfl
  have hle : W.heap.size ≤ w2.heap.size := hb.size
  clear hput hbx hb2 hin hc hl hb
  simp only [List.length_cons, List.length_nil, Nat.zero_add, Nat.reduceAdd] at *
  go_wp2_with fail
  with_reducible refine HP.out.mono ?_
  rintro e w3 ⟨v3, lv3, rfl, hm3, hl3, hn3, hb3⟩
  dsimp only
  have hx3 := HBX.out.below hb3 (by simp)
  obtain ⟨⟨k0, k1⟩, f0, f1⟩ := hx3.two
  obtain ⟨A3, c3, e3⟩ := hl3.spell
  subst e3
  obtain ⟨u0, u1, rfl⟩ := lv_two hm3
  simp only [List.length_cons, List.length_nil, Nat.zero_add, Nat.reduceAdd] at *
  have hce3 : CesOf ((w3.setCell ⟨w2.heap.size, 0, none⟩ (.int .i64 3)).setCell ⟨w2.heap.size, 1, none⟩ (.slice A3 2 c3)) [(bareN 3 ⟨0, 0, 0⟩, v0), (bareN 3 ⟨0, 0, 0⟩, v1)] := fun x hx =>
    ((((HCE.out x hx).below hb3 (Nat.le_refl _)).set hx3 (by decide) (i := 0) _).set (hx3.set _) (by decide) (i := 1) _).row
  have hce := ((hn3.set hx3 (by decide) (i := 0) (.int .i64 3)).set (hx3.set _) (by decide) (i := 1) (.slice A3 2 c3)).ces hce3 (_, u1) (List.mem_cons_of_mem _ (List.mem_singleton.2 rfl))
  have hl4 := (hl3.set hx3 (by decide) (i := 0) (.int .i64 3)).set (hx3.set _) (by decide) (i := 1) (.slice A3 2 c3)
  have hx4 := (hx3.set (i := 0) (.int .i64 3)).set (i := 1) (.slice A3 2 c3)
  have hh4 : Below W.heap.size W ((w3.setCell ⟨w2.heap.size, 0, none⟩ (.int .i64 3)).setCell ⟨w2.heap.size, 1, none⟩ (.slice A3 2 c3)) := ((HB2.out.trans (hb3.mono HB2.out.size)).setCell (p := ⟨w2.heap.size, 0, none⟩) hle _).setCell (p := ⟨w2.heap.size, 1, none⟩) hle _
  have HCE4 := hid hce
  have HL4 := hid hl4
  have HX4 := hid hx4
  have HH4 := hid hh4
  clear hm3 hl3 hn3 hb3 hx3 HP hce3 hce hl4 hx4 hh4
  go_upto_region 3 with fail
  generalize ((w3.setCell ⟨w2.heap.size, 0, none⟩ (.int .i64 3)).setCell ⟨w2.heap.size, 1, none⟩ (.slice A3 2 c3)) = w4 at *
  clear k0 k1 f0 f1
  obtain ⟨⟨k0, k1⟩, f0, f1⟩ := HX4.out.two
  rcases HL4.out with ⟨h0, _⟩ | ⟨g3, cap3, e3, hg3, hl3⟩
  · cases h0
  cases e3
  obtain ⟨⟨q0, q1⟩, r0, r1⟩ := hl3.two (j := 1) rfl
  obtain ⟨A4, c4, e4, _, hcc⟩ := HCE4.out
  simp only [List.length_cons, List.length_nil, Nat.zero_add, Nat.reduceAdd] at e4
  subst e4
  obtain ⟨g4, o4, rfl, hg4, hcc⟩ := hcc (by simp)
  have hxx : w4.cell? ⟨g4, o4 + 10, none⟩ = some (.string ⟨#[120]⟩) := hcc 2 xC rfl 0 _ rfl
  simp only [Nat.one_mul] at q0 q1
  have hx0 : ((⟨#[120]⟩ : ByteArray).toList == (⟨#[120]⟩ : ByteArray).toList) = true := by simp
  clear hcc hl3
  go_wp2
  go_ret
  exact ⟨rfl, HH4.out⟩
end Go.Proofs.YtkejoknphnkhnaaDoor

namespace Go.Proofs.YtkejoknphnkhnaaDoor
open Go.RowKit

def cutC (c : Ce) : Ce := ⟨c.tx.extract 0 20, c.wd, c.fg, c.bg, c.fl⟩
def lineG (l : List Ce) : List Ce := (l.take 82).map cutC
theorem cutC_size (c : Ce) : (cutC c).tx.size ≤ 20 := by
  unfold cutC
  simp only
  rw [size_extract']
  omega
theorem lineG_length (l : List Ce) : (lineG l).length = min 82 l.length := by
  unfold lineG
  rw [List.length_map, List.length_take]
theorem lineG_size {l : List Ce} : ∀ c ∈ lineG l, c.tx.size ≤ 20 := by
  intro c hc
  obtain ⟨x, _, rfl⟩ := List.mem_map.1 hc
  exact cutC_size x
theorem cutC_short {tx : ByteArray} (h : tx.size ≤ 20) : tx.extract 0 20 = tx := by
  apply bytes_ext
  · rw [size_extract']; omega
  · intro i hi
    rw [size_extract'] at hi
    rw [byteAt_extract _ _ _ _ (by omega), Nat.zero_add]
theorem take_cut {l : List Ce} {k : Nat} {c : Ce} (h : l[k]? = some c) : (l.take (k + 1)).map cutC = (l.take k).map cutC ++ [cutC c] := by
  obtain ⟨hk, rfl⟩ := List.getElem?_eq_some_iff.1 h
  rw [List.take_succ_eq_append_getElem hk, List.map_append]
  rfl
theorem ce_lit (W : World) (e : Ce) : CeRow (W.alloc (.cells e.cells 66)) (.slice (some ⟨W.heap.size, 0, none⟩) 1 1) [e] := by
  refine ⟨_, _, rfl, Nat.le_refl _, fun _ => ⟨W.heap.size, 0, rfl, by simp, fun j x hj i u hu => ?_⟩⟩
  have hb := Box.new W 66 e.cells
  cases j with
  | zero =>
    simp at hj
    subst hj
    rw [show 0 + 0 * 5 + i = i by omega, hb.cell]
    exact hu
  | succ j => simp at hj
def LineRel (W wr : World) (l : List Ce) (soft : Bool) (k : Nat) : Prop :=
  ∃ ov, Box wr (W.heap.size + 1 + 1) 61 #[ov, .bool soft] ∧ OwnC wr W.heap.size ov ((l.take k).map cutC)

set_option maxRecDepth 100000 in
set_option maxHeartbeats 2000000 in
theorem line_m (v : Value) (l : List Ce) (soft : Bool) (m : Nat) (W : World) (hr : CeRow W v l) (hn : (l.length : Int) ≤ 9223372036854775807) (ht : ∀ c ∈ l, (c.tx.size : Int) ≤ 9223372036854775807) (hm : (l.length ≤ 82 ∧ m = l.length) ∨ (82 < l.length ∧ m = 82)) :
    Calls Tryd.prog 36 #[.agg #[v, .bool soft]] W (LinePost W (lineG l) soft) := by
  have hr' := hr
  obtain ⟨A, c0, rfl, hcap, hA⟩ := hr
  obtain ⟨n, hnl⟩ : ∃ n, l.length = n := ⟨_, rfl⟩
  have HNL := hid hnl
  rw [hnl] at hcap hn hm ⊢
  have b0 := (((Bxs.nil W).alloc 61 #[.slice A n c0, .bool soft]).alloc 61 #[.slice none 0 0, .bool false]).alloc 61 #[.slice none 0 0, .bool soft]
  simp only [World.size_alloc, List.nil_append, List.cons_append] at b0
  have h0 : Below W.heap.size W (((W.alloc (.cells #[.slice A n c0, .bool soft] 61)).alloc (.cells #[.slice none 0 0, .bool false] 61)).alloc (.cells #[.slice none 0 0, .bool soft] 61)) := ((below_alloc _ _).alloc (by simp) _).alloc (by simp <;> omega) _
  have BX0 := hid b0
  have H0 := hid h0
  have HR := hid hr'
  have HMM := hid hm
  have hml : m ≤ n := by omega
  have hm82 : m ≤ 82 := by omega
  have hlg : lineG l = (l.take m).map cutC := by
    unfold lineG
    rcases hm with ⟨h1, h2⟩ | ⟨h1, rfl⟩
    · rw [h2]
      rw [List.take_of_length_le (by rw [HNL.out]; exact h1), List.take_of_length_le (by rw [HNL.out]; exact Nat.le_refl _)]
    · rfl
  have HLG := hid hlg
  have htt := hid ht
  have s0 : (((W.alloc (.cells #[.slice A n c0, .bool soft] 61)).alloc (.cells #[.slice none 0 0, .bool false] 61)).alloc (.cells #[.slice none 0 0, .bool soft] 61)).heap.size = W.heap.size + 1 + 1 + 1 := by simp
  have S0 := hid s0
  clear b0 h0 hr' hlg hm ht s0 hnl
  rcases HMM.out with ⟨h1, h2⟩ | ⟨h1, h2⟩
  · subst h2
    have hi1 : (m : Int) ≤ 82 := by omega
    go_enter Tryd.func36, Tryd.ntmps36
    go_wp2
    go_loopw [17] (fun i wr => ∃ k : Nat, k ≤ m ∧ i = .int .i64 k ∧ LineRel W wr l soft k ∧ Box wr (W.heap.size + 1) 61 #[.slice none 0 0, .bool false] ∧ W.heap.size + 1 + 1 + 1 ≤ wr.heap.size ∧ Below W.heap.size W wr) (fun i _ => m - (intOf i).toNat)
    case atStart => exact ⟨0, by omega, rfl, ⟨_, BX0.out.get 2 rfl, OwnC.nil _ _⟩, BX0.out.get 1 rfl, by rw [S0.out]; exact Nat.le_refl _, H0.out⟩
    case round =>
      obtain ⟨k, hk, rfl, ⟨ov, hbo, hown⟩, hbz, hsz, hbr⟩ := hrel
      obtain ⟨oA, oc, rfl⟩ := hown.spell
      have hlo : ((l.take k).map cutC).length = k := by rw [List.length_map, List.length_take, HNL.out]; omega
      rw [hlo] at hown hbo
      by_cases hlt : k < m
      · have hki : (k : Int) < m := by omega
        have hkl : k < l.length := by rw [HNL.out]; omega
        obtain ⟨g, o, rfl, hg, hcell⟩ := hA (by intro e; rw [e] at hkl; simp at hkl)
        have hx := List.getElem?_eq_getElem hkl
        have hts := htt.out l[k] (List.getElem_mem _)
        have hstep := take_cut hx
        obtain ⟨p0, p1, p2, p3, p4⟩ := ccells (W := wr) (g := g) (o := o + k * 5) (e := l[k]) (fun i u hu => (hbr.cell (p := ⟨g, o + k * 5 + i, none⟩) hg).trans (hcell k l[k] hx i u hu))
        generalize l[k] = x at *
        obtain ⟨tx, wd, fg, bg, fl⟩ := x
        simp only at p0 p1 p2 p3 p4 hts
        obtain ⟨⟨k0, k1⟩, f0, f1⟩ := hbo.two
        have hne : ¬ W.heap.size + 1 + 1 = wr.heap.size := by omega
        have hltb : W.heap.size + 1 + 1 < wr.heap.size := by omega
        have HX := hid hx
        have HLO := hid hlo
        have HOWN := hid hown
        have HBO := hid hbo
        have HBZ := hid hbz
        have HBR := hid hbr
        have HST := hid hstep
        clear hx hlo hown hbo hbz hbr hstep hcell hA
        by_cases hs : tx.size ≤ 20
        · have hs' : (tx.size : Int) ≤ 20 := by omega
          have HC : Hid (cutC ⟨tx, wd, fg, bg, fl⟩ = ⟨tx, wd, fg, bg, fl⟩) := by unfold Hid cutC; rw [cutC_short hs]
          clear hs
          have hwl : Below wr.heap.size wr ((wr.alloc (.cells #[.string tx, .int .i64 wd, .int .i64 fg, .int .i64 bg, .int .i64 fl] 66)).alloc (.cells #[.string tx, .int .i64 wd, .int .i64 fg, .int .i64 bg, .int .i64 fl] 66)) := (below_alloc _ _).alloc (by simp) _
          have hrow := ce_lit (wr.alloc (.cells #[.string tx, .int .i64 wd, .int .i64 fg, .int .i64 bg, .int .i64 fl] 66)) ⟨tx, wd, fg, bg, fl⟩
          rw [World.size_alloc] at hrow
          unfold Ce.cells at hrow
          simp only at hrow
          have HROW := hid hrow
          have HWL := hid hwl
          clear hrow hwl
          go_wp2_with (at_builtin; refine wpList_append_ce rfl _ _ rfl W.heap.size _ _ _ [⟨tx, wd, fg, bg, fl⟩] rfl (HOWN.out.kept HWL.out) rfl HROW.out (by rw [HLO.out]; simp; omega) (by simp; have := HBR.out.size; omega) ?_; intro v' w' h1 h2; obtain ⟨A', c', hv'⟩ := h1.spell; rw [List.length_append, HLO.out, List.length_singleton] at hv'; subst hv'; have H1 := hid h1; have H2 := hid h2; clear h1 h2; have hb7 := (HBO.out.below HWL.out HBO.out.lt).grown H2.out (OwnC.not_box (HOWN.out.kept HWL.out) (HBO.out.below HWL.out HBO.out.lt) (by decide)); obtain ⟨⟨m0, m1⟩, n0, n1⟩ := hb7.two; have HB7 := hid hb7; clear hb7)
          go_roundw
          case rel =>
            have hst := HST.out
            rw [HC.out] at hst
            refine ⟨k + 1, by omega, by go_num, ⟨_, HB7.out.set (i := 0) _, ?_⟩, ?_, ?_, ?_⟩
            · rw [hst]
              exact H1.out.set HB7.out (by decide) _
            · exact (((HBZ.out.below HWL.out HBZ.out.lt).grown H2.out (OwnC.not_box (HOWN.out.kept HWL.out) (HBZ.out.below HWL.out HBZ.out.lt) (by decide)))).other (by omega) _
            · have := H2.out.size
              have := HWL.out.size
              rw [size_set]
              omega
            · have hlt7 : ∀ q, (Value.slice oA k oc).ownBlock = some q → W.heap.size ≤ q := fun q hq => (World.ownsRow.lt (HOWN.out.kept HWL.out) q hq).1
              exact (((HBR.out.trans (HWL.out.mono HBR.out.size)).trans ((Below.refl W.heap.size _).grown H2.out (by have := HBR.out.size; have := HWL.out.size; omega) hlt7))).setCell (p := ⟨W.heap.size + 1 + 1, 0, none⟩) (by show W.heap.size ≤ W.heap.size + 1 + 1; omega) _
          case measure => simp [intOf]; omega
        · have hs' : (20 : Int) < tx.size := by omega
          have hs2 : (20 : Int) ≤ tx.size := by omega
          have hyy := fun W' : World => (rfl : W' = W')
          clear hyy
          obtain ⟨y, hy⟩ : ∃ y, tx.extract 0 20 = y := ⟨_, rfl⟩
          have HC : Hid (cutC ⟨tx, wd, fg, bg, fl⟩ = ⟨y, wd, fg, bg, fl⟩) := by unfold Hid cutC; rw [← hy]
          clear hs
          have hwl : Below wr.heap.size wr ((wr.alloc (.cells #[.string y, .int .i64 wd, .int .i64 fg, .int .i64 bg, .int .i64 fl] 66)).alloc (.cells #[.string y, .int .i64 wd, .int .i64 fg, .int .i64 bg, .int .i64 fl] 66)) := (below_alloc _ _).alloc (by simp) _
          have hrow := ce_lit (wr.alloc (.cells #[.string y, .int .i64 wd, .int .i64 fg, .int .i64 bg, .int .i64 fl] 66)) ⟨y, wd, fg, bg, fl⟩
          rw [World.size_alloc] at hrow
          unfold Ce.cells at hrow
          simp only at hrow
          have HROW := hid hrow
          have HWL := hid hwl
          clear hrow hwl
          go_wp2_with (at_builtin; refine wpList_append_ce rfl _ _ rfl W.heap.size _ _ _ [⟨y, wd, fg, bg, fl⟩] rfl (HOWN.out.kept HWL.out) rfl HROW.out (by rw [HLO.out]; simp; omega) (by simp; have := HBR.out.size; omega) ?_; intro v' w' h1 h2; obtain ⟨A', c', hv'⟩ := h1.spell; rw [List.length_append, HLO.out, List.length_singleton] at hv'; subst hv'; have H1 := hid h1; have H2 := hid h2; clear h1 h2; have hb7 := (HBO.out.below HWL.out HBO.out.lt).grown H2.out (OwnC.not_box (HOWN.out.kept HWL.out) (HBO.out.below HWL.out HBO.out.lt) (by decide)); obtain ⟨⟨m0, m1⟩, n0, n1⟩ := hb7.two; have HB7 := hid hb7; clear hb7)
          go_roundw
          case rel =>
            have hst := HST.out
            rw [HC.out] at hst
            refine ⟨k + 1, by omega, by go_num, ⟨_, HB7.out.set (i := 0) _, ?_⟩, ?_, ?_, ?_⟩
            · rw [hst]
              exact H1.out.set HB7.out (by decide) _
            · exact (((HBZ.out.below HWL.out HBZ.out.lt).grown H2.out (OwnC.not_box (HOWN.out.kept HWL.out) (HBZ.out.below HWL.out HBZ.out.lt) (by decide)))).other (by omega) _
            · have := H2.out.size
              have := HWL.out.size
              rw [size_set]
              omega
            · have hlt7 : ∀ q, (Value.slice oA k oc).ownBlock = some q → W.heap.size ≤ q := fun q hq => (World.ownsRow.lt (HOWN.out.kept HWL.out) q hq).1
              exact (((HBR.out.trans (HWL.out.mono HBR.out.size)).trans ((Below.refl W.heap.size _).grown H2.out (by have := HBR.out.size; have := HWL.out.size; omega) hlt7))).setCell (p := ⟨W.heap.size + 1 + 1, 0, none⟩) (by show W.heap.size ≤ W.heap.size + 1 + 1; omega) _
          case measure => simp [intOf]; omega
      · have hkm : k = m := by omega
        subst hkm
        obtain ⟨⟨k0, k1⟩, f0, f1⟩ := hbo.two
        obtain ⟨⟨z0, z1⟩, y0, y1⟩ := hbz.two
        have HOWN := hid hown
        have HBZ := hid hbz
        have HBR := hid hbr
        have HLO := hid hlo
        clear hown hbz hbr hbo hlo hA
        go_wp2
        refine bodyPost_ret (v := .agg #[.slice oA k oc, .bool soft]) (by simp [results, Tryd.results36, go_sem, z0, z1]) rfl ⟨_, rfl, ?_, ?_⟩
        · rw [HLG.out]
          have h := (HOWN.out.set HBZ.out (by decide) (i := 0) (.slice oA k oc)).set (HBZ.out.set _) (by decide) (i := 1) (.bool soft)
          exact h.csl
        · exact (HBR.out.setCell (p := ⟨W.heap.size + 1, 0, none⟩) (by show W.heap.size ≤ W.heap.size + 1; omega) _).setCell (p := ⟨W.heap.size + 1, 1, none⟩) (by show W.heap.size ≤ W.heap.size + 1; omega) _
  · have hi1 : (82 : Int) < n := by omega
    have hi2 : (82 : Int) ≤ c0 := by omega
    subst h2
    go_enter Tryd.func36, Tryd.ntmps36
    go_wp2
    go_loopw [17] (fun i wr => ∃ k : Nat, k ≤ 82 ∧ i = .int .i64 k ∧ LineRel W wr l soft k ∧ Box wr (W.heap.size + 1) 61 #[.slice none 0 0, .bool false] ∧ W.heap.size + 1 + 1 + 1 ≤ wr.heap.size ∧ Below W.heap.size W wr) (fun i _ => 82 - (intOf i).toNat)
    case atStart => exact ⟨0, by omega, rfl, ⟨_, BX0.out.get 2 rfl, OwnC.nil _ _⟩, BX0.out.get 1 rfl, by rw [S0.out]; exact Nat.le_refl _, H0.out⟩
    case round =>
      obtain ⟨k, hk, rfl, ⟨ov, hbo, hown⟩, hbz, hsz, hbr⟩ := hrel
      obtain ⟨oA, oc, rfl⟩ := hown.spell
      have hlo : ((l.take k).map cutC).length = k := by rw [List.length_map, List.length_take, HNL.out]; omega
      rw [hlo] at hown hbo
      by_cases hlt : k < 82
      · have hki : (k : Int) < 82 := by omega
        have hkl : k < l.length := by rw [HNL.out]; omega
        obtain ⟨g, o, rfl, hg, hcell⟩ := hA (by intro e; rw [e] at hkl; simp at hkl)
        have hx := List.getElem?_eq_getElem hkl
        have hts := htt.out l[k] (List.getElem_mem _)
        have hstep := take_cut hx
        obtain ⟨p0, p1, p2, p3, p4⟩ := ccells (W := wr) (g := g) (o := o + k * 5) (e := l[k]) (fun i u hu => (hbr.cell (p := ⟨g, o + k * 5 + i, none⟩) hg).trans (hcell k l[k] hx i u hu))
        generalize l[k] = x at *
        obtain ⟨tx, wd, fg, bg, fl⟩ := x
        simp only at p0 p1 p2 p3 p4 hts
        obtain ⟨⟨k0, k1⟩, f0, f1⟩ := hbo.two
        have hne : ¬ W.heap.size + 1 + 1 = wr.heap.size := by omega
        have hltb : W.heap.size + 1 + 1 < wr.heap.size := by omega
        have HX := hid hx
        have HLO := hid hlo
        have HOWN := hid hown
        have HBO := hid hbo
        have HBZ := hid hbz
        have HBR := hid hbr
        have HST := hid hstep
        clear hx hlo hown hbo hbz hbr hstep hcell hA
        by_cases hs : tx.size ≤ 20
        · have hs' : (tx.size : Int) ≤ 20 := by omega
          have HC : Hid (cutC ⟨tx, wd, fg, bg, fl⟩ = ⟨tx, wd, fg, bg, fl⟩) := by unfold Hid cutC; rw [cutC_short hs]
          clear hs
          have hwl : Below wr.heap.size wr ((wr.alloc (.cells #[.string tx, .int .i64 wd, .int .i64 fg, .int .i64 bg, .int .i64 fl] 66)).alloc (.cells #[.string tx, .int .i64 wd, .int .i64 fg, .int .i64 bg, .int .i64 fl] 66)) := (below_alloc _ _).alloc (by simp) _
          have hrow := ce_lit (wr.alloc (.cells #[.string tx, .int .i64 wd, .int .i64 fg, .int .i64 bg, .int .i64 fl] 66)) ⟨tx, wd, fg, bg, fl⟩
          rw [World.size_alloc] at hrow
          unfold Ce.cells at hrow
          simp only at hrow
          have HROW := hid hrow
          have HWL := hid hwl
          clear hrow hwl
          go_wp2_with (at_builtin; refine wpList_append_ce rfl _ _ rfl W.heap.size _ _ _ [⟨tx, wd, fg, bg, fl⟩] rfl (HOWN.out.kept HWL.out) rfl HROW.out (by rw [HLO.out]; simp; omega) (by simp; have := HBR.out.size; omega) ?_; intro v' w' h1 h2; obtain ⟨A', c', hv'⟩ := h1.spell; rw [List.length_append, HLO.out, List.length_singleton] at hv'; subst hv'; have H1 := hid h1; have H2 := hid h2; clear h1 h2; have hb7 := (HBO.out.below HWL.out HBO.out.lt).grown H2.out (OwnC.not_box (HOWN.out.kept HWL.out) (HBO.out.below HWL.out HBO.out.lt) (by decide)); obtain ⟨⟨m0, m1⟩, n0, n1⟩ := hb7.two; have HB7 := hid hb7; clear hb7)
          go_roundw
          case rel =>
            have hst := HST.out
            rw [HC.out] at hst
            refine ⟨k + 1, by omega, by go_num, ⟨_, HB7.out.set (i := 0) _, ?_⟩, ?_, ?_, ?_⟩
            · rw [hst]
              exact H1.out.set HB7.out (by decide) _
            · exact (((HBZ.out.below HWL.out HBZ.out.lt).grown H2.out (OwnC.not_box (HOWN.out.kept HWL.out) (HBZ.out.below HWL.out HBZ.out.lt) (by decide)))).other (by omega) _
            · have := H2.out.size
              have := HWL.out.size
              rw [size_set]
              omega
            · have hlt7 : ∀ q, (Value.slice oA k oc).ownBlock = some q → W.heap.size ≤ q := fun q hq => (World.ownsRow.lt (HOWN.out.kept HWL.out) q hq).1
              exact (((HBR.out.trans (HWL.out.mono HBR.out.size)).trans ((Below.refl W.heap.size _).grown H2.out (by have := HBR.out.size; have := HWL.out.size; omega) hlt7))).setCell (p := ⟨W.heap.size + 1 + 1, 0, none⟩) (by show W.heap.size ≤ W.heap.size + 1 + 1; omega) _
          case measure => simp [intOf]; omega
        · have hs' : (20 : Int) < tx.size := by omega
          have hs2 : (20 : Int) ≤ tx.size := by omega
          have hyy := fun W' : World => (rfl : W' = W')
          clear hyy
          obtain ⟨y, hy⟩ : ∃ y, tx.extract 0 20 = y := ⟨_, rfl⟩
          have HC : Hid (cutC ⟨tx, wd, fg, bg, fl⟩ = ⟨y, wd, fg, bg, fl⟩) := by unfold Hid cutC; rw [← hy]
          clear hs
          have hwl : Below wr.heap.size wr ((wr.alloc (.cells #[.string y, .int .i64 wd, .int .i64 fg, .int .i64 bg, .int .i64 fl] 66)).alloc (.cells #[.string y, .int .i64 wd, .int .i64 fg, .int .i64 bg, .int .i64 fl] 66)) := (below_alloc _ _).alloc (by simp) _
          have hrow := ce_lit (wr.alloc (.cells #[.string y, .int .i64 wd, .int .i64 fg, .int .i64 bg, .int .i64 fl] 66)) ⟨y, wd, fg, bg, fl⟩
          rw [World.size_alloc] at hrow
          unfold Ce.cells at hrow
          simp only at hrow
          have HROW := hid hrow
          have HWL := hid hwl
          clear hrow hwl
          go_wp2_with (at_builtin; refine wpList_append_ce rfl _ _ rfl W.heap.size _ _ _ [⟨y, wd, fg, bg, fl⟩] rfl (HOWN.out.kept HWL.out) rfl HROW.out (by rw [HLO.out]; simp; omega) (by simp; have := HBR.out.size; omega) ?_; intro v' w' h1 h2; obtain ⟨A', c', hv'⟩ := h1.spell; rw [List.length_append, HLO.out, List.length_singleton] at hv'; subst hv'; have H1 := hid h1; have H2 := hid h2; clear h1 h2; have hb7 := (HBO.out.below HWL.out HBO.out.lt).grown H2.out (OwnC.not_box (HOWN.out.kept HWL.out) (HBO.out.below HWL.out HBO.out.lt) (by decide)); obtain ⟨⟨m0, m1⟩, n0, n1⟩ := hb7.two; have HB7 := hid hb7; clear hb7)
          go_roundw
          case rel =>
            have hst := HST.out
            rw [HC.out] at hst
            refine ⟨k + 1, by omega, by go_num, ⟨_, HB7.out.set (i := 0) _, ?_⟩, ?_, ?_, ?_⟩
            · rw [hst]
              exact H1.out.set HB7.out (by decide) _
            · exact (((HBZ.out.below HWL.out HBZ.out.lt).grown H2.out (OwnC.not_box (HOWN.out.kept HWL.out) (HBZ.out.below HWL.out HBZ.out.lt) (by decide)))).other (by omega) _
            · have := H2.out.size
              have := HWL.out.size
              rw [size_set]
              omega
            · have hlt7 : ∀ q, (Value.slice oA k oc).ownBlock = some q → W.heap.size ≤ q := fun q hq => (World.ownsRow.lt (HOWN.out.kept HWL.out) q hq).1
              exact (((HBR.out.trans (HWL.out.mono HBR.out.size)).trans ((Below.refl W.heap.size _).grown H2.out (by have := HBR.out.size; have := HWL.out.size; omega) hlt7))).setCell (p := ⟨W.heap.size + 1 + 1, 0, none⟩) (by show W.heap.size ≤ W.heap.size + 1 + 1; omega) _
          case measure => simp [intOf]; omega
      · have hkm : k = 82 := by omega
        subst hkm
        obtain ⟨⟨k0, k1⟩, f0, f1⟩ := hbo.two
        obtain ⟨⟨z0, z1⟩, y0, y1⟩ := hbz.two
        have HOWN := hid hown
        have HBZ := hid hbz
        have HBR := hid hbr
        have HLO := hid hlo
        clear hown hbz hbr hbo hlo hA
        go_wp2
        refine bodyPost_ret (v := .agg #[.slice oA 82 oc, .bool soft]) (by simp [results, Tryd.results36, go_sem, z0, z1]) rfl ⟨_, rfl, ?_, ?_⟩
        · rw [HLG.out]
          have h := (HOWN.out.set HBZ.out (by decide) (i := 0) (.slice oA 82 oc)).set (HBZ.out.set _) (by decide) (i := 1) (.bool soft)
          exact h.csl
        · exact (HBR.out.setCell (p := ⟨W.heap.size + 1, 0, none⟩) (by show W.heap.size ≤ W.heap.size + 1; omega) _).setCell (p := ⟨W.heap.size + 1, 1, none⟩) (by show W.heap.size ≤ W.heap.size + 1; omega) _

theorem line_any (v : Value) (l : List Ce) (soft : Bool) (W : World) (hr : CeRow W v l) (hn : (l.length : Int) ≤ 9223372036854775807) (ht : ∀ c ∈ l, (c.tx.size : Int) ≤ 9223372036854775807) :
    Calls Tryd.prog 36 #[.agg #[v, .bool soft]] W (LinePost W (lineG l) soft) := by
  by_cases h : l.length ≤ 82
  · exact line_m v l soft l.length W hr hn ht (.inl ⟨h, rfl⟩)
  · exact line_m v l soft 82 W hr hn ht (.inr ⟨by omega, rfl⟩)
end Go.Proofs.YtkejoknphnkhnaaDoor
