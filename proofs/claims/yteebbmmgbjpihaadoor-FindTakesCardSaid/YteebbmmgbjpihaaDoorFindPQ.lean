/- Layer 10, the package: mayBe; the iterator over places, forward and back. Made by wip/gen/findC.py. -/
/- Layer 10, plain: the places behind one, and ahead of one, are gone through by steps. -/
import Derived.Test.YteebbmmgbjpihaaDoorFlowLmQ
import Derived.Test.YteebbmmgbjpihaaDoorFlowEQ
import Derived.RangeFuncNested
import Derived.RangeFuncBound
import Derived.RangeFuncCalls
import Derived.RangeFuncLeaves
import Derived.RangeFuncBox
import Derived.Shelf.Abstract
import Derived.Shelf.RegionOpen
import Derived.OwnWalkIn
import Derived.TacticsInMore
import Derived.LoopNIn
import Derived.LoopIn
import Derived.Sort.CutIn
import Derived.Stop.RegionWithIn
import Derived.Laws.EntriesVeiled
namespace Go.Proofs.YteebbmmgbjpihaaDoor
open Go.RowKit Go.Shelf
attribute [local go_sem] Oper.semAt_some

theorem cell_lt {W : World} {b i : Nat} {v : Value} (h : W.cell? ⟨b, i, none⟩ = some v) : b < W.heap.size := by
  obtain ⟨o, ho, _⟩ := cells_of_cell h
  exact (Array.getElem?_eq_some_iff.1 ho).1
theorem allP_snoc {ls : List Ln} {ps : List (Int × Int)} {k : Nat} {p : Int × Int} (h : ps[k]? = some p) : (ps.take (k + 1)).all (inP ls) = ((ps.take k).all (inP ls) && inP ls p) := by
  rw [take_snoc h, List.all_append]
  simp
theorem allP_no {ls : List Ln} {ps : List (Int × Int)} {k : Nat} {p : Int × Int} (h : ps[k]? = some p) (hp : inP ls p = false) : ps.all (inP ls) = false := by
  rw [List.all_eq_false]
  exact ⟨p, List.mem_of_getElem? h, by rw [hp]; simp⟩
set_option maxHeartbeats 1000000 in
theorem fmay_any (v : Value) (lv : List (Ln × Value)) (ps : List (Int × Int)) (g c : Nat) (W : World) (hf : Fl W v lv) (hT : Tab W) (hW : TabW W) (hps : ps.length ≤ 10) (hg : g < W.heap.size)
    (hp : ∀ j p, ps[j]? = some p → W.cell? ⟨g, j * 2, none⟩ = some (.int .i64 p.1) ∧ W.cell? ⟨g, j * 2 + 1, none⟩ = some (.int .i64 p.2)) :
    Calls Tryd.prog 19 #[v, .slice (some ⟨g, 0, none⟩) ps.length c] W fun e w' => e = .returned (.bool (keptB lv && ps.all (inP (lv.map Prod.fst)))) ∧ Below W.heap.size W w' := by
  have HJ := hid (join_out v lv W hf hT hW)
  have hlr := hf.lr
  have hce := hf.ces
  have hn2 := hf.n
  obtain ⟨A, cap, rfl⟩ := hf.lr.spell
  obtain ⟨n, hnn⟩ : ∃ n, lv.length = n := ⟨_, rfl⟩
  rw [hnn] at hlr HJ ⊢
  obtain ⟨m, hm⟩ : ∃ m, ps.length = m := ⟨_, rfl⟩
  rw [hm] at hps ⊢
  have HP := hid hp
  have HL := hid hlr
  have HC := hid hce
  clear hp hlr hce hf hT hW
  go_enter Tryd.func19, Tryd.ntmps19
  go_wp2_with fail
  with_reducible refine HJ.out.mono ?_
  rintro e w1 ⟨jA, jk, jc, jn, rfl, hb, hx⟩
  dsimp only
  rcases hx with ⟨h1, rfl, _⟩ | ⟨h1, rfl, _⟩
  · have HE : Hid ((keptB lv && ps.all (inP (lv.map Prod.fst))) = ps.all (inP (lv.map Prod.fst))) := by unfold Hid; rw [h1, Bool.true_and]
    clear h1 HJ
    go_wp2
    go_loopw [18] (fun i wr => ∃ k : Nat, k ≤ m ∧ i = .int .i64 k ∧ (ps.take k).all (inP (lv.map Prod.fst)) = true ∧ Below W.heap.size W wr) (fun i _ => m - (intOf i).toNat)
    case atStart => exact ⟨0, by omega, rfl, rfl, hb⟩
    case round =>
      obtain ⟨k, hk, rfl, hal, hbr⟩ := hrel
      by_cases hlt : k < m
      · have hki : (k : Int) < m := by omega
        have hkb : (k : Int) ≤ 10 := by omega
        obtain ⟨⟨r, c'⟩, hx⟩ : ∃ p, ps[k]? = some p := ⟨_, List.getElem?_eq_getElem (by omega)⟩
        obtain ⟨p0, p1⟩ := HP.out k _ hx
        have q0 := (hbr.cell (p := ⟨g, k * 2, none⟩) hg).trans p0
        have q1 := (hbr.cell (p := ⟨g, k * 2 + 1, none⟩) hg).trans p1
        have hB := hbr.alloc hbr.size (.cells #[.int .i64 r, .int .i64 c'] 50)
        have HI := hid (in_any r c' _ lv _ (HL.out.below hB) (HC.out.below hB) (by omega))
        have HB := hid hB
        cases hv : inP (lv.map Prod.fst) (r, c')
        · have HV : Hid (ps.all (inP (lv.map Prod.fst)) = false) := allP_no hx hv
          rw [hv] at HI
          clear hx p0 p1 hbr hv hal hb hB
          go_wp2_with ((with_reducible refine HI.out.mono ?_); rintro e w2 ⟨rfl, hb2⟩)
          go_ret
          exact ⟨ret_bool (by rw [HE.out, HV.out]), HB.out.trans (hb2.mono HB.out.size)⟩
        · have HV : Hid ((ps.take (k + 1)).all (inP (lv.map Prod.fst)) = true) := by unfold Hid; rw [allP_snoc hx, hal, hv]; rfl
          rw [hv] at HI
          clear hx p0 p1 hbr hv hal hb hB
          go_wp2_with ((with_reducible refine HI.out.mono ?_); rintro e w2 ⟨rfl, hb2⟩)
          go_roundw
          case rel => exact ⟨k + 1, by omega, by go_num, HV.out, HB.out.trans (hb2.mono HB.out.size)⟩
          case measure => simp [intOf]; omega
      · have hkn : k = m := by omega
        subst hkn
        have HV : Hid (ps.all (inP (lv.map Prod.fst)) = true) := by unfold Hid; rw [← hm, List.take_length] at hal; exact hal
        have HB := hid hbr
        clear hlt hal hbr hb
        go_wp2
        go_ret
        exact ⟨ret_bool (by rw [HE.out, HV.out]), HB.out⟩
  · have HE : Hid ((keptB lv && ps.all (inP (lv.map Prod.fst))) = false) := by unfold Hid; rw [h1, Bool.false_and]
    have HB := hid hb
    clear h1 HJ hb
    go_wp2
    go_ret
    exact ⟨ret_bool HE.out.symm, HB.out⟩

/-- Places, one behind the other, by steps, to the first that is in no line. -/
def WalkP (ls : List Ln) (st : Int × Int → Int × Int) : Int × Int → List (Int × Int) → Prop
  | q, [] => inP ls q = false
  | q, x :: l => x = q ∧ inP ls q = true ∧ WalkP ls st (st q) l
abbrev PlI (ls : List Ln) : Type := { x : Int × Int // inP ls x = true }
abbrev plEnc {ls : List Ln} (x : PlI ls) : Array Value := #[.agg #[.int .i64 x.val.1, .int .i64 x.val.2]]
/-- All cells lie as they lay. -/
def KeptC (B : Nat) (X Y : World) : Prop := Below B X Y ∧ ∀ (k : Nat) (o : Obj), X.heap[k]? = some o → o.isCells = true → Y.heap[k]? = some o
theorem KeptC.trans {B : Nat} {X Y Z : World} (h : KeptC B X Y) (k : KeptC B Y Z) : KeptC B X Z := ⟨h.1.trans k.1, fun i o ho hc => k.2 i o (h.2 i o ho hc) hc⟩
theorem KeptC.putObj {B : Nat} {w : World} (hn : B ≤ w.heap.size) (W : World) (l : Nat) (o o' : Obj) (hl : w.heap.size ≤ l) (h : W.heap[l]? = some o) (h1 : o.isCells = false) (h2 : o.isWalk = false) : KeptC B W (W.putObj l o') := by
  refine ⟨belowK_b (w := w) hn W l o o' hl h h1 h2, fun k x hk hx => ?_⟩
  have hne : k ≠ l := by rintro rfl; rw [h] at hk; cases hk; rw [h1] at hx; cases hx
  exact (World.putObj_heap_other hne).trans hk
theorem KeptC.box {B b : Nat} {X Y : World} {t : TypeId} {cs : Array Value} (h : KeptC B X Y) (hb : Box X b t cs) : Box Y b t cs := h.2 b _ hb rfl
theorem KeptC.cell {B : Nat} {X Y : World} {a : Addr} {v : Value} (h : KeptC B X Y) (hb : X.cell? a = some v) : Y.cell? a = some v := by
  obtain ⟨o, ho, hc⟩ := cells_of_cell hb
  have := h.2 _ o ho hc
  rw [← hb]
  unfold World.cell?
  rw [this, ho]
theorem KeptC.of_below {B : Nat} {X Y : World} (hB : B ≤ X.heap.size) (h : Below X.heap.size X Y) : KeptC B X Y := ⟨h.mono hB, fun k _ ho _ => (h.block k (Array.getElem?_eq_some_iff.1 ho).1).trans ho⟩
/-- How far it is to the end. -/
def farN (n : Nat) (p : Int × Int) : Nat := (((n : Int) - p.1) * 1001 + (1000 - p.2)).toNat
def farP (p : Int × Int) : Nat := (p.1 * 1001 + p.2 + 1002).toNat
theorem farN_lt {ls : List Ln} {p : Int × Int} (h : inP ls p = true) (hl : lenI ls p.1 ≤ 1000) : farN ls.length (nextP ls p) < farN ls.length p := by
  obtain ⟨⟨h1, h2⟩, h3, h4⟩ := inP_iff.1 h
  unfold farN nextP
  split
  · simp only
    omega
  · simp only
    omega
theorem farP_lt {ls : List Ln} {p : Int × Int} (h : inP ls p = true) (hl : lenI ls (p.1 - 1) ≤ 1000) : farP (prevP ls p) < farP p := by
  obtain ⟨⟨h1, h2⟩, h3, h4⟩ := inP_iff.1 h
  unfold farP prevP
  split
  · simp only
    omega
  · simp only
    omega
theorem lenI_le {lv : List (Ln × Value)} (hs : Sm lv) (r : Int) : lenI (lv.map Prod.fst) r ≤ 1000 := by
  unfold lenI lenP
  split
  · rename_i l hl
    rw [List.getElem?_map, Option.map_eq_some_iff] at hl
    obtain ⟨e, he, rfl⟩ := hl
    have := (hs.2 e (List.mem_of_getElem? he)).1
    omega
  · omega
def intV : Option Value → Int
  | some (.int _ i) => i
  | _ => 0
/-- The place that lies there. -/
def plAt (p : Value) (W : World) : Int × Int := match p with
  | .pointer (some a) => (intV (W.cell? a), intV (W.cell? ⟨a.block, a.off + 1, none⟩))
  | _ => (0, 0)
theorem plAt_box {W : World} {b : Nat} {r c : Int} (h : Box W b 50 #[.int .i64 r, .int .i64 c]) : plAt (.pointer (some ⟨b, 0, none⟩)) W = (r, c) := by
  obtain ⟨⟨k0, k1⟩, _⟩ := h.two
  unfold plAt
  simp only [k0, k1, Nat.zero_add, intV]
set_option maxRecDepth 100000 in
set_option maxHeartbeats 4000000 in
theorem it_next_in (n : Nat) (hn : 1 ≤ n) (l B1 B2 B3 : Nat) (fr : Int × Int) (v : Value) (lv : List (Ln × Value)) (L : List (Int × Int)) (w0 : World) (hr : LR w0 v lv) (hce : CesOf w0 lv) (hs : Sm lv)
    (hin : inP (lv.map Prod.fst) fr = true) (hw : WalkP (lv.map Prod.fst) (nextP (lv.map Prod.fst)) (nextP (lv.map Prod.fst) fr) L)
    (J Jx : List (PlI (lv.map Prod.fst)) → World → Prop) (B : Nat) (hJ : AbidesFrom B J) (_hJx : AbidesFrom B Jx)
    (hY : ∀ pre x W, J pre W → pre.length < L.length → YieldAt Fence.wide (n - 1) Tryd.prog l (plEnc x) W fun e W' =>
      (e = .returned (.bool true) ∧ J (pre ++ [x]) W' ∧ KeptC w0.heap.size W W') ∨ (e = .returned (.bool false) ∧ Jx (pre ++ [x]) W'))
    (W : World) (hW : Below w0.heap.size w0 W) (c1 : W.cell? ⟨B1, 0, none⟩ = some (.func (.func 32) #[] #[])) (c20 : W.cell? ⟨B2, 0, none⟩ = some (.int .i64 fr.1)) (c21 : W.cell? ⟨B2, 1, none⟩ = some (.int .i64 fr.2)) (c3 : W.cell? ⟨B3, 0, none⟩ = some v) (h0 : J [] W) :
    CallsIn Fence.wide n Tryd.prog 34 #[.func (.yield l) #[] #[], .pointer (some ⟨B1, 0, none⟩), .pointer (some ⟨B2, 0, none⟩), .pointer (some ⟨B3, 0, none⟩)] W fun e W' => (∃ v, e = .returned v) ∧
      ((∃ ys, ys.map (·.val) = L ∧ J ys W') ∨ (∃ pre, pre.map (·.val) <+: L ∧ Jx pre W')) := by
  refine callsIn_of_wp Tryd.func34 rfl trivial ?_ rfl
  obtain ⟨r0, q0⟩ := fr
  simp only at c20 c21
  have hfar := fun p hp => farN_lt (ls := lv.map Prod.fst) (p := p) hp (lenI_le hs _)
  have HFAR := hid hfar
  have HWK := hid hw
  have HCE := hid hce
  have HLR := hid hr
  have HSM := hid hs
  have hST := next_any r0 q0 v lv W (hr.below hW) (hce.below hW) hs hin
  have B1lt := cell_lt c1
  have B2lt := cell_lt c20
  have B3lt := cell_lt c3
  obtain ⟨vA, vc, rfl⟩ := hr.spell
  obtain ⟨N, hN⟩ : ∃ N, lv.length = N := ⟨_, rfl⟩
  rw [hN] at HLR c3 hST
  have HST := hid hST
  clear hST hfar hw hce hr hs
  simp only [Tryd.ntmps34, List.size_toArray, List.length_cons, List.length_nil, Nat.reduceAdd, Nat.reduceSub, Array.replicate_succ, Array.replicate_zero, List.push_toArray, List.append_toArray, List.nil_append, List.cons_append]
  gi_wp2_with ((try refine ⟨trivial, ?_⟩); gi_at_call 32; refine (callsIn_wide.2 HST.out).mono ?_; rintro e w1 ⟨rfl, hb1⟩)
  have hbx := Box.new w1 50 #[.int .i64 (nextP (lv.map Prod.fst) (r0, q0)).1, .int .i64 (nextP (lv.map Prod.fst) (r0, q0)).2]
  have hbz := hb1.alloc hb1.size (.cells #[.int .i64 (nextP (lv.map Prod.fst) (r0, q0)).1, .int .i64 (nextP (lv.map Prod.fst) (r0, q0)).2] 50)
  generalize hcur : nextP (lv.map Prod.fst) (r0, q0) = cur at *
  gi_loopw [5] (fun p wr => ∃ (pre : List (PlI (lv.map Prod.fst))) (rest : List (Int × Int)) (cur : Int × Int) (b : Nat), p = .pointer (some ⟨b, 0, none⟩) ∧ Box wr b 50 #[.int .i64 cur.1, .int .i64 cur.2] ∧ pre.map (·.val) ++ rest = L ∧ WalkP (lv.map Prod.fst) (nextP (lv.map Prod.fst)) cur rest ∧ J pre wr ∧ Below w0.heap.size w0 wr ∧
      (wr.cell? ⟨B1, 0, none⟩ = some (.func (.func 32) #[] #[]) ∧ wr.cell? ⟨B3, 0, none⟩ = some (.slice vA N vc))) (fun p wr => farN lv.length (plAt p wr))
  case atStart =>
    exact ⟨[], L, cur, w1.heap.size, rfl, hbx, rfl, HWK.out, abides8 hJ h0 hbz, hW.trans (hbz.mono hW.size), (hbz.cell (p := ⟨B1, 0, none⟩) B1lt).trans c1, (hbz.cell (p := ⟨B3, 0, none⟩) B3lt).trans c3⟩
  case round =>
    obtain ⟨pre, rest, cur, b, rfl, hbx, hL, hwk, hJs, hbw, c1, c3⟩ := hrel
    obtain ⟨r, q⟩ := cur
    simp only at hbx
    obtain ⟨⟨k0, k1⟩, _⟩ := hbx.two
    have HMR := hid (plAt_box hbx)
    have hIN := in_any r q _ lv wr (HLR.out.below hbw) (HCE.out.below hbw) HSM.out.1
    have B1lt := cell_lt c1
    have B3lt := cell_lt c3
    have hbl := hbx.lt
    cases rest with
    | nil =>
      have hno : inP (lv.map Prod.fst) (r, q) = false := hwk
      rw [hno] at hIN
      have HIN := hid hIN
      have HS : Hid (pre.map (·.val) = L) := by unfold Hid; rw [← hL, List.append_nil]
      clear hIN hno hwk hL
      gi_wp2_with ((try refine ⟨trivial, ?_⟩); gi_at_call 31; refine (callsIn_wide.2 HIN.out).mono ?_; rintro e w2 ⟨rfl, hb2⟩)
      go_end0
      exact ⟨⟨_, rfl⟩, .inl ⟨pre, HS.out, abides8 hJ hJs hb2⟩⟩
    | cons x rest' =>
      obtain ⟨rfl, hyes, hwk2⟩ := hwk
      rw [hyes] at hIN
      have HIN := hid hIN
      have hlen : pre.length < L.length := by rw [← hL]; simp
      have HS : Hid ((pre ++ [(⟨(r, q), hyes⟩ : PlI (lv.map Prod.fst))]).map (·.val) ++ rest' = L) := by unfold Hid; rw [← hL]; simp
      have HW2 := hid hwk2
      have HFL := hid (HFAR.out _ hyes)
      rw [List.length_map] at HFL
      have HYES := hid hyes
      clear hIN hwk2 hL HFAR
      gi_upto_region 3 with ((try refine ⟨trivial, ?_⟩); gi_at_call 31; refine (callsIn_wide.2 HIN.out).mono ?_; rintro e w2 ⟨rfl, hb2⟩)
      have hbx2 := hbx.below hb2 hbl
      obtain ⟨⟨k02, k12⟩, _⟩ := hbx2.two
      have hJ2 := abides8 hJ hJs hb2
      have hbw2 := hbw.trans (hb2.mono hbw.size)
      have c12 := (hb2.cell (p := ⟨B1, 0, none⟩) B1lt).trans c1
      have c32 := (hb2.cell (p := ⟨B3, 0, none⟩) B3lt).trans c3
      clear hbx k0 k1 hJs hbw c1 c3 HIN hb2 hbl B1lt B3lt
      obtain ⟨fn, tmps, assign, body, hy, hR⟩ := hY pre (⟨(r, q), HYES.out⟩ : PlI (lv.map Prod.fst)) w2 hJ2 hlen
      dsimp only [plEnc] at hy
      gi_wp2
      refine hR.mono ?_
      rintro e W3 (⟨rfl, hJ3, hk3⟩ | ⟨rfl, hJx3⟩)
      · have hbx3 := hk3.box hbx2
        have hbw3 := hbw2.trans hk3.1
        have c13 := hk3.cell c12
        have c33 := hk3.cell c32
        have HST3 := hid (fun W' (hb : Below W3.heap.size W3 W') => next_any r q _ lv W' (HLR.out.below (hbw3.trans (hb.mono hbw3.size))) (HCE.out.below (hbw3.trans (hb.mono hbw3.size))) HSM.out HYES.out)
        have hsz2 := hbx2.lt
        obtain ⟨⟨k03, k13⟩, _⟩ := hbx3.two
        have hA := below_alloc W3 (.cells #[.int .i64 r, .int .i64 q] 50)
        have hbn := Box.new W3 50 #[.int .i64 r, .int .i64 q]
        have c13a := (hA.cell (p := ⟨B1, 0, none⟩) (cell_lt c13)).trans c13
        have c33a := (hA.cell (p := ⟨B3, 0, none⟩) (cell_lt c33)).trans c33
        have B1a := cell_lt c13a
        have B3a := cell_lt c33a
        have HS3 := hid (HST3.out _ hA)
        clear HST3 hbx2 k02 k12 hJ2 c12 c32 hk3 hR hy
        gi_wp2_with ((try refine ⟨trivial, ?_⟩); gi_at_call 32; refine (callsIn_wide.2 HS3.out).mono ?_; rintro e w4 ⟨rfl, hb4⟩; have hbn4 := hbn.below hb4 hbn.lt; have c14 := (hb4.cell (p := ⟨B1, 0, none⟩) B1a).trans c13a; have c34 := (hb4.cell (p := ⟨B3, 0, none⟩) B3a).trans c33a; obtain ⟨⟨k04, k14⟩, f04, f14⟩ := hbn4.two)
        have hZ : Below W3.heap.size W3 ((w4.setCell ⟨W3.heap.size, 0, none⟩ (.int .i64 (nextP (lv.map Prod.fst) (r, q)).1)).setCell ⟨W3.heap.size, 1, none⟩ (.int .i64 (nextP (lv.map Prod.fst) (r, q)).2)) := below_set (below_set (hA.trans (hb4.mono hA.size)) (Nat.le_refl _) _) (Nat.le_refl _) _
        have hbz := (hbn4.set (i := 0) (.int .i64 (nextP (lv.map Prod.fst) (r, q)).1)).set (i := 1) (.int .i64 (nextP (lv.map Prod.fst) (r, q)).2)
        have hbz' : Box ((w4.setCell ⟨W3.heap.size, 0, none⟩ (.int .i64 (nextP (lv.map Prod.fst) (r, q)).1)).setCell ⟨W3.heap.size, 1, none⟩ (.int .i64 (nextP (lv.map Prod.fst) (r, q)).2)) W3.heap.size 50 #[.int .i64 (nextP (lv.map Prod.fst) (r, q)).1, .int .i64 (nextP (lv.map Prod.fst) (r, q)).2] := by simpa using hbz
        go_roundw
        case rel => exact ⟨_, rest', nextP (lv.map Prod.fst) (r, q), W3.heap.size, rfl, hbz', HS.out, HW2.out, abides8 hJ hJ3 hZ, hbw3.trans (hZ.mono hbw3.size), (hZ.cell (p := ⟨B1, 0, none⟩) (cell_lt c13)).trans c13, (hZ.cell (p := ⟨B3, 0, none⟩) (cell_lt c33)).trans c33⟩
        case measure =>
          rw [HMR.out, plAt_box hbz']
          exact HFL.out
      · gi_wp2
        refine bodyPost_ret (results_none rfl _ _ _) rfl ?_
        exact ⟨⟨_, rfl⟩, .inr ⟨_, ⟨rest', HS.out⟩, hJx3⟩⟩
theorem next_stops (n : Nat) (hn : 1 ≤ n) (B1 B2 B3 : Nat) (fr : Int × Int) (v : Value) (lv : List (Ln × Value)) (L : List (Int × Int)) (w0 w : World) (hr : LR w0 v lv) (hce : CesOf w0 lv) (hs : Sm lv)
    (hin : inP (lv.map Prod.fst) fr = true) (hw : WalkP (lv.map Prod.fst) (nextP (lv.map Prod.fst)) (nextP (lv.map Prod.fst) fr) L) (hb : Below w0.heap.size w0 w)
    (c1 : w.cell? ⟨B1, 0, none⟩ = some (.func (.func 32) #[] #[])) (c20 : w.cell? ⟨B2, 0, none⟩ = some (.int .i64 fr.1)) (c21 : w.cell? ⟨B2, 1, none⟩ = some (.int .i64 fr.2)) (c3 : w.cell? ⟨B3, 0, none⟩ = some v) :
    SeqStopsK Fence.wide n Tryd.prog 34 #[.pointer (some ⟨B1, 0, none⟩), .pointer (some ⟨B2, 0, none⟩), .pointer (some ⟨B3, 0, none⟩)] (plEnc (ls := lv.map Prod.fst)) (KeptC w0.heap.size) (fun ys => ys.map (·.val) = L) (fun pre => pre.map (·.val) <+: L) L.length w := fun l J Jx W hW hJ hJx hY h0 =>
  it_next_in n hn l B1 B2 B3 fr v lv L w0 hr hce hs hin hw J Jx _ hJ hJx hY W (hb.trans (hW.mono hb.size)) ((hW.cell (p := ⟨B1, 0, none⟩) (cell_lt c1)).trans c1) ((hW.cell (p := ⟨B2, 0, none⟩) (cell_lt c20)).trans c20) ((hW.cell (p := ⟨B2, 1, none⟩) (cell_lt c21)).trans c21) ((hW.cell (p := ⟨B3, 0, none⟩) (cell_lt c3)).trans c3) h0
set_option maxRecDepth 100000 in
set_option maxHeartbeats 4000000 in
theorem it_prev_in (n : Nat) (hn : 1 ≤ n) (l B1 B2 B3 : Nat) (fr : Int × Int) (v : Value) (lv : List (Ln × Value)) (L : List (Int × Int)) (w0 : World) (hr : LR w0 v lv) (hce : CesOf w0 lv) (hs : Sm lv)
    (hin : inP (lv.map Prod.fst) fr = true) (hw : WalkP (lv.map Prod.fst) (prevP (lv.map Prod.fst)) (prevP (lv.map Prod.fst) fr) L)
    (J Jx : List (PlI (lv.map Prod.fst)) → World → Prop) (B : Nat) (hJ : AbidesFrom B J) (_hJx : AbidesFrom B Jx)
    (hY : ∀ pre x W, J pre W → pre.length < L.length → YieldAt Fence.wide (n - 1) Tryd.prog l (plEnc x) W fun e W' =>
      (e = .returned (.bool true) ∧ J (pre ++ [x]) W' ∧ KeptC w0.heap.size W W') ∨ (e = .returned (.bool false) ∧ Jx (pre ++ [x]) W'))
    (W : World) (hW : Below w0.heap.size w0 W) (c1 : W.cell? ⟨B1, 0, none⟩ = some (.func (.func 33) #[] #[])) (c20 : W.cell? ⟨B2, 0, none⟩ = some (.int .i64 fr.1)) (c21 : W.cell? ⟨B2, 1, none⟩ = some (.int .i64 fr.2)) (c3 : W.cell? ⟨B3, 0, none⟩ = some v) (h0 : J [] W) :
    CallsIn Fence.wide n Tryd.prog 34 #[.func (.yield l) #[] #[], .pointer (some ⟨B1, 0, none⟩), .pointer (some ⟨B2, 0, none⟩), .pointer (some ⟨B3, 0, none⟩)] W fun e W' => (∃ v, e = .returned v) ∧
      ((∃ ys, ys.map (·.val) = L ∧ J ys W') ∨ (∃ pre, pre.map (·.val) <+: L ∧ Jx pre W')) := by
  refine callsIn_of_wp Tryd.func34 rfl trivial ?_ rfl
  obtain ⟨r0, q0⟩ := fr
  simp only at c20 c21
  have hfar := fun p hp => farP_lt (ls := lv.map Prod.fst) (p := p) hp (lenI_le hs _)
  have HFAR := hid hfar
  have HWK := hid hw
  have HCE := hid hce
  have HLR := hid hr
  have HSM := hid hs
  have hST := prev_any r0 q0 v lv W (hr.below hW) (hce.below hW) hs hin
  have B1lt := cell_lt c1
  have B2lt := cell_lt c20
  have B3lt := cell_lt c3
  obtain ⟨vA, vc, rfl⟩ := hr.spell
  obtain ⟨N, hN⟩ : ∃ N, lv.length = N := ⟨_, rfl⟩
  rw [hN] at HLR c3 hST
  have HST := hid hST
  clear hST hfar hw hce hr hs
  simp only [Tryd.ntmps34, List.size_toArray, List.length_cons, List.length_nil, Nat.reduceAdd, Nat.reduceSub, Array.replicate_succ, Array.replicate_zero, List.push_toArray, List.append_toArray, List.nil_append, List.cons_append]
  gi_wp2_with ((try refine ⟨trivial, ?_⟩); gi_at_call 33; refine (callsIn_wide.2 HST.out).mono ?_; rintro e w1 ⟨rfl, hb1⟩)
  have hbx := Box.new w1 50 #[.int .i64 (prevP (lv.map Prod.fst) (r0, q0)).1, .int .i64 (prevP (lv.map Prod.fst) (r0, q0)).2]
  have hbz := hb1.alloc hb1.size (.cells #[.int .i64 (prevP (lv.map Prod.fst) (r0, q0)).1, .int .i64 (prevP (lv.map Prod.fst) (r0, q0)).2] 50)
  generalize hcur : prevP (lv.map Prod.fst) (r0, q0) = cur at *
  gi_loopw [5] (fun p wr => ∃ (pre : List (PlI (lv.map Prod.fst))) (rest : List (Int × Int)) (cur : Int × Int) (b : Nat), p = .pointer (some ⟨b, 0, none⟩) ∧ Box wr b 50 #[.int .i64 cur.1, .int .i64 cur.2] ∧ pre.map (·.val) ++ rest = L ∧ WalkP (lv.map Prod.fst) (prevP (lv.map Prod.fst)) cur rest ∧ J pre wr ∧ Below w0.heap.size w0 wr ∧
      (wr.cell? ⟨B1, 0, none⟩ = some (.func (.func 33) #[] #[]) ∧ wr.cell? ⟨B3, 0, none⟩ = some (.slice vA N vc))) (fun p wr => farP (plAt p wr))
  case atStart =>
    exact ⟨[], L, cur, w1.heap.size, rfl, hbx, rfl, HWK.out, abides8 hJ h0 hbz, hW.trans (hbz.mono hW.size), (hbz.cell (p := ⟨B1, 0, none⟩) B1lt).trans c1, (hbz.cell (p := ⟨B3, 0, none⟩) B3lt).trans c3⟩
  case round =>
    obtain ⟨pre, rest, cur, b, rfl, hbx, hL, hwk, hJs, hbw, c1, c3⟩ := hrel
    obtain ⟨r, q⟩ := cur
    simp only at hbx
    obtain ⟨⟨k0, k1⟩, _⟩ := hbx.two
    have HMR := hid (plAt_box hbx)
    have hIN := in_any r q _ lv wr (HLR.out.below hbw) (HCE.out.below hbw) HSM.out.1
    have B1lt := cell_lt c1
    have B3lt := cell_lt c3
    have hbl := hbx.lt
    cases rest with
    | nil =>
      have hno : inP (lv.map Prod.fst) (r, q) = false := hwk
      rw [hno] at hIN
      have HIN := hid hIN
      have HS : Hid (pre.map (·.val) = L) := by unfold Hid; rw [← hL, List.append_nil]
      clear hIN hno hwk hL
      gi_wp2_with ((try refine ⟨trivial, ?_⟩); gi_at_call 31; refine (callsIn_wide.2 HIN.out).mono ?_; rintro e w2 ⟨rfl, hb2⟩)
      go_end0
      exact ⟨⟨_, rfl⟩, .inl ⟨pre, HS.out, abides8 hJ hJs hb2⟩⟩
    | cons x rest' =>
      obtain ⟨rfl, hyes, hwk2⟩ := hwk
      rw [hyes] at hIN
      have HIN := hid hIN
      have hlen : pre.length < L.length := by rw [← hL]; simp
      have HS : Hid ((pre ++ [(⟨(r, q), hyes⟩ : PlI (lv.map Prod.fst))]).map (·.val) ++ rest' = L) := by unfold Hid; rw [← hL]; simp
      have HW2 := hid hwk2
      have HFL := hid (HFAR.out _ hyes)
      have HYES := hid hyes
      clear hIN hwk2 hL HFAR
      gi_upto_region 3 with ((try refine ⟨trivial, ?_⟩); gi_at_call 31; refine (callsIn_wide.2 HIN.out).mono ?_; rintro e w2 ⟨rfl, hb2⟩)
      have hbx2 := hbx.below hb2 hbl
      obtain ⟨⟨k02, k12⟩, _⟩ := hbx2.two
      have hJ2 := abides8 hJ hJs hb2
      have hbw2 := hbw.trans (hb2.mono hbw.size)
      have c12 := (hb2.cell (p := ⟨B1, 0, none⟩) B1lt).trans c1
      have c32 := (hb2.cell (p := ⟨B3, 0, none⟩) B3lt).trans c3
      clear hbx k0 k1 hJs hbw c1 c3 HIN hb2 hbl B1lt B3lt
      obtain ⟨fn, tmps, assign, body, hy, hR⟩ := hY pre (⟨(r, q), HYES.out⟩ : PlI (lv.map Prod.fst)) w2 hJ2 hlen
      dsimp only [plEnc] at hy
      gi_wp2
      refine hR.mono ?_
      rintro e W3 (⟨rfl, hJ3, hk3⟩ | ⟨rfl, hJx3⟩)
      · have hbx3 := hk3.box hbx2
        have hbw3 := hbw2.trans hk3.1
        have c13 := hk3.cell c12
        have c33 := hk3.cell c32
        have HST3 := hid (fun W' (hb : Below W3.heap.size W3 W') => prev_any r q _ lv W' (HLR.out.below (hbw3.trans (hb.mono hbw3.size))) (HCE.out.below (hbw3.trans (hb.mono hbw3.size))) HSM.out HYES.out)
        have hsz2 := hbx2.lt
        obtain ⟨⟨k03, k13⟩, _⟩ := hbx3.two
        have hA := below_alloc W3 (.cells #[.int .i64 r, .int .i64 q] 50)
        have hbn := Box.new W3 50 #[.int .i64 r, .int .i64 q]
        have c13a := (hA.cell (p := ⟨B1, 0, none⟩) (cell_lt c13)).trans c13
        have c33a := (hA.cell (p := ⟨B3, 0, none⟩) (cell_lt c33)).trans c33
        have B1a := cell_lt c13a
        have B3a := cell_lt c33a
        have HS3 := hid (HST3.out _ hA)
        clear HST3 hbx2 k02 k12 hJ2 c12 c32 hk3 hR hy
        gi_wp2_with ((try refine ⟨trivial, ?_⟩); gi_at_call 33; refine (callsIn_wide.2 HS3.out).mono ?_; rintro e w4 ⟨rfl, hb4⟩; have hbn4 := hbn.below hb4 hbn.lt; have c14 := (hb4.cell (p := ⟨B1, 0, none⟩) B1a).trans c13a; have c34 := (hb4.cell (p := ⟨B3, 0, none⟩) B3a).trans c33a; obtain ⟨⟨k04, k14⟩, f04, f14⟩ := hbn4.two)
        have hZ : Below W3.heap.size W3 ((w4.setCell ⟨W3.heap.size, 0, none⟩ (.int .i64 (prevP (lv.map Prod.fst) (r, q)).1)).setCell ⟨W3.heap.size, 1, none⟩ (.int .i64 (prevP (lv.map Prod.fst) (r, q)).2)) := below_set (below_set (hA.trans (hb4.mono hA.size)) (Nat.le_refl _) _) (Nat.le_refl _) _
        have hbz := (hbn4.set (i := 0) (.int .i64 (prevP (lv.map Prod.fst) (r, q)).1)).set (i := 1) (.int .i64 (prevP (lv.map Prod.fst) (r, q)).2)
        have hbz' : Box ((w4.setCell ⟨W3.heap.size, 0, none⟩ (.int .i64 (prevP (lv.map Prod.fst) (r, q)).1)).setCell ⟨W3.heap.size, 1, none⟩ (.int .i64 (prevP (lv.map Prod.fst) (r, q)).2)) W3.heap.size 50 #[.int .i64 (prevP (lv.map Prod.fst) (r, q)).1, .int .i64 (prevP (lv.map Prod.fst) (r, q)).2] := by simpa using hbz
        go_roundw
        case rel => exact ⟨_, rest', prevP (lv.map Prod.fst) (r, q), W3.heap.size, rfl, hbz', HS.out, HW2.out, abides8 hJ hJ3 hZ, hbw3.trans (hZ.mono hbw3.size), (hZ.cell (p := ⟨B1, 0, none⟩) (cell_lt c13)).trans c13, (hZ.cell (p := ⟨B3, 0, none⟩) (cell_lt c33)).trans c33⟩
        case measure =>
          rw [HMR.out, plAt_box hbz']
          exact HFL.out
      · gi_wp2
        refine bodyPost_ret (results_none rfl _ _ _) rfl ?_
        exact ⟨⟨_, rfl⟩, .inr ⟨_, ⟨rest', HS.out⟩, hJx3⟩⟩
theorem prev_stops (n : Nat) (hn : 1 ≤ n) (B1 B2 B3 : Nat) (fr : Int × Int) (v : Value) (lv : List (Ln × Value)) (L : List (Int × Int)) (w0 w : World) (hr : LR w0 v lv) (hce : CesOf w0 lv) (hs : Sm lv)
    (hin : inP (lv.map Prod.fst) fr = true) (hw : WalkP (lv.map Prod.fst) (prevP (lv.map Prod.fst)) (prevP (lv.map Prod.fst) fr) L) (hb : Below w0.heap.size w0 w)
    (c1 : w.cell? ⟨B1, 0, none⟩ = some (.func (.func 33) #[] #[])) (c20 : w.cell? ⟨B2, 0, none⟩ = some (.int .i64 fr.1)) (c21 : w.cell? ⟨B2, 1, none⟩ = some (.int .i64 fr.2)) (c3 : w.cell? ⟨B3, 0, none⟩ = some v) :
    SeqStopsK Fence.wide n Tryd.prog 34 #[.pointer (some ⟨B1, 0, none⟩), .pointer (some ⟨B2, 0, none⟩), .pointer (some ⟨B3, 0, none⟩)] (plEnc (ls := lv.map Prod.fst)) (KeptC w0.heap.size) (fun ys => ys.map (·.val) = L) (fun pre => pre.map (·.val) <+: L) L.length w := fun l J Jx W hW hJ hJx hY h0 =>
  it_prev_in n hn l B1 B2 B3 fr v lv L w0 hr hce hs hin hw J Jx _ hJ hJx hY W (hb.trans (hW.mono hb.size)) ((hW.cell (p := ⟨B1, 0, none⟩) (cell_lt c1)).trans c1) ((hW.cell (p := ⟨B2, 0, none⟩) (cell_lt c20)).trans c20) ((hW.cell (p := ⟨B2, 1, none⟩) (cell_lt c21)).trans c21) ((hW.cell (p := ⟨B3, 0, none⟩) (cell_lt c3)).trans c3) h0
/-- The iterator: what it bears. -/
def PlsPost (W : World) (v : Value) (fr : Int × Int) (back : Bool) (e : Ending) (w' : World) : Prop :=
  e = .returned (.func (.func 34) #[] #[.pointer (some ⟨W.heap.size + 1 + 1, 0, none⟩), .pointer (some ⟨W.heap.size + 1, 0, none⟩), .pointer (some ⟨W.heap.size, 0, none⟩)]) ∧ Below W.heap.size W w' ∧
    w'.cell? ⟨W.heap.size + 1 + 1, 0, none⟩ = some (.func (.func (if back then 33 else 32)) #[] #[]) ∧ w'.cell? ⟨W.heap.size + 1, 0, none⟩ = some (.int .i64 fr.1) ∧ w'.cell? ⟨W.heap.size + 1, 1, none⟩ = some (.int .i64 fr.2) ∧ w'.cell? ⟨W.heap.size, 0, none⟩ = some v
set_option maxHeartbeats 1000000 in
theorem places_any (v : Value) (A : Option Addr) (n c : Nat) (hv : v = .slice A n c) (r q : Int) (back : Bool) (W : World) :
    Calls Tryd.prog 20 #[v, .agg #[.int .i64 r, .int .i64 q], .bool back] W (PlsPost W v (r, q) back) := by
  subst hv
  cases back
  · go_enter Tryd.func20, Tryd.ntmps20
    go_wp2
    go_ret
    refine ⟨rfl, ?_, ?_⟩
    · repeat (first | exact below_alloc _ _ | refine Below.setCell ?_ (by simp; try omega) _ | refine Below.alloc ?_ (by simp; try omega) _)
    · simp [go_sem]
  · go_enter Tryd.func20, Tryd.ntmps20
    go_wp2
    go_ret
    refine ⟨rfl, ?_, ?_⟩
    · repeat (first | exact below_alloc _ _ | refine Below.setCell ?_ (by simp; try omega) _ | refine Below.alloc ?_ (by simp; try omega) _)
    · simp [go_sem]
end Go.Proofs.YteebbmmgbjpihaaDoor

namespace Go.Proofs.YteebbmmgbjpihaaDoor
open Go.RowKit

def toI (p : Nat × Nat) : Int × Int := ((p.1 : Int), (p.2 : Int))
def aftL (ls : List Ln) (p : Nat × Nat) : List (Nat × Nat) := (placesP ls).filter fun q => decide (behP q p)
def befL (ls : List Ln) (p : Nat × Nat) : List (Nat × Nat) := ((placesP ls).filter fun q => decide (behP p q)).reverse
theorem inP_nat {ls : List Ln} {p : Nat × Nat} : inP ls (toI p) = true ↔ p ∈ placesP ls := by
  rw [inP_iff, places_mem]
  have hl : lenI ls (p.1 : Int) = (lenP ls p.1 : Int) := by unfold lenI; rw [Int.toNat_natCast]
  unfold toI
  simp only [hl]
  refine ⟨fun h => by omega, fun h => ⟨⟨by omega, ?_⟩, by omega, by omega⟩⟩
  unfold lenP at h
  split at h
  · rename_i l hl
    have := (List.getElem?_eq_some_iff.1 hl).1
    omega
  · omega
theorem filter_after {l : List (Nat × Nat)} (hs : l.Pairwise fun p q => behP q p) {q : Nat × Nat} (hq : q ∈ l) :
    l.filter (fun x => decide (x = q ∨ behP x q)) = q :: l.filter (fun x => decide (behP x q)) := by
  induction l with
  | nil => simp at hq
  | cons a t ih =>
    obtain ⟨h1, h2⟩ := List.pairwise_cons.1 hs
    by_cases e : a = q
    · subst e
      rw [List.filter_cons_of_pos (by simp), List.filter_cons_of_neg (by simpa using behP_irrefl a)]
      congr 1
      exact List.filter_congr fun x hx => by rw [decide_eq_true (h1 x hx), decide_eq_true (Or.inr (h1 x hx))]
    · have hqt : q ∈ t := by
        rcases List.mem_cons.1 hq with h | h
        · exact absurd h.symm e
        · exact h
      have hb := h1 q hqt
      rw [List.filter_cons_of_neg (by simpa using ⟨e, behP_asymm hb⟩), List.filter_cons_of_neg (by simpa using behP_asymm hb)]
      exact ih h2 hqt
theorem filter_ahead {l : List (Nat × Nat)} (hs : l.Pairwise fun p q => behP q p) {q : Nat × Nat} (hq : q ∈ l) :
    l.filter (fun x => decide (x = q ∨ behP q x)) = l.filter (fun x => decide (behP q x)) ++ [q] := by
  induction l with
  | nil => simp at hq
  | cons a t ih =>
    obtain ⟨h1, h2⟩ := List.pairwise_cons.1 hs
    by_cases e : a = q
    · subst e
      have hno : t.filter (fun x => decide (x = a ∨ behP a x)) = [] := by
        rw [List.filter_eq_nil_iff]
        intro x hx
        have hb := h1 x hx
        simp only [decide_eq_true_eq]
        rintro (rfl | h)
        · exact behP_irrefl _ hb
        · exact behP_asymm hb h
      have hno2 : t.filter (fun x => decide (behP a x)) = [] := by
        rw [List.filter_eq_nil_iff]
        intro x hx
        simpa using behP_asymm (h1 x hx)
      rw [List.filter_cons_of_pos (by simp), List.filter_cons_of_neg (by simpa using behP_irrefl a), hno, hno2]
      rfl
    · have hqt : q ∈ t := by
        rcases List.mem_cons.1 hq with h | h
        · exact absurd h.symm e
        · exact h
      have hb := h1 q hqt
      rw [List.filter_cons_of_pos (by simpa using Or.inr hb), List.filter_cons_of_pos (by simpa using hb), ih h2 hqt]
      rfl
theorem lenP_pos {ls : List Ln} (hne : ∀ l ∈ ls, 1 ≤ l.cs.length) {r : Nat} (h : r < ls.length) : 1 ≤ lenP ls r := by
  unfold lenP
  rw [List.getElem?_eq_getElem h]
  exact hne _ (List.getElem_mem h)
theorem lenP_no {ls : List Ln} {r : Nat} (h : ls.length ≤ r) : lenP ls r = 0 := by
  unfold lenP
  rw [List.getElem?_eq_none_iff.2 h]
theorem lenI_nat (ls : List Ln) (r : Nat) : lenI ls (r : Int) = (lenP ls r : Int) := by unfold lenI; rw [Int.toNat_natCast]
theorem aft_cons {ls : List Ln} {p q : Nat × Nat} (hq : q ∈ placesP ls) (h : ∀ x ∈ placesP ls, behP x p ↔ (x = q ∨ behP x q)) : aftL ls p = q :: aftL ls q := by
  unfold aftL
  rw [← filter_after (places_sorted ls) hq]
  exact List.filter_congr fun x hx => by rw [decide_eq_decide]; exact h x hx
theorem bef_cons {ls : List Ln} {p q : Nat × Nat} (hq : q ∈ placesP ls) (h : ∀ x ∈ placesP ls, behP p x ↔ (x = q ∨ behP q x)) : befL ls p = q :: befL ls q := by
  have e : (placesP ls).filter (fun x => decide (behP p x)) = (placesP ls).filter (fun x => decide (behP q x)) ++ [q] := by
    rw [← filter_ahead (places_sorted ls) hq]
    exact List.filter_congr fun x hx => by rw [decide_eq_decide]; exact h x hx
  unfold befL
  rw [e, List.reverse_append]
  rfl
theorem walk_next {ls : List Ln} (hne : ∀ l ∈ ls, 1 ≤ l.cs.length) : ∀ (n : Nat) (p : Nat × Nat), (aftL ls p).length = n → p ∈ placesP ls → WalkP ls (nextP ls) (nextP ls (toI p)) ((aftL ls p).map toI) := by
  intro n
  induction n using Nat.strongRecOn with
  | _ n ih =>
    rintro ⟨r, c⟩ hn hp
    have hp' := places_mem.1 hp
    simp only at hp'
    have step : ∀ q : Nat × Nat, nextP ls (toI (r, c)) = toI q → q ∈ placesP ls → (∀ x ∈ placesP ls, behP x (r, c) ↔ (x = q ∨ behP x q)) → WalkP ls (nextP ls) (nextP ls (toI (r, c))) ((aftL ls (r, c)).map toI) := by
      intro q hq hm hx
      have e := aft_cons hm hx
      rw [e, hq, List.map_cons]
      refine ⟨rfl, inP_nat.2 hm, ih (aftL ls q).length ?_ q rfl hm⟩
      rw [e] at hn
      simp at hn
      omega
    by_cases h1 : c + 1 < lenP ls r
    · refine step (r, c + 1) ?_ (places_mem.2 h1) ?_
      · unfold nextP toI
        simp only [lenI_nat]
        rw [if_pos (by omega)]
        simp
      · rintro ⟨a, b⟩ _
        unfold behP
        simp only [Prod.mk.injEq]
        omega
    · have e : nextP ls (toI (r, c)) = toI (r + 1, 0) := by
        unfold nextP toI
        simp only [lenI_nat]
        rw [if_neg (by omega)]
        simp
      by_cases h2 : r + 1 < ls.length
      · refine step (r + 1, 0) e (places_mem.2 (lenP_pos hne h2)) ?_
        rintro ⟨a, b⟩ hm
        have hm' := places_mem.1 hm
        simp only at hm'
        unfold behP
        simp only [Prod.mk.injEq]
        by_cases ha : a = r
        · subst ha; omega
        · omega
      · have hnil : aftL ls (r, c) = [] := by
          unfold aftL
          rw [List.filter_eq_nil_iff]
          rintro ⟨a, b⟩ hm
          have hm' := places_mem.1 hm
          simp only at hm'
          simp only [decide_eq_true_eq]
          unfold behP
          simp only
          by_cases ha : a = r
          · subst ha; omega
          · by_cases hb : ls.length ≤ a
            · rw [lenP_no hb] at hm'; omega
            · omega
        rw [hnil, e]
        show inP ls (toI (r + 1, 0)) = false
        rw [← Bool.not_eq_true, inP_nat, places_mem]
        simp only
        rw [lenP_no (by omega)]
        omega
theorem walk_prev {ls : List Ln} (hne : ∀ l ∈ ls, 1 ≤ l.cs.length) : ∀ (n : Nat) (p : Nat × Nat), (befL ls p).length = n → p ∈ placesP ls → WalkP ls (prevP ls) (prevP ls (toI p)) ((befL ls p).map toI) := by
  intro n
  induction n using Nat.strongRecOn with
  | _ n ih =>
    rintro ⟨r, c⟩ hn hp
    have hp' := places_mem.1 hp
    simp only at hp'
    have hrl : r < ls.length := by
      rcases Nat.lt_or_ge r ls.length with h | h
      · exact h
      · rw [lenP_no h] at hp'; omega
    have step : ∀ q : Nat × Nat, prevP ls (toI (r, c)) = toI q → q ∈ placesP ls → (∀ x ∈ placesP ls, behP (r, c) x ↔ (x = q ∨ behP q x)) → WalkP ls (prevP ls) (prevP ls (toI (r, c))) ((befL ls (r, c)).map toI) := by
      intro q hq hm hx
      have e := bef_cons hm hx
      rw [e, hq, List.map_cons]
      refine ⟨rfl, inP_nat.2 hm, ih (befL ls q).length ?_ q rfl hm⟩
      rw [e] at hn
      simp at hn
      omega
    by_cases h1 : 0 < c
    · refine step (r, c - 1) ?_ (places_mem.2 (by simp only; omega)) ?_
      · unfold prevP toI
        simp only
        rw [if_pos (by omega)]
        exact Prod.ext rfl (by show (c : Int) - 1 = ((c - 1 : Nat) : Int); omega)
      · rintro ⟨a, b⟩ _
        unfold behP
        simp only [Prod.mk.injEq]
        omega
    · obtain rfl : c = 0 := by omega
      by_cases h2 : r = 0
      · subst h2
        have hnil : befL ls (0, 0) = [] := by
          unfold befL
          rw [List.reverse_eq_nil_iff, List.filter_eq_nil_iff]
          rintro ⟨a, b⟩ _
          simp only [decide_eq_true_eq]
          unfold behP
          simp only
          omega
        have e : prevP ls (toI (0, 0)) = (0, -1) := by unfold prevP toI; simp
        rw [hnil, e]
        show inP ls (0, -1) = false
        rw [← Bool.not_eq_true, inP_iff]
        simp only
        omega
      · have hpos := lenP_pos hne (r := r - 1) (by omega)
        refine step (r - 1, lenP ls (r - 1) - 1) ?_ (places_mem.2 (by simp only; omega)) ?_
        · unfold prevP toI
          simp only
          rw [if_neg (by omega), show (r : Int) - 1 = ((r - 1 : Nat) : Int) by omega, lenI_nat]
          exact Prod.ext rfl (by show (lenP ls (r - 1) : Int) - 1 = ((lenP ls (r - 1) - 1 : Nat) : Int); omega)
        · rintro ⟨a, b⟩ hm
          have hm' := places_mem.1 hm
          simp only at hm'
          unfold behP
          simp only [Prod.mk.injEq]
          by_cases ha : a = r - 1
          · subst ha; omega
          · omega
/-- Where a text stands; by numbers. -/
def standsI (ls : List Ln) (s : ByteArray) (p : Int × Int) : Bool := standsP ls s p.1.toNat p.2.toNat
theorem standsI_nat (ls : List Ln) (s : ByteArray) (p : Nat × Nat) : standsI ls s (toI p) = standsP ls s p.1 p.2 := rfl
/-- What is gone through: what is behind, or ahead. -/
def walkL (ls : List Ln) (back : Bool) (p : Nat × Nat) : List (Int × Int) := (if back = true then befL ls p else aftL ls p).map toI
def foundL (ls : List Ln) (s : ByteArray) (p : Nat × Nat) (back : Bool) : Option (Nat × Nat) := if back = true then findB ls s p else findF ls s p
theorem walk_find (ls : List Ln) (s : ByteArray) (p : Nat × Nat) (back : Bool) : (walkL ls back p).find? (standsI ls s) = (foundL ls s p back).map toI := by
  unfold walkL foundL
  rw [List.find?_map]
  congr 1
  cases back
  · simp only [Bool.false_eq_true, if_false]
    unfold aftL findF
    rw [List.find?_filter]
    congr 1
    funext a
    simp only [Function.comp, standsI_nat]
    rw [Bool.and_comm, Bool.eq_iff_iff]
    simp
  · simp only [if_true]
    unfold befL findB
    rw [← List.filter_reverse, List.find?_filter]
    congr 1
    funext a
    simp only [Function.comp, standsI_nat]
    rw [Bool.and_comm, Bool.eq_iff_iff]
    simp
end Go.Proofs.YteebbmmgbjpihaaDoor
