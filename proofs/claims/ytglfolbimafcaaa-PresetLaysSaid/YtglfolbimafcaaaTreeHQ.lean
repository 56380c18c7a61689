/- Layer 11, the package: handOn, which hands on a tree that is only read. -/
import Derived.Test.YtglfolbimafcaaaRangeWQ
import Derived.Test.YtglfolbimafcaaaTreeB2Q
import Derived.Shelf.Abstract
import Derived.Shelf.RegionOpen
import Derived.OwnWalkIn
import Derived.TacticsInMore
import Derived.LoopNIn
import Derived.LoopIn
import Derived.Sort.CutIn
import Derived.Stop.RegionWithIn
namespace Go.Proofs.Ytglfolbimafcaaa
open Go.RowKit Go.Shelf
attribute [local go_sem] Oper.semAt_some

structure Nd where
  g : Nat
  o : Nat
  t : Tr
  q : Rc
def Nd.itm (x : Nd) : Tr × Rc := (x.t, x.q)
def NdOk (w0 : World) (x : Nd) : Prop := NodeAt w0 x.g x.o x.t ∧ cntT x.t ≤ 1000
abbrev It (w0 : World) : Type := { x : Nd // NdOk w0 x }
abbrev itEnc {w0 : World} (x : It w0) : Array Value := #[.pointer (some ⟨x.val.g, x.val.o, none⟩), .agg x.val.q.row]
def itms {w0 : World} (l : List (It w0)) : List (Tr × Rc) := l.map fun x => x.val.itm
theorem itms_append {w0 : World} (a b : List (It w0)) : itms (a ++ b) = itms a ++ itms b := List.map_append ..
/-- What lay below B lies as it lay, and so do these boxes. -/
def KeptR (B : Nat) (E : List Nat) (X Y : World) : Prop := Below B X Y ∧ ∀ b ∈ E, ∀ cs, Box X b 50 cs → Box Y b 50 cs
theorem KeptR.trans {B : Nat} {E : List Nat} {X Y Z : World} (h : KeptR B E X Y) (k : KeptR B E Y Z) : KeptR B E X Z := ⟨h.1.trans k.1, fun b hE cs hb => k.2 b hE cs (h.2 b hE cs hb)⟩
theorem KeptR.tail {B b : Nat} {E : List Nat} {X Y : World} (h : KeptR B (b :: E) X Y) : KeptR B E X Y := ⟨h.1, fun c hE => h.2 c (List.mem_cons_of_mem _ hE)⟩
theorem KeptR.of_below {B : Nat} {E : List Nat} {X Y : World} (hB : B ≤ X.heap.size) (h : Below X.heap.size X Y) : KeptR B E X Y := ⟨h.mono hB, fun _ _ _ hb => hb.below h hb.lt⟩
theorem KeptR.put {B : Nat} {w : World} (hn : B ≤ w.heap.size) (E : List Nat) (W : World) (l : Nat) (o o' : Obj) (hl : w.heap.size ≤ l) (h : W.heap[l]? = some o) (h1 : o.isCells = false) (h2 : o.isWalk = false) : KeptR B E W (W.putObj l o') :=
  ⟨belowK_b (w := w) hn W l o o' hl h h1 h2, fun _ _ _ hb => (World.putObj_heap_other (box_not hb h h1).symm).trans hb⟩
/-- A box that came behind is stored into. -/
theorem KeptR.set {B b i : Nat} {E : List Nat} {X Y : World} (h : KeptR B E X Y) (hB : B ≤ X.heap.size) (hn : X.heap.size ≤ b) (u : Value) : KeptR B E X (Y.setCell ⟨b, i, none⟩ u) :=
  ⟨h.1.setCell (by simp; omega) u, fun b' hE _ hb => (h.2 b' hE _ hb).other (by have := hb.lt; omega) u⟩
theorem row_size (q : Rc) : q.row.size = 5 := rfl
theorem row_cut (q : Rc) (k s : Int) : q.row.setIfInBounds (cellsO k) (.int .i64 s) = (q.cut k s).row := by
  unfold cellsO Rc.cut
  split <;> rfl
theorem row_on (q : Rc) (k s : Int) : q.row.setIfInBounds (fromO k) (.int .i64 (w64 ((if k = 1 then q.x else q.y) + w64 (s + 1)))) = (q.on k s).row := by
  unfold fromO Rc.on
  split <;> rfl
theorem row_cells (q : Rc) (k : Int) : q.row[cellsO k]? = some (.int .i64 (q.cells k)) := by
  unfold cellsO Rc.cells
  split <;> rfl
theorem row_from (q : Rc) (k : Int) : q.row[fromO k]? = some (.int .i64 (if k = 1 then q.x else q.y)) := by
  unfold fromO
  split <;> rfl
theorem row_pane (q : Rc) (p : Int) : q.row.setIfInBounds 0 (.int .i64 p) = ({ q with pane := p } : Rc).row := rfl
theorem cnt_drop : ∀ (l : List Tr) (j : Nat), cntL (l.drop j) ≤ cntL l
  | [], j => by simp
  | t :: r, 0 => Nat.le_refl _
  | t :: r, j + 1 => by rw [List.drop_succ_cons, cntL]; have := cnt_drop r j; omega
/-- What handOn comes to. -/
def HandPost (w0 W : World) (E : List Nat) (J : List Nat → List (It w0) → World → Prop) (Jx : List (It w0) → World → Prop) (pre : List (It w0)) (t : Tr) (q : Rc) (e : Ending) (W' : World) : Prop :=
  (e = .returned (.bool true) ∧ ∃ ys, itms ys = items q t ∧ J E (pre ++ ys) W' ∧ KeptR w0.heap.size E W W') ∨ (e = .returned (.bool false) ∧ ∃ zs, itms zs <+: items q t ∧ Jx (pre ++ zs) W')
theorem abides_b {β : Type} {B : Nat} {J : β → World → Prop} (h : AbidesFrom B J) {s : β} {W W' : World} (hs : J s W) (hb : Below W.heap.size W W') : J s W' :=
  h s W W' none hs ⟨hb.os, hb.tape, hb.output, hb.size, fun k hk _ => hb.block k hk⟩ (fun r e => by cases e)
set_option maxRecDepth 100000 in
set_option maxHeartbeats 4000000 in
theorem hand_any (w0 : World) (B l N : Nat) (J : List Nat → List (It w0) → World → Prop) (Jx : List (It w0) → World → Prop) (hJ : ∀ E, AbidesFrom B (J E)) (hJb : AbidesBox 50 B J)
    (hY : ∀ E pre (x : It w0) W1, J E pre W1 → pre.length < N → YieldAt Fence.wide 0 Try.prog l (itEnc x) W1 fun e W' =>
      (e = .returned (.bool true) ∧ J E (pre ++ [x]) W' ∧ KeptR w0.heap.size E W1 W') ∨ (e = .returned (.bool false) ∧ Jx (pre ++ [x]) W')) :
    ∀ (n : Nat) (t : Tr) (g o : Nat) (q : Rc) (E : List Nat) (pre : List (It w0)) (W : World), cntT t ≤ n → NodeAt w0 g o t → cntT t ≤ 1000 → Below w0.heap.size w0 W → B ≤ W.heap.size → J E pre W → pre.length + cntT t ≤ N →
      Calls Try.prog 48 #[.pointer (some ⟨g, o, none⟩), .agg q.row, .func (.yield l) #[] #[]] W (HandPost w0 W E J Jx pre t q)
  | 0, t, _, _, _, _, _, _, h, _, _, _, _, _, _ => by have := cnt_pos t; omega
  | n + 1, t, g, o, q, E, pre, W, hc, hnd, h1000, hbw, hB, hj, hN => by
    have IH := hand_any w0 B l N J Jx hJ hJb hY n
    refine (callsIn_wide (n := 1)).1 (callsIn_of_wp Try.func48 rfl trivial ?_ rfl)
    simp only [Try.ntmps48, List.size_toArray, List.length_cons, List.length_nil, Nat.reduceAdd, Nat.reduceSub, Array.replicate_succ, Array.replicate_zero, List.push_toArray, List.append_toArray, List.nil_append, List.cons_append]
    have HND := hid hnd
    have hnw := hnd.below hbw
    obtain ⟨kv, c0, c1, c2, c3, hkv⟩ := hnw
    obtain ⟨kk, hkk⟩ : ∃ kk, t.kind = kk := ⟨_, rfl⟩
    obtain ⟨kp, hkp⟩ : ∃ kp, t.pane = kp := ⟨_, rfl⟩
    rw [hkk] at c0
    rw [hkp] at c1
    have hg : g < W.heap.size := by obtain ⟨_, ho, _⟩ := cells_of_cell c0; exact (Array.getElem?_eq_some_iff.1 ho).1
    have hba := below_alloc W (.cells q.row 50)
    have hbx := Box.new W 50 q.row
    have d1 := (hba.cell (p := ⟨g, o + 1, none⟩) hg).trans c1
    have f0 := hbx.free 0
    have b0 := hbx.cell 0
    gi_upto_region 2 with fail
    obtain ⟨q', hq'⟩ : ∃ q' : Rc, ({ q with pane := kp } : Rc) = q' := ⟨_, rfl⟩
    have hrow : q.row.setIfInBounds 0 (.int .i64 kp) = q'.row := by rw [← hq']; rfl
    rw [hrow]
    have hit : items q t = (t, q') :: itemsL kk q' t.kids := by
      cases t
      simp only [Tr.pane, Tr.kind] at hkp hkk
      subst hkp hkk
      rw [items, hq']
      rfl
    have hok : NdOk w0 ⟨g, o, t, q'⟩ := ⟨HND.out, h1000⟩
    have hbx1 := Box.new W 50 q'.row
    have hb1 := below_alloc W (.cells q'.row 50)
    obtain ⟨bx, hbxe⟩ : ∃ bx, W.heap.size = bx := ⟨_, rfl⟩
    have hj1 := hJb.new E pre W q'.row hj hB
    rw [hbxe] at hbx1 hj1 ⊢
    generalize W.alloc (.cells q'.row 50) = W1 at *
    have hbw1 := hbw.trans (hb1.mono hbw.size)
    have hNp : pre.length < N := by have := cnt_pos t; omega
    have hk1 : KeptR w0.heap.size E W W1 := KeptR.of_below hbw.size hb1
    have hyy := hY (bx :: E) pre (⟨⟨g, o, t, q'⟩, hok⟩ : It w0) W1 hj1 hNp
    obtain ⟨⟨l0, l1, l2, l3, l4⟩, _⟩ := Box.five (show Box W1 bx 50 #[.int .i64 q'.pane, .int .i64 q'.x, .int .i64 q'.y, .int .i64 q'.w, .int .i64 q'.h] from hbx1)
    obtain ⟨fn, tmps, assign, body, hy, hR⟩ := hyy
    dsimp only [itEnc, Rc.row] at hy
    clear hba hbx d1 f0 b0 c0 c1 c2 c3 hkv hj hb1
    gi_wp2
    refine hR.mono ?_
    clear hR hy l0 l1 l2 l3 l4
    rintro e W2 (⟨rfl, hj2, hk2⟩ | ⟨rfl, hx2⟩)
    · have hbx2 := hk2.2 bx (List.mem_cons_self ..) _ hbx1
      have hbw2 := hbw1.trans hk2.1
      have hk12 := hk1.trans hk2.tail
      obtain ⟨kv, c0, c1, c2, c3, hkv⟩ := HND.out
      rw [hkk] at c0
      have hg0 : g < w0.heap.size := by obtain ⟨_, ho, _⟩ := cells_of_cell c0; exact (Array.getElem?_eq_some_iff.1 ho).1
      have HKID := hid (fun j kd (hj : t.kids[j]? = some kd) => hkv.kid hj)
      obtain ⟨kA, kc, rfl, hcap⟩ := hkv.spell
      obtain ⟨m, hm⟩ : ∃ m, t.kids.length = m := ⟨_, rfl⟩
      have hm1 : m ≤ 1000 := by have := len_cnt t.kids; cases t; simp only [Tr.kids, cntT] at *; omega
      rw [hm] at c3 hcap HKID
      have HC3 := hid c3
      have e0 := (hbw2.cell (p := ⟨g, o, none⟩) hg0).trans c0
      have HA := hid (fun W' => along_any bx kk W')
      have hx1 := hid (show itms [(⟨⟨g, o, t, q'⟩, hok⟩ : It w0)] ++ itemsL kk q' (t.kids.drop 0) = items q t by rw [hit]; rfl)
      clear c0 c1 c2 c3 hkv hk2 hbx1 hj1 hbw1 hk1
      gi_wp2_with ((try refine ⟨trivial, ?_⟩); gi_at_call 37; refine (callsIn_wide.2 (HA.out _)).mono ?_; rintro e w3 ⟨rfl, hb3⟩; have c33 := (hb3.cell (p := ⟨g, o + 3, none⟩) (Nat.lt_of_lt_of_le hg0 hbw2.size)).trans ((hbw2.cell (p := ⟨g, o + 3, none⟩) hg0).trans HC3.out))
      have hj3 := abides_b (hJ _) hj2 hb3
      have hbx3 := hbx2.below hb3 hbx2.lt
      have hk3 := hk12.trans (KeptR.of_below hbw2.size hb3)
      have hbw3 := hbw2.trans (hb3.mono hbw2.size)
      clear hj2 hbx2 hk12 hbw2 hb3 e0 c33
      gi_loopw [34] (fun i wr => ∃ (j : Nat) (ys : List (It w0)) (qj : Rc), i = .int .i64 j ∧ j ≤ m ∧ itms ys ++ itemsL kk qj (t.kids.drop j) = items q t ∧ J (bx :: E) (pre ++ ys) wr ∧ Box wr bx 50 qj.row ∧ KeptR w0.heap.size E W wr ∧ Below w0.heap.size w0 wr) (fun i _ => m - (intOf i).toNat)
      case atStart => exact ⟨0, [(⟨⟨g, o, t, q'⟩, hok⟩ : It w0)], q', rfl, Nat.zero_le _, hx1.out, hj3, hbx3, hk3, hbw3⟩
      case round =>
        obtain ⟨j, ys, qj, rfl, hjm, hit2, hjw, hbxr, hkr, hbwr⟩ := hrel
        by_cases hlt : j < m
        · have hji : (j : Int) < m := by omega
          have hmi : (m : Int) ≤ 1000 := by omega
          have hltl : j < t.kids.length := by rw [hm]; exact hlt
          obtain ⟨kd, hkd⟩ : ∃ kd, t.kids[j]? = some kd := ⟨_, List.getElem?_eq_getElem hltl⟩
          obtain ⟨kg, ko, kc', he, _, hkn, _⟩ := HKID.out j kd hkd
          cases he
          have HKN := hid hkn
          have hdr : t.kids.drop j = kd :: t.kids.drop (j + 1) := by
            rw [List.getElem?_eq_getElem hltl] at hkd
            cases hkd
            exact List.drop_eq_getElem_cons hltl
          have hcn : cntT kd ≤ n ∧ cntT kd ≤ 1000 := by
            have h1 := cnt_drop t.kids j
            rw [hdr, cntL] at h1
            cases t
            simp only [Tr.kids, cntT] at *
            omega
          rw [hdr, itemsL] at hit2
          obtain ⟨ks, hks⟩ : ∃ ks, kd.size = ks := ⟨_, rfl⟩
          rw [hks] at hit2
          obtain ⟨kv, _, _, c2, _, _⟩ := hkn
          rw [hks] at c2
          have hkg : kg < w0.heap.size := by obtain ⟨_, ho, _⟩ := cells_of_cell c2; exact (Array.getElem?_eq_some_iff.1 ho).1
          have HC2 := hid c2
          have hHIT := hid hit2
          have hNy : pre.length + ys.length + cntT kd ≤ N := by
            have h1 := congrArg List.length hit2
            rw [items_len, List.length_append, List.length_append, items_len, itms, List.length_map] at h1
            omega
          have r3 := (hbwr.cell (p := ⟨g, o + 3, none⟩) hg0).trans HC3.out
          have r2 := (hbwr.cell (p := ⟨kg, ko + j * 4 + 2, none⟩) hkg).trans c2
          have y0 := (hbxr.cell (cellsO kk)).trans (row_cells qj kk)
          have f0 := hbxr.free (cellsO kk)
          clear hit2 hdr hkd c2 hltl
          gi_upto_region 10 with fail
          have hbx4 : Box (wr.setCell ⟨bx, cellsO kk, none⟩ (.int .i64 ks)) bx 50 (qj.cut kk ks).row := by
            have := hbxr.set (i := cellsO kk) (.int .i64 ks)
            rwa [row_cut] at this
          have hbxW : W.heap.size ≤ bx := by omega
          have hj4 := hJb.set _ _ _ bx _ (cellsO kk) (.int .i64 ks) hjw (List.mem_cons_self ..) (by omega) hbxr
          have hk4 := hkr.set (i := cellsO kk) hbw.size hbxW (.int .i64 ks)
          have hbw4 := hbw.trans hk4.1
          generalize wr.setCell ⟨bx, cellsO kk, none⟩ (.int .i64 ks) = w4 at *
          have hIH := IH kd kg (ko + j * 4) (qj.cut kk ks) (bx :: E) (pre ++ ys) w4 hcn.1 HKN.out hcn.2 hbw4 (Nat.le_trans hB hk4.1.size) hj4 (by rw [List.length_append]; omega)
          obtain ⟨qc, hqc⟩ : ∃ qc, qj.cut kk ks = qc := ⟨_, rfl⟩
          rw [hqc] at hbx4 hIH
          obtain ⟨⟨l0, l1, l2, l3, l4⟩, _⟩ := Box.five (show Box w4 bx 50 #[.int .i64 qc.pane, .int .i64 qc.x, .int .i64 qc.y, .int .i64 qc.w, .int .i64 qc.h] from hbx4)
          have HIH := hid hIH
          clear hIH r3 r2 y0 f0 hjw hbxr hkr hbwr hj4
          gi_wp2_with ((try refine ⟨trivial, ?_⟩); gi_at_call 48; refine (callsIn_wide.2 HIH.out).mono ?_; rintro e w5 (⟨rfl, zs, hz, hj5, hk5⟩ | ⟨rfl, us, hu, hx5⟩))
          · have hbx5 := hk5.2 bx (List.mem_cons_self ..) _ hbx4
            have hk45 := hk4.trans hk5.tail
            have hbw5 := hbw4.trans hk5.1
            have x2 := (hbw5.cell (p := ⟨kg, ko + j * 4 + 2, none⟩) hkg).trans HC2.out
            obtain ⟨fx, hfx⟩ : ∃ fx, (if kk = 1 then qc.x else qc.y) = fx := ⟨_, rfl⟩
            have yf := (hbx5.cell (fromO kk)).trans (row_from qc kk)
            rw [hfx] at yf
            have yz := hbx5.free (fromO kk)
            clear l0 l1 l2 l3 l4 HIH hbx4 hk4 hbw4 hk5
            have hbx6 : Box (w5.setCell ⟨bx, fromO kk, none⟩ (.int .i64 (wrap64 (fx + wrap64 (ks + 1))))) bx 50 (qc.on kk ks).row := by
              have h1 := hbx5.set (i := fromO kk) (.int .i64 (wrap64 (fx + wrap64 (ks + 1))))
              have h2 := row_on qc kk ks
              rw [hfx] at h2
              rw [← h2]
              exact h1
            have hj6 := hJb.set _ _ _ bx _ (fromO kk) (.int .i64 (wrap64 (fx + wrap64 (ks + 1)))) hj5 (List.mem_cons_self ..) (by omega) hbx5
            have hk6 := hk45.set (i := fromO kk) hbw.size hbxW (.int .i64 (wrap64 (fx + wrap64 (ks + 1))))
            have hj7 := abides_b (hJ _) hj6 (below_drew _ 1)
            have hk7 := hk6.trans (KeptR.of_below (Nat.le_trans hbw.size hk6.1.size) (below_drew _ 1))
            have hbw7 := hbw.trans hk7.1
            have hI7 : itms (ys ++ zs) ++ itemsL kk (qc.on kk ks) (t.kids.drop (j + 1)) = items q t := by
              rw [itms_append, hz, List.append_assoc, ← hqc]
              exact hHIT.out
            rw [List.append_assoc] at hj7
            have HX := hid (And.intro hI7 (And.intro hj7 (And.intro hbx6 (And.intro hk7 hbw7))))
            clear hI7 hj7 hbx6 hk7 hbw7 hj6 hk6 hHIT hz
            gi_region
            gi_wp2
            go_roundw
            case rel => exact ⟨j + 1, ys ++ zs, qc.on kk ks, by go_num, by omega, HX.out.1, HX.out.2.1, HX.out.2.2.1, HX.out.2.2.2.1, HX.out.2.2.2.2⟩
            case measure => simp [intOf]; omega
          · have HP := hid (show itms (ys ++ us) <+: items q t by
              rw [itms_append, ← hHIT.out, hqc]
              obtain ⟨tl, htl⟩ := hu
              exact ⟨tl ++ itemsL kk (qc.on kk ks) (t.kids.drop (j + 1)), by rw [← htl]; simp only [List.append_assoc]⟩)
            rw [List.append_assoc] at hx5
            clear hu hHIT
            go_ret
            exact .inr ⟨rfl, _, HP.out, hx5⟩
        · have hjm' : j = m := by omega
          subst hjm'
          have HV : Hid (itms ys = items q t) := by unfold Hid; rw [← hit2, ← hm, List.drop_length, itemsL, List.append_nil]
          have HJ := hid (hJb.drop _ _ _ _ hjw)
          have HK := hid hkr
          clear hit2 hjw hkr hbxr hbwr hlt
          gi_wp2
          go_ret
          exact .inl ⟨rfl, ys, HV.out, HJ.out, HK.out⟩
    · have HP := hid (show itms [(⟨⟨g, o, t, q'⟩, hok⟩ : It w0)] <+: items q t by rw [hit]; exact ⟨_, rfl⟩)
      clear hit
      gi_wp2
      go_ret
      exact .inr ⟨rfl, _, HP.out, hx2⟩
end Go.Proofs.Ytglfolbimafcaaa
