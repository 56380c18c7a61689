/- The reference's Feed. -/
import Derived.Test.YthkgflghiooboaaWireR
import Derived.Deep.RegionWith
import Derived.Deep.RegionLaw
namespace Go.Proofs.Ythkgflghiooboaa
open Go.RowKit

def RFedAt (r : Fed) (base : Nat) (e : Ending) (w' : World) : Prop :=
  ∃ v, e = .returned (.agg #[.string r.buf, .bool r.dead, v, .int .i64 r.err]) ∧ w'.ownsRow base 23 2 v r.frames.length (flat r.frames)

/-- append to a row of the call's own, as one step of a region that draws. -/
theorem step_append_own {P : Program} {ops : Array Oper} {o : Oper} {a : Act} {w : World} {K : Act → World → Prop} {Q : Exit → Act → World → Prop} {E : Prop}
    (hg : o.guard = none) (s x : Operand) (t : TypeId) (hop : o.op = Op.call { callee := Callee.builtin Builtin.append, args := #[s, x], argTypes := #[t, t] })
    (base : Nat) (e : TypeId) (i : TypeInfo) (z : Value) (size bytes : Nat) (h1 : P.underlying t = some (.slice e)) (h2 : P.info? e = some i) (h3 : i.zero = some z) (h4 : i.size = size) (h5 : i.bytes = bytes) (h6 : z.cells.size = size) (h7 : 0 < size)
    (v : Value) (k : Nat) (xs : List Value) (hs : a.eval s = v) (hown : w.ownsRow base e size v k xs) (ad : Addr) (m c : Nat) (news : List Value) (hx : a.eval x = .slice (some ad) m c) (hn : news.length = m * size)
    (hc : ∀ j u, news[j]? = some u → w.cell? (ad.add j) = some u) (h1c : ∀ u ∈ news, u.oneCell' = true) (b1 : k + m ≤ maxLen) (b2 : (k + m) * bytes ≤ 140737488355328) (b3 : base ≤ w.heap.size)
    (hK : ∀ v' w', w'.ownsRow base e size v' (k + m) (xs ++ news) → w.grownBy w' v.ownBlock → K (a.put o.dst v') w') :
    if Region.wanted o (yielded ops a.tmps) = true then Oper.wp P o a w K Q else E := by
  have hw : Region.wanted o (yielded ops a.tmps) = true := by simp [Region.wanted, hg]
  rw [if_pos hw]
  obtain ⟨v', w', hrun, r1, r2, _⟩ := run_append_own (P := P) w base t o.type e i z size bytes h1 h2 h3 h4 h5 h6 h7 v k xs hown ad m c news hn hc h1c b1 b2 b3
  unfold Oper.wp
  simp [execOp, hop, resolve, invoke, builtin, hs, hx, hrun, Result.andThen]
  exact hK v' w' r1 r2

theorem blk4 {W : World} {R : Nat} {t : TypeId} {a b c d : Value} (h : W.heap[R]? = some (.cells #[a, b, c, d] t (0, 0))) :
    (W.cell? ⟨R, 0, none⟩ = some a ∧ W.cell? ⟨R, 1, none⟩ = some b ∧ W.cell? ⟨R, 2, none⟩ = some c ∧ W.cell? ⟨R, 3, none⟩ = some d) ∧ (W.frozen? ⟨R, 0, none⟩ = false ∧ W.frozen? ⟨R, 1, none⟩ = false ∧ W.frozen? ⟨R, 2, none⟩ = false ∧ W.frozen? ⟨R, 3, none⟩ = false) :=
  ⟨⟨cell_of_row _ _ 0 _ _ _ h, cell_of_row _ _ 1 _ _ _ h, cell_of_row _ _ 2 _ _ _ h, cell_of_row _ _ 3 _ _ _ h⟩, by simp [World.frozen?, h], by simp [World.frozen?, h], by simp [World.frozen?, h], by simp [World.frozen?, h]⟩

theorem row_slice {W : World} {base : Nat} {e : TypeId} {size : Nat} {v : Value} {k : Nat} {xs : List Value} (h : W.ownsRow base e size v k xs) : ∃ A n c, v = .slice A n c := by
  rcases h.2 with ⟨rfl, _⟩ | ⟨g, cap, cur, rfl, _⟩
  · exact ⟨_, _, _, rfl⟩
  · exact ⟨_, _, _, rfl⟩

theorem stored_four {W : World} {B : Nat} {t : TypeId} {a b c d : Value} (h : W.heap[B]? = some (.cells #[a, b, c, d] t (0, 0))) (x y z u : Value) :
    ((((W.setCell ⟨B, 0, none⟩ x).setCell ⟨B, 1, none⟩ y).setCell ⟨B, 2, none⟩ z).setCell ⟨B, 3, none⟩ u).heap[B]? = some (.cells #[x, y, z, u] t (0, 0)) ∧ W.grownBy ((((W.setCell ⟨B, 0, none⟩ x).setCell ⟨B, 1, none⟩ y).setCell ⟨B, 2, none⟩ z).setCell ⟨B, 3, none⟩ u) (some B) := by
  refine ⟨heap_set (heap_set (heap_set (heap_set h x) y) z) u, rfl, rfl, rfl, by simp [World.setCell], fun k _ hk => ?_⟩
  have hk : k ≠ B := fun e => hk (by rw [e])
  exact (Below.heap_setCell _ _ _ _ hk).trans ((Below.heap_setCell _ _ _ _ hk).trans ((Below.heap_setCell _ _ _ _ hk).trans (Below.heap_setCell _ _ _ _ hk)))
theorem grown_set (W : World) (B i : Nat) (u : Value) : W.grownBy (W.setCell ⟨B, i, none⟩ u) (some B) :=
  ⟨rfl, rfl, rfl, by simp [World.setCell], fun k _ hk => Below.heap_setCell _ _ _ _ (fun e => hk (by rw [e]))⟩

theorem framesG_yes {t : ByteArray} (h : standsB t = true) : framesG t = frOf t :: framesG (restOf t) := by unfold framesG; rw [pairsG_yes h]; rfl

set_option maxRecDepth 100000 in
set_option maxHeartbeats 2000000 in
theorem rfeed_yes (buf s : ByteArray) (w : World) (hs : buf.size + s.size ≤ 1000000) (h : rightB buf false = true) :
    Calls Try.prog 10 #[.agg #[.string buf, .bool false], .string s] w fun e w' => RFedAt (feedG buf false s) w.heap.size e w' ∧ Below w.heap.size w w' := by
  have hr := fun W => rright_any buf false W (by unfold maxLen; omega)
  rw [h] at hr
  have hsz : (buf ++ s).size ≤ 1000000 := by rw [ByteArray.size_append]; omega
  have HF : Hid (feedG buf false s = if spoiltB (leftG (buf ++ s)) = true then ⟨⟨#[]⟩, true, framesG (buf ++ s), 4⟩ else ⟨leftG (buf ++ s), false, framesG (buf ++ s), 0⟩) := by
    unfold Hid feedG; rw [if_neg (by simp [h]), if_neg (by simp)]
  clear h
  go_enter Try.func10, Try.ntmps10
  go_wp2_with (go_at_call 12; refine (hr _).mono ?_; rintro e w2 ⟨rfl, hb⟩; obtain ⟨hc, hf⟩ := bcell hb)
  obtain ⟨q, hq⟩ : ∃ q, buf ++ s = q := ⟨_, rfl⟩
  rw [hq] at hsz HF ⊢
  have hz2 : w.heap.size + 1 + 1 ≤ w2.heap.size := by have := hb.size; simp at this; omega
  have hbw : Below w.heap.size w w2 := Below.behind (Below.behind hb)
  have bD : w2.heap[w.heap.size + 1]? = some (.cells #[.string ⟨#[]⟩, .bool false, .slice none 0 0, .int .i64 0] 34 (0, 0)) := by
    refine (hb.block _ (by simp)).trans ?_
    have := heap_alloc_new (w.alloc (.cells #[.string buf, .bool false] 25)) (.cells #[.string ⟨#[]⟩, .bool false, .slice none 0 0, .int .i64 0] 34)
    rw [World.size_alloc] at this
    exact this
  have bT := heap_alloc_new w2 (.cells #[.string ⟨#[]⟩, .bool false, .slice none 0 0, .int .i64 0] 34)
  have bD := (Below.heap_alloc w2 (.cells #[.string ⟨#[]⟩, .bool false, .slice none 0 0, .int .i64 0] 34) _ (by omega)).trans bD
  have hB0 := hbw.alloc hbw.size (.cells #[.string ⟨#[]⟩, .bool false, .slice none 0 0, .int .i64 0] 34)
  obtain ⟨i0, hi, hz0, hz1, hz2'⟩ := info_parts info_fr
  obtain ⟨R, hR⟩ : ∃ R, w2.heap.size = R := ⟨_, rfl⟩
  rw [hR] at bT hz2 ⊢
  clear hq hR hb hc hf hbw
  go_loopw [5] (fun p wr => ∃ (t : ByteArray) (pre : List Fr) (v : Value), p = .string t ∧ leftG q = leftG t ∧ framesG q = pre ++ framesG t ∧ pre.length + t.size ≤ q.size ∧ wr.heap[R]? = some (.cells #[.string ⟨#[]⟩, .bool false, v, .int .i64 0] 34 (0, 0)) ∧
      wr.ownsRow w.heap.size 23 2 v pre.length (flat pre) ∧ wr.heap[w.heap.size + 1]? = some (.cells #[.string ⟨#[]⟩, .bool false, .slice none 0 0, .int .i64 0] 34 (0, 0)) ∧ Below w.heap.size w wr) (fun p _ => strLen p)
  case atStart => exact ⟨q, [], _, rfl, rfl, rfl, by simp, bT, ownsRow_nil' _ _ _ _, bD, hB0⟩
  case round =>
    clear bT bD hB0
    obtain ⟨t, pre, v, rfl, hlg, hfg, hlen, bT, hrow, bD, hB⟩ := hrel
    have hsB := hB.size
    have HLG := hid hlg
    have HFG := hid hfg
    clear hlg hfg
    have hst := fun W => rstands_any t W (by unfold maxLen; omega)
    cases h : standsB t
    · rw [h] at hst
      have hlg : leftG q = t := by rw [HLG.out, leftG_no h]
      have hfg : framesG q = pre := by rw [HFG.out]; unfold framesG; rw [pairsG_no h]; simp
      rw [hlg, hfg] at HF
      have hsp := fun W => rspoilt_any t W (by unfold maxLen; omega)
      have hRD : ¬ R = w.heap.size + 1 := by omega
      have hRD2 : ¬ w.heap.size + 1 = R := by omega
      clear HLG HFG hlg hfg h
      cases hs' : spoiltB t
      · rw [hs'] at hsp
        have HF2 : Hid (feedG buf false s = ⟨t, false, pre, 0⟩) := by unfold Hid; rw [HF.out, if_neg (by simp [hs'])]
        clear HF hs'
        have hb := Below.refl wr.heap.size wr
        go_upto_region 15 with (first | (go_at_call 21; refine (from_ (hst _) hb).mono ?_; rintro e w3 ⟨rfl, hb⟩) | (go_at_call 23; refine (from_ (hsp _) hb).mono ?_; rintro e w4 ⟨rfl, hb⟩))
        have bT4 := (hb.block _ (Array.getElem?_eq_some_iff.1 bT).1).trans bT
        have bD4 := (hb.block _ (Array.getElem?_eq_some_iff.1 bD).1).trans bD
        have hrow4 := kept_below hrow hb
        have hB4 := hB.trans (hb.mono hB.size)
        obtain ⟨A, vn, vc, rfl⟩ := row_slice hrow
        obtain ⟨⟨a0, a1, a2, a3⟩, f0, f1, f2, f3⟩ := blk4 bT4
        obtain ⟨⟨d0, d1, d2, d3⟩, e0, e1, e2, e3⟩ := blk4 bD4
        go_wp2
        have g1 := grown_set w4 R 0 (.string t)
        have bD5 := (g1.block _ (Array.getElem?_eq_some_iff.1 bD4).1 (by simp; omega)).trans bD4
        obtain ⟨bX, g2⟩ := stored_four bD5 (.string t) (.bool false) (.slice A vn vc) (.int .i64 0)
        have row5 := hrow4.kept g1 (.inr (blk_not_row bT4 (by decide) hrow4).symm)
        have rowX := row5.kept g2 (.inr (blk_not_row bD5 (by decide) row5).symm)
        have belX := (hB4.grown g1 hB4.size (fun k e => by cases e; omega)).grown g2 (Nat.le_trans hB4.size g1.size) (fun k e => by cases e; omega)
        obtain ⟨⟨c0, c1, c2, c3⟩, _⟩ := blk4 bX
        exact bodyPost_ret (v := .agg #[.string t, .bool false, .slice A vn vc, .int .i64 0]) (by simp [results, Try.f10, go_sem, c0, c1, c2, c3]) rfl ⟨⟨_, by rw [HF2.out], by rw [HF2.out]; exact rowX⟩, belX⟩
      · rw [hs'] at hsp
        have HF2 : Hid (feedG buf false s = ⟨⟨#[]⟩, true, pre, 4⟩) := by unfold Hid; rw [HF.out, if_pos hs']
        clear HF hs'
        have hb := Below.refl wr.heap.size wr
        go_upto_region 12 with (first | (go_at_call 21; refine (from_ (hst _) hb).mono ?_; rintro e w3 ⟨rfl, hb⟩) | (go_at_call 23; refine (from_ (hsp _) hb).mono ?_; rintro e w4 ⟨rfl, hb⟩))
        have bT4 := (hb.block _ (Array.getElem?_eq_some_iff.1 bT).1).trans bT
        have bD4 := (hb.block _ (Array.getElem?_eq_some_iff.1 bD).1).trans bD
        have hrow4 := kept_below hrow hb
        have hB4 := hB.trans (hb.mono hB.size)
        obtain ⟨A, vn, vc, rfl⟩ := row_slice hrow
        obtain ⟨⟨a0, a1, a2, a3⟩, f0, f1, f2, f3⟩ := blk4 bT4
        obtain ⟨⟨d0, d1, d2, d3⟩, e0, e1, e2, e3⟩ := blk4 bD4
        go_wp2
        have g0 := grown_set w4 R 1 (.bool true)
        have g1 := grown_set (w4.setCell ⟨R, 1, none⟩ (.bool true)) R 3 (.int .i64 4)
        have bT5 := heap_set (i := 1) bT4 (.bool true)
        have bD5 := (g0.block _ (Array.getElem?_eq_some_iff.1 bD4).1 (by simp; omega)).trans bD4
        have bD6 := (g1.block _ (Array.getElem?_eq_some_iff.1 bD5).1 (by simp; omega)).trans bD5
        obtain ⟨bX, g2⟩ := stored_four bD6 (.string ⟨#[]⟩) (.bool true) (.slice A vn vc) (.int .i64 4)
        have row5 := hrow4.kept g0 (.inr (blk_not_row bT4 (by decide) hrow4).symm)
        have row6 := row5.kept g1 (.inr (blk_not_row bT5 (by decide) row5).symm)
        have rowX := row6.kept g2 (.inr (blk_not_row bD6 (by decide) row6).symm)
        have belX := ((hB4.grown g0 hB4.size (fun k e => by cases e; omega)).grown g1 (Nat.le_trans hB4.size g0.size) (fun k e => by cases e; omega)).grown g2 (Nat.le_trans hB4.size (Nat.le_trans g0.size g1.size)) (fun k e => by cases e; omega)
        obtain ⟨⟨c0, c1, c2, c3⟩, _⟩ := blk4 bX
        exact bodyPost_ret (v := .agg #[.string ⟨#[]⟩, .bool true, .slice A vn vc, .int .i64 4]) (by simp [results, Try.f10, go_sem, c0, c1, c2, c3]) rfl ⟨⟨_, by rw [HF2.out], by rw [HF2.out]; exact rowX⟩, belX⟩
    · rw [h] at hst
      obtain ⟨h3, hle⟩ := stands_le h
      have hz := fun W => asks_yes t W h3 (by unfold maxLen; omega)
      have hbd := sizeN_bd t
      have HFG2 : Hid (framesG q = (pre ++ [frOf t]) ++ framesG (restOf t)) := by unfold Hid; rw [HFG.out, framesG_yes h]; simp
      have HLG2 : Hid (leftG q = leftG (restOf t)) := by unfold Hid; rw [HLG.out, leftG_yes h]
      have hfr : frOf t = ⟨byteAt t 0, t.extract 3 (sizeN t - 1)⟩ := rfl
      have hre : restOf t = t.extract (sizeN t) t.size := rfl
      obtain ⟨m, hm⟩ : ∃ m, sizeN t = m + 1 := ⟨sizeN t - 1, by omega⟩
      rw [hm] at hz hbd hfr hre hle
      rw [hfr, hre] at HFG2
      rw [hre] at HLG2
      have hls : (t.extract (m + 1) t.size).size = t.size - (m + 1) := by rw [size_extract']; omega
      have HL := hid hls
      have e0 := byteAt_eq (s := t) (n := 0) (by omega)
      have t0 : (0 : Int) < t.size := by omega
      have t0n : 0 < t.size := by omega
      have t1 : ((m : Int) + 1) ≤ t.size := by omega
      have t1n : m + 1 ≤ t.size := by omega
      have t2 : (m : Int) ≤ t.size := by omega
      have t3 : (3 : Int) ≤ m := by omega
      have t3n : 3 ≤ m := by omega
      have hwr : IntKind.i64.wrap (t[0].toNat : Int) = byteAt t 0 := by rw [e0]; exact IntWalk.i64_in _ (by have := byteAt_bd t 0; omega)
      have hsub : IntKind.i64.wrap ((m : Int) + 1 - 1) = (m : Int) := by rw [IntWalk.i64_in _ (by omega)]; omega
      have hsub2 : IntKind.i64.wrap (m : Int) = (m : Int) := IntWalk.i64_in _ (by omega)
      have E0 := hid e0
      clear hfr hre hm hls e0 h HLG HFG
      have hb := Below.refl wr.heap.size wr
      go_upto_region 9 with (first | (go_at_call 21; refine (from_ (hst _) hb).mono ?_; rintro e w3 ⟨rfl, hb⟩) | (go_at_call 22; refine (from_ (hz _) hb).mono ?_; rintro e w4 ⟨rfl, hb⟩))
      have bT4 := (hb.block _ (Array.getElem?_eq_some_iff.1 bT).1).trans bT
      have bD4 := (hb.block _ (Array.getElem?_eq_some_iff.1 bD).1).trans bD
      have hrow4 : (World.drew w4).ownsRow w.heap.size 23 2 v pre.length (flat pre) := kept_below hrow hb.drew
      have hB4 := hB.trans (hb.mono hB.size)
      have cT0 := cell_of_row _ _ 2 _ _ _ bT4
      have fT0 : w4.frozen? ⟨R, 2, none⟩ = false := by simp [World.frozen?, bT4]
      have hsz4 := hB4.size
      have hRlt : R < w4.heap.size := (Array.getElem?_eq_some_iff.1 bT4).1
      have hRne : ¬ R = w4.heap.size := by omega
      first | go_region_law (refine step_append_own rfl _ _ 30 rfl w.heap.size 23 i0 (.agg #[.int .i64 0, .string ⟨#[]⟩]) 2 24 Try.underlying30 hi hz0 hz1 hz2' rfl (by decide) v pre.length (flat pre) (by simp [Act.eval]) (hrow4.alloc _) ⟨w4.heap.size, 0, none⟩ 1 1 [.int .i64 (byteAt t 0), .string (t.extract 3 m)] (by simp [Act.eval]) rfl (cell_two_new _ _ _ _) (by simp [Value.oneCell']) (by unfold maxLen; omega) (by omega) (by simp; omega) ?_; intro v' w5 hown' hgrow; obtain ⟨g', cap', rfl⟩ := ownsRow_succ hown'; have bT5 := (hgrow.block _ (by have := (Array.getElem?_eq_some_iff.1 bT4).1; simp; omega) (blk_not_row bT4 (by decide) hrow4)).trans ((Below.heap_alloc _ _ _ (Array.getElem?_eq_some_iff.1 bT4).1).trans bT4); have cT5 := cell_of_row _ _ 2 _ _ _ bT5; have fT5 : w5.frozen? ⟨R, 2, none⟩ = false := (by simp [World.frozen?, bT5])) | fail
      all_goals
        go_wp2
        go_roundw
        case rel =>
          have bX := heap_set (i := 2) bT5 (.slice (some ⟨g', 0, none⟩) (pre.length + 1) cap')
          have sg : w5.grownBy (w5.setCell ⟨R, 2, none⟩ (.slice (some ⟨g', 0, none⟩) (pre.length + 1) cap')) (some R) := ⟨rfl, rfl, rfl, by simp [World.setCell], fun k _ hk => Below.heap_setCell _ _ _ _ (fun e => hk (by rw [e]))⟩
          have bD5 := (hgrow.block _ (by have := (Array.getElem?_eq_some_iff.1 bD4).1; simp; omega) (blk_not_row bD4 (by decide) hrow4)).trans ((Below.heap_alloc _ _ _ (Array.getElem?_eq_some_iff.1 bD4).1).trans bD4)
          have hfl : flat pre ++ [.int .i64 (byteAt t 0), .string (t.extract 3 m)] = flat (pre ++ [⟨byteAt t 0, t.extract 3 m⟩]) := by rw [flat_append]; rfl
          rw [hfl] at hown'
          have hb5 : Below w.heap.size w4 w5 := ((Below.refl _ w4).alloc hsz4 _).drew.grown hgrow (by simp; omega) (fun k e => (hrow4.lt k e).1)
          refine ⟨t.extract (m + 1) t.size, pre ++ [⟨byteAt t 0, t.extract 3 m⟩], .slice (some ⟨g', 0, none⟩) (pre.length + 1) cap', rfl, HLG2.out, HFG2.out, by rw [HL.out]; simp; omega, bX, ?_, (sg.block _ (Array.getElem?_eq_some_iff.1 bD5).1 (by simp; omega)).trans bD5, (hB4.trans hb5).setCell (p := ⟨R, 2, none⟩) (by show _ ≤ R; omega) _⟩
          have hlen2 : (pre ++ [(⟨byteAt t 0, t.extract 3 m⟩ : Fr)]).length = pre.length + 1 := by simp
          rw [hlen2]
          exact hown'.kept sg (.inr (blk_not_row bT5 (by decide) hown').symm)
        case measure =>
          show (t.extract (m + 1) t.size).size < t.size
          rw [HL.out]; omega

set_option maxHeartbeats 1000000 in
theorem rfeed_no (buf s : ByteArray) (dead : Bool) (w : World) (hs : buf.size + s.size ≤ 1000000) (h : rightB buf dead = false ∨ dead = true) :
    Calls Try.prog 10 #[.agg #[.string buf, .bool dead], .string s] w fun e w' => RFedAt (feedG buf dead s) w.heap.size e w' ∧ Below w.heap.size w w' := by
  have hr := fun W => rright_any buf dead W (by unfold maxLen; omega)
  by_cases hR : rightB buf dead = false
  · have HF : Hid (feedG buf dead s = ⟨⟨#[]⟩, false, [], 1⟩) := by unfold Hid feedG; rw [if_pos hR]
    rw [hR] at hr
    clear h hR
    go_enter Try.func10, Try.ntmps10
    go_wp2_with (go_at_call 12; refine (hr _).mono ?_; rintro e w2 ⟨rfl, hb⟩; obtain ⟨hc, hf⟩ := bcell hb)
    have hz2 : w.heap.size + 1 + 1 ≤ w2.heap.size := by have := hb.size; simp at this; omega
    have bD : w2.heap[w.heap.size + 1]? = some (.cells #[.string ⟨#[]⟩, .bool false, .slice none 0 0, .int .i64 0] 34 (0, 0)) := by
      refine (hb.block _ (by simp)).trans ?_
      have := heap_alloc_new (w.alloc (.cells #[.string buf, .bool dead] 25)) (.cells #[.string ⟨#[]⟩, .bool false, .slice none 0 0, .int .i64 0] 34)
      rw [World.size_alloc] at this
      exact this
    obtain ⟨bX, sg⟩ := stored_four bD (.string ⟨#[]⟩) (.bool false) (.slice none 0 0) (.int .i64 1)
    obtain ⟨⟨c0, c1, c2, c3⟩, _⟩ := blk4 bX
    have hbw : Below w.heap.size w w2 := Below.behind (Below.behind hb)
    exact bodyPost_ret (v := .agg #[.string ⟨#[]⟩, .bool false, .slice none 0 0, .int .i64 1]) (by simp [results, Try.f10, go_sem, c0, c1, c2, c3]) rfl ⟨⟨_, by rw [HF.out], by rw [HF.out]; exact ownsRow_nil' _ _ _ _⟩, hbw.grown sg hbw.size (fun k e => by cases e; omega)⟩
  · obtain rfl : dead = true := h.resolve_left hR
    have hR : rightB buf true = true := by simpa using hR
    have HF : Hid (feedG buf true s = ⟨⟨#[]⟩, false, [], 8⟩) := by unfold Hid feedG; rw [if_neg (by simp [hR]), if_pos rfl]
    rw [hR] at hr
    clear h hR
    go_enter Try.func10, Try.ntmps10
    go_wp2_with (go_at_call 12; refine (hr _).mono ?_; rintro e w2 ⟨rfl, hb⟩; obtain ⟨hc, hf⟩ := bcell hb)
    have hz2 : w.heap.size + 1 + 1 ≤ w2.heap.size := by have := hb.size; simp at this; omega
    have bD : w2.heap[w.heap.size + 1]? = some (.cells #[.string ⟨#[]⟩, .bool false, .slice none 0 0, .int .i64 0] 34 (0, 0)) := by
      refine (hb.block _ (by simp)).trans ?_
      have := heap_alloc_new (w.alloc (.cells #[.string buf, .bool true] 25)) (.cells #[.string ⟨#[]⟩, .bool false, .slice none 0 0, .int .i64 0] 34)
      rw [World.size_alloc] at this
      exact this
    obtain ⟨bX, sg⟩ := stored_four bD (.string ⟨#[]⟩) (.bool false) (.slice none 0 0) (.int .i64 8)
    obtain ⟨⟨c0, c1, c2, c3⟩, _⟩ := blk4 bX
    have hbw : Below w.heap.size w w2 := Below.behind (Below.behind hb)
    exact bodyPost_ret (v := .agg #[.string ⟨#[]⟩, .bool false, .slice none 0 0, .int .i64 8]) (by simp [results, Try.f10, go_sem, c0, c1, c2, c3]) rfl ⟨⟨_, by rw [HF.out], by rw [HF.out]; exact ownsRow_nil' _ _ _ _⟩, hbw.grown sg hbw.size (fun k e => by cases e; omega)⟩

theorem rfeed_any (buf s : ByteArray) (dead : Bool) (w : World) (hs : buf.size + s.size ≤ 1000000) :
    Calls Try.prog 10 #[.agg #[.string buf, .bool dead], .string s] w fun e w' => RFedAt (feedG buf dead s) w.heap.size e w' ∧ Below w.heap.size w w' := by
  by_cases h : rightB buf dead = false ∨ dead = true
  · exact rfeed_no buf s dead w hs h
  · cases dead
    · exact rfeed_yes buf s w hs (by simpa using h)
    · exact absurd (Or.inr rfl) h
end Go.Proofs.Ythkgflghiooboaa
