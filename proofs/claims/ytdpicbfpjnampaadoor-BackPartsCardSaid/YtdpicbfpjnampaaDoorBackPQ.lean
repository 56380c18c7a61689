/- Layer 7, the package: lines kept, taken, looked at. -/
import Derived.Test.YtdpicbfpjnampaaDoorBackCQ
import Derived.Test.YtdpicbfpjnampaaDoorBackKQ
import Derived.Deep.RegionWith
namespace Go.Proofs.YtdpicbfpjnampaaDoor
open Go.RowKit

theorem wpList_append_full {ops : Array Oper} {rest : List Oper} {o : Oper} {a : Act} {w : World} {Q : Exit → Act → World → Prop} (hw : Region.wanted o (yielded ops a.tmps) = true) (s x : Operand)
    (ho : o.op = .call { callee := .builtin .append, args := #[s, x], argTypes := #[22, 22] }) (A : Option Addr) (k : Nat) (xv : Value) (l m : List (Ln × Value))
    (hs : a.eval s = .slice A k k) (hk : l.length = k) (hl : LR w (.slice A k k) l) (hxe : a.eval x = xv) (hx : LR w xv m) (hm : CesOf w m) (hb : k + m.length ≤ 1000000)
    (h : ∀ v' w', ((v' = .slice A k k ∧ m = [] ∧ w = w') ∨ (OwnL w' w.heap.size v' (l ++ m) ∧ Below w.heap.size w w')) → wpList Tryd.prog ops Q rest (a.put o.dst v') w') : wpList Tryd.prog ops Q (o :: rest) a w := by
  simp only [wpList, hw, if_true]
  left
  unfold Oper.wp
  by_cases hmn : m = []
  · subst hmn
    obtain ⟨B, c, rfl⟩ := hx.spell
    simp [execOp, ho, resolve, invoke, builtin, hs, hxe, run_append_ln_zero w o.type A B k k 0 c rfl (Nat.le_refl _), Result.andThen]
    exact h _ _ (.inl ⟨rfl, rfl, rfl⟩)
  · have hpos : 0 < m.length := List.length_pos_iff.2 hmn
    obtain ⟨v', w', hrun, h2, h3⟩ := run_append_ln_grow w A k k xv l m hl hk hx hm (by omega) (Nat.le_refl _) hb
    simp [execOp, ho, resolve, invoke, builtin, hs, hxe, hrun, Result.andThen]
    exact h v' w' (.inr ⟨h2, h3⟩)
/-- Lines that lie in a slice of old, or in one of the call's own. -/
def LQ (W w' : World) (v : Value) (l : List (Ln × Value)) : Prop := LR W v l ∨ LSl w' W.heap.size v l
theorem LSl.spell' {W : World} {base : Nat} {v : Value} {l : List (Ln × Value)} (h : LSl W base v l) : ∃ A c, v = .slice A l.length c := h.row.spell
theorem LQ.spell {W w' : World} {v : Value} {l : List (Ln × Value)} (h : LQ W w' v l) : ∃ A c, v = .slice A l.length c := h.elim LR.spell LSl.spell'
theorem LQ.set {W w' : World} {b i : Nat} {t : TypeId} {cs : Array Value} {v : Value} {l : List (Ln × Value)} (h : LQ W w' v l) (hb : Box w' b t cs) (ht : t ≠ 57) (u : Value) : LQ W (w'.setCell ⟨b, i, none⟩ u) v l :=
  h.elim .inl (fun h => .inr (h.set hb ht u))
theorem LQ.row {W w' : World} {v : Value} {l : List (Ln × Value)} (h : LQ W w' v l) (hb : Below W.heap.size W w') : LR w' v l := h.elim (fun h => h.below hb) LSl.row

def BOut (W : World) (mx : Int) (ok : Bool) (tgt : List (Ln × Value)) (e : Ending) (w' : World) : Prop :=
  ∃ xc A k c xn, e = .returned (.tuple #[.agg #[.int .i64 xc, .slice A k c], .int .i64 xn]) ∧ Below W.heap.size W w' ∧
    ((ok = true ∧ xc = mx ∧ xn = 0 ∧ LR w' (.slice A k c) tgt) ∨ (ok = false ∧ xc = 0 ∧ (.slice A k c : Value) = .slice none 0 0 ∧ xn = 1))
theorem BOut.no {W w' : World} {mx : Int} {tgt : List (Ln × Value)} {e : Ending} (h : e = .returned (.tuple #[.agg #[.int .i64 0, .slice none 0 0], .int .i64 1])) (hb : Below W.heap.size W w') : BOut W mx false tgt e w' :=
  ⟨0, none, 0, 0, 1, h, hb, .inr ⟨rfl, rfl, rfl, rfl⟩⟩

/-- Appended to lines without room: in a slice of old, or of the call's own. -/
theorem lq_full {W w w' : World} {A : Option Addr} {k : Nat} {v' : Value} {l m : List (Ln × Value)} (hl : LR W (.slice A k k) l) (hW : Below W.heap.size W w) (h : (v' = .slice A k k ∧ m = [] ∧ w = w') ∨ (OwnL w' w.heap.size v' (l ++ m) ∧ Below w.heap.size w w')) :
    LQ W w' v' (l ++ m) ∧ Below w.heap.size w w' := by
  rcases h with ⟨rfl, rfl, rfl⟩ | ⟨h1, h2⟩
  · exact ⟨.inl (by rw [List.append_nil]; exact hl), Below.refl _ _⟩
  · refine ⟨.inr ?_, h2⟩
    rcases h1.lsl with h | ⟨g, cap, h3, h4, h5⟩
    · exact .inl h
    · exact .inr ⟨g, cap, h3, Nat.le_trans hW.size h4, h5⟩

set_option maxRecDepth 100000 in
set_option maxHeartbeats 1000000 in
theorem push_any (mx : Int) (v u : Value) (lv ll : List (Ln × Value)) (W : World) (hr : LR W v lv) (hc : CesOf W lv) (hs : Sm lv) (hr2 : LR W u ll) (hc2 : CesOf W ll) (hs2 : Sm ll) (hT : Tab W) (hW : TabW W) :
    Calls Tryd.prog 35 #[.agg #[.int .i64 mx, v], u] W (BOut W mx (backB mx lv && keptB ll) (lastN mx.toNat (lv ++ ll))) := by
  have hR := fun W' (hb : Below W.heap.size W W') => bRight_any mx v lv W' (hr.below hb) (hc.below hb) hs (hT.below hb) (hW.below hb)
  have hK := fun W' (hb : Below W.heap.size W W') => mayKept_any u ll W' (hr2.below hb) (hc2.below hb) hs2 (hT.below hb) (hW.below hb)
  have hC1 := fun q W' h0 h1 => bcut_any u ll q W W' hr2 h0 h1 hs2.1
  have hC2 := fun q W' h0 h1 => bcut_any v lv q W W' hr h0 h1 hs.1
  have hfin : ∀ m : Nat, mx = m → lastN (m - min m ll.length) lv ++ lastN m ll = lastN mx.toNat (lv ++ ll) := by
    rintro m rfl
    rw [Int.toNat_natCast, ← push_last, lastN_length]
  have hsz := hs.1
  have hsz2 := hs2.1
  have hsp := hr.spell
  obtain ⟨A, c, rfl⟩ := hsp
  have hsp := hr2.spell
  obtain ⟨B, d, rfl⟩ := hsp
  have hbk := fun h => backB_iff.1 (show backB mx lv = true from h)
  have b0 := ((Bxs.nil W).alloc 61 #[.int .i64 mx, .slice A lv.length c]).alloc 61 #[.int .i64 0, .slice none 0 0]
  simp only [World.size_alloc, List.nil_append, List.cons_append] at b0
  have h0 : Below W.heap.size W ((W.alloc (.cells #[.int .i64 mx, .slice A lv.length c] 61)).alloc (.cells #[.int .i64 0, .slice none 0 0] 61)) := (below_alloc _ _).alloc (by simp) _
  obtain ⟨n, hn⟩ : ∃ n, lv.length = n := ⟨_, rfl⟩
  obtain ⟨m, hm⟩ : ∃ m, ll.length = m := ⟨_, rfl⟩
  rw [hn] at hR hC2 b0 h0 ⊢
  rw [hm] at hK hC1 ⊢
  have HN := hid hn
  have HM := hid hm
  have HR := hid hR
  have HK := hid hK
  have HC1 := hid hC1
  have HC2 := hid hC2
  have HF := hid hfin
  have HBK := hid hbk
  have HL := hid hr
  have HL2 := hid hr2
  have HCE := hid hc
  have HCE2 := hid hc2
  have BX0 := hid b0
  have H0 := hid h0
  have HSZ := hid hsz
  have HSZ2 := hid hsz2
  generalize hRv : backB mx lv = R at *
  generalize hKv : keptB ll = K at *
  have HRV := hid hRv
  clear hR hK hC1 hC2 hfin b0 h0 hr hc hs hr2 hc2 hs2 hT hW hn hm hsz hsz2 hbk hRv hKv
  cases R
  · rw [Bool.false_and]
    go_enter Tryd.func35, Tryd.ntmps35
    go_upto_region 1 with fail
    generalize ((W.alloc (.cells #[.int .i64 mx, .slice A n c] 61)).alloc (.cells #[.int .i64 0, .slice none 0 0] 61)) = w0 at *
    obtain ⟨⟨k0, k1⟩, f0, f1⟩ := (BX0.out.get 0 rfl).two
    obtain ⟨⟨r0, r1⟩, g0, g1⟩ := (BX0.out.get 1 rfl).two
    go_wp2_with fail
    with_reducible refine (HR.out w0 H0.out).mono ?_
    rintro e w1 ⟨rfl, hb⟩
    dsimp only
    clear k0 k1 f0 f1 r0 r1 g0 g1
    have H1 := hid (H0.out.trans (hb.mono H0.out.size))
    obtain ⟨⟨r0, r1⟩, g0, g1⟩ := ((BX0.out.below hb).get 1 rfl).two
    clear hb
    go_wp2
    refine bodyPost_ret (v := .tuple #[.agg #[.int .i64 0, .slice none 0 0], .int .i64 1]) (by simp [results, Tryd.results35, go_sem, r0, r1]) rfl (BOut.no rfl ?_)
    exact (H1.out.setCell (p := ⟨W.heap.size + 1, 0, none⟩) (by show W.heap.size ≤ W.heap.size + 1; omega) _).setCell (p := ⟨W.heap.size + 1, 1, none⟩) (by show W.heap.size ≤ W.heap.size + 1; omega) _
  · rw [Bool.true_and]
    have hbk := HBK.out rfl
    obtain ⟨M, rfl⟩ : ∃ M : Nat, mx = M := ⟨mx.toNat, by omega⟩
    have hM : M ≤ 40 := by omega
    have hM' : (M : Int) ≤ 9223372036854775807 := by omega
    have HFF := hid (HF.out M rfl)
    clear hbk HF HRV HBK
    cases K
    · go_enter Tryd.func35, Tryd.ntmps35
      go_upto_region 1 with fail
      generalize ((W.alloc (.cells #[.int .i64 (M : Int), .slice A n c] 61)).alloc (.cells #[.int .i64 0, .slice none 0 0] 61)) = w0 at *
      obtain ⟨⟨k0, k1⟩, f0, f1⟩ := (BX0.out.get 0 rfl).two
      obtain ⟨⟨r0, r1⟩, g0, g1⟩ := (BX0.out.get 1 rfl).two
      go_wp2_with fail
      with_reducible refine (HR.out w0 H0.out).mono ?_
      rintro e w1 ⟨rfl, hb⟩
      dsimp only
      clear k0 k1 f0 f1 r0 r1 g0 g1
      have H1 := hid (H0.out.trans (hb.mono H0.out.size))
      have BX1 := hid (BX0.out.below hb)
      clear hb
      obtain ⟨⟨k0, k1⟩, f0, f1⟩ := (BX1.out.get 0 rfl).two
      obtain ⟨⟨r0, r1⟩, g0, g1⟩ := (BX1.out.get 1 rfl).two
      go_wp2_with fail
      with_reducible refine (HK.out w1 H1.out).mono ?_
      rintro e w2 ⟨rfl, hb⟩
      dsimp only
      clear k0 k1 f0 f1 r0 r1 g0 g1
      have H2 := hid (H1.out.trans (hb.mono H1.out.size))
      obtain ⟨⟨r0, r1⟩, g0, g1⟩ := ((BX1.out.below hb).get 1 rfl).two
      clear hb
      go_wp2
      refine bodyPost_ret (v := .tuple #[.agg #[.int .i64 0, .slice none 0 0], .int .i64 1]) (by simp [results, Tryd.results35, go_sem, r0, r1]) rfl (BOut.no rfl ?_)
      exact (H2.out.setCell (p := ⟨W.heap.size + 1, 0, none⟩) (by show W.heap.size ≤ W.heap.size + 1; omega) _).setCell (p := ⟨W.heap.size + 1, 1, none⟩) (by show W.heap.size ≤ W.heap.size + 1; omega) _
    · go_enter Tryd.func35, Tryd.ntmps35
      go_upto_region 1 with fail
      generalize ((W.alloc (.cells #[.int .i64 (M : Int), .slice A n c] 61)).alloc (.cells #[.int .i64 0, .slice none 0 0] 61)) = w0 at *
      obtain ⟨⟨k0, k1⟩, f0, f1⟩ := (BX0.out.get 0 rfl).two
      obtain ⟨⟨r0, r1⟩, g0, g1⟩ := (BX0.out.get 1 rfl).two
      go_wp2_with fail
      with_reducible refine (HR.out w0 H0.out).mono ?_
      rintro e w1 ⟨rfl, hb⟩
      dsimp only
      clear k0 k1 f0 f1 r0 r1 g0 g1
      have H1 := hid (H0.out.trans (hb.mono H0.out.size))
      have BX1 := hid (BX0.out.below hb)
      clear hb
      obtain ⟨⟨k0, k1⟩, f0, f1⟩ := (BX1.out.get 0 rfl).two
      obtain ⟨⟨r0, r1⟩, g0, g1⟩ := (BX1.out.get 1 rfl).two
      go_wp2_with fail
      with_reducible refine (HK.out w1 H1.out).mono ?_
      rintro e w2 ⟨rfl, hb⟩
      dsimp only
      clear k0 k1 f0 f1 r0 r1 g0 g1
      have H2 := hid (H1.out.trans (hb.mono H1.out.size))
      have BX2 := hid (BX1.out.below hb)
      clear hb
      obtain ⟨⟨k0, k1⟩, f0, f1⟩ := (BX2.out.get 0 rfl).two
      obtain ⟨⟨r0, r1⟩, g0, g1⟩ := (BX2.out.get 1 rfl).two
      have hcall := HC1.out M w2 (by omega) hM'
      rw [Int.toNat_natCast] at hcall
      have HCALL := hid hcall
      clear hcall
      go_wp2_with fail
      with_reducible refine HCALL.out.mono ?_
      rintro e w3 ⟨A1, k1', A2, k2', rfl, hk1, hk2, hl1, hl2, hb⟩
      dsimp only
      clear k0 k1 f0 f1 r0 r1 g0 g1 HCALL hl1 hk1
      have H3 := hid (H2.out.trans (hb.mono H2.out.size))
      have BX3 := hid (BX2.out.below hb)
      have HK2 := hid hk2
      have HLC := hid hl2
      clear hb hl2
      obtain ⟨⟨k0, k1⟩, f0, f1⟩ := (BX3.out.get 0 rfl).two
      obtain ⟨⟨r0, r1⟩, g0, g1⟩ := (BX3.out.get 1 rfl).two
      have hge : k2' ≤ M := by rw [hk2]; omega
      have hge2 : (0 : Int) ≤ (M : Int) - (k2' : Int) := by omega
      have hle2 : (M : Int) - (k2' : Int) ≤ 40 := by omega
      have hcall := HC2.out ((M : Int) - (k2' : Int)) w3 hge2 (by omega)
      rw [show ((M : Int) - (k2' : Int)).toNat = M - k2' by omega] at hcall
      have HCALL := hid hcall
      clear hcall hk2
      go_wp2_with fail
      with_reducible refine HCALL.out.mono ?_
      rintro e w4 ⟨A3, k3, A4, k4, rfl, hk3, hk4, hl3, hl4, hb⟩
      dsimp only
      clear k0 k1 f0 f1 r0 r1 g0 g1 HCALL hl3 hk3
      have H4 := hid (H3.out.trans (hb.mono H3.out.size))
      have BX4 := hid (BX3.out.below hb)
      have HK4 := hid hk4
      have HLS := hid hl4
      clear hb hl4 hk4
      obtain ⟨⟨k0, k1⟩, f0, f1⟩ := (BX4.out.get 0 rfl).two
      obtain ⟨⟨r0, r1⟩, g0, g1⟩ := (BX4.out.get 1 rfl).two
      have hll4 := HLS.out.below H4.out
      have hlc4 := HLC.out.below H4.out
      have hcc4 := ces_sub (HCE2.out.below H4.out) (fun e (he : e ∈ lastN M ll) => lastN_mem he)
      have hlen4 : (lastN (M - k2') lv).length = k4 := by rw [lastN_length, HK4.out]
      have HLL4 := hid hll4
      have HLC4 := hid hlc4
      have HCC4 := hid hcc4
      have HLEN4 := hid hlen4
      have hbd : k4 + (lastN M ll).length ≤ 1000000 := by rw [lastN_length, HK4.out]; have := HSZ.out; have := HSZ2.out; omega
      have HBD := hid hbd
      clear hll4 hlc4 hcc4 hlen4 hbd
      go_wp2_with (at_builtin; refine wpList_append_full rfl _ _ rfl A4 k4 _ (lastN (M - k2') lv) (lastN M ll) rfl HLEN4.out HLL4.out rfl HLC4.out HCC4.out HBD.out ?_; intro v5 w5 h5; have h6 := lq_full HLS.out H4.out h5; have HQ := hid h6.1; have HB := hid h6.2; clear h5 h6; obtain ⟨A5, c5, hv5⟩ := HQ.out.spell; generalize (lastN (M - k2') lv ++ lastN M ll).length = n5 at hv5; subst hv5; clear k0 k1 f0 f1 r0 r1 g0 g1; have HBX := hid (BX4.out.below HB.out); obtain ⟨⟨k0, k1⟩, f0, f1⟩ := (HBX.out.get 0 rfl).two; obtain ⟨⟨r0, r1⟩, g0, g1⟩ := (HBX.out.get 1 rfl).two; have hne : ¬ W.heap.size + 1 = W.heap.size := (by omega); have hne2 : ¬ W.heap.size = W.heap.size + 1 := (by omega))
      refine bodyPost_ret (v := .tuple #[.agg #[.int .i64 M, .slice A5 n5 c5], .int .i64 0]) (by simp [results, Tryd.results35, go_sem, r0, r1]) rfl ?_
      have q0 : Box w5 W.heap.size 61 #[.int .i64 M, .slice A n c] := HBX.out.get 0 rfl
      have q1 : Box w5 (W.heap.size + 1) 61 #[.int .i64 0, .slice none 0 0] := HBX.out.get 1 rfl
      have e2 := q1.other (i := 1) (b' := W.heap.size) (by omega) (.slice A5 n5 c5)
      have hq := ((HQ.out.set q0 (by decide) (i := 1) (.slice A5 n5 c5)).set e2 (by decide) (i := 0) (.int .i64 M)).set (e2.set _) (by decide) (i := 1) (.slice A5 n5 c5)
      have hbb := (((H4.out.trans (HB.out.mono H4.out.size)).setCell (p := ⟨W.heap.size, 1, none⟩) (Nat.le_refl _) (.slice A5 n5 c5)).setCell (p := ⟨W.heap.size + 1, 0, none⟩) (by show W.heap.size ≤ W.heap.size + 1; omega) (.int .i64 M)).setCell (p := ⟨W.heap.size + 1, 1, none⟩) (by show W.heap.size ≤ W.heap.size + 1; omega) (.slice A5 n5 c5)
      have hfi := HFF.out
      rw [← HK2.out, Int.toNat_natCast] at hfi
      rw [hfi] at hq
      exact ⟨_, _, _, _, _, rfl, hbb, .inl ⟨rfl, rfl, rfl, hq.row hbb⟩⟩
end Go.Proofs.YtdpicbfpjnampaaDoor
