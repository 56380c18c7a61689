/- Layer 7: the statements' alive. -/
/- Layer 7: what the laws want. -/
import Derived.Test.YtdpicbfpjnampaaDoorBackTQ
import Derived.Test.YtdpicbfpjnampaaDoorBackFQ
import Derived.Deep.RegionWith
namespace Go.Proofs.YtdpicbfpjnampaaDoor
open Go.RowKit

def aC (b : UInt8) : Ce := ⟨⟨#[b]⟩, 1, 0, 0, 0⟩
theorem fits_a : fitsB 1 [aC 97] = true := by decide +kernel
theorem fits_b : fitsB 1 [aC 98] = true := by decide +kernel
theorem fits_c : fitsB 1 [aC 99] = true := by decide +kernel
def ALine (W : World) (s : ByteArray) (e : Ending) (w' : World) : Prop :=
  ∃ g, e = .returned (.agg #[.slice (some ⟨g, 0, none⟩) 1 1, .bool false]) ∧ g < w'.heap.size ∧ CeRow w' (.slice (some ⟨g, 0, none⟩) 1 1) [⟨s, 1, 0, 0, 0⟩] ∧ Below W.heap.size W w'
set_option maxRecDepth 100000 in
set_option maxHeartbeats 1000000 in
theorem aline_any (s : ByteArray) (W : World) : Calls Tryd.prog 72 #[.string s] W (ALine W s) := by
  have hb : Below W.heap.size W ((W.alloc (.cells #[.slice (some ⟨W.heap.size + 1, 0, none⟩) 1 1, .bool false] 57)).alloc (.cells #[.string s, .int .i64 1, .int .i64 0, .int .i64 0, .int .i64 0] 28)) := (below_alloc _ _).alloc (by simp) _
  have hx := Box.new (W.alloc (.cells #[.slice (some ⟨W.heap.size + 1, 0, none⟩) 1 1, .bool false] 57)) 28 #[.string s, .int .i64 1, .int .i64 0, .int .i64 0, .int .i64 0]
  rw [World.size_alloc] at hx
  have HB := hid hb
  have HX := hid hx
  clear hb hx
  go_enter Tryd.func72, Tryd.ntmps72
  go_wp2
  refine bodyPost_ret (v := .agg #[.slice (some ⟨W.heap.size + 1, 0, none⟩) 1 1, .bool false]) (by simp [results, Tryd.results72, go_sem]) rfl ⟨W.heap.size + 1, rfl, HX.out.lt, ?_, HB.out⟩
  refine ⟨_, _, rfl, Nat.le_refl _, fun _ => ⟨_, 0, rfl, HX.out.lt, fun j e he i u hu => ?_⟩⟩
  cases j with
  | zero =>
    simp at he
    subst he
    rw [show 0 + 0 * 5 + i = i by omega, HX.out.cell]
    exact hu
  | succ j => simp at he
theorem lv_small {l : List (Ln × Value)} (hl : l.length ≤ 1000) (h : ∀ e ∈ l, ∃ b, e.1.cs = [aC b]) : Sm l := by
  refine ⟨hl, fun e he => ?_⟩
  obtain ⟨b, hb⟩ := h e he
  rw [hb]
  refine ⟨by simp, fun c hc => ?_⟩
  rw [List.mem_singleton] at hc
  subst hc
  show (⟨#[b]⟩ : ByteArray).size ≤ 1000
  have : (⟨#[b]⟩ : ByteArray).size = 1 := rfl
  omega

set_option maxRecDepth 100000 in
set_option maxHeartbeats 2000000 in
theorem balive_any (W : World) (hT : Tab W) (hW : TabW W) : Calls Tryd.prog 40 #[] W fun e w' => e = .returned (.bool true) ∧ Below W.heap.size W w' := by
  have HT := hid hT
  have HW := hid hW
  clear hT hW
  go_enter Tryd.func40, Tryd.ntmps40
  go_wp2_with fail
  with_reducible refine (aline_any _ _).mono ?_
  rintro e w1 ⟨g1, rfl, z1, c1, b1⟩
  dsimp only
  have C1 := hid c1
  have B1 := hid b1
  clear c1 b1 z1
  go_wp2_with fail
  with_reducible refine (aline_any _ _).mono ?_
  rintro e w2 ⟨g2, rfl, z2, c2, b2⟩
  dsimp only
  have C1 := hid (C1.out.below b2)
  have C2 := hid c2
  have B2 := hid (B1.out.trans (b2.mono B1.out.size))
  clear c2 b2 z2
  go_wp2_with fail
  with_reducible refine (aline_any _ _).mono ?_
  rintro e w3 ⟨g3, rfl, z3, c3, b3⟩
  dsimp only
  have C1 := hid (C1.out.below b3)
  have C2 := hid (C2.out.below b3)
  have C3 := hid c3
  have B3 := hid (B2.out.trans (b3.mono B2.out.size))
  clear c3 b3 z3
  obtain ⟨ll, hll⟩ : ∃ ll : List (Ln × Value), [(⟨[aC 97], false⟩, .slice (some ⟨g1, 0, none⟩) 1 1), (⟨[aC 98], false⟩, .slice (some ⟨g2, 0, none⟩) 1 1), (⟨[aC 99], false⟩, .slice (some ⟨g3, 0, none⟩) 1 1)] = ll := ⟨_, rfl⟩
  have hlr : LR (w3.alloc (.cells #[.slice (some ⟨g1, 0, none⟩) 1 1, .bool false, .slice (some ⟨g2, 0, none⟩) 1 1, .bool false, .slice (some ⟨g3, 0, none⟩) 1 1, .bool false] 57)) (.slice (some ⟨w3.heap.size, 0, none⟩) 3 3) ll := by
    rw [← hll]
    exact (OwnL.lit (W := w3) (base := 0) [(⟨[aC 97], false⟩, .slice (some ⟨g1, 0, none⟩) 1 1), (⟨[aC 98], false⟩, .slice (some ⟨g2, 0, none⟩) 1 1), (⟨[aC 99], false⟩, .slice (some ⟨g3, 0, none⟩) 1 1)] (by simp) (Nat.zero_le _)).lsl.row
  have hb4 := below_alloc w3 (.cells #[.slice (some ⟨g1, 0, none⟩) 1 1, .bool false, .slice (some ⟨g2, 0, none⟩) 1 1, .bool false, .slice (some ⟨g3, 0, none⟩) 1 1, .bool false] 57)
  have hce : CesOf (w3.alloc (.cells #[.slice (some ⟨g1, 0, none⟩) 1 1, .bool false, .slice (some ⟨g2, 0, none⟩) 1 1, .bool false, .slice (some ⟨g3, 0, none⟩) 1 1, .bool false] 57)) ll := by
    intro e he
    rw [← hll] at he
    simp only [List.mem_cons, List.mem_nil_iff, or_false] at he
    rcases he with rfl | rfl | rfl
    · exact C1.out.below hb4
    · exact C2.out.below hb4
    · exact C3.out.below hb4
  have hsm : Sm ll := lv_small (by rw [← hll]; simp) (by
    intro e he
    rw [← hll] at he
    simp only [List.mem_cons, List.mem_nil_iff, or_false] at he
    rcases he with rfl | rfl | rfl
    · exact ⟨97, rfl⟩
    · exact ⟨98, rfl⟩
    · exact ⟨99, rfl⟩)
  have hk : keptB ll = true := by
    rw [← hll]
    unfold keptB
    simp only [List.all_cons, List.all_nil, Bool.and_true, Bool.and_eq_true]
    exact ⟨fits_a, fits_b, fits_c⟩
  have hB4 := B3.out.trans (hb4.mono B3.out.size)
  have hpush := push_any 2 (.slice none 0 0) (.slice (some ⟨w3.heap.size, 0, none⟩) 3 3) [] ll _ (LR.nil _ _ _) (by intro e h; simp at h) ⟨by simp, by simp⟩ hlr hce hsm (HT.out.below hB4) (HW.out.below hB4)
  rw [hk, show backB 2 [] = true from rfl, Bool.true_and, List.nil_append] at hpush
  have HP := hid hpush
  have HLL := hid hll
  have HSM := hid hsm
  have HK := hid hk
  have HCE := hid hce
  have HB4 := hid hB4
  clear hlr hb4 hce hsm hk hB4 hpush hll
  go_wp2_with fail
  with_reducible refine HP.out.mono ?_
  rintro e w5 ⟨xc, A5, k5, c5, xn, rfl, b5, h5⟩
  rcases h5 with ⟨_, rfl, rfl, l5⟩ | ⟨h, _⟩
  rotate_left
  · cases h
  dsimp only
  have e5 : lastN (2 : Int).toNat ll = [(⟨[aC 98], false⟩, .slice (some ⟨g2, 0, none⟩) 1 1), (⟨[aC 99], false⟩, .slice (some ⟨g3, 0, none⟩) 1 1)] := by rw [← HLL.out]; rfl
  obtain ⟨l2, hl2⟩ : ∃ l2 : List (Ln × Value), [(⟨[aC 98], false⟩, .slice (some ⟨g2, 0, none⟩) 1 1), (⟨[aC 99], false⟩, .slice (some ⟨g3, 0, none⟩) 1 1)] = l2 := ⟨_, rfl⟩
  rw [e5, hl2] at l5
  have hk5 : k5 = 2 := by
    obtain ⟨A', c', e⟩ := l5.spell
    cases e
    rw [← hl2]
    rfl
  subst hk5
  have hlen2 : l2.length = 2 := by rw [← hl2]; rfl
  have hB5 := HB4.out.trans (b5.mono HB4.out.size)
  have hb6 := below_alloc w5 (.cells #[.int .i64 2, .slice A5 2 c5] 61)
  have hB6 := hB5.trans (hb6.mono hB5.size)
  have hce6 : CesOf (w5.alloc (.cells #[.int .i64 2, .slice A5 2 c5] 61)) l2 := by
    intro e he
    rw [← hl2, ← e5] at he
    exact ((HCE.out.below b5).below hb6) e (lastN_mem he)
  have hsm6 : Sm l2 := sm_sub HSM.out (by omega) (fun e he => by rw [← hl2, ← e5] at he; exact lastN_mem he)
  have hk6 : backB 2 l2 = true := by
    rw [backB_iff]
    refine ⟨by omega, by omega, ?_⟩
    rw [← hl2]
    unfold keptB
    simp only [List.all_cons, List.all_nil, Bool.and_true, Bool.and_eq_true]
    exact ⟨fits_b, fits_c⟩
  have hat := at_any 2 0 (.slice A5 2 c5) l2 _ (l5.below hb6) hce6 hsm6 (HT.out.below hB6) (HW.out.below hB6) (by omega)
  rw [hk6] at hat
  have HA := hid hat
  have HL2 := hid hl2
  have HLEN := hid hlen2
  have HB6 := hid hB6
  have C3 := hid ((C3.out.below ((below_alloc _ _).trans (b5.mono (below_alloc _ _).size))).below hb6)
  have hbx := Box.new w5 61 #[.int .i64 2, .slice A5 2 c5]
  have HBX := hid hbx
  clear C1 C2 B1 B2 HP HLL HSM HK HCE HB4 e5 hl2 l5 hlen2 hB5 hb6 hB6 hce6 hsm6 hk6 hat b5 hbx
  go_wp2_with fail
  with_reducible refine HA.out.mono ?_
  rintro e w7 ⟨A7, k7, c7, s7, xn, rfl, b7, h7⟩
  rcases h7 with ⟨h, _⟩ | ⟨_, h, _⟩ | ⟨_, _, rfl, x, hx, hx2, rfl⟩
  · cases h
  · exact absurd ⟨by omega, by rw [HLEN.out]; decide⟩ h
  dsimp only
  rw [HLEN.out, ← HL2.out] at hx
  cases hx
  simp only at hx2
  cases hx2
  have hc3 := C3.out.below b7
  obtain ⟨A', c', e, _, hcell⟩ := hc3
  cases e
  obtain ⟨g', o', e, _, hcell⟩ := hcell (by simp)
  cases e
  have hc0 : w7.cell? ⟨g3, 0, none⟩ = some (.string ⟨#[99]⟩) := hcell 0 _ rfl 0 _ rfl
  have hlt : g3 < w7.heap.size := by assumption
  obtain ⟨⟨k0, k1⟩, f0, f1⟩ := (HBX.out.below b7 HBX.out.lt).two
  have HB7 := hid (HB6.out.trans (b7.mono HB6.out.size))
  have hw5 : w5.heap.size < w7.heap.size := Nat.lt_of_lt_of_le HBX.out.lt b7.size
  clear hcell C3 HA HBX b7 HL2 HLEN
  go_wp2
  go_ret
  exact ⟨rfl, HB7.out.trans (below_alloc _ _ |>.mono HB7.out.size)⟩
end Go.Proofs.YtdpicbfpjnampaaDoor

namespace Go.Proofs.YtdpicbfpjnampaaDoor
open Go.RowKit

theorem takeN_sm {ls : List Ln} {lv : List (Ln × Value)} {m : Nat} (h : lv.map Prod.fst = takeN ls m) (hm : m ≤ 100) : Sm lv ∧ lv.length ≤ m := by
  have hlen : lv.length ≤ m := by
    have := congrArg List.length h
    unfold takeN at this
    rw [List.length_map, List.length_map, List.length_take] at this
    omega
  refine ⟨⟨by omega, fun e he => ?_⟩, hlen⟩
  have hx : e.1 ∈ lv.map Prod.fst := List.mem_map.2 ⟨e, he, rfl⟩
  rw [h] at hx
  unfold takeN at hx
  obtain ⟨x, _, hx⟩ := List.mem_map.1 hx
  rw [← hx]
  refine ⟨?_, fun c hc => ?_⟩
  · show (lineG x.cs).length ≤ 1000
    rw [lineG_length]; omega
  · have := lineG_size c hc
    omega
theorem Sm.sz {lv : List (Ln × Value)} (h : Sm lv) : Sz lv := ⟨h.1, fun e he => (h.2 e he).1⟩
def BXP (W : World) (mx : Int) (ok : Bool) (tgt : List (Ln × Value)) (xc : Int) (A : Option Addr) (k c : Nat) (xn : Int) : Prop :=
  (ok = true ∧ xc = mx ∧ xn = 0 ∧ LR W (.slice A k c) tgt) ∨ (ok = false ∧ xc = 0 ∧ (.slice A k c : Value) = .slice none 0 0 ∧ xn = 1)
theorem BXP.below {W W' : World} {mx : Int} {ok : Bool} {tgt : List (Ln × Value)} {xc : Int} {A : Option Addr} {k c : Nat} {xn : Int} (h : BXP W mx ok tgt xc A k c xn) (hb : Below W.heap.size W W') : BXP W' mx ok tgt xc A k c xn :=
  h.imp (fun ⟨a, b, c, d⟩ => ⟨a, b, c, d.below hb⟩) id
def TXP (W : World) (mx : Int) (ok : Bool) (lv : List (Ln × Value)) (m : Nat) (xc : Int) (A : Option Addr) (k c : Nat) (B : Option Addr) (j d : Nat) (xn : Int) : Prop :=
  (ok = true ∧ xc = mx ∧ xn = 0 ∧ LR W (.slice A k c) (lv.take (lv.length - m)) ∧ LR W (.slice B j d) (lastN m lv)) ∨ (ok = false ∧ xc = 0 ∧ (.slice A k c : Value) = .slice none 0 0 ∧ (.slice B j d : Value) = .slice none 0 0 ∧ xn = 1)
theorem TXP.below {W W' : World} {mx : Int} {ok : Bool} {lv : List (Ln × Value)} {m : Nat} {xc : Int} {A : Option Addr} {k c : Nat} {B : Option Addr} {j d : Nat} {xn : Int} (h : TXP W mx ok lv m xc A k c B j d xn) (hb : Below W.heap.size W W') : TXP W' mx ok lv m xc A k c B j d xn :=
  h.imp (fun ⟨a, b, c, d, e⟩ => ⟨a, b, c, d.below hb, e.below hb⟩) id
def AXP (R : Bool) (lv : List (Ln × Value)) (num : Int) (A : Option Addr) (k c : Nat) (s : Bool) (xn : Int) : Prop :=
  (R = false ∧ xn = 1 ∧ (.slice A k c : Value) = .slice none 0 0 ∧ s = false) ∨ (R = true ∧ ¬ (0 ≤ num ∧ num < lv.length) ∧ xn = 5 ∧ (.slice A k c : Value) = .slice none 0 0 ∧ s = false) ∨
      (R = true ∧ (0 ≤ num ∧ num < lv.length) ∧ xn = 0 ∧ ∃ x, lv[lv.length - 1 - num.toNat]? = some x ∧ x.2 = .slice A k c ∧ x.1.soft = s)
def Bel (W0 W : World) : Prop := Below W0.heap.size W0 W
theorem Bel.below {W0 W W' : World} (h : Bel W0 W) (hb : Below W.heap.size W W') : Bel W0 W' := Below.trans h (hb.mono (Below.size h))
theorem Bel.refl (W : World) : Bel W W := Below.refl _ _
theorem LR.len_eq {W : World} {A : Option Addr} {k c : Nat} {l : List (Ln × Value)} (h : LR W (.slice A k c) l) : k = l.length := by obtain ⟨A', c', e, _⟩ := h; cases e; rfl
/-- A store into a box of a number and a slice leaves lines. -/
theorem LR.set_two {W : World} {b i : Nat} {t : TypeId} {x : Int} {A B : Option Addr} {k c j d : Nat} {l : List (Ln × Value)} (h : LR W (.slice A k c) l) (hb : Box W b t #[.int .i64 x, .slice B j d]) (u : Value) : LR (W.setCell ⟨b, i, none⟩ u) (.slice A k c) l := by
  obtain ⟨A', c', e, hc, hcell⟩ := h
  refine ⟨A', c', e, hc, fun hne => ?_⟩
  obtain ⟨g, o, hA, hg, hcell⟩ := hcell hne
  have hgb : g ≠ b := by
    rintro rfl
    obtain ⟨e, he⟩ := List.exists_mem_of_ne_nil l hne
    obtain ⟨j, hj⟩ := List.mem_iff_getElem?.1 he
    have := (hcell j e hj).2
    rw [hb.cell] at this
    match q : o + j * 2 + 1, this with
    | 0, h => omega
    | 1, h => simp at h
    | n + 2, h => simp at h
  refine ⟨g, o, hA, by rw [size_set]; exact hg, fun j e he => ?_⟩
  have h1 : ∀ z, (W.setCell ⟨b, i, none⟩ u).cell? ⟨g, z, none⟩ = W.cell? ⟨g, z, none⟩ := fun z => by
    have := Below.heap_setCell W ⟨b, i, none⟩ u g hgb
    unfold World.cell?
    simp only [this]
  rw [h1, h1]
  exact hcell j e he
def BoxR (w : World) (t : TypeId) (M : Int) (l : List (Ln × Value)) (b e : Value) (wx : World) : Prop :=
  ∃ q A k c, b = .pointer (some ⟨q, 0, none⟩) ∧ e = .int .i64 0 ∧ Box wx q t #[.int .i64 M, .slice A k c] ∧ LR wx (.slice A k c) l ∧ Below w.heap.size w wx
theorem Bxs.snoc {W : World} {l : List (Nat × TypeId × Array Value)} (h : Bxs W l) {b : Nat} {t : TypeId} {cs : Array Value} (hb : Box W b t cs) : Bxs W (l ++ [(b, t, cs)]) := by
  intro x hx
  rw [List.mem_append, List.mem_singleton] at hx
  rcases hx with hx | rfl
  · exact h x hx
  · exact hb
theorem LSl.lr_set {W : World} {base b i : Nat} {t : TypeId} {cs : Array Value} {v : Value} {l : List (Ln × Value)} (h : LSl W base v l) (hb : Box W b t cs) (ht : t ≠ 57) (u : Value) : LSl (W.setCell ⟨b, i, none⟩ u) base v l := h.set hb ht u
end Go.Proofs.YtdpicbfpjnampaaDoor
