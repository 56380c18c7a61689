/- Layer 10, the package: Take, and the word of a place; the reference's small ones. -/
/- Layer 10, the package: Take, and the word of a place. -/
/- Layer 10, the package: the word of a place. -/
import Derived.Test.YteebbmmgbjpihaaDoorFindVQ
import Derived.Test.YteebbmmgbjpihaaDoorFindFQ
namespace Go.Proofs.YteebbmmgbjpihaaDoor
open Go.RowKit Go.Shelf

set_option maxHeartbeats 1000000 in
theorem pbehind_any (a b c d : Int) (W : World) :
    Calls Tryd.prog 24 #[.agg #[.int .i64 a, .int .i64 b], .agg #[.int .i64 c, .int .i64 d]] W fun e w' => e = .returned (.bool (behI a b c d)) ∧ Below W.heap.size W w' := by
  have HB := hid ((below_alloc W (.cells #[.int .i64 a, .int .i64 b] 50)).alloc (by simp) (.cells #[.int .i64 c, .int .i64 d] 50))
  by_cases h1 : c < a
  · have HE : Hid (behI a b c d = true) := decide_eq_true (.inl h1)
    go_enter Tryd.func24, Tryd.ntmps24
    go_wp2
    go_ret
    exact ⟨ret_bool HE.out.symm, HB.out⟩
  · by_cases h2 : a = c
    · subst h2
      have HE : Hid (behI a b a d = decide (d < b)) := decide_eq_decide.2 ⟨fun h => by rcases h with h | h; exact absurd h h1; exact h.2, fun h => .inr ⟨rfl, h⟩⟩
      have h1b : decide (a < a) = false := decide_eq_false h1
      go_enter Tryd.func24, Tryd.ntmps24
      go_wp2
      go_ret
      exact ⟨ret_bool HE.out.symm, HB.out⟩
    · have HE : Hid (behI a b c d = false) := decide_eq_false (by rintro (h | h); exact h1 h; exact h2 h.1)
      have h1b : decide (c < a) = false := decide_eq_false h1
      have h2b : (a == c) = false := by simp [h2]
      go_enter Tryd.func24, Tryd.ntmps24
      go_wp2
      go_ret
      exact ⟨ret_bool HE.out.symm, HB.out⟩
set_option maxHeartbeats 1000000 in
theorem rword_any (c : Ce) (W : World) : Calls Tryd.prog 14 #[c.agg] W fun e w' => e = .returned (.bool (wordC c)) ∧ Below W.heap.size W w' := by
  obtain ⟨tx, wd, fg, bg, fl⟩ := c
  unfold Ce.agg Ce.cells
  simp only
  have HB := hid (below_alloc W (.cells #[.string tx, .int .i64 wd, .int .i64 fg, .int .i64 bg, .int .i64 fl] 44))
  by_cases h : wd = 0
  · have HE : Hid (wordC ⟨tx, wd, fg, bg, fl⟩ = true) := decide_eq_true (.inl h)
    subst h
    go_enter Tryd.func14, Tryd.ntmps14
    go_wp2
    go_ret
    exact ⟨ret_bool HE.out.symm, HB.out⟩
  · have hb : (wd == 0) = false := by simp [h]
    by_cases h0 : tx.size = 0
    · have HE : Hid (wordC ⟨tx, wd, fg, bg, fl⟩ = false) := decide_eq_false (by rintro (e | e); exact h e; exact e.1 h0)
      have hx := empty_yes h0
      subst hx
      clear h h0
      go_enter Tryd.func14, Tryd.ntmps14
      go_wp2
      go_ret
      exact ⟨ret_bool HE.out.symm, HB.out⟩
    · have hne := empty_no h0
      have h32 : (tx.toList == [32]) = decide (tx = ⟨#[32]⟩) := by
        have := beq_str (s := tx) (t := ⟨#[32]⟩)
        rw [ByteArray.toList_eq ⟨#[32]⟩] at this
        exact this
      have HE : Hid (wordC ⟨tx, wd, fg, bg, fl⟩ = !decide (tx = ⟨#[32]⟩)) := by
        unfold Hid wordC
        simp only
        by_cases e : tx = ⟨#[32]⟩
        · rw [decide_eq_true e, decide_eq_false (by rintro (e2 | e2); exact h e2; exact e2.2 e)]; rfl
        · rw [decide_eq_false e, decide_eq_true (.inr ⟨h0, e⟩)]; rfl
      have H32 := hid h32
      clear h h0 h32
      go_enter Tryd.func14, Tryd.ntmps14
      go_wp2
      go_ret
      exact ⟨ret_bool (by rw [HE.out, H32.out]), HB.out⟩
theorem least_any (a b : Nat) (W : World) : Calls Tryd.prog 29 #[.int .i64 a, .int .i64 b] W fun e w' => e = .returned (.int .i64 ((min a b : Nat) : Int)) ∧ W = w' := by
  by_cases h : (a : Int) < b
  · have HE : Hid (((min a b : Nat) : Int) = a) := by unfold Hid; omega
    go_enter Tryd.func29, Tryd.ntmps29
    go_wp2
    go_ret
    exact ⟨ret_int HE.out.symm, rfl⟩
  · have HE : Hid (((min a b : Nat) : Int) = b) := by unfold Hid; omega
    go_enter Tryd.func29, Tryd.ntmps29
    go_wp2
    go_ret
    exact ⟨ret_int HE.out.symm, rfl⟩
set_option maxHeartbeats 1000000 in
theorem rbare_any (s : ByteArray) (W : World) (hs : s.size ≤ 100000000000) : Calls Tryd.prog 28 #[.string s] W fun e w' => e = .returned (.string (endB s)) ∧ W = w' := by
  have HE : Hid (endB s = s.extract 0 (endN s s.size)) := rfl
  generalize endB s = y at *
  go_enter Tryd.func28, Tryd.ntmps28
  go_wp2
  go_loopw [3] (fun i wx => ∃ k : Nat, k ≤ s.size ∧ i = .int .i64 k ∧ endN s s.size = endN s k ∧ W = wx) (fun i _ => (intOf i).toNat)
  case atStart => exact ⟨s.size, Nat.le_refl _, rfl, rfl, rfl⟩
  case round =>
    obtain ⟨k, hk, rfl, hst, rfl⟩ := hrel
    have hki : (k : Int) ≤ s.size := by omega
    cases k with
    | zero =>
      have HZ : Hid (ByteArray.empty = y) := by
        unfold Hid
        rw [HE.out, hst]
        simp [endN]
      clear hst
      go_wp2
      go_ret
      exact ⟨ret_str HZ.out, rfl⟩
    | succ k =>
      have hk1 : ((k + 1 : Nat) : Int) - 1 = (k : Int) := by omega
      have hw1 : IntKind.i64.wrap (k : Int) = (k : Int) := IntWalk.i64_in _ (by omega)
      have hks : k < s.size := by omega
      have hksi : (k : Int) < s.size := by omega
      have hbt := byteAt_eq hks
      have hz0 : (0 : Int) < ((k + 1 : Nat) : Int) := by omega
      by_cases hb : byteAt s k = 32
      · have hb2 : ((s[k]'hks).toNat : Int) = 32 := by rw [hbt]; exact hb
        have HST : Hid (endN s s.size = endN s k) := by
          unfold Hid
          rw [hst]
          show (if byteAt s k = 32 then _ else _) = _
          rw [if_pos hb]
        clear hst hbt hb
        go_wp2
        go_roundw
        case rel => exact ⟨k, by omega, rfl, HST.out, trivial⟩
        case measure => simp [intOf]
      · have hb2 : (((s[k]'hks).toNat : Int) == 32) = false := beq_eq_false_iff_ne.2 (by rw [hbt]; exact hb)
        have HST : Hid (s.extract 0 (k + 1) = y) := by
          unfold Hid
          rw [HE.out, hst]
          show _ = s.extract 0 (if byteAt s k = 32 then _ else _)
          rw [if_neg hb]
        clear hst hbt hb
        go_wp2
        go_ret
        exact ⟨ret_str HST.out, rfl⟩
end Go.Proofs.YteebbmmgbjpihaaDoor

namespace Go.Proofs.YteebbmmgbjpihaaDoor
open Go.RowKit Go.Shelf

/-- What Take answers. -/
def takeR (lv : List (Ln × Value)) (a b : Int × Int) (block : Bool) : ByteArray × Int :=
  if (keptB lv && [a, b].all (inP (lv.map Prod.fst))) = false then (⟨#[]⟩, 1)
  else if block = true then (bkT (lv.map Prod.fst) (a.1.toNat, a.2.toNat) (b.1.toNat, b.2.toNat), 0)
  else if behI a.1 a.2 b.1 b.2 = true then (tkT (lv.map Prod.fst) (b.1.toNat, b.2.toNat) (a.1.toNat, a.2.toNat), 0)
  else (tkT (lv.map Prod.fst) (a.1.toNat, a.2.toNat) (b.1.toNat, b.2.toNat), 0)
def TkPost (W : World) (x : ByteArray × Int) (e : Ending) (w' : World) : Prop := e = .returned (.tuple #[.string x.1, .int .i64 x.2]) ∧ Below W.heap.size W w'
set_option maxRecDepth 100000 in
set_option maxHeartbeats 4000000 in
theorem take_out (v : Value) (lv : List (Ln × Value)) (r c r2 c2 : Int) (block : Bool) (W : World) (hf : Fl W v lv) (hT : Tab W) (hW : TabW W) :
    Calls Tryd.prog 12 #[v, .int .i64 r, .int .i64 c, .int .i64 r2, .int .i64 c2, .bool block] W (TkPost W (takeR lv (r, c) (r2, c2) block)) := by
  have hM := fun (X : World) (hb : Below W.heap.size W X) (g cp : Nat) (hg : g < X.heap.size) hp => fmay_any v lv [(r, c), (r2, c2)] g cp X (hf.below hb) (hT.below hb) (hW.below hb) (by simp) hg hp
  obtain ⟨ok, hok⟩ : ∃ ok, (keptB lv && [(r, c), (r2, c2)].all (inP (lv.map Prod.fst))) = ok := ⟨_, rfl⟩
  have hB0 : Below W.heap.size W (((W.alloc (.cells #[.int .i64 r, .int .i64 c] 50)).alloc (.cells #[.int .i64 r2, .int .i64 c2] 50)).alloc (.cells #[.int .i64 r, .int .i64 c, .int .i64 r2, .int .i64 c2] 50)) := ((below_alloc _ _).alloc (by simp) _).alloc (by simp; omega) _
  have hbp := Box.new ((W.alloc (.cells #[.int .i64 r, .int .i64 c] 50)).alloc (.cells #[.int .i64 r2, .int .i64 c2] 50)) 50 #[.int .i64 r, .int .i64 c, .int .i64 r2, .int .i64 c2]
  simp only [World.size_alloc] at hbp
  have hba := ((Box.new W 50 #[.int .i64 r, .int .i64 c]).alloc (.cells #[.int .i64 r2, .int .i64 c2] 50)).alloc (.cells #[.int .i64 r, .int .i64 c, .int .i64 r2, .int .i64 c2] 50)
  have hbb := (Box.new (W.alloc (.cells #[.int .i64 r, .int .i64 c] 50)) 50 #[.int .i64 r2, .int .i64 c2]).alloc (.cells #[.int .i64 r, .int .i64 c, .int .i64 r2, .int .i64 c2] 50)
  simp only [World.size_alloc] at hbb
  have H := hM _ hB0 (W.heap.size + 1 + 1) 2 hbp.lt (fun j p hp => by
    match j, hp with
    | 0, hp => cases hp; exact ⟨hbp.cell 0, hbp.cell 1⟩
    | 1, hp => cases hp; exact ⟨hbp.cell 2, hbp.cell 3⟩
    | j + 2, hp => simp at hp)
  rw [hok, show [(r, c), (r2, c2)].length = 2 from rfl] at H
  unfold takeR
  rw [hok]
  obtain ⟨A, cap, rfl⟩ := hf.lr.spell
  obtain ⟨n, hnn⟩ : ∃ n, lv.length = n := ⟨_, rfl⟩
  rw [hnn] at H ⊢
  have HM := hid H
  have HB0 := hid hB0
  have HBA := hid hba
  have HBB := hid hbb
  have HF := hid hf
  have HOK := hid hok
  clear hM H hB0 hbp hba hbb hf hok hT hW
  cases ok with
  | false =>
    rw [if_pos rfl]
    clear HF HOK hnn
    go_enter Tryd.func12, Tryd.ntmps12
    go_wp2_with (with_reducible refine HM.out.mono ?_; rintro e w1 ⟨rfl, hb⟩)
    go_ret2
    exact ⟨rfl, HB0.out.trans (hb.mono HB0.out.size)⟩
  | true =>
    rw [if_neg (by simp)]
    have hok := HOK.out
    rw [Bool.and_eq_true] at hok
    have h1 : inP (lv.map Prod.fst) (r, c) = true := by have := hok.2; simp at this; exact this.1
    have h2 : inP (lv.map Prod.fst) (r2, c2) = true := by have := hok.2; simp at this; exact this.2
    obtain ⟨⟨u1, _⟩, u3, _⟩ := inP_iff.1 h1
    obtain ⟨⟨u5, _⟩, u7, _⟩ := inP_iff.1 h2
    simp only at u1 u3 u5 u7
    obtain ⟨ra, rfl⟩ : ∃ ra : Nat, r = ra := ⟨r.toNat, by omega⟩
    obtain ⟨ca, rfl⟩ : ∃ ca : Nat, c = ca := ⟨c.toNat, by omega⟩
    obtain ⟨rb, rfl⟩ : ∃ rb : Nat, r2 = rb := ⟨r2.toNat, by omega⟩
    obtain ⟨cb, rfl⟩ : ∃ cb : Nat, c2 = cb := ⟨c2.toNat, by omega⟩
    have hi1 : (ra, ca) ∈ placesP (lv.map Prod.fst) := inP_nat.1 h1
    have hi2 : (rb, cb) ∈ placesP (lv.map Prod.fst) := inP_nat.1 h2
    have hlv : lv.length = n := hnn
    have HW := hid (fun (X : World) (hb : Below W.heap.size W X) => bwithin_any (.slice A lv.length cap) lv ra ca rb cb X (HF.out.below hb) hok.1 hi1 hi2)
    have HT1 := hid (fun (h : ¬ behP (ra, ca) (rb, cb)) (X : World) (hb : Below W.heap.size W X) => between_any (.slice A lv.length cap) lv ra ca rb cb X (HF.out.below hb) hok.1 hi1 hi2 h)
    have HT2 := hid (fun (h : ¬ behP (rb, cb) (ra, ca)) (X : World) (hb : Below W.heap.size W X) => between_any (.slice A lv.length cap) lv rb cb ra ca X (HF.out.below hb) hok.1 hi2 hi1 h)
    have HBE := hid (fun (X : World) => pbehind_any ra ca rb cb X)
    have hbe : behI (ra : Int) (ca : Int) (rb : Int) (cb : Int) = decide (behP (ra, ca) (rb, cb)) := behI_nat (ra, ca) (rb, cb)
    rw [hlv] at HW HT1 HT2
    simp only [Int.toNat_natCast]
    clear h1 h2 u1 u3 u5 u7 hi1 hi2 hok hnn hlv
    cases block with
    | true =>
      rw [if_pos rfl]
      clear HF HOK HT1 HT2 HBE hbe
      obtain ⟨y, hy⟩ : ∃ y, bkT (lv.map Prod.fst) (ra, ca) (rb, cb) = y := ⟨_, rfl⟩
      rw [hy] at HW ⊢
      clear hy
      go_enter Tryd.func12, Tryd.ntmps12
      go_wp2_with first
        | (with_reducible refine HM.out.mono ?_; rintro e w1 ⟨rfl, hb⟩; have HB1 := hid (HB0.out.trans (hb.mono HB0.out.size)); obtain ⟨⟨k0, k1⟩, _⟩ := (HBA.out.below hb HBA.out.lt).two; obtain ⟨⟨k2, k3⟩, _⟩ := (HBB.out.below hb HBB.out.lt).two)
        | (with_reducible refine (HW.out _ HB1.out).mono ?_; rintro e w2 ⟨rfl, hb2⟩)
      go_ret2
      exact ⟨rfl, HB1.out.trans (hb2.mono HB1.out.size)⟩
    | false =>
      rw [if_neg (by simp), hbe]
      rw [hbe] at HBE
      by_cases hb : behP (ra, ca) (rb, cb)
      · rw [decide_eq_true hb] at HBE ⊢
        rw [if_pos rfl]
        have HT := hid (HT2.out (behP_asymm hb))
        obtain ⟨y, hy⟩ : ∃ y, tkT (lv.map Prod.fst) (rb, cb) (ra, ca) = y := ⟨_, rfl⟩
        rw [hy] at HT ⊢
        clear HF HOK HT1 HT2 HW hbe hb hy
        go_enter Tryd.func12, Tryd.ntmps12
        go_wp2_with first
          | (with_reducible refine HM.out.mono ?_; rintro e w1 ⟨rfl, hb⟩; have HB1 := hid (HB0.out.trans (hb.mono HB0.out.size)); have HX := hid (HBA.out.below hb HBA.out.lt); have HY := hid (HBB.out.below hb HBB.out.lt); obtain ⟨⟨k0, k1⟩, _⟩ := HX.out.two; obtain ⟨⟨k2, k3⟩, _⟩ := HY.out.two)
          | (with_reducible refine (HBE.out _).mono ?_; rintro e w2 ⟨rfl, hb2⟩; have HB2 := hid (HB1.out.trans (hb2.mono HB1.out.size)); obtain ⟨⟨k4, k5⟩, _⟩ := (HX.out.below hb2 HX.out.lt).two; obtain ⟨⟨k6, k7⟩, _⟩ := (HY.out.below hb2 HY.out.lt).two)
          | (with_reducible refine (HT.out _ HB2.out).mono ?_; rintro e w3 ⟨rfl, hb3⟩)
        go_ret2
        exact ⟨rfl, HB2.out.trans (hb3.mono HB2.out.size)⟩
      · rw [decide_eq_false hb] at HBE ⊢
        rw [if_neg (by simp)]
        have HT := hid (HT1.out hb)
        obtain ⟨y, hy⟩ : ∃ y, tkT (lv.map Prod.fst) (ra, ca) (rb, cb) = y := ⟨_, rfl⟩
        rw [hy] at HT ⊢
        clear HF HOK HT1 HT2 HW hbe hb hy
        go_enter Tryd.func12, Tryd.ntmps12
        go_wp2_with first
          | (with_reducible refine HM.out.mono ?_; rintro e w1 ⟨rfl, hb⟩; have HB1 := hid (HB0.out.trans (hb.mono HB0.out.size)); have HX := hid (HBA.out.below hb HBA.out.lt); have HY := hid (HBB.out.below hb HBB.out.lt); obtain ⟨⟨k0, k1⟩, _⟩ := HX.out.two; obtain ⟨⟨k2, k3⟩, _⟩ := HY.out.two)
          | (with_reducible refine (HBE.out _).mono ?_; rintro e w2 ⟨rfl, hb2⟩; have HB2 := hid (HB1.out.trans (hb2.mono HB1.out.size)); obtain ⟨⟨k4, k5⟩, _⟩ := (HX.out.below hb2 HX.out.lt).two; obtain ⟨⟨k6, k7⟩, _⟩ := (HY.out.below hb2 HY.out.lt).two)
          | (with_reducible refine (HT.out _ HB2.out).mono ?_; rintro e w3 ⟨rfl, hb3⟩)
        go_ret2
        exact ⟨rfl, HB2.out.trans (hb3.mono HB2.out.size)⟩
end Go.Proofs.YteebbmmgbjpihaaDoor

namespace Go.Proofs.YteebbmmgbjpihaaDoor
open Go.RowKit Go.Shelf

def isW (cs : List Ce) (i : Nat) (b : Bool) : Prop := ∃ x, cs[i]? = some x ∧ wordC x = b
def WdPost (W : World) (cs : List Ce) (col : Nat) (e : Ending) (w' : World) : Prop :=
  ∃ f t : Nat, e = .returned (.tuple #[.int .i64 f, .int .i64 t, .int .i64 0]) ∧ (f ≤ col ∧ col ≤ t ∧ t < cs.length) ∧ (∀ i, f ≤ i → i ≤ t → isW cs i true) ∧ (0 < f → isW cs (f - 1) false) ∧ (t + 1 < cs.length → isW cs (t + 1) false) ∧ Below W.heap.size W w'
set_option maxRecDepth 100000 in
set_option maxHeartbeats 4000000 in
theorem word_no (v : Value) (lv : List (Ln × Value)) (r c : Int) (W : World) (hf : Fl W v lv) (hT : Tab W) (hW : TabW W) (hno : (keptB lv && inP (lv.map Prod.fst) (r, c)) = false) :
    Calls Tryd.prog 13 #[v, .int .i64 r, .int .i64 c] W fun e w' => e = .returned (.tuple #[.int .i64 0, .int .i64 0, .int .i64 1]) ∧ Below W.heap.size W w' := by
  have hB0 := below_alloc W (.cells #[.int .i64 r, .int .i64 c] 50)
  have hbp := Box.new W 50 #[.int .i64 r, .int .i64 c]
  have H := fmay_any v lv [(r, c)] W.heap.size 1 _ (hf.below hB0) (hT.below hB0) (hW.below hB0) (by simp) hbp.lt (fun j p hp => by
    match j, hp with
    | 0, hp => cases hp; exact ⟨hbp.cell 0, hbp.cell 1⟩
    | j + 1, hp => simp at hp)
  rw [show [(r, c)].length = 1 from rfl, show [(r, c)].all (inP (lv.map Prod.fst)) = inP (lv.map Prod.fst) (r, c) by simp, hno] at H
  obtain ⟨A, cap, rfl⟩ := hf.lr.spell
  have HM := hid H
  have HB := hid hB0
  clear H hB0 hbp hf hT hW hno
  generalize lv.length = n at *
  go_enter Tryd.func13, Tryd.ntmps13
  go_wp2_with (with_reducible refine HM.out.mono ?_; rintro e w1 ⟨rfl, hb⟩)
  go_ret3
  exact ⟨rfl, HB.out.trans (hb.mono HB.out.size)⟩
set_option maxRecDepth 100000 in
set_option maxHeartbeats 4000000 in
theorem word_yes (v : Value) (lv : List (Ln × Value)) (r c : Nat) (l : Ln) (b : Bool) (W : World) (hf : Fl W v lv) (hT : Tab W) (hW : TabW W) (hk : keptB lv = true) (hi : (r, c) ∈ placesP (lv.map Prod.fst))
    (hl : (lv.map Prod.fst)[r]? = some l) (hb : isW l.cs c b) :
    Calls Tryd.prog 13 #[v, .int .i64 r, .int .i64 c] W fun e w' => (b = true → WdPost W l.cs c e w') ∧ (b = false → e = .returned (.tuple #[.int .i64 0, .int .i64 0, .int .i64 5]) ∧ Below W.heap.size W w') := by
  have hok := kept_ok hf.sm hk
  have hin := inP_nat.2 hi
  have hrl := (inP_iff.1 hin).1.2
  simp only [toI, List.length_map] at hrl
  have hB0 := below_alloc W (.cells #[.int .i64 r, .int .i64 c] 50)
  have hbp := Box.new W 50 #[.int .i64 r, .int .i64 c]
  have H := fmay_any v lv [((r : Int), (c : Int))] W.heap.size 1 _ (hf.below hB0) (hT.below hB0) (hW.below hB0) (by simp) hbp.lt (fun j p hp => by
    match j, hp with
    | 0, hp => cases hp; exact ⟨hbp.cell 0, hbp.cell 1⟩
    | j + 1, hp => simp at hp)
  rw [show [((r : Int), (c : Int))].length = 1 from rfl, show (keptB lv && [((r : Int), (c : Int))].all (inP (lv.map Prod.fst))) = true by rw [hk]; simp; exact hin] at H
  obtain ⟨A, cap, rfl⟩ := hf.lr.spell
  obtain ⟨n, hnn⟩ : ∃ n, lv.length = n := ⟨_, rfl⟩
  have hlr := hf.lr
  rw [hnn] at H hlr hrl ⊢
  obtain ⟨g, o, e, eA, hg, he, hcell⟩ := lr_at hlr hnn r (by omega)
  subst eA
  have hel : e.1 = l := by rw [List.getElem?_map, he] at hl; exact Option.some.inj hl
  have hce := hf.ces e (List.mem_of_getElem? he)
  obtain ⟨y1, y2, y3, y4⟩ := hok l (List.mem_of_getElem? hl)
  rw [hel] at hce
  obtain ⟨cA, cc, hev⟩ := hce.spell
  obtain ⟨cs, hcs⟩ : ∃ cs, l.cs = cs := ⟨_, rfl⟩
  rw [hcs] at hce y1 y2 y3 y4 hb hev ⊢
  obtain ⟨m, hm⟩ : ∃ m, cs.length = m := ⟨_, rfl⟩
  rw [hm] at hev y3 y4
  rw [hev] at hce hcell
  have hw : ∀ x ∈ cs, ∀ X, Calls Tryd.prog 26 #[x.agg] X fun e w' => e = .returned (.bool (wordC x)) ∧ Below X.heap.size X w' := fun x hx X => ofWord_any x X (rights_iff.1 (okR_iff.1 y1).1 x hx)
  have HM := hid H
  have HB := hid hB0
  have HCELL := hid hcell
  have HCE := hid hce
  have HWD := hid hw
  have hgl := hg
  clear H hB0 hbp hf hT hW hk hi hl hok hin hlr he hcell hel hcs hce y1 y2 hw hev
  obtain ⟨x, hx, hxb⟩ := hb
  have hcm : c < m := by rw [← hm]; exact (List.getElem?_eq_some_iff.1 hx).1
  obtain ⟨cg, co, z, ecA, hcg, _, hcc⟩ := row_cells HCE.out hm c hcm
  subst ecA
  have hcellc : ∀ (j : Nat) (z : Ce), cs[j]? = some z → ∀ X, Below W.heap.size W X → ∀ i u, z.cells[i]? = some u → X.cell? ⟨cg, co + j * 5 + i, none⟩ = some u := fun j z hz X hX i u hu => by
    obtain ⟨g', o', z', e', _, hz', h⟩ := row_cells HCE.out hm j (by rw [← hm]; exact (List.getElem?_eq_some_iff.1 hz).1)
    cases e'
    rw [hz] at hz'
    cases hz'
    exact h X hX i u hu
  have HCC := hid hcellc
  have hci : (c : Int) < m := by omega
  have hcb : (c : Int) ≤ 80 := by omega
  have hmb : (m : Int) ≤ 80 := by omega
  have HX := hid (HWD.out x (List.mem_of_getElem? hx))
  have HXX := hid hx
  rw [hxb] at HX
  clear hcc hcellc hx
  go_enter Tryd.func13, Tryd.ntmps13
  go_upto_region 3 with (with_reducible refine HM.out.mono ?_; rintro e w1 ⟨rfl, hb1⟩)
  have HB1 := hid (HB.out.trans (hb1.mono HB.out.size))
  obtain ⟨p0, _⟩ := HCELL.out w1 HB1.out
  obtain ⟨q0, q1, q2, q3, q4⟩ := ccells (W := w1) (g := cg) (o := co + c * 5) (e := x) (fun i u hu => HCC.out c x HXX.out w1 HB1.out i u hu)
  clear hb1
  obtain ⟨tx, wd, fg, bg, fl⟩ := x
  unfold Ce.agg Ce.cells at HX
  simp only at HX q0 q1 q2 q3 q4
  cases b with
  | false =>
    go_wp2_with (with_reducible refine (HX.out _).mono ?_; rintro e w2 ⟨rfl, hb2⟩)
    go_ret3
    exact ⟨rfl, HB1.out.trans (hb2.mono HB1.out.size)⟩
  | true =>
    go_upto_region 7 with (with_reducible refine (HX.out _).mono ?_; rintro e w2 ⟨rfl, hb2⟩)
    have HB2 := hid (HB1.out.trans (hb2.mono HB1.out.size))
    clear hb2 p0 q0 q1 q2 q3 q4
    go_loopw [10] (fun fv wr => ∃ f : Nat, f ≤ c ∧ fv = .int .i64 f ∧ (∀ i, f ≤ i → i ≤ c → isW cs i true) ∧ Below W.heap.size W wr) (fun fv _ => (intOf fv).toNat)
    case atStart => exact ⟨c, Nat.le_refl _, rfl, fun i h1 h2 => ⟨_, by rw [show i = c by omega]; exact HXX.out, hxb⟩, HB2.out⟩
    case round =>
      obtain ⟨f, hfc, rfl, hall, hbr⟩ := hrel
      have HALL := hid hall
      have HBR := hid hbr
      clear hall hbr
      cases f with
      | zero =>
        obtain ⟨f, hf0⟩ : ∃ f, 0 = f := ⟨_, rfl⟩
        have HF0 : Hid (0 < f → isW cs (f - 1) false) := fun h => by omega
        rw [hf0] at hfc HALL
        have hfi : (((0 : Nat) : Int)) = 0 := rfl
        go_upto_region 9 with fail
        rw [show ((0 : Nat) : Int) = (f : Int) by rw [hf0]]
        clear hf0
        go_loopw [11] (fun tv wr => ∃ t : Nat, c ≤ t ∧ t < m ∧ tv = .int .i64 t ∧ (∀ i, c ≤ i → i ≤ t → isW cs i true) ∧ Below W.heap.size W wr) (fun tv _ => m - (intOf tv).toNat)
        case atStart => exact ⟨c, Nat.le_refl _, hcm, rfl, fun i h1 h2 => ⟨_, by rw [show i = c by omega]; exact HXX.out, hxb⟩, HBR.out⟩
        case round =>
          obtain ⟨t, htc, htm, rfl, hall2, hbr2⟩ := hrel
          have HALL2 := hid hall2
          have HBR2 := hid hbr2
          clear hall2 hbr2
          have hti : (t : Int) < m := by omega
          have htb : (t : Int) ≤ 80 := by omega
          by_cases ht1 : t + 1 < m
          · have ht1i : (t : Int) + 1 < m := by omega
            obtain ⟨z, hz⟩ : ∃ z, cs[t + 1]? = some z := ⟨_, List.getElem?_eq_getElem (by rw [hm]; exact ht1)⟩
            obtain ⟨q0, q1, q2, q3, q4⟩ := ccells (W := wr) (g := cg) (o := co + (t + 1) * 5) (e := z) (fun i u hu => HCC.out (t + 1) z hz wr HBR2.out i u hu)
            have HZ := hid (HWD.out z (List.mem_of_getElem? hz))
            have HZZ := hid hz
            have ht1e : (t : Int) + 1 = ((t + 1 : Nat) : Int) := by omega
            have ht10 : (0 : Int) ≤ ((t + 1 : Nat) : Int) := by omega
            have ht1j : ((t + 1 : Nat) : Int) < m := by omega
            have ht1w : IntKind.i64.wrap ((t + 1 : Nat) : Int) = ((t + 1 : Nat) : Int) := IntWalk.i64_in _ (by omega)
            clear hz
            obtain ⟨t1, ht1n⟩ : ∃ t1, t + 1 = t1 := ⟨_, rfl⟩
            rw [ht1n] at ht1e ht10 ht1j ht1w q0 q1 q2 q3 q4 HZZ
            have HT1 := hid ht1n
            cases hzb : wordC z
            · rw [hzb] at HZ
              have HZB := hid hzb
              clear hzb ht1 ht1i ht1n
              obtain ⟨tx', wd', fg', bg', fl'⟩ := z
              unfold Ce.agg Ce.cells at HZ
              simp only at HZ q0 q1 q2 q3 q4
              go_wp2_with (with_reducible refine (HZ.out _).mono ?_; rintro e w3 ⟨rfl, hb3⟩)
              go_ret3
              exact ⟨f, t, rfl, ⟨hfc, htc, by rw [hm]; exact htm⟩, fun i h1 h2 => by rcases Nat.lt_or_ge i c with h | h; exact HALL.out i h1 (by omega); exact HALL2.out i h h2, HF0.out, fun _ => ⟨_, by rw [HT1.out]; exact HZZ.out, HZB.out⟩, HBR2.out.trans (hb3.mono HBR2.out.size)⟩
            · rw [hzb] at HZ
              have HZB := hid hzb
              clear hzb ht1 ht1i ht1n
              obtain ⟨tx', wd', fg', bg', fl'⟩ := z
              unfold Ce.agg Ce.cells at HZ
              simp only at HZ q0 q1 q2 q3 q4
              go_wp2_with (with_reducible refine (HZ.out _).mono ?_; rintro e w3 ⟨rfl, hb3⟩)
              go_roundw
              case rel => exact ⟨t1, by have := HT1.out; omega, by omega, by first | rfl | go_num, fun i h1 h2 => by rcases Nat.lt_or_ge t i with h | h; exact ⟨_, by rw [show i = t1 by have := HT1.out; omega]; exact HZZ.out, HZB.out⟩; exact HALL2.out i h1 h, HBR2.out.trans (hb3.mono HBR2.out.size)⟩
              case measure => have := HT1.out; simp [intOf]; omega
          · have htl : ¬ (t : Int) + 1 < m := by omega
            have htlb : decide ((t : Int) + 1 < (m : Int)) = false := decide_eq_false htl
            go_wp2
            go_ret3
            exact ⟨f, t, rfl, ⟨hfc, htc, by rw [hm]; exact htm⟩, fun i h1 h2 => by rcases Nat.lt_or_ge i c with h | h; exact HALL.out i h1 (by omega); exact HALL2.out i h h2, HF0.out, fun h => absurd (by rw [hm] at h; exact h) ht1, HBR2.out⟩
      | succ k =>
        have hkc : k < m := by omega
        obtain ⟨z, hz⟩ : ∃ z, cs[k]? = some z := ⟨_, List.getElem?_eq_getElem (by rw [hm]; exact hkc)⟩
        obtain ⟨q0, q1, q2, q3, q4⟩ := ccells (W := wr) (g := cg) (o := co + k * 5) (e := z) (fun i u hu => HCC.out k z hz wr HBR.out i u hu)
        have HZ := hid (HWD.out z (List.mem_of_getElem? hz))
        have HZZ := hid hz
        have hk1 : ((k + 1 : Nat) : Int) - 1 = (k : Int) := by omega
        have hkw : IntKind.i64.wrap (k : Int) = (k : Int) := IntWalk.i64_in _ (by omega)
        have hk0 : (0 : Int) < ((k + 1 : Nat) : Int) := by omega
        have hkm : (k : Int) < m := by omega
        have hk2 : (0 : Int) ≤ (k : Int) := by omega
        clear hz
        cases hzb : wordC z
        · rw [hzb] at HZ
          have HZB := hid hzb
          clear hzb
          obtain ⟨tx', wd', fg', bg', fl'⟩ := z
          unfold Ce.agg Ce.cells at HZ
          simp only at HZ q0 q1 q2 q3 q4
          obtain ⟨f, hf1⟩ : ∃ f, k + 1 = f := ⟨_, rfl⟩
          have HF0 : Hid (0 < f → isW cs (f - 1) false) := fun _ => ⟨_, by rw [show f - 1 = k by omega]; exact HZZ.out, HZB.out⟩
          rw [hf1] at hk1 hk0 hfc HALL ⊢
          clear hf1
          go_upto_region 9 with (with_reducible refine (HZ.out _).mono ?_; rintro e w3 ⟨rfl, hb3⟩)
          have HB3 := hid (HBR.out.trans (hb3.mono HBR.out.size))
          clear hb3 q0 q1 q2 q3 q4 HZ hk1 hkw hk0 hkm hk2
          go_loopw [11] (fun tv wr => ∃ t : Nat, c ≤ t ∧ t < m ∧ tv = .int .i64 t ∧ (∀ i, c ≤ i → i ≤ t → isW cs i true) ∧ Below W.heap.size W wr) (fun tv _ => m - (intOf tv).toNat)
          case atStart => exact ⟨c, Nat.le_refl _, hcm, rfl, fun i h1 h2 => ⟨_, by rw [show i = c by omega]; exact HXX.out, hxb⟩, HB3.out⟩
          case round =>
            obtain ⟨t, htc, htm, rfl, hall2, hbr2⟩ := hrel
            have HALL2 := hid hall2
            have HBR2 := hid hbr2
            clear hall2 hbr2
            have hti : (t : Int) < m := by omega
            have htb : (t : Int) ≤ 80 := by omega
            by_cases ht1 : t + 1 < m
            · have ht1i : (t : Int) + 1 < m := by omega
              obtain ⟨z, hz⟩ : ∃ z, cs[t + 1]? = some z := ⟨_, List.getElem?_eq_getElem (by rw [hm]; exact ht1)⟩
              obtain ⟨q0, q1, q2, q3, q4⟩ := ccells (W := wr) (g := cg) (o := co + (t + 1) * 5) (e := z) (fun i u hu => HCC.out (t + 1) z hz wr HBR2.out i u hu)
              have HZ := hid (HWD.out z (List.mem_of_getElem? hz))
              have HZZ := hid hz
              have ht1e : (t : Int) + 1 = ((t + 1 : Nat) : Int) := by omega
              have ht10 : (0 : Int) ≤ ((t + 1 : Nat) : Int) := by omega
              have ht1j : ((t + 1 : Nat) : Int) < m := by omega
              have ht1w : IntKind.i64.wrap ((t + 1 : Nat) : Int) = ((t + 1 : Nat) : Int) := IntWalk.i64_in _ (by omega)
              clear hz
              obtain ⟨t1, ht1n⟩ : ∃ t1, t + 1 = t1 := ⟨_, rfl⟩
              rw [ht1n] at ht1e ht10 ht1j ht1w q0 q1 q2 q3 q4 HZZ
              have HT1 := hid ht1n
              cases hzb : wordC z
              · rw [hzb] at HZ
                have HZB := hid hzb
                clear hzb ht1 ht1i ht1n
                obtain ⟨tx', wd', fg', bg', fl'⟩ := z
                unfold Ce.agg Ce.cells at HZ
                simp only at HZ q0 q1 q2 q3 q4
                go_wp2_with (with_reducible refine (HZ.out _).mono ?_; rintro e w3 ⟨rfl, hb3⟩)
                go_ret3
                exact ⟨f, t, rfl, ⟨hfc, htc, by rw [hm]; exact htm⟩, fun i h1 h2 => by rcases Nat.lt_or_ge i c with h | h; exact HALL.out i h1 (by omega); exact HALL2.out i h h2, HF0.out, fun _ => ⟨_, by rw [HT1.out]; exact HZZ.out, HZB.out⟩, HBR2.out.trans (hb3.mono HBR2.out.size)⟩
              · rw [hzb] at HZ
                have HZB := hid hzb
                clear hzb ht1 ht1i ht1n
                obtain ⟨tx', wd', fg', bg', fl'⟩ := z
                unfold Ce.agg Ce.cells at HZ
                simp only at HZ q0 q1 q2 q3 q4
                go_wp2_with (with_reducible refine (HZ.out _).mono ?_; rintro e w3 ⟨rfl, hb3⟩)
                go_roundw
                case rel => exact ⟨t1, by have := HT1.out; omega, by omega, by first | rfl | go_num, fun i h1 h2 => by rcases Nat.lt_or_ge t i with h | h; exact ⟨_, by rw [show i = t1 by have := HT1.out; omega]; exact HZZ.out, HZB.out⟩; exact HALL2.out i h1 h, HBR2.out.trans (hb3.mono HBR2.out.size)⟩
                case measure => have := HT1.out; simp [intOf]; omega
            · have htl : ¬ (t : Int) + 1 < m := by omega
              have htlb : decide ((t : Int) + 1 < (m : Int)) = false := decide_eq_false htl
              go_wp2
              go_ret3
              exact ⟨f, t, rfl, ⟨hfc, htc, by rw [hm]; exact htm⟩, fun i h1 h2 => by rcases Nat.lt_or_ge i c with h | h; exact HALL.out i h1 (by omega); exact HALL2.out i h h2, HF0.out, fun h => absurd (by rw [hm] at h; exact h) ht1, HBR2.out⟩
        · rw [hzb] at HZ
          have HZB := hid hzb
          clear hzb
          obtain ⟨tx', wd', fg', bg', fl'⟩ := z
          unfold Ce.agg Ce.cells at HZ
          simp only at HZ q0 q1 q2 q3 q4
          go_wp2_with (with_reducible refine (HZ.out _).mono ?_; rintro e w3 ⟨rfl, hb3⟩)
          go_roundw
          case rel => exact ⟨k, by omega, by first | rfl | go_num, fun i h1 h2 => by rcases Nat.lt_or_ge k i with h | h; exact HALL.out i (by omega) h2; exact ⟨_, by rw [show i = k by omega]; exact HZZ.out, HZB.out⟩, HBR.out.trans (hb3.mono HBR.out.size)⟩
          case measure => simp [intOf]
end Go.Proofs.YteebbmmgbjpihaaDoor
