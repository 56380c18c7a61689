/- Layer 6, the package: sizes, rows and columns; which grids may be. -/
import Derived.Test.YtdpicbfpjnampaaDoorGridLQ
import Derived.Test.YtdpicbfpjnampaaDoorGridHQ
namespace Go.Proofs.YtdpicbfpjnampaaDoor
open Go.RowKit

def sizeB (cols rows : Int) : Bool := decide (1 ≤ cols ∧ cols ≤ 80) && decide (1 ≤ rows ∧ rows ≤ 50)
theorem sizeB_t {cols rows : Int} (h : (1 ≤ cols ∧ cols ≤ 80) ∧ 1 ≤ rows ∧ rows ≤ 50) : sizeB cols rows = true := by
  unfold sizeB
  rw [decide_eq_true h.1, decide_eq_true h.2]; rfl
theorem sizeB_f {cols rows : Int} (h : ¬ ((1 ≤ cols ∧ cols ≤ 80) ∧ 1 ≤ rows ∧ rows ≤ 50)) : sizeB cols rows = false := by
  unfold sizeB
  by_cases h1 : 1 ≤ cols ∧ cols ≤ 80
  · rw [decide_eq_false (fun h2 => h ⟨h1, h2⟩), Bool.and_false]
  · rw [decide_eq_false h1, Bool.false_and]
theorem rightG_size (g : Gd) : rightG g = (sizeB g.cols g.ls.length && g.ls.all fun l => fitsB g.cols l.cs) := by
  unfold rightG sizeB
  rw [Bool.and_assoc]
  congr 2
  exact decide_eq_decide.2 (by omega)
set_option maxHeartbeats 1000000 in
theorem size_any (cols rows : Int) (w : World) :
    Calls Tryd.prog 68 #[.int .i64 cols, .int .i64 rows] w fun e w' => e = .returned (.bool (sizeB cols rows)) ∧ w = w' := by
  have hc : cols < 1 ∨ (1 ≤ cols ∧ 80 < cols) ∨ ((1 ≤ cols ∧ cols ≤ 80) ∧ rows < 1) ∨ ((1 ≤ cols ∧ cols ≤ 80) ∧ 1 ≤ rows ∧ 50 < rows) ∨ ((1 ≤ cols ∧ cols ≤ 80) ∧ 1 ≤ rows ∧ rows ≤ 50) := by omega
  rcases hc with h | h | h | h | h
  case inr.inr.inr.inr =>
    have HR := hid (sizeB_t h)
    obtain ⟨⟨h1, h2⟩, h3, h4⟩ := h
    go_enter Tryd.func68, Tryd.ntmps68
    go_wp2
    go_ret
    exact ⟨ret_bool (by rw [HR.out]), rfl⟩
  case inr.inr.inr.inl =>
    have HR := hid (sizeB_f (cols := cols) (rows := rows) (by omega))
    obtain ⟨⟨h1, h2⟩, h3, h4⟩ := h
    have hd : decide (rows ≤ 50) = false := decide_eq_false (by omega)
    go_enter Tryd.func68, Tryd.ntmps68
    go_wp2
    go_ret
    exact ⟨ret_bool (by rw [HR.out]), rfl⟩
  all_goals
    have HR := hid (sizeB_f (cols := cols) (rows := rows) (by omega))
    first | (obtain ⟨⟨h1, h2⟩, h3, h4⟩ := h) | (obtain ⟨⟨h1, h2⟩, h3⟩ := h) | (obtain ⟨h1, h2⟩ := h) | skip
    go_enter Tryd.func68, Tryd.ntmps68
    go_wp2
    go_ret
    exact ⟨ret_bool (by rw [HR.out]), rfl⟩

def rowB (row : Int) (n : Nat) : Bool := decide (0 ≤ row ∧ row < n)
set_option maxHeartbeats 1000000 in
theorem hasRow_any (cols row : Int) (A : Option Addr) (n c : Nat) (w : World) :
    Calls Tryd.prog 44 #[.agg #[.int .i64 cols, .slice A n c], .int .i64 row] w fun e w' => e = .returned (.bool (rowB row n)) ∧ Below w.heap.size w w' := by
  have hc : row < 0 ∨ (0 ≤ row ∧ ¬ row < n) ∨ (0 ≤ row ∧ row < n) := by omega
  rcases hc with h | ⟨h, h2⟩ | ⟨h, h2⟩
  · have HR : Hid (rowB row n = false) := decide_eq_false (by omega)
    go_enter Tryd.func44, Tryd.ntmps44
    go_wp2
    go_ret
    exact ⟨ret_bool (by rw [HR.out]), below_alloc _ _⟩
  · have HR : Hid (rowB row n = false) := decide_eq_false (by omega)
    have hd : decide (row < (n : Int)) = false := decide_eq_false h2
    go_enter Tryd.func44, Tryd.ntmps44
    go_wp2
    go_ret
    exact ⟨ret_bool (by rw [HR.out]), below_alloc _ _⟩
  · have HR : Hid (rowB row n = true) := decide_eq_true (by omega)
    go_enter Tryd.func44, Tryd.ntmps44
    go_wp2
    go_ret
    exact ⟨ret_bool (by rw [HR.out]), below_alloc _ _⟩
def colB (col cols : Int) : Bool := decide (0 ≤ col ∧ col < cols)
set_option maxHeartbeats 1000000 in
theorem hasCol_any (cols col : Int) (A : Option Addr) (n c : Nat) (w : World) :
    Calls Tryd.prog 45 #[.agg #[.int .i64 cols, .slice A n c], .int .i64 col] w fun e w' => e = .returned (.bool (colB col cols)) ∧ Below w.heap.size w w' := by
  have hc : col < 0 ∨ (0 ≤ col ∧ ¬ col < cols) ∨ (0 ≤ col ∧ col < cols) := by omega
  rcases hc with h | ⟨h, h2⟩ | ⟨h, h2⟩
  · have HR : Hid (colB col cols = false) := decide_eq_false (by omega)
    go_enter Tryd.func45, Tryd.ntmps45
    go_wp2
    go_ret
    exact ⟨ret_bool (by rw [HR.out]), below_alloc _ _⟩
  · have HR : Hid (colB col cols = false) := decide_eq_false (by omega)
    have hd : decide (col < cols) = false := decide_eq_false h2
    go_enter Tryd.func45, Tryd.ntmps45
    go_wp2
    go_ret
    exact ⟨ret_bool (by rw [HR.out]), below_alloc _ _⟩
  · have HR : Hid (colB col cols = true) := decide_eq_true (by omega)
    go_enter Tryd.func45, Tryd.ntmps45
    go_wp2
    go_ret
    exact ⟨ret_bool (by rw [HR.out]), below_alloc _ _⟩

/-- Small enough to be worked with. -/
def Sm (lv : List (Ln × Value)) : Prop := lv.length ≤ 1000 ∧ ∀ e ∈ lv, e.1.cs.length ≤ 1000 ∧ ∀ c ∈ e.1.cs, c.tx.size ≤ 1000
def allB (cols : Int) (lv : List (Ln × Value)) : Bool := lv.all fun e => fitsB cols e.1.cs
theorem allB_stop {cols : Int} {lv : List (Ln × Value)} (h : allB cols (lv.take lv.length) = true) : allB cols lv = true := by rwa [List.take_length] at h
theorem allB_step {cols : Int} {lv : List (Ln × Value)} {k : Nat} {e : Ln × Value} (h : allB cols (lv.take k) = true) (he : lv[k]? = some e) (hf : fitsB cols e.1.cs = true) : allB cols (lv.take (k + 1)) = true := by
  obtain ⟨hk, rfl⟩ := List.getElem?_eq_some_iff.1 he
  rw [List.take_succ_eq_append_getElem hk]
  unfold allB at *
  rw [List.all_append, h]
  simp [hf]
theorem allB_no {cols : Int} {lv : List (Ln × Value)} {k : Nat} {e : Ln × Value} (he : lv[k]? = some e) (hf : fitsB cols e.1.cs = false) : allB cols lv = false := by
  unfold allB
  rw [List.all_eq_false]
  exact ⟨e, List.mem_of_getElem? he, by simp [hf]⟩

set_option maxRecDepth 100000 in
set_option maxHeartbeats 1000000 in
theorem pRight_any (cols : Int) (v : Value) (lv : List (Ln × Value)) (W : World) (hr : LR W v lv) (hc : CesOf W lv) (hs : Sm lv) (hT : Tab W) (hW : TabW W) :
    Calls Tryd.prog 31 #[.agg #[.int .i64 cols, v]] W fun e w' => e = .returned (.bool (sizeB cols lv.length && allB cols lv)) ∧ Below W.heap.size W w' := by
  have hB := Box.new W 24 #[.int .i64 cols, v]
  have hbel : Below W.heap.size W (W.alloc (.cells #[.int .i64 cols, v] 24)) := below_alloc _ _
  obtain ⟨A, c0, rfl⟩ := hr.spell
  have hsz := fun W => size_any cols lv.length W
  obtain ⟨n, hnl⟩ : ∃ n, lv.length = n := ⟨_, rfl⟩
  have HL := hid hnl
  rw [hnl] at hsz hB hbel
  rw [hnl]
  obtain ⟨hs1, hs2⟩ := hs
  rw [hnl] at hs1
  have HB := hid hB
  have HBL := hid hbel
  clear hbel hB hnl
  cases hq : sizeB cols n
  · rw [hq] at hsz
    clear hq
    go_enter Tryd.func31, Tryd.ntmps31
    go_wp2_with (with_reducible refine (hsz _).mono ?_; rintro e w2 ⟨rfl, rfl⟩)
    go_ret
    exact ⟨rfl, HBL.out⟩
  · rw [hq] at hsz
    clear hq
    rw [Bool.true_and]
    go_enter Tryd.func31, Tryd.ntmps31
    go_wp2_with (with_reducible refine (hsz _).mono ?_; rintro e w2 ⟨rfl, rfl⟩)
    go_loopw [15] (fun i wr => ∃ k : Nat, k ≤ n ∧ i = .int .i64 k ∧ Box wr W.heap.size 24 #[.int .i64 cols, .slice A n c0] ∧ Below W.heap.size W wr ∧ allB cols (lv.take k) = true) (fun i _ => n - (intOf i).toNat)
    case atStart => exact ⟨0, by omega, rfl, HB.out, HBL.out, rfl⟩
    case round =>
      obtain ⟨k, hk, rfl, hb, hbl, hrel'⟩ := hrel
      have HREL := hid hrel'
      clear hrel'
      by_cases hlt : k < n
      · have hki : (k : Int) < n := by omega
        have hkl : k < lv.length := by rw [HL.out]; exact hlt
        have hx := List.getElem?_eq_getElem hkl
        obtain ⟨z1, z2⟩ := hs2 lv[k] (List.getElem_mem _)
        have hce := hc lv[k] (List.getElem_mem _)
        obtain ⟨A', c', hA', _, hcell⟩ := hr.below hbl
        cases hA'
        obtain ⟨g, o, rfl, hg, hcell⟩ := hcell (by intro e; subst e; simp at hkl)
        obtain ⟨p0, p1⟩ := hcell k _ hx
        generalize lv[k] = x at *
        obtain ⟨⟨cs, soft⟩, cv⟩ := x
        simp only at *
        have hF := pFits_any cols cv cs soft (wr.alloc (.cells #[cv, .bool soft] 57)) (hce.below (hbl.alloc hbl.size _)) z2 (by omega) (hT.below (hbl.alloc hbl.size _)) (hW.below (hbl.alloc hbl.size _))
        obtain ⟨cA, cc, rfl⟩ := hce.spell
        have hbx := Box.new wr 57 #[.slice cA cs.length cc, .bool soft]
        have hb1 := hb.below (below_alloc wr (.cells #[.slice cA cs.length cc, .bool soft] 57)) hb.lt
        have hbl1 := hbl.alloc hbl.size (.cells #[.slice cA cs.length cc, .bool soft] 57)
        have HB1 := hid hb1
        have HBL1 := hid hbl1
        have HX := hid hx
        obtain ⟨⟨a0, a1⟩, _⟩ := hbx.two
        obtain ⟨⟨b0, b1⟩, _⟩ := hb1.two
        have hblt := hb.lt
        clear hbx hb1 hbl1 hx hcell hce
        cases h1 : fitsB cols cs
        · rw [h1] at hF
          have HE := hid (allB_no HX.out h1)
          clear h1
          go_wp2_with (with_reducible refine hF.mono ?_; rintro e w2 ⟨rfl, hb2⟩)
          go_ret
          exact ⟨ret_bool HE.out.symm, HBL1.out.trans (hb2.mono HBL1.out.size)⟩
        · rw [h1] at hF
          have HE := hid (allB_step HREL.out HX.out h1)
          clear h1
          go_wp2_with (with_reducible refine hF.mono ?_; rintro e w2 ⟨rfl, hb2⟩)
          go_roundw
          case rel => exact ⟨k + 1, by omega, by go_num, HB1.out.below hb2 (by simp <;> omega), HBL1.out.trans (hb2.mono HBL1.out.size), HE.out⟩
          case measure => simp [intOf]; omega
      · have hkm : k = n := by omega
        subst hkm
        have HE : Hid (allB cols lv = true) := by
          have h := HREL.out
          rw [← HL.out] at h
          exact allB_stop h
        go_wp2
        go_ret
        exact ⟨ret_bool HE.out.symm, hbl⟩
end Go.Proofs.YtdpicbfpjnampaaDoor
