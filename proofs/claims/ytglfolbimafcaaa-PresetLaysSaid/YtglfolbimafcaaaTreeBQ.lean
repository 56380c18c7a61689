/- Layer 11, the package: isSize, isPane, along, fill, madeRight. -/
import Derived.Test.YtglfolbimafcaaaTreeAQ
import Derived.Test.YtglfolbimafcaaaBlkQ
import Derived.Lib.QuietBelow
namespace Go.Proofs.Ytglfolbimafcaaa
open Go.RowKit

set_option maxHeartbeats 1000000 in
theorem isSize_any (w h : Int) (W : World) : Calls Try.prog 23 #[.int .i64 w, .int .i64 h] W fun e w' => e = .returned (.bool (sizeB w h)) ∧ w' = W := by
  by_cases h1 : 1 ≤ w
  · have d1 : decide (1 ≤ w) = true := decide_eq_true h1
    by_cases h2 : w ≤ 80
    · have d2 : decide (w ≤ 80) = true := decide_eq_true h2
      by_cases h3 : 1 ≤ h
      · have d3 : decide (1 ≤ h) = true := decide_eq_true h3
        by_cases h4 : h ≤ 50
        · have d4 : decide (h ≤ 50) = true := decide_eq_true h4
          have HE : Hid (sizeB w h = true) := sizeB_iff.2 ⟨h1, h2, h3, h4⟩
          clear h1 h2 h3 h4
          go_enter Try.func23, Try.ntmps23
          go_wp2
          go_ret
          exact ⟨ret_bool HE.out.symm, rfl⟩
        · have d4 : decide (h ≤ 50) = false := decide_eq_false h4
          have HE : Hid (sizeB w h = false) := by unfold Hid; rw [Bool.eq_false_iff]; intro e; exact h4 (sizeB_iff.1 e).2.2.2
          clear h1 h2 h3 h4
          go_enter Try.func23, Try.ntmps23
          go_wp2
          go_ret
          exact ⟨ret_bool HE.out.symm, rfl⟩
      · have d3 : decide (1 ≤ h) = false := decide_eq_false h3
        have HE : Hid (sizeB w h = false) := by unfold Hid; rw [Bool.eq_false_iff]; intro e; exact h3 (sizeB_iff.1 e).2.2.1
        clear h1 h2 h3
        go_enter Try.func23, Try.ntmps23
        go_wp2
        go_ret
        exact ⟨ret_bool HE.out.symm, rfl⟩
    · have d2 : decide (w ≤ 80) = false := decide_eq_false h2
      have HE : Hid (sizeB w h = false) := by unfold Hid; rw [Bool.eq_false_iff]; intro e; exact h2 (sizeB_iff.1 e).2.1
      clear h1 h2
      go_enter Try.func23, Try.ntmps23
      go_wp2
      go_ret
      exact ⟨ret_bool HE.out.symm, rfl⟩
  · have d1 : decide (1 ≤ w) = false := decide_eq_false h1
    have HE : Hid (sizeB w h = false) := by unfold Hid; rw [Bool.eq_false_iff]; intro e; exact h1 (sizeB_iff.1 e).1
    clear h1
    go_enter Try.func23, Try.ntmps23
    go_wp2
    go_ret
    exact ⟨ret_bool HE.out.symm, rfl⟩
set_option maxHeartbeats 1000000 in
theorem isPane_any (p : Int) (W : World) : Calls Try.prog 36 #[.int .i64 p] W fun e w' => e = .returned (.bool (isPaneB p)) ∧ w' = W := by
  by_cases h1 : 1 ≤ p
  · have d1 : decide (1 ≤ p) = true := decide_eq_true h1
    by_cases h2 : p ≤ 999
    · have d2 : decide (p ≤ 999) = true := decide_eq_true h2
      have HE : Hid (isPaneB p = true) := decide_eq_true ⟨h1, h2⟩
      clear h1 h2
      go_enter Try.func36, Try.ntmps36
      go_wp2
      go_ret
      exact ⟨ret_bool HE.out.symm, rfl⟩
    · have d2 : decide (p ≤ 999) = false := decide_eq_false h2
      have HE : Hid (isPaneB p = false) := decide_eq_false fun e => h2 e.2
      clear h1 h2
      go_enter Try.func36, Try.ntmps36
      go_wp2
      go_ret
      exact ⟨ret_bool HE.out.symm, rfl⟩
  · have d1 : decide (1 ≤ p) = false := decide_eq_false h1
    have HE : Hid (isPaneB p = false) := decide_eq_false fun e => h1 e.1
    clear h1
    go_enter Try.func36, Try.ntmps36
    go_wp2
    go_ret
    exact ⟨ret_bool HE.out.symm, rfl⟩
/-- Where a rect begins, and how many cells it has: places in its box. -/
def fromO (k : Int) : Nat := if k = 1 then 1 else 2
def cellsO (k : Int) : Nat := if k = 1 then 3 else 4
set_option maxHeartbeats 1000000 in
theorem along_any (b : Nat) (k : Int) (W : World) :
    Calls Try.prog 37 #[.pointer (some ⟨b, 0, none⟩), .int .i64 k] W fun e w' => e = .returned (.tuple #[.pointer (some ⟨b, fromO k, none⟩), .pointer (some ⟨b, cellsO k, none⟩)]) ∧ Below W.heap.size W w' := by
  by_cases hk : k = 1
  · subst hk
    go_enter Try.func37, Try.ntmps37
    go_wp2_with fail
    go_quiet (fail)
    go_wp2_with fail
    go_ret2
    exact ⟨rfl, below_drew _ _⟩
  · have h1 : fromO k = 2 := by unfold fromO; rw [if_neg hk]
    have h2 : cellsO k = 4 := by unfold cellsO; rw [if_neg hk]
    rw [h1, h2]
    go_enter Try.func37, Try.ntmps37
    go_wp2_with fail
    go_quiet (fail)
    go_wp2_with fail
    go_ret2
    exact ⟨rfl, below_drew _ _⟩
set_option maxRecDepth 100000 in
set_option maxHeartbeats 4000000 in
theorem fill_any (t : Tr) (v : Value) (k c : Int) (W : World) (h : TrAt W t v) (hn : t.kids.length ≤ 1000) :
    Calls Try.prog 49 #[v, .int .i64 k, .int .i64 c] W fun e w' => e = .returned (.bool (fillT t.kids k c)) ∧ Below W.heap.size W w' := by
  obtain ⟨A, cap, rfl, hcap⟩ := h.spell
  obtain ⟨n, hnn⟩ : ∃ n, t.kids.length = n := ⟨_, rfl⟩
  have hk := fun j kd (hj : t.kids[j]? = some kd) => h.kid hj
  rw [hnn] at hk hn ⊢
  have HK := hid hk
  have HF : Hid (fillT t.kids k c = fillGo k (wrap64 (c - ((n : Int) - 1))) t.kids) := by unfold Hid fillT; rw [hnn, w64_id (a := (n : Int) - 1) (by omega) (by omega)]; rfl
  have HL : Hid (-9223372036854775808 ≤ wrap64 (c - ((n : Int) - 1)) ∧ wrap64 (c - ((n : Int) - 1)) ≤ 9223372036854775807) := by
    unfold Hid wrap64; omega
  have HN := hid hnn
  clear hk h hcap hnn
  go_enter Try.func49, Try.ntmps49
  go_wp2_with fail
  go_loopw [7, 17] (fun lv i wr => ∃ (j : Nat) (lf : Int), lv = .int .i64 lf ∧ i = .int .i64 j ∧ j ≤ n ∧ (-9223372036854775808 ≤ lf ∧ lf ≤ 9223372036854775807) ∧ fillGo k lf (t.kids.drop j) = fillT t.kids k c ∧ Below W.heap.size W wr) (fun _ i _ => n - (intOf i).toNat)
  case atStart => exact ⟨0, _, rfl, rfl, Nat.zero_le _, HL.out, HF.out.symm, Below.refl _ _⟩
  case round =>
    obtain ⟨j, lf, rfl, rfl, hjn, ⟨hl1, hl2⟩, hfg, hbr⟩ := hrel
    by_cases hj : j < n
    · have hji : (j : Int) < n := by omega
      have hni : (n : Int) ≤ 1000 := by omega
      have hlt : j < t.kids.length := by rw [HN.out]; exact hj
      obtain ⟨kd, hkd⟩ : ∃ kd, t.kids[j]? = some kd := ⟨_, List.getElem?_eq_getElem hlt⟩
      obtain ⟨g, o, c', e, hcap, hnode, _⟩ := HK.out j kd hkd
      cases e
      obtain ⟨kv, c0, c1, c2, c3, hkv⟩ := hnode.below hbr
      obtain ⟨kA, kc, rfl, _⟩ := hkv.spell
      obtain ⟨km, hkm⟩ : ∃ km, kd.kids.length = km := ⟨_, rfl⟩
      rw [hkm] at c3
      have hdr : t.kids.drop j = kd :: t.kids.drop (j + 1) := by
        rw [List.getElem?_eq_getElem hlt] at hkd
        cases hkd
        exact List.drop_eq_getElem_cons hlt
      rw [hdr] at hfg
      unfold fillGo at hfg
      obtain ⟨kk, hkk⟩ : ∃ kk, kd.kind = kk := ⟨_, rfl⟩
      obtain ⟨kp, hkp⟩ : ∃ kp, kd.pane = kp := ⟨_, rfl⟩
      obtain ⟨ks, hks⟩ : ∃ ks, kd.size = ks := ⟨_, rfl⟩
      rw [hkk] at c0 hfg
      rw [hkp] at c1
      rw [hks] at c2 hfg
      have HBR := hid hbr
      have HBA := hid (hbr.alloc hbr.size (.cells #[.int .i64 kk, .int .i64 kp, .int .i64 ks, .slice kA km kc] 24))
      clear hkk hkp hks hkm hkv hnode hkd hdr hbr hlt
      by_cases e1 : kk = k
      · rw [if_pos e1] at hfg
        have HV := hid hfg
        clear hfg
        subst e1
        go_wp2
        go_ret
        exact ⟨ret_bool HV.out, HBA.out⟩
      · rw [if_neg e1] at hfg
        by_cases e2 : ks < 1
        · rw [if_pos e2] at hfg
          have HV := hid hfg
          clear hfg
          go_wp2
          go_ret
          exact ⟨ret_bool HV.out, HBA.out⟩
        · rw [if_neg e2] at hfg
          by_cases e3 : ks > lf
          · rw [if_pos e3] at hfg
            have HV := hid hfg
            clear hfg
            go_wp2
            go_ret
            exact ⟨ret_bool HV.out, HBA.out⟩
          · rw [if_neg e3] at hfg
            have HV := hid hfg
            clear hfg
            go_wp2
            go_roundw
            case rel => exact ⟨j + 1, _, rfl, by go_num, by omega, by omega, HV.out, HBA.out⟩
            case measure => simp [intOf]; omega
    · have hjn' : j = n := by omega
      subst hjn'
      have HV : Hid ((lf == 0) = fillT t.kids k c) := by unfold Hid; rw [← hfg, ← HN.out, List.drop_length]; rfl
      have HBR := hid hbr
      clear hfg hbr hj
      go_wp2
      go_ret
      exact ⟨ret_bool HV.out, HBR.out⟩
def madeK (k p n : Int) (f : Bool) : Bool :=
  if k = 0 then decide (n = 0) && isPaneB p else if k = 1 ∨ k = 2 then decide (p = 0) && decide (2 ≤ n) && f else false
theorem madeR_K (t : Tr) (q : Rc) : madeR t q = madeK t.kind t.pane (t.kids.length : Int) (fillT t.kids t.kind (q.cells t.kind)) := by
  unfold madeR madeK
  have h1 : decide (t.kids.length = 0) = decide ((t.kids.length : Int) = 0) := by congr 1; exact propext ⟨fun h => by omega, fun h => by omega⟩
  have h2 : decide (2 ≤ t.kids.length) = decide (2 ≤ (t.kids.length : Int)) := by congr 1; exact propext ⟨fun h => by omega, fun h => by omega⟩
  rw [h1, h2]
/-- A rect as a value. -/
def Rc.row (q : Rc) : Array Value := #[.int .i64 q.pane, .int .i64 q.x, .int .i64 q.y, .int .i64 q.w, .int .i64 q.h]
end Go.Proofs.Ytglfolbimafcaaa
