/- Layer 6, the package: what is done with a line: cells come. -/
/- Layer 6, the package: what is done with a line: cells go. Made by wip/gen/gridDel.py. -/
import Derived.Test.YtkejoknphnkhnaaDoorGridItQ
import Derived.StillTailTactics
import Derived.Deep.QuietTactic
import Derived.BigQuiet
import Derived.IntWalk
namespace Go.Proofs.YtkejoknphnkhnaaDoor
open Go.RowKit

theorem wpList_copy_runC {ops : Array Oper} {rest : List Oper} {o : Oper} {a : Act} {w : World} {Q : Exit → Act → World → Prop} (hw : Region.wanted o (yielded ops a.tmps) = true) (d s : Operand)
    (ho : o.op = .call { callee := .builtin .copy, args := #[d, s], argTypes := #[52, 52] }) (v u : Value) (hd : a.eval d = v) (hs : a.eval s = u) {v' : Value} {w' : World}
    (hr : ∀ ty, (Builtin.copy_ #[52, 52] ty #[v, u]).run Tryd.prog w = .ok v' w') (h : wpList Tryd.prog ops Q rest (a.put o.dst v') w') : wpList Tryd.prog ops Q (o :: rest) a w := by
  simp only [wpList, hw, if_true]
  left
  unfold Oper.wp
  simp [execOp, ho, resolve, invoke, builtin, hd, hs, hr o.type, Result.andThen]
  exact h
theorem run_copy_zero (w : World) (ty : TypeId) (A B : Option Addr) (dCap sLen sCap : Nat) :
    (Builtin.copy_ #[52, 52] ty #[.slice A 0 dCap, .slice B sLen sCap]).run Tryd.prog w = .ok (goInt 0) w := by
  have hl : ∀ (x : Addr), (loadCells x 0).run Tryd.prog w = .ok #[] w := fun x => by simpa using run_loadCells_list (P := Tryd.prog) w x [] (by simp)
  cases A <;> cases B <;> simp [Builtin.copy_, run_underlying Tryd.underlying52, Builtin.lenOf, Builtin.firstCells, storeCells, hl]
/-- A copy within a block, of none too. -/
theorem copy_any (w : World) {g cap : Nat} {l : List Ce} (h : CBox w g l cap) (d s n dCap sLen sCap : Nat) (A : Option Addr) (hn : n ≤ sLen) (hA : 0 < n → A = some ⟨g, d * 5, none⟩) (hd : d + n ≤ l.length) (hs : s + n ≤ l.length) :
    ∃ w', (∀ ty, (Builtin.copy_ #[52, 52] ty #[.slice A n dCap, .slice (some ⟨g, s * 5, none⟩) sLen sCap]).run Tryd.prog w = .ok (goInt n) w') ∧ CBox w' g (putAll l d ((l.drop s).take n)) cap ∧ Only g w w' := by
  rcases Nat.eq_zero_or_pos n with rfl | hp
  · exact ⟨w, fun ty => run_copy_zero w ty A _ dCap sLen sCap, by rw [List.take_zero]; exact h, Only.refl g w⟩
  · rw [hA hp]
    have hl : ((l.drop s).take n).length = n := by rw [List.length_take, List.length_drop]; omega
    obtain ⟨h1, h2⟩ := CBox.putAll ((l.drop s).take n) l d w h (by rw [hl]; exact hd)
    refine ⟨_, fun ty => ?_, h1, h2⟩
    have hr := run_copy_ce w ty g (d * 5) n dCap (s * 5) sLen sCap ((l.drop s).take n) (by rw [hl]; simp only [Nat.min_def]; split <;> omega) (h.flat (k := s) (fun j e hj => by
      rw [List.getElem?_take] at hj
      split at hj
      · rwa [List.getElem?_drop] at hj
      · cases hj)) (fun j hj => h.some_ (by rw [hl] at hj; omega)) (fun j _ => h.free _)
    rw [hl] at hr
    exact hr

set_option maxRecDepth 100000 in
set_option maxHeartbeats 1000000 in
theorem insert_chg (B : Nat) (w : World) (cs : List Ce) (soft : Bool) (q n : Nat) (n0 : Int) (a : At) (bq bn ba : Nat) (h1 : bq < B) (h2 : bn < B) (h3 : ba < B) (hbq : Box w bq 3 #[.int .i64 q]) (hbn : Box w bn 3 #[.int .i64 n0]) (hba : Box w ba 26 a.cells)
    (hq : q < cs.length) (hc : cs.length ≤ 1000) (hn0 : 0 ≤ n0) (hn : (n0 ≤ ((cs.length - q : Nat) : Int) ∧ n0 = n) ∨ (((cs.length - q : Nat) : Int) < n0 ∧ n = cs.length - q)) :
    Chg 43 #[.pointer (some ⟨bq, 0, none⟩), .pointer (some ⟨bn, 0, none⟩), .pointer (some ⟨ba, 0, none⟩)] B w cs (insL cs q n a) soft soft := by
  refine ⟨fun _ _ => by kernel_rfl, fun W b v hbel hB hbox hcs => ?_⟩
  have kq := (hbq.below hbel h1).cell 0
  have kn := (hbn.below hbel h2).cell 0
  have ka := hba.below hbel h3
  obtain ⟨fg, bg, fl⟩ := a
  unfold At.cells at ka
  simp only at ka
  obtain ⟨⟨a0, a1, a2⟩, _⟩ := ka.three
  obtain ⟨⟨c0, c1⟩, d0, d1⟩ := hbox.two
  show Calls _ _ #[.pointer (some ⟨b, 0, none⟩), .pointer (some ⟨bq, 0, none⟩), .pointer (some ⟨bn, 0, none⟩), .pointer (some ⟨ba, 0, none⟩)] _ _
  have HX := hid hbox
  have hlt := hbox.lt
  obtain ⟨g, cap, rfl, hg, hcb⟩ := hcs.some (by intro e; rw [e] at hq; simp at hq)
  have hcap : cs.length ≤ cap := by obtain ⟨_, _, _, h, _⟩ := hcb; exact h
  have hle : n ≤ cs.length - q := by omega
  have hgb : ¬ g = b := by omega
  have hne : ¬ cap = q := by omega
  obtain ⟨m, hm⟩ : ∃ m, cs.length = m := ⟨_, rfl⟩
  rw [hm] at c0 hq hc hn hcap hle
  have HM := hid hm
  have HCB := hid hcb
  have hqi : (q : Int) ≤ m := by omega
  have hqi2 : (q : Int) ≤ cap := by omega
  clear hcs hbox hm hcb
  have hcopy : ∀ W', CBox W' g cs cap → ∃ w', (∀ ty, (Builtin.copy_ #[52, 52] ty #[.slice (if cap - q = n then some ⟨g, q * 5, none⟩ else some ⟨g, q * 5 + n * 5, none⟩) (m - q - n) (cap - q - n), .slice (some ⟨g, q * 5, none⟩) (m - q) (cap - q)]).run Tryd.prog W' = .ok (goInt ((m - q - n : Nat) : Int)) w') ∧ CBox w' g (putAll cs (q + n) ((cs.drop q).take (m - q - n))) cap ∧ Only g W' w' := fun W' h =>
    copy_any W' h (q + n) q (m - q - n) (cap - q - n) (m - q) (cap - q) (if cap - q = n then some ⟨g, q * 5, none⟩ else some ⟨g, q * 5 + n * 5, none⟩) (by omega) (fun h => by rw [if_neg (by omega), Nat.add_mul]) (by rw [HM.out]; omega) (by rw [HM.out]; omega)
  rcases hn with ⟨hn1, rfl⟩ | ⟨hn1, hn2⟩
  · have hn2 : (n : Int) ≤ ((cap - q : Nat) : Int) := by omega
    by_cases hcn : cap - q = n
    · have hcopy' : ∀ W', CBox W' g cs cap → ∃ w', (∀ ty, (Builtin.copy_ #[52, 52] ty #[.slice (some ⟨g, q * 5, none⟩) (m - q - n) (cap - q - n), .slice (some ⟨g, q * 5, none⟩) (m - q) (cap - q)]).run Tryd.prog W' = .ok (goInt ((m - q - n : Nat) : Int)) w') ∧ CBox w' g (putAll cs (q + n) ((cs.drop q).take (m - q - n))) cap ∧ Only g W' w' := fun W' h => by
        have := hcopy W' h
        rwa [if_pos hcn] at this
      have HCOPY := hid hcopy'
      clear hcopy' hcopy
      go_enter Tryd.func43, Tryd.ntmps43
      go_wp2_with fail
      go_quiet (fail)
      obtain ⟨w1, hr1, hc1, ho1⟩ := HCOPY.out (W.drewN nq) HCB.out.drewN
      have hx1 := (HX.out.drewN (n := nq)).only ho1 (by omega)
      have hn1' := ho1.below (B := b) (by show b ≤ W.heap.size; omega) (by omega)
      have HC1 := hid hc1
      have HX1 := hid hx1
      have HO1 := hid ((below_drew W nq).mono (Nat.le_of_lt hlt) |>.trans hn1')
      have HR1 := hid hr1
      have ka1 := hba.below hbel h3
      have ka2 := (ka1.drewN (n := nq)).only ho1 (by omega)
      clear hr1 hc1 ho1 hx1 hn1' ka1 a0 a1 a2
      unfold At.cells at ka2
      simp only at ka2
      go_upto_region 3 with (refine wpList_copy_runC rfl (.tmp 19) (.tmp 20) rfl _ _ rfl rfl HR1.out ?_)
      obtain ⟨⟨a0, a1, a2⟩, _⟩ := ka2.three
      have her := fun c => erase_some g q n c cap (putAll cs (q + n) ((cs.drop q).take (m - q - n))) ⟨fg, bg, fl⟩ w1.drew HC1.out.drew (by rw [putAll_length, HM.out]; omega) (by rw [putAll_length, HM.out]; omega)
      unfold At.agg at her
      simp only at her
      have HER := hid her
      clear her
      go_wp2_with fail
      go_still_tail 4, (by kernel_rfl)
      change wpList _ _ _ _ _ w1.drew
      go_wp2_with fail
      with_reducible refine (HER.out _).mono ?_
      rintro e w2 ⟨rfl, h2, h3'⟩
      dsimp only
      have H2 := hid h2
      clear h2
      go_wp2
      go_end0
      have hle2 : b ≤ w1.heap.size := Nat.le_of_lt HX1.out.lt
      refine ⟨rfl, ⟨_, HX1.out.drew.only h3' (by omega), .inr ⟨g, cap, ?_, hg, ?_⟩⟩, HO1.out.trans ((Below.refl b w1).drew.trans (h3'.below hle2 (by omega)))⟩
      · unfold insL
        rw [eraseL_length _ (by rw [putAll_length, HM.out]; omega), putAll_length, HM.out]
      · unfold insL
        rw [HM.out]
        exact H2.out
    · have hcopy' : ∀ W', CBox W' g cs cap → ∃ w', (∀ ty, (Builtin.copy_ #[52, 52] ty #[.slice (some ⟨g, q * 5 + n * 5, none⟩) (m - q - n) (cap - q - n), .slice (some ⟨g, q * 5, none⟩) (m - q) (cap - q)]).run Tryd.prog W' = .ok (goInt ((m - q - n : Nat) : Int)) w') ∧ CBox w' g (putAll cs (q + n) ((cs.drop q).take (m - q - n))) cap ∧ Only g W' w' := fun W' h => by
        have := hcopy W' h
        rwa [if_neg hcn] at this
      have HCOPY := hid hcopy'
      clear hcopy' hcopy
      go_enter Tryd.func43, Tryd.ntmps43
      go_wp2_with fail
      go_quiet (fail)
      obtain ⟨w1, hr1, hc1, ho1⟩ := HCOPY.out (W.drewN nq) HCB.out.drewN
      have hx1 := (HX.out.drewN (n := nq)).only ho1 (by omega)
      have hn1' := ho1.below (B := b) (by show b ≤ W.heap.size; omega) (by omega)
      have HC1 := hid hc1
      have HX1 := hid hx1
      have HO1 := hid ((below_drew W nq).mono (Nat.le_of_lt hlt) |>.trans hn1')
      have HR1 := hid hr1
      have ka1 := hba.below hbel h3
      have ka2 := (ka1.drewN (n := nq)).only ho1 (by omega)
      clear hr1 hc1 ho1 hx1 hn1' ka1 a0 a1 a2
      unfold At.cells at ka2
      simp only at ka2
      go_upto_region 3 with (refine wpList_copy_runC rfl (.tmp 19) (.tmp 20) rfl _ _ rfl rfl HR1.out ?_)
      obtain ⟨⟨a0, a1, a2⟩, _⟩ := ka2.three
      have her := fun c => erase_some g q n c cap (putAll cs (q + n) ((cs.drop q).take (m - q - n))) ⟨fg, bg, fl⟩ w1.drew HC1.out.drew (by rw [putAll_length, HM.out]; omega) (by rw [putAll_length, HM.out]; omega)
      unfold At.agg at her
      simp only at her
      have HER := hid her
      clear her
      go_wp2_with fail
      go_still_tail 4, (by kernel_rfl)
      change wpList _ _ _ _ _ w1.drew
      go_wp2_with fail
      with_reducible refine (HER.out _).mono ?_
      rintro e w2 ⟨rfl, h2, h3'⟩
      dsimp only
      have H2 := hid h2
      clear h2
      go_wp2
      go_end0
      have hle2 : b ≤ w1.heap.size := Nat.le_of_lt HX1.out.lt
      refine ⟨rfl, ⟨_, HX1.out.drew.only h3' (by omega), .inr ⟨g, cap, ?_, hg, ?_⟩⟩, HO1.out.trans ((Below.refl b w1).drew.trans (h3'.below hle2 (by omega)))⟩
      · unfold insL
        rw [eraseL_length _ (by rw [putAll_length, HM.out]; omega), putAll_length, HM.out]
      · unfold insL
        rw [HM.out]
        exact H2.out
  · clear hcopy
    have hn3 : ((m - q : Nat) : Int) ≤ ((cap - q : Nat) : Int) := by omega
    rw [hn2]
    clear hn2
    by_cases hcn : cap - q = m - q
    all_goals
      go_enter Tryd.func43, Tryd.ntmps43
      go_wp2_with fail
      go_quiet (fail)
      have HC1 := hid (HCB.out.drewN (n := nq))
      have HX1 := hid (HX.out.drewN (n := nq))
      have HO1 := hid ((below_drew W nq).mono (Nat.le_of_lt hlt))
      have ka2 := hid ((hba.below hbel h3).drewN (n := nq))
      clear a0 a1 a2
      go_upto_region 3 with (refine wpList_copy_runC rfl (.tmp 19) (.tmp 20) rfl _ _ rfl rfl (fun ty => run_copy_zero _ ty _ _ _ _ _) ?_)
      generalize W.drewN nq = w1 at *
      have ka3 := ka2.out
      unfold At.cells at ka3
      simp only at ka3
      obtain ⟨⟨a0, a1, a2⟩, _⟩ := ka3.three
      have her := fun c => erase_some g q (m - q) c cap cs ⟨fg, bg, fl⟩ w1.drew HC1.out.drew (by rw [HM.out]; omega) (by rw [HM.out]; omega)
      unfold At.agg at her
      simp only at her
      have HER := hid her
      clear her
      go_wp2_with fail
      go_still_tail 4, (by kernel_rfl)
      change wpList _ _ _ _ _ w1.drew
      go_wp2_with fail
      with_reducible refine (HER.out _).mono ?_
      rintro e w2 ⟨rfl, h2, h3'⟩
      dsimp only
      have H2 := hid h2
      clear h2
      go_wp2
      go_end0
      have hle2 : b ≤ w1.heap.size := Nat.le_of_lt HX1.out.lt
      have hins : insL cs q (m - q) ⟨fg, bg, fl⟩ = eraseL cs q (m - q) ⟨fg, bg, fl⟩ := by
        unfold insL
        rw [HM.out, Nat.sub_self, List.take_zero, putAll]
      refine ⟨rfl, ⟨_, HX1.out.drew.only h3' (by omega), .inr ⟨g, cap, ?_, hg, ?_⟩⟩, HO1.out.trans ((Below.refl b w1).drew.trans (h3'.below hle2 (by omega)))⟩
      · rw [hins, eraseL_length _ (by rw [HM.out]; omega), HM.out]
      · rw [hins]
        exact H2.out
end Go.Proofs.YtkejoknphnkhnaaDoor

namespace Go.Proofs.YtkejoknphnkhnaaDoor
open Go.RowKit

theorem run_copy_zero2 (w : World) (ty : TypeId) (A B : Option Addr) (dLen dCap sCap : Nat) :
    (Builtin.copy_ #[52, 52] ty #[.slice A dLen dCap, .slice B 0 sCap]).run Tryd.prog w = .ok (goInt 0) w := by
  have hl : ∀ (x : Addr), (loadCells x 0).run Tryd.prog w = .ok #[] w := fun x => by simpa using run_loadCells_list (P := Tryd.prog) w x [] (by simp)
  cases A <;> cases B <;> simp [Builtin.copy_, run_underlying Tryd.underlying52, Builtin.lenOf, Builtin.firstCells, storeCells, hl]
theorem run_copy_z (w : World) (ty : TypeId) (A B : Option Addr) (dLen dCap n sCap : Nat) (hn : n = 0) :
    (Builtin.copy_ #[52, 52] ty #[.slice A dLen dCap, .slice B n sCap]).run Tryd.prog w = .ok (goInt 0) w := by
  subst hn
  exact run_copy_zero2 w ty A B dLen dCap sCap
/-- A copy within a block, to the front, of none too. -/
theorem copy_back (w : World) {g cap : Nat} {l : List Ce} (h : CBox w g l cap) (d s n dLen dCap sCap : Nat) (A : Option Addr) (hn : n ≤ dLen) (hA : 0 < n → A = some ⟨g, s * 5, none⟩) (hd : d + n ≤ l.length) (hs : s + n ≤ l.length) :
    ∃ w', (∀ ty, (Builtin.copy_ #[52, 52] ty #[.slice (some ⟨g, d * 5, none⟩) dLen dCap, .slice A n sCap]).run Tryd.prog w = .ok (goInt n) w') ∧ CBox w' g (putAll l d ((l.drop s).take n)) cap ∧ Only g w w' := by
  rcases Nat.eq_zero_or_pos n with rfl | hp
  · exact ⟨w, fun ty => run_copy_zero2 w ty _ A dLen dCap sCap, by rw [List.take_zero]; exact h, Only.refl g w⟩
  · rw [hA hp]
    have hl : ((l.drop s).take n).length = n := by rw [List.length_take, List.length_drop]; omega
    obtain ⟨h1, h2⟩ := CBox.putAll ((l.drop s).take n) l d w h (by rw [hl]; exact hd)
    refine ⟨_, fun ty => ?_, h1, h2⟩
    have hr := run_copy_ce w ty g (d * 5) dLen dCap (s * 5) n sCap ((l.drop s).take n) (by rw [hl]; simp only [Nat.min_def]; split <;> omega) (h.flat (k := s) (fun j e hj => by
      rw [List.getElem?_take] at hj
      split at hj
      · rwa [List.getElem?_drop] at hj
      · cases hj)) (fun j hj => h.some_ (by rw [hl] at hj; omega)) (fun j _ => h.free _)
    rw [hl] at hr
    exact hr

set_option maxRecDepth 100000 in
set_option maxHeartbeats 8000000 in
theorem delete_chg (B : Nat) (w : World) (cs : List Ce) (soft : Bool) (q n : Nat) (n0 : Int) (a : At) (bq bn ba : Nat) (h1 : bq < B) (h2 : bn < B) (h3 : ba < B) (hbq : Box w bq 3 #[.int .i64 q]) (hbn : Box w bn 3 #[.int .i64 n0]) (hba : Box w ba 26 a.cells)
    (hq : q < cs.length) (hc : cs.length ≤ 1000) (hn0 : 0 ≤ n0) (hn : (n0 ≤ ((cs.length - q : Nat) : Int) ∧ n0 = n) ∨ (((cs.length - q : Nat) : Int) < n0 ∧ n = cs.length - q)) :
    Chg 45 #[.pointer (some ⟨bq, 0, none⟩), .pointer (some ⟨bn, 0, none⟩), .pointer (some ⟨ba, 0, none⟩)] B w cs (delL cs q n a) soft soft := by
  refine ⟨fun _ _ => by kernel_rfl, fun W b v hbel hB hbox hcs => ?_⟩
  have kq := (hbq.below hbel h1).cell 0
  have kn := (hbn.below hbel h2).cell 0
  have ka := hba.below hbel h3
  obtain ⟨fg, bg, fl⟩ := a
  unfold At.cells at ka
  simp only at ka
  obtain ⟨⟨a0, a1, a2⟩, _⟩ := ka.three
  obtain ⟨⟨c0, c1⟩, d0, d1⟩ := hbox.two
  show Calls _ _ #[.pointer (some ⟨b, 0, none⟩), .pointer (some ⟨bq, 0, none⟩), .pointer (some ⟨bn, 0, none⟩), .pointer (some ⟨ba, 0, none⟩)] _ _
  have HX := hid hbox
  have hlt := hbox.lt
  obtain ⟨g, cap, rfl, hg, hcb⟩ := hcs.some (by intro e; rw [e] at hq; simp at hq)
  have hcap : cs.length ≤ cap := by obtain ⟨_, _, _, h, _⟩ := hcb; exact h
  have hle : n ≤ cs.length - q := by omega
  have hgb : ¬ g = b := by omega
  have hne : ¬ cap = q := by omega
  obtain ⟨m, hm⟩ : ∃ m, cs.length = m := ⟨_, rfl⟩
  rw [hm] at c0 hq hc hn hcap hle
  have HM := hid hm
  have HCB := hid hcb
  have hqi : (q : Int) ≤ m := by omega
  have hqi2 : (q : Int) ≤ cap := by omega
  clear hcs hbox hm hcb
  have hcopy : ∀ W', CBox W' g cs cap → ∃ w', (∀ ty, (Builtin.copy_ #[52, 52] ty #[.slice (some ⟨g, q * 5, none⟩) (m - q) (cap - q), .slice (if cap - q = n then some ⟨g, q * 5, none⟩ else some ⟨g, q * 5 + n * 5, none⟩) (m - q - n) (cap - q - n)]).run Tryd.prog W' = .ok (goInt ((m - q - n : Nat) : Int)) w') ∧ CBox w' g (putAll cs q ((cs.drop (q + n)).take (m - q - n))) cap ∧ Only g W' w' := fun W' h =>
    copy_back W' h q (q + n) (m - q - n) (m - q) (cap - q) (cap - q - n) (if cap - q = n then some ⟨g, q * 5, none⟩ else some ⟨g, q * 5 + n * 5, none⟩) (by omega) (fun h => by rw [if_neg (by omega), Nat.add_mul]) (by rw [HM.out]; omega) (by rw [HM.out]; omega)
  have hera : ∀ w1, CBox w1 g (putAll cs q ((cs.drop (q + n)).take (m - q - n))) cap → ∀ c, Calls Tryd.prog 44 #[.slice (if cap - q = m - q - n then some ⟨g, q * 5, none⟩ else some ⟨g, q * 5 + (m - q - n) * 5, none⟩) (m - q - (m - q - n)) c, At.agg ⟨fg, bg, fl⟩] w1 (ErPost w1 g cap (delL cs q n ⟨fg, bg, fl⟩)) := by
    intro w1 h c
    have hd : delL cs q n ⟨fg, bg, fl⟩ = eraseL (putAll cs q ((cs.drop (q + n)).take (m - q - n))) (m - n) n ⟨fg, bg, fl⟩ := by
      unfold delL
      rw [HM.out]
    rw [hd, show m - q - (m - q - n) = n by omega]
    by_cases hn0 : n = 0
    · subst hn0
      rw [eraseL_0]
      exact (erase_none _ c ⟨fg, bg, fl⟩ w1).mono fun _ _ ⟨he, hb⟩ => ⟨he, h.below hb h.lt, Only.of_below hb⟩
    · rw [if_neg (by omega), show q * 5 + (m - q - n) * 5 = (m - n) * 5 by omega]
      exact erase_some g (m - n) n c cap _ ⟨fg, bg, fl⟩ w1 h (by rw [putAll_length, HM.out]; omega) (by rw [putAll_length, HM.out]; omega)
  unfold At.agg at hera
  simp only at hera
  have hlen : (delL cs q n ⟨fg, bg, fl⟩).length = m := by
    unfold delL
    rw [eraseL_length _ (by rw [putAll_length, HM.out]; omega), putAll_length, HM.out]
  have HLEN := hid hlen
  clear hlen
  rcases hn with ⟨hn1, rfl⟩ | ⟨hn1, hn2⟩
  · have hn2 : (n : Int) ≤ ((cap - q : Nat) : Int) := by omega
    have hn4 : (n : Int) ≤ ((m - q : Nat) : Int) := by omega
    have hn5 : ((m - q - n : Nat) : Int) ≤ ((m - q : Nat) : Int) := by omega
    have hcn3 : ¬ (cap - q = n ∧ cap - q = m - q - n) := by omega
    by_cases hcn : cap - q = n
    · have hcn2 : ¬ cap - q = m - q - n := fun h => hcn3 ⟨hcn, h⟩
      have hcn2' : ¬ n = m - q - n := by omega
      clear hcn3
      simp only [if_pos hcn] at hcopy
      simp only [if_neg hcn2] at hera
      have HCOPY := hid hcopy
      have HERA := hid hera
      clear hcopy hera
      go_enter Tryd.func45, Tryd.ntmps45
      go_wp2_with fail
      go_quiet (fail)
      obtain ⟨w1, hr1, hc1, ho1⟩ := HCOPY.out (W.drewN nq) HCB.out.drewN
      have hx1 := (HX.out.drewN (n := nq)).only ho1 (by omega)
      have hn1' := ho1.below (B := b) (by show b ≤ W.heap.size; omega) (by omega)
      have HC1 := hid hc1
      have HX1 := hid hx1
      have HO1 := hid ((below_drew W nq).mono (Nat.le_of_lt hlt) |>.trans hn1')
      have HR1 := hid hr1
      have ka1 := hba.below hbel h3
      have ka2 := (ka1.drewN (n := nq)).only ho1 (by omega)
      clear hr1 hc1 ho1 hx1 hn1' ka1 a0 a1 a2
      unfold At.cells at ka2
      simp only at ka2
      go_upto_region 2 with (refine wpList_copy_runC rfl (.tmp 13) (.tmp 19) rfl _ _ rfl rfl HR1.out ?_)
      obtain ⟨⟨a0, a1, a2⟩, _⟩ := ka2.three
      have HER := hid (HERA.out w1.drew HC1.out.drew)
      go_wp2_with fail
      go_still_tail 4, (by kernel_rfl)
      change wpList _ _ _ _ _ w1.drew
      go_wp2_with fail
      with_reducible refine (HER.out _).mono ?_
      rintro e w2 ⟨rfl, h2, h3'⟩
      dsimp only
      have H2 := hid h2
      clear h2
      go_wp2
      go_end0
      have hle2 : b ≤ w1.heap.size := Nat.le_of_lt HX1.out.lt
      exact ⟨rfl, ⟨_, HX1.out.drew.only h3' (by omega), .inr ⟨g, cap, by rw [HLEN.out, HM.out], hg, H2.out⟩⟩, HO1.out.trans ((Below.refl b w1).drew.trans (h3'.below hle2 (by omega)))⟩
    by_cases hcn2 : cap - q = m - q - n
    · clear hcn3
      simp only [if_neg hcn] at hcopy
      simp only [if_pos hcn2] at hera
      have HCOPY := hid hcopy
      have HERA := hid hera
      clear hcopy hera
      go_enter Tryd.func45, Tryd.ntmps45
      go_wp2_with fail
      go_quiet (fail)
      obtain ⟨w1, hr1, hc1, ho1⟩ := HCOPY.out (W.drewN nq) HCB.out.drewN
      have hx1 := (HX.out.drewN (n := nq)).only ho1 (by omega)
      have hn1' := ho1.below (B := b) (by show b ≤ W.heap.size; omega) (by omega)
      have HC1 := hid hc1
      have HX1 := hid hx1
      have HO1 := hid ((below_drew W nq).mono (Nat.le_of_lt hlt) |>.trans hn1')
      have HR1 := hid hr1
      have ka1 := hba.below hbel h3
      have ka2 := (ka1.drewN (n := nq)).only ho1 (by omega)
      clear hr1 hc1 ho1 hx1 hn1' ka1 a0 a1 a2
      unfold At.cells at ka2
      simp only at ka2
      go_upto_region 2 with (refine wpList_copy_runC rfl (.tmp 13) (.tmp 19) rfl _ _ rfl rfl HR1.out ?_)
      obtain ⟨⟨a0, a1, a2⟩, _⟩ := ka2.three
      have HER := hid (HERA.out w1.drew HC1.out.drew)
      go_wp2_with fail
      go_still_tail 4, (by kernel_rfl)
      change wpList _ _ _ _ _ w1.drew
      go_wp2_with fail
      with_reducible refine (HER.out _).mono ?_
      rintro e w2 ⟨rfl, h2, h3'⟩
      dsimp only
      have H2 := hid h2
      clear h2
      go_wp2
      go_end0
      have hle2 : b ≤ w1.heap.size := Nat.le_of_lt HX1.out.lt
      exact ⟨rfl, ⟨_, HX1.out.drew.only h3' (by omega), .inr ⟨g, cap, by rw [HLEN.out, HM.out], hg, H2.out⟩⟩, HO1.out.trans ((Below.refl b w1).drew.trans (h3'.below hle2 (by omega)))⟩
    · clear hcn3
      simp only [if_neg hcn] at hcopy
      simp only [if_neg hcn2] at hera
      have HCOPY := hid hcopy
      have HERA := hid hera
      clear hcopy hera
      go_enter Tryd.func45, Tryd.ntmps45
      go_wp2_with fail
      go_quiet (fail)
      obtain ⟨w1, hr1, hc1, ho1⟩ := HCOPY.out (W.drewN nq) HCB.out.drewN
      have hx1 := (HX.out.drewN (n := nq)).only ho1 (by omega)
      have hn1' := ho1.below (B := b) (by show b ≤ W.heap.size; omega) (by omega)
      have HC1 := hid hc1
      have HX1 := hid hx1
      have HO1 := hid ((below_drew W nq).mono (Nat.le_of_lt hlt) |>.trans hn1')
      have HR1 := hid hr1
      have ka1 := hba.below hbel h3
      have ka2 := (ka1.drewN (n := nq)).only ho1 (by omega)
      clear hr1 hc1 ho1 hx1 hn1' ka1 a0 a1 a2
      unfold At.cells at ka2
      simp only at ka2
      go_upto_region 2 with (refine wpList_copy_runC rfl (.tmp 13) (.tmp 19) rfl _ _ rfl rfl HR1.out ?_)
      obtain ⟨⟨a0, a1, a2⟩, _⟩ := ka2.three
      have HER := hid (HERA.out w1.drew HC1.out.drew)
      go_wp2_with fail
      go_still_tail 4, (by kernel_rfl)
      change wpList _ _ _ _ _ w1.drew
      go_wp2_with fail
      with_reducible refine (HER.out _).mono ?_
      rintro e w2 ⟨rfl, h2, h3'⟩
      dsimp only
      have H2 := hid h2
      clear h2
      go_wp2
      go_end0
      have hle2 : b ≤ w1.heap.size := Nat.le_of_lt HX1.out.lt
      exact ⟨rfl, ⟨_, HX1.out.drew.only h3' (by omega), .inr ⟨g, cap, by rw [HLEN.out, HM.out], hg, H2.out⟩⟩, HO1.out.trans ((Below.refl b w1).drew.trans (h3'.below hle2 (by omega)))⟩
  · clear hcopy hera HLEN
    have hn3 : ((m - q : Nat) : Int) ≤ ((cap - q : Nat) : Int) := by omega
    rw [hn2]
    clear hn2
    have hnz : ¬ cap - q = 0 := by omega
    by_cases hcn : cap - q = m - q
    all_goals
      go_enter Tryd.func45, Tryd.ntmps45
      go_wp2_with fail
      go_quiet (fail)
      have HC1 := hid (HCB.out.drewN (n := nq))
      have HX1 := hid (HX.out.drewN (n := nq))
      have HO1 := hid ((below_drew W nq).mono (Nat.le_of_lt hlt))
      have ka2 := hid ((hba.below hbel h3).drewN (n := nq))
      clear a0 a1 a2
      go_upto_region 2 with (refine wpList_copy_runC rfl (.tmp 13) (.tmp 19) rfl _ _ rfl rfl (fun ty => run_copy_z _ ty _ _ _ _ _ _ (by first | rfl | omega)) ?_)
      generalize W.drewN nq = w1 at *
      have ka3 := ka2.out
      unfold At.cells at ka3
      simp only at ka3
      obtain ⟨⟨a0, a1, a2⟩, _⟩ := ka3.three
      have her := fun c => erase_some g q (m - q) c cap cs ⟨fg, bg, fl⟩ w1.drew HC1.out.drew (by rw [HM.out]; omega) (by rw [HM.out]; omega)
      unfold At.agg at her
      simp only at her
      have HER := hid her
      clear her
      go_wp2_with fail
      go_still_tail 4, (by kernel_rfl)
      change wpList _ _ _ _ _ w1.drew
      go_wp2_with fail
      with_reducible refine (HER.out _).mono ?_
      rintro e w2 ⟨rfl, h2, h3'⟩
      dsimp only
      have H2 := hid h2
      clear h2
      go_wp2
      go_end0
      have hle2 : b ≤ w1.heap.size := Nat.le_of_lt HX1.out.lt
      have hins : delL cs q (m - q) ⟨fg, bg, fl⟩ = eraseL cs q (m - q) ⟨fg, bg, fl⟩ := by
        unfold delL
        rw [HM.out, Nat.sub_self, List.take_zero, putAll, show m - (m - q) = q by omega]
      refine ⟨rfl, ⟨_, HX1.out.drew.only h3' (by omega), .inr ⟨g, cap, ?_, hg, ?_⟩⟩, HO1.out.trans ((Below.refl b w1).drew.trans (h3'.below hle2 (by omega)))⟩
      · rw [hins, eraseL_length _ (by rw [HM.out]; omega), HM.out]
      · rw [hins]
        exact H2.out
end Go.Proofs.YtkejoknphnkhnaaDoor
