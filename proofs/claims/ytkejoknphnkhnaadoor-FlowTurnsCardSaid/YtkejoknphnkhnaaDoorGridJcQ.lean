/- Layer 6, the package: lines cut. -/
import Derived.Test.YtkejoknphnkhnaaDoorGridJQ
import Derived.Test.YtkejoknphnkhnaaDoorHeldSQ
namespace Go.Proofs.YtkejoknphnkhnaaDoor
open Go.RowKit

theorem LR.sub {W : World} {g o n c : Nat} {l : List (Ln × Value)} (h : LR W (.slice (some ⟨g, o, none⟩) n c) l) (hl : l.length = n) (k m cap : Nat) (hm : k + m ≤ n) (hc : m ≤ cap) : LR W (.slice (some ⟨g, o + k * 2, none⟩) m cap) ((l.drop k).take m) := by
  obtain ⟨A', c', e, _, hcell⟩ := h
  cases e
  have hlen : ((l.drop k).take m).length = m := by rw [List.length_take, List.length_drop]; omega
  refine ⟨_, _, by rw [hlen], by rw [hlen]; exact hc, fun hn => ?_⟩
  have hm0 : 0 < m := by rw [← hlen]; exact List.length_pos_iff.2 hn
  obtain ⟨g', o', e', hg, hcell⟩ := hcell (List.length_pos_iff.1 (by omega))
  cases e'
  refine ⟨g, o + k * 2, rfl, hg, fun j e he => ?_⟩
  rw [List.getElem?_take] at he
  split at he
  · rw [List.getElem?_drop] at he
    have := hcell (k + j) e he
    rwa [show o + k * 2 + j * 2 = o + (k + j) * 2 by omega]
  · cases he
theorem oper_append_runL {o : Oper} {a : Act} {w : World} {K : Act → World → Prop} {Q : Exit → Act → World → Prop} (s x : Operand)
    (ho : o.op = .call { callee := .builtin .append, args := #[s, x], argTypes := #[22, 22] }) (v u : Value) (hs : a.eval s = v) (hx : a.eval x = u) {v' : Value} {w' : World}
    (hr : ∀ ty, (Builtin.append_ #[22, 22] ty #[v, u]).run Tryd.prog w = .ok v' w') (h : K (a.put o.dst v') w') : Oper.wp Tryd.prog o a w K Q := by
  unfold Oper.wp
  simp [execOp, ho, resolve, invoke, builtin, hs, hx, hr o.type, Result.andThen]
  exact h

/-- What is cut, and what is left: a row of the call's own, or the first ones, without room behind them. -/
def CutPost (W : World) (A : Option Addr) (lv : List (Ln × Value)) (f t : Nat) (e : Ending) (w' : World) : Prop :=
  ∃ gone left, e = .returned (.tuple #[gone, left]) ∧ LR W gone ((lv.drop f).take (t - f)) ∧ Below W.heap.size W w' ∧
    (OwnL w' W.heap.size left (lv.take f ++ lv.drop t) ∨ (left = .slice A f f ∧ t = lv.length))
set_option maxRecDepth 100000 in
set_option maxHeartbeats 2000000 in
theorem cutLines_mid (g o n c : Nat) (lv : List (Ln × Value)) (f t : Nat) (W : World) (hr : LR W (.slice (some ⟨g, o, none⟩) n c) lv) (hn : lv.length = n) (hc : CesOf W lv) (hft : f ≤ t) (htn : t ≤ n) (hn1 : n ≤ 1000) (h : t < n) :
    Calls Tryd.prog 38 #[.slice (some ⟨g, o, none⟩) n c, .int .i64 f, .int .i64 t] W (CutPost W (some ⟨g, o, none⟩) lv f t) := by
  have hnc : n ≤ c := by obtain ⟨A', c', e, h, _⟩ := hr; cases e; rw [← hn]; exact h
  have hd : Below W.heap.size W W.drew := (Below.refl _ _).drew
  have hgone : LR W (.slice (some ⟨g, o + f * 2, none⟩) (t - f) (t - f)) ((lv.drop f).take (t - f)) := hr.sub hn f (t - f) (t - f) (by omega) (Nat.le_refl _)
  have hi1 : (f : Int) ≤ t := by omega
  have hi2 : (t : Int) ≤ c := by omega
  have hi3 : (t : Int) ≤ n := by omega
  have hi4 : (f : Int) ≤ c := by omega
  have hfirst : LR W (.slice (some ⟨g, o, none⟩) f f) (lv.take f) := by
    have := hr.sub hn 0 f f (by omega) (Nat.le_refl _)
    simpa using this
  have hlf : (lv.take f).length = f := by rw [List.length_take]; omega
  have HGONE := hid hgone
  have hct : ¬ c = t := by omega
  have hcf : ¬ c = f := by omega
  have hrest : LR W (.slice (some ⟨g, o + t * 2, none⟩) (n - t) (c - t)) (lv.drop t) := by
    have h2 := hr.sub hn t (n - t) (c - t) (by omega) (by omega)
    rwa [List.take_of_length_le (by rw [List.length_drop, hn]; exact Nat.le_refl _)] at h2
  obtain ⟨v', w', hrun, hown, hb⟩ := run_append_ln_grow W.drew (some ⟨g, o, none⟩) f f _ (lv.take f) (lv.drop t) (hfirst.below hd) hlf (hrest.below hd) (fun e he => hc.below hd e (List.mem_of_mem_drop he)) (by rw [List.length_drop, hn]; omega) (Nat.le_refl _) (by rw [List.length_drop, hn]; omega)
  obtain ⟨A', c', rfl⟩ := hown.spell
  generalize (lv.take f ++ lv.drop t).length = m at hrun hown
  have HRUN := hid hrun
  have HOWN := hid hown
  have HB := hid hb
  clear hrun hown hb hrest hlf hfirst hgone hc hn hr
  by_cases htf : f = t
  · subst htf
    go_enter Tryd.func38, Tryd.ntmps38
    go_wp2_with fail
    refine wp_region_S (TwoS 13 14 (fun _ => True) (fun _ => True)) (by kernel_rfl) ?_
    have hS : ∀ L, TwoS 13 14 (fun _ : World => True) (fun _ => True) L (World.drew W) := fun L => ⟨fun _ => trivial, fun _ => trivial⟩
    refine takeS (i := 0) (v := ?v0a) 8 rfl rfl (by kernel_rfl) (by kernel_rfl) (by kernel_rfl) (by kernel_rfl) (by decide) (by decide) (fun _ _ _ h => h) (Or.inl ⟨by rfl, fun w' _ => ?hy0a⟩) (hS _) ?rest0a
    case hy0a => go_simp; try with_reducible rfl
    simp only [Act.put, List.setIfInBounds_toArray, List.set_cons_zero, List.set_cons_succ]
    refine takeS (i := 1) (v := ?v1a) 9 rfl rfl (by kernel_rfl) (by kernel_rfl) (by kernel_rfl) (by kernel_rfl) (by decide) (by decide) (fun _ _ _ h => h) (Or.inl ⟨by rfl, fun w' _ => ?hy1a⟩) (hS _) ?rest1a
    case hy1a => go_simp; try with_reducible rfl
    simp only [Act.put, List.setIfInBounds_toArray, List.set_cons_zero, List.set_cons_succ]
    refine takeS (i := 2) (v := ?v2a) 10 rfl rfl (by kernel_rfl) (by kernel_rfl) (by kernel_rfl) (by kernel_rfl) (by decide) (by decide) (fun _ _ _ h => h) (Or.inl ⟨by rfl, fun w' _ => ?hy2a⟩) (hS _) ?rest2a
    case hy2a => go_simp; try with_reducible rfl
    simp only [Act.put, List.setIfInBounds_toArray, List.set_cons_zero, List.set_cons_succ]
    refine takeS (i := 3) (v := ?v3a) 11 rfl rfl (by kernel_rfl) (by kernel_rfl) (by kernel_rfl) (by kernel_rfl) (by decide) (by decide) (fun _ _ _ h => h) (Or.inl ⟨by rfl, fun w' _ => ?hy3a⟩) (hS _) ?rest3a
    case hy3a => go_simp; try with_reducible rfl
    simp only [Act.put, List.setIfInBounds_toArray, List.set_cons_zero, List.set_cons_succ]
    refine takeS (i := 4) (v := ?v4a) 12 rfl rfl (by kernel_rfl) (by kernel_rfl) (by kernel_rfl) (by kernel_rfl) (by decide) (by decide) (fun _ _ _ h => h) (Or.inl ⟨by rfl, fun w' _ => ?hy4a⟩) (hS _) ?rest4a
    case hy4a => go_simp; try with_reducible rfl
    simp only [Act.put, List.setIfInBounds_toArray, List.set_cons_zero, List.set_cons_succ]
    refine takeS (i := 5) (v := ?v5a) 13 rfl rfl (by kernel_rfl) (by kernel_rfl) (by kernel_rfl) (by kernel_rfl) (by decide) (by decide) (fun _ _ _ h => h) (Or.inl ⟨by rfl, fun w' _ => ?hy5a⟩) (hS _) ?rest5a
    case hy5a => go_simp; try with_reducible rfl
    simp only [Act.put, List.setIfInBounds_toArray, List.set_cons_zero, List.set_cons_succ]
    refine takeS (i := 6) (v := ?v6a) 14 rfl rfl (by kernel_rfl) (by kernel_rfl) (by kernel_rfl) (by kernel_rfl) (by decide) (by decide) (fun _ _ _ h => h) (Or.inl ⟨by rfl, fun w' _ => ?hy6a⟩) (hS _) ?rest6a
    case hy6a => go_simp; try with_reducible rfl
    simp only [Act.put, List.setIfInBounds_toArray, List.set_cons_zero, List.set_cons_succ]
    refine takeS (i := 7) (v := ?v7a) 15 rfl rfl (by kernel_rfl) (by kernel_rfl) (by kernel_rfl) (by kernel_rfl) (by decide) (by decide) (fun _ _ _ h => h) (Or.inl ⟨by rfl, fun w' _ => ?hy7a⟩) (hS _) ?rest7a
    case hy7a => go_simp; try with_reducible rfl
    simp only [Act.put, List.setIfInBounds_toArray, List.set_cons_zero, List.set_cons_succ]
    refine takeS (i := 8) (v := ?v8a) 16 rfl rfl (by kernel_rfl) (by kernel_rfl) (by kernel_rfl) (by kernel_rfl) (by decide) (by decide) (fun _ _ _ h => h) (Or.inl ⟨by rfl, fun w' _ => ?hy8a⟩) (hS _) ?rest8a
    case hy8a => go_simp; try with_reducible rfl
    simp only [Act.put, List.setIfInBounds_toArray, List.set_cons_zero, List.set_cons_succ]
    refine takeS (i := 9) (v := ?v9a) 17 rfl rfl (by kernel_rfl) (by kernel_rfl) (by kernel_rfl) (by kernel_rfl) (by decide) (by decide) (fun _ _ _ h => h) (Or.inl ⟨by rfl, fun w' _ => ?hy9a⟩) (hS _) ?rest9a
    case hy9a => go_simp; try with_reducible rfl
    simp only [Act.put, List.setIfInBounds_toArray, List.set_cons_zero, List.set_cons_succ]
    refine takeS (i := 10) (v := ?v10a) 18 rfl rfl (by kernel_rfl) (by kernel_rfl) (by kernel_rfl) (by kernel_rfl) (by decide) (by decide) (fun _ _ _ h => h) (Or.inl ⟨by rfl, fun w' _ => ?hy10a⟩) (hS _) ?rest10a
    case hy10a => go_simp; try with_reducible rfl
    simp only [Act.put, List.setIfInBounds_toArray, List.set_cons_zero, List.set_cons_succ]
    refine takeS (i := 11) (v := ?v11a) 19 rfl rfl (by kernel_rfl) (by kernel_rfl) (by kernel_rfl) (by kernel_rfl) (by decide) (by decide) (fun _ _ _ h => h) (Or.inl ⟨by rfl, fun w' _ => ?hy11a⟩) (hS _) ?rest11a
    case hy11a => go_simp; try with_reducible rfl
    simp only [Act.put, List.setIfInBounds_toArray, List.set_cons_zero, List.set_cons_succ]
    clear hS
    refine oneS (k := 12) (by kernel_rfl) rfl (by rfl) (fun K hK => ?_)
    refine oper_append_runL (.tmp 16) (.tmp 19) rfl _ _ rfl rfl HRUN.out ?_
    refine hK _ _ ⟨fun _ => trivial, fun _ => trivial⟩ ?_
    clear hK K
    simp only [Act.put, List.setIfInBounds_toArray]
    refine oneS (k := 13) (by kernel_rfl) rfl (by rfl) (fun K hK => ?_)
    go_simp
    refine hK _ _ ⟨fun _ => trivial, fun _ => trivial⟩ ?_
    clear hK K
    refine oneS (k := 14) (by kernel_rfl) rfl (by rfl) (fun K hK => ?_)
    go_simp
    refine hK _ _ ⟨fun _ => trivial, fun _ => trivial⟩ ?_
    clear hK K
    refine doneS (by kernel_rfl) ?_ _
    go_wp2_with fail
    go_ret2
    exact ⟨_, _, rfl, by rw [Nat.sub_self, List.take_zero]; exact LR.nil _ _ _, hd.trans HB.out, .inl HOWN.out⟩
  · have htf2 : ¬ t = f := fun e => htf e.symm
    go_enter Tryd.func38, Tryd.ntmps38
    go_wp2_with fail
    refine wp_region_S (TwoS 13 14 (fun _ => True) (fun _ => True)) (by kernel_rfl) ?_
    have hS : ∀ L, TwoS 13 14 (fun _ : World => True) (fun _ => True) L (World.drew W) := fun L => ⟨fun _ => trivial, fun _ => trivial⟩
    refine takeS (i := 0) (v := ?v0b) 8 rfl rfl (by kernel_rfl) (by kernel_rfl) (by kernel_rfl) (by kernel_rfl) (by decide) (by decide) (fun _ _ _ h => h) (Or.inl ⟨by rfl, fun w' _ => ?hy0b⟩) (hS _) ?rest0b
    case hy0b => go_simp; try with_reducible rfl
    simp only [Act.put, List.setIfInBounds_toArray, List.set_cons_zero, List.set_cons_succ]
    refine takeS (i := 1) (v := ?v1b) 9 rfl rfl (by kernel_rfl) (by kernel_rfl) (by kernel_rfl) (by kernel_rfl) (by decide) (by decide) (fun _ _ _ h => h) (Or.inl ⟨by rfl, fun w' _ => ?hy1b⟩) (hS _) ?rest1b
    case hy1b => go_simp; try with_reducible rfl
    simp only [Act.put, List.setIfInBounds_toArray, List.set_cons_zero, List.set_cons_succ]
    refine takeS (i := 2) (v := ?v2b) 10 rfl rfl (by kernel_rfl) (by kernel_rfl) (by kernel_rfl) (by kernel_rfl) (by decide) (by decide) (fun _ _ _ h => h) (Or.inl ⟨by rfl, fun w' _ => ?hy2b⟩) (hS _) ?rest2b
    case hy2b => go_simp; try with_reducible rfl
    simp only [Act.put, List.setIfInBounds_toArray, List.set_cons_zero, List.set_cons_succ]
    refine takeS (i := 3) (v := ?v3b) 11 rfl rfl (by kernel_rfl) (by kernel_rfl) (by kernel_rfl) (by kernel_rfl) (by decide) (by decide) (fun _ _ _ h => h) (Or.inl ⟨by rfl, fun w' _ => ?hy3b⟩) (hS _) ?rest3b
    case hy3b => go_simp; try with_reducible rfl
    simp only [Act.put, List.setIfInBounds_toArray, List.set_cons_zero, List.set_cons_succ]
    refine takeS (i := 4) (v := ?v4b) 12 rfl rfl (by kernel_rfl) (by kernel_rfl) (by kernel_rfl) (by kernel_rfl) (by decide) (by decide) (fun _ _ _ h => h) (Or.inl ⟨by rfl, fun w' _ => ?hy4b⟩) (hS _) ?rest4b
    case hy4b => go_simp; try with_reducible rfl
    simp only [Act.put, List.setIfInBounds_toArray, List.set_cons_zero, List.set_cons_succ]
    refine takeS (i := 5) (v := ?v5b) 13 rfl rfl (by kernel_rfl) (by kernel_rfl) (by kernel_rfl) (by kernel_rfl) (by decide) (by decide) (fun _ _ _ h => h) (Or.inl ⟨by rfl, fun w' _ => ?hy5b⟩) (hS _) ?rest5b
    case hy5b => go_simp; try with_reducible rfl
    simp only [Act.put, List.setIfInBounds_toArray, List.set_cons_zero, List.set_cons_succ]
    refine takeS (i := 6) (v := ?v6b) 14 rfl rfl (by kernel_rfl) (by kernel_rfl) (by kernel_rfl) (by kernel_rfl) (by decide) (by decide) (fun _ _ _ h => h) (Or.inl ⟨by rfl, fun w' _ => ?hy6b⟩) (hS _) ?rest6b
    case hy6b => go_simp; try with_reducible rfl
    simp only [Act.put, List.setIfInBounds_toArray, List.set_cons_zero, List.set_cons_succ]
    refine takeS (i := 7) (v := ?v7b) 15 rfl rfl (by kernel_rfl) (by kernel_rfl) (by kernel_rfl) (by kernel_rfl) (by decide) (by decide) (fun _ _ _ h => h) (Or.inl ⟨by rfl, fun w' _ => ?hy7b⟩) (hS _) ?rest7b
    case hy7b => go_simp; try with_reducible rfl
    simp only [Act.put, List.setIfInBounds_toArray, List.set_cons_zero, List.set_cons_succ]
    refine takeS (i := 8) (v := ?v8b) 16 rfl rfl (by kernel_rfl) (by kernel_rfl) (by kernel_rfl) (by kernel_rfl) (by decide) (by decide) (fun _ _ _ h => h) (Or.inl ⟨by rfl, fun w' _ => ?hy8b⟩) (hS _) ?rest8b
    case hy8b => go_simp; try with_reducible rfl
    simp only [Act.put, List.setIfInBounds_toArray, List.set_cons_zero, List.set_cons_succ]
    refine takeS (i := 9) (v := ?v9b) 17 rfl rfl (by kernel_rfl) (by kernel_rfl) (by kernel_rfl) (by kernel_rfl) (by decide) (by decide) (fun _ _ _ h => h) (Or.inl ⟨by rfl, fun w' _ => ?hy9b⟩) (hS _) ?rest9b
    case hy9b => go_simp; try with_reducible rfl
    simp only [Act.put, List.setIfInBounds_toArray, List.set_cons_zero, List.set_cons_succ]
    refine takeS (i := 10) (v := ?v10b) 18 rfl rfl (by kernel_rfl) (by kernel_rfl) (by kernel_rfl) (by kernel_rfl) (by decide) (by decide) (fun _ _ _ h => h) (Or.inl ⟨by rfl, fun w' _ => ?hy10b⟩) (hS _) ?rest10b
    case hy10b => go_simp; try with_reducible rfl
    simp only [Act.put, List.setIfInBounds_toArray, List.set_cons_zero, List.set_cons_succ]
    refine takeS (i := 11) (v := ?v11b) 19 rfl rfl (by kernel_rfl) (by kernel_rfl) (by kernel_rfl) (by kernel_rfl) (by decide) (by decide) (fun _ _ _ h => h) (Or.inl ⟨by rfl, fun w' _ => ?hy11b⟩) (hS _) ?rest11b
    case hy11b => go_simp; try with_reducible rfl
    simp only [Act.put, List.setIfInBounds_toArray, List.set_cons_zero, List.set_cons_succ]
    clear hS
    refine oneS (k := 12) (by kernel_rfl) rfl (by rfl) (fun K hK => ?_)
    refine oper_append_runL (.tmp 16) (.tmp 19) rfl _ _ rfl rfl HRUN.out ?_
    refine hK _ _ ⟨fun _ => trivial, fun _ => trivial⟩ ?_
    clear hK K
    simp only [Act.put, List.setIfInBounds_toArray]
    refine oneS (k := 13) (by kernel_rfl) rfl (by rfl) (fun K hK => ?_)
    go_simp
    refine hK _ _ ⟨fun _ => trivial, fun _ => trivial⟩ ?_
    clear hK K
    refine oneS (k := 14) (by kernel_rfl) rfl (by rfl) (fun K hK => ?_)
    go_simp
    refine hK _ _ ⟨fun _ => trivial, fun _ => trivial⟩ ?_
    clear hK K
    refine doneS (by kernel_rfl) ?_ _
    go_wp2_with fail
    go_ret2
    exact ⟨_, _, rfl, HGONE.out, hd.trans HB.out, .inl HOWN.out⟩
set_option maxRecDepth 100000 in
set_option maxHeartbeats 2000000 in
theorem cutLines_end (g o n c : Nat) (lv : List (Ln × Value)) (f : Nat) (W : World) (hr : LR W (.slice (some ⟨g, o, none⟩) n c) lv) (hn : lv.length = n) (hft : f ≤ n) (hn1 : n ≤ 1000) :
    Calls Tryd.prog 38 #[.slice (some ⟨g, o, none⟩) n c, .int .i64 f, .int .i64 n] W (CutPost W (some ⟨g, o, none⟩) lv f n) := by
  have hnc : n ≤ c := by obtain ⟨A', c', e, h, _⟩ := hr; cases e; rw [← hn]; exact h
  have hd : Below W.heap.size W W.drew := (Below.refl _ _).drew
  have hgone : LR W (.slice (some ⟨g, o + f * 2, none⟩) (n - f) (n - f)) ((lv.drop f).take (n - f)) := hr.sub hn f (n - f) (n - f) (by omega) (Nat.le_refl _)
  have HGONE := hid hgone
  have HN := hid hn
  clear hgone hr hn
  rcases Nat.lt_or_ge f n with hfn | hfn
  · have hnf : ¬ n = f := by omega
    have hcf : ¬ c = f := by omega
    by_cases hcn : c = n
    · subst hcn
      have hi1 : (f : Int) ≤ c := by omega
      go_enter Tryd.func38, Tryd.ntmps38
      go_wp2_with fail
      refine wp_region_S (TwoS 13 14 (fun _ => True) (fun _ => True)) (by kernel_rfl) ?_
      have hS : ∀ L, TwoS 13 14 (fun _ : World => True) (fun _ => True) L (World.drew W) := fun L => ⟨fun _ => trivial, fun _ => trivial⟩
      refine takeS (i := 0) (v := ?v0c) 8 rfl rfl (by kernel_rfl) (by kernel_rfl) (by kernel_rfl) (by kernel_rfl) (by decide) (by decide) (fun _ _ _ h => h) (Or.inl ⟨by rfl, fun w' _ => ?hy0c⟩) (hS _) ?rest0c
      case hy0c => go_simp; try with_reducible rfl
      simp only [Act.put, List.setIfInBounds_toArray, List.set_cons_zero, List.set_cons_succ]
      refine takeS (i := 1) (v := ?v1c) 9 rfl rfl (by kernel_rfl) (by kernel_rfl) (by kernel_rfl) (by kernel_rfl) (by decide) (by decide) (fun _ _ _ h => h) (Or.inl ⟨by rfl, fun w' _ => ?hy1c⟩) (hS _) ?rest1c
      case hy1c => go_simp; try with_reducible rfl
      simp only [Act.put, List.setIfInBounds_toArray, List.set_cons_zero, List.set_cons_succ]
      refine takeS (i := 2) (v := ?v2c) 10 rfl rfl (by kernel_rfl) (by kernel_rfl) (by kernel_rfl) (by kernel_rfl) (by decide) (by decide) (fun _ _ _ h => h) (Or.inl ⟨by rfl, fun w' _ => ?hy2c⟩) (hS _) ?rest2c
      case hy2c => go_simp; try with_reducible rfl
      simp only [Act.put, List.setIfInBounds_toArray, List.set_cons_zero, List.set_cons_succ]
      refine takeS (i := 3) (v := ?v3c) 11 rfl rfl (by kernel_rfl) (by kernel_rfl) (by kernel_rfl) (by kernel_rfl) (by decide) (by decide) (fun _ _ _ h => h) (Or.inl ⟨by rfl, fun w' _ => ?hy3c⟩) (hS _) ?rest3c
      case hy3c => go_simp; try with_reducible rfl
      simp only [Act.put, List.setIfInBounds_toArray, List.set_cons_zero, List.set_cons_succ]
      refine takeS (i := 4) (v := ?v4c) 12 rfl rfl (by kernel_rfl) (by kernel_rfl) (by kernel_rfl) (by kernel_rfl) (by decide) (by decide) (fun _ _ _ h => h) (Or.inl ⟨by rfl, fun w' _ => ?hy4c⟩) (hS _) ?rest4c
      case hy4c => go_simp; try with_reducible rfl
      simp only [Act.put, List.setIfInBounds_toArray, List.set_cons_zero, List.set_cons_succ]
      refine takeS (i := 5) (v := ?v5c) 13 rfl rfl (by kernel_rfl) (by kernel_rfl) (by kernel_rfl) (by kernel_rfl) (by decide) (by decide) (fun _ _ _ h => h) (Or.inl ⟨by rfl, fun w' _ => ?hy5c⟩) (hS _) ?rest5c
      case hy5c => go_simp; try with_reducible rfl
      simp only [Act.put, List.setIfInBounds_toArray, List.set_cons_zero, List.set_cons_succ]
      refine takeS (i := 6) (v := ?v6c) 14 rfl rfl (by kernel_rfl) (by kernel_rfl) (by kernel_rfl) (by kernel_rfl) (by decide) (by decide) (fun _ _ _ h => h) (Or.inl ⟨by rfl, fun w' _ => ?hy6c⟩) (hS _) ?rest6c
      case hy6c => go_simp; try with_reducible rfl
      simp only [Act.put, List.setIfInBounds_toArray, List.set_cons_zero, List.set_cons_succ]
      refine takeS (i := 7) (v := ?v7c) 15 rfl rfl (by kernel_rfl) (by kernel_rfl) (by kernel_rfl) (by kernel_rfl) (by decide) (by decide) (fun _ _ _ h => h) (Or.inl ⟨by rfl, fun w' _ => ?hy7c⟩) (hS _) ?rest7c
      case hy7c => go_simp; try with_reducible rfl
      simp only [Act.put, List.setIfInBounds_toArray, List.set_cons_zero, List.set_cons_succ]
      refine takeS (i := 8) (v := ?v8c) 16 rfl rfl (by kernel_rfl) (by kernel_rfl) (by kernel_rfl) (by kernel_rfl) (by decide) (by decide) (fun _ _ _ h => h) (Or.inl ⟨by rfl, fun w' _ => ?hy8c⟩) (hS _) ?rest8c
      case hy8c => go_simp; try with_reducible rfl
      simp only [Act.put, List.setIfInBounds_toArray, List.set_cons_zero, List.set_cons_succ]
      refine takeS (i := 9) (v := ?v9c) 17 rfl rfl (by kernel_rfl) (by kernel_rfl) (by kernel_rfl) (by kernel_rfl) (by decide) (by decide) (fun _ _ _ h => h) (Or.inl ⟨by rfl, fun w' _ => ?hy9c⟩) (hS _) ?rest9c
      case hy9c => go_simp; try with_reducible rfl
      simp only [Act.put, List.setIfInBounds_toArray, List.set_cons_zero, List.set_cons_succ]
      refine takeS (i := 10) (v := ?v10c) 18 rfl rfl (by kernel_rfl) (by kernel_rfl) (by kernel_rfl) (by kernel_rfl) (by decide) (by decide) (fun _ _ _ h => h) (Or.inl ⟨by rfl, fun w' _ => ?hy10c⟩) (hS _) ?rest10c
      case hy10c => go_simp; try with_reducible rfl
      simp only [Act.put, List.setIfInBounds_toArray, List.set_cons_zero, List.set_cons_succ]
      refine takeS (i := 11) (v := ?v11c) 19 rfl rfl (by kernel_rfl) (by kernel_rfl) (by kernel_rfl) (by kernel_rfl) (by decide) (by decide) (fun _ _ _ h => h) (Or.inl ⟨by rfl, fun w' _ => ?hy11c⟩) (hS _) ?rest11c
      case hy11c => go_simp; try with_reducible rfl
      simp only [Act.put, List.setIfInBounds_toArray, List.set_cons_zero, List.set_cons_succ]
      clear hS
      refine oneS (k := 12) (by kernel_rfl) rfl (by rfl) (fun K hK => ?_)
      refine oper_append_runL (.tmp 16) (.tmp 19) rfl _ _ rfl rfl (fun ty => run_append_ln_zero _ ty _ _ _ _ _ _ rfl (Nat.le_refl _)) ?_
      refine hK _ _ ⟨fun _ => trivial, fun _ => trivial⟩ ?_
      clear hK K
      simp only [Act.put, List.setIfInBounds_toArray]
      refine oneS (k := 13) (by kernel_rfl) rfl (by rfl) (fun K hK => ?_)
      go_simp
      refine hK _ _ ⟨fun _ => trivial, fun _ => trivial⟩ ?_
      clear hK K
      refine oneS (k := 14) (by kernel_rfl) rfl (by rfl) (fun K hK => ?_)
      go_simp
      refine hK _ _ ⟨fun _ => trivial, fun _ => trivial⟩ ?_
      clear hK K
      refine doneS (by kernel_rfl) ?_ _
      go_wp2_with fail
      go_ret2
      exact ⟨_, _, rfl, HGONE.out, hd, .inr ⟨rfl, HN.out.symm⟩⟩
    · have hi1 : (f : Int) ≤ n := by omega
      have hi2 : (n : Int) ≤ c := by omega
      have hi3 : (f : Int) ≤ c := by omega
      go_enter Tryd.func38, Tryd.ntmps38
      go_wp2_with fail
      refine wp_region_S (TwoS 13 14 (fun _ => True) (fun _ => True)) (by kernel_rfl) ?_
      have hS : ∀ L, TwoS 13 14 (fun _ : World => True) (fun _ => True) L (World.drew W) := fun L => ⟨fun _ => trivial, fun _ => trivial⟩
      refine takeS (i := 0) (v := ?v0d) 8 rfl rfl (by kernel_rfl) (by kernel_rfl) (by kernel_rfl) (by kernel_rfl) (by decide) (by decide) (fun _ _ _ h => h) (Or.inl ⟨by rfl, fun w' _ => ?hy0d⟩) (hS _) ?rest0d
      case hy0d => go_simp; try with_reducible rfl
      simp only [Act.put, List.setIfInBounds_toArray, List.set_cons_zero, List.set_cons_succ]
      refine takeS (i := 1) (v := ?v1d) 9 rfl rfl (by kernel_rfl) (by kernel_rfl) (by kernel_rfl) (by kernel_rfl) (by decide) (by decide) (fun _ _ _ h => h) (Or.inl ⟨by rfl, fun w' _ => ?hy1d⟩) (hS _) ?rest1d
      case hy1d => go_simp; try with_reducible rfl
      simp only [Act.put, List.setIfInBounds_toArray, List.set_cons_zero, List.set_cons_succ]
      refine takeS (i := 2) (v := ?v2d) 10 rfl rfl (by kernel_rfl) (by kernel_rfl) (by kernel_rfl) (by kernel_rfl) (by decide) (by decide) (fun _ _ _ h => h) (Or.inl ⟨by rfl, fun w' _ => ?hy2d⟩) (hS _) ?rest2d
      case hy2d => go_simp; try with_reducible rfl
      simp only [Act.put, List.setIfInBounds_toArray, List.set_cons_zero, List.set_cons_succ]
      refine takeS (i := 3) (v := ?v3d) 11 rfl rfl (by kernel_rfl) (by kernel_rfl) (by kernel_rfl) (by kernel_rfl) (by decide) (by decide) (fun _ _ _ h => h) (Or.inl ⟨by rfl, fun w' _ => ?hy3d⟩) (hS _) ?rest3d
      case hy3d => go_simp; try with_reducible rfl
      simp only [Act.put, List.setIfInBounds_toArray, List.set_cons_zero, List.set_cons_succ]
      refine takeS (i := 4) (v := ?v4d) 12 rfl rfl (by kernel_rfl) (by kernel_rfl) (by kernel_rfl) (by kernel_rfl) (by decide) (by decide) (fun _ _ _ h => h) (Or.inl ⟨by rfl, fun w' _ => ?hy4d⟩) (hS _) ?rest4d
      case hy4d => go_simp; try with_reducible rfl
      simp only [Act.put, List.setIfInBounds_toArray, List.set_cons_zero, List.set_cons_succ]
      refine takeS (i := 5) (v := ?v5d) 13 rfl rfl (by kernel_rfl) (by kernel_rfl) (by kernel_rfl) (by kernel_rfl) (by decide) (by decide) (fun _ _ _ h => h) (Or.inl ⟨by rfl, fun w' _ => ?hy5d⟩) (hS _) ?rest5d
      case hy5d => go_simp; try with_reducible rfl
      simp only [Act.put, List.setIfInBounds_toArray, List.set_cons_zero, List.set_cons_succ]
      refine takeS (i := 6) (v := ?v6d) 14 rfl rfl (by kernel_rfl) (by kernel_rfl) (by kernel_rfl) (by kernel_rfl) (by decide) (by decide) (fun _ _ _ h => h) (Or.inl ⟨by rfl, fun w' _ => ?hy6d⟩) (hS _) ?rest6d
      case hy6d => go_simp; try with_reducible rfl
      simp only [Act.put, List.setIfInBounds_toArray, List.set_cons_zero, List.set_cons_succ]
      refine takeS (i := 7) (v := ?v7d) 15 rfl rfl (by kernel_rfl) (by kernel_rfl) (by kernel_rfl) (by kernel_rfl) (by decide) (by decide) (fun _ _ _ h => h) (Or.inl ⟨by rfl, fun w' _ => ?hy7d⟩) (hS _) ?rest7d
      case hy7d => go_simp; try with_reducible rfl
      simp only [Act.put, List.setIfInBounds_toArray, List.set_cons_zero, List.set_cons_succ]
      refine takeS (i := 8) (v := ?v8d) 16 rfl rfl (by kernel_rfl) (by kernel_rfl) (by kernel_rfl) (by kernel_rfl) (by decide) (by decide) (fun _ _ _ h => h) (Or.inl ⟨by rfl, fun w' _ => ?hy8d⟩) (hS _) ?rest8d
      case hy8d => go_simp; try with_reducible rfl
      simp only [Act.put, List.setIfInBounds_toArray, List.set_cons_zero, List.set_cons_succ]
      refine takeS (i := 9) (v := ?v9d) 17 rfl rfl (by kernel_rfl) (by kernel_rfl) (by kernel_rfl) (by kernel_rfl) (by decide) (by decide) (fun _ _ _ h => h) (Or.inl ⟨by rfl, fun w' _ => ?hy9d⟩) (hS _) ?rest9d
      case hy9d => go_simp; try with_reducible rfl
      simp only [Act.put, List.setIfInBounds_toArray, List.set_cons_zero, List.set_cons_succ]
      refine takeS (i := 10) (v := ?v10d) 18 rfl rfl (by kernel_rfl) (by kernel_rfl) (by kernel_rfl) (by kernel_rfl) (by decide) (by decide) (fun _ _ _ h => h) (Or.inl ⟨by rfl, fun w' _ => ?hy10d⟩) (hS _) ?rest10d
      case hy10d => go_simp; try with_reducible rfl
      simp only [Act.put, List.setIfInBounds_toArray, List.set_cons_zero, List.set_cons_succ]
      refine takeS (i := 11) (v := ?v11d) 19 rfl rfl (by kernel_rfl) (by kernel_rfl) (by kernel_rfl) (by kernel_rfl) (by decide) (by decide) (fun _ _ _ h => h) (Or.inl ⟨by rfl, fun w' _ => ?hy11d⟩) (hS _) ?rest11d
      case hy11d => go_simp; try with_reducible rfl
      simp only [Act.put, List.setIfInBounds_toArray, List.set_cons_zero, List.set_cons_succ]
      clear hS
      refine oneS (k := 12) (by kernel_rfl) rfl (by rfl) (fun K hK => ?_)
      refine oper_append_runL (.tmp 16) (.tmp 19) rfl _ _ rfl rfl (fun ty => run_append_ln_zero _ ty _ _ _ _ _ _ rfl (Nat.le_refl _)) ?_
      refine hK _ _ ⟨fun _ => trivial, fun _ => trivial⟩ ?_
      clear hK K
      simp only [Act.put, List.setIfInBounds_toArray]
      refine oneS (k := 13) (by kernel_rfl) rfl (by rfl) (fun K hK => ?_)
      go_simp
      refine hK _ _ ⟨fun _ => trivial, fun _ => trivial⟩ ?_
      clear hK K
      refine oneS (k := 14) (by kernel_rfl) rfl (by rfl) (fun K hK => ?_)
      go_simp
      refine hK _ _ ⟨fun _ => trivial, fun _ => trivial⟩ ?_
      clear hK K
      refine doneS (by kernel_rfl) ?_ _
      go_wp2_with fail
      go_ret2
      exact ⟨_, _, rfl, HGONE.out, hd, .inr ⟨rfl, HN.out.symm⟩⟩
  · obtain rfl : n = f := by omega
    by_cases hcn : c = n
    · subst hcn
      go_enter Tryd.func38, Tryd.ntmps38
      go_wp2_with fail
      refine wp_region_S (TwoS 13 14 (fun _ => True) (fun _ => True)) (by kernel_rfl) ?_
      have hS : ∀ L, TwoS 13 14 (fun _ : World => True) (fun _ => True) L (World.drew W) := fun L => ⟨fun _ => trivial, fun _ => trivial⟩
      refine takeS (i := 0) (v := ?v0e) 8 rfl rfl (by kernel_rfl) (by kernel_rfl) (by kernel_rfl) (by kernel_rfl) (by decide) (by decide) (fun _ _ _ h => h) (Or.inl ⟨by rfl, fun w' _ => ?hy0e⟩) (hS _) ?rest0e
      case hy0e => go_simp; try with_reducible rfl
      simp only [Act.put, List.setIfInBounds_toArray, List.set_cons_zero, List.set_cons_succ]
      refine takeS (i := 1) (v := ?v1e) 9 rfl rfl (by kernel_rfl) (by kernel_rfl) (by kernel_rfl) (by kernel_rfl) (by decide) (by decide) (fun _ _ _ h => h) (Or.inl ⟨by rfl, fun w' _ => ?hy1e⟩) (hS _) ?rest1e
      case hy1e => go_simp; try with_reducible rfl
      simp only [Act.put, List.setIfInBounds_toArray, List.set_cons_zero, List.set_cons_succ]
      refine takeS (i := 2) (v := ?v2e) 10 rfl rfl (by kernel_rfl) (by kernel_rfl) (by kernel_rfl) (by kernel_rfl) (by decide) (by decide) (fun _ _ _ h => h) (Or.inl ⟨by rfl, fun w' _ => ?hy2e⟩) (hS _) ?rest2e
      case hy2e => go_simp; try with_reducible rfl
      simp only [Act.put, List.setIfInBounds_toArray, List.set_cons_zero, List.set_cons_succ]
      refine takeS (i := 3) (v := ?v3e) 11 rfl rfl (by kernel_rfl) (by kernel_rfl) (by kernel_rfl) (by kernel_rfl) (by decide) (by decide) (fun _ _ _ h => h) (Or.inl ⟨by rfl, fun w' _ => ?hy3e⟩) (hS _) ?rest3e
      case hy3e => go_simp; try with_reducible rfl
      simp only [Act.put, List.setIfInBounds_toArray, List.set_cons_zero, List.set_cons_succ]
      refine takeS (i := 4) (v := ?v4e) 12 rfl rfl (by kernel_rfl) (by kernel_rfl) (by kernel_rfl) (by kernel_rfl) (by decide) (by decide) (fun _ _ _ h => h) (Or.inl ⟨by rfl, fun w' _ => ?hy4e⟩) (hS _) ?rest4e
      case hy4e => go_simp; try with_reducible rfl
      simp only [Act.put, List.setIfInBounds_toArray, List.set_cons_zero, List.set_cons_succ]
      refine takeS (i := 5) (v := ?v5e) 13 rfl rfl (by kernel_rfl) (by kernel_rfl) (by kernel_rfl) (by kernel_rfl) (by decide) (by decide) (fun _ _ _ h => h) (Or.inl ⟨by rfl, fun w' _ => ?hy5e⟩) (hS _) ?rest5e
      case hy5e => go_simp; try with_reducible rfl
      simp only [Act.put, List.setIfInBounds_toArray, List.set_cons_zero, List.set_cons_succ]
      refine takeS (i := 6) (v := ?v6e) 14 rfl rfl (by kernel_rfl) (by kernel_rfl) (by kernel_rfl) (by kernel_rfl) (by decide) (by decide) (fun _ _ _ h => h) (Or.inl ⟨by rfl, fun w' _ => ?hy6e⟩) (hS _) ?rest6e
      case hy6e => go_simp; try with_reducible rfl
      simp only [Act.put, List.setIfInBounds_toArray, List.set_cons_zero, List.set_cons_succ]
      refine takeS (i := 7) (v := ?v7e) 15 rfl rfl (by kernel_rfl) (by kernel_rfl) (by kernel_rfl) (by kernel_rfl) (by decide) (by decide) (fun _ _ _ h => h) (Or.inl ⟨by rfl, fun w' _ => ?hy7e⟩) (hS _) ?rest7e
      case hy7e => go_simp; try with_reducible rfl
      simp only [Act.put, List.setIfInBounds_toArray, List.set_cons_zero, List.set_cons_succ]
      refine takeS (i := 8) (v := ?v8e) 16 rfl rfl (by kernel_rfl) (by kernel_rfl) (by kernel_rfl) (by kernel_rfl) (by decide) (by decide) (fun _ _ _ h => h) (Or.inl ⟨by rfl, fun w' _ => ?hy8e⟩) (hS _) ?rest8e
      case hy8e => go_simp; try with_reducible rfl
      simp only [Act.put, List.setIfInBounds_toArray, List.set_cons_zero, List.set_cons_succ]
      refine takeS (i := 9) (v := ?v9e) 17 rfl rfl (by kernel_rfl) (by kernel_rfl) (by kernel_rfl) (by kernel_rfl) (by decide) (by decide) (fun _ _ _ h => h) (Or.inl ⟨by rfl, fun w' _ => ?hy9e⟩) (hS _) ?rest9e
      case hy9e => go_simp; try with_reducible rfl
      simp only [Act.put, List.setIfInBounds_toArray, List.set_cons_zero, List.set_cons_succ]
      refine takeS (i := 10) (v := ?v10e) 18 rfl rfl (by kernel_rfl) (by kernel_rfl) (by kernel_rfl) (by kernel_rfl) (by decide) (by decide) (fun _ _ _ h => h) (Or.inl ⟨by rfl, fun w' _ => ?hy10e⟩) (hS _) ?rest10e
      case hy10e => go_simp; try with_reducible rfl
      simp only [Act.put, List.setIfInBounds_toArray, List.set_cons_zero, List.set_cons_succ]
      refine takeS (i := 11) (v := ?v11e) 19 rfl rfl (by kernel_rfl) (by kernel_rfl) (by kernel_rfl) (by kernel_rfl) (by decide) (by decide) (fun _ _ _ h => h) (Or.inl ⟨by rfl, fun w' _ => ?hy11e⟩) (hS _) ?rest11e
      case hy11e => go_simp; try with_reducible rfl
      simp only [Act.put, List.setIfInBounds_toArray, List.set_cons_zero, List.set_cons_succ]
      clear hS
      refine oneS (k := 12) (by kernel_rfl) rfl (by rfl) (fun K hK => ?_)
      refine oper_append_runL (.tmp 16) (.tmp 19) rfl _ _ rfl rfl (fun ty => run_append_ln_zero _ ty _ _ _ _ _ _ rfl (Nat.le_refl _)) ?_
      refine hK _ _ ⟨fun _ => trivial, fun _ => trivial⟩ ?_
      clear hK K
      simp only [Act.put, List.setIfInBounds_toArray]
      refine oneS (k := 13) (by kernel_rfl) rfl (by rfl) (fun K hK => ?_)
      go_simp
      refine hK _ _ ⟨fun _ => trivial, fun _ => trivial⟩ ?_
      clear hK K
      refine oneS (k := 14) (by kernel_rfl) rfl (by rfl) (fun K hK => ?_)
      go_simp
      refine hK _ _ ⟨fun _ => trivial, fun _ => trivial⟩ ?_
      clear hK K
      refine doneS (by kernel_rfl) ?_ _
      go_wp2_with fail
      go_ret2
      exact ⟨_, _, rfl, by rw [Nat.sub_self, List.take_zero]; exact LR.nil _ _ _, hd, .inr ⟨rfl, HN.out.symm⟩⟩
    · have hi2 : (n : Int) ≤ c := by omega
      go_enter Tryd.func38, Tryd.ntmps38
      go_wp2_with fail
      refine wp_region_S (TwoS 13 14 (fun _ => True) (fun _ => True)) (by kernel_rfl) ?_
      have hS : ∀ L, TwoS 13 14 (fun _ : World => True) (fun _ => True) L (World.drew W) := fun L => ⟨fun _ => trivial, fun _ => trivial⟩
      refine takeS (i := 0) (v := ?v0f) 8 rfl rfl (by kernel_rfl) (by kernel_rfl) (by kernel_rfl) (by kernel_rfl) (by decide) (by decide) (fun _ _ _ h => h) (Or.inl ⟨by rfl, fun w' _ => ?hy0f⟩) (hS _) ?rest0f
      case hy0f => go_simp; try with_reducible rfl
      simp only [Act.put, List.setIfInBounds_toArray, List.set_cons_zero, List.set_cons_succ]
      refine takeS (i := 1) (v := ?v1f) 9 rfl rfl (by kernel_rfl) (by kernel_rfl) (by kernel_rfl) (by kernel_rfl) (by decide) (by decide) (fun _ _ _ h => h) (Or.inl ⟨by rfl, fun w' _ => ?hy1f⟩) (hS _) ?rest1f
      case hy1f => go_simp; try with_reducible rfl
      simp only [Act.put, List.setIfInBounds_toArray, List.set_cons_zero, List.set_cons_succ]
      refine takeS (i := 2) (v := ?v2f) 10 rfl rfl (by kernel_rfl) (by kernel_rfl) (by kernel_rfl) (by kernel_rfl) (by decide) (by decide) (fun _ _ _ h => h) (Or.inl ⟨by rfl, fun w' _ => ?hy2f⟩) (hS _) ?rest2f
      case hy2f => go_simp; try with_reducible rfl
      simp only [Act.put, List.setIfInBounds_toArray, List.set_cons_zero, List.set_cons_succ]
      refine takeS (i := 3) (v := ?v3f) 11 rfl rfl (by kernel_rfl) (by kernel_rfl) (by kernel_rfl) (by kernel_rfl) (by decide) (by decide) (fun _ _ _ h => h) (Or.inl ⟨by rfl, fun w' _ => ?hy3f⟩) (hS _) ?rest3f
      case hy3f => go_simp; try with_reducible rfl
      simp only [Act.put, List.setIfInBounds_toArray, List.set_cons_zero, List.set_cons_succ]
      refine takeS (i := 4) (v := ?v4f) 12 rfl rfl (by kernel_rfl) (by kernel_rfl) (by kernel_rfl) (by kernel_rfl) (by decide) (by decide) (fun _ _ _ h => h) (Or.inl ⟨by rfl, fun w' _ => ?hy4f⟩) (hS _) ?rest4f
      case hy4f => go_simp; try with_reducible rfl
      simp only [Act.put, List.setIfInBounds_toArray, List.set_cons_zero, List.set_cons_succ]
      refine takeS (i := 5) (v := ?v5f) 13 rfl rfl (by kernel_rfl) (by kernel_rfl) (by kernel_rfl) (by kernel_rfl) (by decide) (by decide) (fun _ _ _ h => h) (Or.inl ⟨by rfl, fun w' _ => ?hy5f⟩) (hS _) ?rest5f
      case hy5f => go_simp; try with_reducible rfl
      simp only [Act.put, List.setIfInBounds_toArray, List.set_cons_zero, List.set_cons_succ]
      refine takeS (i := 6) (v := ?v6f) 14 rfl rfl (by kernel_rfl) (by kernel_rfl) (by kernel_rfl) (by kernel_rfl) (by decide) (by decide) (fun _ _ _ h => h) (Or.inl ⟨by rfl, fun w' _ => ?hy6f⟩) (hS _) ?rest6f
      case hy6f => go_simp; try with_reducible rfl
      simp only [Act.put, List.setIfInBounds_toArray, List.set_cons_zero, List.set_cons_succ]
      refine takeS (i := 7) (v := ?v7f) 15 rfl rfl (by kernel_rfl) (by kernel_rfl) (by kernel_rfl) (by kernel_rfl) (by decide) (by decide) (fun _ _ _ h => h) (Or.inl ⟨by rfl, fun w' _ => ?hy7f⟩) (hS _) ?rest7f
      case hy7f => go_simp; try with_reducible rfl
      simp only [Act.put, List.setIfInBounds_toArray, List.set_cons_zero, List.set_cons_succ]
      refine takeS (i := 8) (v := ?v8f) 16 rfl rfl (by kernel_rfl) (by kernel_rfl) (by kernel_rfl) (by kernel_rfl) (by decide) (by decide) (fun _ _ _ h => h) (Or.inl ⟨by rfl, fun w' _ => ?hy8f⟩) (hS _) ?rest8f
      case hy8f => go_simp; try with_reducible rfl
      simp only [Act.put, List.setIfInBounds_toArray, List.set_cons_zero, List.set_cons_succ]
      refine takeS (i := 9) (v := ?v9f) 17 rfl rfl (by kernel_rfl) (by kernel_rfl) (by kernel_rfl) (by kernel_rfl) (by decide) (by decide) (fun _ _ _ h => h) (Or.inl ⟨by rfl, fun w' _ => ?hy9f⟩) (hS _) ?rest9f
      case hy9f => go_simp; try with_reducible rfl
      simp only [Act.put, List.setIfInBounds_toArray, List.set_cons_zero, List.set_cons_succ]
      refine takeS (i := 10) (v := ?v10f) 18 rfl rfl (by kernel_rfl) (by kernel_rfl) (by kernel_rfl) (by kernel_rfl) (by decide) (by decide) (fun _ _ _ h => h) (Or.inl ⟨by rfl, fun w' _ => ?hy10f⟩) (hS _) ?rest10f
      case hy10f => go_simp; try with_reducible rfl
      simp only [Act.put, List.setIfInBounds_toArray, List.set_cons_zero, List.set_cons_succ]
      refine takeS (i := 11) (v := ?v11f) 19 rfl rfl (by kernel_rfl) (by kernel_rfl) (by kernel_rfl) (by kernel_rfl) (by decide) (by decide) (fun _ _ _ h => h) (Or.inl ⟨by rfl, fun w' _ => ?hy11f⟩) (hS _) ?rest11f
      case hy11f => go_simp; try with_reducible rfl
      simp only [Act.put, List.setIfInBounds_toArray, List.set_cons_zero, List.set_cons_succ]
      clear hS
      refine oneS (k := 12) (by kernel_rfl) rfl (by rfl) (fun K hK => ?_)
      refine oper_append_runL (.tmp 16) (.tmp 19) rfl _ _ rfl rfl (fun ty => run_append_ln_zero _ ty _ _ _ _ _ _ rfl (Nat.le_refl _)) ?_
      refine hK _ _ ⟨fun _ => trivial, fun _ => trivial⟩ ?_
      clear hK K
      simp only [Act.put, List.setIfInBounds_toArray]
      refine oneS (k := 13) (by kernel_rfl) rfl (by rfl) (fun K hK => ?_)
      go_simp
      refine hK _ _ ⟨fun _ => trivial, fun _ => trivial⟩ ?_
      clear hK K
      refine oneS (k := 14) (by kernel_rfl) rfl (by rfl) (fun K hK => ?_)
      go_simp
      refine hK _ _ ⟨fun _ => trivial, fun _ => trivial⟩ ?_
      clear hK K
      refine doneS (by kernel_rfl) ?_ _
      go_wp2_with fail
      go_ret2
      exact ⟨_, _, rfl, by rw [Nat.sub_self, List.take_zero]; exact LR.nil _ _ _, hd, .inr ⟨rfl, HN.out.symm⟩⟩
theorem cutLines_any (g o n c : Nat) (lv : List (Ln × Value)) (f t : Nat) (W : World) (hr : LR W (.slice (some ⟨g, o, none⟩) n c) lv) (hn : lv.length = n) (hc : CesOf W lv) (hft : f ≤ t) (htn : t ≤ n) (hn1 : n ≤ 1000) :
    Calls Tryd.prog 38 #[.slice (some ⟨g, o, none⟩) n c, .int .i64 f, .int .i64 t] W (CutPost W (some ⟨g, o, none⟩) lv f t) := by
  rcases Nat.lt_or_ge t n with h | h
  · exact cutLines_mid g o n c lv f t W hr hn hc hft htn hn1 h
  · obtain rfl : n = t := by omega
    exact cutLines_end g o n c lv f W hr hn hft hn1
end Go.Proofs.YtkejoknphnkhnaaDoor
