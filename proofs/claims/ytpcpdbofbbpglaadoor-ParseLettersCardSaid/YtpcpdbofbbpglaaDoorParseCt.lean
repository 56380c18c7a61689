/- Layer 5, the statements' helpers: a thing that is done, cut to what is asked. Made by wip/gen/parseCt.py. -/
import Derived.Test.YtpcpdbofbbpglaaDoorParseX
namespace Go.Proofs.YtpcpdbofbbpglaaDoor
open Go.RowKit

def cutD (d : Dn) : Dn := ⟨d.kind, d.rune, d.code, d.priv, d.params.take 18, d.inter, d.text.extract 0 66⟩
def CutPost (W : World) (d : Dn) (A : Option Addr) (c : Nat) (e : Ending) (w' : World) : Prop := e = .returned (.agg ((cutD d).cells (.slice A (cutD d).params.length c))) ∧ Below W.heap.size W w'
theorem seven_free {W : World} {b : Nat} {t : TypeId} {cs : Array Value} (h : Box W b t cs) :
    (W.frozen? ⟨b, 0, none⟩ = false ∧ W.frozen? ⟨b, 1, none⟩ = false ∧ W.frozen? ⟨b, 2, none⟩ = false ∧ W.frozen? ⟨b, 3, none⟩ = false ∧ W.frozen? ⟨b, 4, none⟩ = false ∧ W.frozen? ⟨b, 5, none⟩ = false ∧ W.frozen? ⟨b, 6, none⟩ = false) :=
  ⟨h.free 0, h.free 1, h.free 2, h.free 3, h.free 4, h.free 5, h.free 6⟩
set_option maxRecDepth 100000 in
set_option maxHeartbeats 4000000 in
theorem cut_any (d : Dn) (A : Option Addr) (c : Nat) (W : World) (hc : d.params.length ≤ c) (ho : d.text.size ≤ 9223372036854775807) :
    Calls Tryd.prog 12 #[.agg (d.cells (.slice A d.params.length c))] W (CutPost W d A c) := by
  obtain ⟨p1, p2, p3, p4, p5, p6, p7⟩ := d
  simp only at hc ho
  obtain ⟨m, hm⟩ : ∃ m, p5.length = m := ⟨_, rfl⟩
  have hlen : (p5.take 18).length = min 18 m := by rw [List.length_take, hm]
  have m1 : (0 : Int) ≤ (if (18 : Int) < m then (18 : Int) else m) := (min_nat m 18).1
  have m2 : (if (18 : Int) < m then (18 : Int) else m) ≤ m := (min_nat m 18).2.1
  have m3 : (if (18 : Int) < m then (18 : Int) else m).toNat = min 18 m := (min_nat m 18).2.2
  have o1 : (0 : Int) ≤ (if (66 : Int) < p7.size then (66 : Int) else p7.size) := (min_facts p7 66).1
  have o2 : (if (66 : Int) < p7.size then (66 : Int) else p7.size) ≤ p7.size := (min_facts p7 66).2.1
  have o3 : p7.extract 0 (if (66 : Int) < p7.size then (66 : Int) else p7.size).toNat = p7.extract 0 66 := (min_facts p7 66).2.2
  unfold Dn.cells
  simp only
  rw [hm] at hc ⊢
  have HL := hid hlen
  have bx := Box.new W 37 #[.int .i64 p1, .int .i32 p2, .int .i64 p3, .int .i64 p4, .slice A m c, .int .i64 p6, .string p7]
  have by_ := Box.new (W.alloc (.cells #[.int .i64 p1, .int .i32 p2, .int .i64 p3, .int .i64 p4, .slice A m c, .int .i64 p6, .string p7] 37)) 37 #[.int .i64 0, .int .i32 0, .int .i64 0, .int .i64 0, .slice none 0 0, .int .i64 0, .string ⟨#[]⟩]
  have bx2 := bx.alloc (.cells #[.int .i64 0, .int .i32 0, .int .i64 0, .int .i64 0, .slice none 0 0, .int .i64 0, .string ⟨#[]⟩] 37)
  rw [World.size_alloc] at by_
  have hbW := (below_alloc W (.cells #[.int .i64 p1, .int .i32 p2, .int .i64 p3, .int .i64 p4, .slice A m c, .int .i64 p6, .string p7] 37)).alloc (by simp) (.cells #[.int .i64 0, .int .i32 0, .int .i64 0, .int .i64 0, .slice none 0 0, .int .i64 0, .string ⟨#[]⟩] 37)
  clear hlen bx hm
  have hcI : (if (18 : Int) < m then (18 : Int) else m) ≤ c := by omega
  go_enter Tryd.func12, Tryd.ntmps12
  go_upto_region 1 with fail
  generalize ((W.alloc (.cells #[.int .i64 p1, .int .i32 p2, .int .i64 p3, .int .i64 p4, .slice A m c, .int .i64 p6, .string p7] 37)).alloc (.cells #[.int .i64 0, .int .i32 0, .int .i64 0, .int .i64 0, .slice none 0 0, .int .i64 0, .string ⟨#[]⟩] 37)) = W0 at *
  obtain ⟨b, hb⟩ : ∃ b, W.heap.size = b := ⟨_, rfl⟩
  have HBQ := hid hb
  rw [hb] at bx2 by_ hbW ⊢
  clear hb
  have hlt := bx2.lt
  refine wp_region_S (TwoS 15 17 (fun w' => Box w' b 37 #[.int .i64 p1, .int .i32 p2, .int .i64 p3, .int .i64 p4, .slice A m c, .int .i64 p6, .string p7]) (fun _ => True)) (by kernel_rfl) ?_
  have hS : ∀ L, TwoS 15 17 (fun w' => Box w' b 37 #[.int .i64 p1, .int .i32 p2, .int .i64 p3, .int .i64 p4, .slice A m c, .int .i64 p6, .string p7]) (fun _ => True) L (World.drew W0) := fun L => ⟨fun _ => bx2, fun _ => trivial⟩
  refine takeS (i := 0) (v := ?v0) 3 rfl rfl (by kernel_rfl) (by kernel_rfl) (by kernel_rfl) (by kernel_rfl) (by decide) (by decide) (fun _ _ _ h => h) (Or.inl ⟨by rfl, fun w' _ => ?hy0⟩) (hS _) ?rest0
  case hy0 => go_simp; try with_reducible rfl
  simp only [Act.put, List.setIfInBounds_toArray, List.set_cons_zero, List.set_cons_succ]
  refine takeS1 (i := 1) (v := ?v1) 4 rfl rfl (by kernel_rfl) (by kernel_rfl) (by kernel_rfl) (by kernel_rfl) (by decide) (by decide) (by kernel_rfl) (fun _ _ _ h => h) (Or.inl ⟨by rfl, fun w' hw' => ?hy1⟩) (hS _) ?rest1
  case hy1 => have a0 : w'.cell? ⟨b, 4, none⟩ = some (.slice A m c) := hw'.cell 4; go_simp; try with_reducible rfl
  simp only [Act.put, List.setIfInBounds_toArray, List.set_cons_zero, List.set_cons_succ]
  refine takeS (i := 2) (v := ?v2) 5 rfl rfl (by kernel_rfl) (by kernel_rfl) (by kernel_rfl) (by kernel_rfl) (by decide) (by decide) (fun _ _ _ h => h) (Or.inl ⟨by rfl, fun w' _ => ?hy2⟩) (hS _) ?rest2
  case hy2 => go_simp; try with_reducible rfl
  simp only [Act.put, List.setIfInBounds_toArray, List.set_cons_zero, List.set_cons_succ]
  refine takeS1 (i := 3) (v := ?v3) 6 rfl rfl (by kernel_rfl) (by kernel_rfl) (by kernel_rfl) (by kernel_rfl) (by decide) (by decide) (by kernel_rfl) (fun _ _ _ h => h) (Or.inl ⟨by rfl, fun w' hw' => ?hy3⟩) (hS _) ?rest3
  case hy3 => have a0 : w'.cell? ⟨b, 4, none⟩ = some (.slice A m c) := hw'.cell 4; go_simp; try with_reducible rfl
  simp only [Act.put, List.setIfInBounds_toArray, List.set_cons_zero, List.set_cons_succ]
  refine takeS (i := 4) (v := ?v4) 7 rfl rfl (by kernel_rfl) (by kernel_rfl) (by kernel_rfl) (by kernel_rfl) (by decide) (by decide) (fun _ _ _ h => h) (Or.inl ⟨by rfl, fun w' _ => ?hy4⟩) (hS _) ?rest4
  case hy4 => go_simp; try with_reducible rfl
  simp only [Act.put, List.setIfInBounds_toArray, List.set_cons_zero, List.set_cons_succ]
  refine takeS (i := 5) (v := ?v5) 8 rfl rfl (by kernel_rfl) (by kernel_rfl) (by kernel_rfl) (by kernel_rfl) (by decide) (by decide) (fun _ _ _ h => h) (Or.inl ⟨by rfl, fun w' _ => ?hy5⟩) (hS _) ?rest5
  case hy5 => go_simp; try with_reducible rfl
  simp only [Act.put, List.setIfInBounds_toArray, List.set_cons_zero, List.set_cons_succ]
  refine takeS (i := 6) (v := ?v6) 9 rfl rfl (by kernel_rfl) (by kernel_rfl) (by kernel_rfl) (by kernel_rfl) (by decide) (by decide) (fun _ _ _ h => h) (Or.inl ⟨by rfl, fun w' _ => ?hy6⟩) (hS _) ?rest6
  case hy6 => go_simp; try with_reducible rfl
  simp only [Act.put, List.setIfInBounds_toArray, List.set_cons_zero, List.set_cons_succ]
  refine takeS (i := 7) (v := ?v7) 10 rfl rfl (by kernel_rfl) (by kernel_rfl) (by kernel_rfl) (by kernel_rfl) (by decide) (by decide) (fun _ _ _ h => h) (Or.inl ⟨by rfl, fun w' _ => ?hy7⟩) (hS _) ?rest7
  case hy7 => go_simp; try with_reducible rfl
  simp only [Act.put, List.setIfInBounds_toArray, List.set_cons_zero, List.set_cons_succ]
  refine takeS1 (i := 8) (v := ?v8) 11 rfl rfl (by kernel_rfl) (by kernel_rfl) (by kernel_rfl) (by kernel_rfl) (by decide) (by decide) (by kernel_rfl) (fun _ _ _ h => h) (Or.inl ⟨by rfl, fun w' hw' => ?hy8⟩) (hS _) ?rest8
  case hy8 => have a0 : w'.cell? ⟨b, 6, none⟩ = some (.string p7) := hw'.cell 6; go_simp; try with_reducible rfl
  simp only [Act.put, List.setIfInBounds_toArray, List.set_cons_zero, List.set_cons_succ]
  refine takeS (i := 9) (v := ?v9) 12 rfl rfl (by kernel_rfl) (by kernel_rfl) (by kernel_rfl) (by kernel_rfl) (by decide) (by decide) (fun _ _ _ h => h) (Or.inl ⟨by rfl, fun w' _ => ?hy9⟩) (hS _) ?rest9
  case hy9 => go_simp; try with_reducible rfl
  simp only [Act.put, List.setIfInBounds_toArray, List.set_cons_zero, List.set_cons_succ]
  refine takeS1 (i := 10) (v := ?v10) 13 rfl rfl (by kernel_rfl) (by kernel_rfl) (by kernel_rfl) (by kernel_rfl) (by decide) (by decide) (by kernel_rfl) (fun _ _ _ h => h) (Or.inl ⟨by rfl, fun w' hw' => ?hy10⟩) (hS _) ?rest10
  case hy10 => have a0 : w'.cell? ⟨b, 6, none⟩ = some (.string p7) := hw'.cell 6; go_simp; try with_reducible rfl
  simp only [Act.put, List.setIfInBounds_toArray, List.set_cons_zero, List.set_cons_succ]
  refine takeS (i := 11) (v := ?v11) 14 rfl rfl (by kernel_rfl) (by kernel_rfl) (by kernel_rfl) (by kernel_rfl) (by decide) (by decide) (fun _ _ _ h => h) (Or.inl ⟨by rfl, fun w' _ => ?hy11⟩) (hS _) ?rest11
  case hy11 => go_simp; try with_reducible rfl
  simp only [Act.put, List.setIfInBounds_toArray, List.set_cons_zero, List.set_cons_succ]
  refine takeS (i := 12) (v := ?v12) 15 rfl rfl (by kernel_rfl) (by kernel_rfl) (by kernel_rfl) (by kernel_rfl) (by decide) (by decide) (fun _ _ _ h => h) (Or.inl ⟨by rfl, fun w' _ => ?hy12⟩) (hS _) ?rest12
  case hy12 => go_simp; try with_reducible rfl
  simp only [Act.put, List.setIfInBounds_toArray, List.set_cons_zero, List.set_cons_succ]
  refine takeS (i := 13) (v := ?v13) 16 rfl rfl (by kernel_rfl) (by kernel_rfl) (by kernel_rfl) (by kernel_rfl) (by decide) (by decide) (fun _ _ _ h => h) (Or.inl ⟨by rfl, fun w' _ => ?hy13⟩) (hS _) ?rest13
  case hy13 => go_simp; try with_reducible rfl
  simp only [Act.put, List.setIfInBounds_toArray, List.set_cons_zero, List.set_cons_succ]
  refine takeS (i := 14) (v := ?v14) 17 rfl rfl (by kernel_rfl) (by kernel_rfl) (by kernel_rfl) (by kernel_rfl) (by decide) (by decide) (fun _ _ _ h => h) (Or.inl ⟨by rfl, fun w' _ => ?hy14⟩) (hS _) ?rest14
  case hy14 => go_simp; try with_reducible rfl
  simp only [Act.put, List.setIfInBounds_toArray, List.set_cons_zero, List.set_cons_succ]
  have c0 : W0.cell? ⟨b, 0, none⟩ = some (.int .i64 p1) := bx2.cell 0
  have c1 : W0.cell? ⟨b, 1, none⟩ = some (.int .i32 p2) := bx2.cell 1
  have c2 : W0.cell? ⟨b, 2, none⟩ = some (.int .i64 p3) := bx2.cell 2
  have c3 : W0.cell? ⟨b, 3, none⟩ = some (.int .i64 p4) := bx2.cell 3
  have c4 : W0.cell? ⟨b, 4, none⟩ = some (.slice A m c) := bx2.cell 4
  have c5 : W0.cell? ⟨b, 5, none⟩ = some (.int .i64 p6) := bx2.cell 5
  have c6 : W0.cell? ⟨b, 6, none⟩ = some (.string p7) := bx2.cell 6
  obtain ⟨f0, f1, f2, f3, f4, f5, f6⟩ := seven_free bx2
  refine oneS (k := 15) (by kernel_rfl) rfl (by rfl) (fun K hK => ?_)
  go_simp
  refine hK _ _ ⟨fun h => absurd h (by decide), fun _ => trivial⟩ ?_
  clear hK K hS
  have hS : ∀ L w', L.getD 15 false = true → TwoS 15 17 (fun w' => Box w' b 37 #[.int .i64 p1, .int .i32 p2, .int .i64 p3, .int .i64 p4, .slice A m c, .int .i64 p6, .string p7]) (fun _ => True) L w' := fun L w' h => ⟨fun h' => (by rw [h] at h'; exact absurd h' (by decide)), fun _ => trivial⟩
  refine takeS (i := 16) (v := ?v16) 18 rfl rfl (by kernel_rfl) (by kernel_rfl) (by kernel_rfl) (by kernel_rfl) (by decide) (by decide) (fun _ _ _ h => h) (Or.inl ⟨by rfl, fun w' _ => ?hy16⟩) (hS _ _ (by decide)) ?rest16
  case hy16 => go_simp; try with_reducible rfl
  simp only [Act.put, List.setIfInBounds_toArray, List.set_cons_zero, List.set_cons_succ]
  refine oneS (k := 17) (by kernel_rfl) rfl (by rfl) (fun K hK => ?_)
  go_simp
  refine hK _ _ (hS _ _ (by decide)) ?_
  clear hK K hS
  refine doneS (by kernel_rfl) ?_ _
  obtain ⟨m', hm'⟩ : ∃ m', min 18 m = m' := ⟨_, rfl⟩
  obtain ⟨o', ho'⟩ : ∃ o', p7.extract 0 66 = o' := ⟨_, rfl⟩
  rw [hm'] at HL ⊢
  rw [ho']
  have HO := hid ho'
  clear m1 m2 m3 o1 o2 o3 hm' ho' hcI
  generalize (if (18 : Int) < m then (18 : Int) else m) = i1
  generalize (if (66 : Int) < p7.size then (66 : Int) else p7.size) = i2
  have bx5 : Box ((W0.setCell ⟨b, 4, none⟩ (.slice A m' c)).setCell ⟨b, 6, none⟩ (.string o')) b 37 #[.int .i64 p1, .int .i32 p2, .int .i64 p3, .int .i64 p4, .slice A m' c, .int .i64 p6, .string o'] := (bx2.set (i := 4) (.slice A m' c)).set (i := 6) (.string o')
  have hg5 : W0.grownBy ((W0.setCell ⟨b, 4, none⟩ (.slice A m' c)).setCell ⟨b, 6, none⟩ (.string o')) (some b) := grown_set (grown_set (World.grownBy.refl W0 _) _) _
  have by5 := by_.grown hg5 (by simp)
  have hz5 := hg5.size
  have hb5 := hbW.grown hg5 (by omega) (fun k e => by cases e; exact Nat.le_refl _)
  generalize ((W0.setCell ⟨b, 4, none⟩ (.slice A m' c)).setCell ⟨b, 6, none⟩ (.string o')) = w5 at *
  clear c0 c1 c2 c3 c4 c5 c6 f0 f1 f2 f3 f4 f5 f6 bx2 by_ hg5
  have c0 : w5.cell? ⟨b, 0, none⟩ = some (.int .i64 p1) := bx5.cell 0
  have c1 : w5.cell? ⟨b, 1, none⟩ = some (.int .i32 p2) := bx5.cell 1
  have c2 : w5.cell? ⟨b, 2, none⟩ = some (.int .i64 p3) := bx5.cell 2
  have c3 : w5.cell? ⟨b, 3, none⟩ = some (.int .i64 p4) := bx5.cell 3
  have c4 : w5.cell? ⟨b, 4, none⟩ = some (.slice A m' c) := bx5.cell 4
  have c5 : w5.cell? ⟨b, 5, none⟩ = some (.int .i64 p6) := bx5.cell 5
  have c6 : w5.cell? ⟨b, 6, none⟩ = some (.string o') := bx5.cell 6
  have d0 : w5.cell? ⟨b + 1, 0, none⟩ = some (.int .i64 0) := by5.cell 0
  have d1 : w5.cell? ⟨b + 1, 1, none⟩ = some (.int .i32 0) := by5.cell 1
  have d2 : w5.cell? ⟨b + 1, 2, none⟩ = some (.int .i64 0) := by5.cell 2
  have d3 : w5.cell? ⟨b + 1, 3, none⟩ = some (.int .i64 0) := by5.cell 3
  have d4 : w5.cell? ⟨b + 1, 4, none⟩ = some (.slice none 0 0) := by5.cell 4
  have d5 : w5.cell? ⟨b + 1, 5, none⟩ = some (.int .i64 0) := by5.cell 5
  have d6 : w5.cell? ⟨b + 1, 6, none⟩ = some (.string ⟨#[]⟩) := by5.cell 6
  obtain ⟨f0, f1, f2, f3, f4, f5, f6⟩ := seven_free by5
  have hbb := hid hb5
  clear bx5 by5 hb5
  go_wp2
  refine bodyPost_ret (v := .agg #[.int .i64 p1, .int .i32 p2, .int .i64 p3, .int .i64 p4, .slice A m' c, .int .i64 p6, .string o']) (by simp [results, Tryd.results12, go_sem, d0, d1, d2, d3, d4, d5, d6]) rfl ?_
  have hg : w5.grownBy ((((((((w5.setCell ⟨b + 1, 0, none⟩ (.int .i64 p1)).setCell ⟨b + 1, 1, none⟩ (.int .i32 p2)).setCell ⟨b + 1, 2, none⟩ (.int .i64 p3)).setCell ⟨b + 1, 3, none⟩ (.int .i64 p4)).setCell ⟨b + 1, 4, none⟩ (.slice A m' c)).setCell ⟨b + 1, 5, none⟩ (.int .i64 p6)).setCell ⟨b + 1, 6, none⟩ (.string o'))).drew (some (b + 1)) := (grown_set (grown_set (grown_set (grown_set (grown_set (grown_set (grown_set (World.grownBy.refl w5 _) _) _) _) _) _) _) _).trans (grown_drew1 _ _)
  have hbf := hbb.out.grown hg (by omega) (fun k e => by cases e; omega)
  have hq := HBQ.out
  rw [← hq] at hbf ⊢
  exact ⟨by rw [← HO.out, ← HL.out]; rfl, hbf⟩
end Go.Proofs.YtpcpdbofbbpglaaDoor
