/- Layer 5, the statements' helpers: a parser cut to what is asked. Made by wip/gen/parseX.py. -/
import Derived.Test.YtpcpdbofbbpglaaDoorParseW
namespace Go.Proofs.YtpcpdbofbbpglaaDoor
open Go.RowKit

/-- A parser, cut. -/
def fewP (p : Pa) : Pa := ⟨p.st, p.priv, p.params.take 18, p.inter, p.osc.extract 0 66, p.pend.extract 0 6⟩
def FewPost (W : World) (p : Pa) (A : Option Addr) (c : Nat) (e : Ending) (w' : World) : Prop := e = .returned (.agg ((fewP p).cells (.slice A (fewP p).params.length c))) ∧ Below W.heap.size W w'
theorem IRow.take {W : World} {A : Option Addr} {c : Nat} {l : List Int} (h : IRow W (.slice A l.length c) l) (n : Nat) : IRow W (.slice A (l.take n).length c) (l.take n) := by
  obtain ⟨A', c', e, hl⟩ := h
  cases e
  refine ⟨A, c, rfl, fun hn => ?_⟩
  obtain ⟨ad, h1, h2, h3⟩ := hl (fun e => hn (by rw [e]; simp))
  refine ⟨ad, h1, h2, fun j x hj => h3 j x ?_⟩
  rw [List.getElem?_take] at hj
  split at hj
  · exact hj
  · cases hj
theorem extract_min' {s : ByteArray} {n : Nat} (h : s.size ≤ n) : s.extract 0 s.size = s.extract 0 n := by
  apply bytes_ext
  · rw [size_extract', size_extract']; omega
  · intro i hi
    rw [size_extract'] at hi
    rw [byteAt_extract _ _ _ _ (by omega), byteAt_extract _ _ _ _ (by omega)]
/-- A text cut by the least of two lengths. -/
theorem min_facts (s : ByteArray) (n : Nat) : (0 : Int) ≤ (if (n : Int) < s.size then (n : Int) else s.size) ∧ (if (n : Int) < s.size then (n : Int) else s.size) ≤ s.size ∧ s.extract 0 (if (n : Int) < s.size then (n : Int) else s.size).toNat = s.extract 0 n := by
  refine ⟨by split <;> omega, by split <;> omega, ?_⟩
  split
  · rw [Int.toNat_natCast]
  · rw [Int.toNat_natCast]; exact extract_min' (by omega)
theorem min_nat (m n : Nat) : (0 : Int) ≤ (if (n : Int) < m then (n : Int) else m) ∧ (if (n : Int) < m then (n : Int) else m) ≤ m ∧ (if (n : Int) < m then (n : Int) else (m : Int)).toNat = min n m := by
  refine ⟨by split <;> omega, by split <;> omega, ?_⟩
  split <;> (rw [Int.toNat_natCast]; omega)

set_option maxRecDepth 100000 in
set_option maxHeartbeats 4000000 in
theorem few_any (p : Pa) (A : Option Addr) (c : Nat) (W : World) (hc : p.params.length ≤ c) (ho : p.osc.size ≤ 9223372036854775807) (hp : p.pend.size ≤ 9223372036854775807) :
    Calls Tryd.prog 6 #[.agg (p.cells (.slice A p.params.length c))] W (FewPost W p A c) := by
  obtain ⟨p1, p2, p3, p4, p5, p6⟩ := p
  simp only at hc ho hp
  obtain ⟨m, hm⟩ : ∃ m, p3.length = m := ⟨_, rfl⟩
  have hlen : (p3.take 18).length = min 18 m := by rw [List.length_take, hm]
  have m1 : (0 : Int) ≤ (if (18 : Int) < m then (18 : Int) else m) := (min_nat m 18).1
  have m2 : (if (18 : Int) < m then (18 : Int) else m) ≤ m := (min_nat m 18).2.1
  have m3 : (if (18 : Int) < m then (18 : Int) else m).toNat = min 18 m := (min_nat m 18).2.2
  have o1 : (0 : Int) ≤ (if (66 : Int) < p5.size then (66 : Int) else p5.size) := (min_facts p5 66).1
  have o2 : (if (66 : Int) < p5.size then (66 : Int) else p5.size) ≤ p5.size := (min_facts p5 66).2.1
  have o3 : p5.extract 0 (if (66 : Int) < p5.size then (66 : Int) else p5.size).toNat = p5.extract 0 66 := (min_facts p5 66).2.2
  have e1 : (0 : Int) ≤ (if (6 : Int) < p6.size then (6 : Int) else p6.size) := (min_facts p6 6).1
  have e2 : (if (6 : Int) < p6.size then (6 : Int) else p6.size) ≤ p6.size := (min_facts p6 6).2.1
  have e3 : p6.extract 0 (if (6 : Int) < p6.size then (6 : Int) else p6.size).toNat = p6.extract 0 6 := (min_facts p6 6).2.2
  unfold Pa.cells
  simp only
  rw [hm] at hc ⊢
  have HL := hid hlen
  have bx := Box.new W 24 #[.int .i64 p1, .int .i64 p2, .slice A m c, .int .i64 p4, .string p5, .string p6]
  have by_ := Box.new (W.alloc (.cells #[.int .i64 p1, .int .i64 p2, .slice A m c, .int .i64 p4, .string p5, .string p6] 24)) 24 #[.int .i64 0, .int .i64 0, .slice none 0 0, .int .i64 0, .string ⟨#[]⟩, .string ⟨#[]⟩]
  have bx2 := bx.alloc (.cells #[.int .i64 0, .int .i64 0, .slice none 0 0, .int .i64 0, .string ⟨#[]⟩, .string ⟨#[]⟩] 24)
  rw [World.size_alloc] at by_
  have hbW := (below_alloc W (.cells #[.int .i64 p1, .int .i64 p2, .slice A m c, .int .i64 p4, .string p5, .string p6] 24)).alloc (by simp) (.cells #[.int .i64 0, .int .i64 0, .slice none 0 0, .int .i64 0, .string ⟨#[]⟩, .string ⟨#[]⟩] 24)
  clear hlen bx hm
  have hcI : (if (18 : Int) < m then (18 : Int) else m) ≤ c := by omega
  go_enter Tryd.func6, Tryd.ntmps6
  go_upto_region 1 with fail
  generalize ((W.alloc (.cells #[.int .i64 p1, .int .i64 p2, .slice A m c, .int .i64 p4, .string p5, .string p6] 24)).alloc (.cells #[.int .i64 0, .int .i64 0, .slice none 0 0, .int .i64 0, .string ⟨#[]⟩, .string ⟨#[]⟩] 24)) = W0 at *
  obtain ⟨b, hb⟩ : ∃ b, W.heap.size = b := ⟨_, rfl⟩
  have HBQ := hid hb
  rw [hb] at bx2 by_ hbW ⊢
  clear hb
  have hlt := bx2.lt
  refine wp_region_S (TwoS 22 24 (fun w' => Box w' b 24 #[.int .i64 p1, .int .i64 p2, .slice A m c, .int .i64 p4, .string p5, .string p6]) (fun _ => True)) (by kernel_rfl) ?_
  have hS : ∀ L, TwoS 22 24 (fun w' => Box w' b 24 #[.int .i64 p1, .int .i64 p2, .slice A m c, .int .i64 p4, .string p5, .string p6]) (fun _ => True) L (World.drew W0) := fun L => ⟨fun _ => bx2, fun _ => trivial⟩
  refine takeS (i := 0) (v := ?v0) 3 rfl rfl (by kernel_rfl) (by kernel_rfl) (by kernel_rfl) (by kernel_rfl) (by decide) (by decide) (fun _ _ _ h => h) (Or.inl ⟨by rfl, fun w' _ => ?hy0⟩) (hS _) ?rest0
  case hy0 => go_simp; try with_reducible rfl
  simp only [Act.put, List.setIfInBounds_toArray, List.set_cons_zero, List.set_cons_succ]
  refine takeS1 (i := 1) (v := ?v1) 4 rfl rfl (by kernel_rfl) (by kernel_rfl) (by kernel_rfl) (by kernel_rfl) (by decide) (by decide) (by kernel_rfl) (fun _ _ _ h => h) (Or.inl ⟨by rfl, fun w' hw' => ?hy1⟩) (hS _) ?rest1
  case hy1 => have a0 : w'.cell? ⟨b, 2, none⟩ = some (.slice A m c) := hw'.cell 2; go_simp; try with_reducible rfl
  simp only [Act.put, List.setIfInBounds_toArray, List.set_cons_zero, List.set_cons_succ]
  refine takeS (i := 2) (v := ?v2) 5 rfl rfl (by kernel_rfl) (by kernel_rfl) (by kernel_rfl) (by kernel_rfl) (by decide) (by decide) (fun _ _ _ h => h) (Or.inl ⟨by rfl, fun w' _ => ?hy2⟩) (hS _) ?rest2
  case hy2 => go_simp; try with_reducible rfl
  simp only [Act.put, List.setIfInBounds_toArray, List.set_cons_zero, List.set_cons_succ]
  refine takeS1 (i := 3) (v := ?v3) 6 rfl rfl (by kernel_rfl) (by kernel_rfl) (by kernel_rfl) (by kernel_rfl) (by decide) (by decide) (by kernel_rfl) (fun _ _ _ h => h) (Or.inl ⟨by rfl, fun w' hw' => ?hy3⟩) (hS _) ?rest3
  case hy3 => have a0 : w'.cell? ⟨b, 2, none⟩ = some (.slice A m c) := hw'.cell 2; go_simp; try with_reducible rfl
  simp only [Act.put, List.setIfInBounds_toArray, List.set_cons_zero, List.set_cons_succ]
  refine takeS (i := 4) (v := ?v4) 7 rfl rfl (by kernel_rfl) (by kernel_rfl) (by kernel_rfl) (by kernel_rfl) (by decide) (by decide) (fun _ _ _ h => h) (Or.inl ⟨by rfl, fun w' _ => ?hy4⟩) (hS _) ?rest4
  case hy4 => go_simp; try with_reducible rfl
  simp only [Act.put, List.setIfInBounds_toArray, List.set_cons_zero, List.set_cons_succ]
  refine takeS (i := 5) (v := ?v5) 8 rfl rfl (by kernel_rfl) (by kernel_rfl) (by kernel_rfl) (by kernel_rfl) (by decide) (by decide) (fun _ _ _ h => h) (Or.inl ⟨by rfl, fun w' _ => ?hy5⟩) (hS _) ?rest5
  case hy5 => go_simp; try with_reducible rfl
  simp only [Act.put, List.setIfInBounds_toArray, List.set_cons_zero, List.set_cons_succ]
  refine takeS (i := 6) (v := ?v6) 9 rfl rfl (by kernel_rfl) (by kernel_rfl) (by kernel_rfl) (by kernel_rfl) (by decide) (by decide) (fun _ _ _ h => h) (Or.inl ⟨by rfl, fun w' _ => ?hy6⟩) (hS _) ?rest6
  case hy6 => go_simp; try with_reducible rfl
  simp only [Act.put, List.setIfInBounds_toArray, List.set_cons_zero, List.set_cons_succ]
  refine takeS (i := 7) (v := ?v7) 10 rfl rfl (by kernel_rfl) (by kernel_rfl) (by kernel_rfl) (by kernel_rfl) (by decide) (by decide) (fun _ _ _ h => h) (Or.inl ⟨by rfl, fun w' _ => ?hy7⟩) (hS _) ?rest7
  case hy7 => go_simp; try with_reducible rfl
  simp only [Act.put, List.setIfInBounds_toArray, List.set_cons_zero, List.set_cons_succ]
  refine takeS1 (i := 8) (v := ?v8) 11 rfl rfl (by kernel_rfl) (by kernel_rfl) (by kernel_rfl) (by kernel_rfl) (by decide) (by decide) (by kernel_rfl) (fun _ _ _ h => h) (Or.inl ⟨by rfl, fun w' hw' => ?hy8⟩) (hS _) ?rest8
  case hy8 => have a0 : w'.cell? ⟨b, 4, none⟩ = some (.string p5) := hw'.cell 4; go_simp; try with_reducible rfl
  simp only [Act.put, List.setIfInBounds_toArray, List.set_cons_zero, List.set_cons_succ]
  refine takeS (i := 9) (v := ?v9) 12 rfl rfl (by kernel_rfl) (by kernel_rfl) (by kernel_rfl) (by kernel_rfl) (by decide) (by decide) (fun _ _ _ h => h) (Or.inl ⟨by rfl, fun w' _ => ?hy9⟩) (hS _) ?rest9
  case hy9 => go_simp; try with_reducible rfl
  simp only [Act.put, List.setIfInBounds_toArray, List.set_cons_zero, List.set_cons_succ]
  refine takeS1 (i := 10) (v := ?v10) 13 rfl rfl (by kernel_rfl) (by kernel_rfl) (by kernel_rfl) (by kernel_rfl) (by decide) (by decide) (by kernel_rfl) (fun _ _ _ h => h) (Or.inl ⟨by rfl, fun w' hw' => ?hy10⟩) (hS _) ?rest10
  case hy10 => have a0 : w'.cell? ⟨b, 4, none⟩ = some (.string p5) := hw'.cell 4; go_simp; try with_reducible rfl
  simp only [Act.put, List.setIfInBounds_toArray, List.set_cons_zero, List.set_cons_succ]
  refine takeS (i := 11) (v := ?v11) 14 rfl rfl (by kernel_rfl) (by kernel_rfl) (by kernel_rfl) (by kernel_rfl) (by decide) (by decide) (fun _ _ _ h => h) (Or.inl ⟨by rfl, fun w' _ => ?hy11⟩) (hS _) ?rest11
  case hy11 => go_simp; try with_reducible rfl
  simp only [Act.put, List.setIfInBounds_toArray, List.set_cons_zero, List.set_cons_succ]
  refine takeS (i := 12) (v := ?v12) 15 rfl rfl (by kernel_rfl) (by kernel_rfl) (by kernel_rfl) (by kernel_rfl) (by decide) (by decide) (fun _ _ _ h => h) (Or.inl ⟨by rfl, fun w' _ => ?hy12⟩) (hS _) ?rest12
  case hy12 => go_simp; try with_reducible rfl
  simp only [Act.put, List.setIfInBounds_toArray, List.set_cons_zero, List.set_cons_succ]
  refine takeS (i := 13) (v := ?v13) 16 rfl rfl (by kernel_rfl) (by kernel_rfl) (by kernel_rfl) (by kernel_rfl) (by decide) (by decide) (fun _ _ _ h => h) (Or.inl ⟨by rfl, fun w' _ => ?hy13⟩) (hS _) ?rest13
  case hy13 => go_simp; try with_reducible rfl
  simp only [Act.put, List.setIfInBounds_toArray, List.set_cons_zero, List.set_cons_succ]
  refine takeS (i := 14) (v := ?v14) 17 rfl rfl (by kernel_rfl) (by kernel_rfl) (by kernel_rfl) (by kernel_rfl) (by decide) (by decide) (fun _ _ _ h => h) (Or.inl ⟨by rfl, fun w' _ => ?hy14⟩) (hS _) ?rest14
  case hy14 => go_simp; try with_reducible rfl
  simp only [Act.put, List.setIfInBounds_toArray, List.set_cons_zero, List.set_cons_succ]
  refine takeS1 (i := 15) (v := ?v15) 18 rfl rfl (by kernel_rfl) (by kernel_rfl) (by kernel_rfl) (by kernel_rfl) (by decide) (by decide) (by kernel_rfl) (fun _ _ _ h => h) (Or.inl ⟨by rfl, fun w' hw' => ?hy15⟩) (hS _) ?rest15
  case hy15 => have a0 : w'.cell? ⟨b, 5, none⟩ = some (.string p6) := hw'.cell 5; go_simp; try with_reducible rfl
  simp only [Act.put, List.setIfInBounds_toArray, List.set_cons_zero, List.set_cons_succ]
  refine takeS (i := 16) (v := ?v16) 19 rfl rfl (by kernel_rfl) (by kernel_rfl) (by kernel_rfl) (by kernel_rfl) (by decide) (by decide) (fun _ _ _ h => h) (Or.inl ⟨by rfl, fun w' _ => ?hy16⟩) (hS _) ?rest16
  case hy16 => go_simp; try with_reducible rfl
  simp only [Act.put, List.setIfInBounds_toArray, List.set_cons_zero, List.set_cons_succ]
  refine takeS1 (i := 17) (v := ?v17) 20 rfl rfl (by kernel_rfl) (by kernel_rfl) (by kernel_rfl) (by kernel_rfl) (by decide) (by decide) (by kernel_rfl) (fun _ _ _ h => h) (Or.inl ⟨by rfl, fun w' hw' => ?hy17⟩) (hS _) ?rest17
  case hy17 => have a0 : w'.cell? ⟨b, 5, none⟩ = some (.string p6) := hw'.cell 5; go_simp; try with_reducible rfl
  simp only [Act.put, List.setIfInBounds_toArray, List.set_cons_zero, List.set_cons_succ]
  refine takeS (i := 18) (v := ?v18) 21 rfl rfl (by kernel_rfl) (by kernel_rfl) (by kernel_rfl) (by kernel_rfl) (by decide) (by decide) (fun _ _ _ h => h) (Or.inl ⟨by rfl, fun w' _ => ?hy18⟩) (hS _) ?rest18
  case hy18 => go_simp; try with_reducible rfl
  simp only [Act.put, List.setIfInBounds_toArray, List.set_cons_zero, List.set_cons_succ]
  refine takeS (i := 19) (v := ?v19) 22 rfl rfl (by kernel_rfl) (by kernel_rfl) (by kernel_rfl) (by kernel_rfl) (by decide) (by decide) (fun _ _ _ h => h) (Or.inl ⟨by rfl, fun w' _ => ?hy19⟩) (hS _) ?rest19
  case hy19 => go_simp; try with_reducible rfl
  simp only [Act.put, List.setIfInBounds_toArray, List.set_cons_zero, List.set_cons_succ]
  refine takeS (i := 20) (v := ?v20) 23 rfl rfl (by kernel_rfl) (by kernel_rfl) (by kernel_rfl) (by kernel_rfl) (by decide) (by decide) (fun _ _ _ h => h) (Or.inl ⟨by rfl, fun w' _ => ?hy20⟩) (hS _) ?rest20
  case hy20 => go_simp; try with_reducible rfl
  simp only [Act.put, List.setIfInBounds_toArray, List.set_cons_zero, List.set_cons_succ]
  refine takeS (i := 21) (v := ?v21) 24 rfl rfl (by kernel_rfl) (by kernel_rfl) (by kernel_rfl) (by kernel_rfl) (by decide) (by decide) (fun _ _ _ h => h) (Or.inl ⟨by rfl, fun w' _ => ?hy21⟩) (hS _) ?rest21
  case hy21 => go_simp; try with_reducible rfl
  simp only [Act.put, List.setIfInBounds_toArray, List.set_cons_zero, List.set_cons_succ]
  have c0 : W0.cell? ⟨b, 0, none⟩ = some (.int .i64 p1) := bx2.cell 0
  have c1 : W0.cell? ⟨b, 1, none⟩ = some (.int .i64 p2) := bx2.cell 1
  have c2 : W0.cell? ⟨b, 2, none⟩ = some (.slice A m c) := bx2.cell 2
  have c3 : W0.cell? ⟨b, 3, none⟩ = some (.int .i64 p4) := bx2.cell 3
  have c4 : W0.cell? ⟨b, 4, none⟩ = some (.string p5) := bx2.cell 4
  have c5 : W0.cell? ⟨b, 5, none⟩ = some (.string p6) := bx2.cell 5
  obtain ⟨f0, f1, f2, f3, f4, f5⟩ := six_cells bx2
  refine oneS (k := 22) (by kernel_rfl) rfl (by rfl) (fun K hK => ?_)
  go_simp
  refine hK _ _ ⟨fun h => absurd h (by decide), fun _ => trivial⟩ ?_
  clear hK K hS
  have hS : ∀ L w', L.getD 22 false = true → TwoS 22 24 (fun w' => Box w' b 24 #[.int .i64 p1, .int .i64 p2, .slice A m c, .int .i64 p4, .string p5, .string p6]) (fun _ => True) L w' := fun L w' h => ⟨fun h' => (by rw [h] at h'; exact absurd h' (by decide)), fun _ => trivial⟩
  refine takeS (i := 23) (v := ?v23) 25 rfl rfl (by kernel_rfl) (by kernel_rfl) (by kernel_rfl) (by kernel_rfl) (by decide) (by decide) (fun _ _ _ h => h) (Or.inl ⟨by rfl, fun w' _ => ?hy23⟩) (hS _ _ (by decide)) ?rest23
  case hy23 => go_simp; try with_reducible rfl
  simp only [Act.put, List.setIfInBounds_toArray, List.set_cons_zero, List.set_cons_succ]
  refine oneS (k := 24) (by kernel_rfl) rfl (by rfl) (fun K hK => ?_)
  go_simp
  refine hK _ _ (hS _ _ (by decide)) ?_
  clear hK K
  refine takeS (i := 25) (v := ?v25) 26 rfl rfl (by kernel_rfl) (by kernel_rfl) (by kernel_rfl) (by kernel_rfl) (by decide) (by decide) (fun _ _ _ h => h) (Or.inl ⟨by rfl, fun w' _ => ?hy25⟩) (hS _ _ (by decide)) ?rest25
  case hy25 => go_simp; try with_reducible rfl
  simp only [Act.put, List.setIfInBounds_toArray, List.set_cons_zero, List.set_cons_succ]
  refine oneS (k := 26) (by kernel_rfl) rfl (by rfl) (fun K hK => ?_)
  go_simp
  refine hK _ _ (hS _ _ (by decide)) ?_
  clear hK K hS
  refine doneS (by kernel_rfl) ?_ _
  obtain ⟨m', hm'⟩ : ∃ m', min 18 m = m' := ⟨_, rfl⟩
  obtain ⟨o', ho'⟩ : ∃ o', p5.extract 0 66 = o' := ⟨_, rfl⟩
  obtain ⟨e', he'⟩ : ∃ e', p6.extract 0 6 = e' := ⟨_, rfl⟩
  rw [hm'] at HL ⊢
  rw [ho', he']
  have HO := hid ho'
  have HE := hid he'
  clear m1 m2 m3 o1 o2 o3 e1 e2 e3 hm' ho' he' hcI
  generalize (if (18 : Int) < m then (18 : Int) else m) = i1
  generalize (if (66 : Int) < p5.size then (66 : Int) else p5.size) = i2
  generalize (if (6 : Int) < p6.size then (6 : Int) else p6.size) = i3
  have bx5 : Box (((W0.setCell ⟨b, 2, none⟩ (.slice A m' c)).setCell ⟨b, 4, none⟩ (.string o')).setCell ⟨b, 5, none⟩ (.string e')) b 24 #[.int .i64 p1, .int .i64 p2, .slice A m' c, .int .i64 p4, .string o', .string e'] := ((bx2.set (i := 2) (.slice A m' c)).set (i := 4) (.string o')).set (i := 5) (.string e')
  have hg5 : W0.grownBy (((W0.setCell ⟨b, 2, none⟩ (.slice A m' c)).setCell ⟨b, 4, none⟩ (.string o')).setCell ⟨b, 5, none⟩ (.string e')) (some b) := grown_set (grown_set (grown_set (World.grownBy.refl W0 _) _) _) _
  have by5 := by_.grown hg5 (by simp)
  have hz5 := hg5.size
  have hb5 := hbW.grown hg5 (by omega) (fun k e => by cases e; exact Nat.le_refl _)
  generalize (((W0.setCell ⟨b, 2, none⟩ (.slice A m' c)).setCell ⟨b, 4, none⟩ (.string o')).setCell ⟨b, 5, none⟩ (.string e')) = w5 at *
  clear c0 c1 c2 c3 c4 c5 f0 f1 f2 f3 f4 f5 bx2 by_ hg5
  have c0 : w5.cell? ⟨b, 0, none⟩ = some (.int .i64 p1) := bx5.cell 0
  have c1 : w5.cell? ⟨b, 1, none⟩ = some (.int .i64 p2) := bx5.cell 1
  have c2 : w5.cell? ⟨b, 2, none⟩ = some (.slice A m' c) := bx5.cell 2
  have c3 : w5.cell? ⟨b, 3, none⟩ = some (.int .i64 p4) := bx5.cell 3
  have c4 : w5.cell? ⟨b, 4, none⟩ = some (.string o') := bx5.cell 4
  have c5 : w5.cell? ⟨b, 5, none⟩ = some (.string e') := bx5.cell 5
  have d0 : w5.cell? ⟨b + 1, 0, none⟩ = some (.int .i64 0) := by5.cell 0
  have d1 : w5.cell? ⟨b + 1, 1, none⟩ = some (.int .i64 0) := by5.cell 1
  have d2 : w5.cell? ⟨b + 1, 2, none⟩ = some (.slice none 0 0) := by5.cell 2
  have d3 : w5.cell? ⟨b + 1, 3, none⟩ = some (.int .i64 0) := by5.cell 3
  have d4 : w5.cell? ⟨b + 1, 4, none⟩ = some (.string ⟨#[]⟩) := by5.cell 4
  have d5 : w5.cell? ⟨b + 1, 5, none⟩ = some (.string ⟨#[]⟩) := by5.cell 5
  obtain ⟨f0, f1, f2, f3, f4, f5⟩ := six_cells by5
  have hbb := hid hb5
  clear bx5 by5 hb5
  go_wp2
  refine bodyPost_ret (v := .agg #[.int .i64 p1, .int .i64 p2, .slice A m' c, .int .i64 p4, .string o', .string e']) (by simp [results, Tryd.results6, go_sem, d0, d1, d2, d3, d4, d5]) rfl ?_
  have hg : w5.grownBy ((((((w5.setCell ⟨b + 1, 0, none⟩ (.int .i64 p1)).setCell ⟨b + 1, 1, none⟩ (.int .i64 p2)).setCell ⟨b + 1, 2, none⟩ (.slice A m' c)).setCell ⟨b + 1, 3, none⟩ (.int .i64 p4)).setCell ⟨b + 1, 4, none⟩ (.string o')).setCell ⟨b + 1, 5, none⟩ (.string e')).drew (some (b + 1)) := (grown_set (grown_set (grown_set (grown_set (grown_set (grown_set (World.grownBy.refl w5 _) _) _) _) _) _) _).trans (grown_drew1 _ _)
  have hbf := hbb.out.grown hg (by omega) (fun k e => by cases e; omega)
  have hq := HBQ.out
  rw [← hq] at hbf ⊢
  exact ⟨by rw [← HO.out, ← HE.out, ← HL.out]; rfl, hbf⟩
end Go.Proofs.YtpcpdbofbbpglaaDoor
