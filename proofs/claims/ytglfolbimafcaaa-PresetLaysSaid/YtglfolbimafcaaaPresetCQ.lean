/- Layer 12, the package: row, pile. Made by wip/gen/presetRow.py. -/
import Derived.Test.YtglfolbimafcaaaPresetBQ
import Derived.Test.YtglfolbimafcaaaHeldSQ
namespace Go.Proofs.Ytglfolbimafcaaa
open Go.RowKit

theorem four_cells {W : World} {b : Nat} {t : TypeId} {cs : Array Value} (h : Box W b t cs) (hs : cs.size = 4) (x y z u : Value) : Box ((((W.setCell ⟨b, 0, none⟩ x).setCell ⟨b, 1, none⟩ y).setCell ⟨b, 2, none⟩ z).setCell ⟨b, 3, none⟩ u) b t #[x, y, z, u] := by
  have := (((h.set (i := 0) x).set (i := 1) y).set (i := 2) z).set (i := 3) u
  obtain ⟨l⟩ := cs
  match l, hs with
  | [c0, c1, c2, c3], _ => exact this
set_option maxRecDepth 100000 in
set_option maxHeartbeats 4000000 in
theorem row_any (w h : Nat) (v : Value) (ps : List Int) (W : World) (hv : NRow W v ps) (hl1 : 1 ≤ ps.length) (hl8 : ps.length ≤ 8) (w1 : 1 ≤ w) (w80 : w ≤ 80) :
    Calls Try.prog 60 #[.agg #[.int .i64 w, .int .i64 h], v] W (LayP W W.heap.size (lineT 1 w ps)) := by
  have HE := hid (fun X (hb : Below W.heap.size W X) => each_any v ps X (hv.below hb) (by omega))
  obtain ⟨vA, vc, rfl, _⟩ := hv
  obtain ⟨n, hn⟩ : ∃ n, ps.length = n := ⟨_, rfl⟩
  have HLN : Hid ((leaves0 ps).length = n) := by unfold Hid leaves0; rw [List.length_map, hn]
  have HLV : Hid (sharedT 1 w ((leaves0 ps).map Prod.fst) = lineT 1 w ps) := by unfold Hid lineT leaves0; rw [List.map_map]; rfl
  have hxb := (Box.new W 77 #[.int .i64 (w : Int), .int .i64 (h : Int)]).alloc (.cells #[.int .i64 0, .int .i64 0, .int .i64 0, .slice none 0 0] 24)
  have hxr := Box.new (W.alloc (.cells #[.int .i64 (w : Int), .int .i64 (h : Int)] 77)) 24 #[.int .i64 0, .int .i64 0, .int .i64 0, .slice none 0 0]
  rw [World.size_alloc] at hxr
  have hbx := (below_alloc W (.cells #[.int .i64 (w : Int), .int .i64 (h : Int)] 77)).alloc (by simp) (.cells #[.int .i64 0, .int .i64 0, .int .i64 0, .slice none 0 0] 24)
  have HXB := hid hxb
  have HXR := hid hxr
  have HBX := hid hbx
  rw [hn] at hl1 hl8 ⊢
  clear hxb hxr hbx
  go_enter Try.func60, Try.ntmps60
  go_upto_region 1 with fail
  obtain ⟨X, hX⟩ : ∃ X, (W.alloc (.cells #[.int .i64 (w : Int), .int .i64 (h : Int)] 77)).alloc (.cells #[.int .i64 0, .int .i64 0, .int .i64 0, .slice none 0 0] 24) = X := ⟨_, rfl⟩
  rw [hX] at HXB HXR HBX ⊢
  have HE := hid (fun Y (hb : Below X.heap.size X Y) => HE.out Y (HBX.out.trans (hb.mono HBX.out.size)))
  rw [hn] at HE
  clear hX
  have hS0 : Box X.drew W.heap.size 77 #[.int .i64 (w : Int), .int .i64 (h : Int)] := HXB.out.drew
  refine wp_region_S (fun _ w' => Box w' W.heap.size 77 #[.int .i64 (w : Int), .int .i64 (h : Int)]) (by kernel_rfl) ?_
  refine takeC (i := 0) (v := ?v0r) 6 rfl rfl (by kernel_rfl) (by kernel_rfl) (by kernel_rfl) (by kernel_rfl) (fun _ _ _ h => h) (Or.inl ⟨by rfl, fun w' hw' => ?hy0r⟩) hS0 ?rest0r
  case hy0r => go_simp; try with_reducible rfl
  try simp only [Act.put, List.setIfInBounds_toArray, List.set_cons_zero, List.set_cons_succ]
  refine takeC (i := 1) (v := ?v1r) 7 rfl rfl (by kernel_rfl) (by kernel_rfl) (by kernel_rfl) (by kernel_rfl) (fun _ _ _ h => h) (Or.inl ⟨by rfl, fun w' hw' => ?hy1r⟩) hS0 ?rest1r
  case hy1r => have a0 := hw'.two.1.1; go_simp; try with_reducible rfl
  try simp only [Act.put, List.setIfInBounds_toArray, List.set_cons_zero, List.set_cons_succ]
  refine takeC (i := 2) (v := ?v2r) 8 rfl rfl (by kernel_rfl) (by kernel_rfl) (by kernel_rfl) (by kernel_rfl) (fun _ _ _ h => h) (Or.inl ⟨by rfl, fun w' hw' => ?hy2r⟩) hS0 ?rest2r
  case hy2r => go_simp; try with_reducible rfl
  try simp only [Act.put, List.setIfInBounds_toArray, List.set_cons_zero, List.set_cons_succ]
  refine oneS (k := 3) (by kernel_rfl) rfl (by rfl) (fun K hK => ?_)
  go_simp
  go_at_call 73
  refine (HE.out _ (below_drew X 1)).mono ?_
  rintro e w9 ⟨u, rfl, hown, hb9⟩
  dsimp only
  obtain ⟨uA, uc, hu⟩ := hown.spell
  rw [HLN.out] at hu
  subst hu
  have hb9 : Below X.heap.size X w9 := (below_drew X 1).trans hb9
  have hS1 := HXB.out.below hb9 HXB.out.lt
  refine hK _ _ hS1 ?_
  clear hK K
  try simp only [Act.put, List.setIfInBounds_toArray, List.set_cons_zero, List.set_cons_succ]
  clear hS0
  have hS0 := hS1
  clear hS1
  refine oneS (k := 4) (by kernel_rfl) rfl (by rfl) (fun K hK => ?_)
  go_simp
  go_at_call 72
  refine (shared_any 1 w _ (leaves0 ps) X.heap.size 0 w9 hown hb9.size (Nat.zero_le _) (by rw [HLN.out]; exact hl1) (by rw [HLN.out]; exact hl8) w1 w80).mono ?_
  rintro e w10 ⟨hp, _⟩
  obtain ⟨hb10, t, kA, kn, kc, err, rfl, ht, hcase⟩ := hp.one
  dsimp only
  have hbX : Below X.heap.size X w10 := hb9.trans hb10
  have hS1 := HXB.out.below hbX HXB.out.lt
  have hr := HXR.out.below hbX HXR.out.lt
  obtain ⟨⟨c0, c1, c2, c3⟩, f0, f1, f2, f3⟩ := hr.four
  refine hK _ _ hS1 ?_
  clear hK K
  try simp only [Act.put, List.setIfInBounds_toArray, List.set_cons_zero, List.set_cons_succ]
  clear hS0 hown
  have hS0 := hS1
  clear hS1
  refine takeC (i := 5) (v := ?v5r) 11 rfl rfl (by kernel_rfl) (by kernel_rfl) (by kernel_rfl) (by kernel_rfl) (fun _ _ _ h => h) (Or.inl ⟨by rfl, fun w' hw' => ?hy5r⟩) hS0 ?rest5r
  case hy5r => go_simp; try with_reducible rfl
  try simp only [Act.put, List.setIfInBounds_toArray, List.set_cons_zero, List.set_cons_succ]
  refine takeC (i := 6) (v := ?v6r) 12 rfl rfl (by kernel_rfl) (by kernel_rfl) (by kernel_rfl) (by kernel_rfl) (fun _ _ _ h => h) (Or.inl ⟨by rfl, fun w' hw' => ?hy6r⟩) hS0 ?rest6r
  case hy6r => go_simp; try with_reducible rfl
  try simp only [Act.put, List.setIfInBounds_toArray, List.set_cons_zero, List.set_cons_succ]
  refine oneS (k := 7) (by kernel_rfl) rfl (by rfl) (fun K hK => ?_)
  go_simp
  have hS1 : Box ((((w10.setCell ⟨W.heap.size + 1, 0, none⟩ (.int .i64 t.kind)).setCell ⟨W.heap.size + 1, 1, none⟩ (.int .i64 t.pane)).setCell ⟨W.heap.size + 1, 2, none⟩ (.int .i64 t.size)).setCell ⟨W.heap.size + 1, 3, none⟩ (.slice kA kn kc)) W.heap.size 77 #[.int .i64 (w : Int), .int .i64 (h : Int)] := (((hS0.other (by omega) _).other (by omega) _).other (by omega) _).other (by omega) _
  refine hK _ _ hS1 ?_
  clear hK K
  try simp only [Act.put, List.setIfInBounds_toArray, List.set_cons_zero, List.set_cons_succ]
  clear hS0
  have hS0 := hS1
  clear hS1
  refine takeC (i := 8) (v := ?v8r) 5 rfl rfl (by kernel_rfl) (by kernel_rfl) (by kernel_rfl) (by kernel_rfl) (fun _ _ _ h => h) (Or.inl ⟨by rfl, fun w' hw' => ?hy8r⟩) hS0 ?rest8r
  case hy8r => go_simp; try with_reducible rfl
  try simp only [Act.put, List.setIfInBounds_toArray, List.set_cons_zero, List.set_cons_succ]
  refine doneS (by kernel_rfl) ?_ _
  go_wp2_with fail
  have hz := four_cells hr rfl (.int .i64 t.kind) (.int .i64 t.pane) (.int .i64 t.size) (.slice kA kn kc)
  have d0 := hz.cell 0
  have d1 := hz.cell 1
  have d2 := hz.cell 2
  have d3 := hz.cell 3
  have hbW := HBX.out.trans (hbX.mono (Nat.le_trans (Nat.le_succ _) (Nat.le_of_lt HXR.out.lt)))
  have hbZ := below_set (below_set (below_set (below_set hbW (Nat.le_succ _) (i := 0) (.int .i64 t.kind)) (Nat.le_succ _) (i := 1) (.int .i64 t.pane)) (Nat.le_succ _) (i := 2) (.int .i64 t.size)) (Nat.le_succ _) (i := 3) (.slice kA kn kc)
  have hxl := HXR.out.lt
  exact bodyPost_ret (v := .tuple #[.agg #[.int .i64 t.kind, .int .i64 t.pane, .int .i64 t.size, .slice kA kn kc], .int .i64 err]) (by simp [results, Try.f60, go_sem, d0, d1, d2, d3]) rfl (LayP.of hbZ (ht.into (four_into (Nat.le_refl _) (fun c h1 _ => by omega) W.heap.size (by omega))) (by rw [← HLV.out]; exact hcase))
set_option maxRecDepth 100000 in
set_option maxHeartbeats 4000000 in
theorem pile_any (w h : Nat) (v : Value) (ps : List Int) (W : World) (hv : NRow W v ps) (hl1 : 1 ≤ ps.length) (hl8 : ps.length ≤ 8) (h1 : 1 ≤ h) (h80 : h ≤ 80) :
    Calls Try.prog 61 #[.agg #[.int .i64 w, .int .i64 h], v] W (LayP W W.heap.size (lineT 2 h ps)) := by
  have HE := hid (fun X (hb : Below W.heap.size W X) => each_any v ps X (hv.below hb) (by omega))
  obtain ⟨vA, vc, rfl, _⟩ := hv
  obtain ⟨n, hn⟩ : ∃ n, ps.length = n := ⟨_, rfl⟩
  have HLN : Hid ((leaves0 ps).length = n) := by unfold Hid leaves0; rw [List.length_map, hn]
  have HLV : Hid (sharedT 2 h ((leaves0 ps).map Prod.fst) = lineT 2 h ps) := by unfold Hid lineT leaves0; rw [List.map_map]; rfl
  have hxb := (Box.new W 77 #[.int .i64 (w : Int), .int .i64 (h : Int)]).alloc (.cells #[.int .i64 0, .int .i64 0, .int .i64 0, .slice none 0 0] 24)
  have hxr := Box.new (W.alloc (.cells #[.int .i64 (w : Int), .int .i64 (h : Int)] 77)) 24 #[.int .i64 0, .int .i64 0, .int .i64 0, .slice none 0 0]
  rw [World.size_alloc] at hxr
  have hbx := (below_alloc W (.cells #[.int .i64 (w : Int), .int .i64 (h : Int)] 77)).alloc (by simp) (.cells #[.int .i64 0, .int .i64 0, .int .i64 0, .slice none 0 0] 24)
  have HXB := hid hxb
  have HXR := hid hxr
  have HBX := hid hbx
  rw [hn] at hl1 hl8 ⊢
  clear hxb hxr hbx
  go_enter Try.func61, Try.ntmps61
  go_upto_region 1 with fail
  obtain ⟨X, hX⟩ : ∃ X, (W.alloc (.cells #[.int .i64 (w : Int), .int .i64 (h : Int)] 77)).alloc (.cells #[.int .i64 0, .int .i64 0, .int .i64 0, .slice none 0 0] 24) = X := ⟨_, rfl⟩
  rw [hX] at HXB HXR HBX ⊢
  have HE := hid (fun Y (hb : Below X.heap.size X Y) => HE.out Y (HBX.out.trans (hb.mono HBX.out.size)))
  rw [hn] at HE
  clear hX
  have hS0 : Box X.drew W.heap.size 77 #[.int .i64 (w : Int), .int .i64 (h : Int)] := HXB.out.drew
  refine wp_region_S (fun _ w' => Box w' W.heap.size 77 #[.int .i64 (w : Int), .int .i64 (h : Int)]) (by kernel_rfl) ?_
  refine takeC (i := 0) (v := ?v0p) 6 rfl rfl (by kernel_rfl) (by kernel_rfl) (by kernel_rfl) (by kernel_rfl) (fun _ _ _ h => h) (Or.inl ⟨by rfl, fun w' hw' => ?hy0p⟩) hS0 ?rest0p
  case hy0p => go_simp; try with_reducible rfl
  try simp only [Act.put, List.setIfInBounds_toArray, List.set_cons_zero, List.set_cons_succ]
  refine takeC (i := 1) (v := ?v1p) 7 rfl rfl (by kernel_rfl) (by kernel_rfl) (by kernel_rfl) (by kernel_rfl) (fun _ _ _ h => h) (Or.inl ⟨by rfl, fun w' hw' => ?hy1p⟩) hS0 ?rest1p
  case hy1p => have a0 := hw'.two.1.2; go_simp; try with_reducible rfl
  try simp only [Act.put, List.setIfInBounds_toArray, List.set_cons_zero, List.set_cons_succ]
  refine takeC (i := 2) (v := ?v2p) 8 rfl rfl (by kernel_rfl) (by kernel_rfl) (by kernel_rfl) (by kernel_rfl) (fun _ _ _ h => h) (Or.inl ⟨by rfl, fun w' hw' => ?hy2p⟩) hS0 ?rest2p
  case hy2p => go_simp; try with_reducible rfl
  try simp only [Act.put, List.setIfInBounds_toArray, List.set_cons_zero, List.set_cons_succ]
  refine oneS (k := 3) (by kernel_rfl) rfl (by rfl) (fun K hK => ?_)
  go_simp
  go_at_call 73
  refine (HE.out _ (below_drew X 1)).mono ?_
  rintro e w9 ⟨u, rfl, hown, hb9⟩
  dsimp only
  obtain ⟨uA, uc, hu⟩ := hown.spell
  rw [HLN.out] at hu
  subst hu
  have hb9 : Below X.heap.size X w9 := (below_drew X 1).trans hb9
  have hS1 := HXB.out.below hb9 HXB.out.lt
  refine hK _ _ hS1 ?_
  clear hK K
  try simp only [Act.put, List.setIfInBounds_toArray, List.set_cons_zero, List.set_cons_succ]
  clear hS0
  have hS0 := hS1
  clear hS1
  refine oneS (k := 4) (by kernel_rfl) rfl (by rfl) (fun K hK => ?_)
  go_simp
  go_at_call 72
  refine (shared_any 2 h _ (leaves0 ps) X.heap.size 0 w9 hown hb9.size (Nat.zero_le _) (by rw [HLN.out]; exact hl1) (by rw [HLN.out]; exact hl8) h1 h80).mono ?_
  rintro e w10 ⟨hp, _⟩
  obtain ⟨hb10, t, kA, kn, kc, err, rfl, ht, hcase⟩ := hp.one
  dsimp only
  have hbX : Below X.heap.size X w10 := hb9.trans hb10
  have hS1 := HXB.out.below hbX HXB.out.lt
  have hr := HXR.out.below hbX HXR.out.lt
  obtain ⟨⟨c0, c1, c2, c3⟩, f0, f1, f2, f3⟩ := hr.four
  refine hK _ _ hS1 ?_
  clear hK K
  try simp only [Act.put, List.setIfInBounds_toArray, List.set_cons_zero, List.set_cons_succ]
  clear hS0 hown
  have hS0 := hS1
  clear hS1
  refine takeC (i := 5) (v := ?v5p) 11 rfl rfl (by kernel_rfl) (by kernel_rfl) (by kernel_rfl) (by kernel_rfl) (fun _ _ _ h => h) (Or.inl ⟨by rfl, fun w' hw' => ?hy5p⟩) hS0 ?rest5p
  case hy5p => go_simp; try with_reducible rfl
  try simp only [Act.put, List.setIfInBounds_toArray, List.set_cons_zero, List.set_cons_succ]
  refine takeC (i := 6) (v := ?v6p) 12 rfl rfl (by kernel_rfl) (by kernel_rfl) (by kernel_rfl) (by kernel_rfl) (fun _ _ _ h => h) (Or.inl ⟨by rfl, fun w' hw' => ?hy6p⟩) hS0 ?rest6p
  case hy6p => go_simp; try with_reducible rfl
  try simp only [Act.put, List.setIfInBounds_toArray, List.set_cons_zero, List.set_cons_succ]
  refine oneS (k := 7) (by kernel_rfl) rfl (by rfl) (fun K hK => ?_)
  go_simp
  have hS1 : Box ((((w10.setCell ⟨W.heap.size + 1, 0, none⟩ (.int .i64 t.kind)).setCell ⟨W.heap.size + 1, 1, none⟩ (.int .i64 t.pane)).setCell ⟨W.heap.size + 1, 2, none⟩ (.int .i64 t.size)).setCell ⟨W.heap.size + 1, 3, none⟩ (.slice kA kn kc)) W.heap.size 77 #[.int .i64 (w : Int), .int .i64 (h : Int)] := (((hS0.other (by omega) _).other (by omega) _).other (by omega) _).other (by omega) _
  refine hK _ _ hS1 ?_
  clear hK K
  try simp only [Act.put, List.setIfInBounds_toArray, List.set_cons_zero, List.set_cons_succ]
  clear hS0
  have hS0 := hS1
  clear hS1
  refine takeC (i := 8) (v := ?v8p) 5 rfl rfl (by kernel_rfl) (by kernel_rfl) (by kernel_rfl) (by kernel_rfl) (fun _ _ _ h => h) (Or.inl ⟨by rfl, fun w' hw' => ?hy8p⟩) hS0 ?rest8p
  case hy8p => go_simp; try with_reducible rfl
  try simp only [Act.put, List.setIfInBounds_toArray, List.set_cons_zero, List.set_cons_succ]
  refine doneS (by kernel_rfl) ?_ _
  go_wp2_with fail
  have hz := four_cells hr rfl (.int .i64 t.kind) (.int .i64 t.pane) (.int .i64 t.size) (.slice kA kn kc)
  have d0 := hz.cell 0
  have d1 := hz.cell 1
  have d2 := hz.cell 2
  have d3 := hz.cell 3
  have hbW := HBX.out.trans (hbX.mono (Nat.le_trans (Nat.le_succ _) (Nat.le_of_lt HXR.out.lt)))
  have hbZ := below_set (below_set (below_set (below_set hbW (Nat.le_succ _) (i := 0) (.int .i64 t.kind)) (Nat.le_succ _) (i := 1) (.int .i64 t.pane)) (Nat.le_succ _) (i := 2) (.int .i64 t.size)) (Nat.le_succ _) (i := 3) (.slice kA kn kc)
  have hxl := HXR.out.lt
  exact bodyPost_ret (v := .tuple #[.agg #[.int .i64 t.kind, .int .i64 t.pane, .int .i64 t.size, .slice kA kn kc], .int .i64 err]) (by simp [results, Try.f61, go_sem, d0, d1, d2, d3]) rfl (LayP.of hbZ (ht.into (four_into (Nat.le_refl _) (fun c h1 _ => by omega) W.heap.size (by omega))) (by rw [← HLV.out]; exact hcase))
end Go.Proofs.Ytglfolbimafcaaa
