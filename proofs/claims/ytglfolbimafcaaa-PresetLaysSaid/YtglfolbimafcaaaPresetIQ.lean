/- Layer 12, the package: firstLeft, firstAbove. Made by wip/gen/presetMain.py. -/
import Derived.Test.YtglfolbimafcaaaPresetHQ
import Derived.Test.YtglfolbimafcaaaHeldSQ
namespace Go.Proofs.Ytglfolbimafcaaa
open Go.RowKit

theorem box_two {W : World} {b : Nat} {t : TypeId} {x y : Value} (h : Box W b t #[x, y]) : W.cell? ⟨b, 0, none⟩ = some x ∧ W.cell? ⟨b, 1, none⟩ = some y := h.two.1
theorem main_firstLeft (w h : Nat) (v : Value) (ps : List Int) (W : World) (hv : NRow W v ps) (hl1 : 1 ≤ ps.length) (hl8 : ps.length ≤ 8) (w1 : 1 ≤ w) (w80 : w ≤ 80) (h1 : 1 ≤ h) (h80 : h ≤ 80) :
    Calls Try.prog 74 #[.int .i64 1, .int .i64 w, v, .func (.func 61) #[.agg #[.int .i64 (w : Int), .int .i64 (h : Int)]] #[]] W (LayP W W.heap.size (mainT 1 w ps (lineT 2 h))) := by
  match ps, hl1, hv with
  | p :: r, _, hv =>
    by_cases hr : r = []
    · subst hr
      exact halved_one 1 w v p _ W hv
    · have e : mainT 1 w (p :: r) (lineT 2 h) = halvedT 1 w p (lineT 2 h r) := by unfold mainT; simp only; rw [if_neg hr]
      rw [e]
      simp only [List.length_cons] at hl8
      exact halved_pile 1 w v p r _ _ W hv (List.length_pos_iff.2 hr) (by omega) w1 w80 fun X v' _ hn => pile_any w h v' r X hn (List.length_pos_iff.2 hr) (by omega) h1 h80
set_option maxRecDepth 100000 in
set_option maxHeartbeats 4000000 in
theorem firstLeft_any (w h : Nat) (v : Value) (ps : List Int) (W : World) (hv : NRow W v ps) (hl1 : 1 ≤ ps.length) (hl8 : ps.length ≤ 8) (w1 : 1 ≤ w) (w80 : w ≤ 80) (h1 : 1 ≤ h) (h80 : h ≤ 80) :
    Calls Try.prog 62 #[.agg #[.int .i64 (w : Int), .int .i64 (h : Int)], v] W (LayP W W.heap.size (mainT 1 w ps (lineT 2 h))) := by
  have HC := hid (fun X (hb : Below W.heap.size W X) => main_firstLeft w h v ps X (hv.below hb) hl1 hl8 w1 w80 h1 h80)
  obtain ⟨vA, vc, rfl, _⟩ := hv
  obtain ⟨n, hn⟩ : ∃ n, ps.length = n := ⟨_, rfl⟩
  have hq := (Box.new W 77 #[.int .i64 (w : Int), .int .i64 (h : Int)]).two.1
  have hxb := (Box.new W 77 #[.int .i64 (w : Int), .int .i64 (h : Int)]).alloc (.cells #[.int .i64 0, .int .i64 0, .int .i64 0, .slice none 0 0] 24)
  have hxr := Box.new (W.alloc (.cells #[.int .i64 (w : Int), .int .i64 (h : Int)] 77)) 24 #[.int .i64 0, .int .i64 0, .int .i64 0, .slice none 0 0]
  rw [World.size_alloc] at hxr
  have hbx := (below_alloc W (.cells #[.int .i64 (w : Int), .int .i64 (h : Int)] 77)).alloc (by simp) (.cells #[.int .i64 0, .int .i64 0, .int .i64 0, .slice none 0 0] 24)
  have HXB := hid hxb
  have HXR := hid hxr
  have HBX := hid hbx
  rw [hn] at HC ⊢
  clear hxb hxr hbx hn hl1 hl8
  go_enter Try.func62, Try.ntmps62
  go_wp2_with ((with_reducible refine (HC.out _ HBX.out).mono ?_); rintro e w10 hp; obtain ⟨hbX, t, kA, kn, kc, err, rfl, ht, hcase⟩ := hp.one; have hr := HXR.out.below hbX HXR.out.lt; obtain ⟨⟨c0, c1, c2, c3⟩, f0, f1, f2, f3⟩ := hr.four; have hlt := hr.lt)
  have hz := four_cells hr rfl (.int .i64 t.kind) (.int .i64 t.pane) (.int .i64 t.size) (.slice kA kn kc)
  have d0 := hz.cell 0
  have d1 := hz.cell 1
  have d2 := hz.cell 2
  have d3 := hz.cell 3
  have hbW := HBX.out.trans (hbX.mono (Nat.le_trans (Nat.le_succ _) (Nat.le_of_lt HXR.out.lt)))
  have hbZ := below_set (below_set (below_set (below_set hbW (Nat.le_succ _) (i := 0) (.int .i64 t.kind)) (Nat.le_succ _) (i := 1) (.int .i64 t.pane)) (Nat.le_succ _) (i := 2) (.int .i64 t.size)) (Nat.le_succ _) (i := 3) (.slice kA kn kc)
  have hxl := HXR.out.lt
  have hts : ((W.alloc (.cells #[.int .i64 (w : Int), .int .i64 (h : Int)] 77)).alloc (.cells #[.int .i64 0, .int .i64 0, .int .i64 0, .slice none 0 0] 24)).heap.size = W.heap.size + 1 + 1 := by rw [World.size_alloc, World.size_alloc]
  rw [hts] at ht
  exact bodyPost_ret (v := .tuple #[.agg #[.int .i64 t.kind, .int .i64 t.pane, .int .i64 t.size, .slice kA kn kc], .int .i64 err]) (by simp [results, Try.f62, go_sem, d0, d1, d2, d3]) rfl (LayP.of hbZ (ht.into (four_into (Nat.le_refl _) (fun c h1 _ => by omega) W.heap.size (by omega))) hcase)
theorem main_firstAbove (w h : Nat) (v : Value) (ps : List Int) (W : World) (hv : NRow W v ps) (hl1 : 1 ≤ ps.length) (hl8 : ps.length ≤ 8) (w1 : 1 ≤ w) (w80 : w ≤ 80) (h1 : 1 ≤ h) (h80 : h ≤ 80) :
    Calls Try.prog 74 #[.int .i64 2, .int .i64 h, v, .func (.func 60) #[.agg #[.int .i64 (w : Int), .int .i64 (h : Int)]] #[]] W (LayP W W.heap.size (mainT 2 h ps (lineT 1 w))) := by
  match ps, hl1, hv with
  | p :: r, _, hv =>
    by_cases hr : r = []
    · subst hr
      exact halved_one 2 h v p _ W hv
    · have e : mainT 2 h (p :: r) (lineT 1 w) = halvedT 2 h p (lineT 1 w r) := by unfold mainT; simp only; rw [if_neg hr]
      rw [e]
      simp only [List.length_cons] at hl8
      exact halved_row 2 h v p r _ _ W hv (List.length_pos_iff.2 hr) (by omega) h1 h80 fun X v' _ hn => row_any w h v' r X hn (List.length_pos_iff.2 hr) (by omega) w1 w80
set_option maxRecDepth 100000 in
set_option maxHeartbeats 4000000 in
theorem firstAbove_any (w h : Nat) (v : Value) (ps : List Int) (W : World) (hv : NRow W v ps) (hl1 : 1 ≤ ps.length) (hl8 : ps.length ≤ 8) (w1 : 1 ≤ w) (w80 : w ≤ 80) (h1 : 1 ≤ h) (h80 : h ≤ 80) :
    Calls Try.prog 63 #[.agg #[.int .i64 (w : Int), .int .i64 (h : Int)], v] W (LayP W W.heap.size (mainT 2 h ps (lineT 1 w))) := by
  have HC := hid (fun X (hb : Below W.heap.size W X) => main_firstAbove w h v ps X (hv.below hb) hl1 hl8 w1 w80 h1 h80)
  obtain ⟨vA, vc, rfl, _⟩ := hv
  obtain ⟨n, hn⟩ : ∃ n, ps.length = n := ⟨_, rfl⟩
  have hq := (Box.new W 77 #[.int .i64 (w : Int), .int .i64 (h : Int)]).two.1
  have hxb := (Box.new W 77 #[.int .i64 (w : Int), .int .i64 (h : Int)]).alloc (.cells #[.int .i64 0, .int .i64 0, .int .i64 0, .slice none 0 0] 24)
  have hxr := Box.new (W.alloc (.cells #[.int .i64 (w : Int), .int .i64 (h : Int)] 77)) 24 #[.int .i64 0, .int .i64 0, .int .i64 0, .slice none 0 0]
  rw [World.size_alloc] at hxr
  have hbx := (below_alloc W (.cells #[.int .i64 (w : Int), .int .i64 (h : Int)] 77)).alloc (by simp) (.cells #[.int .i64 0, .int .i64 0, .int .i64 0, .slice none 0 0] 24)
  have HXB := hid hxb
  have HXR := hid hxr
  have HBX := hid hbx
  rw [hn] at HC ⊢
  clear hxb hxr hbx hn hl1 hl8
  go_enter Try.func63, Try.ntmps63
  go_wp2_with ((with_reducible refine (HC.out _ HBX.out).mono ?_); rintro e w10 hp; obtain ⟨hbX, t, kA, kn, kc, err, rfl, ht, hcase⟩ := hp.one; have hr := HXR.out.below hbX HXR.out.lt; obtain ⟨⟨c0, c1, c2, c3⟩, f0, f1, f2, f3⟩ := hr.four; have hlt := hr.lt)
  have hz := four_cells hr rfl (.int .i64 t.kind) (.int .i64 t.pane) (.int .i64 t.size) (.slice kA kn kc)
  have d0 := hz.cell 0
  have d1 := hz.cell 1
  have d2 := hz.cell 2
  have d3 := hz.cell 3
  have hbW := HBX.out.trans (hbX.mono (Nat.le_trans (Nat.le_succ _) (Nat.le_of_lt HXR.out.lt)))
  have hbZ := below_set (below_set (below_set (below_set hbW (Nat.le_succ _) (i := 0) (.int .i64 t.kind)) (Nat.le_succ _) (i := 1) (.int .i64 t.pane)) (Nat.le_succ _) (i := 2) (.int .i64 t.size)) (Nat.le_succ _) (i := 3) (.slice kA kn kc)
  have hxl := HXR.out.lt
  have hts : ((W.alloc (.cells #[.int .i64 (w : Int), .int .i64 (h : Int)] 77)).alloc (.cells #[.int .i64 0, .int .i64 0, .int .i64 0, .slice none 0 0] 24)).heap.size = W.heap.size + 1 + 1 := by rw [World.size_alloc, World.size_alloc]
  rw [hts] at ht
  exact bodyPost_ret (v := .tuple #[.agg #[.int .i64 t.kind, .int .i64 t.pane, .int .i64 t.size, .slice kA kn kc], .int .i64 err]) (by simp [results, Try.f63, go_sem, d0, d1, d2, d3]) rfl (LayP.of hbZ (ht.into (four_into (Nat.le_refl _) (fun c h1 _ => by omega) W.heap.size (by omega))) hcase)
end Go.Proofs.Ytglfolbimafcaaa
