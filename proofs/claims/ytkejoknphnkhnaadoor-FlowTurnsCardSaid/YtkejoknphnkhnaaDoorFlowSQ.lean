/- Layer 8, the package: said. -/
import Derived.Test.YtkejoknphnkhnaaDoorFlowEQ
import Derived.Test.YtkejoknphnkhnaaDoorFlowGQ
import Derived.Test.YtkejoknphnkhnaaDoorBldQ
import Derived.Test.YtkejoknphnkhnaaDoorBldSQ
namespace Go.Proofs.YtkejoknphnkhnaaDoor
open Go.RowKit Go.Shelf
attribute [local go_sem] Oper.semAt_some

def textOf {w0 : World} (pre : List (Sg w0)) : ByteArray := catB (pre.map fun x => sayT x.val.1)
theorem textOf_snoc {w0 : World} (pre : List (Sg w0)) (x : Sg w0) : textOf (pre ++ [x]) = textOf pre ++ sayT x.val.1 := by
  unfold textOf
  rw [List.map_append, List.map_singleton, catB_snoc]
theorem sayT_size {w0 : World} (x : Sg w0) : (sayT x.val.1).size ≤ 1000 := by
  have h := x.property.2.2
  unfold sayT
  split
  · exact Nat.zero_le _
  · rename_i c r e
    split
    · show 1 ≤ 1000; omega
    · exact h c (by rw [e]; simp)
theorem textOf_size {w0 : World} (pre : List (Sg w0)) : (textOf pre).size ≤ pre.length * 1000 :=
  snoc_ind (P := fun pre => (textOf pre).size ≤ pre.length * 1000) (Nat.zero_le _) (fun l c ih => by
    have := sayT_size c
    rw [textOf_snoc, ByteArray.size_append, List.length_append, List.length_singleton]
    omega) pre
theorem textOf_all {w0 : World} {ys : List (Sg w0)} {row : List Ce} (h : ys.map (·.val.1) = segs row) : textOf ys = sayP row := by
  unfold textOf sayP
  rw [← h, List.map_map]
  rfl
theorem strCells_append (a b : ByteArray) : Lib.strCells (a ++ b) = Lib.strCells a ++ Lib.strCells b := by
  unfold Lib.strCells
  rw [ByteArray.data_append, Array.toList_append, List.map_append]
theorem builder_own {β : Type} (B b : Nat) (f : β → List Value) : Own (fun (s : β) W => Lib.IsBuilder 102 5 B b (f s) W) := by
  have key : ∀ (p : Value) (bs : List Value) (X Y : World) (row : Option Nat), Lib.BuilderAt 102 5 B b p bs X → X.grownBy Y row → (∀ r, row = some r → ∃ o : Obj, X.heap[r]? = some o ∧ o.isCells = false) → Lib.BuilderAt 102 5 B b p bs Y := by
    rintro p bs X Y row ⟨hB, v, hb, hown, hne⟩ hg hr
    refine ⟨hB, v, (hg.block b (Array.getElem?_eq_some_iff.1 hb).1 fun e => ?_).trans hb, hown.kept hg ?_, hne⟩
    · obtain ⟨o, ho, hc⟩ := hr b e.symm
      rw [hb] at ho
      cases ho
      cases hc
    · rcases hown.2 with ⟨rfl, _⟩ | ⟨g, cap, cur, rfl, _, hgb, _⟩
      · exact .inl rfl
      · refine .inr fun e => ?_
        obtain ⟨o, ho, hc⟩ := hr g e.symm
        rw [hgb] at ho
        cases ho
        cases hc
  intro s X Y row hs hg hr
  rcases hs with hs | hs
  · exact .inl (key _ _ X Y row hs hg hr)
  · exact .inr (key _ _ X Y row hs hg hr)

set_option maxRecDepth 100000 in
set_option maxHeartbeats 4000000 in
theorem said_any (v : Value) (row : List Ce) (w : World) (hr : CeRow w v row) (hok : okR row = true) (htx : ∀ c ∈ row, c.tx.size ≤ 1000) (hs : row.length ≤ 100000) :
    Calls Tryd.prog 57 #[v] w fun e w' => e = .returned (.string (sayP row)) ∧ Below w.heap.size w w' := by
  obtain ⟨vA, vc, rfl⟩ := hr.spell
  obtain ⟨N, hN⟩ : ∃ N, row.length = N := ⟨_, rfl⟩
  rw [hN] at hr ⊢
  refine (callsIn_wide (n := 3)).1 (callsIn_of_wp_marks Tryd.func57 rfl trivial ?_ rfl)
  simp only [Tryd.ntmps57, List.size_toArray, List.length_cons, List.length_nil, Nat.reduceAdd, Nat.reduceSub, Array.replicate_succ, Array.replicate_zero, List.push_toArray, List.append_toArray, List.nil_append, List.cons_append]
  gi_wp2_with ((try refine ⟨trivial, ?_⟩); (gi_at_call 81; refine (callsIn_wide.2 (each_any _ _ _ _)).mono ?_; rintro e w3 ⟨rfl, rfl⟩))
  have hbd : Lib.IsBuilder 102 5 w.heap.size w.heap.size [] (w.alloc (.cells #[.pointer none, .slice none 0 0] 102)) := Lib.fresh_isBuilder _ _ _
  have hbd2 := builder_own (β := Unit) w.heap.size w.heap.size (fun _ => []) () _ _ none hbd (World.grownBy_alloc (w.alloc (.cells #[.pointer none, .slice none 0 0] 102)) (.cells #[.slice vA N vc] 52) none) (fun r e => by cases e)
  have hbx := Boxed.new (w.alloc (.cells #[.pointer none, .slice none 0 0] 102)) 52 (.slice vA N vc)
  simp only [World.size_alloc] at hbx
  have hB0 : Below w.heap.size w ((w.alloc (.cells #[.pointer none, .slice none 0 0] 102)).alloc (.cells #[.slice vA N vc] 52)) := (below_alloc _ _).alloc (by simp) _
  have hsz0 : ((w.alloc (.cells #[.pointer none, .slice none 0 0] 102)).alloc (.cells #[.slice vA N vc] 52)).heap.size = w.heap.size + 1 + 1 := by simp
  generalize ((w.alloc (.cells #[.pointer none, .slice none 0 0] 102)).alloc (.cells #[.slice vA N vc] 52)) = W0 at *
  clear hbd
  refine wpIn_rangeFunc_ownH (by rfl) (by omega) (gf := 94) (lb := #[.pointer (some ⟨w.heap.size + 1, 0, none⟩)]) rfl trivial (enters_of Tryd.func94 (by kernel_rfl) rfl)
    (letters_stops 2 (by omega) (w.heap.size + 1) row (.slice vA N vc) w W0 hr hok htx hs hB0 (by omega) hbx.cell) (fun h k => h.trans k) (fun W l o o' hl h hc hw => belowK_b (n₀ := w.heap.size) (w := W0) hB0.size W l o o' hl h hc hw) (Below.refl _ _) (fun _ => rfl)
    (fun pre W => Lib.IsBuilder 102 5 w.heap.size w.heap.size (Lib.strCells (textOf pre)) W ∧ Below w.heap.size w W)
    (fun _ _ _ => False)
    (OwnFrom.and (Own.from (builder_own _ _ _) _) (ownFrom_below (Nat.le_refl _) (by omega)))
    (fun _ _ _ _ _ hs _ _ => hs.elim)
    ⟨hbd2, hB0⟩
    (fun x a' W => a' = { tmps := #[.slice vA N vc, undef, .string ⟨#[]⟩, .pointer (some ⟨w.heap.size, 0, none⟩), x.val.2, .slice vA N vc, .func (.func 94) #[] #[.pointer (some ⟨w.heap.size + 1, 0, none⟩)], x.val.2, undef, undef, undef, undef, undef, undef, undef, undef], defers := [] })
    (fun x a' _ X Y row hs hg hr => hs)
    ?assign ?body ?done ?stop
  case assign =>
    rintro l pre x W K ⟨hb1, hB1⟩ hK
    gi_wp2
    exact hK _ _ (KeepsFrom.refl _ _) (Below.refl _ _) ⟨hb1, hB1⟩ rfl
  case body =>
    rintro l pre x a' W hl ⟨r, hr2⟩ ⟨hb1, hB1⟩ rfl hlt
    have hsg := x.property.1
    have hct := x.property.2.1
    have htt := x.property.2.2
    have HSN := hid (textOf_snoc pre x)
    obtain ⟨t, ht⟩ : ∃ t, x.val.1 = t := ⟨_, rfl⟩
    rw [ht] at hsg hct htt HSN
    have hne : t ≠ [] := by rintro rfl; have := hsg.len; simp at this
    obtain ⟨tA, tc, hxv⟩ := hct.spell
    obtain ⟨tl, htl⟩ : ∃ tl, t.length = tl := ⟨_, rfl⟩
    rw [htl] at hxv
    rw [hxv] at hct
    have htp : 0 < tl := by rw [← htl]; exact List.length_pos_iff.2 hne
    obtain ⟨g, o, c, rfl, hg, hx, hcell⟩ := row_cells hct htl 0 htp
    obtain ⟨q, rfl⟩ : ∃ q, t = c :: q := by
      cases t with
      | nil => exact absurd rfl hne
      | cons c' q => simp at hx; exact ⟨q, by rw [hx]⟩
    obtain ⟨p0, _⟩ := ccells (W := W) (g := g) (o := o + 0 * 5) (e := c) (fun i u hu => hcell _ hB1 i u hu)
    rw [Nat.zero_mul, Nat.add_zero] at p0
    have hsay : sayT (c :: q) = orB c.tx := rfl
    have htz : c.tx.size ≤ 1000 := htt c (by simp)
    have hti : (0 : Int) < tl := by omega
    rw [hxv]
    have hszt := textOf_size pre
    have hors : (orB c.tx).size ≤ 1000 := by unfold orB; split; exact (by decide : (1 : Nat) ≤ 1000); exact htz
    have hpN : pre.length ≤ 100000 := by omega
    have hbb := builder_own (β := Unit) w.heap.size w.heap.size (fun _ => Lib.strCells (textOf pre)) () _ _ none hb1 (World.grownBy_alloc W (.cells #[.string c.tx, .string ⟨#[32]⟩] 9) none) (fun r e => by cases e)
    have hws := writeString_any w.heap.size w.heap.size _ (orB c.tx) (W.alloc (.cells #[.string c.tx, .string ⟨#[32]⟩] 9)) hbb (by rw [Lib.strCells_length]; omega) (by have := hB1.size; simp; omega)
    have hor := cmpOr_any c.tx W.heap.size (W.alloc (.cells #[.string c.tx, .string ⟨#[32]⟩] 9)) (cell_of_row _ _ 0 _ _ _ (heap_alloc_new W _)) (cell_of_row _ _ 1 _ _ _ (heap_alloc_new W _))
    have HWS := hid hws
    have HOR := hid hor
    clear hws hor hbb hx hcell hne hct hsg htt ht hxv htl
    gi_wp2_with ((try refine ⟨trivial, ?_⟩); first | (gi_at_call 83; refine (callsIn_wide.2 HOR.out).mono ?_; rintro e w4 ⟨rfl, rfl⟩) | (gi_at_call 82; refine (callsIn_wide.2 HWS.out).mono ?_; rintro e w5 ⟨rfl, hb5, hB5, hK5⟩))
    refine ⟨((KeepsOthers.alloc _ _).trans hK5).from _, ?_, ?_, ?_⟩
    · exact ((Below.refl _ W).alloc hB1.size _).trans hB5
    · rw [HSN.out, hsay, strCells_append]; exact .inr hb5
    · exact (hB1.alloc hB1.size _).trans hB5
  case done =>
    rintro D ys W hD hys ⟨hb1, hB1⟩ hK
    have ht := textOf_all hys
    rw [ht] at hb1
    have hst := string_any w.heap.size w.heap.size (sayP row).data.toList W hb1 hB1.size
    have hsp : (⟨(sayP row).data.toList.toArray⟩ : ByteArray) = sayP row := rfl
    rw [hsp] at hst
    have HST := hid hst
    clear hst ht hb1 hys hsp
    gi_wp2_with ((try refine ⟨trivial, ?_⟩); (gi_at_call 84; refine (callsIn_wide.2 HST.out).mono ?_; rintro e w4 ⟨rfl, hB4, hO4⟩))
    have hK4 := hO4 D _ hK (by intro e; cases e; omega) (by intro cs fz hh; cases hh)
    refine ⟨by simp, .inl ⟨_, _, rfl, run_takeDeferred hK4, ?_⟩⟩
    exact ⟨.string (sayP row), by simp [results, Tryd.f57, go_sem], rfl, (hB1.trans hB4).trans (belowK_b (w := w) (Nat.le_refl _) _ D _ _ (by omega) hK4 rfl rfl)⟩
  case stop =>
    rintro D c pre W hD _ h _
    exact h.elim
end Go.Proofs.YtkejoknphnkhnaaDoor
