/- The reference of layer 4: a look behind what is asked. -/
import Derived.Test.YtlcahkbbefcjnaaCellO
import Derived.Test.YtlcahkbbefcjnaaIRow
namespace Go.Proofs.Ytlcahkbbefcjnaa
open Go.RowKit


set_option maxRecDepth 100000 in
set_option maxHeartbeats 400000 in
theorem rChange_nil (a : At) (v : Value) (w : World) (hr : IRow w v []) :
    Calls Try.prog 10 #[a.agg, v] w fun e w' => e = .returned (At.agg ⟨0, 0, 0⟩) ∧ Below w.heap.size w w' := by
  obtain ⟨A, c, rfl, _⟩ := hr
  obtain ⟨fg, bg, fl⟩ := a
  unfold At.agg
  go_enter Try.func10, Try.ntmps10
  go_wp2
  exact bodyPost_ret (v := .agg #[.int .i64 0, .int .i64 0, .int .i64 0]) (by simp [results, Try.results10, go_sem]) rfl ⟨rfl, by first | exact (below_alloc _ _).alloc (by simp) _ | exact ((((below_alloc _ _).alloc (by simp) _).setCell (by simp) _).setCell (by simp) _).setCell (by simp) _⟩

set_option maxRecDepth 100000 in
set_option maxHeartbeats 1000000 in
theorem rChange_loop (a : At) (v : Value) (l : List Int) (w : World) (hl : lookB a = true) (hr : IRow w v l) (hn : l ≠ []) (hm : l.length ≤ 1000000) :
    Calls Try.prog 10 #[a.agg, v] w fun e w' => e = .returned (chgG a l).agg ∧ Below w.heap.size w w' := by
  obtain ⟨A, c, rfl, hA⟩ := hr
  obtain ⟨ad, rfl, had, hcell⟩ := hA hn
  have hpos : 0 < l.length := List.length_pos_iff.2 hn
  have hne : ((l.length : Int) == 0) = false := by simp; omega
  obtain ⟨fg, bg, fl⟩ := a
  have hstart : Box ((w.alloc (.cells #[.int .i64 fg, .int .i64 bg, .int .i64 fl] 23)).alloc (.cells #[.int .i64 0, .int .i64 0, .int .i64 0] 23)) w.heap.size 23 (At.cells ⟨fg, bg, fl⟩) := (Box.new w 23 #[.int .i64 fg, .int .i64 bg, .int .i64 fl]).alloc _
  have hres := Box.new (w.alloc (.cells #[.int .i64 fg, .int .i64 bg, .int .i64 fl] 23)) 23 #[.int .i64 0, .int .i64 0, .int .i64 0]
  rw [World.size_alloc] at hres
  have hbel : Below w.heap.size w ((w.alloc (.cells #[.int .i64 fg, .int .i64 bg, .int .i64 fl] 23)).alloc (.cells #[.int .i64 0, .int .i64 0, .int .i64 0] 23)) := (below_alloc _ _).alloc (by simp) _
  show Calls Try.prog 10 #[.agg #[.int .i64 fg, .int .i64 bg, .int .i64 fl], _] w _
  have HL := hid hl
  have HC := hid hcell
  obtain ⟨m, hm'⟩ : ∃ m, l.length = m := ⟨_, rfl⟩
  rw [hm'] at hm hpos hne ⊢
  have HM := hid hm'
  clear hl hn hA hcell hm'
  go_enter Try.func10, Try.ntmps10
  go_wp2
  go_loopw [5] (fun i wr => ∃ (k : Nat) (B : At), k ≤ m ∧ i = .int .i64 k ∧ chgG ⟨fg, bg, fl⟩ l = chgG B (l.drop k) ∧ lookB B = true ∧ Box wr w.heap.size 23 B.cells ∧ Box wr (w.heap.size + 1) 23 #[.int .i64 0, .int .i64 0, .int .i64 0] ∧ Below w.heap.size w wr) (fun i _ => m - (intOf i).toNat)
  case atStart => exact ⟨0, ⟨fg, bg, fl⟩, by omega, rfl, rfl, HL.out, hstart, hres, hbel⟩
  case round =>
    clear hstart hres hbel
    obtain ⟨k, B, hk, rfl, hchg, hlook, hbox, hres, hbel⟩ := hrel
    have HCH := hid hchg
    have HLK := hid hlook
    clear hchg
    obtain ⟨bf, bb, bl⟩ := B
    have hbox' : Box wr w.heap.size 23 #[.int .i64 bf, .int .i64 bb, .int .i64 bl] := hbox
    obtain ⟨⟨c0, c1, c2⟩, f0, f1, f2⟩ := hbox'.three
    obtain ⟨⟨c3, c4, c5⟩, f3, f4, f5⟩ := hres.three
    have hRlt := hbox'.lt
    have hsz := hbel.size
    by_cases hkm : k < m
    · obtain ⟨n, hn⟩ : ∃ n, l[k]? = some n := ⟨_, List.getElem?_eq_getElem (by rw [HM.out]; exact hkm)⟩
      have hki : (k : Int) < m := by omega
      have x0 := (hbel.cell (p := ad.add k) (by rw [add_blk]; exact had)).trans (HC.out k n hn)
      have HN := hid hn
      clear hn
      by_cases hs : n = 38 ∨ n = 48
      · have hg : ((n != 38) = true → (n != 48) = false) := by rcases hs with rfl | rfl <;> decide
        by_cases h2 : m ≤ k + 2
        · have HR : Hid (chgG ⟨fg, bg, fl⟩ l = ⟨bf, bb, bl⟩) := by unfold Hid; rw [HCH.out]; exact chgG_short HN.out hs (by rw [HM.out]; exact h2)
          have h2' : (m : Int) ≤ (k : Int) + 2 := by omega
          rcases hs with rfl | rfl
          all_goals
            clear hg
            go_wp2
            exact bodyPost_ret (v := .agg #[.int .i64 bf, .int .i64 bb, .int .i64 bl]) (by simp [results, Try.results10, go_sem, c3, c4, c5]) rfl ⟨by rw [HR.out]; rfl, ((hbel.setCell (by simp) _).setCell (by simp) _).setCell (by simp) _⟩
        · obtain ⟨f, hf'⟩ : ∃ f, l[k + 1]? = some f := ⟨_, List.getElem?_eq_getElem (by rw [HM.out]; omega)⟩
          obtain ⟨x, hx'⟩ : ∃ x, l[k + 2]? = some x := ⟨_, List.getElem?_eq_getElem (by rw [HM.out]; omega)⟩
          have x1 : wr.cell? ⟨ad.block, ad.off + (k + 1), none⟩ = some (.int .i64 f) := (hbel.cell (p := ad.add (k + 1)) (by rw [add_blk]; exact had)).trans (HC.out (k + 1) f hf')
          have x2 : wr.cell? ⟨ad.block, ad.off + (k + 2), none⟩ = some (.int .i64 x) := (hbel.cell (p := ad.add (k + 2)) (by rw [add_blk]; exact had)).trans (HC.out (k + 2) x hx')
          have HF := hid hf'
          have HX := hid hx'
          have h2a : (k : Int) + 2 < m := by omega
          have h2b : (k : Int) + 1 < m := by omega
          have h2c : k + 2 < m := by omega
          have h2d : k + 1 < m := by omega
          have hdl : decide ((m : Int) ≤ (k : Int) + 2) = false := by simp; omega
          have hin := rIn_any x 0 255
          clear hf' hx' h2
          by_cases h5 : f = 5
          · by_cases hv : 0 ≤ x ∧ x ≤ 255
            · rw [inI_t hv] at hin
              have HS := hid (chgG_good (a := ⟨bf, bb, bl⟩) HN.out hs HF.out HX.out ⟨h5, hv⟩)
              obtain ⟨v0, v1⟩ := hv
              subst h5
              have hlk := HLK.out
              rw [look_iff] at hlk
              obtain ⟨⟨l0, l1⟩, ⟨l2, l3⟩, l4, l5⟩ := hlk
              simp only at l0 l1 l2 l3 l4 l5
              rcases hs with rfl | rfl
              · have HLK2 : Hid (lookB ⟨x + 1, bb, bl⟩ = true) := by unfold Hid; rw [look_iff]; simp only; omega
                rw [if_pos rfl] at HS
                clear hg l0 l1 l2 l3 l4 l5
                go_wp2_with (go_at_call 13; refine (hin _).mono ?_; rintro e w6 ⟨rfl, rfl⟩)
                go_roundw
                case rel =>
                  exact ⟨k + 3, ⟨x + 1, bb, bl⟩, by omega, by go_num, by rw [HCH.out, HS.out], HLK2.out, hbox'.set (i := 0) (.int .i64 (x + 1)), hres.other (b' := w.heap.size) (i := 0) (by omega) _, hbel.setCell (Nat.le_refl _) _⟩
                case measure => simp [intOf]; omega
              · have HLK2 : Hid (lookB ⟨bf, x + 1, bl⟩ = true) := by unfold Hid; rw [look_iff]; simp only; omega
                rw [if_neg (by omega)] at HS
                clear hg l0 l1 l2 l3 l4 l5
                go_wp2_with (go_at_call 13; refine (hin _).mono ?_; rintro e w6 ⟨rfl, rfl⟩)
                go_roundw
                case rel =>
                  exact ⟨k + 3, ⟨bf, x + 1, bl⟩, by omega, by go_num, by rw [HCH.out, HS.out], HLK2.out, hbox'.set (i := 1) (.int .i64 (x + 1)), hres.other (b' := w.heap.size) (i := 1) (by omega) _, hbel.setCell (Nat.le_refl _) _⟩
                case measure => simp [intOf]; omega
            · rw [inI_f hv] at hin
              have HR : Hid (chgG ⟨fg, bg, fl⟩ l = ⟨bf, bb, bl⟩) := by unfold Hid; rw [HCH.out]; exact chgG_bad HN.out hs HF.out HX.out (fun h => hv h.2)
              subst h5
              clear hv
              rcases hs with rfl | rfl
              all_goals
                clear hg
                go_wp2_with (go_at_call 13; refine (hin _).mono ?_; rintro e w6 ⟨rfl, rfl⟩)
                exact bodyPost_ret (v := .agg #[.int .i64 bf, .int .i64 bb, .int .i64 bl]) (by simp [results, Try.results10, go_sem, c3, c4, c5]) rfl ⟨by rw [HR.out]; rfl, ((hbel.setCell (by simp) _).setCell (by simp) _).setCell (by simp) _⟩
          · have HR : Hid (chgG ⟨fg, bg, fl⟩ l = ⟨bf, bb, bl⟩) := by unfold Hid; rw [HCH.out]; exact chgG_bad HN.out hs HF.out HX.out (fun h => h5 h.1)
            have h5' : (f != 5) = true := by simp [h5]
            clear h5
            rcases hs with rfl | rfl
            all_goals
              clear hg
              go_wp2_with fail
              exact bodyPost_ret (v := .agg #[.int .i64 bf, .int .i64 bb, .int .i64 bl]) (by simp [results, Try.results10, go_sem, c3, c4, c5]) rfl ⟨by rw [HR.out]; rfl, ((hbel.setCell (by simp) _).setCell (by simp) _).setCell (by simp) _⟩
      · have h38 : ¬ n = 38 := fun e => hs (.inl e)
        have h48 : ¬ n = 48 := fun e => hs (.inr e)
        have g38 : (n != 38) = true := by simp [h38]
        have g48 : (n != 48) = true := by simp [h48]
        have HS := hid (chgG_one (a := ⟨bf, bb, bl⟩) HN.out h38 h48)
        have hone := fun W => rOne_any ⟨bf, bb, bl⟩ n W HLK.out
        have HLK2 := hid (oneG_look HLK.out n)
        generalize oneG ⟨bf, bb, bl⟩ n = N at *
        obtain ⟨nf, nb, nl⟩ := N
        unfold At.agg at hone
        clear hs h38 h48
        go_wp2_with (go_at_call 15; refine (hone _).mono ?_; rintro e w6 ⟨rfl, hb⟩; obtain ⟨hc, hf⟩ := bcell hb)
        go_roundw
        case rel =>
          have d0 := (((hbox'.below hb hRlt).set (i := 0) (.int .i64 nf)).set (i := 1) (.int .i64 nb)).set (i := 2) (.int .i64 nl)
          have d1 := (((hres.below hb hres.lt).other (b' := w.heap.size) (i := 0) (by omega) (.int .i64 nf)).other (b' := w.heap.size) (i := 1) (by omega) (.int .i64 nb)).other (b' := w.heap.size) (i := 2) (by omega) (.int .i64 nl)
          exact ⟨k + 1, ⟨nf, nb, nl⟩, by omega, by go_num, by rw [HCH.out, HS.out], HLK2.out, d0, d1, (((hbel.trans (hb.mono hsz)).setCell (Nat.le_refl _) _).setCell (Nat.le_refl _) _).setCell (Nat.le_refl _) _⟩
        case measure => simp [intOf]; omega
    · have HR : Hid (chgG ⟨fg, bg, fl⟩ l = ⟨bf, bb, bl⟩) := by unfold Hid; rw [HCH.out]; exact chgG_nil (by rw [HM.out]; omega)
      go_wp2
      exact bodyPost_ret (v := .agg #[.int .i64 bf, .int .i64 bb, .int .i64 bl]) (by simp [results, Try.results10, go_sem, c3, c4, c5]) rfl ⟨by rw [HR.out]; rfl, ((hbel.setCell (by simp) _).setCell (by simp) _).setCell (by simp) _⟩

theorem rChange_any (a : At) (v : Value) (l : List Int) (w : World) (hl : lookB a = true) (hr : IRow w v l) (hm : l.length ≤ 1000000) :
    Calls Try.prog 10 #[a.agg, v] w fun e w' => e = .returned (changeG a l).agg ∧ Below w.heap.size w w' := by
  unfold changeG
  by_cases h : l = []
  · subst h
    rw [if_pos rfl]
    exact rChange_nil a v w hr
  · rw [if_neg h]
    exact rChange_loop a v l w hl hr h hm
end Go.Proofs.Ytlcahkbbefcjnaa
