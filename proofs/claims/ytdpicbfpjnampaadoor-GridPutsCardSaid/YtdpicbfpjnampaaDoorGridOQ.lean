/- Layer 6, the package: a line changed by a closure. -/
import Derived.Test.YtdpicbfpjnampaaDoorGridNQ
import Derived.Deep.RegionWith
namespace Go.Proofs.YtdpicbfpjnampaaDoor
open Go.RowKit

/-- What a closure does with a line that it is handed: the line lies in a box, its cells in a block of their own behind it. -/
def Chg (K : Nat) (caps : Array Value) (B : Nat) (w : World) (cs cs' : List Ce) (soft soft' : Bool) : Prop :=
  (∀ (args : Array Value) (W : World), Sem.run Tryd.prog (callFunc K args) W = .ok (.enter K args) W) ∧ ∀ (W : World) (b : Nat) (v : Value), Below B w W → B ≤ b → Box W b 57 #[v, .bool soft] → CSl W (b + 1) v cs →
    Calls Tryd.prog K (#[.pointer (some ⟨b, 0, none⟩)] ++ caps) W fun e w' => e = .returned (.tuple #[]) ∧ (∃ v', Box w' b 57 #[v', .bool soft'] ∧ CSl w' (b + 1) v' cs') ∧ Below b W w'

def ChgPost (W : World) (cols : Int) (lv : List (Ln × Value)) (ls : List Ln) (e : Ending) (w' : World) : Prop :=
  ∃ v lv', e = .returned (.agg #[.int .i64 cols, v]) ∧ lv'.map Prod.fst = ls ∧ LSl w' W.heap.size v lv' ∧ NewOf w' W.heap.size lv lv' ∧ Below W.heap.size W w'

set_option maxRecDepth 100000 in
set_option maxHeartbeats 1000000 in
theorem changed_any (cols : Int) (v : Value) (lv : List (Ln × Value)) (row : Nat) (K : Nat) (caps : Array Value) (W : World) (cs cs' : List Ce) (soft soft' : Bool) (lvl : Value)
    (hr : LR W v lv) (hc : CesOf W lv) (hs : Sm lv) (hx : lv[row]? = some (⟨cs, soft⟩, lvl)) (hch : Chg K caps W.heap.size W cs cs' soft soft') (hn' : cs'.length ≤ 1000) :
    Calls Tryd.prog 47 #[.agg #[.int .i64 cols, v], .int .i64 row, .func (.func K) #[] caps] W (ChgPost W cols lv ((lv.map Prod.fst).set row ⟨mendL 1 cs', soft'⟩)) := by
  obtain ⟨A, c0, rfl⟩ := hr.spell
  obtain ⟨hrow, _⟩ := List.getElem?_eq_some_iff.1 hx
  have hrow' : (row : Int) < lv.length := by omega
  have hlc := hc _ (List.mem_of_getElem? hx)
  obtain ⟨hs1, hs2⟩ := hs
  have hcl := (hs2 _ (List.mem_of_getElem? hx)).1
  obtain ⟨lA, lc, hlv⟩ : ∃ A c, lvl = .slice A cs.length c := hlc.spell
  subst hlv
  simp only at hlc hcl
  have HR := hid hr
  obtain ⟨A', c', hA', _, hcell⟩ := hr
  cases hA'
  obtain ⟨g, o, rfl, hg, hcell⟩ := hcell (by intro e; subst e; simp at hrow)
  obtain ⟨p0, p1⟩ := hcell row _ hx
  simp only at p0 p1
  have hG := ((Box.new W 24 #[.int .i64 cols, .slice (some ⟨g, o, none⟩) lv.length c0]).alloc (.cells #[.int .i64 0, .slice none 0 0] 24)).alloc (.cells #[.slice lA cs.length lc, .bool soft] 57)
  have hZ := (Box.new (W.alloc (.cells #[.int .i64 cols, .slice (some ⟨g, o, none⟩) lv.length c0] 24)) 24 #[.int .i64 0, .slice none 0 0]).alloc (.cells #[.slice lA cs.length lc, .bool soft] 57)
  have hL := Box.new ((W.alloc (.cells #[.int .i64 cols, .slice (some ⟨g, o, none⟩) lv.length c0] 24)).alloc (.cells #[.int .i64 0, .slice none 0 0] 24)) 57 #[.slice lA cs.length lc, .bool soft]
  have hb3 : Below W.heap.size W (((W.alloc (.cells #[.int .i64 cols, .slice (some ⟨g, o, none⟩) lv.length c0] 24)).alloc (.cells #[.int .i64 0, .slice none 0 0] 24)).alloc (.cells #[.slice lA cs.length lc, .bool soft] 57)) := ((below_alloc _ _).alloc (by simp) _).alloc (by simp <;> omega) _
  have hcn := cclone_any _ cs _ (hlc.below hb3) (by omega)
  have hsz : (((W.alloc (.cells #[.int .i64 cols, .slice (some ⟨g, o, none⟩) lv.length c0] 24)).alloc (.cells #[.int .i64 0, .slice none 0 0] 24)).alloc (.cells #[.slice lA cs.length lc, .bool soft] 57)).heap.size = W.heap.size + 3 := by simp
  simp only [World.size_alloc] at hZ hL
  have HG := hid hG
  have HZ := hid hZ
  have HL := hid hL
  have H3 := hid hb3
  have HS := hid hsz
  have HX := hid hx
  have HC := hid hc
  have HS2 := hid hs2
  clear hG hZ hL hb3 hsz hx hc hs2 hcell hlc hcl
  have hK := hch.1
  go_enter Tryd.func47, Tryd.ntmps47
  go_wp2_with fail
  with_reducible refine hcn.mono ?_
  rintro e w4 ⟨v2, rfl, hc4, hb4⟩
  dsimp only
  rw [HS.out] at hc4 hb4
  have g4 := HG.out.below hb4 (by omega)
  have z4 := HZ.out.below hb4 (by omega)
  have l4 := HL.out.below hb4 (by omega)
  have n4 := H3.out.trans (hb4.mono (by omega))
  have hz4 : W.heap.size + 3 ≤ w4.heap.size := by have := hb4.size; rw [HS.out] at this; exact this
  obtain ⟨A2, c2, rfl⟩ := hc4.spell
  have l5 := l4.set (i := 0) (.slice A2 cs.length c2)
  simp only [List.setIfInBounds_toArray, List.set_cons_zero] at l5
  have hcall := hch.2 (w4.setCell ⟨W.heap.size + 1 + 1, 0, none⟩ (.slice A2 cs.length c2)) (W.heap.size + 1 + 1) _ (n4.setCell (p := ⟨W.heap.size + 1 + 1, 0, none⟩) (by show W.heap.size ≤ W.heap.size + 1 + 1; omega) _) (by omega) l5 (hc4.set l4 (by decide) _)
  have HCALL := hid hcall
  have g5 := g4.other (b' := W.heap.size + 1 + 1) (i := 0) (by omega) (.slice A2 cs.length c2)
  have z5 := z4.other (b' := W.heap.size + 1 + 1) (i := 0) (by omega) (.slice A2 cs.length c2)
  have n5 := n4.setCell (p := ⟨W.heap.size + 1 + 1, 0, none⟩) (by show W.heap.size ≤ W.heap.size + 1 + 1; omega) (.slice A2 cs.length c2)
  have hz5 : W.heap.size + 3 ≤ (w4.setCell ⟨W.heap.size + 1 + 1, 0, none⟩ (.slice A2 cs.length c2)).heap.size := by rw [size_set]; exact hz4
  obtain ⟨⟨k0, k1⟩, f0, f1⟩ := l4.two
  have HG5 := hid g5
  have HZ5 := hid z5
  have H5 := hid n5
  have HZ5' := hid hz5
  clear hcall hch hb4 g4 z4 l4 n4 hz4 hc4 l5 g5 z5 n5 hz5
  go_wp2_with fail
  with_reducible refine HCALL.out.mono ?_
  rintro e w5 ⟨rfl, ⟨v5, l6, hc6⟩, hb6⟩
  dsimp only
  clear k0 k1 f0 f1 hK
  have g6 := HG5.out.below hb6 (by omega)
  have z6 := HZ5.out.below hb6 (by omega)
  have n6 := H5.out.trans (hb6.mono (by omega))
  have hz6 : W.heap.size + 1 + 1 + 1 ≤ w5.heap.size := Nat.le_trans HZ5'.out hb6.size
  have hmend := mend_any _ v5 cs' w5 hc6 (by omega) hz6
  obtain ⟨A5, c5, rfl⟩ := hc6.spell
  obtain ⟨⟨k0, k1⟩, f0, f1⟩ := l6.two
  obtain ⟨⟨q0, q1⟩, r0, r1⟩ := g6.two
  have HG6 := hid g6
  have HZ6 := hid z6
  have HL6 := hid l6
  have H6 := hid n6
  have HZ6' := hid hz6
  clear g6 z6 l6 n6 hz6 hb6 hc6
  go_wp2_with fail
  with_reducible refine hmend.mono ?_
  rintro e w7 ⟨rfl, hc7, hb7⟩
  dsimp only
  clear k0 k1 f0 f1 q0 q1 r0 r1 hmend
  have g7 := HG6.out.below hb7 (by omega)
  have z7 := HZ6.out.below hb7 (by omega)
  have l7 := HL6.out.below hb7 (by omega)
  have n7 := H6.out.trans (hb7.mono (by omega))
  have hz7 : W.heap.size + 1 + 1 + 1 ≤ w7.heap.size := Nat.le_trans HZ6'.out hb7.size
  have hlcl := lineclone_any _ lv w7 (HR.out.below n7) (HC.out.below n7) (by omega)
  obtain ⟨⟨q0, q1⟩, r0, r1⟩ := g7.two
  have HG7 := hid g7
  have HZ7 := hid z7
  have HL7 := hid l7
  have H7 := hid n7
  have HZ7' := hid hz7
  clear g7 z7 l7 n7 hz7 hb7
  go_wp2_with fail
  with_reducible refine hlcl.mono ?_
  rintro e w8 ⟨v8, rfl, hl8, hb8⟩
  dsimp only
  clear q0 q1 r0 r1 hlcl
  rcases hl8 with ⟨rfl, rfl⟩ | ⟨g8, cap8, rfl, hg8, hl8⟩
  · simp at hrow
  have g9 := HG7.out.below hb8 (by have := HZ7'.out; omega)
  have z9 := HZ7.out.below hb8 (by have := HZ7'.out; omega)
  have l9 := HL7.out.below hb8 (by have := HZ7'.out; omega)
  have hc9 := hc7.below hb8 (Nat.le_refl _)
  have n9 := H7.out.trans (hb8.mono H7.out.size)
  have hz9 := HZ7'.out
  have hg9 := hl8.lt
  obtain ⟨⟨q0, q1⟩, r0, r1⟩ := g9.two
  obtain ⟨⟨s0, s1⟩, t0, t1⟩ := l9.two
  obtain ⟨⟨m0, m1⟩, u0, u1⟩ := hl8.two HX.out
  simp only at m0 m1
  have HG9 := hid g9
  have HZ9 := hid z9
  have HL9 := hid l9
  have H9 := hid n9
  have HC9 := hid hc9
  have HB8 := hid hl8
  obtain ⟨⟨x0, x1⟩, y0, y1⟩ := z9.two
  clear g9 z9 l9 n9 hc9 hb8 hc7 hl8
  have ne1 : ¬ g8 = W.heap.size := by omega
  have ne2 : ¬ g8 = W.heap.size + 1 := by omega
  have ne3 : ¬ g8 = W.heap.size + 1 + 1 := by omega
  have ne4 : ¬ W.heap.size + 1 = g8 := by omega
  have ne5 : ¬ W.heap.size + 1 + 1 = g8 := by omega
  have e1 := HG9.out.set (i := 1) (.slice (some ⟨g8, 0, none⟩) lv.length cap8)
  have bA := HB8.out.only (Only.set (Only.refl W.heap.size w8) (i := 1) (.slice (some ⟨g8, 0, none⟩) lv.length cap8)) ne1
  have bB := bA.set2 hrow (⟨mendL 1 cs', soft'⟩, .slice A5 cs'.length c5)
  have bC := (bB.only (Only.set (Only.refl (W.heap.size + 1) _) (i := 0) (.int .i64 cols)) ne2).only (Only.set (Only.refl (W.heap.size + 1) _) (i := 1) (.slice (some ⟨g8, 0, none⟩) lv.length cap8)) ne2
  have HBC := hid bC
  obtain ⟨cA, hA, _⟩ := bA
  have c1 := HC9.out.set HG9.out (by decide) (i := 1) (.slice (some ⟨g8, 0, none⟩) lv.length cap8)
  have c2 := c1.set hA (by decide) (i := row * 2) (.slice A5 cs'.length c5)
  have c3 := c2.set (hA.set (i := row * 2) (.slice A5 cs'.length c5)) (by decide) (i := row * 2 + 1) (.bool soft')
  have zz := ((HZ9.out.other (b' := W.heap.size) (i := 1) (by omega) (.slice (some ⟨g8, 0, none⟩) lv.length cap8)).other (i := row * 2) ne4 (.slice A5 cs'.length c5)).other (i := row * 2 + 1) ne4 (.bool soft')
  have c4 := c3.set zz (by decide) (i := 0) (.int .i64 cols)
  have c6 := c4.set (zz.set (i := 0) (.int .i64 cols)) (by decide) (i := 1) (.slice (some ⟨g8, 0, none⟩) lv.length cap8)
  have H9' : Below W.heap.size W (((((w8.setCell ⟨W.heap.size, 1, none⟩ (.slice (some ⟨g8, 0, none⟩) lv.length cap8)).setCell ⟨g8, row * 2, none⟩ (.slice A5 cs'.length c5)).setCell ⟨g8, row * 2 + 1, none⟩ (.bool soft')).setCell ⟨W.heap.size + 1, 0, none⟩ (.int .i64 cols)).setCell ⟨W.heap.size + 1, 1, none⟩ (.slice (some ⟨g8, 0, none⟩) lv.length cap8)) :=
    ((((H9.out.setCell (p := ⟨W.heap.size, 1, none⟩) (Nat.le_refl _) _).setCell (p := ⟨g8, row * 2, none⟩) (by show W.heap.size ≤ g8; omega) _).setCell (p := ⟨g8, row * 2 + 1, none⟩) (by show W.heap.size ≤ g8; omega) _).setCell (p := ⟨W.heap.size + 1, 0, none⟩) (by show W.heap.size ≤ W.heap.size + 1; omega) _).setCell (p := ⟨W.heap.size + 1, 1, none⟩) (by show W.heap.size ≤ W.heap.size + 1; omega) _
  have HCC := hid c6
  have HEND := hid H9'
  clear e1 bB bC c1 c2 c3 c4 c6 zz hA H9'
  go_wp2
  refine bodyPost_ret (v := .agg #[.int .i64 cols, .slice (some ⟨g8, 0, none⟩) lv.length cap8]) (by simp [results, Tryd.results47, go_sem, x0, x1]) rfl ⟨_, lv.set row (⟨mendL 1 cs', soft'⟩, .slice A5 cs'.length c5), rfl, by rw [List.map_set], ?_, ?_, ?_⟩
  · exact .inr ⟨g8, cap8, by rw [List.length_set], by omega, HBC.out⟩
  · intro e he
    rcases List.mem_or_eq_of_mem_set he with h | rfl
    · exact .inl h
    · exact .inr (HCC.out.mono (by omega))
  · exact HEND.out
end Go.Proofs.YtdpicbfpjnampaaDoor
