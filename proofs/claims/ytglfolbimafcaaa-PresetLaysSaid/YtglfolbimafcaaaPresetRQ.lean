/- Layer 12, the reference: Line. Made by wip/gen/presetR.py. -/
import Derived.Test.YtglfolbimafcaaaPresetQQ
import Derived.Test.YtglfolbimafcaaaHeldGQ
namespace Go.Proofs.Ytglfolbimafcaaa
open Go.RowKit

/-- What the reference lays comes to: a tree, and whether there is room. -/
def RLay (W : World) (o : Option Tr) (e : Ending) (w' : World) : Prop :=
  Below W.heap.size W w' ∧ ∃ (t : Tr) (kA : Option Addr) (kn kc : Nat) (b : Bool), e = .returned (.agg #[.int .i64 t.kind, .int .i64 t.pane, .int .i64 t.size, .slice kA kn kc, .bool b]) ∧ TrB w' (fun c => W.heap.size ≤ c ∧ c < w'.heap.size) t (.slice kA kn kc) ∧ ((o = none ∧ b = false) ∨ (o = some t ∧ b = true))
theorem five_cells {W : World} {b : Nat} {t : TypeId} {cs : Array Value} (h : Box W b t cs) (hs : cs.size = 5) (x y z u v : Value) : Box (((((W.setCell ⟨b, 0, none⟩ x).setCell ⟨b, 1, none⟩ y).setCell ⟨b, 2, none⟩ z).setCell ⟨b, 3, none⟩ u).setCell ⟨b, 4, none⟩ v) b t #[x, y, z, u, v] := by
  obtain ⟨l⟩ := cs
  match l, hs, h with
  | [c0, c1, c2, c3, c4], _, h =>
    have := ((((h.set (i := 0) x).set (i := 1) y).set (i := 2) z).set (i := 3) u).set (i := 4) v
    simpa only [List.setIfInBounds_toArray, List.set_cons_zero, List.set_cons_succ] using this
theorem five_into {W : World} {b base T : Nat} {x y z u v : Value} (hT : T ≤ W.heap.size) (hb : ∀ c, base ≤ c → c < T → c ≠ b) (base' : Nat) (hbb : base' ≤ base) :
    Into W (((((W.setCell ⟨b, 0, none⟩ x).setCell ⟨b, 1, none⟩ y).setCell ⟨b, 2, none⟩ z).setCell ⟨b, 3, none⟩ u).setCell ⟨b, 4, none⟩ v) (fun c => base ≤ c ∧ c < T) (fun c => base' ≤ c ∧ c < (((((W.setCell ⟨b, 0, none⟩ x).setCell ⟨b, 1, none⟩ y).setCell ⟨b, 2, none⟩ z).setCell ⟨b, 3, none⟩ u).setCell ⟨b, 4, none⟩ v).heap.size) :=
  Into.block fun c ⟨c1, c2⟩ => ⟨⟨by omega, by simp only [size_set]; omega⟩, by
    have h := hb c c1 c2
    rw [Below.heap_setCell _ _ _ c (by exact h), Below.heap_setCell _ _ _ c (by exact h), Below.heap_setCell _ _ _ c (by exact h), Below.heap_setCell _ _ _ c (by exact h), Below.heap_setCell _ _ _ c (by exact h)]⟩
theorem below_set5 {W X : World} {b : Nat} {x y z u v : Value} (h : Below W.heap.size W X) (hb : W.heap.size ≤ b) : Below W.heap.size W (((((X.setCell ⟨b, 0, none⟩ x).setCell ⟨b, 1, none⟩ y).setCell ⟨b, 2, none⟩ z).setCell ⟨b, 3, none⟩ u).setCell ⟨b, 4, none⟩ v) :=
  below_set (below_set (below_set (below_set (below_set h hb _) hb _) hb _) hb _) hb _
set_option maxRecDepth 100000 in
set_option maxHeartbeats 4000000 in
theorem rline_one (v : Value) (p k w h : Int) (W : World) (hv : NRow W v [p]) : Calls Try.prog 44 #[v, .int .i64 k, .int .i64 w, .int .i64 h] W (RLay W (some (leafP p 0))) := by
  obtain ⟨A, cc, rfl, hcc, hl⟩ := hv
  obtain ⟨g, o, rfl, hg, hx⟩ := hl (by simp)
  have q0 := hx 0 p rfl
  rw [Nat.add_zero] at q0
  have r0 := ((below_alloc W (.cells #[.int .i64 0, .int .i64 0, .int .i64 0, .slice none 0 0, .bool false] 44)).cell (p := ⟨g, o, none⟩) hg).trans q0
  simp only [List.length_singleton] at hcc ⊢
  have hne : ¬ g = W.heap.size := by omega
  clear hl hx
  go_enter Try.func44, Try.ntmps44
  go_wp2
  exact bodyPost_ret (v := .agg #[.int .i64 0, .int .i64 p, .int .i64 0, .slice none 0 0, .bool true]) (by simp [results, Try.f44, go_sem]) rfl ⟨below_alloc _ _, leafP p 0, none, 0, 0, true, rfl, TrB.leaf _ _ _ _, .inr ⟨rfl, rfl⟩⟩
/-- The row of the first so many shares. -/
def lineL (c : Nat) (ps : List Int) (j : Nat) : List (Tr × Value) := (List.zipWith (fun p s => (leafP p s, Value.slice none 0 0)) ps (evenL c ps.length)).take j
theorem lineL_len {c : Nat} {ps : List Int} {j : Nat} (h : j ≤ ps.length) : (lineL c ps j).length = j := by unfold lineL; rw [List.length_take, List.length_zipWith, evenL_length]; omega
theorem lineL_step {c : Nat} {ps : List Int} {j : Nat} {p : Int} (hp : ps[j]? = some p) : lineL c ps j ++ [(leafP p (shareN c ps.length j), .slice none 0 0)] = lineL c ps (j + 1) := by
  have hj := (List.getElem?_eq_some_iff.1 hp).1
  unfold lineL
  rw [List.take_add_one, List.getElem?_zipWith, hp, evenL_at hj]
  rfl
theorem lineL_full (c : Nat) (ps : List Int) : (lineL c ps ps.length).map Prod.fst = dealT c (ps.map fun p => leafP p 0) := by
  unfold lineL dealT
  rw [List.take_of_length_le (by rw [List.length_zipWith, evenL_length]; omega), List.length_map]
  apply List.ext_getElem?
  intro i
  simp only [List.getElem?_map, List.getElem?_zipWith]
  cases ps[i]? with
  | none => rfl
  | some p =>
    cases (evenL c ps.length)[i]? with
    | none => rfl
    | some s => rfl
set_option maxRecDepth 100000 in
set_option maxHeartbeats 8000000 in
theorem rline_row (v : Value) (ps : List Int) (c : Nat) (x : Int) (W : World) (hv : NRow W v ps) (h2 : 2 ≤ ps.length) (h8 : ps.length ≤ 8) (hc : c ≤ 80) : Calls Try.prog 44 #[v, .int .i64 1, .int .i64 c, .int .i64 x] W (RLay W (lineT 1 c ps)) := by
  have HRV := hid (fun X => reven_any c ps.length X hc (by omega) h8)
  obtain ⟨A, cc, rfl, hcc, hl⟩ := hv
  obtain ⟨n, hn⟩ : ∃ n, ps.length = n := ⟨_, rfl⟩
  have HLI : Hid (lineT 1 c ps = if roomB c n = true then some (.mk 1 0 0 ((lineL c ps n).map Prod.fst)) else none) := by
    unfold Hid lineT sharedT
    rw [List.length_map, if_neg (by omega), hn]
    split
    · rw [← hn, lineL_full]
    · rfl
  have HLL := hid hl
  have HN := hid hn
  rw [hn] at h2 h8 hcc HRV ⊢
  have hn1 : ¬ (n : Int) = 1 := by omega
  have hx8 := Box.new W 44 #[.int .i64 0, .int .i64 0, .int .i64 0, .slice none 0 0, .bool false]
  have HB8 := hid (below_alloc W (.cells #[.int .i64 0, .int .i64 0, .int .i64 0, .slice none 0 0, .bool false] 44))
  have HX8 := hid hx8
  clear hl hn hx8
  go_enter Try.func44, Try.ntmps44
  go_upto_region 7 with ((with_reducible refine (HRV.out _).mono ?_); rintro e w2 ⟨hb2, hx⟩; obtain ⟨sv, rfl, hroom⟩ : ∃ sv, e = .returned sv ∧ ((roomB c n = false ∧ sv = .slice none 0 0) ∨ (roomB c n = true ∧ OwnI w2 (W.alloc (.cells #[.int .i64 0, .int .i64 0, .int .i64 0, .slice none 0 0, .bool false] 44)).heap.size sv (evenL c n))) := (by rcases hx with ⟨hr, e⟩ | ⟨hr, sv, e, ho⟩; exact ⟨_, e, .inl ⟨hr, rfl⟩⟩; exact ⟨_, e, .inr ⟨hr, ho⟩⟩); clear hx)
  have hx8 := HX8.out.below hb2 HX8.out.lt
  have hl8 := hx8.lt
  have hs1 : (W.alloc (.cells #[.int .i64 0, .int .i64 0, .int .i64 0, .slice none 0 0, .bool false] 44)).heap.size = W.heap.size + 1 := World.size_alloc _ _
  have hb2s := hb2.size
  have HB2 := hid (HB8.out.trans (hb2.mono HB8.out.size))
  rw [hs1] at hroom hb2s
  have hx82 := HX8.out.below hb2 HX8.out.lt
  have HX82 := hid (hx82.alloc (.cells #[.int .i64 1, .int .i64 0, .int .i64 0, .slice none 0 0] 24))
  have HX11 := hid (Box.new w2 24 #[.int .i64 1, .int .i64 0, .int .i64 0, .slice none 0 0])
  have HB3 := hid (HB2.out.alloc HB2.out.size (.cells #[.int .i64 1, .int .i64 0, .int .i64 0, .slice none 0 0] 24))
  rcases hroom with ⟨hr, rfl⟩ | ⟨hr, ho⟩
  · have HLN : Hid (lineT 1 c ps = none) := by unfold Hid; rw [HLI.out, if_neg (by rw [hr]; decide)]
    clear hb2 hx8 hx82 hr
    go_wp2_with fail
    obtain ⟨X, hXe⟩ : ∃ X, w2.alloc (.cells #[.int .i64 1, .int .i64 0, .int .i64 0, .slice none 0 0] 24) = X := ⟨_, rfl⟩
    obtain ⟨T11, hT11⟩ : ∃ T11, w2.heap.size = T11 := ⟨_, rfl⟩
    rw [hXe] at HX82 HX11 HB3 ⊢
    rw [hT11] at HX11 hb2s ⊢
    obtain ⟨⟨a0, a1, a2, a3, a4⟩, f0, f1, f2, f3, f4⟩ := HX82.out.five
    obtain ⟨⟨b0, b1, b2, b3⟩, _⟩ := HX11.out.four
    have hl82 := HX82.out.lt
    have hl11 := HX11.out.lt
    have hne : ¬ T11 = W.heap.size := by omega
    have hne2 : ¬ W.heap.size = T11 := by omega
    clear hXe hT11
    go_loopw [33] (fun i wr => i = .int .i64 0 ∧ X = wr) (fun _ _ => 0)
    case atStart => exact ⟨rfl, rfl⟩
    case round =>
      obtain ⟨rfl, rfl⟩ := hrel
      go_wp2
      have hz := five_cells HX82.out rfl (.int .i64 1) (.int .i64 0) (.int .i64 0) (.slice none 0 0) (.bool false)
      have d0 := hz.cell 0
      have d1 := hz.cell 1
      have d2 := hz.cell 2
      have d3 := hz.cell 3
      have d4 := hz.cell 4
      exact bodyPost_ret (v := .agg #[.int .i64 1, .int .i64 0, .int .i64 0, .slice none 0 0, .bool false]) (by simp [results, Try.f44, go_sem, d0, d1, d2, d3, d4]) rfl ⟨below_set5 HB3.out (Nat.le_refl _), .mk 1 0 0 [], none, 0, 0, false, rfl, by unfold TrB; exact ⟨none, 0, rfl, Nat.le_refl _, fun h => absurd rfl h⟩, .inl ⟨HLN.out, rfl⟩⟩
  · have HLN : Hid (lineT 1 c ps = some (.mk 1 0 0 ((lineL c ps n).map Prod.fst))) := by unfold Hid; rw [HLI.out, if_pos hr]
    obtain ⟨gs, sc, hsv, hgsb, hsc, hscell⟩ := ho.row (by intro e; have := congrArg List.length e; rw [evenL_length] at this; simp at this; omega)
    rw [evenL_length] at hsv hsc
    subst hsv
    have hgs : gs < w2.heap.size := by
      have := hscell 0 _ (evenL_at (c := c) (m := n) (i := 0) (by omega))
      exact t_cell_lt this
    have HSC := hid (fun (Y : World) (hb : Below w2.heap.size w2 Y) j s hj => (hb.cell (p := ⟨gs, j, none⟩) hgs).trans (hscell j s hj))
    have hl11 := HX11.out.lt
    clear hb2 hx8 hx82 ho hscell
    go_wp2_with fail
    obtain ⟨T11, hT11⟩ : ∃ T11, w2.heap.size = T11 := ⟨_, rfl⟩
    obtain ⟨X, hXe⟩ : ∃ X, w2.alloc (.cells #[.int .i64 1, .int .i64 0, .int .i64 0, .slice none 0 0] 24) = X := ⟨_, rfl⟩
    have hbX : Below w2.heap.size w2 X := by rw [← hXe]; exact below_alloc _ _
    have hXs : X.heap.size = T11 + 1 := by rw [← hXe, World.size_alloc, hT11]
    rw [hXe, hT11]
    rw [hXe] at HX82 HX11 HB3 hl11
    rw [hT11] at HX11 hl11 hgs hb2s hbX HSC
    have HBX := hid hbX
    clear hXe hbX
    go_loopw [33] (fun i wr => ∃ (j : Nat) (rA : Option Addr) (rc : Nat), i = .int .i64 j ∧ j ≤ n ∧ Box wr T11 24 #[.int .i64 1, .int .i64 0, .int .i64 0, .slice rA j rc] ∧ OwnT wr (W.heap.size + 1) 0 (.slice rA j rc) (lineL c ps j) ∧ Box wr W.heap.size 44 #[.int .i64 0, .int .i64 0, .int .i64 0, .slice none 0 0, .bool false] ∧ Below W.heap.size W wr ∧ (∀ j s, (evenL c n)[j]? = some s → wr.cell? ⟨gs, j, none⟩ = some (.int .i64 s)) ∧ ((Value.slice rA j rc).ownBlock ≠ some T11 ∧ (Value.slice rA j rc).ownBlock ≠ some gs) ∧ X.heap.size ≤ wr.heap.size) (fun i _ => n - (intOf i).toNat)
    case atStart => exact ⟨0, none, 0, rfl, Nat.zero_le _, HX11.out, OwnT.nil _ _ _, HX82.out, HB3.out, fun j s hj => HSC.out X HBX.out j s hj, ⟨by simp [Value.ownBlock], by simp [Value.ownBlock]⟩, Nat.le_refl _⟩
    case round =>
      obtain ⟨j, rA, rc, rfl, hjn, hx11, how, hxr, hbr, hsc2, ⟨hnb1, hnb2⟩, hszr⟩ := hrel
      by_cases hj : j < n
      · have hji : (j : Int) < n := by omega
        obtain ⟨p, hp⟩ : ∃ p, ps[j]? = some p := ⟨_, List.getElem?_eq_getElem (by rw [HN.out]; exact hj)⟩
        obtain ⟨g, o, rfl, hg, hcell⟩ := HLL.out (by intro e; have := HN.out; rw [e] at this; simp at this; omega)
        have hp0 : wr.cell? ⟨g, o + j, none⟩ = some (.int .i64 p) := (hbr.cell (p := ⟨g, o + j, none⟩) hg).trans (hcell j p hp)
        have hs0 := hsc2 j _ (evenL_at (c := c) (m := n) (i := j) hj)
        have hst := lineL_step (c := c) hp
        rw [HN.out] at hst
        obtain ⟨s, hs⟩ : ∃ s : Int, (shareN c n j : Int) = s := ⟨_, rfl⟩
        rw [hs] at hs0 hst
        obtain ⟨L, hL⟩ : ∃ L, lineL c ps j = L := ⟨_, rfl⟩
        have hLn : L.length = j := by rw [← hL]; exact lineL_len (by rw [HN.out]; exact hjn)
        rw [hL] at how hst
        have HST := hid hst
        have HX110 := hid hx11
        have HX11 := hid hx11
        have HC10 := hid hp0
        have HC20 := hid hs0
        have hgw : g < wr.heap.size := Nat.lt_of_lt_of_le hg hbr.size
        have hgsw := t_cell_lt hs0
        have hal := below_alloc wr (.cells #[.int .i64 0, .int .i64 p, .int .i64 s, .slice none 0 0] 24)
        have hald : Below wr.heap.size wr (wr.alloc (.cells #[.int .i64 0, .int .i64 p, .int .i64 s, .slice none 0 0] 24)).drew := hal.trans ((below_drew _ 1).mono hal.size)
        have HC1 := hid ((hald.cell (p := ⟨g, o + j, none⟩) hgw).trans hp0)
        have HC2 := hid ((hald.cell (p := ⟨gs, j, none⟩) hgsw).trans hs0)
        have HOW := hid (how.kept hald (Nat.zero_le _))
        have HBX2 : Box (wr.alloc (.cells #[.int .i64 0, .int .i64 p, .int .i64 s, .slice none 0 0] 24)).drew wr.heap.size 24 #[.int .i64 0, .int .i64 p, .int .i64 s, .slice none 0 0] := (Box.new wr 24 #[.int .i64 0, .int .i64 p, .int .i64 s, .slice none 0 0]).drew
        have HBX := hid (show Box (wr.alloc (.cells #[.int .i64 0, .int .i64 p, .int .i64 s, .slice none 0 0] 24)).drew wr.heap.size 24 (trow (leafP p s, .slice none 0 0)).toArray from HBX2)
        have HLB : Hid (L.length ≤ 1000) := by unfold Hid; omega
        have HLJ : Hid ((L ++ [(leafP p s, Value.slice none 0 0)]).length = j + 1) := by unfold Hid; rw [List.length_append, hLn]; rfl
        have HNB : Hid ((Value.slice rA j rc).ownBlock ≠ some T11) := hnb1
        have HKC := hid (fun (w6 : World) (hg6 : (wr.alloc (.cells #[.int .i64 0, .int .i64 p, .int .i64 s, .slice none 0 0] 24)).drew.grownBy w6 (Value.slice rA j rc).ownBlock) => (⟨fun u hu => (by
            have hne : some g ≠ (Value.slice rA j rc).ownBlock := fun e => by have := (World.ownsRow.lt how.1 g e.symm).1; omega
            have := hg6.block g (by have := hald.size; omega) hne
            unfold World.cell? at hu ⊢
            rw [this]; exact hu : w6.cell? ⟨g, o + j, none⟩ = some u), fun u hu => (by
            have hne : some gs ≠ (Value.slice rA j rc).ownBlock := fun e => hnb2 e.symm
            have := hg6.block gs (by have := hald.size; omega) hne
            unfold World.cell? at hu ⊢
            rw [this]; exact hu)⟩ : (∀ u, (wr.alloc (.cells #[.int .i64 0, .int .i64 p, .int .i64 s, .slice none 0 0] 24)).drew.cell? ⟨g, o + j, none⟩ = some u → w6.cell? ⟨g, o + j, none⟩ = some u) ∧ (∀ u, (wr.alloc (.cells #[.int .i64 0, .int .i64 p, .int .i64 s, .slice none 0 0] 24)).drew.cell? ⟨gs, j, none⟩ = some u → w6.cell? ⟨gs, j, none⟩ = some u)))
        have HKH := hid (fun (w6 : World) (hg6 : (wr.alloc (.cells #[.int .i64 0, .int .i64 p, .int .i64 s, .slice none 0 0] 24)).drew.grownBy w6 (Value.slice rA j rc).ownBlock) => (show w6.heap[gs]? = wr.heap[gs]? from (hg6.block gs (by have := hald.size; omega) (fun e => hnb2 e.symm)).trans (hald.block gs hgsw)))
        have HNB2 : Hid ((Value.slice rA j rc).ownBlock ≠ some gs) := hnb2
        have hsz2 : (wr.alloc (.cells #[.int .i64 0, .int .i64 p, .int .i64 s, .slice none 0 0] 24)).drew.heap.size = wr.heap.size + 1 := World.size_alloc _ _
        have hlr := hxr.lt
        have HXR := hid hxr
        have HBR := hid hbr
        have HALD := hid hald
        have HSC2 := hid hsc2
        have HOO := hid how
        have hl11r := hx11.lt
        clear how hxr hbr hsc2 hx11 hst hcell hp hL hald hal hp0 hs0 hs
        go_upto_region 11 with fail
        have hS0 : Box wr.drew T11 24 #[.int .i64 1, .int .i64 0, .int .i64 0, .slice rA j rc] ∧ wr.drew.cell? ⟨g, o + j, none⟩ = some (.int .i64 p) ∧ wr.drew.cell? ⟨gs, j, none⟩ = some (.int .i64 s) := ⟨HX110.out.drew, HC10.out, HC20.out⟩
        refine wp_region_S (OneS 14 (fun w' => Box w' T11 24 #[.int .i64 1, .int .i64 0, .int .i64 0, .slice rA j rc] ∧ w'.cell? ⟨g, o + j, none⟩ = some (.int .i64 p) ∧ w'.cell? ⟨gs, j, none⟩ = some (.int .i64 s))) (by kernel_rfl) ?_
        refine takeN (k := 14) (i := 0) (v := ?v0l) 36 rfl rfl (by kernel_rfl) (by kernel_rfl) (by kernel_rfl) (by kernel_rfl) (by decide) (fun _ _ _ h => h) (Or.inl ⟨by rfl, fun w' _ => ?hy0l⟩) (fun _ => hS0) ?rest0l
        case hy0l => go_simp; try with_reducible rfl
        try simp only [Act.put, List.setIfInBounds_toArray, List.set_cons_zero, List.set_cons_succ]
        refine takeG (k := 14) (i := 1) (v := ?v1l) 37 rfl rfl (by kernel_rfl) (by kernel_rfl) (by kernel_rfl) (by kernel_rfl) (by decide) (by kernel_rfl) (fun _ _ _ h => h) (Or.inl ⟨by rfl, fun w' hw' => ?hy1l⟩) (fun _ => hS0) ?rest1l
        case hy1l => have x3 := hw'.1.cell 3; go_simp; try with_reducible rfl
        try simp only [Act.put, List.setIfInBounds_toArray, List.set_cons_zero, List.set_cons_succ]
        refine takeN (k := 14) (i := 2) (v := ?v2l) 38 rfl rfl (by kernel_rfl) (by kernel_rfl) (by kernel_rfl) (by kernel_rfl) (by decide) (fun _ _ _ h => h) (Or.inl ⟨by rfl, fun w' _ => ?hy2l⟩) (fun _ => hS0) ?rest2l
        case hy2l => go_simp; try with_reducible rfl
        try simp only [Act.put, List.setIfInBounds_toArray, List.set_cons_zero, List.set_cons_succ]
        refine takeN (k := 14) (i := 3) (v := ?v3l) 39 rfl rfl (by kernel_rfl) (by kernel_rfl) (by kernel_rfl) (by kernel_rfl) (by decide) (fun _ _ _ h => h) (Or.inl ⟨by rfl, fun w' _ => ?hy3l⟩) (fun _ => hS0) ?rest3l
        case hy3l => go_simp; try with_reducible rfl
        try simp only [Act.put, List.setIfInBounds_toArray, List.set_cons_zero, List.set_cons_succ]
        refine takeN (k := 14) (i := 4) (v := ?v4l) 40 rfl rfl (by kernel_rfl) (by kernel_rfl) (by kernel_rfl) (by kernel_rfl) (by decide) (fun _ _ _ h => h) (Or.inl ⟨by rfl, fun w' _ => ?hy4l⟩) (fun _ => hS0) ?rest4l
        case hy4l => go_simp; try with_reducible rfl
        try simp only [Act.put, List.setIfInBounds_toArray, List.set_cons_zero, List.set_cons_succ]
        refine takeG (k := 14) (i := 5) (v := ?v5l) 41 rfl rfl (by kernel_rfl) (by kernel_rfl) (by kernel_rfl) (by kernel_rfl) (by decide) (by kernel_rfl) (fun _ _ _ h => h) (Or.inl ⟨by rfl, fun w' hw' => ?hy5l⟩) (fun _ => hS0) ?rest5l
        case hy5l => have q1 := hw'.2.1; go_simp; try with_reducible rfl
        try simp only [Act.put, List.setIfInBounds_toArray, List.set_cons_zero, List.set_cons_succ]
        refine takeN (k := 14) (i := 6) (v := ?v6l) 42 rfl rfl (by kernel_rfl) (by kernel_rfl) (by kernel_rfl) (by kernel_rfl) (by decide) (fun _ _ _ h => h) (Or.inl ⟨by rfl, fun w' _ => ?hy6l⟩) (fun _ => hS0) ?rest6l
        case hy6l => go_simp; try with_reducible rfl
        try simp only [Act.put, List.setIfInBounds_toArray, List.set_cons_zero, List.set_cons_succ]
        refine takeN (k := 14) (i := 7) (v := ?v7l) 43 rfl rfl (by kernel_rfl) (by kernel_rfl) (by kernel_rfl) (by kernel_rfl) (by decide) (fun _ _ _ h => h) (Or.inl ⟨by rfl, fun w' _ => ?hy7l⟩) (fun _ => hS0) ?rest7l
        case hy7l => go_simp; try with_reducible rfl
        try simp only [Act.put, List.setIfInBounds_toArray, List.set_cons_zero, List.set_cons_succ]
        refine takeN (k := 14) (i := 8) (v := ?v8l) 44 rfl rfl (by kernel_rfl) (by kernel_rfl) (by kernel_rfl) (by kernel_rfl) (by decide) (fun _ _ _ h => h) (Or.inl ⟨by rfl, fun w' _ => ?hy8l⟩) (fun _ => hS0) ?rest8l
        case hy8l => go_simp; try with_reducible rfl
        try simp only [Act.put, List.setIfInBounds_toArray, List.set_cons_zero, List.set_cons_succ]
        refine takeG (k := 14) (i := 9) (v := ?v9l) 45 rfl rfl (by kernel_rfl) (by kernel_rfl) (by kernel_rfl) (by kernel_rfl) (by decide) (by kernel_rfl) (fun _ _ _ h => h) (Or.inl ⟨by rfl, fun w' hw' => ?hy9l⟩) (fun _ => hS0) ?rest9l
        case hy9l => have q2 := hw'.2.2; go_simp; try with_reducible rfl
        try simp only [Act.put, List.setIfInBounds_toArray, List.set_cons_zero, List.set_cons_succ]
        refine takeN (k := 14) (i := 10) (v := ?v10l) 46 rfl rfl (by kernel_rfl) (by kernel_rfl) (by kernel_rfl) (by kernel_rfl) (by decide) (fun _ _ _ h => h) (Or.inl ⟨by rfl, fun w' _ => ?hy10l⟩) (fun _ => hS0) ?rest10l
        case hy10l => go_simp; try with_reducible rfl
        try simp only [Act.put, List.setIfInBounds_toArray, List.set_cons_zero, List.set_cons_succ]
        refine oneS (k := 11) (by kernel_rfl) rfl (by rfl) (fun K hK => ?_)
        go_simp
        have hS1 : Box (wr.alloc (.cells #[.int .i64 0, .int .i64 p, .int .i64 s, .slice none 0 0] 24)).drew T11 24 #[.int .i64 1, .int .i64 0, .int .i64 0, .slice rA j rc] ∧ (wr.alloc (.cells #[.int .i64 0, .int .i64 p, .int .i64 s, .slice none 0 0] 24)).drew.cell? ⟨g, o + j, none⟩ = some (.int .i64 p) ∧ (wr.alloc (.cells #[.int .i64 0, .int .i64 p, .int .i64 s, .slice none 0 0] 24)).drew.cell? ⟨gs, j, none⟩ = some (.int .i64 s) := ⟨HX11.out.alloc _ |>.drew, HC1.out, HC2.out⟩
        refine hK _ _ (fun _ => hS1) ?_
        clear hK K
        try simp only [Act.put, List.setIfInBounds_toArray]
        clear hS0
        have hS0 := hS1
        clear hS1
        refine oneS (k := 12) (by kernel_rfl) rfl (by rfl) (fun K hK => ?_)
        refine wp_append_t (.tmp 37) (.tmp 47) rfl (W.heap.size + 1) 0 (.slice rA j rc) L (leafP p s, .slice none 0 0) wr.heap.size rfl HOW.out rfl HBX.out (TrB.leaf _ _ _ _) HLB.out (by omega) (Nat.zero_le _) ?_
        rintro v6 w6 hown6 hgrow6 hat6
        obtain ⟨g6, cp, cur6, hv6, hgb6, hgl6, hgc6, hgbox6, _, hcell6⟩ := hown6.row (by simp)
        rw [HLJ.out] at hv6 hgc6
        subst hv6
        have hx6 : Box w6 T11 24 #[.int .i64 1, .int .i64 0, .int .i64 0, .slice rA j rc] := hS0.1.grown hgrow6 (fun e => HNB.out (by rw [← e]))
        have hS1 : Box w6 T11 24 #[.int .i64 1, .int .i64 0, .int .i64 0, .slice rA j rc] ∧ w6.cell? ⟨g, o + j, none⟩ = some (.int .i64 p) ∧ w6.cell? ⟨gs, j, none⟩ = some (.int .i64 s) := ⟨hx6, (HKC.out w6 hgrow6).1 _ hS0.2.1, (HKC.out w6 hgrow6).2 _ hS0.2.2⟩
        refine hK _ _ (fun _ => hS1) ?_
        clear hK K
        try simp only [Act.put]
        clear hS0
        have hS0 := hS1
        clear hS1
        have x3 := hx6.cell 3
        have y3 := hx6.free 3
        have l6 := hx6.lt
        refine takeN (k := 14) (i := 13) (v := ?v13l) 49 rfl rfl (by kernel_rfl) (by kernel_rfl) (by kernel_rfl) (by kernel_rfl) (by decide) (fun _ _ _ h => h) (Or.inl ⟨by rfl, fun w' _ => ?hy13l⟩) (fun _ => hS0) ?rest13l
        case hy13l => go_simp; try with_reducible rfl
        try simp only [Act.put, List.setIfInBounds_toArray]
        refine oneS (k := 14) (by kernel_rfl) rfl (by rfl) (fun K hK => ?_)
        go_simp
        refine hK _ _ (fun h => (by simp at h)) ?_
        clear hK K
        try simp only [Act.put]
        refine doneS (by kernel_rfl) ?_ _
        go_wp2
        have hgne : g6 ≠ T11 ∧ g6 ≠ gs := by
          rcases hat6 with e | e
          · exact ⟨fun h => HNB.out (by rw [← e]; subst h; rfl), fun h => HNB2.out (by rw [← e]; subst h; rfl)⟩
          · have e : g6 = _ := Option.some.inj e
            rw [hsz2] at e
            exact ⟨by omega, by omega⟩
        have hwb : Below W.heap.size W w6 := (HBR.out.trans (HALD.out.mono HBR.out.size)).grown hgrow6 (by have := HALD.out.size; have := HBR.out.size; omega) fun k e => by have := (World.ownsRow.lt HOO.out.1 k e).1; omega
        have hxr6 := (HXR.out.below HALD.out HXR.out.lt).grown hgrow6 (fun e => by have := (World.ownsRow.lt HOO.out.1 _ e.symm).1; omega)
        have hz11 := hx6.set (i := 3) (.slice (some ⟨g6, 0, none⟩) (j + 1) cp)
        simp only [List.setIfInBounds_toArray, List.set_cons_zero, List.set_cons_succ] at hz11
        have how6 := OwnT.other hown6 (show (Value.slice (some ⟨g6, 0, none⟩) (j + 1) cp).ownBlock ≠ some T11 by show (some g6 : Option Nat) ≠ some T11; intro e; exact hgne.1 (Option.some.inj e)) (.inr (Nat.zero_le _)) (i := 3) (.slice (some ⟨g6, 0, none⟩) (j + 1) cp)
        rw [HST.out] at how6
        go_roundw
        case rel => exact ⟨j + 1, _, _, by go_num, by omega, hz11, how6, hxr6.other (by omega) _, below_set hwb (by omega) _, fun i u hu => by
            have h1 := HSC2.out i u hu
            unfold World.cell? at h1 ⊢
            rw [Below.heap_setCell w6 ⟨T11, 3, none⟩ _ gs (by show gs ≠ T11; omega), HKH.out w6 hgrow6]
            exact h1, ⟨by show (some g6 : Option Nat) ≠ some T11; intro e; exact hgne.1 (Option.some.inj e), by show (some g6 : Option Nat) ≠ some gs; intro e; exact hgne.2 (Option.some.inj e)⟩, by rw [size_set]; have := hgrow6.size; omega⟩
        case measure => simp [intOf]; omega
      · have hjn' : j = n := by omega
        subst hjn'
        obtain ⟨⟨a0, a1, a2, a3, a4⟩, f0, f1, f2, f3, f4⟩ := hxr.five
        obtain ⟨⟨b0, b1, b2, b3⟩, _⟩ := hx11.four
        have hlr := hxr.lt
        have hlr11 := hx11.lt
        have hj0 : (0 : Int) < j := by omega
        have hj0n : 0 < j := by omega
        have HXR := hid hxr
        have HOO := hid how
        have HBR := hid hbr
        clear hx11 how hxr hbr hsc2 hnb1 hnb2 hj
        go_wp2
        have hz := five_cells HXR.out rfl (.int .i64 1) (.int .i64 0) (.int .i64 0) (.slice rA j rc) (.bool true)
        have d0 := hz.cell 0
        have d1 := hz.cell 1
        have d2 := hz.cell 2
        have d3 := hz.cell 3
        have d4 := hz.cell 4
        have htr := HOO.out.tree (T := wr.heap.size) (fun k e => (World.ownsRow.lt HOO.out.1 k e).2) (Nat.zero_le _) 1 0 0
        exact bodyPost_ret (v := .agg #[.int .i64 1, .int .i64 0, .int .i64 0, .slice rA j rc, .bool true]) (by simp [results, Try.f44, go_sem, d0, d1, d2, d3, d4]) rfl ⟨below_set5 HBR.out (Nat.le_refl _), .mk 1 0 0 ((lineL c ps j).map Prod.fst), rA, j, rc, true, rfl, htr.into (five_into (Nat.le_refl _) (fun c h1 _ => by omega) W.heap.size (by omega)), .inr ⟨HLN.out, rfl⟩⟩
set_option maxRecDepth 100000 in
set_option maxHeartbeats 8000000 in
theorem rline_pile (v : Value) (ps : List Int) (c : Nat) (x : Int) (W : World) (hv : NRow W v ps) (h2 : 2 ≤ ps.length) (h8 : ps.length ≤ 8) (hc : c ≤ 80) : Calls Try.prog 44 #[v, .int .i64 2, .int .i64 x, .int .i64 c] W (RLay W (lineT 2 c ps)) := by
  have HRV := hid (fun X => reven_any c ps.length X hc (by omega) h8)
  obtain ⟨A, cc, rfl, hcc, hl⟩ := hv
  obtain ⟨n, hn⟩ : ∃ n, ps.length = n := ⟨_, rfl⟩
  have HLI : Hid (lineT 2 c ps = if roomB c n = true then some (.mk 2 0 0 ((lineL c ps n).map Prod.fst)) else none) := by
    unfold Hid lineT sharedT
    rw [List.length_map, if_neg (by omega), hn]
    split
    · rw [← hn, lineL_full]
    · rfl
  have HLL := hid hl
  have HN := hid hn
  rw [hn] at h2 h8 hcc HRV ⊢
  have hn1 : ¬ (n : Int) = 1 := by omega
  have hx8 := Box.new W 44 #[.int .i64 0, .int .i64 0, .int .i64 0, .slice none 0 0, .bool false]
  have HB8 := hid (below_alloc W (.cells #[.int .i64 0, .int .i64 0, .int .i64 0, .slice none 0 0, .bool false] 44))
  have HX8 := hid hx8
  clear hl hn hx8
  go_enter Try.func44, Try.ntmps44
  go_upto_region 7 with ((with_reducible refine (HRV.out _).mono ?_); rintro e w2 ⟨hb2, hx⟩; obtain ⟨sv, rfl, hroom⟩ : ∃ sv, e = .returned sv ∧ ((roomB c n = false ∧ sv = .slice none 0 0) ∨ (roomB c n = true ∧ OwnI w2 (W.alloc (.cells #[.int .i64 0, .int .i64 0, .int .i64 0, .slice none 0 0, .bool false] 44)).heap.size sv (evenL c n))) := (by rcases hx with ⟨hr, e⟩ | ⟨hr, sv, e, ho⟩; exact ⟨_, e, .inl ⟨hr, rfl⟩⟩; exact ⟨_, e, .inr ⟨hr, ho⟩⟩); clear hx)
  have hx8 := HX8.out.below hb2 HX8.out.lt
  have hl8 := hx8.lt
  have hs1 : (W.alloc (.cells #[.int .i64 0, .int .i64 0, .int .i64 0, .slice none 0 0, .bool false] 44)).heap.size = W.heap.size + 1 := World.size_alloc _ _
  have hb2s := hb2.size
  have HB2 := hid (HB8.out.trans (hb2.mono HB8.out.size))
  rw [hs1] at hroom hb2s
  have hx82 := HX8.out.below hb2 HX8.out.lt
  have HX82 := hid (hx82.alloc (.cells #[.int .i64 2, .int .i64 0, .int .i64 0, .slice none 0 0] 24))
  have HX11 := hid (Box.new w2 24 #[.int .i64 2, .int .i64 0, .int .i64 0, .slice none 0 0])
  have HB3 := hid (HB2.out.alloc HB2.out.size (.cells #[.int .i64 2, .int .i64 0, .int .i64 0, .slice none 0 0] 24))
  rcases hroom with ⟨hr, rfl⟩ | ⟨hr, ho⟩
  · have HLN : Hid (lineT 2 c ps = none) := by unfold Hid; rw [HLI.out, if_neg (by rw [hr]; decide)]
    clear hb2 hx8 hx82 hr
    go_wp2_with fail
    obtain ⟨X, hXe⟩ : ∃ X, w2.alloc (.cells #[.int .i64 2, .int .i64 0, .int .i64 0, .slice none 0 0] 24) = X := ⟨_, rfl⟩
    obtain ⟨T11, hT11⟩ : ∃ T11, w2.heap.size = T11 := ⟨_, rfl⟩
    rw [hXe] at HX82 HX11 HB3 ⊢
    rw [hT11] at HX11 hb2s ⊢
    obtain ⟨⟨a0, a1, a2, a3, a4⟩, f0, f1, f2, f3, f4⟩ := HX82.out.five
    obtain ⟨⟨b0, b1, b2, b3⟩, _⟩ := HX11.out.four
    have hl82 := HX82.out.lt
    have hl11 := HX11.out.lt
    have hne : ¬ T11 = W.heap.size := by omega
    have hne2 : ¬ W.heap.size = T11 := by omega
    clear hXe hT11
    go_loopw [33] (fun i wr => i = .int .i64 0 ∧ X = wr) (fun _ _ => 0)
    case atStart => exact ⟨rfl, rfl⟩
    case round =>
      obtain ⟨rfl, rfl⟩ := hrel
      go_wp2
      have hz := five_cells HX82.out rfl (.int .i64 2) (.int .i64 0) (.int .i64 0) (.slice none 0 0) (.bool false)
      have d0 := hz.cell 0
      have d1 := hz.cell 1
      have d2 := hz.cell 2
      have d3 := hz.cell 3
      have d4 := hz.cell 4
      exact bodyPost_ret (v := .agg #[.int .i64 2, .int .i64 0, .int .i64 0, .slice none 0 0, .bool false]) (by simp [results, Try.f44, go_sem, d0, d1, d2, d3, d4]) rfl ⟨below_set5 HB3.out (Nat.le_refl _), .mk 2 0 0 [], none, 0, 0, false, rfl, by unfold TrB; exact ⟨none, 0, rfl, Nat.le_refl _, fun h => absurd rfl h⟩, .inl ⟨HLN.out, rfl⟩⟩
  · have HLN : Hid (lineT 2 c ps = some (.mk 2 0 0 ((lineL c ps n).map Prod.fst))) := by unfold Hid; rw [HLI.out, if_pos hr]
    obtain ⟨gs, sc, hsv, hgsb, hsc, hscell⟩ := ho.row (by intro e; have := congrArg List.length e; rw [evenL_length] at this; simp at this; omega)
    rw [evenL_length] at hsv hsc
    subst hsv
    have hgs : gs < w2.heap.size := by
      have := hscell 0 _ (evenL_at (c := c) (m := n) (i := 0) (by omega))
      exact t_cell_lt this
    have HSC := hid (fun (Y : World) (hb : Below w2.heap.size w2 Y) j s hj => (hb.cell (p := ⟨gs, j, none⟩) hgs).trans (hscell j s hj))
    have hl11 := HX11.out.lt
    clear hb2 hx8 hx82 ho hscell
    go_wp2_with fail
    obtain ⟨T11, hT11⟩ : ∃ T11, w2.heap.size = T11 := ⟨_, rfl⟩
    obtain ⟨X, hXe⟩ : ∃ X, w2.alloc (.cells #[.int .i64 2, .int .i64 0, .int .i64 0, .slice none 0 0] 24) = X := ⟨_, rfl⟩
    have hbX : Below w2.heap.size w2 X := by rw [← hXe]; exact below_alloc _ _
    have hXs : X.heap.size = T11 + 1 := by rw [← hXe, World.size_alloc, hT11]
    rw [hXe, hT11]
    rw [hXe] at HX82 HX11 HB3 hl11
    rw [hT11] at HX11 hl11 hgs hb2s hbX HSC
    have HBX := hid hbX
    clear hXe hbX
    go_loopw [33] (fun i wr => ∃ (j : Nat) (rA : Option Addr) (rc : Nat), i = .int .i64 j ∧ j ≤ n ∧ Box wr T11 24 #[.int .i64 2, .int .i64 0, .int .i64 0, .slice rA j rc] ∧ OwnT wr (W.heap.size + 1) 0 (.slice rA j rc) (lineL c ps j) ∧ Box wr W.heap.size 44 #[.int .i64 0, .int .i64 0, .int .i64 0, .slice none 0 0, .bool false] ∧ Below W.heap.size W wr ∧ (∀ j s, (evenL c n)[j]? = some s → wr.cell? ⟨gs, j, none⟩ = some (.int .i64 s)) ∧ ((Value.slice rA j rc).ownBlock ≠ some T11 ∧ (Value.slice rA j rc).ownBlock ≠ some gs) ∧ X.heap.size ≤ wr.heap.size) (fun i _ => n - (intOf i).toNat)
    case atStart => exact ⟨0, none, 0, rfl, Nat.zero_le _, HX11.out, OwnT.nil _ _ _, HX82.out, HB3.out, fun j s hj => HSC.out X HBX.out j s hj, ⟨by simp [Value.ownBlock], by simp [Value.ownBlock]⟩, Nat.le_refl _⟩
    case round =>
      obtain ⟨j, rA, rc, rfl, hjn, hx11, how, hxr, hbr, hsc2, ⟨hnb1, hnb2⟩, hszr⟩ := hrel
      by_cases hj : j < n
      · have hji : (j : Int) < n := by omega
        obtain ⟨p, hp⟩ : ∃ p, ps[j]? = some p := ⟨_, List.getElem?_eq_getElem (by rw [HN.out]; exact hj)⟩
        obtain ⟨g, o, rfl, hg, hcell⟩ := HLL.out (by intro e; have := HN.out; rw [e] at this; simp at this; omega)
        have hp0 : wr.cell? ⟨g, o + j, none⟩ = some (.int .i64 p) := (hbr.cell (p := ⟨g, o + j, none⟩) hg).trans (hcell j p hp)
        have hs0 := hsc2 j _ (evenL_at (c := c) (m := n) (i := j) hj)
        have hst := lineL_step (c := c) hp
        rw [HN.out] at hst
        obtain ⟨s, hs⟩ : ∃ s : Int, (shareN c n j : Int) = s := ⟨_, rfl⟩
        rw [hs] at hs0 hst
        obtain ⟨L, hL⟩ : ∃ L, lineL c ps j = L := ⟨_, rfl⟩
        have hLn : L.length = j := by rw [← hL]; exact lineL_len (by rw [HN.out]; exact hjn)
        rw [hL] at how hst
        have HST := hid hst
        have HX110 := hid hx11
        have HX11 := hid hx11
        have HC10 := hid hp0
        have HC20 := hid hs0
        have hgw : g < wr.heap.size := Nat.lt_of_lt_of_le hg hbr.size
        have hgsw := t_cell_lt hs0
        have hal := below_alloc wr (.cells #[.int .i64 0, .int .i64 p, .int .i64 s, .slice none 0 0] 24)
        have hald : Below wr.heap.size wr (wr.alloc (.cells #[.int .i64 0, .int .i64 p, .int .i64 s, .slice none 0 0] 24)).drew := hal.trans ((below_drew _ 1).mono hal.size)
        have HC1 := hid ((hald.cell (p := ⟨g, o + j, none⟩) hgw).trans hp0)
        have HC2 := hid ((hald.cell (p := ⟨gs, j, none⟩) hgsw).trans hs0)
        have HOW := hid (how.kept hald (Nat.zero_le _))
        have HBX2 : Box (wr.alloc (.cells #[.int .i64 0, .int .i64 p, .int .i64 s, .slice none 0 0] 24)).drew wr.heap.size 24 #[.int .i64 0, .int .i64 p, .int .i64 s, .slice none 0 0] := (Box.new wr 24 #[.int .i64 0, .int .i64 p, .int .i64 s, .slice none 0 0]).drew
        have HBX := hid (show Box (wr.alloc (.cells #[.int .i64 0, .int .i64 p, .int .i64 s, .slice none 0 0] 24)).drew wr.heap.size 24 (trow (leafP p s, .slice none 0 0)).toArray from HBX2)
        have HLB : Hid (L.length ≤ 1000) := by unfold Hid; omega
        have HLJ : Hid ((L ++ [(leafP p s, Value.slice none 0 0)]).length = j + 1) := by unfold Hid; rw [List.length_append, hLn]; rfl
        have HNB : Hid ((Value.slice rA j rc).ownBlock ≠ some T11) := hnb1
        have HKC := hid (fun (w6 : World) (hg6 : (wr.alloc (.cells #[.int .i64 0, .int .i64 p, .int .i64 s, .slice none 0 0] 24)).drew.grownBy w6 (Value.slice rA j rc).ownBlock) => (⟨fun u hu => (by
            have hne : some g ≠ (Value.slice rA j rc).ownBlock := fun e => by have := (World.ownsRow.lt how.1 g e.symm).1; omega
            have := hg6.block g (by have := hald.size; omega) hne
            unfold World.cell? at hu ⊢
            rw [this]; exact hu : w6.cell? ⟨g, o + j, none⟩ = some u), fun u hu => (by
            have hne : some gs ≠ (Value.slice rA j rc).ownBlock := fun e => hnb2 e.symm
            have := hg6.block gs (by have := hald.size; omega) hne
            unfold World.cell? at hu ⊢
            rw [this]; exact hu)⟩ : (∀ u, (wr.alloc (.cells #[.int .i64 0, .int .i64 p, .int .i64 s, .slice none 0 0] 24)).drew.cell? ⟨g, o + j, none⟩ = some u → w6.cell? ⟨g, o + j, none⟩ = some u) ∧ (∀ u, (wr.alloc (.cells #[.int .i64 0, .int .i64 p, .int .i64 s, .slice none 0 0] 24)).drew.cell? ⟨gs, j, none⟩ = some u → w6.cell? ⟨gs, j, none⟩ = some u)))
        have HKH := hid (fun (w6 : World) (hg6 : (wr.alloc (.cells #[.int .i64 0, .int .i64 p, .int .i64 s, .slice none 0 0] 24)).drew.grownBy w6 (Value.slice rA j rc).ownBlock) => (show w6.heap[gs]? = wr.heap[gs]? from (hg6.block gs (by have := hald.size; omega) (fun e => hnb2 e.symm)).trans (hald.block gs hgsw)))
        have HNB2 : Hid ((Value.slice rA j rc).ownBlock ≠ some gs) := hnb2
        have hsz2 : (wr.alloc (.cells #[.int .i64 0, .int .i64 p, .int .i64 s, .slice none 0 0] 24)).drew.heap.size = wr.heap.size + 1 := World.size_alloc _ _
        have hlr := hxr.lt
        have HXR := hid hxr
        have HBR := hid hbr
        have HALD := hid hald
        have HSC2 := hid hsc2
        have HOO := hid how
        have hl11r := hx11.lt
        clear how hxr hbr hsc2 hx11 hst hcell hp hL hald hal hp0 hs0 hs
        go_upto_region 11 with fail
        have hS0 : Box wr.drew T11 24 #[.int .i64 2, .int .i64 0, .int .i64 0, .slice rA j rc] ∧ wr.drew.cell? ⟨g, o + j, none⟩ = some (.int .i64 p) ∧ wr.drew.cell? ⟨gs, j, none⟩ = some (.int .i64 s) := ⟨HX110.out.drew, HC10.out, HC20.out⟩
        refine wp_region_S (OneS 14 (fun w' => Box w' T11 24 #[.int .i64 2, .int .i64 0, .int .i64 0, .slice rA j rc] ∧ w'.cell? ⟨g, o + j, none⟩ = some (.int .i64 p) ∧ w'.cell? ⟨gs, j, none⟩ = some (.int .i64 s))) (by kernel_rfl) ?_
        refine takeN (k := 14) (i := 0) (v := ?v0l) 36 rfl rfl (by kernel_rfl) (by kernel_rfl) (by kernel_rfl) (by kernel_rfl) (by decide) (fun _ _ _ h => h) (Or.inl ⟨by rfl, fun w' _ => ?hy0l⟩) (fun _ => hS0) ?rest0l
        case hy0l => go_simp; try with_reducible rfl
        try simp only [Act.put, List.setIfInBounds_toArray, List.set_cons_zero, List.set_cons_succ]
        refine takeG (k := 14) (i := 1) (v := ?v1l) 37 rfl rfl (by kernel_rfl) (by kernel_rfl) (by kernel_rfl) (by kernel_rfl) (by decide) (by kernel_rfl) (fun _ _ _ h => h) (Or.inl ⟨by rfl, fun w' hw' => ?hy1l⟩) (fun _ => hS0) ?rest1l
        case hy1l => have x3 := hw'.1.cell 3; go_simp; try with_reducible rfl
        try simp only [Act.put, List.setIfInBounds_toArray, List.set_cons_zero, List.set_cons_succ]
        refine takeN (k := 14) (i := 2) (v := ?v2l) 38 rfl rfl (by kernel_rfl) (by kernel_rfl) (by kernel_rfl) (by kernel_rfl) (by decide) (fun _ _ _ h => h) (Or.inl ⟨by rfl, fun w' _ => ?hy2l⟩) (fun _ => hS0) ?rest2l
        case hy2l => go_simp; try with_reducible rfl
        try simp only [Act.put, List.setIfInBounds_toArray, List.set_cons_zero, List.set_cons_succ]
        refine takeN (k := 14) (i := 3) (v := ?v3l) 39 rfl rfl (by kernel_rfl) (by kernel_rfl) (by kernel_rfl) (by kernel_rfl) (by decide) (fun _ _ _ h => h) (Or.inl ⟨by rfl, fun w' _ => ?hy3l⟩) (fun _ => hS0) ?rest3l
        case hy3l => go_simp; try with_reducible rfl
        try simp only [Act.put, List.setIfInBounds_toArray, List.set_cons_zero, List.set_cons_succ]
        refine takeN (k := 14) (i := 4) (v := ?v4l) 40 rfl rfl (by kernel_rfl) (by kernel_rfl) (by kernel_rfl) (by kernel_rfl) (by decide) (fun _ _ _ h => h) (Or.inl ⟨by rfl, fun w' _ => ?hy4l⟩) (fun _ => hS0) ?rest4l
        case hy4l => go_simp; try with_reducible rfl
        try simp only [Act.put, List.setIfInBounds_toArray, List.set_cons_zero, List.set_cons_succ]
        refine takeG (k := 14) (i := 5) (v := ?v5l) 41 rfl rfl (by kernel_rfl) (by kernel_rfl) (by kernel_rfl) (by kernel_rfl) (by decide) (by kernel_rfl) (fun _ _ _ h => h) (Or.inl ⟨by rfl, fun w' hw' => ?hy5l⟩) (fun _ => hS0) ?rest5l
        case hy5l => have q1 := hw'.2.1; go_simp; try with_reducible rfl
        try simp only [Act.put, List.setIfInBounds_toArray, List.set_cons_zero, List.set_cons_succ]
        refine takeN (k := 14) (i := 6) (v := ?v6l) 42 rfl rfl (by kernel_rfl) (by kernel_rfl) (by kernel_rfl) (by kernel_rfl) (by decide) (fun _ _ _ h => h) (Or.inl ⟨by rfl, fun w' _ => ?hy6l⟩) (fun _ => hS0) ?rest6l
        case hy6l => go_simp; try with_reducible rfl
        try simp only [Act.put, List.setIfInBounds_toArray, List.set_cons_zero, List.set_cons_succ]
        refine takeN (k := 14) (i := 7) (v := ?v7l) 43 rfl rfl (by kernel_rfl) (by kernel_rfl) (by kernel_rfl) (by kernel_rfl) (by decide) (fun _ _ _ h => h) (Or.inl ⟨by rfl, fun w' _ => ?hy7l⟩) (fun _ => hS0) ?rest7l
        case hy7l => go_simp; try with_reducible rfl
        try simp only [Act.put, List.setIfInBounds_toArray, List.set_cons_zero, List.set_cons_succ]
        refine takeN (k := 14) (i := 8) (v := ?v8l) 44 rfl rfl (by kernel_rfl) (by kernel_rfl) (by kernel_rfl) (by kernel_rfl) (by decide) (fun _ _ _ h => h) (Or.inl ⟨by rfl, fun w' _ => ?hy8l⟩) (fun _ => hS0) ?rest8l
        case hy8l => go_simp; try with_reducible rfl
        try simp only [Act.put, List.setIfInBounds_toArray, List.set_cons_zero, List.set_cons_succ]
        refine takeG (k := 14) (i := 9) (v := ?v9l) 45 rfl rfl (by kernel_rfl) (by kernel_rfl) (by kernel_rfl) (by kernel_rfl) (by decide) (by kernel_rfl) (fun _ _ _ h => h) (Or.inl ⟨by rfl, fun w' hw' => ?hy9l⟩) (fun _ => hS0) ?rest9l
        case hy9l => have q2 := hw'.2.2; go_simp; try with_reducible rfl
        try simp only [Act.put, List.setIfInBounds_toArray, List.set_cons_zero, List.set_cons_succ]
        refine takeN (k := 14) (i := 10) (v := ?v10l) 46 rfl rfl (by kernel_rfl) (by kernel_rfl) (by kernel_rfl) (by kernel_rfl) (by decide) (fun _ _ _ h => h) (Or.inl ⟨by rfl, fun w' _ => ?hy10l⟩) (fun _ => hS0) ?rest10l
        case hy10l => go_simp; try with_reducible rfl
        try simp only [Act.put, List.setIfInBounds_toArray, List.set_cons_zero, List.set_cons_succ]
        refine oneS (k := 11) (by kernel_rfl) rfl (by rfl) (fun K hK => ?_)
        go_simp
        have hS1 : Box (wr.alloc (.cells #[.int .i64 0, .int .i64 p, .int .i64 s, .slice none 0 0] 24)).drew T11 24 #[.int .i64 2, .int .i64 0, .int .i64 0, .slice rA j rc] ∧ (wr.alloc (.cells #[.int .i64 0, .int .i64 p, .int .i64 s, .slice none 0 0] 24)).drew.cell? ⟨g, o + j, none⟩ = some (.int .i64 p) ∧ (wr.alloc (.cells #[.int .i64 0, .int .i64 p, .int .i64 s, .slice none 0 0] 24)).drew.cell? ⟨gs, j, none⟩ = some (.int .i64 s) := ⟨HX11.out.alloc _ |>.drew, HC1.out, HC2.out⟩
        refine hK _ _ (fun _ => hS1) ?_
        clear hK K
        try simp only [Act.put, List.setIfInBounds_toArray]
        clear hS0
        have hS0 := hS1
        clear hS1
        refine oneS (k := 12) (by kernel_rfl) rfl (by rfl) (fun K hK => ?_)
        refine wp_append_t (.tmp 37) (.tmp 47) rfl (W.heap.size + 1) 0 (.slice rA j rc) L (leafP p s, .slice none 0 0) wr.heap.size rfl HOW.out rfl HBX.out (TrB.leaf _ _ _ _) HLB.out (by omega) (Nat.zero_le _) ?_
        rintro v6 w6 hown6 hgrow6 hat6
        obtain ⟨g6, cp, cur6, hv6, hgb6, hgl6, hgc6, hgbox6, _, hcell6⟩ := hown6.row (by simp)
        rw [HLJ.out] at hv6 hgc6
        subst hv6
        have hx6 : Box w6 T11 24 #[.int .i64 2, .int .i64 0, .int .i64 0, .slice rA j rc] := hS0.1.grown hgrow6 (fun e => HNB.out (by rw [← e]))
        have hS1 : Box w6 T11 24 #[.int .i64 2, .int .i64 0, .int .i64 0, .slice rA j rc] ∧ w6.cell? ⟨g, o + j, none⟩ = some (.int .i64 p) ∧ w6.cell? ⟨gs, j, none⟩ = some (.int .i64 s) := ⟨hx6, (HKC.out w6 hgrow6).1 _ hS0.2.1, (HKC.out w6 hgrow6).2 _ hS0.2.2⟩
        refine hK _ _ (fun _ => hS1) ?_
        clear hK K
        try simp only [Act.put]
        clear hS0
        have hS0 := hS1
        clear hS1
        have x3 := hx6.cell 3
        have y3 := hx6.free 3
        have l6 := hx6.lt
        refine takeN (k := 14) (i := 13) (v := ?v13l) 49 rfl rfl (by kernel_rfl) (by kernel_rfl) (by kernel_rfl) (by kernel_rfl) (by decide) (fun _ _ _ h => h) (Or.inl ⟨by rfl, fun w' _ => ?hy13l⟩) (fun _ => hS0) ?rest13l
        case hy13l => go_simp; try with_reducible rfl
        try simp only [Act.put, List.setIfInBounds_toArray]
        refine oneS (k := 14) (by kernel_rfl) rfl (by rfl) (fun K hK => ?_)
        go_simp
        refine hK _ _ (fun h => (by simp at h)) ?_
        clear hK K
        try simp only [Act.put]
        refine doneS (by kernel_rfl) ?_ _
        go_wp2
        have hgne : g6 ≠ T11 ∧ g6 ≠ gs := by
          rcases hat6 with e | e
          · exact ⟨fun h => HNB.out (by rw [← e]; subst h; rfl), fun h => HNB2.out (by rw [← e]; subst h; rfl)⟩
          · have e : g6 = _ := Option.some.inj e
            rw [hsz2] at e
            exact ⟨by omega, by omega⟩
        have hwb : Below W.heap.size W w6 := (HBR.out.trans (HALD.out.mono HBR.out.size)).grown hgrow6 (by have := HALD.out.size; have := HBR.out.size; omega) fun k e => by have := (World.ownsRow.lt HOO.out.1 k e).1; omega
        have hxr6 := (HXR.out.below HALD.out HXR.out.lt).grown hgrow6 (fun e => by have := (World.ownsRow.lt HOO.out.1 _ e.symm).1; omega)
        have hz11 := hx6.set (i := 3) (.slice (some ⟨g6, 0, none⟩) (j + 1) cp)
        simp only [List.setIfInBounds_toArray, List.set_cons_zero, List.set_cons_succ] at hz11
        have how6 := OwnT.other hown6 (show (Value.slice (some ⟨g6, 0, none⟩) (j + 1) cp).ownBlock ≠ some T11 by show (some g6 : Option Nat) ≠ some T11; intro e; exact hgne.1 (Option.some.inj e)) (.inr (Nat.zero_le _)) (i := 3) (.slice (some ⟨g6, 0, none⟩) (j + 1) cp)
        rw [HST.out] at how6
        go_roundw
        case rel => exact ⟨j + 1, _, _, by go_num, by omega, hz11, how6, hxr6.other (by omega) _, below_set hwb (by omega) _, fun i u hu => by
            have h1 := HSC2.out i u hu
            unfold World.cell? at h1 ⊢
            rw [Below.heap_setCell w6 ⟨T11, 3, none⟩ _ gs (by show gs ≠ T11; omega), HKH.out w6 hgrow6]
            exact h1, ⟨by show (some g6 : Option Nat) ≠ some T11; intro e; exact hgne.1 (Option.some.inj e), by show (some g6 : Option Nat) ≠ some gs; intro e; exact hgne.2 (Option.some.inj e)⟩, by rw [size_set]; have := hgrow6.size; omega⟩
        case measure => simp [intOf]; omega
      · have hjn' : j = n := by omega
        subst hjn'
        obtain ⟨⟨a0, a1, a2, a3, a4⟩, f0, f1, f2, f3, f4⟩ := hxr.five
        obtain ⟨⟨b0, b1, b2, b3⟩, _⟩ := hx11.four
        have hlr := hxr.lt
        have hlr11 := hx11.lt
        have hj0 : (0 : Int) < j := by omega
        have hj0n : 0 < j := by omega
        have HXR := hid hxr
        have HOO := hid how
        have HBR := hid hbr
        clear hx11 how hxr hbr hsc2 hnb1 hnb2 hj
        go_wp2
        have hz := five_cells HXR.out rfl (.int .i64 2) (.int .i64 0) (.int .i64 0) (.slice rA j rc) (.bool true)
        have d0 := hz.cell 0
        have d1 := hz.cell 1
        have d2 := hz.cell 2
        have d3 := hz.cell 3
        have d4 := hz.cell 4
        have htr := HOO.out.tree (T := wr.heap.size) (fun k e => (World.ownsRow.lt HOO.out.1 k e).2) (Nat.zero_le _) 2 0 0
        exact bodyPost_ret (v := .agg #[.int .i64 2, .int .i64 0, .int .i64 0, .slice rA j rc, .bool true]) (by simp [results, Try.f44, go_sem, d0, d1, d2, d3, d4]) rfl ⟨below_set5 HBR.out (Nat.le_refl _), .mk 2 0 0 ((lineL c ps j).map Prod.fst), rA, j, rc, true, rfl, htr.into (five_into (Nat.le_refl _) (fun c h1 _ => by omega) W.heap.size (by omega)), .inr ⟨HLN.out, rfl⟩⟩
end Go.Proofs.Ytglfolbimafcaaa
