/- Layer 12, the package: each, shared, row, pile. -/
import Derived.Test.YtglfolbimafcaaaPresetAQ
import Derived.Test.YtglfolbimafcaaaPresetTQ
import Derived.Deep.DeepCutAuto
namespace Go.Proofs.Ytglfolbimafcaaa
open Go.RowKit

/-- A slice that reads as these numbers. -/
def NRow (W : World) (v : Value) (l : List Int) : Prop :=
  ∃ A c, v = .slice A l.length c ∧ l.length ≤ c ∧ (l ≠ [] → ∃ g o, A = some ⟨g, o, none⟩ ∧ g < W.heap.size ∧ ∀ j x, l[j]? = some x → W.cell? ⟨g, o + j, none⟩ = some (.int .i64 x))
theorem NRow.below {W W' : World} {v : Value} {l : List Int} (h : NRow W v l) (hb : Below W.heap.size W W') : NRow W' v l := by
  obtain ⟨A, c, rfl, hc, hl⟩ := h
  refine ⟨A, c, rfl, hc, fun hn => ?_⟩
  obtain ⟨g, o, hA, hg, hx⟩ := hl hn
  exact ⟨g, o, hA, Nat.lt_of_lt_of_le hg hb.size, fun j x hj => (hb.cell (p := ⟨g, o + j, none⟩) hg).trans (hx j x hj)⟩
def leaves0 (ps : List Int) : List (Tr × Value) := ps.map fun p => (leafP p 0, .slice none 0 0)
def EachPost (W : World) (ps : List Int) (e : Ending) (w' : World) : Prop := ∃ u, e = .returned u ∧ OwnT w' W.heap.size 0 u (leaves0 ps) ∧ Below W.heap.size W w'
set_option maxRecDepth 100000 in
set_option maxHeartbeats 2000000 in
theorem each_any (v : Value) (ps : List Int) (W : World) (h : NRow W v ps) (hn : ps.length ≤ 1000) : Calls Try.prog 73 #[v] W (EachPost W ps) := by
  obtain ⟨A, c, rfl, hcc, hl⟩ := h
  obtain ⟨n, hnn⟩ : ∃ n, ps.length = n := ⟨_, rfl⟩
  rw [hnn] at hn hcc ⊢
  have HL := hid hl
  have hni : (n : Int) ≤ 1000 := by omega
  clear hl
  go_enter Try.func73, Try.ntmps73
  go_wp2_with fail
  go_loopw [3, 8] (fun rv i wr => ∃ k : Nat, i = .int .i64 k ∧ k ≤ n ∧ OwnT wr W.heap.size 0 rv (leaves0 (ps.take k)) ∧ Below W.heap.size W wr) (fun _ i _ => n - (intOf i).toNat)
  case atStart => exact ⟨0, rfl, Nat.zero_le _, OwnT.nil _ _ _, Below.refl _ _⟩
  case round =>
    obtain ⟨k, rfl, hkn, hown, hbr⟩ := hrel
    by_cases hk : k < n
    · have hki : (k : Int) < n := by omega
      obtain ⟨p, hp⟩ : ∃ p, ps[k]? = some p := ⟨_, List.getElem?_eq_getElem (by omega)⟩
      obtain ⟨g, o, rfl, hg, hcell⟩ := HL.out (by intro e; rw [e] at hnn; simp at hnn; omega)
      have q0 : wr.cell? ⟨g, o + k, none⟩ = some (.int .i64 p) := (hbr.cell (p := ⟨g, o + k, none⟩) hg).trans (hcell k p hp)
      have HT : Hid (leaves0 (ps.take k) ++ [(leafP p 0, .slice none 0 0)] = leaves0 (ps.take (k + 1))) := by
        unfold Hid leaves0
        rw [List.take_add_one, hp, List.map_append]
        rfl
      have hx := Box.new wr 24 (trow (leafP p 0, .slice none 0 0)).toArray
      have ho2 := hown.kept (below_alloc wr (.cells (trow (leafP p 0, .slice none 0 0)).toArray 24)) (Nat.zero_le _)
      have hz := hbr.size
      have HB := hid (hbr.alloc hbr.size (.cells (trow (leafP p 0, .slice none 0 0)).toArray 24))
      have hlen : (leaves0 (ps.take k)).length ≤ 1000 := by unfold leaves0; rw [List.length_map, List.length_take]; omega
      obtain ⟨L, hL⟩ : ∃ L, leaves0 (ps.take k) = L := ⟨_, rfl⟩
      rw [hL] at hown HT ho2 hlen
      have HOW := hid hown
      obtain ⟨rA, rc, hrv⟩ := hown.spell
      clear hbr hcell hp hL hown
      obtain ⟨m, hm⟩ : ∃ m, L.length = m := ⟨_, rfl⟩
      rw [hm] at hrv
      subst hrv
      have HO2 := hid ho2
      have HX := hid hx
      clear ho2 hx
      go_wp2_with (at_builtin; refine wpList_append_t rfl _ _ rfl W.heap.size 0 _ L (leafP p 0, .slice none 0 0) wr.heap.size rfl HO2.out rfl HX.out (TrB.leaf _ _ _ _) hlen (by rw [World.size_alloc]; omega) (Nat.zero_le _) ?_; intro v' w1 hown' hgrow hat)
      go_roundw
      case rel => exact ⟨k + 1, by go_num, by omega, HT.out ▸ hown', HB.out.grown hgrow HB.out.size (fun j e => by obtain ⟨q1, q2⟩ := World.ownsRow.lt HO2.out.1 j e; omega)⟩
      case measure => simp [intOf]; omega
    · have hkn' : k = n := by omega
      subst hkn'
      rw [← hnn, List.take_length] at hown
      have HOW := hid hown
      have HB := hid hbr
      obtain ⟨rA, rc, rfl⟩ := hown.spell
      clear hown hbr hk
      go_wp2
      go_ret
      exact ⟨_, rfl, HOW.out, HB.out⟩

theorem even_room (c m : Nat) (W : World) (hc1 : 1 ≤ c) (hc : c ≤ 80) (hm1 : 1 ≤ m) (hm : m ≤ 8) (hr : roomB c m = true) : Calls Try.prog 16 #[.int .i64 c, .int .i64 m] W fun e w' => Below W.heap.size W w' ∧ ∃ g, W.heap.size ≤ g ∧ e = .returned (.tuple #[.slice (some ⟨g, 0, none⟩) m m, .int .i64 0]) ∧ Box w' g 3 (ints (evenL c m)).toArray := by
  refine (even_good c m W hc1 hc hm1 hm).mono ?_
  rintro e w' ⟨hb, ⟨h, _⟩ | ⟨_, h, _⟩ | ⟨_, _, h⟩⟩
  · omega
  · rw [Int.toNat_natCast, Int.toNat_natCast, hr] at h; cases h
  · exact ⟨hb, h⟩
theorem even_none (c m : Nat) (W : World) (hc1 : 1 ≤ c) (hc : c ≤ 80) (hm1 : 1 ≤ m) (hm : m ≤ 8) (hr : roomB c m = false) : Calls Try.prog 16 #[.int .i64 c, .int .i64 m] W fun e w' => e = .returned (.tuple #[.slice none 0 0, .int .i64 9]) ∧ Below W.heap.size W w' := by
  refine (even_good c m W hc1 hc hm1 hm).mono ?_
  rintro e w' ⟨hb, ⟨h, _⟩ | ⟨_, _, h⟩ | ⟨_, h, _⟩⟩
  · omega
  · exact ⟨h, hb⟩
  · rw [Int.toNat_natCast, Int.toNat_natCast, hr] at h; cases h
/-- The row with the first j Sizes set. -/
def dealG (c : Nat) (L : List (Tr × Value)) (j : Nat) : List (Tr × Value) := L.mapIdx fun i e => if i < j then (e.1.sized (shareN c L.length i), e.2) else e
theorem dealG_zero (c : Nat) (L : List (Tr × Value)) : dealG c L 0 = L := by
  unfold dealG
  apply List.ext_getElem?
  intro i
  simp
theorem dealG_len (c : Nat) (L : List (Tr × Value)) (j : Nat) : (dealG c L j).length = L.length := by simp [dealG]
theorem dealG_at {c : Nat} {L : List (Tr × Value)} {j : Nat} {e : Tr × Value} (h : L[j]? = some e) : (dealG c L j)[j]? = some e := by simp [dealG, h]
theorem dealG_step {c : Nat} {L : List (Tr × Value)} {j : Nat} {e : Tr × Value} (h : L[j]? = some e) : (dealG c L j).set j (e.1.sized (shareN c L.length j), e.2) = dealG c L (j + 1) := by
  apply List.ext_getElem?
  intro i
  have hj : j < L.length := (List.getElem?_eq_some_iff.1 h).1
  rw [List.getElem?_set]
  by_cases hi : j = i
  · subst hi
    rw [if_pos rfl, if_pos (by rw [dealG_len]; exact hj)]
    simp [dealG, h]
  · rw [if_neg hi]
    simp only [dealG, List.getElem?_mapIdx]
    congr 1
    funext e
    by_cases h2 : i < j
    · rw [if_pos h2, if_pos (by omega)]
    · rw [if_neg h2, if_neg (by omega)]
theorem dealG_full (c : Nat) (L : List (Tr × Value)) : (dealG c L L.length).map Prod.fst = dealT c (L.map Prod.fst) := by
  apply List.ext_getElem?
  intro i
  unfold dealT dealG
  rw [List.getElem?_zipWith, List.getElem?_map, List.getElem?_mapIdx, List.getElem?_map, List.length_map]
  cases h : L[i]? with
  | none => rfl
  | some e =>
    have hi := (List.getElem?_eq_some_iff.1 h).1
    rw [evenL_at hi]
    simp [hi]
theorem dealG_at' {c : Nat} {L : List (Tr × Value)} {j i : Nat} {e : Tr × Value} (h : L[i]? = some e) : ∃ s, (dealG c L j)[i]? = some (e.1.sized s, e.2) := by
  by_cases hi : i < j
  · exact ⟨_, by simp [dealG, h, hi]; rfl⟩
  · refine ⟨e.1.size, ?_⟩
    obtain ⟨⟨k, p, s, l⟩, v⟩ := e
    simp [dealG, h, hi, Tr.sized, Tr.kind, Tr.pane, Tr.size, Tr.kids]
/-- A tree's cells, as a value. -/
def tagg (t : Tr) (kv : Value) : Value := .agg #[.int .i64 t.kind, .int .i64 t.pane, .int .i64 t.size, kv]
/-- What lays panes comes to: a tree whose kids lie in new blocks, or no room. -/
def LayP (W : World) (base : Nat) (o : Option Tr) (e : Ending) (w' : World) : Prop :=
  Below base W w' ∧ ((o = none ∧ e = .returned (.tuple #[.agg #[.int .i64 0, .int .i64 0, .int .i64 0, .slice none 0 0], .int .i64 9])) ∨ ∃ t kv, o = some t ∧ e = .returned (.tuple #[tagg t kv, .int .i64 0]) ∧ TrB w' (fun b => base ≤ b ∧ b < w'.heap.size) t kv)
/-- The same, and what is no cells lies as it lay. -/
def LayK (W : World) (base : Nat) (o : Option Tr) (e : Ending) (w' : World) : Prop := LayP W base o e w' ∧ KeepsOthers W w'
set_option maxRecDepth 100000 in
set_option maxHeartbeats 4000000 in
theorem shared_one (k : Int) (c : Nat) (v : Value) (L : List (Tr × Value)) (base top : Nat) (W : World) (h : OwnT W base top v L) (hbase : base ≤ W.heap.size) (htop : top ≤ W.heap.size) (h1 : L.length = 1) : Calls Try.prog 72 #[.int .i64 k, .int .i64 c, v] W (LayK W base (sharedT k c (L.map Prod.fst))) := by
  obtain ⟨⟨t, kv⟩, rfl⟩ := List.length_eq_one_iff.1 h1
  obtain ⟨kA, kc, hkv, _⟩ := (h.2 (t, kv) (List.mem_cons_self ..)).spell
  obtain ⟨kn, hkn⟩ : ∃ kn, t.kids.length = kn := ⟨_, rfl⟩
  simp only at hkv
  rw [hkn] at hkv
  subst hkv
  obtain ⟨kv, hkv⟩ : ∃ kv, Value.slice kA kn kc = kv := ⟨_, rfl⟩
  rw [hkv] at h
  obtain ⟨g, rc, cur, rfl, hg, hgl, hrc, _, _, hcell⟩ := h.row (by simp)
  have q0 := hcell 0 (t, kv) 0 _ rfl rfl
  have q1 := hcell 0 (t, kv) 1 _ rfl rfl
  have q2 := hcell 0 (t, kv) 2 _ rfl rfl
  have q3 := hcell 0 (t, kv) 3 _ rfl rfl
  simp only [Nat.zero_mul, Nat.zero_add] at q0 q1 q2 q3
  have hb1 := below_alloc W (.cells #[.int .i64 0, .int .i64 0, .int .i64 0, .slice none 0 0] 24)
  have r0 := (hb1.cell (p := ⟨g, 0, none⟩) hgl).trans q0
  have r1 := (hb1.cell (p := ⟨g, 1, none⟩) hgl).trans q1
  have r2 := (hb1.cell (p := ⟨g, 2, none⟩) hgl).trans q2
  have r3 := (hb1.cell (p := ⟨g, 3, none⟩) hgl).trans q3
  have HP := hid (show ∀ w', Below W.heap.size W w' → LayK W base (sharedT k c ([(t, kv)].map Prod.fst)) (.returned (.tuple #[tagg t kv, .int .i64 0])) w' from fun w' hb => ⟨⟨hb.mono hbase, .inr ⟨t, kv, rfl, rfl, (h.2 (t, kv) (List.mem_cons_self ..)).into (Into.block fun b ⟨⟨a1, _⟩, a3⟩ => ⟨⟨a1, Nat.lt_of_lt_of_le a3 (Nat.le_trans htop hb.size)⟩, hb.block b (Nat.lt_of_lt_of_le a3 htop)⟩)⟩⟩, below_others hb⟩)
  have HB := hid (below_alloc W (.cells #[.int .i64 t.kind, .int .i64 t.pane, .int .i64 t.size, kv] 24))
  have hne : ¬ g = W.heap.size := by omega
  clear h hcell hb1 q0 q1 q2 q3
  subst hkv
  go_enter Try.func72, Try.ntmps72
  go_wp2
  exact bodyPost_ret (v := .tuple #[tagg t (.slice kA kn kc), .int .i64 0]) (by simp [results, Try.f72, go_sem, tagg]) rfl (HP.out _ HB.out)
set_option maxRecDepth 100000 in
set_option maxHeartbeats 4000000 in
theorem shared_none (k : Int) (c n : Nat) (v : Value) (base : Nat) (W : World) (hv : ∃ A cc, v = .slice A n cc) (hbase : base ≤ W.heap.size) (l : List Tr) (hl : l.length = n) (h2 : 2 ≤ n) (h8 : n ≤ 8) (hc1 : 1 ≤ c) (hc : c ≤ 80) (hr : roomB c n = false) : Calls Try.prog 72 #[.int .i64 k, .int .i64 c, v] W (LayK W base (sharedT k c l)) := by
  obtain ⟨A, cc, rfl⟩ := hv
  have HV : Hid (sharedT k c l = none) := by unfold Hid sharedT; rw [if_neg (by omega), if_neg (by rw [hl, hr]; decide)]
  have HE := hid (fun W => even_none c n W hc1 hc (by omega) h8 hr)
  have hb1 := below_alloc W (.cells #[.int .i64 0, .int .i64 0, .int .i64 0, .slice none 0 0] 24)
  have hx := Box.new W 24 #[.int .i64 0, .int .i64 0, .int .i64 0, .slice none 0 0]
  have hn1 : ¬ (n : Int) = 1 := by omega
  have HB1 := hid hb1
  have HX := hid hx
  clear hb1 hx hl hr
  go_enter Try.func72, Try.ntmps72
  go_wp2_with ((with_reducible refine (HE.out _).mono ?_); rintro e w2 ⟨rfl, hb2⟩; have hx2 := HX.out.below hb2 HX.out.lt; have hlt := hx2.lt; obtain ⟨⟨k0, k1, k2, k3⟩, f0, f1, f2, f3⟩ := hx2.four; have HX2 := hid hx2)
  have hx3 := (((HX2.out.set (i := 0) (.int .i64 0)).set (i := 1) (.int .i64 0)).set (i := 2) (.int .i64 0)).set (i := 3) (.slice none 0 0)
  have c0 := hx3.cell 0
  have c1 := hx3.cell 1
  have c2 := hx3.cell 2
  have c3 := hx3.cell 3
  have hbb := HB1.out.trans (hb2.mono HB1.out.size)
  have hz := (below_set (below_set (below_set (below_set hbb (Nat.le_refl _) (i := 0) (.int .i64 0)) (Nat.le_refl _) (i := 1) (.int .i64 0)) (Nat.le_refl _) (i := 2) (.int .i64 0)) (Nat.le_refl _) (i := 3) (.slice none 0 0))
  exact bodyPost_ret (v := .tuple #[.agg #[.int .i64 0, .int .i64 0, .int .i64 0, .slice none 0 0], .int .i64 9]) (by simp [results, Try.f72, go_sem, c0, c1, c2, c3]) rfl ⟨⟨hz.mono hbase, .inl ⟨HV.out, rfl⟩⟩, below_others hz⟩
set_option maxRecDepth 100000 in
set_option maxHeartbeats 4000000 in
theorem shared_many (k : Int) (c : Nat) (v : Value) (L : List (Tr × Value)) (base top : Nat) (W : World) (h : OwnT W base top v L) (hbase : base ≤ W.heap.size) (htop : top ≤ W.heap.size) (h2 : 2 ≤ L.length) (h8 : L.length ≤ 8) (hc1 : 1 ≤ c) (hc : c ≤ 80) (hr : roomB c L.length = true) : Calls Try.prog 72 #[.int .i64 k, .int .i64 c, v] W (LayK W base (sharedT k c (L.map Prod.fst))) := by
  have hne : L ≠ [] := by intro e; rw [e] at h2; simp at h2
  obtain ⟨g, rc, cur, rfl, hg, hgl, hrc, _, _, _⟩ := h.row hne
  have HV : Hid (sharedT k c (L.map Prod.fst) = some (.mk k 0 0 ((dealG c L L.length).map Prod.fst))) := by unfold Hid sharedT; rw [List.length_map, if_neg (by omega), if_pos hr, dealG_full]
  obtain ⟨n, hn⟩ : ∃ n, L.length = n := ⟨_, rfl⟩
  have HN := hid hn
  have HE := hid (fun W => even_room c n W hc1 hc (by omega) (by omega) (hn ▸ hr))
  rw [hn] at h hrc h2 h8 HV ⊢
  have hb1 := below_alloc W (.cells #[.int .i64 0, .int .i64 0, .int .i64 0, .slice none 0 0] 24)
  have hx := Box.new W 24 #[.int .i64 0, .int .i64 0, .int .i64 0, .slice none 0 0]
  have hn1 : ¬ (n : Int) = 1 := by omega
  have HB1 := hid hb1
  have HX := hid hx
  have HO := hid (h.kept hb1 htop)
  clear hb1 hx hr h hn
  go_enter Try.func72, Try.ntmps72
  go_wp2_with (first | ((with_reducible refine (HE.out _).mono ?_); rintro e w2 ⟨hb2, gs, hgs, rfl, hxs⟩) | fail)
  have hz1 := HB1.out.size
  have hzz : (W.alloc (.cells #[.int .i64 0, .int .i64 0, .int .i64 0, .slice none 0 0] 24)).heap.size = W.heap.size + 1 := World.size_alloc _ _
  have HO2 := hid (HO.out.kept hb2 (by omega))
  have HX2 := hid (HX.out.below hb2 HX.out.lt)
  have HB2 := hid (HB1.out.trans (hb2.mono HB1.out.size))
  have HXS := hid hxs
  rw [hzz] at hgs
  have hgsl := hxs.lt
  clear hb2 hxs HO HX HB1
  go_loopw [30] (fun i wr => ∃ j : Nat, i = .int .i64 j ∧ j ≤ n ∧ OwnT wr base top (.slice (some ⟨g, 0, none⟩) n rc) (dealG c L j) ∧ Box wr W.heap.size 24 #[.int .i64 0, .int .i64 0, .int .i64 0, .slice none 0 0] ∧ Box wr gs 3 (ints (evenL c n)).toArray ∧ Below base W wr ∧ KeepsOthers W wr) (fun i _ => n - (intOf i).toNat)
  case atStart => exact ⟨0, rfl, Nat.zero_le _, by rw [dealG_zero]; exact HO2.out, HX2.out, HXS.out, HB2.out.mono hbase, below_others HB2.out⟩
  case round =>
    obtain ⟨j, rfl, hjn, how, hbx, hes, hbr, hko⟩ := hrel
    have hsz := hko.size
    by_cases hj : j < n
    · have hji : (j : Int) < n := by omega
      obtain ⟨e, he⟩ : ∃ e, L[j]? = some e := ⟨_, List.getElem?_eq_getElem (by rw [HN.out]; exact hj)⟩
      have hat := dealG_at (c := c) he
      have hst := dealG_step (c := c) he
      rw [HN.out] at hst
      have hq : wr.cell? ⟨gs, j, none⟩ = some (.int .i64 (shareN c n j)) := (hes.cell j).trans (by rw [← evP_full, evP_at hj, if_pos hj])
      obtain ⟨g2, rc2, cur2, hv2, _, hgl2, hrc2, hbox2, hcs2, hcell2⟩ := how.row (by intro e'; rw [e'] at hat; simp at hat)
      rw [dealG_len, HN.out] at hv2
      cases hv2
      have hfree := hbox2.free (j * 4 + 2)
      have HOS := hid (hst ▸ how.sized hat (shareN c n j))
      have HBS := hid (hbx.other (b' := g) (i := j * 4 + 2) (by omega) (.int .i64 (shareN c n j)))
      have HES := hid (hes.other (b' := g) (i := j * 4 + 2) (by omega) (.int .i64 (shareN c n j)))
      have HRS := hid (below_set hbr hg (i := j * 4 + 2) (.int .i64 (shareN c n j)))
      obtain ⟨x, hx⟩ : ∃ x : Int, (shareN c n j : Int) = x := ⟨_, rfl⟩
      rw [hx] at hq HOS HBS HES HRS
      have q2 : wr.cell? ⟨g, j * 4 + 2, none⟩ = some (.int .i64 e.1.size) := hcell2 j e 2 _ hat rfl
      clear how hbx hes hbr hat hst he hcell2 hbox2 hx
      go_wp2
      go_roundw
      case rel => exact ⟨j + 1, by go_num, by omega, HOS.out, HBS.out, HES.out, HRS.out, hko.trans (KeepsOthers.setCell _ _ _)⟩
      case measure => simp [intOf]; omega
    · have hjn' : j = n := by omega
      subst hjn'
      obtain ⟨⟨k0, k1, k2, k3⟩, f0, f1, f2, f3⟩ := hbx.four
      have hx3 := (((hbx.set (i := 0) (.int .i64 k)).set (i := 1) (.int .i64 0)).set (i := 2) (.int .i64 0)).set (i := 3) (.slice (some ⟨g, 0, none⟩) j rc)
      have hlt := hbx.lt
      have c0 := hx3.cell 0
      have c1 := hx3.cell 1
      have c2 := hx3.cell 2
      have c3 := hx3.cell 3
      have HZ := hid (below_set (below_set (below_set (below_set hbr hbase (i := 0) (.int .i64 k)) hbase (i := 1) (.int .i64 0)) hbase (i := 2) (.int .i64 0)) hbase (i := 3) (.slice (some ⟨g, 0, none⟩) j rc))
      have HT := hid (how.tree (T := W.heap.size) (fun x e => by cases e; exact hgl) htop k 0 0)
      clear how hbr hes hx3 hbx hj
      go_wp2
      have hin : Into wr ((((wr.setCell ⟨W.heap.size, 0, none⟩ (.int .i64 k)).setCell ⟨W.heap.size, 1, none⟩ (.int .i64 0)).setCell ⟨W.heap.size, 2, none⟩ (.int .i64 0)).setCell ⟨W.heap.size, 3, none⟩ (.slice (some ⟨g, 0, none⟩) j rc)) (fun b => base ≤ b ∧ b < W.heap.size) (fun b => base ≤ b ∧ b < ((((wr.setCell ⟨W.heap.size, 0, none⟩ (.int .i64 k)).setCell ⟨W.heap.size, 1, none⟩ (.int .i64 0)).setCell ⟨W.heap.size, 2, none⟩ (.int .i64 0)).setCell ⟨W.heap.size, 3, none⟩ (.slice (some ⟨g, 0, none⟩) j rc)).heap.size) :=
        Into.block fun b ⟨b1, b2⟩ => ⟨⟨b1, by rw [size_set, size_set, size_set, size_set]; omega⟩, by rw [Below.heap_setCell _ _ _ b (show b ≠ W.heap.size by omega), Below.heap_setCell _ _ _ b (show b ≠ W.heap.size by omega), Below.heap_setCell _ _ _ b (show b ≠ W.heap.size by omega), Below.heap_setCell _ _ _ b (show b ≠ W.heap.size by omega)]⟩
      exact bodyPost_ret (v := .tuple #[tagg (.mk k 0 0 ((dealG c L j).map Prod.fst)) (.slice (some ⟨g, 0, none⟩) j rc), .int .i64 0]) (by simp [results, Try.f72, go_sem, c0, c1, c2, c3, tagg, Tr.kind, Tr.pane, Tr.size]) rfl ⟨⟨HZ.out, .inr ⟨_, _, HV.out, rfl, HT.out.into hin⟩⟩, hko.trans ((((KeepsOthers.setCell _ _ _).trans (KeepsOthers.setCell _ _ _)).trans (KeepsOthers.setCell _ _ _)).trans (KeepsOthers.setCell _ _ _))⟩
theorem shared_any (k : Int) (c : Nat) (v : Value) (L : List (Tr × Value)) (base top : Nat) (W : World) (h : OwnT W base top v L) (hbase : base ≤ W.heap.size) (htop : top ≤ W.heap.size) (h1 : 1 ≤ L.length) (h8 : L.length ≤ 8) (hc1 : 1 ≤ c) (hc : c ≤ 80) : Calls Try.prog 72 #[.int .i64 k, .int .i64 c, v] W (LayK W base (sharedT k c (L.map Prod.fst))) := by
  by_cases h2 : L.length = 1
  · exact shared_one k c v L base top W h hbase htop h2
  · cases hr : roomB c L.length
    · exact shared_none k c L.length v base W h.spell hbase (L.map Prod.fst) (List.length_map _) (by omega) h8 hc1 hc hr
    · exact shared_many k c v L base top W h hbase htop (by omega) h8 hc1 hc hr
/-- The same, told at once: the tree's cells, and what is wrong. -/
theorem LayP.one {W w' : World} {base : Nat} {o : Option Tr} {e : Ending} (h : LayP W base o e w') : Below base W w' ∧ ∃ (t : Tr) (kA : Option Addr) (kn kc : Nat) (err : Int), e = .returned (.tuple #[.agg #[.int .i64 t.kind, .int .i64 t.pane, .int .i64 t.size, .slice kA kn kc], .int .i64 err]) ∧ TrB w' (fun b => base ≤ b ∧ b < w'.heap.size) t (.slice kA kn kc) ∧ ((o = none ∧ t = .mk 0 0 0 [] ∧ err = 9 ∧ kA = none ∧ kn = 0 ∧ kc = 0) ∨ (o = some t ∧ err = 0)) := by
  obtain ⟨hb, ⟨h1, rfl⟩ | ⟨t, kv, h1, rfl, ht⟩⟩ := h
  · refine ⟨hb, .mk 0 0 0 [], none, 0, 0, 9, rfl, ?_, .inl ⟨h1, rfl, rfl, rfl, rfl, rfl⟩⟩
    unfold TrB
    exact ⟨none, 0, rfl, Nat.le_refl _, fun h => absurd rfl h⟩
  · obtain ⟨kA, kc, rfl, _⟩ := ht.spell
    exact ⟨hb, t, kA, _, kc, 0, rfl, ht, .inr ⟨h1, rfl⟩⟩
theorem LayP.of {W w' : World} {base : Nat} {o : Option Tr} {t : Tr} {kA : Option Addr} {kn kc : Nat} {err : Int} (hb : Below base W w') (ht : TrB w' (fun b => base ≤ b ∧ b < w'.heap.size) t (.slice kA kn kc)) (h : (o = none ∧ t = .mk 0 0 0 [] ∧ err = 9 ∧ kA = none ∧ kn = 0 ∧ kc = 0) ∨ (o = some t ∧ err = 0)) : LayP W base o (.returned (.tuple #[.agg #[.int .i64 t.kind, .int .i64 t.pane, .int .i64 t.size, .slice kA kn kc], .int .i64 err])) w' := by
  refine ⟨hb, ?_⟩
  rcases h with ⟨rfl, rfl, rfl, rfl, rfl, rfl⟩ | ⟨rfl, rfl⟩
  · exact .inl ⟨rfl, rfl⟩
  · exact .inr ⟨_, _, rfl, rfl, ht⟩
/-- Four cells of a box are set: the rest lies as it lay. -/
theorem four_into {W : World} {b base T : Nat} {x y z u : Value} (hT : T ≤ W.heap.size) (hb : ∀ c, base ≤ c → c < T → c ≠ b) (base' : Nat) (hbb : base' ≤ base) :
    Into W ((((W.setCell ⟨b, 0, none⟩ x).setCell ⟨b, 1, none⟩ y).setCell ⟨b, 2, none⟩ z).setCell ⟨b, 3, none⟩ u) (fun c => base ≤ c ∧ c < T) (fun c => base' ≤ c ∧ c < ((((W.setCell ⟨b, 0, none⟩ x).setCell ⟨b, 1, none⟩ y).setCell ⟨b, 2, none⟩ z).setCell ⟨b, 3, none⟩ u).heap.size) :=
  Into.block fun c ⟨c1, c2⟩ => ⟨⟨by omega, by rw [size_set, size_set, size_set, size_set]; omega⟩, by
    have h := hb c c1 c2
    rw [Below.heap_setCell _ _ _ c (by exact h), Below.heap_setCell _ _ _ c (by exact h), Below.heap_setCell _ _ _ c (by exact h), Below.heap_setCell _ _ _ c (by exact h)]⟩
end Go.Proofs.Ytglfolbimafcaaa
