/- Layer 12: the reference's Even; the statements' alive. -/
import Derived.Test.YtglfolbimafcaaaPresetEQ
namespace Go.Proofs.Ytglfolbimafcaaa
open Go.RowKit

theorem OwnI.set_own {W : World} {base g n c j : Nat} {l : List Int} (h : OwnI W base (.slice (some ⟨g, 0, none⟩) n c) l) (x : Int) : OwnI (W.setCell ⟨g, j, none⟩ (.int .i64 x)) base (.slice (some ⟨g, 0, none⟩) n c) (l.set j x) := by
  have h' : W.ownsRow base 3 1 (.slice (some ⟨g, 0, none⟩) n c) l.length (ints l) := h
  obtain ⟨hl, h2⟩ := h'
  rcases h2 with ⟨h0, _⟩ | ⟨g', cap, cur, hv, hb, hg, hc, hm, hcs, htk⟩
  · cases h0
  · cases hv
    have e : ints (l.set j x) = (ints l).set j (.int .i64 x) := by unfold ints; rw [List.map_set]
    unfold OwnI
    rw [List.length_set, e]
    refine ⟨by rw [List.length_set]; exact hl, .inr ⟨g, c, cur.setIfInBounds j (.int .i64 x), rfl, hb, ?_, hc, hm, by simpa using hcs, ?_⟩⟩
    · exact Box.set (show Box W g 3 cur from hg) _
    · rw [Array.toList_setIfInBounds, List.take_set, htk]
theorem OwnI.cells {W : World} {base g n c : Nat} {l : List Int} (h : OwnI W base (.slice (some ⟨g, 0, none⟩) n c) l) : base ≤ g ∧ g < W.heap.size ∧ l.length ≤ c ∧ (∀ j, W.frozen? ⟨g, j, none⟩ = false) ∧ ∀ j x, l[j]? = some x → W.cell? ⟨g, j, none⟩ = some (.int .i64 x) := by
  have h' : W.ownsRow base 3 1 (.slice (some ⟨g, 0, none⟩) n c) l.length (ints l) := h
  rcases h.2 with ⟨h0, _⟩ | ⟨g', cap, cur, hv, hb, hg, hc, _⟩
  · cases h0
  · cases hv
    refine ⟨hb, (Array.getElem?_eq_some_iff.1 hg).1, hc, fun j => (show Box W g 3 cur from hg).free j, fun j x hx => ?_⟩
    have hj : j < l.length := (List.getElem?_eq_some_iff.1 hx).1
    rw [h'.cellAt j (by omega)]
    unfold ints
    rw [List.getElem?_map, hx]
    rfl
/-- The reference's row behind so many cells dealt out. -/
def qN (m i j : Nat) : Nat := (i + m - 1 - j) / m
def rE (m i : Nat) : List Int := (List.range m).map fun j => (qN m i j : Int)
theorem rE_len (m i : Nat) : (rE m i).length = m := by simp [rE]
theorem rE_at {m i j : Nat} (h : j < m) : (rE m i)[j]? = some (qN m i j : Int) := by simp [rE, h]
theorem rE_zero {m : Nat} : rE m 0 = List.replicate m 0 := by
  apply List.ext_getElem?
  intro j
  by_cases hj : j < m
  · rw [rE_at hj, List.getElem?_replicate, if_pos hj]
    have : qN m 0 j = 0 := Nat.div_eq_of_lt (by omega)
    rw [this]; rfl
  · rw [List.getElem?_eq_none (by rw [rE_len]; omega), List.getElem?_eq_none (by rw [List.length_replicate]; omega)]
theorem rE_num {m i : Nat} (hm : m ≤ 8) (hi : i ≤ 80) (j : Nat) (hj : j < m) : qN m (i + 1) j = qN m i j + (if i % m = j then 1 else 0) := by
  have h : ∀ m : Fin 9, ∀ i : Fin 81, ∀ j : Fin 9, j.val < m.val → qN m.val (i.val + 1) j.val = qN m.val i.val j.val + (if i.val % m.val = j.val then 1 else 0) := by decide +kernel
  exact h ⟨m, by omega⟩ ⟨i, by omega⟩ ⟨j, by omega⟩ hj
theorem rE_step {m i : Nat} (h1 : 1 ≤ m) (hm : m ≤ 8) (hi : i ≤ 80) : ∃ x : Nat, (rE m i)[i % m]? = some (x : Int) ∧ x ≤ 100 ∧ (rE m i).set (i % m) ((x : Int) + 1) = rE m (i + 1) := by
  have hlt : i % m < m := Nat.mod_lt _ h1
  refine ⟨qN m i (i % m), rE_at hlt, Nat.le_trans (Nat.div_le_self _ _) (by omega), ?_⟩
  apply List.ext_getElem?
  intro j
  rw [List.getElem?_set]
  by_cases hj : i % m = j
  · subst hj
    rw [if_pos rfl, if_pos (by rw [rE_len]; exact hlt), rE_at hlt, rE_num hm hi (i % m) hlt, if_pos rfl]
    rfl
  · rw [if_neg hj]
    by_cases hjm : j < m
    · rw [rE_at hjm, rE_at hjm, rE_num hm hi j hjm, if_neg hj]; rfl
    · rw [List.getElem?_eq_none (by rw [rE_len]; omega), List.getElem?_eq_none (by rw [rE_len]; omega)]
theorem rE_full {c m : Nat} (hm : m ≤ 8) (hc : c ≤ 80) : rE m (c + 1 - m) = evenL c m := by
  have h : ∀ m : Fin 9, ∀ c : Fin 81, ∀ j : Fin 9, j.val < m.val → qN m.val (c.val + 1 - m.val) j.val = shareN c.val m.val j.val := by decide +kernel
  apply List.ext_getElem?
  intro j
  by_cases hj : j < m
  · have := h ⟨m, by omega⟩ ⟨c, by omega⟩ ⟨j, by omega⟩ hj
    simp only at this
    rw [rE_at hj, evenL_at hj, this]
  · rw [List.getElem?_eq_none (by rw [rE_len]; omega), List.getElem?_eq_none (by rw [evenL_length]; omega)]
/-- What the reference's Even comes to. -/
def REvenPost (W : World) (c m : Nat) (e : Ending) (w' : World) : Prop :=
  Below W.heap.size W w' ∧ ((roomB c m = false ∧ e = .returned (.slice none 0 0)) ∨ (roomB c m = true ∧ ∃ v, e = .returned v ∧ OwnI w' W.heap.size v (evenL c m)))
set_option maxRecDepth 100000 in
set_option maxHeartbeats 4000000 in
theorem reven_any (c m : Nat) (W : World) (hc : c ≤ 80) (hm1 : 1 ≤ m) (hm : m ≤ 8) : Calls Try.prog 18 #[.int .i64 c, .int .i64 m] W (REvenPost W c m) := by
  have HL := hid (OwnI.lit (W := W) (base := W.heap.size) [] (by simp) (Nat.le_refl _))
  have HB := hid (below_alloc W (.cells #[] 3))
  go_enter Try.func18, Try.ntmps18
  go_wp2_with fail
  go_loopw [5, 6] (fun rv i wr => ∃ k : Nat, i = .int .i64 k ∧ k ≤ m ∧ OwnI wr W.heap.size rv (List.replicate k 0) ∧ Below W.heap.size W wr) (fun _ i _ => m - (intOf i).toNat)
  case atStart => exact ⟨0, rfl, Nat.zero_le _, HL.out, HB.out⟩
  case round =>
    obtain ⟨k, rfl, hkm, how, hbr⟩ := hrel
    by_cases hk : k < m
    · have hki : (k : Int) < m := by omega
      have hz := hbr.size
      have ho2 := how.kept (below_alloc wr (.cells (ints [0]).toArray 3))
      have hlit := lit_at (Box.new wr 3 (ints [0]).toArray)
      have HB2 := hid (hbr.alloc hbr.size (.cells (ints [0]).toArray 3))
      have hre : Hid (List.replicate k (0 : Int) ++ [0] = List.replicate (k + 1) 0) := (List.replicate_succ').symm
      obtain ⟨L, hL⟩ : ∃ L : List Int, List.replicate k 0 = L := ⟨_, rfl⟩
      have hlen : L.length = k := by rw [← hL, List.length_replicate]
      rw [hL] at how ho2 hre
      obtain ⟨rA, rc, rfl⟩ := how.spell
      rw [hlen] at ho2 ⊢
      have HO2 := hid ho2
      have HLT := hid hlit
      clear how hbr ho2 hlit hL
      go_wp2_with (at_builtin; refine wpList_append_ints rfl _ _ rfl W.heap.size _ L rfl HO2.out [0] ⟨wr.heap.size, 0, none⟩ 1 1 rfl rfl HLT.out (by omega) (by rw [World.size_alloc]; omega) ?_; intro v' w1 hown' hgrow)
      go_roundw
      case rel => exact ⟨k + 1, by go_num, by omega, hre.out ▸ hown', HB2.out.grown hgrow HB2.out.size (fun j e => (World.ownsRow.lt HO2.out j e).1)⟩
      case measure => simp [intOf]; omega
    · have hkm' : k = m := by omega
      subst hkm'
      rw [← rE_zero] at how
      obtain ⟨g, rc, hrv, hbg, hkc, _⟩ := how.row (by intro e; have := congrArg List.length e; rw [rE_len] at this; simp at this; omega)
      rw [rE_len] at hrv hkc
      subst hrv
      have HO := hid how
      have HB2 := hid hbr
      obtain ⟨s, hs⟩ : ∃ s : Int, (c : Int) - k + 1 = s := ⟨_, rfl⟩
      have hs80 : -10 ≤ s ∧ s ≤ 80 := by omega
      have hsub : (c : Int) - k = s - 1 := by omega
      have HNN := hid (show s.toNat = c + 1 - k by omega)
      clear how hbr hk
      obtain ⟨wo, rfl⟩ : ∃ wo : World, wo = wr := ⟨_, rfl⟩
      go_wp2_with fail
      go_loopw [7] (fun i wr => ∃ j : Nat, i = .int .i64 j ∧ j ≤ s.toNat ∧ OwnI wr W.heap.size (.slice (some ⟨g, 0, none⟩) k rc) (rE k j) ∧ Below W.heap.size W wr) (fun i _ => s.toNat - (intOf i).toNat)
      case atStart => exact ⟨0, rfl, Nat.zero_le _, HO.out, HB2.out⟩
      case round =>
        obtain ⟨j, rfl, hjs, how, hbr⟩ := hrel
        by_cases hj : j < s.toNat
        · have hji : (j : Int) < s := by omega
          obtain ⟨x, hx, hx100, hst⟩ := rE_step (m := k) (i := j) hm1 hm (by omega)
          obtain ⟨_, hgl, _, hfr, hcell⟩ := how.cells
          have hlt : j % k < k := Nat.mod_lt _ hm1
          have HOS := hid (hst ▸ how.set_own (j := j % k) ((x : Int) + 1))
          have HBS := hid (below_set hbr hbg (i := j % k) (.int .i64 ((x : Int) + 1)))
          have q0 := hcell _ _ hx
          have f0 := hfr (j % k)
          have hmod : (j : Int).tmod k = ((j % k : Nat) : Int) := by rw [Int.tmod_eq_emod_of_nonneg (by omega)]; rfl
          obtain ⟨r, hr⟩ : ∃ r, j % k = r := ⟨_, rfl⟩
          rw [hr] at HOS HBS q0 f0 hmod hlt
          have hk0 : ¬ (k : Int) = 0 := by omega
          have hwr : IntKind.i64.wrap (r : Int) = r := IntWalk.i64_in _ (by omega)
          clear how hbr hx hst hcell hfr hr
          go_wp2
          go_roundw
          case rel => exact ⟨j + 1, by go_num, by omega, HOS.out, HBS.out⟩
          case measure => simp [intOf]; omega
        · have hjs' : j = s.toNat := by omega
          have hji : ¬ (j : Int) < s := by omega
          have d9 : decide ((j : Int) < s) = false := decide_eq_false hji
          have hjc : j = c + 1 - k := by rw [hjs', HNN.out]
          rw [hjc, rE_full hm hc] at how
          obtain ⟨_, hgl, _, hfr, hcell⟩ := how.cells
          have q0 := hcell (k - 1) _ (evenL_at (c := c) (by omega))
          have hlast : shareN c k (k - 1) = (c + 1 - k) / k := by
            unfold shareN
            rw [if_neg (by have := Nat.mod_lt (c + 1 - k) hm1; omega), Nat.add_zero]
          rw [hlast] at q0
          have hk1 : (k : Int) - 1 = ((k - 1 : Nat) : Int) := by omega
          obtain ⟨k1, hk1'⟩ : ∃ k1, k - 1 = k1 := ⟨_, rfl⟩
          rw [hk1'] at q0 hk1
          have hk1i : (k1 : Int) < k := by omega
          have HOW := hid how
          have HBR := hid hbr
          have hsh : (c + 1 - k) / k ≤ 100 := Nat.le_trans (Nat.div_le_self _ _) (by omega)
          cases hr : roomB c k
          · have hq : (c + 1 - k) / k = 0 := by
              apply Nat.div_eq_of_lt
              unfold roomB at hr
              have := of_decide_eq_false hr
              omega
            rw [hq] at q0
            have HR := hid hr
            clear how hbr hcell hfr hr hlast hq hsh hjc hjs' hk1'
            go_wp2
            go_ret
            exact ⟨HBR.out, .inl ⟨HR.out, rfl⟩⟩
          · have hq : 1 ≤ (c + 1 - k) / k := by
              unfold roomB at hr
              exact Nat.div_pos (of_decide_eq_true hr) hm1
            obtain ⟨y, hy⟩ : ∃ y, (c + 1 - k) / k = y := ⟨_, rfl⟩
            rw [hy] at q0 hq hsh
            have d8 : decide ((y : Int) < 1) = false := decide_eq_false (by omega)
            have HR := hid hr
            clear how hbr hcell hfr hr hlast hy hjc hjs' hk1'
            go_wp2
            go_ret
            exact ⟨HBR.out, .inr ⟨HR.out, _, rfl, HOW.out⟩⟩
end Go.Proofs.Ytglfolbimafcaaa
