/- slices.Insert at lines, whatever comes. -/
import Derived.Test.YtdpicbfpjnampaaDoorGridIlQ
namespace Go.Proofs.YtdpicbfpjnampaaDoor
open Go.RowKit

set_option maxRecDepth 100000 in
set_option maxHeartbeats 1000000 in
theorem ins_zero (A B : Option Addr) (n c i d : Nat) (W : World) (hi : i ≤ n) (hn : n ≤ c) (hc : c ≤ 9223372036854775807) (hA : A = none → c = 0) :
    Calls Tryd.prog 62 #[.slice A n c, .int .i64 i, .slice B 0 d] W fun e w' => e = .returned (.slice A n c) ∧ W = w' := by
  have h1 : (i : Int) ≤ n := by omega
  have h2 : (i : Int) ≤ c := by omega
  cases A with
  | none =>
    obtain rfl := hA rfl
    obtain rfl : n = 0 := by omega
    obtain rfl : i = 0 := by omega
    clear hA
    go_enter Tryd.func62, Tryd.ntmps62
    go_wp2
    go_ret
    exact ⟨rfl, rfl⟩
  | some a =>
    clear hA
    by_cases h3 : c = i
    all_goals
      go_enter Tryd.func62, Tryd.ntmps62
      go_wp2
      go_ret
      exact ⟨rfl, rfl⟩
set_option maxRecDepth 100000 in
set_option maxHeartbeats 1000000 in
theorem ins_end (A B : Option Addr) (n c m d : Nat) (W W' : World) (v' : Value) (hn : n ≤ c) (hm : 0 < m) (hm2 : m ≤ 1000000) (hc : c ≤ 9223372036854775807) (hA : A = none → c = 0)
    (hr : (Builtin.append_ #[22, 22] 22 #[.slice A n c, .slice B m d]).run Tryd.prog W = .ok v' W') (hs : ∃ A' n' c', v' = .slice A' n' c') :
    Calls Tryd.prog 62 #[.slice A n c, .int .i64 n, .slice B m d] W fun e w' => e = .returned v' ∧ W' = w' := by
  obtain ⟨A', n', c', rfl⟩ := hs
  have h2 : (n : Int) ≤ c := by omega
  have h4 : ¬ (m : Int) = 0 := by omega
  have HR := hid hr
  clear hr
  cases A with
  | none =>
    obtain rfl := hA rfl
    obtain rfl : n = 0 := by omega
    clear hA
    go_enter Tryd.func62, Tryd.ntmps62
    go_wp2_with (at_builtin; refine Lib.wpList_append_run _ rfl _ _ _ _ rfl _ _ rfl rfl _ _ HR.out ?_)
    go_ret
    exact ⟨rfl, rfl⟩
  | some a =>
    clear hA
    by_cases h3 : c = n
    all_goals
      go_enter Tryd.func62, Tryd.ntmps62
      go_wp2_with (at_builtin; refine Lib.wpList_append_run _ rfl _ _ _ _ rfl _ _ rfl rfl _ _ HR.out ?_)
      go_ret
      exact ⟨rfl, rfl⟩

/-- What is inserted stands there; what lies below a block, cells, and boxes of other things stay. -/
def InsPost (W : World) (base : Nat) (T : List (Ln × Value)) (e : Ending) (w' : World) : Prop :=
  ∃ v', e = .returned v' ∧ LR w' v' T ∧ Below base W w' ∧ (∀ b v l, CSl W b v l → CSl w' b v l) ∧ (∀ b t cs, t ≠ 57 → Box W b t cs → Box w' b t cs)
theorem insP_below {W w' : World} {base : Nat} {T : List (Ln × Value)} {v' : Value} (h : LR w' v' T) (hb : Below W.heap.size W w') (hbase : base ≤ W.heap.size) : InsPost W base T (.returned v') w' :=
  ⟨v', rfl, h, hb.mono hbase, fun _ _ _ h => h.below hb (Nat.le_refl _), fun _ _ _ _ h => h.below hb h.lt⟩
theorem insP_grown {W w' : World} {base : Nat} {L T : List (Ln × Value)} {sv v' : Value} (h : LR w' v' T) (ho : OwnL W base sv L) (hg : W.grownBy w' sv.ownBlock) (hbase : base ≤ W.heap.size) : InsPost W base T (.returned v') w' :=
  ⟨v', rfl, h, (Below.refl base W).grown hg hbase (fun q hq => (World.ownsRow.lt ho q hq).1), fun _ _ _ h => h.grown ho hg, fun _ _ _ ht h => h.grown hg (ho.not_box h ht)⟩
set_option maxRecDepth 100000 in
theorem ins_any (sv vv : Value) (L V : List (Ln × Value)) (i base B : Nat) (W : World) (hs : (OwnL W base sv L ∧ ∀ q, sv.ownBlock = some q → q < B) ∨ (∃ A, sv = .slice A L.length L.length ∧ LR W sv L)) (hv : LSl W B vv V) (hc : CesOf W L) (hcV : CesOf W V)
    (hi : i ≤ L.length) (hlen : L.length + V.length ≤ 1000) (hbase : base ≤ W.heap.size) (_ : base ≤ B) :
    Calls Tryd.prog 62 #[sv, .int .i64 i, vv] W (InsPost W base (L.take i ++ V ++ L.drop i)) := by
  have hrow : LR W sv L := hs.elim (fun h => h.1.lsl.row) fun ⟨_, _, h⟩ => h
  have hcap : ∃ A c, sv = .slice A L.length c ∧ L.length ≤ c ∧ c ≤ 9223372036854775807 ∧ (A = none → c = 0) := by
    rcases hs with ⟨h, _⟩ | ⟨A, rfl, h⟩
    · rcases h.2 with ⟨rfl, h0⟩ | ⟨g, cap, cur, rfl, hb, hg, hn, hm, hs, ht⟩
      · exact ⟨none, 0, by rw [h0], by omega, by omega, fun _ => rfl⟩
      · exact ⟨_, cap, rfl, hn, by unfold maxLen at hm; omega, fun h => by cases h⟩
    · refine ⟨A, _, rfl, Nat.le_refl _, by omega, fun hA => ?_⟩
      subst hA
      obtain ⟨A', c', e, _, hcell⟩ := h
      cases e
      apply Classical.byContradiction
      intro hne
      obtain ⟨g, o, h, _⟩ := hcell (fun e => hne (by rw [e]; rfl))
      cases h
  obtain ⟨A, c, hsv, hLc, hcm, hA0⟩ := hcap
  subst hsv
  rcases Nat.eq_zero_or_pos V.length with hm | hm
  · have hV : V = [] := List.length_eq_zero_iff.1 hm
    subst hV
    obtain ⟨Bv, d, rfl⟩ := hv.spell
    refine (ins_zero A Bv L.length c i d W hi hLc hcm hA0).mono fun e w' ⟨he, hw⟩ => ?_
    subst he hw
    refine insP_below ?_ (Below.refl _ _) hbase
    rw [List.append_nil, List.take_append_drop]
    exact hrow
  rcases Nat.lt_or_ge i L.length with hin | hin
  · obtain ⟨h, cv, rfl, hBh, curV, hbV, hsV, hlV, hfV⟩ : ∃ h cap, vv = .slice (some ⟨h, 0, none⟩) V.length cap ∧ B ≤ h ∧ LBox W h V cap := by
      rcases hv with ⟨h, _⟩ | h
      · rw [h] at hm; simp at hm
      · exact h
    have hvf : ∀ (j : Nat) (u : Value), (lflat V)[j]? = some u → curV[j]? = some u := fun j u hu => by
      obtain ⟨e, h1, h2⟩ := lflat_inv V j u hu
      rcases h2 with ⟨h3, rfl⟩ | ⟨h3, rfl⟩
      · have := (hfV (j / 2) e h1).1
        rwa [show j / 2 * 2 = j by omega] at this
      · have := (hfV (j / 2) e h1).2
        rwa [show j / 2 * 2 + 1 = j by omega] at this
    rcases Nat.lt_or_ge c (L.length + V.length) with hroom | hroom
    · have hne : L ≠ [] := by intro e; rw [e] at hin; simp at hin
      obtain ⟨a, rfl, hcells⟩ := (hrow.flat rfl).resolve_left hne
      obtain ⟨A', c', e', _, hx⟩ := hrow
      obtain ⟨b, off, hb, _, _⟩ := hx hne
      cases e'
      cases hb
      refine (ins_grow b off h c i L.length V.length cv L V W rfl (fun j u hu => by have := hcells j u hu; rwa [addr_add] at this) hLc hroom hin hm (by omega) rfl (fun j u hu => by rw [hbV.cell]; exact hvf j u hu) (cesOf_one hc) (cesOf_one hcV)).mono fun e w' ⟨G, he, ho, hb⟩ => ?_
      subst he
      exact insP_below ho.lsl.row hb hbase
    · rcases hs with ⟨ho, hq⟩ | ⟨A', e, _⟩
      · rcases ho.2 with ⟨e, h0⟩ | ⟨g, cap, cur, e, hg, hbg, hn, hm', hsz, ht⟩
        · rw [h0] at hin; omega
        · cases e
          have hgB : g < B := hq g rfl
          refine (ins_room g h c i L.length V.length cv cur curV L V W hbg hsz hcm rfl ht hroom hin hm (by omega) hbV rfl hvf (cesOf_one hc) (cesOf_one hcV)).mono fun e w' ⟨he, F, h1, h2, h3, h4⟩ => ?_
          subst he
          have hR : (L.take i ++ V ++ L.drop i).length = L.length + V.length := by rw [List.length_append, List.length_append, List.length_take, List.length_drop]; omega
          exact insP_grown (own_fin h1 h2 hR hroom hm' hg h3).lsl.row ho h4 hbase
      · cases e
        omega
  · obtain rfl : i = L.length := by omega
    rw [List.take_length, List.drop_length, List.append_nil]
    obtain ⟨Bv, d, rfl⟩ := hv.spell
    rcases hs with ⟨ho, hq⟩ | ⟨A', e, _⟩
    · obtain ⟨v', w', hrun, h1, h2⟩ : ∃ v' w', (Builtin.append_ #[22, 22] 22 #[.slice A L.length c, .slice Bv V.length d]).run Tryd.prog W = .ok v' w' ∧ OwnL w' base v' (L ++ V) ∧ W.grownBy w' (Value.slice A L.length c).ownBlock :=
        run_append_ln W base _ _ L V ho hv.row hcV _ (by omega) hbase
      obtain ⟨A2, c2, hs2⟩ := h1.spell
      refine (ins_end A Bv L.length c V.length d W w' v' hLc hm (by omega) hcm hA0 hrun ⟨_, _, _, hs2⟩).mono fun e w'' ⟨he, hw⟩ => ?_
      subst he hw
      exact insP_grown h1.lsl.row ho h2 hbase
    · cases e
      obtain ⟨v', w', hrun, h1, h2⟩ := run_append_ln_grow W A L.length L.length _ L V hrow rfl hv.row hcV (by omega) (Nat.le_refl _) (by omega)
      obtain ⟨A2, c2, hs2⟩ := h1.spell
      refine (ins_end A Bv L.length L.length V.length d W w' v' hLc hm (by omega) hcm hA0 (hrun _) ⟨_, _, _, hs2⟩).mono fun e w'' ⟨he, hw⟩ => ?_
      subst he hw
      exact insP_below h1.lsl.row h2 hbase
end Go.Proofs.YtdpicbfpjnampaaDoor
