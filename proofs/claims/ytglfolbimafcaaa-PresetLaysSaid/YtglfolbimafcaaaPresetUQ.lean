/- Layer 12, the reference: Rows. Made by wip/gen/presetU.py. -/
import Derived.Test.YtglfolbimafcaaaPresetSQ
import Derived.Deep.DeepCutAuto
namespace Go.Proofs.Ytglfolbimafcaaa
open Go.RowKit

theorem chunk_get {c : Nat} (hc : 1 ≤ c) : ∀ (f : Nat) (l : List Int) (i : Nat), l.length ≤ f → (chunkL c f l)[i]? = if i * c < l.length then some ((l.drop (i * c)).take c) else none
  | 0, l, i, h => by
    have : l = [] := List.length_eq_zero_iff.1 (by omega)
    subst this
    simp [chunkL]
  | f + 1, l, i, h => by
    unfold chunkL
    by_cases hl : l = []
    · subst hl; simp
    · rw [if_neg hl]
      have hp : 1 ≤ l.length := List.length_pos_iff.2 hl
      cases i with
      | zero => simp; omega
      | succ i =>
        rw [List.getElem?_cons_succ, chunk_get hc f _ i (by rw [List.length_drop]; omega), List.length_drop, List.drop_drop]
        have e : c + i * c = (i + 1) * c := by rw [Nat.succ_mul]; omega
        rw [e]
        by_cases h1 : (i + 1) * c < l.length
        · rw [if_pos h1, if_pos (by rw [← e] at h1; omega)]
        · rw [if_neg h1, if_neg (by rw [← e] at h1; omega)]
theorem chunk_len {c : Nat} (hc : 1 ≤ c) (l : List Int) : (chunkL c l.length l).length = (l.length + c - 1) / c := by
  have key : ∀ i, i < (chunkL c l.length l).length ↔ i * c < l.length := fun i => by
    have := chunk_get hc l.length l i (Nat.le_refl _)
    constructor
    · intro h
      rw [List.getElem?_eq_getElem h] at this
      split at this
      · assumption
      · cases this
    · intro h
      rw [if_pos h] at this
      exact (List.getElem?_eq_some_iff.1 this).1
  have key2 : ∀ i, i < (l.length + c - 1) / c ↔ i * c < l.length := fun i => by
    rw [Nat.lt_iff_add_one_le, Nat.le_div_iff_mul_le hc, Nat.succ_mul]
    omega
  have h1 := (key ((l.length + c - 1) / c)).trans (key2 _).symm
  have h2 := (key (chunkL c l.length l).length).trans (key2 _).symm
  omega
theorem NRow.sub {W : World} {g o N c : Nat} {ps : List Int} (h : NRow W (.slice (some ⟨g, o, none⟩) N c) ps) (i m c' : Nat) (hm : i + m ≤ ps.length) (hc : m ≤ c') : NRow W (.slice (some ⟨g, o + i, none⟩) m c') ((ps.drop i).take m) := by
  obtain ⟨A, cc, e, h1, h2⟩ := h.part i m hm
  have hlen : ((ps.drop i).take m).length = m := by rw [List.length_take, List.length_drop]; omega
  rw [hlen] at e
  cases e
  exact ⟨_, c', by rw [hlen], by omega, h2⟩
set_option maxRecDepth 100000 in
theorem slice_lh (g o n c i m : Nat) (hi : i + m ≤ n) (hm : 1 ≤ m) (hc : n ≤ c) (W : World) : (Instr.sliceAt 36 (.slice (some ⟨g, o, none⟩) n c) (some (.int .i64 i)) (some (.int .i64 ((i + m : Nat) : Int))) none).run Try.prog W = .ok (.slice (some ⟨g, o + i, none⟩) m (c - i)) W := by
  rw [run_sliceAt_slice W _ _ _ _ _ Try.underlying36, run_slice_lh W 36 (some ⟨g, o, none⟩) n c Try.underlying36 .i64 .i64 i ((i + m : Nat) : Int) (by omega) (by omega) (by omega)]
  have hs : (sizeOf (Try.prog.elem 36)).run Try.prog W = .ok 1 W := by kernel_rfl
  rw [hs]
  simp only [Result.andThen, Int.toNat_natCast, sliced]
  rw [if_neg (by omega), show i + m - i = m by omega]
  simp [Addr.add]
/-- How many rows. -/
def manyN (n : Nat) : Nat := (n + rootN n - 1) / rootN n
theorem many_bd {n : Nat} (h1 : 1 ≤ n) (h8 : n ≤ 8) : 1 ≤ manyN n ∧ manyN n ≤ 3 := by
  have h : ∀ n : Fin 9, 1 ≤ n.val → 1 ≤ manyN n.val ∧ manyN n.val ≤ 3 := by decide +kernel
  exact h ⟨n, by omega⟩ h1
def csL (ps : List Int) : List (List Int) := chunkL (rootN ps.length) ps.length ps
theorem csL_len {ps : List Int} (h1 : 1 ≤ ps.length) : (csL ps).length = manyN ps.length := chunk_len (rootN_pos _ h1) ps
theorem rows_one {ps : List Int} {w h : Nat} (h1 : 1 ≤ ps.length) (hm : manyN ps.length = 1) : rowsT w h ps = lineT 1 w ps := by
  have hl := csL_len h1
  rw [hm] at hl
  obtain ⟨x, hx⟩ := List.length_eq_one_iff.1 hl
  have hf := (chunk_flat (rootN ps.length) (rootN_pos _ h1) ps.length ps (Nat.le_refl _)).1
  unfold csL at hx
  rw [hx] at hf
  simp at hf
  subst hf
  unfold rowsT
  rw [hx]
  simp only [List.map_cons, List.map_nil]
  cases lineT 1 w x with
  | none => rfl
  | some t => rfl
theorem rows_many {ps : List Int} {w h : Nat} (h1 : 1 ≤ ps.length) (hm : 2 ≤ manyN ps.length) : (allT ((csL ps).map (lineT 1 w)) = none → rowsT w h ps = none) ∧ (roomB h (manyN ps.length) = false → rowsT w h ps = none) ∧
    (∀ l, allT ((csL ps).map (lineT 1 w)) = some l → roomB h (manyN ps.length) = true → rowsT w h ps = some (.mk 2 0 0 (dealT h l))) := by
  have hl := csL_len h1
  unfold rowsT
  change (allT ((csL ps).map (lineT 1 w)) = none → (match allT ((csL ps).map (lineT 1 w)) with | none => none | some l => sharedT 2 h l) = none) ∧ (_ → (match allT ((csL ps).map (lineT 1 w)) with | none => none | some l => sharedT 2 h l) = none) ∧ (∀ l, _ → _ → (match allT ((csL ps).map (lineT 1 w)) with | none => none | some l => sharedT 2 h l) = _)
  refine ⟨fun e => by rw [e], fun hr => ?_, fun l e hr => ?_⟩
  · cases ha : allT ((csL ps).map (lineT 1 w)) with
    | none => rfl
    | some l =>
      have hll := (allT_some ha).1
      simp only
      unfold sharedT
      rw [if_neg (by omega), if_neg (by rw [hll, hl, hr]; decide)]
  · have hll := (allT_some e).1
    rw [e]
    simp only
    unfold sharedT
    rw [if_neg (by omega), if_pos (by rw [hll, hl, hr])]
theorem zip_snoc {s : Int} {t : Tr} : ∀ (l : List Tr) (E : List Int), E[l.length]? = some s → List.zipWith Tr.sized (l ++ [t]) E = List.zipWith Tr.sized l E ++ [t.sized s]
  | [], [], h => by simp at h
  | [], x :: E, h => by simp at h; subst h; rfl
  | u :: l, [], h => by simp at h
  | u :: l, x :: E, h => by
    rw [List.cons_append, List.zipWith_cons_cons, List.zipWith_cons_cons, zip_snoc l E (by simpa using h), List.cons_append]
theorem cut_at {cs : List (List Int)} {j : Nat} {x : List Int} (h : cs[j]? = some x) : cs = cs.take j ++ x :: cs.drop (j + 1) := by
  obtain ⟨hj, rfl⟩ := List.getElem?_eq_some_iff.1 h
  rw [← List.drop_eq_getElem_cons hj, List.take_append_drop]
theorem Into.refl3 {W : World} {B B' : Nat → Prop} (h : ∀ c, B c → B' c) : Into W W B B' := Into.block fun c hc => ⟨h c hc, rfl⟩
set_option maxRecDepth 100000 in
set_option maxHeartbeats 8000000 in
theorem rrows_any (v : Value) (ps : List Int) (w h : Nat) (W : World) (hv : NRow W v ps) (h1 : 1 ≤ ps.length) (h8 : ps.length ≤ 8) (w80 : w ≤ 80) (h80 : h ≤ 80) : Calls Try.prog 45 #[v, .int .i64 w, .int .i64 h] W (RLay W (rowsT w h ps)) := by
  have HV := hid hv
  obtain ⟨A, cc, rfl, hcc, hl⟩ := hv
  obtain ⟨g, o, rfl, hg, _⟩ := hl (List.length_pos_iff.1 h1)
  have hmb := many_bd h1 h8
  have hr1 := rootN_pos _ h1
  have hr3 := rootN_le _ h8
  have HLN := hid (fun X (hb : Below W.heap.size W X) => rline_any1 _ ps w h X (NRow.below HV.out hb) h1 h8 w80)
  have HEV := hid (fun X => reven_any h (manyN ps.length) X h80 hmb.1 (by omega))
  have HR1 := hid (rows_one (w := w) (h := h) h1)
  have HRM := hid (rows_many (w := w) (h := h) h1)
  have HCL := hid (csL_len h1)
  have HST := hid (fun k (hk : k ≤ rootN ps.length) => root_step (n := ps.length) h8 hk)
  have hdv : ((ps.length : Int) + (rootN ps.length : Int) - 1).tdiv (rootN ps.length : Int) = ((manyN ps.length : Nat) : Int) := by
    rw [show (ps.length : Int) + (rootN ps.length : Int) - 1 = ((ps.length + rootN ps.length - 1 : Nat) : Int) by omega, Int.tdiv_eq_ediv_of_nonneg (by omega)]
    rfl
  have HCG := hid (fun i (hi : i * rootN ps.length < ps.length) => (chunk_get hr1 ps.length ps i (Nat.le_refl _)).trans (if_pos hi))
  have HIC := hid (show ∀ i, i < manyN ps.length → i * rootN ps.length < ps.length from fun i hi => by
    have h2 : i < (csL ps).length := by rw [HCL.out]; exact hi
    have h3 := chunk_get hr1 ps.length ps i (Nat.le_refl _)
    have h4 : (chunkL (rootN ps.length) ps.length ps)[i]? = some ((csL ps)[i]'h2) := List.getElem?_eq_getElem h2
    rw [h4] at h3
    split at h3
    · assumption
    · cases h3)
  obtain ⟨n, hn⟩ : ∃ n, ps.length = n := ⟨_, rfl⟩
  have HN := hid hn
  rw [hn] at hcc hmb hr1 hr3 HLN HEV HR1 HRM HCL HST hdv HCG HIC h1 h8 ⊢
  obtain ⟨c, hc⟩ : ∃ c, rootN n = c := ⟨_, rfl⟩
  have HC := hid hc
  rw [hc] at hr1 hr3 HST hdv HCG HIC
  obtain ⟨m, hm⟩ : ∃ m, manyN n = m := ⟨_, rfl⟩
  rw [hm] at hmb HEV HR1 HRM HCL hdv HIC
  have HX6 := hid (Box.new W 44 #[.int .i64 0, .int .i64 0, .int .i64 0, .slice none 0 0, .bool false])
  have HB6 := hid (below_alloc W (.cells #[.int .i64 0, .int .i64 0, .int .i64 0, .slice none 0 0, .bool false] 44))
  have hc0 : ¬ (c : Int) = 0 := by omega
  have hwm : IntKind.i64.wrap (m : Int) = m := IntWalk.i64_in _ (by omega)
  clear hl hn hc hm
  go_enter Try.func45, Try.ntmps45
  go_wp2_with fail
  go_loopw [7] (fun i wr => ∃ k : Nat, i = .int .i64 k ∧ 1 ≤ k ∧ k ≤ c ∧ wr = W.alloc (.cells #[.int .i64 0, .int .i64 0, .int .i64 0, .slice none 0 0, .bool false] 44)) (fun i _ => c - (intOf i).toNat)
  case atStart => exact ⟨1, rfl, Nat.le_refl _, hr1, rfl⟩
  case round =>
    obtain ⟨k, rfl, hk1, hkc, rfl⟩ := hrel
    have hs := HST.out k hkc
    obtain ⟨q, hq⟩ : ∃ q : Nat, k * k = q := ⟨_, rfl⟩
    have hqi : (k : Int) * k = q := by rw [← hq]; rfl
    have hq9 : (q : Int) ≤ 9 := by
      have : k * k ≤ 3 * 3 := Nat.mul_le_mul (by omega) (by omega)
      omega
    rw [hq] at hs
    by_cases hlt : k < c
    · have hx1 : (q : Int) < n := by have := hs.2 hlt; omega
      clear hs hq
      go_wp2
      go_roundw
      case rel => exact ⟨k + 1, by go_num, by omega, by omega, trivial⟩
      case measure => simp [intOf]; omega
    · have hke : k = c := by omega
      have hnq : n ≤ q := by have := mt hs.1 hlt; omega
      have hnqi : (n : Int) ≤ q := by omega
      subst hke
      clear hs hq hlt hkc
      have hs6 : (W.alloc (.cells #[.int .i64 0, .int .i64 0, .int .i64 0, .slice none 0 0, .bool false] 44)).heap.size = W.heap.size + 1 := World.size_alloc _ _
      have hdv2 : ((n : Int) + (k : Int) - 1).tdiv (k : Int) = ((m : Nat) : Int) := hdv
      have hnk : (n : Int) + k ≤ 20 := by omega
      by_cases hm1 : m = 1
      · subst hm1
        have HV1 := hid (HR1.out rfl)
        clear HEV HRM HCL HCG HIC HST HR1
        go_wp2_with ((with_reducible refine (HLN.out _ HB6.out).mono ?_); rintro e w2 ⟨hb2, t, kA, kn, kc, b, rfl, ht, hcase⟩; have hx6 := HX6.out.below hb2 HX6.out.lt; obtain ⟨⟨a0, a1, a2, a3, a4⟩, f0, f1, f2, f3, f4⟩ := hx6.five; have hl6 := hx6.lt; have HX62 := hid hx6)
        rw [hs6] at ht
        have hz := five_cells HX62.out rfl (.int .i64 t.kind) (.int .i64 t.pane) (.int .i64 t.size) (.slice kA kn kc) (.bool b)
        have d0 := hz.cell 0
        have d1 := hz.cell 1
        have d2 := hz.cell 2
        have d3 := hz.cell 3
        have d4 := hz.cell 4
        exact bodyPost_ret (v := .agg #[.int .i64 t.kind, .int .i64 t.pane, .int .i64 t.size, .slice kA kn kc, .bool b]) (by simp [results, Try.f45, go_sem, d0, d1, d2, d3, d4]) rfl ⟨below_set5 (HB6.out.trans (hb2.mono HB6.out.size)) (Nat.le_refl _), t, kA, kn, kc, b, rfl, ht.into (five_into (Nat.le_refl _) (fun c h1 _ => by omega) W.heap.size (by omega)), by rw [HV1.out]; exact hcase⟩
      · have hm2 : 2 ≤ m := by omega
        have hmne : ¬ (m : Int) = 1 := by omega
        obtain ⟨hRMa, hRMb, hRMc⟩ := HRM.out hm2
        have HRA := hid hRMa
        have HRB := hid hRMb
        have HRC := hid hRMc
        clear HR1 HRM HLN hRMa hRMb hRMc HST hm1
        go_upto_region 8 with ((with_reducible refine (HEV.out _).mono ?_); rintro e w2 ⟨hb2, hx⟩; obtain ⟨sv, rfl, hroom⟩ : ∃ sv, e = .returned sv ∧ ((roomB h m = false ∧ sv = .slice none 0 0) ∨ (roomB h m = true ∧ OwnI w2 (W.alloc (.cells #[.int .i64 0, .int .i64 0, .int .i64 0, .slice none 0 0, .bool false] 44)).heap.size sv (evenL h m))) := (by rcases hx with ⟨hr, e⟩ | ⟨hr, sv, e, ho⟩; exact ⟨_, e, .inl ⟨hr, rfl⟩⟩; exact ⟨_, e, .inr ⟨hr, ho⟩⟩); clear hx)
        have hb2s := hb2.size
        have HB2 := hid (HB6.out.trans (hb2.mono HB6.out.size))
        rw [hs6] at hroom hb2s
        have hx82 := HX6.out.below hb2 HX6.out.lt
        have HX82 := hid (hx82.alloc (.cells #[.int .i64 2, .int .i64 0, .int .i64 0, .slice none 0 0] 24))
        have HX11 := hid (Box.new w2 24 #[.int .i64 2, .int .i64 0, .int .i64 0, .slice none 0 0])
        have HB3 := hid (HB2.out.alloc HB2.out.size (.cells #[.int .i64 2, .int .i64 0, .int .i64 0, .slice none 0 0] 24))
        rcases hroom with ⟨hr, rfl⟩ | ⟨hr, ho⟩
        · have HLV := hid (HRB.out hr)
          clear hb2 hx82 hr HRA HRB HRC
          go_wp2_with fail
          obtain ⟨X, hXe⟩ : ∃ X, w2.alloc (.cells #[.int .i64 2, .int .i64 0, .int .i64 0, .slice none 0 0] 24) = X := ⟨_, rfl⟩
          obtain ⟨T10, hT10⟩ : ∃ T10, w2.heap.size = T10 := ⟨_, rfl⟩
          rw [hXe] at HX82 HX11 HB3 ⊢
          rw [hT10] at HX11 hb2s ⊢
          obtain ⟨⟨a0, a1, a2, a3, a4⟩, f0, f1, f2, f3, f4⟩ := HX82.out.five
          obtain ⟨⟨b0, b1, b2, b3⟩, _⟩ := HX11.out.four
          have hl82 := HX82.out.lt
          have hl11 := HX11.out.lt
          have hne : ¬ T10 = W.heap.size := by omega
          have hne2 : ¬ W.heap.size = T10 := by omega
          clear hXe hT10
          go_loopw [41] (fun i wr => i = .int .i64 0 ∧ X = wr) (fun _ _ => 0)
          case atStart => exact ⟨rfl, rfl⟩
          case round =>
            obtain ⟨rfl, rfl⟩ := hrel
            go_wp2
            have hz := five_cells HX82.out rfl (.int .i64 2) (.int .i64 0) (.int .i64 0) (.slice none 0 0) (.bool false)
            have d0 := hz.cell 0
            have d1 := hz.cell 1
            have d2 := hz.cell 2
            have d3 := hz.cell 3
            have d4 := hz.cell 4
            exact bodyPost_ret (v := .agg #[.int .i64 2, .int .i64 0, .int .i64 0, .slice none 0 0, .bool false]) (by simp [results, Try.f45, go_sem, d0, d1, d2, d3, d4]) rfl ⟨below_set5 HB3.out (Nat.le_refl _), .mk 2 0 0 [], none, 0, 0, false, rfl, by unfold TrB; exact ⟨none, 0, rfl, Nat.le_refl _, fun h => absurd rfl h⟩, .inl ⟨HLV.out, rfl⟩⟩
        · obtain ⟨gs, sc, hsv, hgsb, hsc, hscell⟩ := ho.row (by intro e; have := congrArg List.length e; rw [evenL_length] at this; simp at this; omega)
          rw [evenL_length] at hsv hsc
          subst hsv
          have hgs : gs < w2.heap.size := t_cell_lt (hscell 0 _ (evenL_at (c := h) (m := m) (i := 0) (by omega)))
          have HSC := hid (fun (Y : World) (hb : Below w2.heap.size w2 Y) j s hj => (hb.cell (p := ⟨gs, j, none⟩) hgs).trans (hscell j s hj))
          have HROOM := hid hr
          clear hx82 ho hscell hb2
          go_wp2_with fail
          have hl11 := HX11.out.lt
          obtain ⟨T10, hT10⟩ : ∃ T10, w2.heap.size = T10 := ⟨_, rfl⟩
          obtain ⟨X, hXe⟩ : ∃ X, w2.alloc (.cells #[.int .i64 2, .int .i64 0, .int .i64 0, .slice none 0 0] 24) = X := ⟨_, rfl⟩
          have hbX : Below w2.heap.size w2 X := by rw [← hXe]; exact below_alloc _ _
          have HXS := hid (show X.heap.size = T10 + 1 by rw [← hXe, World.size_alloc, hT10])
          rw [hXe, hT10]
          rw [hXe] at HX82 HX11 HB3 hl11
          rw [hT10] at HX11 hl11 hgs hb2s hbX HSC
          have HBX := hid hbX
          clear hXe hbX hT10
          have hxt : T10 + 1 ≤ X.heap.size := by rw [HXS.out]; exact Nat.le_refl _
          go_loopw [41] (fun i wr => ∃ (j : Nat) (rA : Option Addr) (rc : Nat) (L : List (Tr × Value)) (l : List Tr), i = .int .i64 j ∧ j ≤ m ∧ Box wr T10 24 #[.int .i64 2, .int .i64 0, .int .i64 0, .slice rA j rc] ∧ OwnT wr (T10 + 1) wr.heap.size (.slice rA j rc) L ∧ L.length = j ∧ allT (((csL ps).take j).map (lineT 1 w)) = some l ∧ L.map Prod.fst = List.zipWith Tr.sized l (evenL h m) ∧ Box wr W.heap.size 44 #[.int .i64 0, .int .i64 0, .int .i64 0, .slice none 0 0, .bool false] ∧ Below W.heap.size W wr ∧ (∀ j s, (evenL h m)[j]? = some s → wr.cell? ⟨gs, j, none⟩ = some (.int .i64 s)) ∧ T10 + 1 ≤ wr.heap.size) (fun i _ => m - (intOf i).toNat)
          case atStart => exact ⟨0, none, 0, [], [], rfl, Nat.zero_le _, HX11.out, OwnT.nil _ _ _, rfl, rfl, rfl, HX82.out, HB3.out, fun j s hj => HSC.out X HBX.out j s hj, hxt⟩
          case round =>
            obtain ⟨j, rA, rc, L, l, rfl, hjm, hx11, how, hLj, hal, hLz, hxr, hbr, hsc2, hszr⟩ := hrel
            by_cases hj : j < m
            · have hjz : True := trivial
              have hkk : j * k < n := HIC.out j hj
              obtain ⟨lo, hloe⟩ : ∃ lo, j * k = lo := ⟨_, rfl⟩
              have hlo : (k : Int) * (j : Int) = (lo : Int) := by rw [← hloe, Int.natCast_mul, Int.mul_comm]
              obtain ⟨hi, hhie⟩ : ∃ hi, lo + k = hi := ⟨_, rfl⟩
              have hhi : (k : Int) * ((j : Int) + 1) = (hi : Int) := by rw [Int.mul_add, hlo, Int.mul_one, ← hhie]; rfl
              have hji : (j : Int) < m := by omega
              rw [hloe] at hkk
              have hlo20 : (lo : Int) ≤ 20 ∧ (hi : Int) ≤ 20 := by omega
              have hj3 : (j : Int) ≤ 3 := by omega
              have hwlo : IntKind.i64.wrap (lo : Int) = lo := IntWalk.i64_in _ (by omega)
              have hwhi : IntKind.i64.wrap (hi : Int) = hi := IntWalk.i64_in _ (by omega)
              have hcg := HCG.out j (by rw [hloe]; exact hkk)
              rw [hloe] at hcg
              obtain ⟨s, hs⟩ : ∃ s : Nat, shareN h m j = s := ⟨_, rfl⟩
              have hs0 := hsc2 j _ (evenL_at (c := h) (m := m) (i := j) hj)
              rw [hs] at hs0
              have hev : (evenL h m)[j]? = some (s : Int) := by rw [evenL_at hj, hs]
              have hgsw := t_cell_lt hs0
              have HS0 := hid hs0
              have HEVJ := hid hev
              obtain ⟨mm, hmme⟩ : ∃ mm, min k (n - lo) = mm := ⟨_, rfl⟩
              have hmm1 : 1 ≤ mm ∧ lo + mm ≤ n ∧ mm ≤ 8 := by omega
              have htk : (ps.drop lo).take k = (ps.drop lo).take mm := by
                rw [← hmme]
                rcases Nat.le_total k (n - lo) with h | h
                · rw [Nat.min_eq_left h]
                · rw [Nat.min_eq_right h, List.take_of_length_le (by rw [List.length_drop, HN.out]; omega), List.take_of_length_le (by rw [List.length_drop, HN.out]; omega)]
              have hcj : (csL ps)[j]? = some ((ps.drop lo).take mm) := by
                unfold csL
                rw [HN.out, HC.out, hcg, htk]
              have hxl : ((ps.drop lo).take mm).length = mm := by rw [List.length_take, List.length_drop, HN.out]; omega
              have hnr := HV.out.sub lo mm (cc - lo) (by rw [HN.out]; exact hmm1.2.1) (by omega)
              obtain ⟨xs, hxs⟩ : ∃ xs, (ps.drop lo).take mm = xs := ⟨_, rfl⟩
              rw [hxs] at hcj hxl hnr
              have HLC := hid (fun X (hb : Below wr.heap.size wr X) => rline_any1 _ xs w s X (hnr.below (hbr.trans (hb.mono hbr.size))) (by omega) (by omega) w80)
              have hsl := slice_lh g o n cc lo mm hmm1.2.1 hmm1.1 hcc
              have HCJ := hid hcj
              have HX10 := hid hx11
              have HOW := hid how
              have HXR := hid hxr
              have HBR := hid hbr
              have HSC2 := hid hsc2
              have HAL := hid hal
              have HLZ := hid hLz
              have HLJ := hid hLj
              have hnI : (n : Int) ≤ 8 := by omega
              have hlcI : (0 : Int) ≤ lo := by omega
              have HMM := hid (show 1 ≤ mm ∧ lo + mm ≤ n ∧ mm ≤ 8 ∧ mm = min k (n - lo) from ⟨hmm1.1, hmm1.2.1, hmm1.2.2, hmme.symm⟩)
              have HHI := hid hhie
              clear hx11 how hxr hbr hsc2 hal hLz hcg htk hcj hnr hs hs0 hev hxl hxs hmm1 hmme hhie hloe hLj
              by_cases hov : n < hi
              · have hovI : (n : Int) < hi := by omega
                have hle : lo + mm = n := by have := HMM.out; have := HHI.out; omega
                have hloe2 : lo ≤ n := by omega
                rw [hle] at hsl
                have HLE := hid hle
                clear hle
                go_upto_region 15 with fail
                go_cut [13] (fun v wx => ∃ (T13 : Nat) (t : Tr) (kA : Option Addr) (kn kc : Nat) (b : Bool), v = .pointer (some ⟨T13, 0, none⟩) ∧ Box wx T13 44 #[.int .i64 t.kind, .int .i64 t.pane, .int .i64 t.size, .slice kA kn kc, .bool b] ∧ TrB wx (fun c => wr.heap.size ≤ c ∧ c < wx.heap.size ∧ c ≠ T13) t (.slice kA kn kc) ∧ Below wr.heap.size wr wx ∧ wr.heap.size ≤ T13 ∧ ((lineT 1 w xs = none ∧ b = false) ∨ (lineT 1 w xs = some t ∧ b = true)))
                case first =>
                  have hS0 : wr.drew.cell? ⟨gs, j, none⟩ = some (.int .i64 s) := HS0.out
                  refine wp_region_S (fun _ w' => w'.cell? ⟨gs, j, none⟩ = some (.int .i64 s)) (by kernel_rfl) ?_
                  refine takeC (i := 0) (v := ?v0a) 54 rfl rfl (by kernel_rfl) (by kernel_rfl) (by kernel_rfl) (by kernel_rfl) (fun _ _ _ h => h) (Or.inl ⟨by rfl, fun w' hw' => ?hy0a⟩) hS0 ?rest0a
                  case hy0a => go_simp; try with_reducible rfl
                  try simp only [Act.put, List.setIfInBounds_toArray, List.set_cons_zero, List.set_cons_succ]
                  refine takeC (i := 1) (v := ?v1a) 55 rfl rfl (by kernel_rfl) (by kernel_rfl) (by kernel_rfl) (by kernel_rfl) (fun _ _ _ h => h) (Or.inl ⟨by rfl, fun w' hw' => ?hy1a⟩) hS0 ?rest1a
                  case hy1a => go_simp; try with_reducible rfl
                  try simp only [Act.put, List.setIfInBounds_toArray, List.set_cons_zero, List.set_cons_succ]
                  refine takeC (i := 2) (v := ?v2a) 56 rfl rfl (by kernel_rfl) (by kernel_rfl) (by kernel_rfl) (by kernel_rfl) (fun _ _ _ h => h) (Or.inl ⟨by rfl, fun w' hw' => ?hy2a⟩) hS0 ?rest2a
                  case hy2a => go_simp; try with_reducible rfl
                  try simp only [Act.put, List.setIfInBounds_toArray, List.set_cons_zero, List.set_cons_succ]
                  refine takeC (i := 3) (v := ?v3a) 57 rfl rfl (by kernel_rfl) (by kernel_rfl) (by kernel_rfl) (by kernel_rfl) (fun _ _ _ h => h) (Or.inl ⟨by rfl, fun w' hw' => ?hy3a⟩) hS0 ?rest3a
                  case hy3a => go_simp; try with_reducible rfl
                  try simp only [Act.put, List.setIfInBounds_toArray, List.set_cons_zero, List.set_cons_succ]
                  refine takeC (i := 4) (v := ?v4a) 58 rfl rfl (by kernel_rfl) (by kernel_rfl) (by kernel_rfl) (by kernel_rfl) (fun _ _ _ h => h) (Or.inl ⟨by rfl, fun w' hw' => ?hy4a⟩) hS0 ?rest4a
                  case hy4a => go_simp; try with_reducible rfl
                  try simp only [Act.put, List.setIfInBounds_toArray, List.set_cons_zero, List.set_cons_succ]
                  refine takeC (i := 5) (v := ?v5a) 59 rfl rfl (by kernel_rfl) (by kernel_rfl) (by kernel_rfl) (by kernel_rfl) (fun _ _ _ h => h) (Or.inl ⟨by rfl, fun w' hw' => ?hy5a⟩) hS0 ?rest5a
                  case hy5a => go_simp; try with_reducible rfl
                  try simp only [Act.put, List.setIfInBounds_toArray, List.set_cons_zero, List.set_cons_succ]
                  refine takeC (i := 6) (v := ?v6a) 60 rfl rfl (by kernel_rfl) (by kernel_rfl) (by kernel_rfl) (by kernel_rfl) (fun _ _ _ h => h) (Or.inl ⟨by rfl, fun w' hw' => ?hy6a⟩) hS0 ?rest6a
                  case hy6a => go_simp; try with_reducible rfl
                  try simp only [Act.put, List.setIfInBounds_toArray, List.set_cons_zero, List.set_cons_succ]
                  refine takeC (i := 7) (v := ?v7a) 61 rfl rfl (by kernel_rfl) (by kernel_rfl) (by kernel_rfl) (by kernel_rfl) (fun _ _ _ h => h) (Or.inl ⟨by rfl, fun w' hw' => ?hy7a⟩) hS0 ?rest7a
                  case hy7a => go_simp; try with_reducible rfl
                  try simp only [Act.put, List.setIfInBounds_toArray, List.set_cons_zero, List.set_cons_succ]
                  refine takeC (i := 8) (v := ?v8a) 62 rfl rfl (by kernel_rfl) (by kernel_rfl) (by kernel_rfl) (by kernel_rfl) (fun _ _ _ h => h) (Or.inl ⟨by rfl, fun w' hw' => ?hy8a⟩) hS0 ?rest8a
                  case hy8a => go_simp; try with_reducible rfl
                  try simp only [Act.put, List.setIfInBounds_toArray, List.set_cons_zero, List.set_cons_succ]
                  refine takeC (i := 9) (v := ?v9a) 63 rfl rfl (by kernel_rfl) (by kernel_rfl) (by kernel_rfl) (by kernel_rfl) (fun _ _ _ h => h) (Or.inl ⟨by rfl, fun w' hw' => ?hy9a⟩) hS0 ?rest9a
                  case hy9a => go_simp; try with_reducible rfl
                  try simp only [Act.put, List.setIfInBounds_toArray, List.set_cons_zero, List.set_cons_succ]
                  refine takeC (i := 10) (v := ?v10a) 64 rfl rfl (by kernel_rfl) (by kernel_rfl) (by kernel_rfl) (by kernel_rfl) (fun _ _ _ h => h) (Or.inl ⟨by rfl, fun w' hw' => ?hy10a⟩) hS0 ?rest10a
                  case hy10a => have q1 := hw'; go_simp; try with_reducible rfl
                  try simp only [Act.put, List.setIfInBounds_toArray, List.set_cons_zero, List.set_cons_succ]
                  refine eitherS (k1 := 11) (k2 := 12) (by kernel_rfl) rfl rfl (by rfl) (by rfl) (fun K hK => ?_) (fun K hK => ?_)
                  · go_simp
                    have hbA : Below wr.heap.size wr wr.drew := below_drew wr 1
                    go_at_call 44
                    refine (HLC.out _ hbA).mono ?_
                    rintro e9 w9 ⟨hb9, t, kA, kn, kc, b, rfl, ht, hcase⟩
                    dsimp only
                    have hbw9 : Below wr.heap.size wr w9 := hbA.trans (hb9.mono hbA.size)
                    have hS1 : w9.cell? ⟨gs, j, none⟩ = some (.int .i64 s) := (hbw9.cell (p := ⟨gs, j, none⟩) hgsw).trans HS0.out
                    refine hK _ _ hS1 ?_
                    clear hK K
                    try simp only [Act.put, List.setIfInBounds_toArray, List.set_cons_zero, List.set_cons_succ]
                    clear hS0
                    have hS0 := hS1
                    clear hS1
                    refine oneS (k := 12) (by kernel_rfl) rfl (by rfl) (fun K hK => ?_)
                    go_simp
                    have hS1 : ((w9.alloc (.cells #[.int .i64 0, .int .i64 0, .int .i64 0, .slice none 0 0, .bool false] 44))).cell? ⟨gs, j, none⟩ = some (.int .i64 s) := ((below_alloc w9 (.cells #[.int .i64 0, .int .i64 0, .int .i64 0, .slice none 0 0, .bool false] 44)).cell (p := ⟨gs, j, none⟩) (Nat.lt_of_lt_of_le hgsw hbw9.size)).trans hS0
                    refine hK _ _ hS1 ?_
                    clear hK K
                    try simp only [Act.put, List.setIfInBounds_toArray, List.set_cons_zero, List.set_cons_succ]
                    clear hS0
                    have hS0 := hS1
                    clear hS1
                    refine oneS (k := 13) (by kernel_rfl) rfl (by rfl) (fun K hK => ?_)
                    go_simp
                    have hS1 : ((w9.alloc (.cells #[.int .i64 t.kind, .int .i64 t.pane, .int .i64 t.size, .slice kA kn kc, .bool b] 44))).cell? ⟨gs, j, none⟩ = some (.int .i64 s) := ((below_alloc w9 (.cells #[.int .i64 t.kind, .int .i64 t.pane, .int .i64 t.size, .slice kA kn kc, .bool b] 44)).cell (p := ⟨gs, j, none⟩) (Nat.lt_of_lt_of_le hgsw hbw9.size)).trans ((hbw9.cell (p := ⟨gs, j, none⟩) hgsw).trans HS0.out)
                    refine hK _ _ hS1 ?_
                    clear hK K
                    try simp only [Act.put]
                    clear hS0
                    have hS0 := hS1
                    clear hS1
                    refine doneS (by kernel_rfl) ?_ _
                    go_wp2_with fail
                    go_meet
                    refine ⟨w9.heap.size, t, kA, kn, kc, b, rfl, Box.new w9 _ _, ht.into (Into.block fun c ⟨c1, c2⟩ => ⟨⟨c1, by rw [World.size_alloc]; omega, by omega⟩, Below.heap_alloc w9 _ c c2⟩), hbw9.alloc hbw9.size _, hbw9.size, hcase⟩
                  · go_simp
                    have hS1 : ((wr.alloc (.cells #[.int .i64 0, .int .i64 0, .int .i64 0, .slice none 0 0, .bool false] 44)).drew).cell? ⟨gs, j, none⟩ = some (.int .i64 s) := ((below_alloc wr (.cells #[.int .i64 0, .int .i64 0, .int .i64 0, .slice none 0 0, .bool false] 44)).cell (p := ⟨gs, j, none⟩) hgsw).trans HS0.out
                    refine hK _ _ hS1 ?_
                    clear hK K
                    try simp only [Act.put, List.setIfInBounds_toArray, List.set_cons_zero, List.set_cons_succ]
                    clear hS0
                    have hS0 := hS1
                    clear hS1
                    refine oneS (k := 11) (by kernel_rfl) rfl (by rfl) (fun K hK => ?_)
                    go_simp
                    have hbA : Below wr.heap.size wr (wr.alloc (.cells #[.int .i64 0, .int .i64 0, .int .i64 0, .slice none 0 0, .bool false] 44)).drew := (below_alloc wr _).trans ((below_drew _ 1).mono (below_alloc wr _).size)
                    go_at_call 44
                    refine (HLC.out _ hbA).mono ?_
                    rintro e9 w9 ⟨hb9, t, kA, kn, kc, b, rfl, ht, hcase⟩
                    dsimp only
                    have hbw9 : Below wr.heap.size wr w9 := hbA.trans (hb9.mono hbA.size)
                    have hS1 : w9.cell? ⟨gs, j, none⟩ = some (.int .i64 s) := (hbw9.cell (p := ⟨gs, j, none⟩) hgsw).trans HS0.out
                    refine hK _ _ hS1 ?_
                    clear hK K
                    try simp only [Act.put, List.setIfInBounds_toArray, List.set_cons_zero, List.set_cons_succ]
                    clear hS0
                    have hS0 := hS1
                    clear hS1
                    have hts : (wr.alloc (.cells #[.int .i64 0, .int .i64 0, .int .i64 0, .slice none 0 0, .bool false] 44)).drew.heap.size = wr.heap.size + 1 := World.size_alloc _ _
                    have hy13 := ((Box.new wr 44 #[.int .i64 0, .int .i64 0, .int .i64 0, .slice none 0 0, .bool false]).drew).below hb9 (by rw [hts]; omega)
                    obtain ⟨⟨a0, a1, a2, a3, a4⟩, f0, f1, f2, f3, f4⟩ := hy13.five
                    have hl13 := hy13.lt
                    refine oneS (k := 13) (by kernel_rfl) rfl (by rfl) (fun K hK => ?_)
                    go_simp
                    have hS1 : ((((((w9.setCell ⟨wr.heap.size, 0, none⟩ (.int .i64 t.kind)).setCell ⟨wr.heap.size, 1, none⟩ (.int .i64 t.pane)).setCell ⟨wr.heap.size, 2, none⟩ (.int .i64 t.size)).setCell ⟨wr.heap.size, 3, none⟩ (.slice kA kn kc)).setCell ⟨wr.heap.size, 4, none⟩ (.bool b))).cell? ⟨gs, j, none⟩ = some (.int .i64 s) := ((below_set5 hbw9 (Nat.le_refl _)).cell (p := ⟨gs, j, none⟩) hgsw).trans HS0.out
                    refine hK _ _ hS1 ?_
                    clear hK K
                    try simp only [Act.put]
                    clear hS0
                    have hS0 := hS1
                    clear hS1
                    refine doneS (by kernel_rfl) ?_ _
                    go_wp2_with fail
                    go_meet
                    rw [hts] at ht
                    refine ⟨wr.heap.size, t, kA, kn, kc, b, rfl, five_cells hy13 rfl _ _ _ _ _, (ht.into (five_into (Nat.le_refl _) (fun c h1 _ => (by omega : c ≠ wr.heap.size)) (wr.heap.size + 1) (Nat.le_refl _))).into (show Into _ _ (fun c => wr.heap.size + 1 ≤ c ∧ c < _) _ from Into.block fun c ⟨c1, c2⟩ => ⟨⟨by omega, c2, by omega⟩, rfl⟩), below_set5 hbw9 (Nat.le_refl _), Nat.le_refl _, hcase⟩
                case rest =>
                  obtain ⟨T13, t, kA, kn, kc, b, rfl, hx13, ht, hby, h13, hcase⟩ := hcut
                  have hxw := HXR.out.below hby HXR.out.lt
                  have hlxw := hxw.lt
                  have hcut2 := cut_at HCJ.out
                  rcases hcase with ⟨hno, rfl⟩ | ⟨hyes, rfl⟩
                  · have HLV := hid (HRA.out (by rw [hcut2]; exact allT_none hno))
                    obtain ⟨⟨a0, a1, a2, a3, a4⟩, f0, f1, f2, f3, f4⟩ := hxw.five
                    obtain ⟨⟨b0, b1, b2, b3, b4⟩, _⟩ := hx13.five
                    have HXW := hid hxw
                    have HBY := hid hby
                    clear ht hx13 hxw hby hcut2 hno HRA HRB HRC
                    go_wp2
                    have hz := five_cells HXW.out rfl (.int .i64 0) (.int .i64 0) (.int .i64 0) (.slice none 0 0) (.bool false)
                    have d0 := hz.cell 0
                    have d1 := hz.cell 1
                    have d2 := hz.cell 2
                    have d3 := hz.cell 3
                    have d4 := hz.cell 4
                    exact bodyPost_ret (v := .agg #[.int .i64 0, .int .i64 0, .int .i64 0, .slice none 0 0, .bool false]) (by simp [results, Try.f45, go_sem, d0, d1, d2, d3, d4]) rfl ⟨below_set5 (HBR.out.trans (HBY.out.mono HBR.out.size)) (Nat.le_refl _), .mk 0 0 0 [], none, 0, 0, false, rfl, by unfold TrB; exact ⟨none, 0, rfl, Nat.le_refl _, fun h => absurd rfl h⟩, .inl ⟨HLV.out, rfl⟩⟩
                  · have hal2 : allT (((csL ps).take (j + 1)).map (lineT 1 w)) = some (l ++ [t]) := by
                      rw [List.take_add_one, HCJ.out]
                      exact allT_snoc HAL.out hyes
                    have hll : l.length = j := by
                      rw [(allT_some HAL.out).1, List.length_take, HCL.out]; omega
                    have hz2 : (L ++ [(t.sized s, Value.slice kA kn kc)]).map Prod.fst = List.zipWith Tr.sized (l ++ [t]) (evenL h m) := by
                      rw [List.map_append, HLZ.out, zip_snoc l (evenL h m) (by rw [hll]; exact HEVJ.out)]
                      rfl
                    have HAL2 := hid hal2
                    have HZ2 := hid hz2
                    have hg13 : T13 < wc.heap.size := hx13.lt
                    have hown := World.ownsRow.lt HOW.out.1
                    have HOWN := hid hown
                    have how2 := HOW.out.kept hby (Nat.le_refl _)
                    have hnb : (Value.slice rA j rc).ownBlock ≠ some T13 := fun e => by have := (hown T13 e).2; omega
                    have how3 := (OwnT.other (i := 2) how2 hnb (.inr h13) (.int .i64 s)).mono (show wr.heap.size ≤ wc.heap.size from hby.size)
                    have hy13 := hx13.set (i := 2) (.int .i64 s)
                    simp only [List.setIfInBounds_toArray, List.set_cons_zero, List.set_cons_succ] at hy13
                    have hx10 := HX10.out.below hby HX10.out.lt
                    have hy10 := hx10.other (b' := T13) (i := 2) (by omega) (.int .i64 s)
                    have hyw := hxw.other (b' := T13) (i := 2) (by omega) (.int .i64 s)
                    have hbw := below_set (HBR.out.trans (hby.mono HBR.out.size)) (show W.heap.size ≤ T13 by have := HBR.out.size; omega) (i := 2) (.int .i64 s)
                    have htr := (ht.sized s).into (show Into wc (wc.setCell ⟨T13, 2, none⟩ (.int .i64 s)) (fun c => wr.heap.size ≤ c ∧ c < wc.heap.size ∧ c ≠ T13) (fun c => wr.heap.size ≤ c ∧ c < wc.heap.size) from Into.block fun c ⟨c1, c2, c3⟩ => ⟨⟨c1, c2⟩, Below.heap_setCell wc ⟨T13, 2, none⟩ _ c c3⟩)
                    have hsz := HS0.out
                    have hs1 := (hby.cell (p := ⟨gs, j, none⟩) hgsw).trans HS0.out
                    have hsA : ∀ i u, (evenL h m)[i]? = some u → (wc.setCell ⟨T13, 2, none⟩ (.int .i64 s)).cell? ⟨gs, i, none⟩ = some (.int .i64 u) := fun i u hu => by
                      have h0 := (hby.cell (p := ⟨gs, i, none⟩) hgsw).trans (HSC2.out i u hu)
                      unfold World.cell? at h0 ⊢
                      rw [Below.heap_setCell wc ⟨T13, 2, none⟩ _ gs (by show gs ≠ T13; omega)]
                      exact h0
                    obtain ⟨⟨b0, b1, b2, b3, b4⟩, fb0, fb1, fb2, fb3, fb4⟩ := hx13.five
                    have hmj : j < m := hj
                    clear hal2 hz2 how2 hx10 hxw hcut2 hyes ht hsz
                    go_upto_region 19 with fail
                    obtain ⟨Y, hYe⟩ : ∃ Y, wc.setCell ⟨T13, 2, none⟩ (.int .i64 s) = Y := ⟨_, rfl⟩
                    have HYS := hid (show Y.heap.size = wc.heap.size by rw [← hYe, size_set])
                    rw [hYe] at how3 hy13 hy10 hyw hbw htr hsA ⊢
                    rw [← HYS.out] at how3 hg13 htr
                    have hwcy : wr.heap.size ≤ Y.heap.size := by rw [HYS.out]; exact hby.size
                    clear b0 b1 b2 b3 b4 fb0 fb1 fb2 fb3 fb4 hYe hx13 hs1 hby hlxw
                    obtain ⟨⟨b0, b1, b2, b3, b4⟩, _⟩ := hy13.five
                    obtain ⟨⟨c0, c1, c2, c3⟩, _⟩ := hy10.four
                    have hl10 := hy10.lt
                    have hlw := hyw.lt
                    have hkA := below_alloc Y (.cells #[.int .i64 t.kind, .int .i64 t.pane, .int .i64 (s : Int), .slice kA kn kc] 24)
                    have HKA := hid hkA
                    have HOW4 := hid (how3.kept hkA (Nat.le_refl _))
                    have HRX := hid (show Box (Y.alloc (.cells #[.int .i64 t.kind, .int .i64 t.pane, .int .i64 (s : Int), .slice kA kn kc] 24)) Y.heap.size 24 (trow (t.sized s, .slice kA kn kc)).toArray from Box.new Y _ _)
                    have HTT := hid (htr.into (show Into Y (Y.alloc (.cells #[.int .i64 t.kind, .int .i64 t.pane, .int .i64 (s : Int), .slice kA kn kc] 24)) (fun c => wr.heap.size ≤ c ∧ c < Y.heap.size) (Beside (T10 + 1) Y.heap.size (.slice rA j rc)) from Into.block fun c ⟨c1, c2⟩ => ⟨⟨⟨by omega, fun e => by have := (HOWN.out c e).2; omega⟩, c2⟩, Below.heap_alloc Y _ c c2⟩))
                    have HBW := hid hbw
                    have HSA := hid hsA
                    have HY10 := hid hy10
                    have HYW := hid hyw
                    clear how3 hkA hbw hsA htr hy10 hyw hy13 hown hnb
                    go_wp2_with (at_builtin; refine wpList_append_t rfl _ _ rfl (T10 + 1) Y.heap.size (.slice rA j rc) L (t.sized s, .slice kA kn kc) Y.heap.size rfl HOW4.out rfl HRX.out HTT.out (by have := HLJ.out; omega) (by have := HKA.out.size; omega) HKA.out.size ?_; intro v' w1 hown' hgrow hat; obtain ⟨g6, cp, cur6, hv6, hgb6, hgl6, hgc6, _, _, _⟩ := hown'.row (by simp); have hlj : (L ++ [(t.sized s, Value.slice kA kn kc)]).length = j + 1 := (by rw [List.length_append, HLJ.out]; rfl); rw [hlj] at hv6; subst hv6; have hy10b := (HY10.out.below HKA.out HY10.out.lt).grown hgrow (fun e => (by have := (World.ownsRow.lt HOW4.out.1 _ e.symm).1; omega)); obtain ⟨⟨x0, x1, x2, x3⟩, y0, y1, y2, y3⟩ := hy10b.four; have hlb := hy10b.lt)
                    have hywb := (HYW.out.below HKA.out HYW.out.lt).grown hgrow (fun e => by have := (World.ownsRow.lt HOW4.out.1 _ e.symm).1; omega)
                    have hbw1 := (HBW.out.trans (HKA.out.mono HBW.out.size)).grown hgrow (by have := HBW.out.size; have := HKA.out.size; omega) fun q e => by have := (World.ownsRow.lt HOW4.out.1 q e).1; omega
                    have hz10 := hy10b.set (i := 3) (.slice (some ⟨g6, 0, none⟩) (j + 1) cp)
                    simp only [List.setIfInBounds_toArray, List.set_cons_zero, List.set_cons_succ] at hz10
                    have hwsz := hgrow.size
                    have hksz := HKA.out.size
                    go_roundw
                    case rel =>
                      refine ⟨j + 1, _, _, L ++ [(t.sized s, .slice kA kn kc)], l ++ [t], by go_num, by omega, hz10, ?_, hlj, HAL2.out, HZ2.out, hywb.other (by omega) _, below_set hbw1 (by omega) _, fun i u hu => ?_, by rw [size_set]; omega⟩
                      · exact (OwnT.other (i := 3) hown' (by show (some g6 : Option Nat) ≠ some T10; intro e; have := Option.some.inj e; omega) (.inl (by omega)) (.slice (some ⟨g6, 0, none⟩) (j + 1) cp)).mono (by rw [size_set]; omega)
                      · have h1 := HSA.out i u hu
                        have h2 := (HKA.out.cell (p := ⟨gs, i, none⟩) (by show gs < Y.heap.size; omega)).trans h1
                        have h3 := hgrow.block gs (by omega) (fun e => by have := (World.ownsRow.lt HOW4.out.1 gs e.symm).1; omega)
                        unfold World.cell? at h2 ⊢
                        rw [Below.heap_setCell w1 ⟨T10, 3, none⟩ _ gs (by show gs ≠ T10; omega), h3]
                        exact h2
                    case measure => simp [intOf]; omega
              · have hovI : ¬ (n : Int) < hi := by omega
                have hov2 : hi ≤ n := by omega
                have hle : lo + mm = hi := by have := HMM.out; have := HHI.out; omega
                have hloe2 : lo ≤ hi := by omega
                rw [hle] at hsl
                have HLE := hid hle
                clear hle
                go_upto_region 15 with fail
                go_cut [13] (fun v wx => ∃ (T13 : Nat) (t : Tr) (kA : Option Addr) (kn kc : Nat) (b : Bool), v = .pointer (some ⟨T13, 0, none⟩) ∧ Box wx T13 44 #[.int .i64 t.kind, .int .i64 t.pane, .int .i64 t.size, .slice kA kn kc, .bool b] ∧ TrB wx (fun c => wr.heap.size ≤ c ∧ c < wx.heap.size ∧ c ≠ T13) t (.slice kA kn kc) ∧ Below wr.heap.size wr wx ∧ wr.heap.size ≤ T13 ∧ ((lineT 1 w xs = none ∧ b = false) ∨ (lineT 1 w xs = some t ∧ b = true)))
                case first =>
                  have hS0 : wr.drew.cell? ⟨gs, j, none⟩ = some (.int .i64 s) := HS0.out
                  refine wp_region_S (fun _ w' => w'.cell? ⟨gs, j, none⟩ = some (.int .i64 s)) (by kernel_rfl) ?_
                  refine takeC (i := 0) (v := ?v0b) 54 rfl rfl (by kernel_rfl) (by kernel_rfl) (by kernel_rfl) (by kernel_rfl) (fun _ _ _ h => h) (Or.inl ⟨by rfl, fun w' hw' => ?hy0b⟩) hS0 ?rest0b
                  case hy0b => go_simp; try with_reducible rfl
                  try simp only [Act.put, List.setIfInBounds_toArray, List.set_cons_zero, List.set_cons_succ]
                  refine takeC (i := 1) (v := ?v1b) 55 rfl rfl (by kernel_rfl) (by kernel_rfl) (by kernel_rfl) (by kernel_rfl) (fun _ _ _ h => h) (Or.inl ⟨by rfl, fun w' hw' => ?hy1b⟩) hS0 ?rest1b
                  case hy1b => go_simp; try with_reducible rfl
                  try simp only [Act.put, List.setIfInBounds_toArray, List.set_cons_zero, List.set_cons_succ]
                  refine takeC (i := 2) (v := ?v2b) 56 rfl rfl (by kernel_rfl) (by kernel_rfl) (by kernel_rfl) (by kernel_rfl) (fun _ _ _ h => h) (Or.inl ⟨by rfl, fun w' hw' => ?hy2b⟩) hS0 ?rest2b
                  case hy2b => go_simp; try with_reducible rfl
                  try simp only [Act.put, List.setIfInBounds_toArray, List.set_cons_zero, List.set_cons_succ]
                  refine takeC (i := 3) (v := ?v3b) 57 rfl rfl (by kernel_rfl) (by kernel_rfl) (by kernel_rfl) (by kernel_rfl) (fun _ _ _ h => h) (Or.inl ⟨by rfl, fun w' hw' => ?hy3b⟩) hS0 ?rest3b
                  case hy3b => go_simp; try with_reducible rfl
                  try simp only [Act.put, List.setIfInBounds_toArray, List.set_cons_zero, List.set_cons_succ]
                  refine takeC (i := 4) (v := ?v4b) 58 rfl rfl (by kernel_rfl) (by kernel_rfl) (by kernel_rfl) (by kernel_rfl) (fun _ _ _ h => h) (Or.inl ⟨by rfl, fun w' hw' => ?hy4b⟩) hS0 ?rest4b
                  case hy4b => go_simp; try with_reducible rfl
                  try simp only [Act.put, List.setIfInBounds_toArray, List.set_cons_zero, List.set_cons_succ]
                  refine takeC (i := 5) (v := ?v5b) 59 rfl rfl (by kernel_rfl) (by kernel_rfl) (by kernel_rfl) (by kernel_rfl) (fun _ _ _ h => h) (Or.inl ⟨by rfl, fun w' hw' => ?hy5b⟩) hS0 ?rest5b
                  case hy5b => go_simp; try with_reducible rfl
                  try simp only [Act.put, List.setIfInBounds_toArray, List.set_cons_zero, List.set_cons_succ]
                  refine takeC (i := 6) (v := ?v6b) 60 rfl rfl (by kernel_rfl) (by kernel_rfl) (by kernel_rfl) (by kernel_rfl) (fun _ _ _ h => h) (Or.inl ⟨by rfl, fun w' hw' => ?hy6b⟩) hS0 ?rest6b
                  case hy6b => go_simp; try with_reducible rfl
                  try simp only [Act.put, List.setIfInBounds_toArray, List.set_cons_zero, List.set_cons_succ]
                  refine takeC (i := 7) (v := ?v7b) 61 rfl rfl (by kernel_rfl) (by kernel_rfl) (by kernel_rfl) (by kernel_rfl) (fun _ _ _ h => h) (Or.inl ⟨by rfl, fun w' hw' => ?hy7b⟩) hS0 ?rest7b
                  case hy7b => go_simp; try with_reducible rfl
                  try simp only [Act.put, List.setIfInBounds_toArray, List.set_cons_zero, List.set_cons_succ]
                  refine takeC (i := 8) (v := ?v8b) 62 rfl rfl (by kernel_rfl) (by kernel_rfl) (by kernel_rfl) (by kernel_rfl) (fun _ _ _ h => h) (Or.inl ⟨by rfl, fun w' hw' => ?hy8b⟩) hS0 ?rest8b
                  case hy8b => go_simp; try with_reducible rfl
                  try simp only [Act.put, List.setIfInBounds_toArray, List.set_cons_zero, List.set_cons_succ]
                  refine takeC (i := 9) (v := ?v9b) 63 rfl rfl (by kernel_rfl) (by kernel_rfl) (by kernel_rfl) (by kernel_rfl) (fun _ _ _ h => h) (Or.inl ⟨by rfl, fun w' hw' => ?hy9b⟩) hS0 ?rest9b
                  case hy9b => go_simp; try with_reducible rfl
                  try simp only [Act.put, List.setIfInBounds_toArray, List.set_cons_zero, List.set_cons_succ]
                  refine takeC (i := 10) (v := ?v10b) 64 rfl rfl (by kernel_rfl) (by kernel_rfl) (by kernel_rfl) (by kernel_rfl) (fun _ _ _ h => h) (Or.inl ⟨by rfl, fun w' hw' => ?hy10b⟩) hS0 ?rest10b
                  case hy10b => have q1 := hw'; go_simp; try with_reducible rfl
                  try simp only [Act.put, List.setIfInBounds_toArray, List.set_cons_zero, List.set_cons_succ]
                  refine eitherS (k1 := 11) (k2 := 12) (by kernel_rfl) rfl rfl (by rfl) (by rfl) (fun K hK => ?_) (fun K hK => ?_)
                  · go_simp
                    have hbA : Below wr.heap.size wr wr.drew := below_drew wr 1
                    go_at_call 44
                    refine (HLC.out _ hbA).mono ?_
                    rintro e9 w9 ⟨hb9, t, kA, kn, kc, b, rfl, ht, hcase⟩
                    dsimp only
                    have hbw9 : Below wr.heap.size wr w9 := hbA.trans (hb9.mono hbA.size)
                    have hS1 : w9.cell? ⟨gs, j, none⟩ = some (.int .i64 s) := (hbw9.cell (p := ⟨gs, j, none⟩) hgsw).trans HS0.out
                    refine hK _ _ hS1 ?_
                    clear hK K
                    try simp only [Act.put, List.setIfInBounds_toArray, List.set_cons_zero, List.set_cons_succ]
                    clear hS0
                    have hS0 := hS1
                    clear hS1
                    refine oneS (k := 12) (by kernel_rfl) rfl (by rfl) (fun K hK => ?_)
                    go_simp
                    have hS1 : ((w9.alloc (.cells #[.int .i64 0, .int .i64 0, .int .i64 0, .slice none 0 0, .bool false] 44))).cell? ⟨gs, j, none⟩ = some (.int .i64 s) := ((below_alloc w9 (.cells #[.int .i64 0, .int .i64 0, .int .i64 0, .slice none 0 0, .bool false] 44)).cell (p := ⟨gs, j, none⟩) (Nat.lt_of_lt_of_le hgsw hbw9.size)).trans hS0
                    refine hK _ _ hS1 ?_
                    clear hK K
                    try simp only [Act.put, List.setIfInBounds_toArray, List.set_cons_zero, List.set_cons_succ]
                    clear hS0
                    have hS0 := hS1
                    clear hS1
                    refine oneS (k := 13) (by kernel_rfl) rfl (by rfl) (fun K hK => ?_)
                    go_simp
                    have hS1 : ((w9.alloc (.cells #[.int .i64 t.kind, .int .i64 t.pane, .int .i64 t.size, .slice kA kn kc, .bool b] 44))).cell? ⟨gs, j, none⟩ = some (.int .i64 s) := ((below_alloc w9 (.cells #[.int .i64 t.kind, .int .i64 t.pane, .int .i64 t.size, .slice kA kn kc, .bool b] 44)).cell (p := ⟨gs, j, none⟩) (Nat.lt_of_lt_of_le hgsw hbw9.size)).trans ((hbw9.cell (p := ⟨gs, j, none⟩) hgsw).trans HS0.out)
                    refine hK _ _ hS1 ?_
                    clear hK K
                    try simp only [Act.put]
                    clear hS0
                    have hS0 := hS1
                    clear hS1
                    refine doneS (by kernel_rfl) ?_ _
                    go_wp2_with fail
                    go_meet
                    refine ⟨w9.heap.size, t, kA, kn, kc, b, rfl, Box.new w9 _ _, ht.into (Into.block fun c ⟨c1, c2⟩ => ⟨⟨c1, by rw [World.size_alloc]; omega, by omega⟩, Below.heap_alloc w9 _ c c2⟩), hbw9.alloc hbw9.size _, hbw9.size, hcase⟩
                  · go_simp
                    have hS1 : ((wr.alloc (.cells #[.int .i64 0, .int .i64 0, .int .i64 0, .slice none 0 0, .bool false] 44)).drew).cell? ⟨gs, j, none⟩ = some (.int .i64 s) := ((below_alloc wr (.cells #[.int .i64 0, .int .i64 0, .int .i64 0, .slice none 0 0, .bool false] 44)).cell (p := ⟨gs, j, none⟩) hgsw).trans HS0.out
                    refine hK _ _ hS1 ?_
                    clear hK K
                    try simp only [Act.put, List.setIfInBounds_toArray, List.set_cons_zero, List.set_cons_succ]
                    clear hS0
                    have hS0 := hS1
                    clear hS1
                    refine oneS (k := 11) (by kernel_rfl) rfl (by rfl) (fun K hK => ?_)
                    go_simp
                    have hbA : Below wr.heap.size wr (wr.alloc (.cells #[.int .i64 0, .int .i64 0, .int .i64 0, .slice none 0 0, .bool false] 44)).drew := (below_alloc wr _).trans ((below_drew _ 1).mono (below_alloc wr _).size)
                    go_at_call 44
                    refine (HLC.out _ hbA).mono ?_
                    rintro e9 w9 ⟨hb9, t, kA, kn, kc, b, rfl, ht, hcase⟩
                    dsimp only
                    have hbw9 : Below wr.heap.size wr w9 := hbA.trans (hb9.mono hbA.size)
                    have hS1 : w9.cell? ⟨gs, j, none⟩ = some (.int .i64 s) := (hbw9.cell (p := ⟨gs, j, none⟩) hgsw).trans HS0.out
                    refine hK _ _ hS1 ?_
                    clear hK K
                    try simp only [Act.put, List.setIfInBounds_toArray, List.set_cons_zero, List.set_cons_succ]
                    clear hS0
                    have hS0 := hS1
                    clear hS1
                    have hts : (wr.alloc (.cells #[.int .i64 0, .int .i64 0, .int .i64 0, .slice none 0 0, .bool false] 44)).drew.heap.size = wr.heap.size + 1 := World.size_alloc _ _
                    have hy13 := ((Box.new wr 44 #[.int .i64 0, .int .i64 0, .int .i64 0, .slice none 0 0, .bool false]).drew).below hb9 (by rw [hts]; omega)
                    obtain ⟨⟨a0, a1, a2, a3, a4⟩, f0, f1, f2, f3, f4⟩ := hy13.five
                    have hl13 := hy13.lt
                    refine oneS (k := 13) (by kernel_rfl) rfl (by rfl) (fun K hK => ?_)
                    go_simp
                    have hS1 : ((((((w9.setCell ⟨wr.heap.size, 0, none⟩ (.int .i64 t.kind)).setCell ⟨wr.heap.size, 1, none⟩ (.int .i64 t.pane)).setCell ⟨wr.heap.size, 2, none⟩ (.int .i64 t.size)).setCell ⟨wr.heap.size, 3, none⟩ (.slice kA kn kc)).setCell ⟨wr.heap.size, 4, none⟩ (.bool b))).cell? ⟨gs, j, none⟩ = some (.int .i64 s) := ((below_set5 hbw9 (Nat.le_refl _)).cell (p := ⟨gs, j, none⟩) hgsw).trans HS0.out
                    refine hK _ _ hS1 ?_
                    clear hK K
                    try simp only [Act.put]
                    clear hS0
                    have hS0 := hS1
                    clear hS1
                    refine doneS (by kernel_rfl) ?_ _
                    go_wp2_with fail
                    go_meet
                    rw [hts] at ht
                    refine ⟨wr.heap.size, t, kA, kn, kc, b, rfl, five_cells hy13 rfl _ _ _ _ _, (ht.into (five_into (Nat.le_refl _) (fun c h1 _ => (by omega : c ≠ wr.heap.size)) (wr.heap.size + 1) (Nat.le_refl _))).into (show Into _ _ (fun c => wr.heap.size + 1 ≤ c ∧ c < _) _ from Into.block fun c ⟨c1, c2⟩ => ⟨⟨by omega, c2, by omega⟩, rfl⟩), below_set5 hbw9 (Nat.le_refl _), Nat.le_refl _, hcase⟩
                case rest =>
                  obtain ⟨T13, t, kA, kn, kc, b, rfl, hx13, ht, hby, h13, hcase⟩ := hcut
                  have hxw := HXR.out.below hby HXR.out.lt
                  have hlxw := hxw.lt
                  have hcut2 := cut_at HCJ.out
                  rcases hcase with ⟨hno, rfl⟩ | ⟨hyes, rfl⟩
                  · have HLV := hid (HRA.out (by rw [hcut2]; exact allT_none hno))
                    obtain ⟨⟨a0, a1, a2, a3, a4⟩, f0, f1, f2, f3, f4⟩ := hxw.five
                    obtain ⟨⟨b0, b1, b2, b3, b4⟩, _⟩ := hx13.five
                    have HXW := hid hxw
                    have HBY := hid hby
                    clear ht hx13 hxw hby hcut2 hno HRA HRB HRC
                    go_wp2
                    have hz := five_cells HXW.out rfl (.int .i64 0) (.int .i64 0) (.int .i64 0) (.slice none 0 0) (.bool false)
                    have d0 := hz.cell 0
                    have d1 := hz.cell 1
                    have d2 := hz.cell 2
                    have d3 := hz.cell 3
                    have d4 := hz.cell 4
                    exact bodyPost_ret (v := .agg #[.int .i64 0, .int .i64 0, .int .i64 0, .slice none 0 0, .bool false]) (by simp [results, Try.f45, go_sem, d0, d1, d2, d3, d4]) rfl ⟨below_set5 (HBR.out.trans (HBY.out.mono HBR.out.size)) (Nat.le_refl _), .mk 0 0 0 [], none, 0, 0, false, rfl, by unfold TrB; exact ⟨none, 0, rfl, Nat.le_refl _, fun h => absurd rfl h⟩, .inl ⟨HLV.out, rfl⟩⟩
                  · have hal2 : allT (((csL ps).take (j + 1)).map (lineT 1 w)) = some (l ++ [t]) := by
                      rw [List.take_add_one, HCJ.out]
                      exact allT_snoc HAL.out hyes
                    have hll : l.length = j := by
                      rw [(allT_some HAL.out).1, List.length_take, HCL.out]; omega
                    have hz2 : (L ++ [(t.sized s, Value.slice kA kn kc)]).map Prod.fst = List.zipWith Tr.sized (l ++ [t]) (evenL h m) := by
                      rw [List.map_append, HLZ.out, zip_snoc l (evenL h m) (by rw [hll]; exact HEVJ.out)]
                      rfl
                    have HAL2 := hid hal2
                    have HZ2 := hid hz2
                    have hg13 : T13 < wc.heap.size := hx13.lt
                    have hown := World.ownsRow.lt HOW.out.1
                    have HOWN := hid hown
                    have how2 := HOW.out.kept hby (Nat.le_refl _)
                    have hnb : (Value.slice rA j rc).ownBlock ≠ some T13 := fun e => by have := (hown T13 e).2; omega
                    have how3 := (OwnT.other (i := 2) how2 hnb (.inr h13) (.int .i64 s)).mono (show wr.heap.size ≤ wc.heap.size from hby.size)
                    have hy13 := hx13.set (i := 2) (.int .i64 s)
                    simp only [List.setIfInBounds_toArray, List.set_cons_zero, List.set_cons_succ] at hy13
                    have hx10 := HX10.out.below hby HX10.out.lt
                    have hy10 := hx10.other (b' := T13) (i := 2) (by omega) (.int .i64 s)
                    have hyw := hxw.other (b' := T13) (i := 2) (by omega) (.int .i64 s)
                    have hbw := below_set (HBR.out.trans (hby.mono HBR.out.size)) (show W.heap.size ≤ T13 by have := HBR.out.size; omega) (i := 2) (.int .i64 s)
                    have htr := (ht.sized s).into (show Into wc (wc.setCell ⟨T13, 2, none⟩ (.int .i64 s)) (fun c => wr.heap.size ≤ c ∧ c < wc.heap.size ∧ c ≠ T13) (fun c => wr.heap.size ≤ c ∧ c < wc.heap.size) from Into.block fun c ⟨c1, c2, c3⟩ => ⟨⟨c1, c2⟩, Below.heap_setCell wc ⟨T13, 2, none⟩ _ c c3⟩)
                    have hsz := HS0.out
                    have hs1 := (hby.cell (p := ⟨gs, j, none⟩) hgsw).trans HS0.out
                    have hsA : ∀ i u, (evenL h m)[i]? = some u → (wc.setCell ⟨T13, 2, none⟩ (.int .i64 s)).cell? ⟨gs, i, none⟩ = some (.int .i64 u) := fun i u hu => by
                      have h0 := (hby.cell (p := ⟨gs, i, none⟩) hgsw).trans (HSC2.out i u hu)
                      unfold World.cell? at h0 ⊢
                      rw [Below.heap_setCell wc ⟨T13, 2, none⟩ _ gs (by show gs ≠ T13; omega)]
                      exact h0
                    obtain ⟨⟨b0, b1, b2, b3, b4⟩, fb0, fb1, fb2, fb3, fb4⟩ := hx13.five
                    have hmj : j < m := hj
                    clear hal2 hz2 how2 hx10 hxw hcut2 hyes ht hsz
                    go_upto_region 19 with fail
                    obtain ⟨Y, hYe⟩ : ∃ Y, wc.setCell ⟨T13, 2, none⟩ (.int .i64 s) = Y := ⟨_, rfl⟩
                    have HYS := hid (show Y.heap.size = wc.heap.size by rw [← hYe, size_set])
                    rw [hYe] at how3 hy13 hy10 hyw hbw htr hsA ⊢
                    rw [← HYS.out] at how3 hg13 htr
                    have hwcy : wr.heap.size ≤ Y.heap.size := by rw [HYS.out]; exact hby.size
                    clear b0 b1 b2 b3 b4 fb0 fb1 fb2 fb3 fb4 hYe hx13 hs1 hby hlxw
                    obtain ⟨⟨b0, b1, b2, b3, b4⟩, _⟩ := hy13.five
                    obtain ⟨⟨c0, c1, c2, c3⟩, _⟩ := hy10.four
                    have hl10 := hy10.lt
                    have hlw := hyw.lt
                    have hkA := below_alloc Y (.cells #[.int .i64 t.kind, .int .i64 t.pane, .int .i64 (s : Int), .slice kA kn kc] 24)
                    have HKA := hid hkA
                    have HOW4 := hid (how3.kept hkA (Nat.le_refl _))
                    have HRX := hid (show Box (Y.alloc (.cells #[.int .i64 t.kind, .int .i64 t.pane, .int .i64 (s : Int), .slice kA kn kc] 24)) Y.heap.size 24 (trow (t.sized s, .slice kA kn kc)).toArray from Box.new Y _ _)
                    have HTT := hid (htr.into (show Into Y (Y.alloc (.cells #[.int .i64 t.kind, .int .i64 t.pane, .int .i64 (s : Int), .slice kA kn kc] 24)) (fun c => wr.heap.size ≤ c ∧ c < Y.heap.size) (Beside (T10 + 1) Y.heap.size (.slice rA j rc)) from Into.block fun c ⟨c1, c2⟩ => ⟨⟨⟨by omega, fun e => by have := (HOWN.out c e).2; omega⟩, c2⟩, Below.heap_alloc Y _ c c2⟩))
                    have HBW := hid hbw
                    have HSA := hid hsA
                    have HY10 := hid hy10
                    have HYW := hid hyw
                    clear how3 hkA hbw hsA htr hy10 hyw hy13 hown hnb
                    go_wp2_with (at_builtin; refine wpList_append_t rfl _ _ rfl (T10 + 1) Y.heap.size (.slice rA j rc) L (t.sized s, .slice kA kn kc) Y.heap.size rfl HOW4.out rfl HRX.out HTT.out (by have := HLJ.out; omega) (by have := HKA.out.size; omega) HKA.out.size ?_; intro v' w1 hown' hgrow hat; obtain ⟨g6, cp, cur6, hv6, hgb6, hgl6, hgc6, _, _, _⟩ := hown'.row (by simp); have hlj : (L ++ [(t.sized s, Value.slice kA kn kc)]).length = j + 1 := (by rw [List.length_append, HLJ.out]; rfl); rw [hlj] at hv6; subst hv6; have hy10b := (HY10.out.below HKA.out HY10.out.lt).grown hgrow (fun e => (by have := (World.ownsRow.lt HOW4.out.1 _ e.symm).1; omega)); obtain ⟨⟨x0, x1, x2, x3⟩, y0, y1, y2, y3⟩ := hy10b.four; have hlb := hy10b.lt)
                    have hywb := (HYW.out.below HKA.out HYW.out.lt).grown hgrow (fun e => by have := (World.ownsRow.lt HOW4.out.1 _ e.symm).1; omega)
                    have hbw1 := (HBW.out.trans (HKA.out.mono HBW.out.size)).grown hgrow (by have := HBW.out.size; have := HKA.out.size; omega) fun q e => by have := (World.ownsRow.lt HOW4.out.1 q e).1; omega
                    have hz10 := hy10b.set (i := 3) (.slice (some ⟨g6, 0, none⟩) (j + 1) cp)
                    simp only [List.setIfInBounds_toArray, List.set_cons_zero, List.set_cons_succ] at hz10
                    have hwsz := hgrow.size
                    have hksz := HKA.out.size
                    go_roundw
                    case rel =>
                      refine ⟨j + 1, _, _, L ++ [(t.sized s, .slice kA kn kc)], l ++ [t], by go_num, by omega, hz10, ?_, hlj, HAL2.out, HZ2.out, hywb.other (by omega) _, below_set hbw1 (by omega) _, fun i u hu => ?_, by rw [size_set]; omega⟩
                      · exact (OwnT.other (i := 3) hown' (by show (some g6 : Option Nat) ≠ some T10; intro e; have := Option.some.inj e; omega) (.inl (by omega)) (.slice (some ⟨g6, 0, none⟩) (j + 1) cp)).mono (by rw [size_set]; omega)
                      · have h1 := HSA.out i u hu
                        have h2 := (HKA.out.cell (p := ⟨gs, i, none⟩) (by show gs < Y.heap.size; omega)).trans h1
                        have h3 := hgrow.block gs (by omega) (fun e => by have := (World.ownsRow.lt HOW4.out.1 gs e.symm).1; omega)
                        unfold World.cell? at h2 ⊢
                        rw [Below.heap_setCell w1 ⟨T10, 3, none⟩ _ gs (by show gs ≠ T10; omega), h3]
                        exact h2
                    case measure => simp [intOf]; omega
            · have hjm' : j = m := by omega
              subst hjm'
              obtain ⟨⟨a0, a1, a2, a3, a4⟩, f0, f1, f2, f3, f4⟩ := hxr.five
              obtain ⟨⟨b0, b1, b2, b3⟩, _⟩ := hx11.four
              have hlr := hxr.lt
              have hlr11 := hx11.lt
              have hj0 : (0 : Int) < j := by omega
              have hj0n : 0 < j := by omega
              have hne : ¬ T10 = W.heap.size := by omega
              have hne2 : ¬ W.heap.size = T10 := by omega
              have hcs : (csL ps).take j = csL ps := List.take_of_length_le (by rw [HCL.out]; exact Nat.le_refl _)
              rw [hcs] at hal
              have hll : l.length = j := by rw [(allT_some hal).1, HCL.out]
              have HLV := hid (HRC.out l hal HROOM.out)
              have hdl : dealT h l = L.map Prod.fst := by rw [hLz]; unfold dealT; rw [hll]
              rw [hdl] at HLV
              have HXR := hid hxr
              have HOO := hid how
              have HBR := hid hbr
              clear hx11 how hxr hbr hsc2 hj hal hLz hdl hcs HRA HRB HRC
              go_wp2
              have hz := five_cells HXR.out rfl (.int .i64 2) (.int .i64 0) (.int .i64 0) (.slice rA j rc) (.bool true)
              have d0 := hz.cell 0
              have d1 := hz.cell 1
              have d2 := hz.cell 2
              have d3 := hz.cell 3
              have d4 := hz.cell 4
              have htr := HOO.out.tree (T := wr.heap.size) (fun k e => (World.ownsRow.lt HOO.out.1 k e).2) (Nat.le_refl _) 2 0 0
              exact bodyPost_ret (v := .agg #[.int .i64 2, .int .i64 0, .int .i64 0, .slice rA j rc, .bool true]) (by simp [results, Try.f45, go_sem, d0, d1, d2, d3, d4]) rfl ⟨below_set5 HBR.out (Nat.le_refl _), .mk 2 0 0 (L.map Prod.fst), rA, j, rc, true, rfl, htr.into (five_into (Nat.le_refl _) (fun c h1 _ => by omega) W.heap.size (by omega)), .inr ⟨HLV.out, rfl⟩⟩
end Go.Proofs.Ytglfolbimafcaaa
