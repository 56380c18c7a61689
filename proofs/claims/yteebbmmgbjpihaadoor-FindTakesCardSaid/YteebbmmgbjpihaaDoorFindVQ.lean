/- Layer 10, the package: what is between two places. Made by wip/gen/findV.py. -/
import Derived.Test.YteebbmmgbjpihaaDoorFindUQ
namespace Go.Proofs.YteebbmmgbjpihaaDoor
open Go.RowKit Go.Shelf

theorem OwnC.not_str {W : World} {base base' : Nat} {v v' : Value} {l : List Ce} {ts : List ByteArray} (h : OwnC W base v l) (hr : OwnS W base' v' ts) : v.ownBlock = none ∨ v.ownBlock ≠ v'.ownBlock := by
  rcases h.2 with ⟨rfl, _⟩ | ⟨g, cap, cur, rfl, _, hg, _⟩
  · exact .inl rfl
  · right
    rcases hr.2 with ⟨rfl, _⟩ | ⟨g', cap', cur', rfl, _, hg', _⟩
    · simp [Value.ownBlock]
    · simp only [Value.ownBlock, ne_eq, Option.some.injEq]
      rintro rfl
      rw [hg] at hg'
      cases hg'
theorem OwnS.not_ce {W : World} {base base' : Nat} {v v' : Value} {l : List Ce} {ts : List ByteArray} (h : OwnS W base v ts) (hr : OwnC W base' v' l) : v.ownBlock = none ∨ v.ownBlock ≠ v'.ownBlock := by
  rcases hr.not_str h with h1 | h1
  · cases hv : v.ownBlock with
    | none => exact .inl rfl
    | some q => right; rw [h1]; simp
  · exact .inr (fun e => h1 e.symm)
theorem tkS_sum {ls : List Ln} {a b : Nat × Nat} (h : ∀ l ∈ ls, l.cs.length ≤ 80 ∧ ∀ c ∈ l.cs, rightB c = true ∧ c.tx.size ≤ 1000) : ∀ k, (tkS ls a b k).2.length ≤ k * 80 ∧ (tkS ls a b k).1.length ≤ k ∧ (∀ c ∈ (tkS ls a b k).2, rightB c = true ∧ c.tx.size ≤ 1000)
  | 0 => ⟨Nat.le_refl _, Nat.le_refl _, fun c hc => by simp [tkS] at hc⟩
  | k + 1 => by
    obtain ⟨i1, i2, i3⟩ := tkS_sum (a := a) (b := b) h k
    have hseg : (segT ls a b (a.1 + k)).length ≤ 80 ∧ ∀ c ∈ segT ls a b (a.1 + k), rightB c = true ∧ c.tx.size ≤ 1000 := seg_ok (a := a) (b := b) (r := a.1 + k) h
    by_cases hg : softP ls (a.1 + k) = true ∧ a.1 + k ≠ b.1
    · rw [tkS_go hg.1 hg.2]
      refine ⟨by simp only [List.length_append]; omega, by simp only; omega, fun c hc => ?_⟩
      rcases List.mem_append.1 hc with hc | hc
      · exact i3 c hc
      · exact hseg.2 c hc
    · rw [tkS_end (by
        cases hs : softP ls (a.1 + k) with
        | false => exact .inl rfl
        | true => exact .inr (Classical.byContradiction fun hne => hg ⟨hs, hne⟩))]
      exact ⟨Nat.zero_le _, by simp only [List.length_append, List.length_singleton]; omega, fun c hc => by simp at hc⟩
where
  seg_ok {ls : List Ln} {a b : Nat × Nat} {r : Nat} (h : ∀ l ∈ ls, l.cs.length ≤ 80 ∧ ∀ c ∈ l.cs, rightB c = true ∧ c.tx.size ≤ 1000) : (segT ls a b r).length ≤ 80 ∧ ∀ c ∈ segT ls a b r, rightB c = true ∧ c.tx.size ≤ 1000 := by
    have hcs : ∀ cs : List Ce, cs.length ≤ 80 ∧ (∀ c ∈ cs, rightB c = true ∧ c.tx.size ≤ 1000) → (if r = a.1 then (if r = b.1 then cs.take (b.2 + 1) else cs).drop a.2 else (if r = b.1 then cs.take (b.2 + 1) else cs)).length ≤ 80 ∧ ∀ c ∈ (if r = a.1 then (if r = b.1 then cs.take (b.2 + 1) else cs).drop a.2 else (if r = b.1 then cs.take (b.2 + 1) else cs)), rightB c = true ∧ c.tx.size ≤ 1000 := by
      intro cs ⟨h1, h2⟩
      have ht : (if r = b.1 then cs.take (b.2 + 1) else cs).length ≤ 80 ∧ ∀ c ∈ (if r = b.1 then cs.take (b.2 + 1) else cs), rightB c = true ∧ c.tx.size ≤ 1000 := by
        split
        · exact ⟨by rw [List.length_take]; omega, fun c hc => h2 c (List.take_subset _ _ hc)⟩
        · exact ⟨h1, h2⟩
      split
      · exact ⟨by rw [List.length_drop]; omega, fun c hc => ht.2 c (List.drop_subset _ _ hc)⟩
      · exact ht
    unfold segT
    cases hl : ls[r]? with
    | none => exact hcs [] ⟨by simp, fun c hc => by simp at hc⟩
    | some l => exact hcs l.cs (h l (List.mem_of_getElem? hl))
/-- Two places in their boxes, texts of one's own, and cells of one's own. -/
structure VRel (W X : World) (ar ac br bc : Nat) (tv wv : Value) (s : List ByteArray × List Ce) : Prop where
  w : WRel W X ar ac br bc tv s.1
  c : OwnC X W.heap.size wv s.2
theorem VRel.below {W X Y : World} {ar ac br bc : Nat} {tv wv : Value} {s : List ByteArray × List Ce} (h : VRel W X ar ac br bc tv wv s) (hb : Below X.heap.size X Y) : VRel W Y ar ac br bc tv wv s := ⟨h.w.below hb, h.c.kept hb⟩
theorem VRel.cells {W X Y : World} {ar ac br bc : Nat} {tv wv wv' : Value} {ts : List ByteArray} {cs cs' : List Ce} (h : VRel W X ar ac br bc tv wv (ts, cs)) (h1 : OwnC Y W.heap.size wv' cs') (hg : X.grownBy Y wv.ownBlock) : VRel W Y ar ac br bc tv wv' (ts, cs') :=
  ⟨⟨h.w.hb.grown hg h.w.hb.size (fun q hq => (World.ownsRow.lt h.c q hq).1), h.w.b0.grown hg (h.c.not_box h.w.b0 (by decide)), h.w.b1.grown hg (h.c.not_box h.w.b1 (by decide)), World.ownsRow.kept h.w.tx hg (h.w.tx.not_ce h.c)⟩, h1⟩
set_option maxRecDepth 100000 in
set_option maxHeartbeats 8000000 in
theorem between_any (v : Value) (lv : List (Ln × Value)) (ar ac br bc : Nat) (W : World) (hf : Fl W v lv) (hk : keptB lv = true) (ha : (ar, ac) ∈ placesP (lv.map Prod.fst)) (hb : (br, bc) ∈ placesP (lv.map Prod.fst)) (hle : ¬ behP (ar, ac) (br, bc)) :
    Calls Tryd.prog 25 #[v, .agg #[.int .i64 ar, .int .i64 ac], .agg #[.int .i64 br, .int .i64 bc]] W fun e w' => e = .returned (.string (tkT (lv.map Prod.fst) (ar, ac) (br, bc))) ∧ Below W.heap.size W w' := by
  have hok := kept_ok hf.sm hk
  have h1 := (inP_iff.1 (inP_nat.2 ha)).1.2
  have h2 := (inP_iff.1 (inP_nat.2 hb)).1.2
  have h3 := places_mem.1 ha
  have h4 := places_mem.1 hb
  simp only [toI, List.length_map] at h1 h2 h3 h4
  unfold behP at hle
  simp only at hle
  have hn := hf.n
  obtain ⟨A, cap, rfl⟩ := hf.lr.spell
  obtain ⟨n, hnn⟩ : ∃ n, lv.length = n := ⟨_, rfl⟩
  have hlr := hf.lr
  have hce := hf.ces
  obtain ⟨ls, hls⟩ : ∃ ls, lv.map Prod.fst = ls := ⟨_, rfl⟩
  rw [hls] at hok h3 h4 ⊢
  rw [hnn] at hlr h1 h2 hn ⊢
  have hsum := tkS_sum (ls := ls) (a := (ar, ac)) (b := (br, bc)) (fun l hl => ⟨(hok l hl).2.2.2, fun c hc => ⟨rights_iff.1 (okR_iff.1 (hok l hl).1).1 c hc, (hok l hl).2.1 c hc⟩⟩)
  have hst : VRel W ((W.alloc (.cells #[.int .i64 ar, .int .i64 ac] 50)).alloc (.cells #[.int .i64 br, .int .i64 bc] 50)) ar ac br bc (.slice none 0 0) (.slice none 0 0) (tkS ls (ar, ac) (br, bc) 0) := by
    refine ⟨⟨(below_alloc _ _).alloc (by simp) _, (Box.new _ _ _).alloc _, ?_, OwnS.nil _ _⟩, OwnC.nil _ _⟩
    have := Box.new (W.alloc (.cells #[.int .i64 ar, .int .i64 ac] 50)) 50 #[.int .i64 br, .int .i64 bc]
    rwa [World.size_alloc] at this
  have htx : ∀ k, k ≤ 201 → ∀ ts whole, tkS ls (ar, ac) (br, bc) k = (ts, whole) → ∀ x ∈ ts, x.size ≤ 100000000 := by
    intro k
    induction k with
    | zero => intro _ ts whole h x hx; cases h; simp at hx
    | succ k ih =>
      intro hk ts whole h x hx
      have hs := hsum k
      have hsg := tkS_sum.seg_ok (ls := ls) (a := (ar, ac)) (b := (br, bc)) (r := ar + k) (fun l hl => ⟨(hok l hl).2.2.2, fun c hc => ⟨rights_iff.1 (okR_iff.1 (hok l hl).1).1 c hc, (hok l hl).2.1 c hc⟩⟩)
      by_cases hg : softP ls (ar + k) = true ∧ ar + k ≠ br
      · have e : tkS ls (ar, ac) (br, bc) (k + 1) = _ := tkS_go hg.1 hg.2
        rw [e] at h
        cases h
        exact ih (by omega) _ _ rfl x hx
      · have e : tkS ls (ar, ac) (br, bc) (k + 1) = _ := tkS_end (by
          cases hs : softP ls (ar + k) with
          | false => exact .inl rfl
          | true => exact .inr (Classical.byContradiction fun hne => hg ⟨hs, hne⟩))
        rw [e] at h
        cases h
        rcases List.mem_append.1 hx with hx | hx
        · exact ih (by omega) _ _ rfl x hx
        · rw [List.mem_singleton.1 hx]
          refine endB_say (fun c hc => ?_) ?_
          · rcases List.mem_append.1 hc with hc | hc
            · exact (hs.2.2 c hc).2
            · exact (hsg.2 c hc).2
          · rw [List.length_append]
            have := hs.1
            have := hsg.1
            simp only at *
            omega
  have HTX := hid htx
  clear htx
  have HST0 := hid hst
  have HOK := hid hok
  have HLR := hid hlr
  have HCE := hid hce
  have HLS := hid hls
  have HSUM := hid hsum
  have har : ar ≤ br := by omega
  have harb : (ar : Int) ≤ 200 := by omega
  have hbrb : (br : Int) ≤ 200 := by omega
  have hbr2 : br < n := by omega
  have HLEN4 : Hid (∀ l, ls[br]? = some l → bc < l.cs.length) := fun l hl => by rw [lenP_at hl] at h4; exact h4
  have HLEN3 : Hid (∀ l, ls[ar]? = some l → ac < l.cs.length) := fun l hl => by rw [lenP_at hl] at h3; exact h3
  have hcc : ar = br → ac ≤ bc := fun e => by omega
  have HCC := hid hcc
  clear hst hok hlr hce hls hsum hf hk ha hb hle h1 h2 h3 h4 hcc
  go_enter Tryd.func25, Tryd.ntmps25
  have k0 := HST0.out.w.b0.two.1.1
  go_wp2
  clear k0
  go_loopw [7, 8, 9] (fun tv wv i wr => ∃ k : Nat, ar + k ≤ br + 1 ∧ i = .int .i64 ((ar + k : Nat) : Int) ∧ VRel W wr ar ac br bc tv wv (tkS ls (ar, ac) (br, bc) k)) (fun _ _ i _ => br + 1 - (intOf i).toNat)
  case atStart => exact ⟨0, by omega, by rw [Nat.add_zero], HST0.out⟩
  case round =>
    obtain ⟨k, hk, rfl, hv⟩ := hrel
    obtain ⟨s1, s2, s3⟩ := HSUM.out k
    obtain ⟨⟨ts, whole⟩, hst⟩ : ∃ st, tkS ls (ar, ac) (br, bc) k = st := ⟨_, rfl⟩
    rw [hst] at hv s1 s2 s3
    simp only at s1 s2 s3
    obtain ⟨tA, tc, htv⟩ := hv.w.tx.spell
    obtain ⟨wA, wc', hwv⟩ := hv.c.spell
    simp only at htv hwv
    obtain ⟨tn, htn⟩ : ∃ tn, ts.length = tn := ⟨_, rfl⟩
    obtain ⟨wn, hwn⟩ : ∃ wn, whole.length = wn := ⟨_, rfl⟩
    rw [htn] at htv s2
    rw [hwn] at hwv s1
    subst htv hwv
    obtain ⟨⟨x0, x1⟩, _⟩ := hv.w.b0.two
    obtain ⟨⟨x2, x3⟩, _⟩ := hv.w.b1.two
    have hk201 : k ≤ 201 := by omega
    have HTN := hid htn
    have HWN := hid hwn
    by_cases hlt : ar + k ≤ br
    · have hki : ((ar + k : Nat) : Int) ≤ br := by omega
      have hkr : ((ar + k : Nat) : Int) < n := by omega
      have hk0 : (0 : Int) ≤ ((ar + k : Nat) : Int) := by omega
      have hkb : ((ar + k : Nat) : Int) ≤ 200 := by omega
      obtain ⟨g, o, e, eA, hg, he, hcell⟩ := lr_at HLR.out hnn (ar + k) (by omega)
      subst eA
      obtain ⟨p0, p1⟩ := hcell wr hv.w.hb
      have hxl : ls[ar + k]? = some e.1 := by rw [← HLS.out, List.getElem?_map, he]; rfl
      obtain ⟨q1, q2, q3, q4⟩ := HOK.out e.1 (List.mem_of_getElem? hxl)
      have hce := (HCE.out e (List.mem_of_getElem? he)).below hv.w.hb
      have e4 := fun h : ar + k = br => HLEN4.out e.1 (by rw [← h]; exact hxl)
      have e3 := fun h : k = 0 => HLEN3.out e.1 (by rw [← show ar + k = ar by omega]; exact hxl)
      obtain ⟨⟨cs, soft⟩, cv⟩ := e
      simp only at p0 p1 q1 q2 q3 q4 hce hxl e3 e4
      obtain ⟨cA, cc, rfl⟩ := hce.spell
      obtain ⟨m, hm⟩ : ∃ m, cs.length = m := ⟨_, rfl⟩
      have hcap : m ≤ cc := by
        obtain ⟨A', c', e', hcap, _⟩ := hce
        rw [hm] at e' hcap
        cases e'
        exact hcap
      rw [hm] at p0 hce q3 q4 e3 e4
      have HV := hid hv
      have HST := hid hst
      have hcc := HCC.out
      obtain ⟨y, hy⟩ : ∃ y, endB (sayCs (whole ++ segT ls (ar, ac) (br, bc) (ar + k))) = y := ⟨_, rfl⟩
      have hsd : ∀ (v5 : Value) (X : World), CeRow X v5 (whole ++ segT ls (ar, ac) (br, bc) (ar + k)) → Calls Tryd.prog 40 #[v5] X fun e w' => e = .returned (.string y) ∧ Below X.heap.size X w' := fun v5 X hX => by
        rw [← hy]
        have hsg := tkS_sum.seg_ok (ls := ls) (a := (ar, ac)) (b := (br, bc)) (r := ar + k) (fun l hl => ⟨(HOK.out l hl).2.2.2, fun c hc => ⟨rights_iff.1 (okR_iff.1 (HOK.out l hl).1).1 c hc, (HOK.out l hl).2.1 c hc⟩⟩)
        exact fsaid_any v5 _ X hX (fun c hc => by rcases List.mem_append.1 hc with hc | hc; exact s3 c hc; exact hsg.2 c hc) (by rw [List.length_append, HWN.out]; omega)
      have HSD := hid hsd
      have HYY : Hid (endB (sayCs (whole ++ segT ls (ar, ac) (br, bc) (ar + k))) = y) := hy
      clear hsd hy hv hst he q1 q2 htn hwn s3
      obtain ⟨r, hr⟩ : ∃ r, ar + k = r := ⟨_, rfl⟩
      rw [hr] at p0 p1 hxl hki hkr hk0 hkb hlt HSD HYY e4 ⊢
      have HR := hid hr
      simp only at hcell
      rw [hr] at hcell
      have HCL := hid hcell
      clear hcell
      by_cases hB : r = br
      · cases soft
        · have HSO : Hid (softP ls r = false) := by unfold Hid softP; rw [hxl]
          by_cases hA : k = 0
          · have hAA := hA
            have ee1 : ar = r := by omega
            subst ee1
            have ee2 : ar = br := by omega
            subst ee2
            obtain ⟨A1, hs1, hr1⟩ := slice_ce_h8 hce hm (bc + 1) (by omega)
            rw [show ((bc + 1 : Nat) : Int) = (bc : Int) + 1 by omega] at hs1
            have hl1 : (cs.take (bc + 1)).length = bc + 1 := by rw [List.length_take]; omega
            obtain ⟨s1, hs1n⟩ : ∃ s1, bc + 1 = s1 := ⟨_, rfl⟩
            rw [hs1n] at hs1 hr1 hl1
            have hbc80 : (bc : Int) ≤ 80 := by omega
            have hb1 : (bc : Int) + 1 ≤ cc := by omega
            have hb0 : (0 : Int) ≤ (bc : Int) + 1 := by omega
            obtain ⟨A2, hs2, hr2⟩ := slice_ce_l hr1 hl1 ac (by omega)
            obtain ⟨s2, hs2n⟩ : ∃ s2, s1 - ac = s2 := ⟨_, rfl⟩
            obtain ⟨s3, hs3n⟩ : ∃ s3, cc - ac = s3 := ⟨_, rfl⟩
            rw [hs2n, hs3n] at hs2 hr2
            have hb2 : (ac : Int) ≤ s1 := by omega
            have hb3 : ac ≤ s1 := by omega
            have hl2 : ((cs.take s1).drop ac).length = s2 := by rw [List.length_drop, hl1, hs2n]
            have hseg : segT ls (ar, ac) (ar, bc) ar = (cs.take s1).drop ac := by
              unfold segT
              rw [hxl, ← hs1n]
              simp
            have hz80 : s2 ≤ 80 := by omega
            rw [← hseg] at hr2 hl2
            have HSN := hid hl2
            have HSR := hid hr2
            clear hAA hA hB hseg hr2 hl2 hxl hlt e3 e4 hcc hs1n hs2n hs3n hr1
            have HEN : Hid (tkS ls (ar, ac) (ar, bc) (k + 1) = (ts ++ [y], [])) := by
              unfold Hid
              rw [tkS_end (.inr (by show ar + k = ar; exact HR.out)), HST.out]
              show (ts ++ [endB (sayCs (whole ++ segT ls (ar, ac) (ar, bc) (ar + k)))], []) = _
              rw [HR.out, HYY.out]
            go_wp2_with first | (at_builtin; refine wpList_append_ce rfl _ _ rfl W.heap.size _ _ whole (segT ls (ar, ac) (ar, bc) ar) rfl HV.out.c rfl HSR.out (by rw [HWN.out, HSN.out]; omega) (by exact HV.out.w.hb.size) ?_; intro v5 w5 g1 g2; obtain ⟨A5, c5, hv5⟩ := g1.spell; rw [List.length_append, HWN.out, HSN.out] at hv5; subst hv5; have HV5 := hid (HV.out.cells g1 g2); have p15 := (HCL.out w5 HV5.out.w.hb).2; have x25 := HV5.out.w.b1.two.1.1; have HS5 := hid (HSD.out _ w5 g1.csl.row); clear g1 g2) | (go_at_call 40; refine HS5.out.mono ?_; rintro e6 w6 ⟨rfl, hb6⟩; have HV6 := hid (HV5.out.below hb6); have HO6 := hid (HV6.out.w.tx.kept (below_alloc w6 (.cells #[.string y] 9)))) | (at_builtin; refine wpList_append_strs rfl _ _ rfl W.heap.size _ _ rfl HO6.out [y] ⟨w6.heap.size, 0, none⟩ 1 1 rfl rfl (slit_at (l := [.string y]) (Box.new w6 _ _)) (by rw [HTN.out]; omega) (by have := HV6.out.w.hb.size; simp; omega) ?_; intro v7 w7 g1 g2; obtain ⟨A7, c7, hv7⟩ := g1.spell; rw [List.length_append, HTN.out, List.length_singleton] at hv7; subst hv7; have G1 := hid g1; have G2 := hid g2; clear g1 g2)
            go_roundw
            case rel => exact ⟨k + 1, by have := HR.out; omega, congrArg (Value.int .i64) (by have := HR.out; omega), by rw [HEN.out]; exact ⟨(HV6.out.w.below (below_alloc _ _)).more G1.out G2.out, OwnC.nil _ _⟩⟩
            case measure => first | (simp [intOf]; done) | (simp [intOf]; omega)
          · have hAA := hA
            have ee1 : br = r := by omega
            subst ee1
            have haq : ((br : Int) == (ar : Int)) = false := beq_eq_false_iff_ne.2 (by omega)
            obtain ⟨A1, hs1, hr1⟩ := slice_ce_h8 hce hm (bc + 1) (by omega)
            rw [show ((bc + 1 : Nat) : Int) = (bc : Int) + 1 by omega] at hs1
            have hl1 : (cs.take (bc + 1)).length = bc + 1 := by rw [List.length_take]; omega
            obtain ⟨s1, hs1n⟩ : ∃ s1, bc + 1 = s1 := ⟨_, rfl⟩
            rw [hs1n] at hs1 hr1 hl1
            have hbc80 : (bc : Int) ≤ 80 := by omega
            have hb1 : (bc : Int) + 1 ≤ cc := by omega
            have hb0 : (0 : Int) ≤ (bc : Int) + 1 := by omega
            have hseg : segT ls (ar, ac) (br, bc) br = cs.take s1 := by
              unfold segT
              rw [hxl, ← hs1n]
              simp [show ¬ br = ar by omega]
            have hz80 : s1 ≤ 80 := by omega
            rw [← hseg] at hr1 hl1
            have HSN := hid hl1
            have HSR := hid hr1
            clear hAA hA hB hseg hr1 hl1 hxl hlt e3 e4 hcc hs1n
            have HEN : Hid (tkS ls (ar, ac) (br, bc) (k + 1) = (ts ++ [y], [])) := by
              unfold Hid
              rw [tkS_end (.inr (by show ar + k = br; exact HR.out)), HST.out]
              show (ts ++ [endB (sayCs (whole ++ segT ls (ar, ac) (br, bc) (ar + k)))], []) = _
              rw [HR.out, HYY.out]
            go_wp2_with first | (at_builtin; refine wpList_append_ce rfl _ _ rfl W.heap.size _ _ whole (segT ls (ar, ac) (br, bc) br) rfl HV.out.c rfl HSR.out (by rw [HWN.out, HSN.out]; omega) (by exact HV.out.w.hb.size) ?_; intro v5 w5 g1 g2; obtain ⟨A5, c5, hv5⟩ := g1.spell; rw [List.length_append, HWN.out, HSN.out] at hv5; subst hv5; have HV5 := hid (HV.out.cells g1 g2); have p15 := (HCL.out w5 HV5.out.w.hb).2; have x25 := HV5.out.w.b1.two.1.1; have HS5 := hid (HSD.out _ w5 g1.csl.row); clear g1 g2) | (go_at_call 40; refine HS5.out.mono ?_; rintro e6 w6 ⟨rfl, hb6⟩; have HV6 := hid (HV5.out.below hb6); have HO6 := hid (HV6.out.w.tx.kept (below_alloc w6 (.cells #[.string y] 9)))) | (at_builtin; refine wpList_append_strs rfl _ _ rfl W.heap.size _ _ rfl HO6.out [y] ⟨w6.heap.size, 0, none⟩ 1 1 rfl rfl (slit_at (l := [.string y]) (Box.new w6 _ _)) (by rw [HTN.out]; omega) (by have := HV6.out.w.hb.size; simp; omega) ?_; intro v7 w7 g1 g2; obtain ⟨A7, c7, hv7⟩ := g1.spell; rw [List.length_append, HTN.out, List.length_singleton] at hv7; subst hv7; have G1 := hid g1; have G2 := hid g2; clear g1 g2)
            go_roundw
            case rel => exact ⟨k + 1, by have := HR.out; omega, congrArg (Value.int .i64) (by have := HR.out; omega), by rw [HEN.out]; exact ⟨(HV6.out.w.below (below_alloc _ _)).more G1.out G2.out, OwnC.nil _ _⟩⟩
            case measure => first | (simp [intOf]; done) | (simp [intOf]; omega)
        · have HSO : Hid (softP ls r = true) := by unfold Hid softP; rw [hxl]
          by_cases hA : k = 0
          · have hAA := hA
            have ee1 : ar = r := by omega
            subst ee1
            have ee2 : ar = br := by omega
            subst ee2
            obtain ⟨A1, hs1, hr1⟩ := slice_ce_h8 hce hm (bc + 1) (by omega)
            rw [show ((bc + 1 : Nat) : Int) = (bc : Int) + 1 by omega] at hs1
            have hl1 : (cs.take (bc + 1)).length = bc + 1 := by rw [List.length_take]; omega
            obtain ⟨s1, hs1n⟩ : ∃ s1, bc + 1 = s1 := ⟨_, rfl⟩
            rw [hs1n] at hs1 hr1 hl1
            have hbc80 : (bc : Int) ≤ 80 := by omega
            have hb1 : (bc : Int) + 1 ≤ cc := by omega
            have hb0 : (0 : Int) ≤ (bc : Int) + 1 := by omega
            obtain ⟨A2, hs2, hr2⟩ := slice_ce_l hr1 hl1 ac (by omega)
            obtain ⟨s2, hs2n⟩ : ∃ s2, s1 - ac = s2 := ⟨_, rfl⟩
            obtain ⟨s3, hs3n⟩ : ∃ s3, cc - ac = s3 := ⟨_, rfl⟩
            rw [hs2n, hs3n] at hs2 hr2
            have hb2 : (ac : Int) ≤ s1 := by omega
            have hb3 : ac ≤ s1 := by omega
            have hl2 : ((cs.take s1).drop ac).length = s2 := by rw [List.length_drop, hl1, hs2n]
            have hseg : segT ls (ar, ac) (ar, bc) ar = (cs.take s1).drop ac := by
              unfold segT
              rw [hxl, ← hs1n]
              simp
            have hz80 : s2 ≤ 80 := by omega
            rw [← hseg] at hr2 hl2
            have HSN := hid hl2
            have HSR := hid hr2
            clear hAA hA hB hseg hr2 hl2 hxl hlt e3 e4 hcc hs1n hs2n hs3n hr1
            have HEN : Hid (tkS ls (ar, ac) (ar, bc) (k + 1) = (ts ++ [y], [])) := by
              unfold Hid
              rw [tkS_end (.inr (by show ar + k = ar; exact HR.out)), HST.out]
              show (ts ++ [endB (sayCs (whole ++ segT ls (ar, ac) (ar, bc) (ar + k)))], []) = _
              rw [HR.out, HYY.out]
            go_wp2_with first | (at_builtin; refine wpList_append_ce rfl _ _ rfl W.heap.size _ _ whole (segT ls (ar, ac) (ar, bc) ar) rfl HV.out.c rfl HSR.out (by rw [HWN.out, HSN.out]; omega) (by exact HV.out.w.hb.size) ?_; intro v5 w5 g1 g2; obtain ⟨A5, c5, hv5⟩ := g1.spell; rw [List.length_append, HWN.out, HSN.out] at hv5; subst hv5; have HV5 := hid (HV.out.cells g1 g2); have p15 := (HCL.out w5 HV5.out.w.hb).2; have x25 := HV5.out.w.b1.two.1.1; have HS5 := hid (HSD.out _ w5 g1.csl.row); clear g1 g2) | (go_at_call 40; refine HS5.out.mono ?_; rintro e6 w6 ⟨rfl, hb6⟩; have HV6 := hid (HV5.out.below hb6); have HO6 := hid (HV6.out.w.tx.kept (below_alloc w6 (.cells #[.string y] 9)))) | (at_builtin; refine wpList_append_strs rfl _ _ rfl W.heap.size _ _ rfl HO6.out [y] ⟨w6.heap.size, 0, none⟩ 1 1 rfl rfl (slit_at (l := [.string y]) (Box.new w6 _ _)) (by rw [HTN.out]; omega) (by have := HV6.out.w.hb.size; simp; omega) ?_; intro v7 w7 g1 g2; obtain ⟨A7, c7, hv7⟩ := g1.spell; rw [List.length_append, HTN.out, List.length_singleton] at hv7; subst hv7; have G1 := hid g1; have G2 := hid g2; clear g1 g2)
            go_roundw
            case rel => exact ⟨k + 1, by have := HR.out; omega, congrArg (Value.int .i64) (by have := HR.out; omega), by rw [HEN.out]; exact ⟨(HV6.out.w.below (below_alloc _ _)).more G1.out G2.out, OwnC.nil _ _⟩⟩
            case measure => first | (simp [intOf]; done) | (simp [intOf]; omega)
          · have hAA := hA
            have ee1 : br = r := by omega
            subst ee1
            have haq : ((br : Int) == (ar : Int)) = false := beq_eq_false_iff_ne.2 (by omega)
            obtain ⟨A1, hs1, hr1⟩ := slice_ce_h8 hce hm (bc + 1) (by omega)
            rw [show ((bc + 1 : Nat) : Int) = (bc : Int) + 1 by omega] at hs1
            have hl1 : (cs.take (bc + 1)).length = bc + 1 := by rw [List.length_take]; omega
            obtain ⟨s1, hs1n⟩ : ∃ s1, bc + 1 = s1 := ⟨_, rfl⟩
            rw [hs1n] at hs1 hr1 hl1
            have hbc80 : (bc : Int) ≤ 80 := by omega
            have hb1 : (bc : Int) + 1 ≤ cc := by omega
            have hb0 : (0 : Int) ≤ (bc : Int) + 1 := by omega
            have hseg : segT ls (ar, ac) (br, bc) br = cs.take s1 := by
              unfold segT
              rw [hxl, ← hs1n]
              simp [show ¬ br = ar by omega]
            have hz80 : s1 ≤ 80 := by omega
            rw [← hseg] at hr1 hl1
            have HSN := hid hl1
            have HSR := hid hr1
            clear hAA hA hB hseg hr1 hl1 hxl hlt e3 e4 hcc hs1n
            have HEN : Hid (tkS ls (ar, ac) (br, bc) (k + 1) = (ts ++ [y], [])) := by
              unfold Hid
              rw [tkS_end (.inr (by show ar + k = br; exact HR.out)), HST.out]
              show (ts ++ [endB (sayCs (whole ++ segT ls (ar, ac) (br, bc) (ar + k)))], []) = _
              rw [HR.out, HYY.out]
            go_wp2_with first | (at_builtin; refine wpList_append_ce rfl _ _ rfl W.heap.size _ _ whole (segT ls (ar, ac) (br, bc) br) rfl HV.out.c rfl HSR.out (by rw [HWN.out, HSN.out]; omega) (by exact HV.out.w.hb.size) ?_; intro v5 w5 g1 g2; obtain ⟨A5, c5, hv5⟩ := g1.spell; rw [List.length_append, HWN.out, HSN.out] at hv5; subst hv5; have HV5 := hid (HV.out.cells g1 g2); have p15 := (HCL.out w5 HV5.out.w.hb).2; have x25 := HV5.out.w.b1.two.1.1; have HS5 := hid (HSD.out _ w5 g1.csl.row); clear g1 g2) | (go_at_call 40; refine HS5.out.mono ?_; rintro e6 w6 ⟨rfl, hb6⟩; have HV6 := hid (HV5.out.below hb6); have HO6 := hid (HV6.out.w.tx.kept (below_alloc w6 (.cells #[.string y] 9)))) | (at_builtin; refine wpList_append_strs rfl _ _ rfl W.heap.size _ _ rfl HO6.out [y] ⟨w6.heap.size, 0, none⟩ 1 1 rfl rfl (slit_at (l := [.string y]) (Box.new w6 _ _)) (by rw [HTN.out]; omega) (by have := HV6.out.w.hb.size; simp; omega) ?_; intro v7 w7 g1 g2; obtain ⟨A7, c7, hv7⟩ := g1.spell; rw [List.length_append, HTN.out, List.length_singleton] at hv7; subst hv7; have G1 := hid g1; have G2 := hid g2; clear g1 g2)
            go_roundw
            case rel => exact ⟨k + 1, by have := HR.out; omega, congrArg (Value.int .i64) (by have := HR.out; omega), by rw [HEN.out]; exact ⟨(HV6.out.w.below (below_alloc _ _)).more G1.out G2.out, OwnC.nil _ _⟩⟩
            case measure => first | (simp [intOf]; done) | (simp [intOf]; omega)
      · cases soft
        · have HSO : Hid (softP ls r = false) := by unfold Hid softP; rw [hxl]
          by_cases hA : k = 0
          · have hAA := hA
            have ee1 : ar = r := by omega
            subst ee1
            have hbq : ((ar : Int) == (br : Int)) = false := beq_eq_false_iff_ne.2 (by omega)
            obtain ⟨A2, hs2, hr2⟩ := slice_ce_l hce hm ac (by omega)
            obtain ⟨s2, hs2n⟩ : ∃ s2, m - ac = s2 := ⟨_, rfl⟩
            obtain ⟨s3, hs3n⟩ : ∃ s3, cc - ac = s3 := ⟨_, rfl⟩
            rw [hs2n, hs3n] at hs2 hr2
            have hb2 : (ac : Int) ≤ m := by omega
            have hb3 : ac ≤ m := by omega
            have hl2 : ((cs).drop ac).length = s2 := by rw [List.length_drop, hm, hs2n]
            have hseg : segT ls (ar, ac) (br, bc) ar = cs.drop ac := by
              unfold segT
              rw [hxl]
              simp [show ¬ ar = br by omega]
            have hz80 : s2 ≤ 80 := by omega
            rw [← hseg] at hr2 hl2
            have HSN := hid hl2
            have HSR := hid hr2
            have HNB := hid hB
            clear hAA hA hB hseg hr2 hl2 hxl hlt e3 e4 hcc hs2n hs3n
            have HEN : Hid (tkS ls (ar, ac) (br, bc) (k + 1) = (ts ++ [y], [])) := by
              unfold Hid
              rw [tkS_end (.inl (by show softP ls (ar + k) = false; rw [HR.out]; exact HSO.out)), HST.out]
              show (ts ++ [endB (sayCs (whole ++ segT ls (ar, ac) (br, bc) (ar + k)))], []) = _
              rw [HR.out, HYY.out]
            go_wp2_with first | (at_builtin; refine wpList_append_ce rfl _ _ rfl W.heap.size _ _ whole (segT ls (ar, ac) (br, bc) ar) rfl HV.out.c rfl HSR.out (by rw [HWN.out, HSN.out]; omega) (by exact HV.out.w.hb.size) ?_; intro v5 w5 g1 g2; obtain ⟨A5, c5, hv5⟩ := g1.spell; rw [List.length_append, HWN.out, HSN.out] at hv5; subst hv5; have HV5 := hid (HV.out.cells g1 g2); have p15 := (HCL.out w5 HV5.out.w.hb).2; have x25 := HV5.out.w.b1.two.1.1; have HS5 := hid (HSD.out _ w5 g1.csl.row); clear g1 g2) | (go_at_call 40; refine HS5.out.mono ?_; rintro e6 w6 ⟨rfl, hb6⟩; have HV6 := hid (HV5.out.below hb6); have HO6 := hid (HV6.out.w.tx.kept (below_alloc w6 (.cells #[.string y] 9)))) | (at_builtin; refine wpList_append_strs rfl _ _ rfl W.heap.size _ _ rfl HO6.out [y] ⟨w6.heap.size, 0, none⟩ 1 1 rfl rfl (slit_at (l := [.string y]) (Box.new w6 _ _)) (by rw [HTN.out]; omega) (by have := HV6.out.w.hb.size; simp; omega) ?_; intro v7 w7 g1 g2; obtain ⟨A7, c7, hv7⟩ := g1.spell; rw [List.length_append, HTN.out, List.length_singleton] at hv7; subst hv7; have G1 := hid g1; have G2 := hid g2; clear g1 g2)
            go_roundw
            case rel => exact ⟨k + 1, by have := HR.out; omega, congrArg (Value.int .i64) (by have := HR.out; omega), by rw [HEN.out]; exact ⟨(HV6.out.w.below (below_alloc _ _)).more G1.out G2.out, OwnC.nil _ _⟩⟩
            case measure => first | (simp [intOf]; done) | (simp [intOf]; omega)
          · have hAA := hA
            have hbq : ((r : Int) == (br : Int)) = false := beq_eq_false_iff_ne.2 (by omega)
            have haq : ((r : Int) == (ar : Int)) = false := beq_eq_false_iff_ne.2 (by omega)
            have hseg : segT ls (ar, ac) (br, bc) r = cs := by
              unfold segT
              rw [hxl]
              simp [show ¬ r = ar by omega, show ¬ r = br by omega]
            have hz80 : m ≤ 80 := by omega
            rw [← hseg] at hce hm
            have HSN := hid hm
            have HSR := hid hce
            have HNB := hid hB
            clear hAA hA hB hseg hce hm hxl hlt e3 e4 hcc
            have HEN : Hid (tkS ls (ar, ac) (br, bc) (k + 1) = (ts ++ [y], [])) := by
              unfold Hid
              rw [tkS_end (.inl (by show softP ls (ar + k) = false; rw [HR.out]; exact HSO.out)), HST.out]
              show (ts ++ [endB (sayCs (whole ++ segT ls (ar, ac) (br, bc) (ar + k)))], []) = _
              rw [HR.out, HYY.out]
            go_wp2_with first | (at_builtin; refine wpList_append_ce rfl _ _ rfl W.heap.size _ _ whole (segT ls (ar, ac) (br, bc) r) rfl HV.out.c rfl HSR.out (by rw [HWN.out, HSN.out]; omega) (by exact HV.out.w.hb.size) ?_; intro v5 w5 g1 g2; obtain ⟨A5, c5, hv5⟩ := g1.spell; rw [List.length_append, HWN.out, HSN.out] at hv5; subst hv5; have HV5 := hid (HV.out.cells g1 g2); have p15 := (HCL.out w5 HV5.out.w.hb).2; have x25 := HV5.out.w.b1.two.1.1; have HS5 := hid (HSD.out _ w5 g1.csl.row); clear g1 g2) | (go_at_call 40; refine HS5.out.mono ?_; rintro e6 w6 ⟨rfl, hb6⟩; have HV6 := hid (HV5.out.below hb6); have HO6 := hid (HV6.out.w.tx.kept (below_alloc w6 (.cells #[.string y] 9)))) | (at_builtin; refine wpList_append_strs rfl _ _ rfl W.heap.size _ _ rfl HO6.out [y] ⟨w6.heap.size, 0, none⟩ 1 1 rfl rfl (slit_at (l := [.string y]) (Box.new w6 _ _)) (by rw [HTN.out]; omega) (by have := HV6.out.w.hb.size; simp; omega) ?_; intro v7 w7 g1 g2; obtain ⟨A7, c7, hv7⟩ := g1.spell; rw [List.length_append, HTN.out, List.length_singleton] at hv7; subst hv7; have G1 := hid g1; have G2 := hid g2; clear g1 g2)
            go_roundw
            case rel => exact ⟨k + 1, by have := HR.out; omega, congrArg (Value.int .i64) (by have := HR.out; omega), by rw [HEN.out]; exact ⟨(HV6.out.w.below (below_alloc _ _)).more G1.out G2.out, OwnC.nil _ _⟩⟩
            case measure => first | (simp [intOf]; done) | (simp [intOf]; omega)
        · have HSO : Hid (softP ls r = true) := by unfold Hid softP; rw [hxl]
          by_cases hA : k = 0
          · have hAA := hA
            have ee1 : ar = r := by omega
            subst ee1
            have hbq : ((ar : Int) == (br : Int)) = false := beq_eq_false_iff_ne.2 (by omega)
            obtain ⟨A2, hs2, hr2⟩ := slice_ce_l hce hm ac (by omega)
            obtain ⟨s2, hs2n⟩ : ∃ s2, m - ac = s2 := ⟨_, rfl⟩
            obtain ⟨s3, hs3n⟩ : ∃ s3, cc - ac = s3 := ⟨_, rfl⟩
            rw [hs2n, hs3n] at hs2 hr2
            have hb2 : (ac : Int) ≤ m := by omega
            have hb3 : ac ≤ m := by omega
            have hl2 : ((cs).drop ac).length = s2 := by rw [List.length_drop, hm, hs2n]
            have hseg : segT ls (ar, ac) (br, bc) ar = cs.drop ac := by
              unfold segT
              rw [hxl]
              simp [show ¬ ar = br by omega]
            have hz80 : s2 ≤ 80 := by omega
            rw [← hseg] at hr2 hl2
            have HSN := hid hl2
            have HSR := hid hr2
            have HNB := hid hB
            clear hAA hA hB hseg hr2 hl2 hxl hlt e3 e4 hcc hs2n hs3n
            have HGO : Hid (tkS ls (ar, ac) (br, bc) (k + 1) = (ts, whole ++ segT ls (ar, ac) (br, bc) ar)) := by
              unfold Hid
              rw [tkS_go (by show softP ls (ar + k) = true; rw [HR.out]; exact HSO.out) (by show ar + k ≠ br; have := HR.out; have := HNB.out; omega), HST.out]
              show (ts, whole ++ segT ls (ar, ac) (br, bc) (ar + k)) = _
              rw [HR.out]
            go_wp2_with (at_builtin; refine wpList_append_ce rfl _ _ rfl W.heap.size _ _ whole (segT ls (ar, ac) (br, bc) ar) rfl HV.out.c rfl HSR.out (by rw [HWN.out, HSN.out]; omega) (by exact HV.out.w.hb.size) ?_; intro v5 w5 g1 g2; obtain ⟨A5, c5, hv5⟩ := g1.spell; rw [List.length_append, HWN.out, HSN.out] at hv5; subst hv5; have HV5 := hid (HV.out.cells g1 g2); have p15 := (HCL.out w5 HV5.out.w.hb).2; have x25 := HV5.out.w.b1.two.1.1; have HS5 := hid (HSD.out _ w5 g1.csl.row); clear g1 g2)
            go_roundw
            case rel => exact ⟨k + 1, by have := HR.out; omega, congrArg (Value.int .i64) (by have := HR.out; omega), by rw [HGO.out]; exact HV5.out⟩
            case measure => first | (simp [intOf]; done) | (simp [intOf]; omega)
          · have hAA := hA
            have hbq : ((r : Int) == (br : Int)) = false := beq_eq_false_iff_ne.2 (by omega)
            have haq : ((r : Int) == (ar : Int)) = false := beq_eq_false_iff_ne.2 (by omega)
            have hseg : segT ls (ar, ac) (br, bc) r = cs := by
              unfold segT
              rw [hxl]
              simp [show ¬ r = ar by omega, show ¬ r = br by omega]
            have hz80 : m ≤ 80 := by omega
            rw [← hseg] at hce hm
            have HSN := hid hm
            have HSR := hid hce
            have HNB := hid hB
            clear hAA hA hB hseg hce hm hxl hlt e3 e4 hcc
            have HGO : Hid (tkS ls (ar, ac) (br, bc) (k + 1) = (ts, whole ++ segT ls (ar, ac) (br, bc) r)) := by
              unfold Hid
              rw [tkS_go (by show softP ls (ar + k) = true; rw [HR.out]; exact HSO.out) (by show ar + k ≠ br; have := HR.out; have := HNB.out; omega), HST.out]
              show (ts, whole ++ segT ls (ar, ac) (br, bc) (ar + k)) = _
              rw [HR.out]
            go_wp2_with (at_builtin; refine wpList_append_ce rfl _ _ rfl W.heap.size _ _ whole (segT ls (ar, ac) (br, bc) r) rfl HV.out.c rfl HSR.out (by rw [HWN.out, HSN.out]; omega) (by exact HV.out.w.hb.size) ?_; intro v5 w5 g1 g2; obtain ⟨A5, c5, hv5⟩ := g1.spell; rw [List.length_append, HWN.out, HSN.out] at hv5; subst hv5; have HV5 := hid (HV.out.cells g1 g2); have p15 := (HCL.out w5 HV5.out.w.hb).2; have x25 := HV5.out.w.b1.two.1.1; have HS5 := hid (HSD.out _ w5 g1.csl.row); clear g1 g2)
            go_roundw
            case rel => exact ⟨k + 1, by have := HR.out; omega, congrArg (Value.int .i64) (by have := HR.out; omega), by rw [HGO.out]; exact HV5.out⟩
            case measure => first | (simp [intOf]; done) | (simp [intOf]; omega)
    · have hke : ar + k = br + 1 := by omega
      have hki : ¬ ((ar + k : Nat) : Int) ≤ br := by omega
      have hkb : decide (((ar + k : Nat) : Int) ≤ (br : Int)) = false := decide_eq_false hki
      have hfin : tkT ls (ar, ac) (br, bc) = joinN ts := by
        unfold tkT
        rw [show br + 1 - ar = k by omega, hst]
      have hne : ts ≠ [] := by
        have : tkS ls (ar, ac) (br, bc) (k - 1 + 1) = _ := tkS_end (.inr (by show ar + (k - 1) = br; omega))
        rw [show k - 1 + 1 = k by omega, hst] at this
        rw [(Prod.mk.inj this).1]
        simp
      have HJ := hid (fjoin_any wr hv.w.tx hne (by rw [htn]; omega) (HTX.out k (by omega) ts whole hst))
      simp only at HJ
      have HB := hid hv.w.hb
      have HF := hid hfin
      clear hst hv hne hfin htn hwn s1 s2 s3 hlt
      go_wp2_with (refine HJ.out.mono ?_; rintro e w4 ⟨rfl, hb4⟩)
      go_ret
      exact ⟨ret_str HF.out.symm, HB.out.trans (hb4.mono HB.out.size)⟩
end Go.Proofs.YteebbmmgbjpihaaDoor
