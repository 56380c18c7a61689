/- Layer 8, the package: folded. Made by wip/gen/flowT.py. -/
import Derived.Test.YtkejoknphnkhnaaDoorFlowDQ
import Derived.Test.YtkejoknphnkhnaaDoorHeldRQ
namespace Go.Proofs.YtkejoknphnkhnaaDoor
open Go.RowKit Go.Shelf
attribute [local go_sem] Oper.semAt_some

theorem ownsRow_putObj8 {W : World} {base size n : Nat} {t : TypeId} {v : Value} {xs : List Value} {D : Nat} {o : Obj} (h : W.ownsRow base t size v n xs) (o' : Obj) (hD : W.heap[D]? = some o) (ho : o.isCells = false) : (W.putObj D o').ownsRow base t size v n xs :=
  World.ownsRow.kept h (grownBy_putObj' W D o') (by
    rcases h.2 with ⟨rfl, _⟩ | ⟨g, cap, cur, rfl, _, hgb, _⟩
    · exact .inl rfl
    · refine .inr fun e => ?_
      simp only [Value.ownBlock, Option.some.injEq] at e
      subst e
      rw [hgb] at hD
      cases hD
      cases ho)
theorem csl_not_row {W : World} {base : Nat} {v : Value} {l : List Ce} {D : Nat} {o : Obj} (h : CSl W base v l) (hD : W.heap[D]? = some o) (ho : o.isCells = false) : v.ownBlock = none ∨ v.ownBlock ≠ some D := by
  rcases h with ⟨_, rfl⟩ | ⟨g, cap, rfl, _, cur, hgb, _⟩
  · exact .inl rfl
  · refine .inr fun e => ?_
    simp only [Value.ownBlock, Option.some.injEq] at e
    subst e
    have hgb' : W.heap[g]? = some (Obj.cells cur 66 (0, 0)) := hgb
    rw [hgb'] at hD
    cases hD
    cases ho
def FoPost (W : World) (tgt : List Ln) (e : Ending) (w' : World) : Prop :=
  ∃ v lv, e = .returned v ∧ lv.map Prod.fst = tgt ∧ OwnL w' W.heap.size v lv ∧ (∀ x ∈ lv, CSl w' W.heap.size x.2 x.1.cs) ∧ Below W.heap.size W w'
def FoB (w : World) (cols : Nat) (lv nv : Value) (W : World) : Prop :=
  Boxed W w.heap.size 3 (.int .i64 (cols : Int)) ∧ Boxed W (w.heap.size + 1) 22 lv ∧ Boxed W (w.heap.size + 1 + 1 + 1) 52 nv
theorem wp_append_ln {o : Oper} {a : Act} {w : World} {K : Act → World → Prop} {Q : Exit → Act → World → Prop} (s x : Operand)
    (ho : o.op = .call { callee := .builtin .append, args := #[s, x], argTypes := #[22, 22] }) (base : Nat) (v xv : Value) (l m : List (Ln × Value))
    (hs : a.eval s = v) (hown : OwnL w base v l) (hxe : a.eval x = xv) (hx : LR w xv m) (hm : CesOf w m) (hb : l.length + m.length ≤ 1000000) (hbase : base ≤ w.heap.size)
    (h : ∀ v' w', OwnL w' base v' (l ++ m) → w.grownBy w' v.ownBlock → K (a.put o.dst v') w') : Oper.wp Tryd.prog o a w K Q := by
  obtain ⟨v', w', hrun, h2, h3⟩ := run_append_ln w base v xv l m hown hx hm o.type hb hbase
  unfold Oper.wp
  simp [execOp, ho, resolve, invoke, builtin, hs, hxe, hrun, Result.andThen]
  exact h v' w' h2 h3
section
variable {w W : World} {cols : Nat} {lv : Value} {lines : List (Ln × Value)} {nv : Value} {now : List Ce}
theorem FdS.box4 (h : FdS w W cols lv lines nv now) {w4 : World} (hg : W.drew.grownBy w4 nv.ownBlock) : FoB w cols lv nv w4 := by
  have hnb : ∀ {B : Nat} {t : TypeId} {v : Value}, Boxed W B t v → t ≠ 66 → some B ≠ nv.ownBlock := fun hb ht => hb.not_row ht h.oc
  have k : ∀ {B : Nat} {t : TypeId} {v : Value}, Boxed W B t v → t ≠ 66 → Boxed w4 B t v := fun {B t v} hb ht => by
    have hb' : Boxed W.drew B t v := hb
    exact hb'.kept hg (hnb hb ht)
  exact ⟨k h.x0 (by decide), k h.x1 (by decide), k h.x3 (by decide)⟩
theorem FdS.line4 (h : FdS w W cols lv lines nv now) {w4 : World} {v4 : Value} {x : Ln} (hg : W.drew.grownBy w4 nv.ownBlock) (_hc : CSl w4 w.heap.size v4 x.cs) : OwnL (w4.alloc (.cells #[v4, .bool x.soft] 61)) w.heap.size lv lines := by
  have h := h.below (W' := W.drew) ((Below.refl _ W).drew)
  have hnl : lv.ownBlock = none ∨ lv.ownBlock ≠ nv.ownBlock := by
    rcases h.ol.2 with ⟨rfl, _⟩ | ⟨g, cap, cur, rfl, _, hgb, _⟩
    · exact .inl rfl
    · refine .inr fun e => ?_
      rcases h.oc.2 with ⟨rfl, _⟩ | ⟨g', cap', cur', rfl, _, hgb', _⟩
      · simp [Value.ownBlock] at e
      · simp only [Value.ownBlock, Option.some.injEq] at e
        subst e
        rw [hgb] at hgb'
        cases hgb'
  have ol4 : OwnL w4 w.heap.size lv lines := World.ownsRow.kept h.ol hg hnl
  exact ol4.kept (below_alloc w4 _)
end
theorem fillP_length {cols : Nat} {l : List Ce} (h : l.length ≤ cols) : (fillP cols l).length = cols := by
  unfold fillP
  rw [List.length_append, List.length_replicate]
  omega
theorem wpListIn_append_ce_at {F : Fence} {n : Nat} {ops : Array Oper} {rest : List Oper} {o : Oper} {a : Act} {w : World} {Q : Exit → Act → World → Prop} (hg : o.guard = none) (s x : Operand)
    (ho : o.op = .call { callee := .builtin .append, args := #[s, x], argTypes := #[52, 52] }) (base : Nat) (v xv : Value) (l m : List Ce)
    (hs : a.eval s = v) (hown : OwnC w base v l) (hxe : a.eval x = xv) (hx : CeRow w xv m) (hne : m ≠ []) (hb : l.length + m.length ≤ 1000000) (hbase : base ≤ w.heap.size)
    (h : ∀ v' w', OwnC w' base v' (l ++ m) → w.grownBy w' v.ownBlock → (v'.ownBlock = v.ownBlock ∨ v'.ownBlock = some w.heap.size) → wpListIn F n Tryd.prog ops Q rest (a.put o.dst v') w') : wpListIn F n Tryd.prog ops Q (o :: rest) a w := by
  refine wpListIn_plain hg fun K hK' => ?_
  obtain ⟨v', w', hrun, r1, r2, r3⟩ := run_append_ce_at w base v xv l m hown hx hne o.type hb hbase
  unfold Oper.wpIn
  refine ⟨?_, ?_⟩
  · simp [Oper.about, ho, resolve, Target.leads, Sem.run_pure]
  · rw [Oper.semAt_plain F _ _ (by rw [ho]; intro c hc'; cases hc')]
    simp [execOp, ho, resolve, invoke, builtin, hs, hxe, hrun, Result.andThen]
    exact hK' _ _ (h v' w' r1 r2 r3)
theorem ownFrom_up {β : Type} {B B' : Nat} {I : β → World → Prop} (hB : B ≤ B') (h : OwnFrom B I) : OwnFrom B' I := fun s X Y row hs hg hr => h s X Y row hs hg fun r e => ⟨Nat.le_trans hB (hr r e).1, (hr r e).2⟩
/-- What has come of these letters. -/
def segsOf {w0 : World} (pre : List (Sg w0)) : List (List Ce) := pre.map (·.val.1)
theorem segsOf_snoc {w0 : World} (pre : List (Sg w0)) (x : Sg w0) : segsOf (pre ++ [x]) = segsOf pre ++ [x.val.1] := by unfold segsOf; rw [List.map_append]; rfl
theorem segsOf_len {w0 : World} (pre : List (Sg w0)) : (segsOf pre).length = pre.length := by unfold segsOf; rw [List.length_map]

set_option maxRecDepth 100000 in
set_option maxHeartbeats 8000000 in
theorem folded_any (v : Value) (row : List Ce) (cols : Nat) (w : World) (hr : CeRow w v row) (hok : okR row = true) (htx : ∀ c ∈ row, c.tx.size ≤ 1000) (hs : row.length ≤ 100000) (hc1 : 1 ≤ cols) (hc : cols ≤ 80) :
    Calls Tryd.prog 61 #[v, .int .i64 (cols : Int)] w (FoPost w (foldP cols row)) := by
  obtain ⟨vA, vc, rfl⟩ := hr.spell
  obtain ⟨N, hN⟩ : ∃ N, row.length = N := ⟨_, rfl⟩
  rw [hN] at hr ⊢
  refine (callsIn_wide (n := 3)).1 (callsIn_of_wp_marks Tryd.func61 rfl trivial ?_ rfl)
  simp only [Tryd.ntmps61, List.size_toArray, List.length_cons, List.length_nil, Nat.reduceAdd, Nat.reduceSub, Array.replicate_succ, Array.replicate_zero, List.push_toArray, List.append_toArray, List.nil_append, List.cons_append]
  have hmk := mk_cells0 cols (by omega)
  gi_wp2_with ((try refine ⟨trivial, ?_⟩); (gi_at_call 81; refine (callsIn_wide.2 (each_any _ _ _ _)).mono ?_; rintro e w3 ⟨rfl, rfl⟩))
  have hb5 : Boxed (((((w.alloc (.cells #[.int .i64 (cols : Int)] 3)).alloc (.cells #[.slice none 0 0] 22)).alloc (.cells (ceM cols) 66)).alloc (.cells #[.slice (some ⟨w.heap.size + 1 + 1, 0, none⟩) 0 cols] 52)).alloc (.cells #[.slice vA N vc] 52)) (w.heap.size + 1 + 1 + 1 + 1) 52 (.slice vA N vc) := by
    have := Boxed.new ((((w.alloc (.cells #[.int .i64 (cols : Int)] 3)).alloc (.cells #[.slice none 0 0] 22)).alloc (.cells (ceM cols) 66)).alloc (.cells #[.slice (some ⟨w.heap.size + 1 + 1, 0, none⟩) 0 cols] 52)) 52 (.slice vA N vc)
    simpa using this
  have hfs : FdS w (((((w.alloc (.cells #[.int .i64 (cols : Int)] 3)).alloc (.cells #[.slice none 0 0] 22)).alloc (.cells (ceM cols) 66)).alloc (.cells #[.slice (some ⟨w.heap.size + 1 + 1, 0, none⟩) 0 cols] 52)).alloc (.cells #[.slice vA N vc] 52)) cols (.slice none 0 0) [] (.slice (some ⟨w.heap.size + 1 + 1, 0, none⟩) 0 cols) [] := by
    have x0 := Boxed.new w 3 (.int .i64 (cols : Int))
    have x1 := Boxed.new (w.alloc (.cells #[.int .i64 (cols : Int)] 3)) 22 (.slice none 0 0)
    have oc := own_make cols (by omega) w.heap.size ((w.alloc (.cells #[.int .i64 (cols : Int)] 3)).alloc (.cells #[.slice none 0 0] 22)) (by simp; omega)
    have x3 := Boxed.new (((w.alloc (.cells #[.int .i64 (cols : Int)] 3)).alloc (.cells #[.slice none 0 0] 22)).alloc (.cells (ceM cols) 66)) 52 (.slice (some ⟨w.heap.size + 1 + 1, 0, none⟩) 0 cols)
    simp only [World.size_alloc] at x1 oc x3
    exact ⟨(((x0.alloc _).alloc _).alloc _).alloc _, ((x1.alloc _).alloc _).alloc _, x3.alloc _, OwnL.nil _ _, fun e he => by simp at he, (oc.kept (below_alloc _ _)).kept (below_alloc _ _), (((((below_alloc _ _).alloc (by simp) _).alloc (by simp; omega) _).alloc (by simp; omega) _).alloc (by simp; omega) _)⟩
  have hsz0 : (((((w.alloc (.cells #[.int .i64 (cols : Int)] 3)).alloc (.cells #[.slice none 0 0] 22)).alloc (.cells (ceM cols) 66)).alloc (.cells #[.slice (some ⟨w.heap.size + 1 + 1, 0, none⟩) 0 cols] 52)).alloc (.cells #[.slice vA N vc] 52)).heap.size = w.heap.size + 1 + 1 + 1 + 1 + 1 := by simp
  generalize (((((w.alloc (.cells #[.int .i64 (cols : Int)] 3)).alloc (.cells #[.slice none 0 0] 22)).alloc (.cells (ceM cols) 66)).alloc (.cells #[.slice (some ⟨w.heap.size + 1 + 1, 0, none⟩) 0 cols] 52)).alloc (.cells #[.slice vA N vc] 52)) = W0 at *
  have hB0 := hfs.hb
  refine wpIn_rangeFunc_ownH (by rfl) (by omega) (gf := 94) (lb := #[.pointer (some ⟨w.heap.size + 1 + 1 + 1 + 1, 0, none⟩)]) rfl trivial (enters_of Tryd.func94 (by kernel_rfl) rfl)
    (letters_stops 2 (by omega) (w.heap.size + 1 + 1 + 1 + 1) row (.slice vA N vc) w W0 hr hok htx hs hB0 (by omega) hb5.cell) (fun h k => h.trans k) (fun W l o o' hl h hc hw => belowK_b (n₀ := w.heap.size) (w := W0) hB0.size W l o o' hl h hc hw) (Below.refl _ _) (fun _ => rfl)
    (fun pre W => ∃ lv lines nv, FdS w W cols lv lines nv (foldS cols (segsOf pre)).2 ∧ lines.map Prod.fst = (foldS cols (segsOf pre)).1)
    (fun _ _ _ => False)
    (ownFrom_up (by omega) (fds_own (fun pre : List (Sg w) => foldS cols (segsOf pre))))
    (fun _ _ _ _ _ hs _ _ => hs.elim)
    ⟨_, _, _, hfs, rfl⟩
    (fun x a' W => a' = { tmps := #[.slice vA N vc, .int .i64 (cols : Int), undef, .pointer (some ⟨w.heap.size, 0, none⟩), .slice none 0 0, .pointer (some ⟨w.heap.size + 1, 0, none⟩), .pointer (some ⟨w.heap.size + 1 + 1 + 1, 0, none⟩), x.val.2, .int .i64 (cols : Int), .slice (some ⟨w.heap.size + 1 + 1, 0, none⟩) 0 cols, .slice vA N vc, .func (.func 94) #[] #[.pointer (some ⟨w.heap.size + 1 + 1 + 1 + 1, 0, none⟩)], x.val.2, undef, undef, undef, undef, undef, undef, undef, undef, undef, undef, undef, undef, undef, undef, undef, undef, undef, undef, undef, undef, undef, undef, undef, undef, undef, undef, undef, undef, undef, undef], defers := [] })
    (fun x a' _ X Y row hs hg hr => hs)
    ?assign ?body ?done ?stop
  case assign =>
    rintro l pre x W K hI hK
    gi_wp2
    exact hK _ _ (KeepsFrom.refl _ _) (Below.refl _ _) hI rfl
  case body =>
    rintro l pre x a' W hl _ ⟨lv, lines, nv, hf, hmp⟩ rfl hlt
    have hsg := x.property.1
    have hct := x.property.2.1
    have HSN := hid (segsOf_snoc pre x)
    obtain ⟨t, ht⟩ : ∃ t, x.val.1 = t := ⟨_, rfl⟩
    rw [ht] at hsg hct HSN
    obtain ⟨tA, tc, hxv⟩ := hct.spell
    have htne : t ≠ [] := by rintro rfl; have := hsg.len; simp at this
    obtain ⟨tl, htl⟩ : ∃ tl, t.length = tl := ⟨_, rfl⟩
    rw [htl] at hxv
    rw [hxv] at hct
    have htb := hsg.len
    rw [htl] at htb
    obtain ⟨lA, lc, hlv⟩ := hf.ol.spell
    obtain ⟨ln, hln⟩ : ∃ ln, lines.length = ln := ⟨_, rfl⟩
    rw [hln] at hlv
    subst hlv
    obtain ⟨nA, nc, hnv⟩ := hf.oc.spell
    obtain ⟨now, hnow⟩ : ∃ now, (foldS cols (segsOf pre)).2 = now := ⟨_, rfl⟩
    obtain ⟨nn, hnn⟩ : ∃ nn, now.length = nn := ⟨_, rfl⟩
    rw [hnow, hnn] at hnv
    subst hnv
    rw [hnow] at hf
    have hfl := foldS_len cols (segsOf pre)
    rw [hnow, hnn, segsOf_len, ← hmp, List.length_map, hln] at hfl
    obtain ⟨hfl1, hfl2⟩ := hfl
    have hpn : pre.length < 100000 := by omega
    have hst : foldS cols (segsOf (pre ++ [x])) = foldStep cols (lines.map Prod.fst, now) t := by rw [HSN.out, foldS_snoc, hmp, ← hnow]
    have HST := hid hst
    have HF := hid hf
    have HNOW := hid hnow
    have HNN := hid hnn
    have HLN := hid hln
    have HTL := hid htl
    have HCT := hid hct
    have hnni : (nn : Int) ≤ 80 := by omega
    have htli : (tl : Int) ≤ 2 := by omega
    have hci : (cols : Int) ≤ 80 := by omega
    have c0 := hf.x0.cell
    have c1 := hf.x1.cell
    have c3 := hf.x3.cell
    have f1 := hf.x1.frozen
    have f3 := hf.x3.frozen
    rw [hxv]
    clear hst hf hnow hnn hln htl hct hsg ht hxv hmp HSN
    by_cases hw1 : cols < tl
    · have hw1i : (cols : Int) < (tl : Int) := by omega
      have HR : Hid (foldS cols (segsOf (pre ++ [x])) = (lines.map Prod.fst, now)) := by unfold Hid; rw [HST.out, foldStep, if_pos (by rw [HTL.out]; exact hw1)]
      clear hw1
      gi_wp2
      exact ⟨KeepsFrom.refl _ _, Below.refl _ _, _, lines, _, by rw [HR.out]; exact HF.out, by rw [HR.out]⟩
    · have hw1i : ¬ (cols : Int) < (tl : Int) := by omega
      by_cases hw2 : cols < nn + tl
      · have hw2i : (cols : Int) < (nn : Int) + (tl : Int) := by omega
        have HR : Hid (foldS cols (segsOf (pre ++ [x])) = (lines.map Prod.fst ++ [⟨fillP cols now, true⟩], t)) := by unfold Hid; rw [HST.out, foldStep, if_neg (by rw [HTL.out]; exact hw1)]; simp only; rw [if_pos (by rw [HTL.out, HNN.out]; exact hw2)]
        have hfil := fun W' (hb : Below W.heap.size W W') => filled_any w.heap.size (.slice nA nn nc) now cols W' (HF.out.below hb).oc (by rw [HNN.out]; exact hfl1) (by omega) (Nat.le_trans HF.out.hb.size hb.size)
        have HFIL := hid hfil
        have HFL : Hid ((fillP cols now).length = cols) := fillP_length (by rw [HNN.out]; exact hfl1)
        clear hw1 hw2 hfil
        gi_upto_region 7 with fail
        have hS : ∀ L, TwoS 7 7 (fun w' => FoB w cols (.slice lA ln lc) (.slice nA nn nc) w') (fun w' => FoB w cols (.slice lA ln lc) (.slice nA nn nc) w') L (World.drew W) := fun L => ⟨fun _ => ⟨HF.out.x0, HF.out.x1, HF.out.x3⟩, fun _ => ⟨HF.out.x0, HF.out.x1, HF.out.x3⟩⟩
        refine wpIn_region_S (TwoS 7 7 (fun w' => FoB w cols (.slice lA ln lc) (.slice nA nn nc) w') (fun w' => FoB w cols (.slice lA ln lc) (.slice nA nn nc) w')) (by kernel_rfl) (by kernel_rfl) (by rintro ⟨_, _, h⟩; exact h) ?_
        refine takeS1 (i := 0) (v := ?v0r) 24 rfl rfl (by kernel_rfl) (by kernel_rfl) (by kernel_rfl) (by kernel_rfl) (by decide) (by decide) (by kernel_rfl) (fun _ _ _ h => h) (Or.inl ⟨by rfl, fun w' hw' => ?hy0r⟩) (hS _) ?rest0r
        case hy0r => have c := hw'.2.1.cell; go_simp; try with_reducible rfl
        try simp only [Act.put, List.setIfInBounds_toArray, List.set_cons_zero, List.set_cons_succ]
        refine takeS1 (i := 1) (v := ?v1r) 25 rfl rfl (by kernel_rfl) (by kernel_rfl) (by kernel_rfl) (by kernel_rfl) (by decide) (by decide) (by kernel_rfl) (fun _ _ _ h => h) (Or.inl ⟨by rfl, fun w' hw' => ?hy1r⟩) (hS _) ?rest1r
        case hy1r => have c := hw'.2.2.cell; go_simp; try with_reducible rfl
        try simp only [Act.put, List.setIfInBounds_toArray, List.set_cons_zero, List.set_cons_succ]
        refine takeS1 (i := 2) (v := ?v2r) 26 rfl rfl (by kernel_rfl) (by kernel_rfl) (by kernel_rfl) (by kernel_rfl) (by decide) (by decide) (by kernel_rfl) (fun _ _ _ h => h) (Or.inl ⟨by rfl, fun w' hw' => ?hy2r⟩) (hS _) ?rest2r
        case hy2r => have c := hw'.1.cell; go_simp; try with_reducible rfl
        try simp only [Act.put, List.setIfInBounds_toArray, List.set_cons_zero, List.set_cons_succ]
        refine oneS (k := 3) (by kernel_rfl) rfl (by rfl) (fun K hK => ?_)
        go_simp
        go_at_call 86
        refine (HFIL.out W.drew ((Below.refl _ W).drew)).mono ?_
        rintro e w4 ⟨v4, rfl, g4, k4⟩
        dsimp only
        obtain ⟨A4, c4, rfl⟩ := g4.spell
        rw [HFL.out] at g4 ⊢
        have hsz4 : w.heap.size ≤ w4.heap.size := Nat.le_trans HF.out.hb.size k4.size
        have hf4 := HF.out.box4 k4
        refine hK _ _ ⟨fun _ => hf4, fun _ => hf4⟩ ?_
        clear hK K
        try simp only [Act.put, List.setIfInBounds_toArray, List.set_cons_zero, List.set_cons_succ]
        refine takeS (i := 4) (v := ?v4r) 28 rfl rfl (by kernel_rfl) (by kernel_rfl) (by kernel_rfl) (by kernel_rfl) (by decide) (by decide) (fun _ _ _ h => h) (Or.inl ⟨by rfl, fun w' _ => ?hy4r⟩) ((fun L => (⟨fun _ => hf4, fun _ => hf4⟩ : TwoS 7 7 _ _ L w4)) _) ?rest4r
        case hy4r => go_simp; try with_reducible rfl
        try simp only [Act.put, List.setIfInBounds_toArray, List.set_cons_zero, List.set_cons_succ]
        refine oneS (k := 5) (by kernel_rfl) rfl (by rfl) (fun K hK => ?_)
        go_simp
        have hf5 : FoB w cols (.slice lA ln lc) (.slice nA nn nc) (w4.alloc (.cells #[.slice A4 cols c4, .bool true] 61)) := ⟨hf4.1.alloc _, hf4.2.1.alloc _, hf4.2.2.alloc _⟩
        refine hK _ _ ⟨fun _ => hf5, fun _ => hf5⟩ ?_
        clear hK K
        try simp only [Act.put, List.setIfInBounds_toArray, List.set_cons_zero, List.set_cons_succ]
        have hl5 := HF.out.line4 (x := ⟨fillP cols now, true⟩) k4 g4.csl
        have hlit := ln_lit w4 ((⟨fillP cols now, true⟩ : Ln), (.slice A4 cols c4 : Value))
        simp only at hlit
        have hcs5 : CesOf (w4.alloc (.cells #[.slice A4 cols c4, .bool true] 61)) [((⟨fillP cols now, true⟩ : Ln), (.slice A4 cols c4 : Value))] := by
          intro y hy
          rw [List.mem_singleton] at hy
          subst hy
          exact g4.csl.row.below (below_alloc _ _)
        refine oneS (k := 6) (by kernel_rfl) rfl (by rfl) (fun K hK => ?_)
        refine wp_append_ln _ _ rfl w.heap.size _ _ lines [((⟨fillP cols now, true⟩ : Ln), (.slice A4 cols c4 : Value))] rfl hl5 rfl hlit hcs5 (by rw [HLN.out]; simp; omega) (by simp; omega) ?_
        intro v6 w6 g6 k6
        obtain ⟨A6, c6, rfl⟩ := g6.spell
        rw [List.length_append, HLN.out, List.length_singleton] at g6 ⊢
        obtain ⟨y0, y1, y3, ycl, yb, _⟩ := HF.out.full (x := ⟨fillP cols now, true⟩) (W1 := W.drew) ((Below.refl _ W).drew) g4 k4 g6 k6
        have hf6 : FoB w cols (.slice lA ln lc) (.slice nA nn nc) w6 := ⟨y0, y1, y3⟩
        refine hK _ _ ⟨fun _ => hf6, fun _ => hf6⟩ ?_
        clear hK K
        try simp only [Act.put, List.setIfInBounds_toArray]
        refine oneS (k := 7) (by kernel_rfl) rfl (by rfl) (fun K hK => ?_)
        have d1 := y1.cell
        have e1 := y1.frozen
        go_simp
        refine hK _ _ ⟨fun e => absurd e (by decide), fun e => absurd e (by decide)⟩ ?_
        clear hK K d1 e1
        try simp only [Act.put, List.setIfInBounds_toArray, List.set_cons_zero, List.set_cons_succ]
        refine doneS (by kernel_rfl) ?_ _
        have hkA : KeepsOthers W w6 := ((KeepsOthers.of_grownBy (row := none) ⟨rfl, rfl, rfl, Nat.le_refl _, fun _ _ _ => rfl⟩ (fun j o hj => by cases hj) : KeepsOthers W W.drew).trans (keeps_row (X := W.drew) HF.out.oc k4)).trans ((KeepsOthers.alloc _ _).trans (keeps_row hl5 k6))
        have hfr := FdS.fresh (by omega) g6 y0 y1 y3 ycl yb
        have HFR := hid hfr
        have z0 := (y0.other (B' := w.heap.size + 1) (by omega) (.slice A6 (ln + 1) c6)).cell
        have z3 := ((y3.other (B' := w.heap.size + 1) (by omega) (.slice A6 (ln + 1) c6)).alloc (.cells (ceM cols) 66)).cell
        have zf := ((y3.other (B' := w.heap.size + 1) (by omega) (.slice A6 (ln + 1) c6)).alloc (.cells (ceM cols) 66)).frozen
        have hkA2 : KeepsOthers W (((w6.setCell ⟨w.heap.size + 1, 0, none⟩ (.slice A6 (ln + 1) c6)).alloc (.cells (ceM cols) 66)).setCell ⟨w.heap.size + 1 + 1 + 1, 0, none⟩ (.slice (some ⟨w6.heap.size, 0, none⟩) 0 cols)) := ((hkA.trans (KeepsOthers.setCell _ _ _)).trans (KeepsOthers.alloc _ _)).trans (KeepsOthers.setCell _ _ _)
        have HFR := hid hfr
        have HKA := hid hkA2
        have HL6 : Hid ((lines ++ [((⟨fillP cols now, true⟩ : Ln), (.slice A4 cols c4 : Value))]).map Prod.fst = lines.map Prod.fst ++ [⟨fillP cols now, true⟩]) := by unfold Hid; rw [List.map_append]; rfl
        have hsz6 : (w6.setCell ⟨w.heap.size + 1, 0, none⟩ (.slice A6 (ln + 1) c6)).heap.size = w6.heap.size := size_set _ _ _ _
        clear hfr hkA hkA2 hS hf4 hf5 hf6 hl5 hlit hcs5 g4 k4 g6 k6 y0 y1 y3 ycl yb c0 c1 c3 f1 f3
        gi_upto_region 9 with fail
        generalize (((w6.setCell ⟨w.heap.size + 1, 0, none⟩ (.slice A6 (ln + 1) c6)).alloc (.cells (ceM cols) 66)).setCell ⟨w.heap.size + 1 + 1 + 1, 0, none⟩ (.slice (some ⟨w6.heap.size, 0, none⟩) 0 cols)) = W8 at *
        clear z0 z3 zf
        have c3 := HFR.out.x3.cell
        have hctW := HCT.out.below HFR.out.hb
        have HCW := hid hctW
        clear hctW
        have hszW : w.heap.size ≤ W8.heap.size := HFR.out.hb.size
        have hoc := HFR.out.oc
        have HOC := hid hoc
        clear hoc
        gi_wp2_with (gi_at_builtin; refine wpListIn_append_ce_at rfl _ _ rfl w.heap.size _ _ [] t rfl HOC.out rfl HCW.out htne (by rw [HTL.out]; simp; omega) hszW ?_; intro v2 w2 g1 g2 g3; obtain ⟨A2, c2, hv2⟩ := g1.spell; rw [List.nil_append, HTL.out] at hv2; subst hv2; have x3b := HFR.out.x3.kept g2 (HFR.out.x3.not_row (by decide) HOC.out); have d3 := x3b.cell; have e3 := x3b.frozen; have G1 := hid g1; have G2 := hid g2; have G3 := hid g3; clear g1 g2 g3 x3b)
        have hfin := HFR.out.letter G1.out G2.out G3.out
        have hkp : KeepsOthers W _ := HKA.out.trans (((keeps_row HOC.out G2.out).trans (KeepsOthers.setCell _ ⟨w.heap.size + 1 + 1 + 1, 0, none⟩ (.slice A2 tl c2))))
        exact ⟨hkp.from _, below_between HF.out.hb hfin.hb hkp.size, _, _, ⟨_, by rw [HR.out]; exact hfin⟩, by rw [HR.out]; exact HL6.out⟩
      · have hw2i : ¬ (cols : Int) < (nn : Int) + (tl : Int) := by omega
        have HR : Hid (foldS cols (segsOf (pre ++ [x])) = (lines.map Prod.fst, now ++ t)) := by unfold Hid; rw [HST.out, foldStep, if_neg (by rw [HTL.out]; exact hw1)]; simp only; rw [if_neg (by rw [HTL.out, HNN.out]; exact hw2)]
        clear hw1 hw2
        gi_upto_region 9 with fail
        clear c0 c1 c3 f1 f3
        have c3 := HF.out.x3.cell
        have hctW := HCT.out.below HF.out.hb
        have HCW := hid hctW
        clear hctW
        have hszW : w.heap.size ≤ W.heap.size := HF.out.hb.size
        have hoc := HF.out.oc
        have HOC := hid hoc
        clear hoc
        gi_wp2_with (gi_at_builtin; refine wpListIn_append_ce_at rfl _ _ rfl w.heap.size _ _ now t rfl HOC.out rfl HCW.out htne (by rw [HTL.out]; rw [HNN.out]; omega) hszW ?_; intro v2 w2 g1 g2 g3; obtain ⟨A2, c2, hv2⟩ := g1.spell; rw [List.length_append, HNN.out, HTL.out] at hv2; subst hv2; have x3b := HF.out.x3.kept g2 (HF.out.x3.not_row (by decide) HOC.out); have d3 := x3b.cell; have e3 := x3b.frozen; have G1 := hid g1; have G2 := hid g2; have G3 := hid g3; clear g1 g2 g3 x3b)
        have hfin := HF.out.letter G1.out G2.out G3.out
        have hkp : KeepsOthers W _ := ((keeps_row HOC.out G2.out).trans (KeepsOthers.setCell _ ⟨w.heap.size + 1 + 1 + 1, 0, none⟩ (.slice A2 (nn + tl) c2)))
        exact ⟨hkp.from _, below_between HF.out.hb hfin.hb hkp.size, _, lines, ⟨_, by rw [HR.out]; exact hfin⟩, by rw [HR.out]⟩

  case done =>
    rintro D ys W hD hys ⟨lv, lines, nv, hf, hmp⟩ hK
    obtain ⟨lA, lc, hlv⟩ := hf.ol.spell
    obtain ⟨ln, hln⟩ : ∃ ln, lines.length = ln := ⟨_, rfl⟩
    rw [hln] at hlv
    subst hlv
    obtain ⟨nA, nc, hnv⟩ := hf.oc.spell
    have hys2 : segsOf ys = segs row := hys
    rw [hys2] at hf hmp hnv
    obtain ⟨now, hnow⟩ : ∃ now, (foldS cols (segs row)).2 = now := ⟨_, rfl⟩
    obtain ⟨nn, hnn⟩ : ∃ nn, now.length = nn := ⟨_, rfl⟩
    rw [hnow, hnn] at hnv
    subst hnv
    rw [hnow] at hf
    have hfl := foldS_len cols (segs row)
    rw [hnow, hnn, ← hmp, List.length_map, hln] at hfl
    obtain ⟨hfl1, hfl2⟩ := hfl
    have hsl := (segs_all hok).2.2
    have HFO : Hid (foldP cols row = lines.map Prod.fst ++ [⟨fillP cols now, false⟩]) := by unfold Hid foldP; rw [hmp, hnow]
    have HF := hid hf
    have HNN := hid hnn
    have HLN := hid hln
    have HFL : Hid ((fillP cols now).length = cols) := fillP_length (by rw [hnn]; exact hfl1)
    have hfil := fun W' (hb : Below W.heap.size W W') => filled_any w.heap.size (.slice nA nn nc) now cols W' (HF.out.below hb).oc (by rw [HNN.out]; exact hfl1) (by omega) (Nat.le_trans HF.out.hb.size hb.size)
    have HFIL := hid hfil
    have HK := hid hK
    clear hfil hf hmp hnow hnn hln hys hys2 hK
    gi_upto_region 10 with fail
    have hS : ∀ L, TwoS 7 7 (fun w' => FoB w cols (.slice lA ln lc) (.slice nA nn nc) w') (fun w' => FoB w cols (.slice lA ln lc) (.slice nA nn nc) w') L (World.drew W) := fun L => ⟨fun _ => ⟨HF.out.x0, HF.out.x1, HF.out.x3⟩, fun _ => ⟨HF.out.x0, HF.out.x1, HF.out.x3⟩⟩
    refine wpIn_region_N (TwoS 7 7 (fun w' => FoB w cols (.slice lA ln lc) (.slice nA nn nc) w') (fun w' => FoB w cols (.slice lA ln lc) (.slice nA nn nc) w')) (by kernel_rfl) ?_
    refine takeS1 (i := 0) (v := ?v0s) 36 rfl rfl (by kernel_rfl) (by kernel_rfl) (by kernel_rfl) (by kernel_rfl) (by decide) (by decide) (by kernel_rfl) (fun _ _ _ h => h) (Or.inl ⟨by rfl, fun w' hw' => ?hy0s⟩) (hS _) ?rest0s
    case hy0s => have c := hw'.2.1.cell; go_simp; try with_reducible rfl
    try simp only [Act.put, List.setIfInBounds_toArray, List.set_cons_zero, List.set_cons_succ]
    refine takeS1 (i := 1) (v := ?v1s) 37 rfl rfl (by kernel_rfl) (by kernel_rfl) (by kernel_rfl) (by kernel_rfl) (by decide) (by decide) (by kernel_rfl) (fun _ _ _ h => h) (Or.inl ⟨by rfl, fun w' hw' => ?hy1s⟩) (hS _) ?rest1s
    case hy1s => have c := hw'.2.2.cell; go_simp; try with_reducible rfl
    try simp only [Act.put, List.setIfInBounds_toArray, List.set_cons_zero, List.set_cons_succ]
    refine takeS1 (i := 2) (v := ?v2s) 38 rfl rfl (by kernel_rfl) (by kernel_rfl) (by kernel_rfl) (by kernel_rfl) (by decide) (by decide) (by kernel_rfl) (fun _ _ _ h => h) (Or.inl ⟨by rfl, fun w' hw' => ?hy2s⟩) (hS _) ?rest2s
    case hy2s => have c := hw'.1.cell; go_simp; try with_reducible rfl
    try simp only [Act.put, List.setIfInBounds_toArray, List.set_cons_zero, List.set_cons_succ]
    refine oneS (k := 3) (by kernel_rfl) rfl (by rfl) (fun K hK => ?_)
    go_simp
    go_at_call 86
    refine (HFIL.out W.drew ((Below.refl _ W).drew)).mono ?_
    rintro e w4 ⟨v4, rfl, g4, k4⟩
    dsimp only
    obtain ⟨A4, c4, rfl⟩ := g4.spell
    rw [HFL.out] at g4 ⊢
    have hsz4 : w.heap.size ≤ w4.heap.size := Nat.le_trans HF.out.hb.size k4.size
    have hf4 := HF.out.box4 k4
    refine hK _ _ ⟨fun _ => hf4, fun _ => hf4⟩ ?_
    clear hK K
    try simp only [Act.put, List.setIfInBounds_toArray, List.set_cons_zero, List.set_cons_succ]
    refine takeS (i := 4) (v := ?v4s) 40 rfl rfl (by kernel_rfl) (by kernel_rfl) (by kernel_rfl) (by kernel_rfl) (by decide) (by decide) (fun _ _ _ h => h) (Or.inl ⟨by rfl, fun w' _ => ?hy4s⟩) ((fun L => (⟨fun _ => hf4, fun _ => hf4⟩ : TwoS 7 7 _ _ L w4)) _) ?rest4s
    case hy4s => go_simp; try with_reducible rfl
    try simp only [Act.put, List.setIfInBounds_toArray, List.set_cons_zero, List.set_cons_succ]
    refine oneS (k := 5) (by kernel_rfl) rfl (by rfl) (fun K hK => ?_)
    go_simp
    have hf5 : FoB w cols (.slice lA ln lc) (.slice nA nn nc) (w4.alloc (.cells #[.slice A4 cols c4, .bool false] 61)) := ⟨hf4.1.alloc _, hf4.2.1.alloc _, hf4.2.2.alloc _⟩
    refine hK _ _ ⟨fun _ => hf5, fun _ => hf5⟩ ?_
    clear hK K
    try simp only [Act.put, List.setIfInBounds_toArray, List.set_cons_zero, List.set_cons_succ]
    have hl5 := HF.out.line4 (x := ⟨fillP cols now, false⟩) k4 g4.csl
    have hlit := ln_lit w4 ((⟨fillP cols now, false⟩ : Ln), (.slice A4 cols c4 : Value))
    simp only at hlit
    have hcs5 : CesOf (w4.alloc (.cells #[.slice A4 cols c4, .bool false] 61)) [((⟨fillP cols now, false⟩ : Ln), (.slice A4 cols c4 : Value))] := by
      intro y hy
      rw [List.mem_singleton] at hy
      subst hy
      exact g4.csl.row.below (below_alloc _ _)
    refine oneS (k := 6) (by kernel_rfl) rfl (by rfl) (fun K hK => ?_)
    refine wp_append_ln _ _ rfl w.heap.size _ _ lines [((⟨fillP cols now, false⟩ : Ln), (.slice A4 cols c4 : Value))] rfl hl5 rfl hlit hcs5 (by rw [HLN.out]; simp; omega) (by simp; omega) ?_
    intro v6 w6 g6 k6
    obtain ⟨A6, c6, rfl⟩ := g6.spell
    rw [List.length_append, HLN.out, List.length_singleton] at g6 ⊢
    obtain ⟨y0, y1, y3, ycl, yb, _⟩ := HF.out.full (x := ⟨fillP cols now, false⟩) (W1 := W.drew) ((Below.refl _ W).drew) g4 k4 g6 k6
    have hf6 : FoB w cols (.slice lA ln lc) (.slice nA nn nc) w6 := ⟨y0, y1, y3⟩
    refine hK _ _ ⟨fun _ => hf6, fun _ => hf6⟩ ?_
    clear hK K
    try simp only [Act.put, List.setIfInBounds_toArray]
    refine oneS (k := 7) (by kernel_rfl) rfl (by rfl) (fun K hK => ?_)
    go_simp
    refine hK _ _ ⟨fun e => absurd e (by decide), fun e => absurd e (by decide)⟩ ?_
    clear hK K
    try simp only [Act.put, List.setIfInBounds_toArray, List.set_cons_zero, List.set_cons_succ]
    refine doneS (by kernel_rfl) ?_ _
    unfold NormQ
    simp only
    have hkA : KeepsOthers W w6 := ((KeepsOthers.of_grownBy (row := none) ⟨rfl, rfl, rfl, Nat.le_refl _, fun _ _ _ => rfl⟩ (fun j o hj => by cases hj) : KeepsOthers W W.drew).trans (keeps_row (X := W.drew) HF.out.oc k4)).trans ((KeepsOthers.alloc _ _).trans (keeps_row hl5 k6))
    have hK6 := hkA.same D _ HK.out rfl
    have hgp := grownBy_putObj' w6 D (.deferred none)
    have hown : OwnL (w6.putObj D (.deferred none)) w.heap.size (.slice A6 (ln + 1) c6) (lines ++ [((⟨fillP cols now, false⟩ : Ln), (.slice A4 cols c4 : Value))]) := by
      have := ownsRow_putObj8 g6 (.deferred none) hK6 rfl
      exact this
    have hcl9 : ∀ e ∈ lines ++ [((⟨fillP cols now, false⟩ : Ln), (.slice A4 cols c4 : Value))], CSl (w6.putObj D (.deferred none)) w.heap.size e.2 e.1.cs := fun e he => (ycl e he).grown_ne hgp (csl_not_row (ycl e he) hK6 rfl)
    have hbl := yb.trans (belowK_b (w := w) (Nat.le_refl _) _ D _ (.deferred none) (by omega) hK6 rfl rfl)
    have HOWN := hid hown
    have HCL9 := hid hcl9
    have HBL := hid hbl
    have HK6 := hid hK6
    clear hown hcl9 hbl hK6 hgp hkA hS hf4 hf5 hf6 hl5 hlit hcs5 g4 k4 g6 k6 y0 y1 y3 ycl yb
    gi_wp2
    refine ⟨by simp, .inl ⟨_, _, rfl, run_takeDeferred HK6.out, ?_⟩⟩
    exact ⟨.slice A6 (ln + 1) c6, by simp [results, Tryd.f61, go_sem], _, _, rfl, by rw [HFO.out, List.map_append]; rfl, HOWN.out, HCL9.out, HBL.out⟩
  case stop =>
    rintro D c pre W hD _ h _
    exact h.elim
end Go.Proofs.YtkejoknphnkhnaaDoor
