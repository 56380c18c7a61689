/- Layer 4, the package: a look behind what is asked. -/
import Derived.Test.YtlcahkbbefcjnaaDoorCellK
import Derived.Deep.Slices
namespace Go.Proofs.YtlcahkbbefcjnaaDoor
open Go.RowKit

theorem ask_any (b : Nat) (a : At) (l : List Int) (v : Value) (W w0 : World) (hl : lookB a = true) (hbox : Box W b 30 a.cells) (hr : IRow w0 v l) (hb : w0.heap.size ≤ b) (hbel : Below w0.heap.size w0 W) (hne : l ≠ []) (hm : l.length ≤ 1000000)
    (hwf : ∀ n ∈ l, (Lit.int .i64 n).wf = true) :
    Calls Tryd.prog 43 #[.pointer (some ⟨b, 0, none⟩), v] W fun e w' => e = .returned (.int .i64 (stepG a l).1) ∧ AskPost W b (stepG a l).2 w' := by
  have hrW := hr.below hbel
  match l, hne with
  | n :: r, _ =>
    by_cases hn : n = 38 ∨ n = 48
    · exact ask_num b a n r v W hbox hrW hm hn
    · obtain ⟨A, c, rfl, hA⟩ := hrW
      obtain ⟨ad, rfl, _, hcell⟩ := hA (by simp)
      obtain ⟨A0, c0, e0, hA0⟩ := hr
      obtain ⟨ad0, h0, had, _⟩ := hA0 (by simp)
      have hx : W.cell? ad = some (.int .i64 n) := hcell 0 n rfl
      have hadb : ad.block < b := by
        cases e0
        cases h0
        omega
      have h38 : ¬ n = 38 := fun e => hn (.inl e)
      have h48 : ¬ n = 48 := fun e => hn (.inr e)
      by_cases hz : n = 0
      · subst hz
        simp only [stepG]
        exact ask_0 b a ad _ c W hbox (by simp) hx
      · have e1 : stepG a (n :: r) = (1, oneG a n) := by simp only [stepG]; rw [if_neg h38, if_neg h48]
        rw [e1]
        exact ask_one b a n ad _ c W hl hbox (by simp) hadb hx (hwf n (by simp)) hz h38 h48

theorem getElem_drop' {l : List Int} {k j : Nat} {x : Int} (h : (l.drop k)[j]? = some x) : l[k + j]? = some x := by
  rw [List.getElem?_drop] at h; exact h
def lenV : Value → Nat | .slice _ n _ => n | _ => 0
def capOk : Value → Prop | .slice _ n c => n ≤ c | _ => True
/-- A row from a place on. -/
theorem slice_drop (A : Option Addr) (n c : Nat) (k : Int) (hk : 0 ≤ k ∧ k ≤ n) (l : List Int) (W w0 : World) (hl : n = l.length) (hcap : n ≤ c) (hr : IRow w0 (.slice A n c) l) :
    ∃ v, (Instr.sliceAt 66 (.slice A n c) (some (.int .i64 k)) none none).run Tryd.prog W = .ok v W ∧ IRow w0 v (l.drop k.toNat) ∧ capOk v := by
  have h1 : (Instr.sliceAt 66 (.slice A n c) (some (.int .i64 k)) none none).run Tryd.prog W = .ok (sliced A k.toNat n c 1) W := by
    rw [run_sliceAt_slice W _ _ _ _ _ Tryd.underlying66]
    rw [run_slice_l W 66 A n c Tryd.underlying66 .i64 k hk.1 hk.2]
    have hs : (sizeOf (Tryd.prog.elem 66)).run Tryd.prog W = .ok 1 W := by kernel_rfl
    rw [hs]
    rfl
  refine ⟨_, h1, ?_, ?_⟩
  · subst hl
    obtain ⟨A', c', e, hA⟩ := hr
    cases e
    refine ⟨_, _, by unfold sliced; rw [List.length_drop], fun hne => ?_⟩
    have hlt : k.toNat < l.length := by
      rcases Nat.lt_or_ge k.toNat l.length with h | h
      · exact h
      · exact absurd (List.drop_eq_nil_of_le h) hne
    obtain ⟨ad, rfl, had, hcell⟩ := hA (fun e => by rw [e] at hlt; simp at hlt)
    refine ⟨ad.add (k.toNat * 1), by rw [if_neg (by omega)]; rfl, by rw [add_blk]; exact had, fun j x hx => ?_⟩
    rw [Nat.mul_one, Go.Deep.add_add]
    exact hcell _ x (getElem_drop' hx)
  · show n - k.toNat ≤ c - k.toNat
    omega

def TwoPost (a : At) (n : Int) (e : Ending) : Prop := e = .returned (.tuple #[a.agg, .int .i64 n])
set_option maxRecDepth 100000 in
set_option maxHeartbeats 1000000 in
theorem change_no (a : At) (v : Value) (w : World) (hl : lookB a = false) :
    Calls Tryd.prog 28 #[a.agg, v] w fun e w' => TwoPost ⟨0, 0, 0⟩ 1 e ∧ Below w.heap.size w w' := by
  have hlook := pLook_any a
  rw [hl] at hlook
  obtain ⟨fg, bg, fl⟩ := a
  unfold At.agg at hlook ⊢
  clear hl
  go_enter Tryd.func28, Tryd.ntmps28
  go_wp2_with (go_at_call 24; refine (hlook _).mono ?_; rintro e w2 ⟨rfl, hb⟩; obtain ⟨hc, hf⟩ := bcell hb)
  exact bodyPost_ret (v := .tuple #[.agg #[.int .i64 0, .int .i64 0, .int .i64 0], .int .i64 1]) (by simp [results, Tryd.results28, go_sem, hc]) rfl ⟨rfl, (((Below.behind (Below.behind hb)).setCell (by simp) _).setCell (by simp) _).setCell (by simp) _⟩
set_option maxRecDepth 100000 in
set_option maxHeartbeats 1000000 in
theorem change_yes (a : At) (A : Option Addr) (n c : Nat) (l : List Int) (w : World) (hl : lookB a = true) (hr : IRow w (.slice A n c) l) (hcap : n ≤ c) (hm : l.length ≤ 1000000) (hwf : ∀ n ∈ l, (Lit.int .i64 n).wf = true) :
    Calls Tryd.prog 28 #[a.agg, .slice A n c] w fun e w' => TwoPost (changeG a l) 0 e ∧ Below w.heap.size w w' := by
  have hlook := pLook_any a
  rw [hl] at hlook
  have hn : n = l.length := by obtain ⟨A', c', e, _⟩ := hr; cases e; rfl
  obtain ⟨fg, bg, fl⟩ := a
  have hstart : Box ((w.alloc (.cells #[.int .i64 fg, .int .i64 bg, .int .i64 fl] 30)).alloc (.cells #[.int .i64 0, .int .i64 0, .int .i64 0] 30)) w.heap.size 30 (At.cells ⟨fg, bg, fl⟩) := (Box.new w 30 #[.int .i64 fg, .int .i64 bg, .int .i64 fl]).alloc _
  have hres := Box.new (w.alloc (.cells #[.int .i64 fg, .int .i64 bg, .int .i64 fl] 30)) 30 #[.int .i64 0, .int .i64 0, .int .i64 0]
  rw [World.size_alloc] at hres
  have hbel : Below w.heap.size w ((w.alloc (.cells #[.int .i64 fg, .int .i64 bg, .int .i64 fl] 30)).alloc (.cells #[.int .i64 0, .int .i64 0, .int .i64 0] 30)) := (below_alloc _ _).alloc (by simp) _
  show Calls Tryd.prog 28 #[.agg #[.int .i64 fg, .int .i64 bg, .int .i64 fl], _] w _
  change ∀ w, Calls _ _ #[.agg #[.int .i64 fg, .int .i64 bg, .int .i64 fl]] w _ at hlook
  have HL := hid hl
  have HS := hid hstart
  have HR := hid hres
  have HB := hid hbel
  have HW := hid hwf
  have HI := hid hr
  clear hl hstart hres hbel hwf hr
  by_cases h0 : l = []
  · subst h0
    simp at hn
    subst hn
    go_enter Tryd.func28, Tryd.ntmps28
    go_wp2_with (go_at_call 24; refine (hlook _).mono ?_; rintro e w2 ⟨rfl, hb⟩; obtain ⟨hc, hf⟩ := bcell hb)
    exact bodyPost_ret (v := .tuple #[.agg #[.int .i64 0, .int .i64 0, .int .i64 0], .int .i64 0]) (by simp [results, Tryd.results28, go_sem, hc]) rfl ⟨rfl, (((Below.behind (Below.behind hb)).setCell (by simp) _).setCell (by simp) _).setCell (by simp) _⟩
  · have hpos : 0 < n := by rw [hn]; exact List.length_pos_iff.2 h0
    have hne : ((n : Int) == 0) = false := by simp; omega
    have hn1 : n ≤ 1000000 := by omega
    have HN := hid hn
    clear hn
    go_enter Tryd.func28, Tryd.ntmps28
    go_upto_region 5 with (go_at_call 24; refine (hlook _).mono ?_; rintro e w2 ⟨rfl, hb⟩)
    have hz2 : w.heap.size + 1 + 1 ≤ w2.heap.size := by have := hb.size; simp at this; omega
    have d0 := HS.out.below hb (by simp; omega)
    have d1 := HR.out.below hb (by simp)
    have hB2 := HB.out.trans (hb.mono (by simp; omega))
    clear hb
    go_loopw [1] (fun v wr => ∃ (A' : Option Addr) (n' c' : Nat) (rest : List Int) (B : At), v = .slice A' n' c' ∧ n' = rest.length ∧ n' ≤ c' ∧ n' ≤ 1000000 ∧ IRow w v rest ∧ (∀ x ∈ rest, (Lit.int .i64 x).wf = true) ∧ chgG ⟨fg, bg, fl⟩ l = chgG B rest ∧ lookB B = true ∧ Box wr w.heap.size 30 B.cells ∧ Box wr (w.heap.size + 1) 30 #[.int .i64 0, .int .i64 0, .int .i64 0] ∧ Below w.heap.size w wr) (fun v _ => lenV v)
    case atStart => exact ⟨A, n, c, l, ⟨fg, bg, fl⟩, rfl, HN.out, hcap, hn1, HI.out, HW.out, rfl, HL.out, d0, d1, hB2⟩
    case round =>
      clear d0 d1 hB2
      obtain ⟨A', n', c', rest, B, rfl, hlen, hcap', hbd, hrow, hwfr, hchg, hlook', hbox, hresb, hbel⟩ := hrel
      have HCH := hid hchg
      have HLN := hid hlen
      have HRW := hid hrow
      have HWF := hid hwfr
      clear hchg hrow hwfr
      by_cases hz : n' = 0
      · have HE : Hid (chgG ⟨fg, bg, fl⟩ l = B) := by
          unfold Hid
          have hnil : rest = [] := List.length_eq_zero_iff.1 (by rw [← HLN.out]; exact hz)
          rw [HCH.out, hnil]
          unfold chgG
          rfl
        have HG : Hid (changeG ⟨fg, bg, fl⟩ l = B) := by unfold Hid changeG; rw [if_neg h0]; exact HE.out
        obtain ⟨bf, bb, bl⟩ := B
        have hbox' : Box wr w.heap.size 30 #[.int .i64 bf, .int .i64 bb, .int .i64 bl] := hbox
        obtain ⟨⟨c0, c1, c2⟩, f0, f1, f2⟩ := hbox'.three
        obtain ⟨⟨c3, c4, c5⟩, f3, f4, f5⟩ := hresb.three
        clear hlen hlook'
        subst hz
        go_wp2
        exact bodyPost_ret (v := .tuple #[.agg #[.int .i64 bf, .int .i64 bb, .int .i64 bl], .int .i64 0]) (by simp [results, Tryd.results28, go_sem, c3, c4, c5]) rfl ⟨by rw [HG.out]; rfl, ((hbel.setCell (by simp) _).setCell (by simp) _).setCell (by simp) _⟩
      · have hposn : 0 < n' := by omega
        have hposi : (0 : Int) < n' := by omega
        have hr0 : rest ≠ [] := fun e => hz (by rw [HLN.out, e]; rfl)
        have hask := ask_any w.heap.size B rest (.slice A' n' c') wr w hlook' hbox HRW.out (Nat.le_refl _) hbel hr0 (by rw [← HLN.out]; exact hbd) HWF.out
        have htk := stepG_taken B hr0
        have HCG := hid (stepG_chg B hr0)
        have HLK := hid (stepG_look hlook' rest)
        rw [← HLN.out] at htk
        have hsl := fun W => slice_drop A' n' c' (stepG B rest).1 (by omega) rest W w HLN.out hcap' HRW.out
        generalize stepG B rest = S at *
        obtain ⟨T, B2⟩ := S
        simp only at htk hask HCG HLK hsl
        clear hz hlen hr0 hlook'
        go_wp2_with (go_at_call 43; refine hask.mono ?_; rintro e w6 ⟨rfl, hbx, hbut⟩; obtain ⟨v6, hrun6, hi6, hc6⟩ := hsl w6; obtain ⟨A6, c6, rfl, hA6⟩ := hi6)
        go_roundw
        case rel =>
          exact ⟨A6, _, c6, rest.drop T.toNat, B2, rfl, List.length_drop.symm, by have h : (List.drop T.toNat rest).length ≤ c6 := hc6; rw [List.length_drop] at h; exact h, by have := HLN.out; omega, ⟨A6, c6, by rw [List.length_drop], hA6⟩, fun x hx => HWF.out x (List.mem_of_mem_drop hx), by rw [HCH.out, HCG.out], HLK.out, hbx, hresb.but hbut (by omega), hbel.trans (hbut.below hbel.size)⟩
        case measure => have := HLN.out; simp only [lenV]; omega
theorem change_any (a : At) (A : Option Addr) (n c : Nat) (l : List Int) (w : World) (hr : IRow w (.slice A n c) l) (hcap : n ≤ c) (hm : l.length ≤ 1000000) (hwf : ∀ n ∈ l, (Lit.int .i64 n).wf = true) :
    Calls Tryd.prog 28 #[a.agg, .slice A n c] w fun e w' => (if lookB a = true then TwoPost (changeG a l) 0 e else TwoPost ⟨0, 0, 0⟩ 1 e) ∧ Below w.heap.size w w' := by
  cases hl : lookB a
  · exact change_no a _ w hl
  · exact change_yes a A n c l w hl hr hcap hm hwf
end Go.Proofs.YtlcahkbbefcjnaaDoor
