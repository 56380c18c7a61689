/- Layer 3, the package: the key that stands first. -/
import Derived.Test.YtlcahkbbefcjnaaDoorKeysC
import Derived.BigQuiet
namespace Go.Proofs.YtlcahkbbefcjnaaDoor
open Go.RowKit

theorem namedV_at {k : Nat} {e : ByteArray × ByteArray} (h : allTab[k]? = some e) : namedV[2 * k]? = some (.string e.1) ∧ namedV[2 * k + 1]? = some (.string e.2) := by
  have := flat_at allTab k e h
  unfold namedV
  simpa using this

theorem take_scan {s : ByteArray} {f : Bool} {k : ByteArray × Nat} (h : (∃ k, scanG s f allTab = some k ∧ takeK s f = k) ∨ (scanG s f allTab = none ∧ (f = true ∨ beginsG s = false) ∧ takeK s f = if byteAt s 0 = 27 then escG s f else lastG s f)) (hk : scanG s f allTab = some k) : takeK s f = k := by
  rcases h with ⟨k', h1, h2⟩ | ⟨h1, _⟩
  · rw [h1] at hk
    rw [h2]
    exact Option.some.inj hk
  · rw [h1] at hk; cases hk
theorem pre_esc {s : ByteArray} (h0 : s.size ≠ 0) : pre s ⟨#[27]⟩ = decide (byteAt s 0 = 27) := by
  by_cases h : byteAt s 0 = 27
  · rw [decide_eq_true h]
    unfold pre
    refine decide_eq_true ⟨by show 1 ≤ s.size; omega, ?_⟩
    apply bytes_ext
    · rw [size_extract']; show min 1 s.size - 0 = 1; omega
    · intro i hi
      rw [size_extract'] at hi
      have hi' : i < min 1 s.size - 0 := hi
      obtain rfl : i = 0 := by omega
      clear hi'
      rw [byteAt_extract _ _ _ _ hi]
      exact h
  · rw [decide_eq_false h]
    cases hp : pre s ⟨#[27]⟩
    · rfl
    · exact absurd (pre_byte hp (i := 0) (by decide)).1 h

set_option maxRecDepth 100000 in
set_option maxHeartbeats 1000000 in
theorem kfirst_any (s : ByteArray) (final : Bool) (b : Nat) (W : World) (hs : s.size ≤ 1000) (h0 : s.size ≠ 0) (hbox : Box W b 47 namedV) (hT : Tab W) (hW : TabW W) :
    Calls Tryd.prog 21 #[.string s, .bool final, .slice (some ⟨b, 0, none⟩) 47 47] W fun e w' => KeyIs (takeK s final) e ∧ Below W.heap.size W w' := by
  have HT := scan_take (f := final) h0
  have hpre := fun p hp W => pre_any s p W (by omega) hp
  have hpre2 := fun p hp W => pre_any p s W hp (by omega)
  have hB := hbox.lt
  have HBX := hid hbox
  have HT := hid HT
  clear hbox
  go_enter Tryd.func21, Tryd.ntmps21
  go_wp2_with fail
  go_loopw [12] (fun i wr => ∃ k : Nat, k ≤ 47 ∧ i = .int .i64 k ∧ scanG s final allTab = scanG s final (allTab.drop k) ∧ Below W.heap.size W wr) (fun i _ => 47 - (intOf i).toNat)
  case atStart => exact ⟨0, by omega, rfl, rfl, Below.refl _ _⟩
  case round =>
    obtain ⟨k, hk, rfl, hsc, hbr⟩ := hrel
    have HSC := hid hsc
    clear hsc
    by_cases hk47 : k < 47
    · obtain ⟨e, he⟩ : ∃ e, allTab[k]? = some e := ⟨_, List.getElem?_eq_getElem (show k < allTab.length by exact hk47)⟩
      have hstep : Hid (scanG s final (allTab.drop k) = if hitB s e = true then some (e.1, e.2.size) else if halfB s final e = true then some (⟨#[]⟩, 0) else scanG s final (allTab.drop (k + 1))) := by
        unfold Hid
        obtain ⟨hk', hee⟩ := List.getElem?_eq_some_iff.1 he
        rw [List.drop_eq_getElem_cons hk', hee, scanG]
      obtain ⟨v0, v1⟩ := namedV_at he
      have hbx := HBX.out.below hbr hB
      have c0 : wr.cell? ⟨b, k * 2, none⟩ = some (.string e.1) := by rw [Nat.mul_comm]; exact (hbx.cell (2 * k)).trans v0
      have c1 : wr.cell? ⟨b, k * 2 + 1, none⟩ = some (.string e.2) := by rw [Nat.mul_comm]; exact (hbx.cell (2 * k + 1)).trans v1
      have hz := all_size e (List.mem_of_getElem? he)
      obtain ⟨nm, bt⟩ := e
      simp only at c0 c1 hz
      have hki : (k : Int) < 47 := by omega
      clear v0 v1 hbx he
      go_upto_region 4 with fail
      have d0 := Box.new wr 46 #[.string nm, .string bt]
      have hb4 := hbr.alloc hbr.size (.cells #[.string nm, .string bt] 46)
      generalize wr.alloc (.cells #[.string nm, .string bt] 46) = w4 at *
      generalize wr.heap.size = D at *
      clear c0 c1 hbr
      obtain ⟨⟨c0, c1⟩, f0, f1⟩ := d0.two
      have hp1 := hpre bt (by omega)
      have hp2 := hpre2 bt (by omega)
      unfold hitB halfB at hstep
      simp only at hstep
      by_cases hesc : bt = esc
      · subst hesc
        rw [decide_eq_false (by simp), Bool.false_and, if_neg (by simp), decide_eq_false (show ¬ s.size < esc.size by show ¬ s.size < 1; omega), Bool.false_and, Bool.and_false, if_neg (by simp)] at hstep
        have HS := hid hstep
        have hs1 : ¬ (s.size : Int) < 1 := by omega
        have hs2 : (1 : Int) ≤ s.size := by omega
        clear hstep hp1 hp2 hz
        change w4.cell? ⟨D, 1, none⟩ = some (.string ⟨#[27]⟩) at c1
        cases final
        all_goals
          go_wp2_with fail
          go_roundw
          case rel => exact ⟨k + 1, by omega, by go_num, HSC.out.trans HS.out, hb4⟩
          case measure => simp [intOf]; omega
      · have g1 : ¬ bt.toList = [27] := fun h => hesc (ByteArray.ext (Array.toList_inj.1 (by rw [← ByteArray.toList_eq, h]; rfl)))
        have hbz : (bt.size : Int) ≤ 4 := by omega
        rw [decide_eq_true hesc, Bool.true_and] at hstep
        clear hesc
        cases hP : pre s bt
        · rw [hP] at hstep hp1
          rw [if_neg (by simp)] at hstep
          clear hP
          cases final
          · rw [Bool.not_false, Bool.true_and] at hstep
            by_cases hlt : s.size < bt.size
            · rw [decide_eq_true hlt, Bool.true_and] at hstep
              have hlti : (s.size : Int) < bt.size := by omega
              cases hQ : pre bt s
              · rw [hQ] at hstep hp2
                rw [if_neg (by simp)] at hstep
                have HS := hid hstep
                clear hstep hQ
                go_wp2_with (first | (go_at_call 33; (with_reducible refine (hp1 _).mono ?_); rintro e w5 ⟨rfl, rfl⟩) | (go_at_call 33; (with_reducible refine (hp2 _).mono ?_); rintro e w5 ⟨rfl, rfl⟩))
                go_roundw
                case rel => exact ⟨k + 1, by omega, by go_num, HSC.out.trans HS.out, hb4⟩
                case measure => simp [intOf]; omega
              · rw [hQ] at hstep hp2
                rw [if_pos rfl] at hstep
                have HS := hid hstep
                clear hstep hQ
                go_wp2_with (first | (go_at_call 33; (with_reducible refine (hp1 _).mono ?_); rintro e w5 ⟨rfl, rfl⟩) | (go_at_call 33; (with_reducible refine (hp2 _).mono ?_); rintro e w5 ⟨rfl, rfl⟩))
                go_ret2
                exact ⟨key_is (take_scan HT.out (HSC.out.trans HS.out)) rfl, hb4⟩
            · rw [decide_eq_false hlt, Bool.false_and, if_neg (by simp)] at hstep
              have HS := hid hstep
              have hlti : ¬ (s.size : Int) < bt.size := by omega
              clear hstep hp2 hlt
              go_wp2_with (go_at_call 33; refine (hp1 _).mono ?_; rintro e w5 ⟨rfl, rfl⟩)
              go_roundw
              case rel => exact ⟨k + 1, by omega, by go_num, HSC.out.trans HS.out, hb4⟩
              case measure => simp [intOf]; omega
          · rw [Bool.not_true, Bool.false_and, if_neg (by simp)] at hstep
            have HS := hid hstep
            clear hstep hp2
            go_wp2_with (go_at_call 33; refine (hp1 _).mono ?_; rintro e w5 ⟨rfl, rfl⟩)
            go_roundw
            case rel => exact ⟨k + 1, by omega, by go_num, HSC.out.trans HS.out, hb4⟩
            case measure => simp [intOf]; omega
        · rw [hP] at hstep hp1
          rw [if_pos rfl] at hstep
          have HS := hid hstep
          have g2 : (bt.toList == [27]) = false := by simp [g1]
          clear hstep hP hp2
          go_wp2_with (go_at_call 33; refine (hp1 _).mono ?_; rintro e w5 ⟨rfl, rfl⟩)
          go_quiet (fail)
          go_wp2
          go_ret2
          exact ⟨key_is (take_scan HT.out (HSC.out.trans HS.out)) rfl, hb4.trans ((below_drew _ _).mono hb4.size)⟩
    · obtain rfl : k = 47 := by omega
      have hn : scanG s final allTab = none := HSC.out
      have hT' := hT.below hbr
      have hW' := hW.below hbr
      have hes : (final = true ∨ beginsG s = false) ∧ takeK s final = if byteAt s 0 = 27 then escG s final else lastG s final := by
        rcases HT.out with ⟨k', h1, _⟩ | ⟨_, h2⟩
        · rw [h1] at hn; cases hn
        · exact h2
      obtain ⟨hes1, hes2⟩ := hes
      have hp := hpre ⟨#[27]⟩ (by decide)
      rw [pre_esc h0] at hp
      by_cases h27 : byteAt s 0 = 27
      · rw [decide_eq_true h27] at hp
        rw [if_pos h27] at hes2
        have h2 : final = true ∨ 2 ≤ s.size := by
          rcases hes1 with h | h
          · exact .inl h
          · exact .inr (begins_esc h0 h h27)
        have hesc := escaped_any s final wr hs (by omega) h2 hT' hW'
        have HE := hid hes2
        clear hes2 hes1 h27 h2 hn hpre hpre2
        go_wp2_with (first | (go_at_call 33; refine (hp _).mono ?_; rintro e w5 ⟨rfl, rfl⟩) | (go_at_call 34; refine hesc.mono ?_; rintro e w6 ⟨rfl, hb6⟩))
        go_ret2
        exact ⟨by rw [HE.out]; rfl, hbr.trans (hb6.mono hbr.size)⟩
      · rw [decide_eq_false h27] at hp
        rw [if_neg h27] at hes2
        have hpl := plain_any s final wr hs h27 hT' hW'
        have HE := hid hes2
        clear hes2 hes1 h27 hn hpre hpre2
        go_wp2_with (first | (go_at_call 33; refine (hp _).mono ?_; rintro e w5 ⟨rfl, rfl⟩) | (go_at_call 35; refine hpl.mono ?_; rintro e w6 ⟨rfl, hb6⟩))
        go_ret2
        exact ⟨by rw [HE.out]; rfl, hbr.trans (hb6.mono hbr.size)⟩
end Go.Proofs.YtlcahkbbefcjnaaDoor
