/- Layer 3, the package: keys that bytes are, and what is left. -/
import Derived.Test.YtlcahkbbefcjnaaDoorKeysD
import Derived.Test.YtlcahkbbefcjnaaDoorStrs
import Derived.Deep.DeepCutAuto
namespace Go.Proofs.YtlcahkbbefcjnaaDoor
open Go.RowKit

def DecIs (base : Nat) (d : List ByteArray × ByteArray) (e : Ending) (w' : World) : Prop := ∃ v, e = .returned (.tuple #[v, .string d.2]) ∧ OwnS w' base v d.1

theorem dec_ret {base : Nat} {d : List ByteArray × ByteArray} {v : Value} {x : ByteArray} {w' : World} (h : x = d.2) (ho : OwnS w' base v d.1) : DecIs base d (.returned (.tuple #[v, .string x])) w' := ⟨v, by rw [h], ho⟩

set_option maxRecDepth 100000 in
set_option maxHeartbeats 1000000 in
theorem decode_any (s : ByteArray) (final : Bool) (w : World) (hs : s.size ≤ 1000) (hT : Tab w) (hW : TabW w) :
    Calls Tryd.prog 6 #[.string s, .bool final] w fun e w' => DecIs w.heap.size (decG s final) e w' ∧ Below w.heap.size w w' := by
  have hz := namedZ_run
  have hst := fun W => named_store W _ rfl
  have hnm := named_any
  have hcl := fun p hp W => clone_any p W hp
  go_enter Tryd.func6, Tryd.ntmps6
  go_upto_region 2 with (go_at_call 20; refine (hnm _).mono ?_; rintro e w2 ⟨rfl, hb2⟩)
  have d0 := Box.new w2 47 namedV
  have h2 := hb2.alloc hb2.size (.cells namedV 47)
  have hB := d0.lt
  generalize w2.alloc (.cells namedV 47) = W at *
  generalize w2.heap.size = N at *
  have hNlt := hB
  clear hst hz hnm hb2
  go_wp2_with fail
  go_loopw [0, 7] (fun sv nv wr => ∃ (rest : ByteArray) (done : List ByteArray) (v : Value), sv = .string rest ∧ nv = v ∧ OwnS wr w.heap.size v done ∧ decG s final = (done ++ (decG rest final).1, (decG rest final).2) ∧ done.length + rest.size ≤ 1000 ∧ Box wr N 47 namedV ∧ Below w.heap.size w wr) (fun sv _ _ => strLen sv)
  case atStart => exact ⟨s, [], _, rfl, rfl, OwnS.nil _ _, rfl, by simp; omega, d0, h2⟩
  case round =>
    clear d0 h2 hB hNlt
    obtain ⟨rest, done, v, rfl, rfl, hown, hdec, hlen, hbox, hbel⟩ := hrel
    have HD := hid hdec
    clear hdec
    have hrs : rest.size ≤ 1000 := by omega
    have hclr := hcl rest (by omega)
    by_cases h0 : rest.size = 0
    · have HE : Hid (decG s final = (done, rest)) := by unfold Hid; rw [HD.out, decG_nil final h0]; simp
      have hr := empty_yes h0
      subst hr
      clear h0
      obtain ⟨A, c, rfl⟩ := hown.spell
      go_wp2_with (go_at_call 22; refine (hclr _).mono ?_; rintro e w3 ⟨rfl, hb3⟩)
      go_ret2
      exact ⟨dec_ret (by rw [HE.out]) (by rw [HE.out]; exact hown.kept hb3), hbel.trans (hb3.mono hbel.size)⟩
    · have hne := empty_no h0
      have hf := kfirst_any rest final N wr hrs h0 hbox (hT.below hbel) (hW.below hbel)
      have hle := take_le final h0
      have hl0 := decG_left (s := rest) (f := final)
      have hstp := decG_step (s := rest) (f := final) h0
      generalize takeK rest final = K at *
      obtain ⟨nm, n⟩ := K
      unfold KeyIs at hf
      simp only at hf hle hl0 hstp
      by_cases hn : n = 0
      · subst hn
        have HE : Hid (decG s final = (done, rest)) := by unfold Hid; rw [HD.out, hl0 rfl]; simp
        clear hl0 hstp hle h0
        obtain ⟨A, c, rfl⟩ := hown.spell
        go_wp2_with (first | (go_at_call 21; refine hf.mono ?_; rintro e w3 ⟨rfl, hb3⟩) | (go_at_call 22; refine (hclr _).mono ?_; rintro e w4 ⟨rfl, hb4⟩))
        go_ret2
        exact ⟨dec_ret (by rw [HE.out]) (by rw [HE.out]; exact (hown.kept hb3).kept hb4), (hbel.trans (hb3.mono hbel.size)).trans (hb4.mono (Nat.le_trans hbel.size hb3.size))⟩
      · have HE := hid (hstp hn)
        have hni : ((n : Int) == 0) = false := by simp; omega
        have hnr : (n : Int) ≤ rest.size := by omega
        clear hl0 hstp hclr
        obtain ⟨r2, hr2⟩ : ∃ r2, rest.extract n rest.size = r2 := ⟨_, rfl⟩
        have hz2 : r2.size = rest.size - n := by rw [← hr2, size_extract']; omega
        have HZ2 := hid hz2
        have HR2 := hid hr2
        clear hz2
        go_wp2_with (first | (go_at_call 21; refine hf.mono ?_; rintro e w3 ⟨rfl, hb3⟩; have hown3 := hown.kept hb3; have hbel3 := hbel.trans (hb3.mono hbel.size)) | (at_builtin; refine wpList_append_strs rfl _ _ rfl w.heap.size _ _ rfl (OwnS.kept hown3 (below_alloc _ _)) [nm] ⟨w3.heap.size, 0, none⟩ 1 1 rfl rfl (slit_at (Box.new _ _ _)) (by omega) (by have := hbel3.size; simp; omega) ?_; intro v' w7 hown7 hgr))
        all_goals
          go_roundw
          case rel =>
            have hbox3 := hbox.below hb3 hbox.lt
            have hb7 := (Below.refl w.heap.size w3).alloc hbel3.size (.cells #[.string nm] 9)
            have hbx7 := hbox3.alloc (.cells #[.string nm] 9)
            have hbelow : Below w.heap.size w w7 := (hbel3.trans hb7).trans (OwnS.below_grown (OwnS.kept hown3 (below_alloc _ _)) hgr (by have := hbel3.size; simp; omega) (Nat.le_refl _))
            exact ⟨r2, done ++ [nm], v', rfl, rfl, hown7, by rw [HD.out, HE.out, HR2.out]; simp, by have := HZ2.out; simp; omega, hbx7.grown hgr ((OwnS.kept hown3 (below_alloc _ _)).not_box hbx7 (by decide)), hbelow⟩
          case measure => have := HZ2.out; simp only [strLen]; omega
end Go.Proofs.YtlcahkbbefcjnaaDoor
