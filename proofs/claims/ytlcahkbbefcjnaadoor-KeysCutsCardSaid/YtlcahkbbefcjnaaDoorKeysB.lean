/- Layer 3, the package: the key that stands first, where no named one does. -/
import Derived.Test.YtlcahkbbefcjnaaDoorKeysA
import Derived.Test.YtlcahkbbefcjnaaDoorClone
namespace Go.Proofs.YtlcahkbbefcjnaaDoor
open Go.RowKit

/-- Rules 3, 4, 5. -/
def escG (s : ByteArray) (final : Bool) : ByteArray × Nat :=
  match seqG s final with
  | some k => k
  | none => match metaG s final with
    | some k => k
    | none => (escName, 1)
def KeyIs (k : ByteArray × Nat) (e : Ending) : Prop := e = .returned (.tuple #[.string k.1, .int .i64 (k.2 : Nat)])
theorem key_is {k : ByteArray × Nat} {n : ByteArray} {m : Nat} (h : k = (n, m)) {i : Int} (hi : i = m) : KeyIs k (.returned (.tuple #[.string n, .int .i64 i])) := by
  rw [h, hi]; rfl
theorem firstG_n {s : ByteArray} : 0 ≤ (firstG s).n ∧ (firstG s).n ≤ 4 := by
  rcases firstG_e s with h | ⟨_, h1, _, h4⟩
  · rw [h]; exact ⟨by show (0 : Int) ≤ 0; omega, by show (0 : Int) ≤ 4; omega⟩
  · omega

set_option maxRecDepth 100000 in
set_option maxHeartbeats 1000000 in
theorem plain_any (s : ByteArray) (final : Bool) (w : World) (hs : s.size ≤ 1000) (h27 : byteAt s 0 ≠ 27) (hT : Tab w) (hW : TabW w) :
    Calls Tryd.prog 35 #[.string s, .bool final] w fun e w' => KeyIs (lastG s final) e ∧ Below w.heap.size w w' := by
  have hmax : s.size ≤ maxLen := by unfold maxLen; omega
  have hlk := letterKey_any s w hmax hT hW
  have hfi := fun w2 (hb : Below w.heap.size w w2) => first_any s w2 hmax (hT.below hb)
  have hL : lastG s final = if letterN s ≠ 0 then (s.extract 0 (letterN s), letterN s) else if (firstG s).e = 2 then (if final then (quest, 1) else (⟨#[]⟩, 0)) else (quest, (firstG s).n.toNat) := by
    unfold lastG; rw [if_neg h27]
  have hle := letterN_le s
  have hgn := firstG_n (s := s)
  unfold Got.val at hfi
  generalize firstG s = g at *
  obtain ⟨r, gn, ge⟩ := g
  simp only at hfi hL hgn
  have hcl := fun W => clone_any (s.extract 0 (letterN s)) W (by rw [size_extract']; omega)
  generalize letterN s = n at *
  clear h27 hmax
  by_cases hn : n = 0
  · subst hn
    rw [if_neg (by simp)] at hL
    clear hcl hle
    by_cases he : ge = 2
    · subst he
      rw [if_pos rfl] at hL
      cases final
      all_goals
        have HL := hid hL
        clear hL
        go_enter Tryd.func35, Tryd.ntmps35
        go_wp2_with (first | (go_at_call 47; refine hlk.mono ?_; rintro e w2 ⟨rfl, hb⟩) | (go_at_call 39; refine (hfi _ hb).mono ?_; rintro e w3 ⟨rfl, hb3⟩))
        go_ret2
        exact ⟨key_is HL.out rfl, hb.trans (hb3.mono hb.size)⟩
    · rw [if_neg he] at hL
      have he' : (ge != 2) = true := by simp [he]
      have HL := hid hL
      have HG := hid hgn
      clear hL he hgn
      go_enter Tryd.func35, Tryd.ntmps35
      go_wp2_with (first | (go_at_call 47; refine hlk.mono ?_; rintro e w2 ⟨rfl, hb⟩) | (go_at_call 39; refine (hfi _ hb).mono ?_; rintro e w3 ⟨rfl, hb3⟩))
      go_ret2
      exact ⟨key_is HL.out (Int.toNat_of_nonneg HG.out.1).symm, hb.trans (hb3.mono hb.size)⟩
  · rw [if_pos hn] at hL
    have HL := hid hL
    have hpos : (0 : Int) < n := by omega
    have hni : (n : Int) ≤ s.size := by omega
    obtain ⟨p, hp⟩ : ∃ p, s.extract 0 n = p := ⟨_, rfl⟩
    rw [hp] at hcl
    clear hL hfi hn hgn
    go_enter Tryd.func35, Tryd.ntmps35
    go_wp2_with (first | (go_at_call 47; refine hlk.mono ?_; rintro e w2 ⟨rfl, hb⟩) | (go_at_call 22; refine (hcl _).mono ?_; rintro e w3 ⟨rfl, hb3⟩))
    go_ret2
    exact ⟨key_is (HL.out.trans (by rw [hp])) rfl, hb.trans (hb3.mono hb.size)⟩

set_option maxRecDepth 100000 in
set_option maxHeartbeats 1000000 in
theorem escaped_any (s : ByteArray) (final : Bool) (w : World) (hs : s.size ≤ 1000) (h1 : 1 ≤ s.size) (hbg : final = true ∨ 2 ≤ s.size) (hT : Tab w) (hW : TabW w) :
    Calls Tryd.prog 34 #[.string s, .bool final] w fun e w' => KeyIs (escG s final) e ∧ Below w.heap.size w w' := by
  obtain ⟨r, hr⟩ : ∃ r, s.extract 1 s.size = r := ⟨_, rfl⟩
  have hrz : r.size = s.size - 1 := by rw [← hr, size_extract']; omega
  have hmax : r.size ≤ maxLen := by unfold maxLen; omega
  have hlk := fun w2 (hb : Below w.heap.size w w2) => letterKey_any r w2 hmax (hT.below hb) (hW.below hb)
  have hfi := fun w2 (hb : Below w.heap.size w w2) => first_any r w2 hmax (hT.below hb)
  have hpre := fun W => pre_any s ⟨#[27, 91]⟩ W (by omega) (by decide)
  have hM : metaG s final = if letterN r ≠ 0 ∧ metaB (r.extract 0 (letterN r)) = true then some (mDash ++ r.extract 0 (letterN r), 1 + letterN r) else if r.size ≠ 0 ∧ (firstG r).e = 2 ∧ final = false then some (⟨#[]⟩, 0) else none := by
    unfold metaG metaB
    rw [hr]
    simp only [decide_eq_true_eq]
  have hsh : letterN r ≠ 0 → (firstG r).e ≠ 2 := fun hn he => hn (letterN_short he)
  have hle := letterN_le r
  have hmt := fun W => metaTakes_any (r.extract 0 (letterN r)) W
  have hS : seqG s final = if pre s ⟨#[27, 91]⟩ = true then
      if seqN s = s.size then (if final then none else some (⟨#[]⟩, 0)) else if digitB (byteAt s (seqN s)) = true then none else some (quest, seqN s + 1) else none := rfl
  have hsq : pre s ⟨#[27, 91]⟩ = true → seqN s ≤ s.size ∧ seqN s ≤ 10 := by
    intro hp
    have h2 : 2 ≤ s.size := (of_decide_eq_true hp).1
    have := seqEnd_spec s 8 2 (by omega) h2
    exact ⟨this.2.2.1, this.2.1⟩
  have hsc : pre s ⟨#[27, 91]⟩ = true → ∀ W, Calls Tryd.prog 45 #[.string s] W fun e w' => e = .returned (.int .i64 (seqN s : Nat)) ∧ W = w' := fun hp W => sequence_any s W (by omega) (of_decide_eq_true hp).1
  have hin := fun W => inSeq_any (byteAt s (seqN s)) W
  have hE : escG s final = match seqG s final with | some k => k | none => match metaG s final with | some k => k | none => (escName, 1) := rfl
  have hbe : ∀ h : seqN s < s.size, (s[seqN s].toNat : Int) = byteAt s (seqN s) := fun h => byteAt_eq h
  have hgn := firstG_n (s := r)
  unfold Got.val at hfi
  generalize escG s final = E at *
  generalize seqN s = q at *
  generalize pre s ⟨#[27, 91]⟩ = P at *
  generalize letterN r = n at *
  generalize firstG r = g at *
  generalize metaB (r.extract 0 n) = M at *
  obtain ⟨gr, gn, ge⟩ := g
  simp only at hfi hM hsh hgn
  have hcs : (P = false) ∨ (P = true ∧ q = s.size ∧ final = true) ∨ (P = true ∧ q < s.size ∧ digitB (byteAt s q) = true) ∨ (P = true ∧ q = s.size ∧ final = false) ∨ (P = true ∧ q < s.size ∧ digitB (byteAt s q) = false) := by
    cases P
    · exact .inl rfl
    · have := hsq rfl
      by_cases hq : q = s.size
      · cases final
        · exact .inr (.inr (.inr (.inl ⟨rfl, hq, rfl⟩)))
        · exact .inr (.inl ⟨rfl, hq, rfl⟩)
      · cases hd : digitB (byteAt s q)
        · exact .inr (.inr (.inr (.inr ⟨rfl, by omega, rfl⟩)))
        · exact .inr (.inr (.inl ⟨rfl, by omega, rfl⟩))
  have hcm : (n ≠ 0 ∧ M = true) ∨ (n ≠ 0 ∧ M = false ∧ ge ≠ 2) ∨ (n = 0 ∧ ge = 2 ∧ final = false) ∨ (n = 0 ∧ ge ≠ 2) ∨ (n = 0 ∧ ge = 2 ∧ final = true) := by
    by_cases hn : n = 0
    · by_cases he : ge = 2
      · cases final
        · exact .inr (.inr (.inl ⟨hn, he, rfl⟩))
        · exact .inr (.inr (.inr (.inr ⟨hn, he, rfl⟩)))
      · exact .inr (.inr (.inr (.inl ⟨hn, he⟩)))
    · cases M
      · exact .inr (.inl ⟨hn, rfl, hsh hn⟩)
      · exact .inl ⟨hn, rfl⟩
  rcases hcs with hc | hc | hc | hc | hc
  · obtain rfl := hc
    rw [if_neg (by simp)] at hS
    rw [hS] at hE
    simp only at hE
    clear hsc hsq hin hbe
    rcases hcm with ⟨hn, rfl⟩ | ⟨hn, rfl, he⟩ | ⟨rfl, rfl, rfl⟩ | ⟨rfl, he⟩ | ⟨rfl, rfl, rfl⟩
    · rw [if_pos ⟨hn, rfl⟩] at hM
      rw [hM] at hE
      simp only at hE
      have hpos : (0 : Int) < n := by omega
      have hn4 : (n : Int) ≤ 4 := by omega
      have hnr : (n : Int) ≤ r.size := by omega
      have hcat : ∀ W, (Op.stringOp .add ⟨#[77, 45]⟩ (r.extract 0 n)).run Tryd.prog W = .ok (.string (⟨#[77, 45]⟩ ++ r.extract 0 n)) W := fun W => run_string_add W _ _ (by decide) (by rw [size_extract']; omega)
      have HE := hid hE
      have HZ := hid hrz
      have hs1 : (1 : Int) ≤ s.size := by omega
      clear hE hM hS hrz hsh hgn hbg hle hn
      go_enter Tryd.func34, Tryd.ntmps34
      go_wp2_with (first | (go_at_call 33; refine (hpre _).mono ?_; rintro e w2 ⟨rfl, rfl⟩) | (go_at_call 47; refine (hlk _ (Below.refl _ _)).mono ?_; rintro e w3 ⟨rfl, hb⟩) | (go_at_call 48; refine (hmt _).mono ?_; rintro e w4 ⟨rfl, rfl⟩))
      go_ret2
      exact ⟨key_is HE.out (by omega), hb⟩
    · rw [if_neg (by simp), if_neg (fun h => he h.2.1)] at hM
      rw [hM] at hE
      simp only at hE
      have hpos : (0 : Int) < n := by omega
      have hn4 : (n : Int) ≤ 4 := by omega
      have hnr : (n : Int) ≤ r.size := by omega
      have hcat : ∀ W, (Op.stringOp .add ⟨#[77, 45]⟩ (r.extract 0 n)).run Tryd.prog W = .ok (.string (⟨#[77, 45]⟩ ++ r.extract 0 n)) W := fun W => run_string_add W _ _ (by decide) (by rw [size_extract']; omega)
      have he' : (ge == 2) = false := by simp [he]
      have HE := hid hE
      have HZ := hid hrz
      have hs1 : (1 : Int) ≤ s.size := by omega
      clear hE hM hS hrz hsh hgn hbg hle hn he
      go_enter Tryd.func34, Tryd.ntmps34
      go_wp2_with (first | (go_at_call 33; refine (hpre _).mono ?_; rintro e w2 ⟨rfl, rfl⟩) | (go_at_call 47; refine (hlk _ (Below.refl _ _)).mono ?_; rintro e w3 ⟨rfl, hb⟩) | (go_at_call 48; refine (hmt _).mono ?_; rintro e w4 ⟨rfl, rfl⟩) | (go_at_call 39; refine (hfi _ hb).mono ?_; rintro e w5 ⟨rfl, hb5⟩))
      go_ret2
      exact ⟨key_is HE.out rfl, hb.trans (hb5.mono hb.size)⟩
    · have hrn : r.size ≠ 0 := by
          have : 2 ≤ s.size := by simpa using hbg
          omega
      rw [if_neg (by simp), if_pos ⟨hrn, rfl, rfl⟩] at hM
      clear hrn
      rw [hM] at hE
      simp only at hE
      have HE := hid hE
      have HZ := hid hrz
      have hs1 : (1 : Int) ≤ s.size := by omega
      clear hE hM hS hrz hsh hgn hbg hle
      go_enter Tryd.func34, Tryd.ntmps34
      go_wp2_with (first | (go_at_call 33; refine (hpre _).mono ?_; rintro e w2 ⟨rfl, rfl⟩) | (go_at_call 47; refine (hlk _ (Below.refl _ _)).mono ?_; rintro e w3 ⟨rfl, hb⟩) | (go_at_call 39; refine (hfi _ hb).mono ?_; rintro e w5 ⟨rfl, hb5⟩))
      go_ret2
      exact ⟨key_is HE.out rfl, hb.trans (hb5.mono hb.size)⟩
    · rw [if_neg (by simp), if_neg (fun h => he h.2.1)] at hM
      rw [hM] at hE
      simp only at hE
      have he' : (ge == 2) = false := by simp [he]
      have HE := hid hE
      have HZ := hid hrz
      have hs1 : (1 : Int) ≤ s.size := by omega
      clear hE hM hS hrz hsh hgn hbg hle he
      go_enter Tryd.func34, Tryd.ntmps34
      go_wp2_with (first | (go_at_call 33; refine (hpre _).mono ?_; rintro e w2 ⟨rfl, rfl⟩) | (go_at_call 47; refine (hlk _ (Below.refl _ _)).mono ?_; rintro e w3 ⟨rfl, hb⟩) | (go_at_call 39; refine (hfi _ hb).mono ?_; rintro e w5 ⟨rfl, hb5⟩))
      go_ret2
      exact ⟨key_is HE.out rfl, hb.trans (hb5.mono hb.size)⟩
    · rw [if_neg (by simp), if_neg (fun h => absurd h.2.2 (by simp))] at hM
      rw [hM] at hE
      simp only at hE
      have HE := hid hE
      have HZ := hid hrz
      have hs1 : (1 : Int) ≤ s.size := by omega
      clear hE hM hS hrz hsh hgn hbg hle
      go_enter Tryd.func34, Tryd.ntmps34
      go_wp2_with (first | (go_at_call 33; refine (hpre _).mono ?_; rintro e w2 ⟨rfl, rfl⟩) | (go_at_call 47; refine (hlk _ (Below.refl _ _)).mono ?_; rintro e w3 ⟨rfl, hb⟩) | (go_at_call 39; refine (hfi _ hb).mono ?_; rintro e w5 ⟨rfl, hb5⟩))
      go_ret2
      exact ⟨key_is HE.out rfl, hb.trans (hb5.mono hb.size)⟩
  · obtain ⟨rfl, rfl, rfl⟩ := hc
    rw [if_pos rfl, if_pos rfl, if_pos rfl] at hS
    rw [hS] at hE
    simp only at hE
    have hsq0 := hsc rfl
    clear hsc hsq hin hbe
    rcases hcm with ⟨hn, rfl⟩ | ⟨hn, rfl, he⟩ | ⟨_, _, hf⟩ | ⟨rfl, he⟩ | ⟨rfl, rfl, _⟩
    · rw [if_pos ⟨hn, rfl⟩] at hM
      rw [hM] at hE
      simp only at hE
      have hpos : (0 : Int) < n := by omega
      have hn4 : (n : Int) ≤ 4 := by omega
      have hnr : (n : Int) ≤ r.size := by omega
      have hcat : ∀ W, (Op.stringOp .add ⟨#[77, 45]⟩ (r.extract 0 n)).run Tryd.prog W = .ok (.string (⟨#[77, 45]⟩ ++ r.extract 0 n)) W := fun W => run_string_add W _ _ (by decide) (by rw [size_extract']; omega)
      have HE := hid hE
      have HZ := hid hrz
      have hs1 : (1 : Int) ≤ s.size := by omega
      clear hE hM hS hrz hsh hgn hbg hle hn
      go_enter Tryd.func34, Tryd.ntmps34
      go_wp2_with (first | (go_at_call 33; refine (hpre _).mono ?_; rintro e w2 ⟨rfl, rfl⟩) | (go_at_call 45; refine (hsq0 _).mono ?_; rintro e w2 ⟨rfl, rfl⟩) | (go_at_call 47; refine (hlk _ (Below.refl _ _)).mono ?_; rintro e w3 ⟨rfl, hb⟩) | (go_at_call 48; refine (hmt _).mono ?_; rintro e w4 ⟨rfl, rfl⟩))
      go_ret2
      exact ⟨key_is HE.out (by omega), hb⟩
    · rw [if_neg (by simp), if_neg (fun h => he h.2.1)] at hM
      rw [hM] at hE
      simp only at hE
      have hpos : (0 : Int) < n := by omega
      have hn4 : (n : Int) ≤ 4 := by omega
      have hnr : (n : Int) ≤ r.size := by omega
      have hcat : ∀ W, (Op.stringOp .add ⟨#[77, 45]⟩ (r.extract 0 n)).run Tryd.prog W = .ok (.string (⟨#[77, 45]⟩ ++ r.extract 0 n)) W := fun W => run_string_add W _ _ (by decide) (by rw [size_extract']; omega)
      have he' : (ge == 2) = false := by simp [he]
      have HE := hid hE
      have HZ := hid hrz
      have hs1 : (1 : Int) ≤ s.size := by omega
      clear hE hM hS hrz hsh hgn hbg hle hn he
      go_enter Tryd.func34, Tryd.ntmps34
      go_wp2_with (first | (go_at_call 33; refine (hpre _).mono ?_; rintro e w2 ⟨rfl, rfl⟩) | (go_at_call 45; refine (hsq0 _).mono ?_; rintro e w2 ⟨rfl, rfl⟩) | (go_at_call 47; refine (hlk _ (Below.refl _ _)).mono ?_; rintro e w3 ⟨rfl, hb⟩) | (go_at_call 48; refine (hmt _).mono ?_; rintro e w4 ⟨rfl, rfl⟩) | (go_at_call 39; refine (hfi _ hb).mono ?_; rintro e w5 ⟨rfl, hb5⟩))
      go_ret2
      exact ⟨key_is HE.out rfl, hb.trans (hb5.mono hb.size)⟩
    · exact absurd hf (by simp)
    · rw [if_neg (by simp), if_neg (fun h => he h.2.1)] at hM
      rw [hM] at hE
      simp only at hE
      have he' : (ge == 2) = false := by simp [he]
      have HE := hid hE
      have HZ := hid hrz
      have hs1 : (1 : Int) ≤ s.size := by omega
      clear hE hM hS hrz hsh hgn hbg hle he
      go_enter Tryd.func34, Tryd.ntmps34
      go_wp2_with (first | (go_at_call 33; refine (hpre _).mono ?_; rintro e w2 ⟨rfl, rfl⟩) | (go_at_call 45; refine (hsq0 _).mono ?_; rintro e w2 ⟨rfl, rfl⟩) | (go_at_call 47; refine (hlk _ (Below.refl _ _)).mono ?_; rintro e w3 ⟨rfl, hb⟩) | (go_at_call 39; refine (hfi _ hb).mono ?_; rintro e w5 ⟨rfl, hb5⟩))
      go_ret2
      exact ⟨key_is HE.out rfl, hb.trans (hb5.mono hb.size)⟩
    · rw [if_neg (by simp), if_neg (fun h => absurd h.2.2 (by simp))] at hM
      rw [hM] at hE
      simp only at hE
      have HE := hid hE
      have HZ := hid hrz
      have hs1 : (1 : Int) ≤ s.size := by omega
      clear hE hM hS hrz hsh hgn hbg hle
      go_enter Tryd.func34, Tryd.ntmps34
      go_wp2_with (first | (go_at_call 33; refine (hpre _).mono ?_; rintro e w2 ⟨rfl, rfl⟩) | (go_at_call 45; refine (hsq0 _).mono ?_; rintro e w2 ⟨rfl, rfl⟩) | (go_at_call 47; refine (hlk _ (Below.refl _ _)).mono ?_; rintro e w3 ⟨rfl, hb⟩) | (go_at_call 39; refine (hfi _ hb).mono ?_; rintro e w5 ⟨rfl, hb5⟩))
      go_ret2
      exact ⟨key_is HE.out rfl, hb.trans (hb5.mono hb.size)⟩
  · obtain ⟨rfl, hq, hd⟩ := hc
    rw [if_pos rfl, if_neg (by omega), if_pos hd] at hS
    rw [hS] at hE
    simp only at hE
    have hsq0 := hsc rfl
    have hbe1 := hbe hq
    have hqi : (q : Int) < s.size := by omega
    have hqe : ((q : Int) == (s.size : Int)) = false := by simp; omega
    rw [hd] at hin
    clear hsc hsq hbe hd
    rcases hcm with ⟨hn, rfl⟩ | ⟨hn, rfl, he⟩ | ⟨rfl, rfl, rfl⟩ | ⟨rfl, he⟩ | ⟨rfl, rfl, rfl⟩
    · rw [if_pos ⟨hn, rfl⟩] at hM
      rw [hM] at hE
      simp only at hE
      have hpos : (0 : Int) < n := by omega
      have hn4 : (n : Int) ≤ 4 := by omega
      have hnr : (n : Int) ≤ r.size := by omega
      have hcat : ∀ W, (Op.stringOp .add ⟨#[77, 45]⟩ (r.extract 0 n)).run Tryd.prog W = .ok (.string (⟨#[77, 45]⟩ ++ r.extract 0 n)) W := fun W => run_string_add W _ _ (by decide) (by rw [size_extract']; omega)
      have HE := hid hE
      have HZ := hid hrz
      have hs1 : (1 : Int) ≤ s.size := by omega
      clear hE hM hS hrz hsh hgn hbg hle hn
      go_enter Tryd.func34, Tryd.ntmps34
      go_wp2_with (first | (go_at_call 33; refine (hpre _).mono ?_; rintro e w2 ⟨rfl, rfl⟩) | (go_at_call 45; refine (hsq0 _).mono ?_; rintro e w2 ⟨rfl, rfl⟩) | (go_at_call 46; refine (hin _).mono ?_; rintro e w2 ⟨rfl, rfl⟩) | (go_at_call 47; refine (hlk _ (Below.refl _ _)).mono ?_; rintro e w3 ⟨rfl, hb⟩) | (go_at_call 48; refine (hmt _).mono ?_; rintro e w4 ⟨rfl, rfl⟩))
      go_ret2
      exact ⟨key_is HE.out (by omega), hb⟩
    · rw [if_neg (by simp), if_neg (fun h => he h.2.1)] at hM
      rw [hM] at hE
      simp only at hE
      have hpos : (0 : Int) < n := by omega
      have hn4 : (n : Int) ≤ 4 := by omega
      have hnr : (n : Int) ≤ r.size := by omega
      have hcat : ∀ W, (Op.stringOp .add ⟨#[77, 45]⟩ (r.extract 0 n)).run Tryd.prog W = .ok (.string (⟨#[77, 45]⟩ ++ r.extract 0 n)) W := fun W => run_string_add W _ _ (by decide) (by rw [size_extract']; omega)
      have he' : (ge == 2) = false := by simp [he]
      have HE := hid hE
      have HZ := hid hrz
      have hs1 : (1 : Int) ≤ s.size := by omega
      clear hE hM hS hrz hsh hgn hbg hle hn he
      go_enter Tryd.func34, Tryd.ntmps34
      go_wp2_with (first | (go_at_call 33; refine (hpre _).mono ?_; rintro e w2 ⟨rfl, rfl⟩) | (go_at_call 45; refine (hsq0 _).mono ?_; rintro e w2 ⟨rfl, rfl⟩) | (go_at_call 46; refine (hin _).mono ?_; rintro e w2 ⟨rfl, rfl⟩) | (go_at_call 47; refine (hlk _ (Below.refl _ _)).mono ?_; rintro e w3 ⟨rfl, hb⟩) | (go_at_call 48; refine (hmt _).mono ?_; rintro e w4 ⟨rfl, rfl⟩) | (go_at_call 39; refine (hfi _ hb).mono ?_; rintro e w5 ⟨rfl, hb5⟩))
      go_ret2
      exact ⟨key_is HE.out rfl, hb.trans (hb5.mono hb.size)⟩
    · have hrn : r.size ≠ 0 := by
          have : 2 ≤ s.size := by simpa using hbg
          omega
      rw [if_neg (by simp), if_pos ⟨hrn, rfl, rfl⟩] at hM
      clear hrn
      rw [hM] at hE
      simp only at hE
      have HE := hid hE
      have HZ := hid hrz
      have hs1 : (1 : Int) ≤ s.size := by omega
      clear hE hM hS hrz hsh hgn hbg hle
      go_enter Tryd.func34, Tryd.ntmps34
      go_wp2_with (first | (go_at_call 33; refine (hpre _).mono ?_; rintro e w2 ⟨rfl, rfl⟩) | (go_at_call 45; refine (hsq0 _).mono ?_; rintro e w2 ⟨rfl, rfl⟩) | (go_at_call 46; refine (hin _).mono ?_; rintro e w2 ⟨rfl, rfl⟩) | (go_at_call 47; refine (hlk _ (Below.refl _ _)).mono ?_; rintro e w3 ⟨rfl, hb⟩) | (go_at_call 39; refine (hfi _ hb).mono ?_; rintro e w5 ⟨rfl, hb5⟩))
      go_ret2
      exact ⟨key_is HE.out rfl, hb.trans (hb5.mono hb.size)⟩
    · rw [if_neg (by simp), if_neg (fun h => he h.2.1)] at hM
      rw [hM] at hE
      simp only at hE
      have he' : (ge == 2) = false := by simp [he]
      have HE := hid hE
      have HZ := hid hrz
      have hs1 : (1 : Int) ≤ s.size := by omega
      clear hE hM hS hrz hsh hgn hbg hle he
      go_enter Tryd.func34, Tryd.ntmps34
      go_wp2_with (first | (go_at_call 33; refine (hpre _).mono ?_; rintro e w2 ⟨rfl, rfl⟩) | (go_at_call 45; refine (hsq0 _).mono ?_; rintro e w2 ⟨rfl, rfl⟩) | (go_at_call 46; refine (hin _).mono ?_; rintro e w2 ⟨rfl, rfl⟩) | (go_at_call 47; refine (hlk _ (Below.refl _ _)).mono ?_; rintro e w3 ⟨rfl, hb⟩) | (go_at_call 39; refine (hfi _ hb).mono ?_; rintro e w5 ⟨rfl, hb5⟩))
      go_ret2
      exact ⟨key_is HE.out rfl, hb.trans (hb5.mono hb.size)⟩
    · rw [if_neg (by simp), if_neg (fun h => absurd h.2.2 (by simp))] at hM
      rw [hM] at hE
      simp only at hE
      have HE := hid hE
      have HZ := hid hrz
      have hs1 : (1 : Int) ≤ s.size := by omega
      clear hE hM hS hrz hsh hgn hbg hle
      go_enter Tryd.func34, Tryd.ntmps34
      go_wp2_with (first | (go_at_call 33; refine (hpre _).mono ?_; rintro e w2 ⟨rfl, rfl⟩) | (go_at_call 45; refine (hsq0 _).mono ?_; rintro e w2 ⟨rfl, rfl⟩) | (go_at_call 46; refine (hin _).mono ?_; rintro e w2 ⟨rfl, rfl⟩) | (go_at_call 47; refine (hlk _ (Below.refl _ _)).mono ?_; rintro e w3 ⟨rfl, hb⟩) | (go_at_call 39; refine (hfi _ hb).mono ?_; rintro e w5 ⟨rfl, hb5⟩))
      go_ret2
      exact ⟨key_is HE.out rfl, hb.trans (hb5.mono hb.size)⟩
  · obtain ⟨rfl, rfl, rfl⟩ := hc
    rw [if_pos rfl, if_pos rfl, if_neg (by simp)] at hS
    rw [hS] at hE
    simp only at hE
    have hsq0 := hsc rfl
    clear hsc hsq hin hbe
    have HE := hid hE
    have HZ := hid hrz
    clear hE hM hS hrz hsh hgn hbg hle hcm hlk hfi hmt
    go_enter Tryd.func34, Tryd.ntmps34
    go_wp2_with (first | (go_at_call 33; refine (hpre _).mono ?_; rintro e w2 ⟨rfl, rfl⟩) | (go_at_call 45; refine (hsq0 _).mono ?_; rintro e w2 ⟨rfl, rfl⟩))
    go_ret2
    exact ⟨key_is HE.out (by first | rfl | omega), Below.refl _ _⟩
  · obtain ⟨rfl, hq, hd⟩ := hc
    rw [if_pos rfl, if_neg (by omega), if_neg (by rw [hd]; simp)] at hS
    rw [hS] at hE
    simp only at hE
    have hsq0 := hsc rfl
    have hbe1 := hbe hq
    have hqi : (q : Int) < s.size := by omega
    rw [hd] at hin
    have hq10 : q ≤ 10 := (hsq rfl).2
    clear hsc hsq hbe hd
    have HE := hid hE
    have HZ := hid hrz
    clear hE hM hS hrz hsh hgn hbg hle hcm hlk hfi hmt
    go_enter Tryd.func34, Tryd.ntmps34
    go_wp2_with (first | (go_at_call 33; refine (hpre _).mono ?_; rintro e w2 ⟨rfl, rfl⟩) | (go_at_call 45; refine (hsq0 _).mono ?_; rintro e w2 ⟨rfl, rfl⟩) | (go_at_call 46; refine (hin _).mono ?_; rintro e w2 ⟨rfl, rfl⟩))
    go_ret2
    exact ⟨key_is HE.out (by first | rfl | omega), Below.refl _ _⟩
end Go.Proofs.YtlcahkbbefcjnaaDoor
