/- The law's known frame. -/
import Derived.Test.YthkgflghiooboaaWireE
namespace Go.Proofs.Ythkgflghiooboaa
open Go.RowKit

theorem known_enc : encI 1 ⟨#[65]⟩ = ⟨#[1, 0, 1, 65, 67]⟩ := by decide +kernel
theorem known_encE : encE 1 ⟨#[65]⟩ = 0 := by decide +kernel
theorem known_stands : standsB ⟨#[1, 0, 1, 65, 67]⟩ = true := by decide +kernel
theorem known_rest : restOf ⟨#[1, 0, 1, 65, 67]⟩ = ⟨#[]⟩ := by decide +kernel
theorem known_empty : standsB ⟨#[]⟩ = false := by decide +kernel
theorem known_fr : frOf ⟨#[1, 0, 1, 65, 67]⟩ = ⟨1, ⟨#[65]⟩⟩ := by
  show (⟨_, _⟩ : Fr) = _
  congr 1
theorem known_feed : feedG ⟨#[]⟩ false ⟨#[1, 0, 1, 65, 67]⟩ = ⟨⟨#[]⟩, false, [⟨1, ⟨#[65]⟩⟩], 0⟩ := by
  have h1 : rightB ⟨#[]⟩ false = true := by decide +kernel
  have h2 : spoiltB ⟨#[]⟩ = false := by decide +kernel
  unfold feedG framesG
  rw [if_neg (by simp [h1]), if_neg (by simp), nil_app, leftG_yes known_stands, known_rest, leftG_no known_empty, pairsG_yes known_stands, known_rest, pairsG_no known_empty, known_fr, if_neg (by simp [h2])]
  rfl

theorem row_form {W : World} {base : Nat} {e : TypeId} {v : Value} {fr : List Fr} (h : W.ownsRow base e 2 v fr.length (flat fr)) (hn : fr ≠ []) :
    ∃ g cap, v = .slice (some ⟨g, 0, none⟩) fr.length cap ∧ base ≤ g ∧ g < W.heap.size ∧ fr.length ≤ cap ∧ ∀ j u, (flat fr)[j]? = some u → W.cell? ⟨g, j, none⟩ = some u := by
  rcases h.2 with ⟨_, h0⟩ | ⟨g, cap, cur, rfl, hb, hg, hc, _⟩
  · cases fr with
    | nil => exact absurd rfl hn
    | cons a l => simp at h0
  · refine ⟨g, cap, rfl, hb, (Array.getElem?_eq_some_iff.1 hg).1, hc, fun j u hu => ?_⟩
    have hj : j < fr.length * 2 := by rw [← flat_length]; exact (List.getElem?_eq_some_iff.1 hu).1
    rw [h.cellAt j hj]; exact hu

set_option maxHeartbeats 1000000 in
theorem alive_any (w : World) :
    Calls Try.prog 14 #[] w fun e w' => e = .returned (.bool true) ∧ Below w.heap.size w w' := by
  have h1 := encode_any 1 ⟨#[65]⟩ w (by decide)
  rw [known_enc, known_encE] at h1
  have h2 := fun W => feed_any ⟨#[]⟩ ⟨#[1, 0, 1, 65, 67]⟩ false W (by decide)
  rw [known_feed] at h2
  go_enter Try.func14, Try.ntmps14
  go_wp2_with (first | (go_at_call 8; refine h1.mono ?_; rintro e w2 ⟨rfl, hb2⟩) | (go_at_call 9; refine (h2 _).mono ?_; rintro e w3 ⟨⟨v, rfl, hrow⟩, hb3⟩; obtain ⟨g, cap, rfl, hg1, hg2, hg3, hcs⟩ := row_form hrow (by simp); have hc1 := hcs 1 _ rfl))
  go_ret
  exact ⟨rfl, (hb2.trans (hb3.mono hb2.size)).alloc (hb2.trans (hb3.mono hb2.size)).size _⟩
end Go.Proofs.Ythkgflghiooboaa
