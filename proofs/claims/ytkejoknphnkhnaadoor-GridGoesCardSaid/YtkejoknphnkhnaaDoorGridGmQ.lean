/- What the law GridGoes wants. Made by wip/gen/gridGoes.py. -/
import Derived.Test.YtkejoknphnkhnaaDoorGridRuQ
import Derived.Test.YtkejoknphnkhnaaDoorGridRdQ
import Derived.Test.YtkejoknphnkhnaaDoorGridRgQ
import Derived.Test.YtkejoknphnkhnaaDoorGridRiQ
namespace Go.Proofs.YtkejoknphnkhnaaDoor
open Go.RowKit

theorem Sm.szG {lv : List (Ln × Value)} (h : Sm lv) : Sz lv := ⟨h.1, fun e he => (h.2 e he).1⟩
theorem scroll_may {cols top bot num : Int} {a : At} {lv : List (Ln × Value)} (h : scrollOk cols lv top bot num a = true) : mayB cols lv = true ∧ lookB a = true := by
  unfold scrollOk at h
  simp only [Bool.and_eq_true] at h
  exact ⟨h.1, h.2.2.2.2.2⟩
theorem up_sm {cols top bot num : Int} {a : At} {lv lv' : List (Ln × Value)} (hs : Sm lv) (h : scrollOk cols lv top bot num a = true) (hm : lv'.map Prod.fst = upT (lv.map Prod.fst) cols top bot num a) : Sm lv' := by
  obtain ⟨h0, ha⟩ := scroll_may h
  obtain ⟨C, T, Bn, M, rfl, rfl, rfl, p1, p2, p3, p4, p5, p6, p7⟩ := scr_parts h
  unfold upT at hm
  rw [p5, Int.toNat_natCast, Int.toNat_natCast, Int.toNat_natCast] at hm
  exact (scr_stay hs h0 rfl ha (by omega) hm).2.2
theorem down_sm {cols top bot num : Int} {a : At} {lv lv' : List (Ln × Value)} (hs : Sm lv) (h : scrollOk cols lv top bot num a = true) (hm : lv'.map Prod.fst = downT (lv.map Prod.fst) cols top bot num a) : Sm lv' := by
  obtain ⟨h0, ha⟩ := scroll_may h
  obtain ⟨C, T, Bn, M, rfl, rfl, rfl, p1, p2, p3, p4, p5, p6, p7⟩ := scr_parts h
  unfold downT at hm
  rw [p5, Int.toNat_natCast, Int.toNat_natCast, Int.toNat_natCast] at hm
  exact (scr_stay hs h0 rfl ha (by omega) hm).2.2
def DwnPostI (W : World) (cols : Int) (tgt : List Ln) (e : Ending) (w' : World) : Prop :=
  ∃ v' lv', e = .returned (.agg #[.int .i64 cols, v']) ∧ lv'.map Prod.fst = tgt ∧ LR w' v' lv' ∧ CesOf w' lv' ∧ Below W.heap.size W w'
theorem refDown_int (cols top bot num : Int) (a : At) (v : Value) (lv : List (Ln × Value)) (W : World) (hg : GIn W v lv) (h : scrollOk cols lv top bot num a = true) :
    Calls Tryd.prog 16 #[.agg #[.int .i64 cols, v], .int .i64 top, .int .i64 bot, .int .i64 num, a.agg] W (DwnPostI W cols (downT (lv.map Prod.fst) cols top bot num a)) := by
  have hc := (mayB_cols (scroll_may h).1).1
  have := refDown_out cols top bot num a v lv W hg h
  unfold DwnPost at this
  rwa [show ((cols.toNat : Nat) : Int) = cols by omega] at this
/-- What is gone, or nothing is. -/
def GF (W : World) (ok : Bool) (gl : List (Ln × Value)) (A : Option Addr) (k c : Nat) : Prop := (ok = true ∧ LR W (.slice A k c) gl) ∨ (ok = false ∧ (.slice A k c : Value) = .slice none 0 0)
theorem GF.below {W W' : World} {ok : Bool} {gl : List (Ln × Value)} {A : Option Addr} {k c : Nat} (h : GF W ok gl A k c) (hb : Below W.heap.size W W') : GF W' ok gl A k c := h.imp (fun ⟨a, b⟩ => ⟨a, b.below hb⟩) id
theorem uout_parts {w' : World} {cols : Int} {ok : Bool} {tgt : List Ln} {gone : List (Ln × Value)} {xc : Int} {A : Option Addr} {k c : Nat} {B : Option Addr} {j d : Nat} {xn : Int}
    (h : (ok = true ∧ xc = cols ∧ xn = 0 ∧ ∃ lv', lv'.map Prod.fst = tgt ∧ LR w' (.slice A k c) lv' ∧ CesOf w' lv' ∧ LR w' (.slice B j d) gone) ∨ (ok = false ∧ xc = 0 ∧ (.slice A k c : Value) = .slice none 0 0 ∧ (.slice B j d : Value) = .slice none 0 0 ∧ xn = 1)) :
    XF w' cols ok 1 tgt xc A k c xn ∧ GF w' ok gone B j d := by
  rcases h with ⟨h1, h2, h3, lv', h4, h5, h6, h7⟩ | ⟨h1, h2, h3, h4, h5⟩
  · exact ⟨.inl ⟨h1, h2, h3, lv', h4, h5, h6⟩, .inl ⟨h1, h7⟩⟩
  · exact ⟨.inr ⟨h1, h2, h3, h5⟩, .inr ⟨h1, h4⟩⟩
theorem gone_same {lv : List (Ln × Value)} (top bot num : Int) : ((lv.drop top.toNat).take (scrM top bot num)).map Prod.fst = goneT (lv.map Prod.fst) top bot num := by
  unfold goneT
  rw [List.map_take, List.map_drop]
theorem gone_ces {W : World} {lv : List (Ln × Value)} (h : CesOf W lv) (t m : Nat) : CesOf W ((lv.drop t).take m) := fun e he => h e (List.mem_of_mem_drop (List.mem_of_mem_take he))
theorem gone_sz {lv : List (Ln × Value)} (h : Sm lv) (t m : Nat) : Sz ((lv.drop t).take m) :=
  ⟨by have := h.1; rw [List.length_take, List.length_drop]; omega, fun e he => (h.2 e (List.mem_of_mem_drop (List.mem_of_mem_take he))).1⟩
end Go.Proofs.YtkejoknphnkhnaaDoor
