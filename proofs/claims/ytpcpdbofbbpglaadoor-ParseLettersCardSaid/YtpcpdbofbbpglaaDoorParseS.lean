/- The reference of layer 5, walked: rows of things that are done. -/
import Derived.Test.YtpcpdbofbbpglaaDoorParseR
import Derived.Lib.QuietBelow
namespace Go.Proofs.YtpcpdbofbbpglaaDoor
open Go.RowKit

/-- A slice that reads as these things, each with its numbers' slice. -/
def DRow (W : World) (v : Value) (l : List (Dn × Value)) : Prop :=
  ∃ A c, v = .slice A l.length c ∧ (l ≠ [] → ∃ g, A = some ⟨g, 0, none⟩ ∧ g < W.heap.size ∧ ∀ j e, l[j]? = some e → (∀ i u, (e.1.cells e.2)[i]? = some u → W.cell? ⟨g, j * 7 + i, none⟩ = some u) ∧ IRow W e.2 e.1.params ∧ e.1.params.length ≤ 1000000)

theorem dcells {W : World} {g o : Nat} {d : Dn} {v : Value} (h : ∀ i u, (d.cells v)[i]? = some u → W.cell? ⟨g, o + i, none⟩ = some u) :
    W.cell? ⟨g, o, none⟩ = some (.int .i64 d.kind) ∧ W.cell? ⟨g, o + 1, none⟩ = some (.int .i32 d.rune) ∧ W.cell? ⟨g, o + 2, none⟩ = some (.int .i64 d.code) ∧ W.cell? ⟨g, o + 3, none⟩ = some (.int .i64 d.priv) ∧
    W.cell? ⟨g, o + 4, none⟩ = some v ∧ W.cell? ⟨g, o + 5, none⟩ = some (.int .i64 d.inter) ∧ W.cell? ⟨g, o + 6, none⟩ = some (.string d.text) :=
  ⟨h 0 _ rfl, h 1 _ rfl, h 2 _ rfl, h 3 _ rfl, h 4 _ rfl, h 5 _ rfl, h 6 _ rfl⟩

set_option maxRecDepth 100000 in
set_option maxHeartbeats 2000000 in
theorem rSame_eq (v1 v2 : Value) (l1 l2 : List (Dn × Value)) (w : World) (h1 : DRow w v1 l1) (h2 : DRow w v2 l2) (he : l1.map Prod.fst = l2.map Prod.fst) (n1 : l1.length ≤ 1000000) :
    Calls Tryd.prog 11 #[v1, v2] w fun e w' => e = .returned (.bool true) ∧ Below w.heap.size w w' := by
  obtain ⟨A1, c1, rfl, hA1⟩ := h1
  obtain ⟨A2, c2, rfl, hA2⟩ := h2
  have hl : l1.length = l2.length := by have := congrArg List.length he; simpa using this
  obtain ⟨m, hm⟩ : ∃ m, l1.length = m := ⟨_, rfl⟩
  have hm2 := hl.symm.trans hm
  rw [hm, hm2]
  rw [hm] at n1
  have HM1 := hid hm
  have HM2 := hid hm2
  have HE := hid he
  clear hl hm hm2 he
  go_enter Tryd.func11, Tryd.ntmps11
  go_wp2
  go_loopw [13] (fun i wr => ∃ k : Nat, k ≤ m ∧ i = .int .i64 k ∧ Below w.heap.size w wr) (fun i _ => m - (intOf i).toNat)
  case atStart => exact ⟨0, by omega, rfl, Below.refl _ _⟩
  case round =>
    obtain ⟨k, hk, rfl, hb⟩ := hrel
    by_cases hlt : k < m
    · have k1 : k < l1.length := by rw [HM1.out]; exact hlt
      have k2 : k < l2.length := by rw [HM2.out]; exact hlt
      obtain ⟨g1, rfl, hg1, hc1⟩ := hA1 (by intro e; subst e; simp at k1)
      obtain ⟨g2, rfl, hg2, hc2⟩ := hA2 (by intro e; subst e; simp at k2)
      obtain ⟨p1, r1, q1⟩ := hc1 k _ (List.getElem?_eq_getElem k1)
      obtain ⟨p2, r2, q2⟩ := hc2 k _ (List.getElem?_eq_getElem k2)
      have hd : l1[k].1 = l2[k].1 := by
        have h3 : (l1.map Prod.fst)[k]? = (l2.map Prod.fst)[k]? := by rw [HE.out]
        rw [List.getElem?_map, List.getElem?_map, List.getElem?_eq_getElem k1, List.getElem?_eq_getElem k2] at h3
        simpa using h3
      generalize l1[k] = x at *
      generalize l2[k] = y at *
      obtain ⟨dx, vx⟩ := x
      obtain ⟨dy, vy⟩ := y
      simp only at hd p1 p2 r1 r2 q1 q2
      subst hd
      have r1 := r1.below hb
      have r2 := r2.below hb
      obtain ⟨a0, a1, a2, a3, a4, a5, a6⟩ := dcells (W := wr) (g := g1) (o := k * 7) (d := dx) (v := vx) (fun i u hu => (hb.cell (p := ⟨g1, k * 7 + i, none⟩) hg1).trans (p1 i u hu))
      obtain ⟨b0, b1, b2, b3, b4, b5, b6⟩ := dcells (W := wr) (g := g2) (o := k * 7) (d := dx) (v := vy) (fun i u hu => (hb.cell (p := ⟨g2, k * 7 + i, none⟩) hg2).trans (p2 i u hu))
      have hself : likeB dx dx = true := like_iff.2 rfl
      have cL : ∀ d os, Calls Tryd.prog 14 #[.agg (dx.cells vx), .agg (dx.cells vy)] (Go.Sort.grow (redrawn wr d) os) fun e w'' => e = .returned (.bool true) ∧ ∃ p : Regrown, w'' = Go.Sort.grow (redrawn wr p.d) p.os := fun d os => Calls.regrown_of (by
        have h := rLike_any dx dx vx vy (Go.Sort.grow (redrawn wr d) os) (r1.below (below_regrown wr d os)) (r2.below (below_regrown wr d os)) q1 q1
        rw [hself] at h
        exact h)
      unfold Dn.cells at cL
      have a0 := cell_regrown a0
      have a1 := cell_regrown a1
      have a2 := cell_regrown a2
      have a3 := cell_regrown a3
      have a4 := cell_regrown a4
      have a5 := cell_regrown a5
      have a6 := cell_regrown a6
      have b0 := cell_regrown b0
      have b1 := cell_regrown b1
      have b2 := cell_regrown b2
      have b3 := cell_regrown b3
      have b4 := cell_regrown b4
      have b5 := cell_regrown b5
      have b6 := cell_regrown b6
      have hki : (k : Int) < m := by omega
      obtain ⟨Ax, cx, rfl, _⟩ := r1
      obtain ⟨Ay, cy, rfl, _⟩ := r2
      obtain ⟨d1, d2, d3, d4, d5, d6, d7⟩ := dx
      simp only at *
      generalize d5.length = nx at *
      clear hc1 hc2 hA1 hA2 p1 p2 q1 q2 hself k1 k2 HE
      go_wp2
      refine wp_region_quiet_below (by kernel_rfl) (by kernel_rfl) ?_
      repeat (quiet_step (exact cL _ _))
      refine wpQuiet_nil ?_
      intro _ hw'
      obtain ⟨⟨dq, osq⟩, hw''⟩ := hw'
      subst hw''
      have n4 := hb.trans ((below_regrown wr dq osq).mono hb.size)
      clear cL a0 a1 a2 a3 a4 a5 a6 b0 b1 b2 b3 b4 b5 b6
      generalize Go.Sort.grow (redrawn wr dq) osq = w4 at *
      go_wp2
      go_roundw
      case rel => exact ⟨k + 1, by omega, by go_num, n4⟩
      case measure => simp [intOf]; omega
    · have hkm : k = m := by omega
      subst hkm
      clear hA1 hA2
      go_wp2
      go_ret
      exact ⟨rfl, hb⟩
end Go.Proofs.YtpcpdbofbbpglaaDoor
