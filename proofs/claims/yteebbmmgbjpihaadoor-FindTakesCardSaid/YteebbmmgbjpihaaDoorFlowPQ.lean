/- Layer 8, the package: withoutEnd. Made by wip/gen/flowW.py. -/
/- Layer 8, the package: joined. Made by wip/gen/flowJ.py. -/
import Derived.Test.YteebbmmgbjpihaaDoorGridRbQ
import Derived.Test.YteebbmmgbjpihaaDoorCellGQ
import Derived.Test.YteebbmmgbjpihaaDoorCellEq2Q
import Derived.Test.YteebbmmgbjpihaaDoorHeldSQ
import Derived.Deep.DeepCutAuto
namespace Go.Proofs.YteebbmmgbjpihaaDoor
open Go.RowKit

theorem run_eqB0in (c : Ce) (W : World) : (Op.equalIn 10000 44 (.agg #[.string c.tx, .int .i64 c.wd, .int .i64 c.fg, .int .i64 c.bg, .int .i64 c.fl]) (.agg #[.string ⟨#[]⟩, .int .i64 1, .int .i64 0, .int .i64 0, .int .i64 0])).run Tryd.prog W = .ok (blank0 c) W := by
  have h := run_eqlB0 c W
  rw [run_eql_struct, run_eqC2] at h
  rw [run_eqC2]
  simp only [Result.andThen] at h
  injection h with h1 h2
  injection h1 with h1
  rw [h1]
theorem csl_take {W : World} {base : Nat} {A : Option Addr} {n c : Nat} {l : List Ce} (hr : CSl W base (.slice A n c) l) (hl : l.length = n) {h : Nat} (hhn : h ≤ n) : CSl W base (.slice A h c) (l.take h) := by
  have hlen : (l.take h).length = h := by rw [List.length_take]; omega
  rcases hr with ⟨rfl, e⟩ | ⟨g, cap, e, h1, cur, hb, hs, hc, hcell⟩
  · cases e
    have : h = 0 := by omega
    subst this
    exact .inl ⟨rfl, rfl⟩
  · cases e
    refine .inr ⟨g, _, by rw [hlen], h1, cur, hb, hs, by omega, fun j e he => ?_⟩
    rw [List.getElem?_take] at he
    split at he
    · exact hcell j e he
    · cases he
def EndPost (W : World) (base : Nat) (l : List Ce) (c : Nat) (e : Ending) (w' : World) : Prop :=
  ∃ A', e = .returned (.slice A' (trimL l).length c) ∧ CSl w' base (.slice A' (trimL l).length c) (trimL l) ∧ Below W.heap.size W w'
/-- What a cell of a row reads as. -/
theorem row_cells {W : World} {A : Option Addr} {n c : Nat} {l : List Ce} (h : CeRow W (.slice A n c) l) (hl : l.length = n) (j : Nat) (hj : j < n) :
    ∃ g o x, A = some ⟨g, o, none⟩ ∧ g < W.heap.size ∧ l[j]? = some x ∧ ∀ w', Below W.heap.size W w' → ∀ i u, x.cells[i]? = some u → w'.cell? ⟨g, o + j * 5 + i, none⟩ = some u := by
  obtain ⟨A', c', e', hcap, hh⟩ := h
  rw [hl] at e'
  cases e'
  have hjl : j < l.length := by rw [hl]; exact hj
  obtain ⟨g, o, hg, hlt, hcell⟩ := hh (by intro e; rw [e] at hjl; simp at hjl)
  have hx := List.getElem?_eq_getElem hjl
  exact ⟨g, o, l[j], hg, hlt, hx, fun w' hb i u hu => (hb.cell (p := ⟨g, o + j * 5 + i, none⟩) hlt).trans (hcell j _ hx i u hu)⟩

set_option maxRecDepth 100000 in
set_option maxHeartbeats 4000000 in
theorem withoutEnd_any (base : Nat) (A2 : Option Addr) (N c2 : Nat) (l : List Ce) (W : World) (h : CSl W base (.slice A2 N c2) l) (hN : l.length = N) (hn : N ≤ 100000) :
    Calls Tryd.prog 54 #[.slice A2 N c2] W (EndPost W base l c2) := by
  obtain ⟨e, he⟩ : ∃ e, trimN l N = e := ⟨_, rfl⟩
  have hel : e ≤ N := by rw [← he]; exact trimN_le _ _
  have hc3 := csl_take h hN hel
  have htl : trimL l = l.take e := by unfold trimL; rw [hN, he]
  have htn : (trimL l).length = e := by rw [htl, List.length_take, hN]; omega
  have hfin : ∀ w', Below W.heap.size W w' → EndPost W base l c2 (.returned (.slice A2 e c2)) w' := fun w' hb => ⟨A2, by rw [htn], by rw [htn, htl]; exact hc3.below hb (Nat.le_refl _), hb⟩
  have hcells := fun j hj => row_cells h.row hN j hj
  have hcap : N ≤ c2 := by
    obtain ⟨A', c', e', hcap, _⟩ := h.row
    rw [hN] at e' hcap
    cases e'
    exact hcap
  have HFIN := hid hfin
  have HCELLS := hid hcells
  have HE := hid he
  have HNN := hid hN
  have hei : (e : Int) ≤ (N : Int) := by omega
  clear hfin hcells he hN htl htn hc3 h
  go_enter Tryd.func54, Tryd.ntmps54
  go_wp2
  go_loopw [3] (fun v wx => ∃ j : Nat, j ≤ N ∧ v = .int .i64 (j : Int) ∧ trimN l j = e ∧ Below W.heap.size W wx) (fun v _ => (intOf v).toNat)
  case atStart => exact ⟨N, Nat.le_refl _, by go_num, HE.out, Below.refl _ _⟩
  case round =>
    obtain ⟨j, hj, rfl, htn, hbj⟩ := hrel
    obtain ⟨vz, rfl⟩ : ∃ vz : World, vz = wr := ⟨_, rfl⟩
    by_cases hj0 : j = 0
    · subst hj0
      have hde : e = 0 := htn.symm
      subst hde
      go_upto_region 2 with fail
      go_cut [17] (fun b wx => b = .bool false ∧ Below W.heap.size W wx)
      case first =>
        have hS0 : Below W.heap.size W _ := hbj.drew
        refine wp_region_S (fun _ w' => Below W.heap.size W w') (by kernel_rfl) ?_
        refine takeC (i := 0) (v := ?v0a) 6 rfl rfl (by kernel_rfl) (by kernel_rfl) (by kernel_rfl) (by kernel_rfl) (fun _ _ _ h => h) (Or.inl ⟨by rfl, fun w' hw' => ?hy0a⟩) hS0 ?rest0a
        case hy0a => go_simp; try with_reducible rfl
        try simp only [Act.put, List.setIfInBounds_toArray, List.set_cons_zero, List.set_cons_succ]
        refine takeC (i := 1) (v := ?v1a) 7 rfl rfl (by kernel_rfl) (by kernel_rfl) (by kernel_rfl) (by kernel_rfl) (fun _ _ _ h => h) (Or.inl ⟨by rfl, fun w' hw' => ?hy1a⟩) hS0 ?rest1a
        case hy1a => go_simp; try with_reducible rfl
        try simp only [Act.put, List.setIfInBounds_toArray, List.set_cons_zero, List.set_cons_succ]
        refine takeC (i := 2) (v := ?v2a) 8 rfl rfl (by kernel_rfl) (by kernel_rfl) (by kernel_rfl) (by kernel_rfl) (fun _ _ _ h => h) (Or.inl ⟨by rfl, fun w' hw' => ?hy2a⟩) hS0 ?rest2a
        case hy2a => go_simp; try with_reducible rfl
        try simp only [Act.put, List.setIfInBounds_toArray, List.set_cons_zero, List.set_cons_succ]
        refine takeC (i := 3) (v := undef) 9 rfl rfl (by kernel_rfl) (by kernel_rfl) (by kernel_rfl) (by kernel_rfl) (fun _ _ _ h => h) (Or.inr ⟨by rfl, by rfl⟩) hS0 ?_
        try simp only [Act.put, List.setIfInBounds_toArray, List.set_cons_zero, List.set_cons_succ]
        refine takeC (i := 4) (v := undef) 10 rfl rfl (by kernel_rfl) (by kernel_rfl) (by kernel_rfl) (by kernel_rfl) (fun _ _ _ h => h) (Or.inr ⟨by rfl, by rfl⟩) hS0 ?_
        try simp only [Act.put, List.setIfInBounds_toArray, List.set_cons_zero, List.set_cons_succ]
        refine takeC (i := 5) (v := undef) 11 rfl rfl (by kernel_rfl) (by kernel_rfl) (by kernel_rfl) (by kernel_rfl) (fun _ _ _ h => h) (Or.inr ⟨by rfl, by rfl⟩) hS0 ?_
        try simp only [Act.put, List.setIfInBounds_toArray, List.set_cons_zero, List.set_cons_succ]
        refine takeC (i := 6) (v := undef) 12 rfl rfl (by kernel_rfl) (by kernel_rfl) (by kernel_rfl) (by kernel_rfl) (fun _ _ _ h => h) (Or.inr ⟨by rfl, by rfl⟩) hS0 ?_
        try simp only [Act.put, List.setIfInBounds_toArray, List.set_cons_zero, List.set_cons_succ]
        refine takeC (i := 7) (v := undef) 13 rfl rfl (by kernel_rfl) (by kernel_rfl) (by kernel_rfl) (by kernel_rfl) (fun _ _ _ h => h) (Or.inr ⟨by rfl, by rfl⟩) hS0 ?_
        try simp only [Act.put, List.setIfInBounds_toArray, List.set_cons_zero, List.set_cons_succ]
        refine takeC (i := 8) (v := undef) 14 rfl rfl (by kernel_rfl) (by kernel_rfl) (by kernel_rfl) (by kernel_rfl) (fun _ _ _ h => h) (Or.inr ⟨by rfl, by rfl⟩) hS0 ?_
        try simp only [Act.put, List.setIfInBounds_toArray, List.set_cons_zero, List.set_cons_succ]
        refine takeC (i := 9) (v := undef) 15 rfl rfl (by kernel_rfl) (by kernel_rfl) (by kernel_rfl) (by kernel_rfl) (fun _ _ _ h => h) (Or.inr ⟨by rfl, by rfl⟩) hS0 ?_
        try simp only [Act.put, List.setIfInBounds_toArray, List.set_cons_zero, List.set_cons_succ]
        refine takeC (i := 10) (v := undef) 16 rfl rfl (by kernel_rfl) (by kernel_rfl) (by kernel_rfl) (by kernel_rfl) (fun _ _ _ h => h) (Or.inr ⟨by rfl, by rfl⟩) hS0 ?_
        try simp only [Act.put, List.setIfInBounds_toArray, List.set_cons_zero, List.set_cons_succ]
        refine takeC (i := 11) (v := ?v11a) 17 rfl rfl (by kernel_rfl) (by kernel_rfl) (by kernel_rfl) (by kernel_rfl) (fun _ _ _ h => h) (Or.inl ⟨by rfl, fun w' hw' => ?hy11a⟩) hS0 ?rest11a
        case hy11a => go_simp; try with_reducible rfl
        try simp only [Act.put, List.setIfInBounds_toArray, List.set_cons_zero, List.set_cons_succ]
        refine doneS (by kernel_rfl) ?_ _
        go_wp2_with fail
        go_meet
        exact ⟨rfl, hS0⟩
      case rest =>
        obtain ⟨rfl, hbc⟩ := hcut
        go_wp2
        go_ret
        exact HFIN.out _ hbc
    · obtain ⟨i, rfl⟩ : ∃ i, j = i + 1 := ⟨j - 1, by omega⟩
      obtain ⟨g3, o3, c, rfl, hg3, hcx, hcc⟩ := HCELLS.out i (by omega)
      have heq := run_eqB0in c
      have hyes := fun h => trimN_blank (l := l) hcx h
      have hno := fun h => trimN_stop (l := l) hcx h
      obtain ⟨B, hB⟩ : ∃ B, blank0 c = B := ⟨_, rfl⟩
      rw [hB] at heq hyes hno
      have hj1 : (0 : Int) < (i : Int) + 1 := by omega
      have hj3 : (i : Int) ≤ 1000000 := by omega
      have hj2 : (i : Int) < (N : Int) := by omega
      have hj4 : i < N := by omega
      have hj5 : (0 : Int) ≤ (i : Int) := by omega
      have hwi : IntKind.i64.wrap (i : Int) = (i : Int) := IntWalk.i64_in _ (by omega)
      have hblk := fun w => blank_any ⟨0, 0, 0⟩ w
      unfold At.agg Ce.agg Ce.cells at hblk
      simp only at hblk
      have HBLK := hid hblk
      have HCC := hid hcc
      obtain ⟨tx, wd, fg, bg, fl⟩ := c
      simp only at heq
      have HY := hid hyes
      have HNO := hid hno
      have HTN := hid htn
      clear hblk hcc hyes hno hB hcx htn
      go_upto_region 2 with fail
      go_cut [17] (fun b wx => b = .bool B ∧ Below W.heap.size W wx)
      case first =>
        have hS0 : Below W.heap.size W _ := hbj.drew
        refine wp_region_S (fun _ w' => Below W.heap.size W w') (by kernel_rfl) ?_
        refine takeC (i := 0) (v := ?v0b) 6 rfl rfl (by kernel_rfl) (by kernel_rfl) (by kernel_rfl) (by kernel_rfl) (fun _ _ _ h => h) (Or.inl ⟨by rfl, fun w' hw' => ?hy0b⟩) hS0 ?rest0b
        case hy0b => go_simp; try with_reducible rfl
        try simp only [Act.put, List.setIfInBounds_toArray, List.set_cons_zero, List.set_cons_succ]
        refine takeC (i := 1) (v := ?v1b) 7 rfl rfl (by kernel_rfl) (by kernel_rfl) (by kernel_rfl) (by kernel_rfl) (fun _ _ _ h => h) (Or.inl ⟨by rfl, fun w' hw' => ?hy1b⟩) hS0 ?rest1b
        case hy1b => go_simp; try with_reducible rfl
        try simp only [Act.put, List.setIfInBounds_toArray, List.set_cons_zero, List.set_cons_succ]
        refine takeC (i := 2) (v := ?v2b) 8 rfl rfl (by kernel_rfl) (by kernel_rfl) (by kernel_rfl) (by kernel_rfl) (fun _ _ _ h => h) (Or.inl ⟨by rfl, fun w' hw' => ?hy2b⟩) hS0 ?rest2b
        case hy2b => go_simp; try with_reducible rfl
        try simp only [Act.put, List.setIfInBounds_toArray, List.set_cons_zero, List.set_cons_succ]
        refine takeC (i := 3) (v := ?v3b) 9 rfl rfl (by kernel_rfl) (by kernel_rfl) (by kernel_rfl) (by kernel_rfl) (fun _ _ _ h => h) (Or.inl ⟨by rfl, fun w' hw' => ?hy3b⟩) hS0 ?rest3b
        case hy3b => go_simp; try with_reducible rfl
        try simp only [Act.put, List.setIfInBounds_toArray, List.set_cons_zero, List.set_cons_succ]
        refine takeC (i := 4) (v := ?v4b) 10 rfl rfl (by kernel_rfl) (by kernel_rfl) (by kernel_rfl) (by kernel_rfl) (fun _ _ _ h => h) (Or.inl ⟨by rfl, fun w' hw' => ?hy4b⟩) hS0 ?rest4b
        case hy4b => go_simp; try with_reducible rfl
        try simp only [Act.put, List.setIfInBounds_toArray, List.set_cons_zero, List.set_cons_succ]
        refine takeC (i := 5) (v := ?v5b) 11 rfl rfl (by kernel_rfl) (by kernel_rfl) (by kernel_rfl) (by kernel_rfl) (fun _ _ _ h => h) (Or.inl ⟨by rfl, fun w' hw' => ?hy5b⟩) hS0 ?rest5b
        case hy5b => go_simp; try with_reducible rfl
        try simp only [Act.put, List.setIfInBounds_toArray, List.set_cons_zero, List.set_cons_succ]
        refine takeC (i := 6) (v := ?v6b) 12 rfl rfl (by kernel_rfl) (by kernel_rfl) (by kernel_rfl) (by kernel_rfl) (fun _ _ _ h => h) (Or.inl ⟨by rfl, fun w' hw' => ?hy6b⟩) hS0 ?rest6b
        case hy6b => go_simp; try with_reducible rfl
        try simp only [Act.put, List.setIfInBounds_toArray, List.set_cons_zero, List.set_cons_succ]
        refine takeC (i := 7) (v := ?v7b) 13 rfl rfl (by kernel_rfl) (by kernel_rfl) (by kernel_rfl) (by kernel_rfl) (fun _ _ _ h => h) (Or.inl ⟨by rfl, fun w' hw' => ?hy7b⟩) hS0 ?rest7b
        case hy7b => obtain ⟨p0, p1, p2, p3, p4⟩ := ccells (W := w') (g := g3) (o := o3 + i * 5) (e := ⟨tx, wd, fg, bg, fl⟩) (fun q u hu => HCC.out _ hw' q u hu); simp only at p0 p1 p2 p3 p4; go_simp; try with_reducible rfl
        try simp only [Act.put, List.setIfInBounds_toArray, List.set_cons_zero, List.set_cons_succ]
        refine takeC (i := 8) (v := ?v8b) 14 rfl rfl (by kernel_rfl) (by kernel_rfl) (by kernel_rfl) (by kernel_rfl) (fun _ _ _ h => h) (Or.inl ⟨by rfl, fun w' hw' => ?hy8b⟩) hS0 ?rest8b
        case hy8b => go_simp; try with_reducible rfl
        try simp only [Act.put, List.setIfInBounds_toArray, List.set_cons_zero, List.set_cons_succ]
        refine oneS (k := 9) (by kernel_rfl) rfl (by rfl) (fun K hK => ?_)
        go_simp
        go_at_call 70
        refine (HBLK.out _).mono ?_
        rintro e9 w9 ⟨rfl, hb⟩
        dsimp only
        have hS1 := hS0.trans (hb.mono hS0.size)
        refine hK _ _ hS1 ?_
        clear hK K
        try simp only [Act.put, List.setIfInBounds_toArray, List.set_cons_zero, List.set_cons_succ]
        clear hS0 hb
        have hS0 := hS1
        clear hS1
        refine takeC (i := 10) (v := ?v10b) 16 rfl rfl (by kernel_rfl) (by kernel_rfl) (by kernel_rfl) (by kernel_rfl) (fun _ _ _ h => h) (Or.inl ⟨by rfl, fun w' hw' => ?hy10b⟩) hS0 ?rest10b
        case hy10b => go_simp; try with_reducible rfl
        try simp only [Act.put, List.setIfInBounds_toArray, List.set_cons_zero, List.set_cons_succ]
        refine takeC (i := 11) (v := ?v11b) 17 rfl rfl (by kernel_rfl) (by kernel_rfl) (by kernel_rfl) (by kernel_rfl) (fun _ _ _ h => h) (Or.inl ⟨by rfl, fun w' hw' => ?hy11b⟩) hS0 ?rest11b
        case hy11b => go_simp; try with_reducible rfl
        try simp only [Act.put, List.setIfInBounds_toArray, List.set_cons_zero, List.set_cons_succ]
        refine doneS (by kernel_rfl) ?_ _
        go_wp2_with fail
        go_meet
        exact ⟨rfl, hS0⟩
      case rest =>
        obtain ⟨rfl, hbc⟩ := hcut
        cases B
        · have HV : Hid (e = i + 1) := by unfold Hid; rw [← HTN.out, HNO.out rfl]
          have hV := HV.out
          subst hV
          go_wp2
          go_ret
          exact HFIN.out _ hbc
        · have HV : Hid (trimN l i = e) := by unfold Hid; rw [← HTN.out, HY.out rfl]
          go_wp2
          go_roundw
          case rel => exact ⟨i, by omega, by go_num, HV.out, hbc⟩
          case measure => simp [intOf]
end Go.Proofs.YteebbmmgbjpihaaDoor

namespace Go.Proofs.YteebbmmgbjpihaaDoor
open Go.RowKit

set_option maxRecDepth 100000 in
set_option maxHeartbeats 8000000 in
theorem joined_any (v : Value) (lv : List (Ln × Value)) (W : World) (hr : LR W v lv) (hc : CesOf W lv) (hl : lv.length ≤ 200) (hcl : ∀ e ∈ lv, e.1.cs.length ≤ 100) :
    Calls Tryd.prog 43 #[v] W (RvPost W (joinP (lv.map Prod.fst))) := by
  obtain ⟨A, c0, rfl, _, hA⟩ := hr
  obtain ⟨n, hnl⟩ : ∃ n, lv.length = n := ⟨_, rfl⟩
  obtain ⟨ls, hls⟩ : ∃ ls, lv.map Prod.fst = ls := ⟨_, rfl⟩
  have hlsl : ls.length = n := by rw [← hls, List.length_map, hnl]
  have hlen := @joinS_len ls (fun l h => by rw [← hls] at h; obtain ⟨e, he, rfl⟩ := List.mem_map.1 h; exact hcl e he)
  unfold RvPost joinP
  rw [hlsl] at hlen
  have HN := hid hnl
  have HLS := hid hls
  have HLSL := hid hlsl
  have HLEN := hid hlen
  have hn : n ≤ 200 := by omega
  have hst : JRel W W ls 0 (.slice none 0 0) (.slice none 0 0) := ⟨W, [], [], fun e he => by simp at he, OwnR.nil _ _, rfl, OwnC.nil _ _, rfl, Below.refl _ _, Below.refl _ _⟩
  have HST := hid hst
  clear hst
  rw [hls, hlsl, hnl]
  clear hnl hls hlsl hlen hl
  go_enter Tryd.func43, Tryd.ntmps43
  go_wp2
  go_loopw [3, 4, 9] (fun rv nv i wr => ∃ k : Nat, k ≤ n ∧ i = .int .i64 k ∧ JRel W wr ls k rv nv) (fun _ _ i _ => n - (intOf i).toNat)
  case atStart => exact ⟨0, by omega, rfl, HST.out⟩
  case round =>
    obtain ⟨k, hk, rfl, w0, rows, now, h1, h2, h3, h4, h5, h6, h7⟩ := hrel
    obtain ⟨rA, rc, hrv⟩ := h2.spell
    obtain ⟨rn, hrn⟩ : ∃ rn, rows.length = rn := ⟨_, rfl⟩
    rw [hrn] at hrv
    subst hrv
    obtain ⟨nA, nc, hnv⟩ := h4.spell
    obtain ⟨nn, hnn⟩ : ∃ nn, now.length = nn := ⟨_, rfl⟩
    rw [hnn] at hnv
    subst hnv
    have hrn2 : rn ≤ k := by rw [← hrn, ← List.length_map (f := Prod.fst), h3]; exact (HLEN.out k hk).2
    have hnn2 : nn ≤ k * 100 := by rw [← hnn, h5]; exact (HLEN.out k hk).1
    have hbl : Below W.heap.size W wr := h6.trans (h7.mono h6.size)
    by_cases hlt : k < n
    · have hki : (k : Int) < n := by omega
      have hkb : (k : Int) ≤ 200 := by omega
      have hkl : k < lv.length := by rw [HN.out]; exact hlt
      have hx := List.getElem?_eq_getElem hkl
      have hxl : ls[k]? = some (lv[k]).1 := by rw [← HLS.out, List.getElem?_map, hx]; rfl
      obtain ⟨g, o, rfl, hg, hcell⟩ := hA (by intro e; rw [e] at hkl; simp at hkl)
      obtain ⟨p0, p1⟩ := hcell k _ hx
      have p0 := (hbl.cell (p := ⟨g, o + k * 2, none⟩) hg).trans p0
      have p1 := (hbl.cell (p := ⟨g, o + k * 2 + 1, none⟩) hg).trans p1
      have hce := (hc lv[k] (List.getElem_mem _)).below hbl
      have hcs := hcl lv[k] (List.getElem_mem _)
      generalize lv[k] = x at *
      obtain ⟨⟨cs, soft⟩, cv⟩ := x
      simp only at p0 p1 hce hcs hxl
      obtain ⟨cA, cc, rfl⟩ := hce.spell
      obtain ⟨cl, hcl2⟩ : ∃ cl, cs.length = cl := ⟨_, rfl⟩
      have hgo : soft = true → k + 1 ≠ n → joinS ls (k + 1) = ((joinS ls k).1, now ++ cs) := fun a b => by rw [joinS_go hxl a (by rw [HLSL.out]; exact b), h5]
      have hend : soft = false ∨ k + 1 = n → joinS ls (k + 1) = ((joinS ls k).1 ++ [trimL (now ++ cs)], []) := fun a => by rw [joinS_end hxl (by rw [HLSL.out]; exact a), h5]
      rw [hcl2] at p0 hce hcs
      have hlb := Box.new wr 39 #[.slice cA cl cc, .bool soft]
      obtain ⟨⟨l0, l1⟩, lf0, lf1⟩ := hlb.two
      have hb8 := below_alloc wr (.cells #[.slice cA cl cc, .bool soft] 39)
      have HC8 := hid (hce.below hb8)
      have HO8 := hid (h4.kept hb8)
      have H1 := hid h1
      have H2 := hid h2
      have H3 := hid h3
      have H4 := hid h4
      have H6 := hid h6
      have H7 := hid h7
      have HGO := hid hgo
      have HEND := hid hend
      have HNN := hid hnn
      have HRN := hid hrn
      have HCL2 := hid hcl2
      have hw0 : w0.heap.size ≤ wr.heap.size := h7.size
      have hWw : W.heap.size ≤ w0.heap.size := h6.size
      clear h1 h2 h3 h4 h5 h6 h7 hgo hend hnn hrn hcl2 hce hlb hb8 hcell hA hx hxl
      go_upto_region 7 with (at_builtin; refine wpList_append_ce rfl _ _ rfl w0.heap.size _ _ now cs rfl HO8.out rfl HC8.out (by rw [HNN.out, HCL2.out]; omega) (by simp; omega) ?_; intro v2 w2 g1 g2; obtain ⟨A2, c2, hv2⟩ := g1.spell; rw [List.length_append, HNN.out, HCL2.out] at hv2; subst hv2; have G1 := hid g1; have G2 := hid g2; clear g1 g2; obtain ⟨hB2, hL2⟩ := now_more H4.out H7.out G2.out; obtain ⟨⟨m0, m1⟩, mf0, mf1⟩ := hL2.two)
      clear l0 l1 lf0 lf1 p0 p1
      have HL2 : Hid ((now ++ cs).length = nn + cl) := by unfold Hid; rw [List.length_append, HNN.out, HCL2.out]
      have HB2 := hid hB2
      have hw2 : w0.heap.size ≤ w2.heap.size := hB2.size
      clear hB2 hL2
      generalize hnow : now ++ cs = now2 at *
      have hways : (soft = true ∧ k + 1 ≠ n) ∨ (soft = false ∨ k + 1 = n) := by
        cases soft
        · exact .inr (.inl rfl)
        · by_cases e : k + 1 = n
          · exact .inr (.inr e)
          · exact .inl ⟨rfl, e⟩
      rcases hways with ⟨rfl, hne⟩ | hways
      · have hJ := HGO.out rfl hne
        have hd2 : ((k : Int) == (n : Int) - 1) = false := by rw [beq_eq_false_iff_ne]; omega
        have hd3 : ¬ (k : Int) = (n : Int) - 1 := by omega
        clear HEND
        go_wp2
        go_roundw
        case rel => exact ⟨k + 1, by omega, by go_num, w0, rows, now2, H1.out, H2.out, by rw [hJ, H3.out], by exact G1.out, by rw [hJ], H6.out, HB2.out⟩
        case measure => simp [intOf]; omega
      · have hJ := HEND.out hways
        have HJ := hid hJ
        clear hJ HGO HEND
        have hways2 : soft = false ∨ (soft = true ∧ k + 1 = n) := by
          cases soft
          · exact .inl rfl
          · exact .inr ⟨rfl, hways.elim (fun h => by cases h) id⟩
        clear hways
        go_cut [27] (fun b wx => b = .bool true ∧ w2 = wx)
        case first =>
          rcases hways2 with rfl | ⟨rfl, hkn⟩
          · go_wp2
            go_meet
            exact ⟨rfl, rfl⟩
          · have hd2 : ((k : Int) == (n : Int) - 1) = true := by rw [beq_iff_eq]; omega
            go_wp2
            go_meet
            exact ⟨rfl, rfl⟩
        case rest =>
          obtain ⟨rfl, rfl⟩ := hcut
          clear m0 m1 mf0 mf1
          have hwe := withoutEnd_any w0.heap.size A2 (nn + cl) c2 now2 w2 G1.out.csl HL2.out (by omega)
          unfold EndPost at hwe
          obtain ⟨e, he⟩ : ∃ e, (trimL now2).length = e := ⟨_, rfl⟩
          rw [he] at hwe
          have HWE := hid hwe
          clear hwe he
          go_wp2_with fail
          with_reducible refine HWE.out.mono ?_
          rintro e6 wc ⟨A3, rfl, hc3, hbc⟩
          dsimp only
          have hBA := HB2.out.trans (hbc.mono HB2.out.size)
          have hoA := (H2.out.kept hBA).kept (below_alloc wc (.cells #[.slice A3 e c2] 37))
          have hlit := rv_lit wc ((trimL now2, .slice A3 e c2) : List Ce × Value)
          simp only at hlit
          have hcsl : CesR (wc.alloc (.cells #[.slice A3 e c2] 37)) [((trimL now2, .slice A3 e c2) : List Ce × Value)] := by
            intro y hy
            rw [List.mem_singleton] at hy
            subst hy
            exact hc3.row.below (below_alloc _ _)
          have HCA := hid hc3
          have HBA := hid hBA
          have HOA := hid hoA
          have HLIT := hid hlit
          have HCSL := hid hcsl
          have hszc : W.heap.size ≤ wc.heap.size := Nat.le_trans hWw hBA.size
          clear hc3 hBA hoA hlit hcsl hbc
          go_upto_region 9 with (at_builtin; refine wpList_append_rv rfl _ _ rfl W.heap.size _ _ rows [((trimL now2, .slice A3 e c2) : List Ce × Value)] rfl HOA.out rfl HLIT.out HCSL.out (by rw [HRN.out]; simp; omega) (by simp; omega) ?_; intro v7 w7 g1 g2; obtain ⟨A7, c7, hv7⟩ := g1.spell; rw [List.length_append, HRN.out, List.length_singleton] at hv7; subst hv7; have K1 := hid g1; have K2 := hid g2; clear g1 g2)
          obtain ⟨hq1, hq2⟩ := join_more H1.out H2.out H6.out HBA.out HCA.out K1.out K2.out
          have HQ1 := hid hq1
          have HQ2 := hid hq2
          clear hq1 hq2
          go_wp2
          go_roundw
          case rel =>
            exact ⟨k + 1, by omega, by go_num, w7, _, [], HQ1.out, K1.out, by rw [HJ.out, List.map_append, H3.out]; rfl, OwnC.nil _ _, by rw [HJ.out], HQ2.out, Below.refl _ _⟩
          case measure => simp [intOf]; omega
    · have hkn : k = n := by omega
      subst hkn
      have HFIN : Hid (∃ v rv, Ending.returned (.slice rA rn rc) = .returned v ∧ rv.map Prod.fst = (joinS ls k).1 ∧ OwnR wr W.heap.size v rv ∧ RvC wr W.heap.size rv ∧ Below W.heap.size W wr) := ⟨_, rows, rfl, h3, h2.kept h7, h1.below h7 (Nat.le_refl _), hbl⟩
      clear h1 h2 h3 h4 h5 h6 h7 hbl hlt
      go_wp2
      go_ret
      exact HFIN.out
end Go.Proofs.YteebbmmgbjpihaaDoor
