/- Layer 11, the package: Rects; the reference's Count. -/
import Derived.Test.YtglfolbimafcaaaTreeXQ
namespace Go.Proofs.Ytglfolbimafcaaa
open Go.RowKit

/-- What Rects comes to. -/
def RectsPost (W : World) (t : Tr) (w h : Int) (e : Ending) (w' : World) : Prop :=
  Below W.heap.size W w' ∧ ((rightB t w h = false ∧ e = .returned (.tuple #[.slice none 0 0, .int .i64 1])) ∨ (rightB t w h = true ∧ ∃ v base, e = .returned (.tuple #[v, .int .i64 0]) ∧ W.heap.size ≤ base ∧ OwnQ w' base v (rectsT t w h)))
set_option maxRecDepth 100000 in
set_option maxHeartbeats 2000000 in
theorem rectsP_any (t : Tr) (kA : Option Addr) (km kc : Nat) (kk kp ks w h : Int) (W : World) (hkk : t.kind = kk) (hkp : t.pane = kp) (hks : t.size = ks) (ht : TrAt W t (.slice kA km kc)) (hc : cntT t ≤ 1000) :
    Calls Try.prog 22 #[.agg #[.int .i64 kk, .int .i64 kp, .int .i64 ks, .slice kA km kc], .int .i64 w, .int .i64 h] W (RectsPost W t w h) := by
  have HB := hid (below_alloc W (.cells #[.int .i64 kk, .int .i64 kp, .int .i64 ks, .slice kA km kc] 24))
  have HR := hid (fun W' (hb : Below W.heap.size W W') => right_any t (.slice kA km kc) w h W' (ht.below hb) hc)
  rw [hkk, hkp, hks] at HR
  have HX := hid (fun W' (hb : Below W.heap.size W W') => rects_any t kA km kc kk kp ks w h W' hkk hkp hks (ht.below hb) hc)
  have hbx := Box.new W 24 #[.int .i64 kk, .int .i64 kp, .int .i64 ks, .slice kA km kc]
  clear ht
  cases hr : rightB t w h
  · rw [hr] at HR
    go_enter Try.func22, Try.ntmps22
    go_wp2_with ((with_reducible refine (HR.out _ HB.out).mono ?_); rintro e w2 ⟨rfl, hb2⟩)
    go_ret2
    exact ⟨HB.out.trans (hb2.mono HB.out.size), .inl ⟨hr, rfl⟩⟩
  · rw [hr] at HR
    go_enter Try.func22, Try.ntmps22
    go_wp2_with (first | ((with_reducible refine (HR.out _ HB.out).mono ?_); rintro e w2 ⟨rfl, hb2⟩; have HB2 := hid (HB.out.trans (hb2.mono HB.out.size)); obtain ⟨⟨k0, k1, k2, k3⟩, _⟩ := (hbx.below hb2 hbx.lt).four) | ((with_reducible refine (HX.out _ HB2.out).mono ?_); rintro e w3 ⟨v, rfl, ho, hb3⟩; obtain ⟨vA, vc, rfl⟩ := ho.spell))
    go_ret2
    exact ⟨HB2.out.trans (hb3.mono HB2.out.size), .inr ⟨hr, _, _, rfl, by have := HB2.out.size; omega, ho⟩⟩

mutual
def cntM (most : Int) : Tr → Int
  | .mk _ _ _ l => cntML most 1 l
def cntML (most n : Int) : List Tr → Int
  | [] => n
  | k :: r => if most < n then n else cntML most (n + cntM (most - n) k) r
end
mutual
theorem cntM_bd : ∀ (t : Tr) (m : Int), 0 ≤ m → 1 ≤ cntM m t ∧ cntM m t ≤ m + 1
  | .mk _ _ _ l, m, h => by unfold cntM; exact cntML_bd l m 1 h (by omega) (by omega)
theorem cntML_bd : ∀ (l : List Tr) (m n : Int), 0 ≤ m → 1 ≤ n → n ≤ m + 1 → n ≤ cntML m n l ∧ cntML m n l ≤ m + 1
  | [], m, n, _, _, h => by unfold cntML; omega
  | k :: r, m, n, h0, h1, h => by
    unfold cntML
    split
    · omega
    · obtain ⟨a, b⟩ := cntM_bd k (m - n) (by omega)
      have := cntML_bd r m (n + cntM (m - n) k) h0 (by omega) (by omega)
      omega
end
mutual
theorem cntM_is : ∀ (t : Tr) (m : Int), 0 ≤ m → cntM m t ≤ m → cntM m t = cntT t
  | .mk _ _ _ l, m, h, hm => by unfold cntM at hm ⊢; rw [cntML_is l m 1 h (by omega) hm]; unfold cntT; omega
theorem cntML_is : ∀ (l : List Tr) (m n : Int), 0 ≤ m → 1 ≤ n → cntML m n l ≤ m → cntML m n l = n + cntL l
  | [], m, n, _, _, _ => by unfold cntML cntL; omega
  | k :: r, m, n, h0, h1, hm => by
    unfold cntML at hm ⊢
    split at hm
    · omega
    · rename_i hn
      rw [if_neg hn]
      obtain ⟨a, b⟩ := cntM_bd k (m - n) (by omega)
      have c := cntML_bd r m (n + cntM (m - n) k) h0 (by omega) (by omega)
      have d := cntM_is k (m - n) (by omega) (by omega)
      rw [cntML_is r m (n + cntM (m - n) k) h0 (by omega) hm, d, show cntL (k :: r) = cntT k + cntL r from rfl]
      omega
end
set_option maxRecDepth 100000 in
set_option maxHeartbeats 4000000 in
theorem count_any : ∀ (d : Nat) (t : Tr) (kA : Option Addr) (km kc : Nat) (kk kp ks m : Int) (W : World), cntT t ≤ d → t.kind = kk → t.pane = kp → t.size = ks → TrAt W t (.slice kA km kc) → 0 ≤ m → m ≤ 1000 →
    Calls Try.prog 7 #[.agg #[.int .i64 kk, .int .i64 kp, .int .i64 ks, .slice kA km kc], .int .i64 m] W fun e w' => e = .returned (.int .i64 (cntM m t)) ∧ Below W.heap.size W w'
  | 0, t, _, _, _, _, _, _, _, _, h, _, _, _, _, _, _ => by have := cnt_pos t; omega
  | d + 1, t, kA, km, kc, kk, kp, ks, m, W, hd, hkk, hkp, hks, ht, hm0, hm1 => by
    have IH := count_any d
    have hkids := fun j k (hj : t.kids[j]? = some k) => ht.kid hj
    obtain ⟨A', c', e', _⟩ := ht.spell
    cases e'
    obtain ⟨n, hn⟩ : ∃ n, t.kids.length = n := ⟨_, rfl⟩
    rw [hn] at hkids ⊢
    have HK := hid hkids
    have HM := hid (show cntM m t = cntML m 1 t.kids by cases t; rfl)
    have HD := hid (show cntL t.kids ≤ d by cases t; simp only [Tr.kids, cntT] at *; omega)
    have hbx := Box.new W 24 #[.int .i64 kk, .int .i64 kp, .int .i64 ks, .slice kA n kc]
    have hba := below_alloc W (.cells #[.int .i64 kk, .int .i64 kp, .int .i64 ks, .slice kA n kc] 24)
    have HB := hid hba
    obtain ⟨⟨k0, k1, k2, k3⟩, _⟩ := hbx.four
    have HN := hid hn
    clear hkids ht hba hkk hkp hks hd
    go_enter Try.func7, Try.ntmps7
    go_wp2_with fail
    clear k0 k1 k2 k3 hbx
    go_loopw [5, 11] (fun nv i wr => ∃ (j : Nat) (c : Int), nv = .int .i64 c ∧ i = .int .i64 j ∧ j ≤ n ∧ ((j : Int) + 1 ≤ c ∧ c ≤ m + 1) ∧ cntML m c (t.kids.drop j) = cntM m t ∧ Below W.heap.size W wr) (fun _ i _ => n - (intOf i).toNat)
    case atStart => exact ⟨0, 1, rfl, rfl, Nat.zero_le _, ⟨by simp, by omega⟩, HM.out.symm, HB.out⟩
    case round =>
      obtain ⟨j, c, rfl, rfl, hjn, ⟨hc1, hc2⟩, hcc, hbr⟩ := hrel
      by_cases hj : j < n
      · have hji : (j : Int) < n := by omega
        have hlt : j < t.kids.length := by rw [HN.out]; exact hj
        obtain ⟨kd, hkd⟩ : ∃ kd, t.kids[j]? = some kd := ⟨_, List.getElem?_eq_getElem hlt⟩
        obtain ⟨g, o, c', e, hcap, hnode, _⟩ := HK.out j kd hkd
        cases e
        obtain ⟨kv, c0, c1, c2, c3, hkv⟩ := hnode.below hbr
        obtain ⟨kA', kc', rfl, _⟩ := hkv.spell
        obtain ⟨km', hkm⟩ : ∃ km', kd.kids.length = km' := ⟨_, rfl⟩
        rw [hkm] at c3 hkv
        have hdr : t.kids.drop j = kd :: t.kids.drop (j + 1) := by
          rw [List.getElem?_eq_getElem hlt] at hkd
          cases hkd
          exact List.drop_eq_getElem_cons hlt
        have hcd : cntT kd ≤ d := by
          have h1 := cnt_drop t.kids j
          rw [hdr, cntL] at h1
          have := HD.out
          omega
        rw [hdr] at hcc
        unfold cntML at hcc
        obtain ⟨xk, hxk⟩ : ∃ xk, kd.kind = xk := ⟨_, rfl⟩
        obtain ⟨xp, hxp⟩ : ∃ xp, kd.pane = xp := ⟨_, rfl⟩
        obtain ⟨xs, hxs⟩ : ∃ xs, kd.size = xs := ⟨_, rfl⟩
        rw [hxk] at c0
        rw [hxp] at c1
        rw [hxs] at c2
        have HBR := hid hbr
        have HBA := hid (hbr.alloc hbr.size (.cells #[.int .i64 xk, .int .i64 xp, .int .i64 xs, .slice kA' km' kc'] 24))
        by_cases hmc : m < c
        · rw [if_pos hmc] at hcc
          have HV := hid hcc
          clear hcc hbr hkd hdr hnode hkv hlt
          go_wp2
          go_ret
          exact ⟨ret_int HV.out, HBA.out⟩
        · rw [if_neg hmc] at hcc
          have HV := hid hcc
          have HC := hid (IH kd kA' km' kc' xk xp xs (m - c) (wr.alloc (.cells #[.int .i64 xk, .int .i64 xp, .int .i64 xs, .slice kA' km' kc'] 24)) hcd hxk hxp hxs (hkv.below (below_alloc _ _)) (by omega) (by omega))
          obtain ⟨q1, q2⟩ := cntM_bd kd (m - c) (by omega)
          obtain ⟨cm, hcm⟩ : ∃ cm, cntM (m - c) kd = cm := ⟨_, rfl⟩
          rw [hcm] at HV HC q1 q2
          clear hcc hbr hkd hdr hnode hkv hlt hxk hxp hxs hkm hcm IH
          go_wp2_with ((with_reducible refine HC.out.mono ?_); rintro e w3 ⟨rfl, hb3⟩)
          go_roundw
          case rel => exact ⟨j + 1, c + cm, rfl, by go_num, by omega, ⟨by omega, by omega⟩, HV.out, HBA.out.trans (hb3.mono HBA.out.size)⟩
          case measure => simp [intOf]; omega
      · have hjn' : j = n := by omega
        subst hjn'
        have HV : Hid (c = cntM m t) := by unfold Hid; rw [← hcc, ← HN.out, List.drop_length]; rfl
        have HBR := hid hbr
        clear hcc hbr hj
        go_wp2
        go_ret
        exact ⟨ret_int HV.out, HBR.out⟩
end Go.Proofs.Ytglfolbimafcaaa
