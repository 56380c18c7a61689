/- Layer 6, the reference: cells come and go one by one, then Set. Made by wip/gen/gridRi.py. -/
import Derived.Test.YtkejoknphnkhnaaDoorGridRbQ
import Derived.Test.YtkejoknphnkhnaaDoorGridPdQ
import Derived.Test.YtkejoknphnkhnaaDoorGridInsQ
namespace Go.Proofs.YtkejoknphnkhnaaDoor
open Go.RowKit

theorem CeRow.take {W : World} {g o c n : Nat} {l : List Ce} (h : CeRow W (.slice (some ⟨g, o, none⟩) n c) l) (hn : l.length = n) {k : Nat} (hk : k ≤ n) : CeRow W (.slice (some ⟨g, o, none⟩) k c) (l.take k) := by
  obtain ⟨A', c', e, hc, hx⟩ := h
  rw [hn] at e hc
  cases e
  refine ⟨_, _, by rw [List.length_take, hn, Nat.min_eq_left hk], by rw [List.length_take]; omega, fun hne => ?_⟩
  obtain ⟨g', o', e', hg, hcell⟩ := hx (by intro e; rw [e] at hne; simp at hne)
  cases e'
  refine ⟨g, o, rfl, hg, fun j e he => ?_⟩
  rw [List.getElem?_take] at he
  split at he
  · exact hcell j e he
  · cases he
set_option maxRecDepth 100000 in
set_option maxHeartbeats 4000000 in
theorem rInsert_any (cols num : Int) (r q K : Nat) (a : At) (v : Value) (lv : List (Ln × Value)) (W : World) (cs0 : List Ce) (soft0 : Bool) (lvl0 : Value) (hr : LR W v lv) (hc : CesOf W lv) (hs : Sm lv) (hx0 : lv[r]? = some (⟨cs0, soft0⟩, lvl0)) (hq : q < cs0.length) (hcols : (cs0.length : Int) = cols) (hK : (num ≤ cols ∧ num = K) ∨ (cols < num ∧ cols = K)) :
    Calls Tryd.prog 20 #[.agg #[.int .i64 cols, v], .int .i64 r, .int .i64 q, .int .i64 num, a.agg] W (RPost W cols lv ((lv.map Prod.fst).set r ⟨mendL 1 (iterL (insOne q a) K cs0), soft0⟩)) := by
  have hcl := (hs.2 _ (List.mem_of_getElem? hx0)).1
  simp only at hcl
  have hset := fun (wr : World) (cv : Value) (hcv : CeRow wr cv (iterL (insOne q a) K cs0)) (hb : Below W.heap.size W wr) => rSet_any cols v lv r wr cv _ hcv (by rw [iterIns_length hq]; exact hcl) cs0 soft0 lvl0 (hr.below hb) (hc.below hb) hs hx0
  obtain ⟨A, c0, rfl, hcap, hA⟩ := hr
  have hrl := (List.getElem?_eq_some_iff.1 hx0).1
  obtain ⟨g, o_, rfl, hg, hcell⟩ := hA (by intro e; rw [e] at hrl; simp at hrl)
  obtain ⟨p0, _⟩ := hcell r _ hx0
  have hce := hc _ (List.mem_of_getElem? hx0)
  simp only at p0 hce
  obtain ⟨n, hnl⟩ : ∃ n, lv.length = n := ⟨_, rfl⟩
  obtain ⟨m0, hml⟩ : ∃ m0, cs0.length = m0 := ⟨_, rfl⟩
  have hlen : ∀ k, (iterL (insOne q a) k cs0).length = m0 := fun k => by rw [iterIns_length hq, hml]
  have hblk := rblank_any a
  obtain ⟨x, hxb⟩ : ∃ x, blkC a = x := ⟨_, rfl⟩
  rw [hxb] at hblk
  have hone : ∀ l : List Ce, l.length = m0 → insOne q a l = l.take q ++ [x] ++ (l.drop q).take (m0 - 1 - q) := fun l hl => by unfold insOne; rw [hxb]; rw [hl]
  have hstep : ∀ k, iterL (insOne q a) (k + 1) cs0 = insOne q a (iterL (insOne q a) k cs0) := fun _ => rfl
  obtain ⟨it, hit⟩ : ∃ it : Nat → List Ce, (fun k => iterL (insOne q a) k cs0) = it := ⟨_, rfl⟩
  have hit' : ∀ k, iterL (insOne q a) k cs0 = it k := fun k => by rw [← hit]
  have hnext : ∀ k, it (k + 1) = (it k).take q ++ [x] ++ ((it k).drop q).take (m0 - 1 - q) := fun k => by rw [← hit', hstep, hit', hone _ (by rw [← hit']; exact hlen k)]
  have h0it : it 0 = cs0 := by rw [← hit']; rfl
  simp only [hit'] at hlen hset ⊢
  obtain ⟨fg, bg, fl⟩ := a
  unfold At.agg Ce.agg Ce.cells at hblk
  unfold At.agg
  simp only at hblk ⊢
  rw [hnl] at hcap hrl hset ⊢
  rw [hml] at hcl hq hcols
  have hKn : (K : Int) ≤ num := by omega
  have hKc : (K : Int) ≤ cols := by omega
  have hKe : num ≤ K ∨ cols ≤ K := by omega
  have hKb : K ≤ 1000 := by omega
  clear hK hcols
  have hrli : (r : Int) < n := by omega
  have b0 := (((Bxs.nil W).alloc 24 #[.int .i64 cols, .slice (some ⟨g, o_, none⟩) n c0]).alloc 26 #[.int .i64 fg, .int .i64 bg, .int .i64 fl]).alloc 24 #[.int .i64 0, .slice none 0 0]
  simp only [World.size_alloc, List.nil_append, List.cons_append] at b0
  have h0 : Below W.heap.size W (((W.alloc (.cells #[.int .i64 cols, .slice (some ⟨g, o_, none⟩) n c0] 24)).alloc (.cells #[.int .i64 fg, .int .i64 bg, .int .i64 fl] 26)).alloc (.cells #[.int .i64 0, .slice none 0 0] 24)) := ((below_alloc _ _).alloc (by simp) _).alloc (by simp; omega) _
  have P0 := (h0.cell (p := ⟨g, o_ + r * 2, none⟩) hg).trans p0
  have hce0 := hce.below h0
  rw [← h0it] at hce0
  obtain ⟨lA, lc, rfl, _, _⟩ := hce
  rw [hml] at p0 P0 hce0
  have HCE := hid hce0
  have BX0 := hid b0
  have H0 := hid h0
  have HLEN := hid hlen
  have HSET := hid hset
  have HNX := hid hnext
  have HBLK := hid hblk
  clear b0 h0 hce0 hlen hset hnext hblk hc hs hx0 hnl hml hcell hA hxb hone hstep hit hit' h0it p0
  go_enter Tryd.func20, Tryd.ntmps20
  go_wp2
  go_loopw [11, 12] (fun lvv iv wr => ∃ k : Nat, k ≤ K ∧ iv = .int .i64 k ∧ CeRow wr lvv (it k) ∧ Bxs wr [(W.heap.size, 24, #[.int .i64 cols, .slice (some ⟨g, o_, none⟩) n c0]), (W.heap.size + 1, 26, #[.int .i64 fg, .int .i64 bg, .int .i64 fl]), (W.heap.size + 1 + 1, 24, #[.int .i64 0, .slice none 0 0])] ∧ Below W.heap.size W wr) (fun _ i _ => K - (intOf i).toNat)
  case atStart => exact ⟨0, by omega, rfl, HCE.out, BX0.out, H0.out⟩
  case round =>
    obtain ⟨k, hk, rfl, hrow, hbx, hbr⟩ := hrel
    have hlk := HLEN.out k
    obtain ⟨lB, ld, hlv⟩ := hrow.spell
    rw [hlk] at hlv
    subst hlv
    obtain ⟨⟨k0, k1⟩, f0, f1⟩ := (hbx.get 0 rfl).two
    obtain ⟨⟨c0_, c1_, c2_⟩, e0, e1, e2⟩ := (hbx.get 1 rfl).three
    have hsz : W.heap.size + 1 + 1 < wr.heap.size := (hbx.get 2 rfl).lt
    by_cases hlt : k < K
    · have hk1 : (k : Int) < num := by omega
      have hk2 : (k : Int) < cols := by omega
      have hkb : (k : Int) ≤ 1000 := by omega
      have hrow2 := hrow
      obtain ⟨_, _, hle, hlc, hlx⟩ := hrow2
      rw [hlk] at hle hlc
      cases hle
      obtain ⟨lg, lo, rfl, hlg, _⟩ := hlx (by intro e; rw [e] at hlk; simp at hlk; omega)
      clear hlx
      have w2b := below_alloc wr (.cells #[] 66)
      have hnow : OwnC (wr.alloc (.cells #[] 66)) wr.heap.size (.slice (some ⟨wr.heap.size, 0, none⟩) 0 0) [] := by
        have h := OwnC.lit (W := wr) (base := wr.heap.size) [] (by simp) (Nat.le_refl _)
        simpa [cflat] using h
      have hql : (q : Int) < m0 := by omega
      have hqc : (q : Int) < ld := by omega
      have hcq : ¬ ld = q := by omega
      have hm0 : m0 ≤ 1000 := hcl
      have HROW := hid hrow
      have HNOW := hid hnow
      have HBX := hid hbx
      have HBR := hid hbr
      have W2 := hid w2b
      have HLK := hid hlk
      have hs2 : (wr.alloc (.cells #[] 66)).heap.size = wr.heap.size + 1 := by simp
      have HS2 := hid hs2
      clear hrow hnow hbx hbr w2b hlk hs2
      go_upto_region 6 with fail
      generalize (wr.alloc (.cells #[] 66)) = w2 at *
      have hr1 : CeRow w2 (.slice (some ⟨lg, lo, none⟩) q ld) ((it k).take q) := (HROW.out.below W2.out).take HLK.out (by omega)
      have hlt1 : ((it k).take q).length = q := by rw [List.length_take, HLK.out]; omega
      have HR1 := hid hr1
      have HT1 := hid hlt1
      clear hr1 hlt1 k0 k1 f0 f1 c0_ c1_ c2_ e0 e1 e2
      go_upto_region 7 with (at_builtin; refine wpList_append_ce rfl _ _ rfl wr.heap.size _ _ [] ((it k).take q) rfl HNOW.out rfl HR1.out (by rw [HT1.out]; simp; omega) (by rw [HS2.out]; omega) ?_; intro v3 w3 h1 h2; rw [List.nil_append] at h1)
      have hb3 : Below wr.heap.size w2 w3 := HNOW.out.below h2 (Nat.le_refl _) (by rw [HS2.out]; omega)
      obtain ⟨A3, c3, hv3⟩ := h1.spell
      rw [HT1.out] at hv3
      subst hv3
      have hwb3 : Below wr.heap.size wr w3 := W2.out.trans hb3
      have H1 := hid h1
      have HB3 := hid hwb3
      clear h1 h2 hb3 hwb3 HR1 HNOW
      obtain ⟨⟨c0_, c1_, c2_⟩, e0, e1, e2⟩ := ((HBX.out.below HB3.out).get 1 rfl).three
      go_wp2_with fail
      ((with_reducible refine (HBLK.out _).mono ?_); rintro e w4 ⟨rfl, hb⟩)
      dsimp only
      have hlit := ce_lit w4 x
      unfold Ce.cells at hlit
      have hown : OwnC (w4.alloc (.cells #[.string x.tx, .int .i64 x.wd, .int .i64 x.fg, .int .i64 x.bg, .int .i64 x.fl] 66)) wr.heap.size (.slice A3 q c3) ((it k).take q) := (H1.out.kept hb).kept (below_alloc _ _)
      have hwb := HB3.out.trans ((hb.trans ((below_alloc w4 (.cells #[.string x.tx, .int .i64 x.wd, .int .i64 x.fg, .int .i64 x.bg, .int .i64 x.fl] 66)).mono hb.size)).mono HB3.out.size)
      have HLIT := hid hlit
      have HOWN := hid hown
      have HWB := hid hwb
      clear hlit hown hwb hb c0_ c1_ c2_ e0 e1 e2
      go_upto_region 8 with (at_builtin; refine wpList_append_ce rfl _ _ rfl wr.heap.size _ _ (((it k).take q)) [x] rfl HOWN.out rfl HLIT.out (by rw [HT1.out]; simp; omega) HWB.out.size ?_; intro v9 w9 h1 h2)
      have hb5 := HWB.out.trans ((HOWN.out.below h2 (Nat.le_refl _) HWB.out.size))
      obtain ⟨A5, c5, hv5⟩ := h1.spell
      rw [List.length_append, HT1.out, List.length_singleton] at hv5
      subst hv5
      have hr2 : CeRow w9 (.slice (some ⟨lg, lo + q * 5, none⟩) (m0 - 1 - q) (ld - q)) (((it k).drop q).take (m0 - 1 - q)) := ((HROW.out.below hb5).drop HLK.out (by omega)).take (by rw [List.length_drop, HLK.out]) (by omega)
      have hl2 : (((it k).drop q).take (m0 - 1 - q)).length = m0 - 1 - q := by rw [List.length_take, List.length_drop, HLK.out]; omega
      have H5 := hid h1
      have HB5 := hid hb5
      have HR2 := hid hr2
      have HL2 := hid hl2
      have hi1 : (q : Int) ≤ (m0 : Int) - 1 := by omega
      have hi2 : (m0 : Int) - 1 ≤ ld := by omega
      have hi3 : ((m0 : Int) - 1).toNat = m0 - 1 := by omega
      have hi4 : (0 : Int) ≤ (m0 : Int) - 1 := by omega
      clear h1 h2 hb5 hr2 hl2
      go_upto_region 9 with (at_builtin; refine wpList_append_ce rfl _ _ rfl wr.heap.size _ _ ((it k).take q ++ [x]) (((it k).drop q).take (m0 - 1 - q)) rfl H5.out rfl HR2.out (by rw [HL2.out, List.length_append, HT1.out, List.length_singleton]; omega) HB5.out.size ?_; intro v7 w7 h1 h2)
      have hb7 := HB5.out.trans (H5.out.below h2 (Nat.le_refl _) HB5.out.size)
      have hfin : CeRow w7 v7 (it (k + 1)) := by rw [HNX.out]; exact h1.csl.row
      have HF := hid hfin
      have HB7 := hid hb7
      obtain ⟨A7, c7, hv7⟩ := h1.spell
      subst hv7
      clear h1 h2 hfin hb7
      go_wp2
      go_roundw
      case rel => exact ⟨k + 1, by omega, by go_num, HF.out, HBX.out.below HB7.out, HBR.out.trans (HB7.out.mono HBR.out.size)⟩
      case measure => simp [intOf]; omega
    · have hkK : k = K := by omega
      subst hkK
      have hset := HSET.out wr _ hrow hbr
      have HS := hid hset
      have HBX := hid hbx
      have HBR := hid hbr
      have hko : ¬ ((k : Int) < num) ∨ ((k : Int) < num ∧ ¬ ((k : Int) < cols)) := by omega
      clear hset hbx hbr hrow hlk hlt hk
      rcases hko with hk1 | ⟨hk1, hk2⟩
      all_goals
        go_wp2_with fail
        with_reducible refine HS.out.mono ?_
        rintro e w5 ⟨v5, lv5, rfl, hm5, hl5, hn5, hb5⟩
        dsimp only
        have hbx5 := HBX.out.below hb5
        obtain ⟨⟨z0, z1⟩, y0, y1⟩ := (hbx5.get 2 rfl).two
        have hz2 : Box w5 (W.heap.size + 1 + 1) 24 #[.int .i64 0, .slice none 0 0] := hbx5.get 2 rfl
        obtain ⟨A5, c5, hs5⟩ := hl5.spell
        subst hs5
        have HM5 := hid hm5
        have HL5 := hid hl5
        have HN5 := hid hn5
        have HZ2 := hid hz2
        have HB5 := hid (HBR.out.trans (hb5.mono HBR.out.size))
        clear hm5 hl5 hn5 hbx5 hz2 hb5 k0 k1 f0 f1
        go_wp2
        refine bodyPost_ret (v := .agg #[.int .i64 cols, .slice A5 lv5.length c5]) (by simp [results, Tryd.results20, go_sem, z0, z1]) rfl ?_
        exact rpost_end HM5.out HL5.out HN5.out HBR.out.size HB5.out HZ2.out (by show W.heap.size ≤ W.heap.size + 1 + 1; omega) rfl
set_option maxRecDepth 100000 in
set_option maxHeartbeats 4000000 in
theorem rDelete_any (cols num : Int) (r q K : Nat) (a : At) (v : Value) (lv : List (Ln × Value)) (W : World) (cs0 : List Ce) (soft0 : Bool) (lvl0 : Value) (hr : LR W v lv) (hc : CesOf W lv) (hs : Sm lv) (hx0 : lv[r]? = some (⟨cs0, soft0⟩, lvl0)) (hq : q < cs0.length) (hcols : (cs0.length : Int) = cols) (hK : (num ≤ cols ∧ num = K) ∨ (cols < num ∧ cols = K)) :
    Calls Tryd.prog 21 #[.agg #[.int .i64 cols, v], .int .i64 r, .int .i64 q, .int .i64 num, a.agg] W (RPost W cols lv ((lv.map Prod.fst).set r ⟨mendL 1 (iterL (delOne q a) K cs0), soft0⟩)) := by
  have hcl := (hs.2 _ (List.mem_of_getElem? hx0)).1
  simp only at hcl
  have hset := fun (wr : World) (cv : Value) (hcv : CeRow wr cv (iterL (delOne q a) K cs0)) (hb : Below W.heap.size W wr) => rSet_any cols v lv r wr cv _ hcv (by rw [iterDel_length hq]; exact hcl) cs0 soft0 lvl0 (hr.below hb) (hc.below hb) hs hx0
  obtain ⟨A, c0, rfl, hcap, hA⟩ := hr
  have hrl := (List.getElem?_eq_some_iff.1 hx0).1
  obtain ⟨g, o_, rfl, hg, hcell⟩ := hA (by intro e; rw [e] at hrl; simp at hrl)
  obtain ⟨p0, _⟩ := hcell r _ hx0
  have hce := hc _ (List.mem_of_getElem? hx0)
  simp only at p0 hce
  obtain ⟨n, hnl⟩ : ∃ n, lv.length = n := ⟨_, rfl⟩
  obtain ⟨m0, hml⟩ : ∃ m0, cs0.length = m0 := ⟨_, rfl⟩
  have hlen : ∀ k, (iterL (delOne q a) k cs0).length = m0 := fun k => by rw [iterDel_length hq, hml]
  have hblk := rblank_any a
  obtain ⟨x, hxb⟩ : ∃ x, blkC a = x := ⟨_, rfl⟩
  rw [hxb] at hblk
  have hone : ∀ l : List Ce, l.length = m0 → delOne q a l = l.take q ++ l.drop (q + 1) ++ [x] := fun l hl => by unfold delOne; rw [hxb]
  have hstep : ∀ k, iterL (delOne q a) (k + 1) cs0 = delOne q a (iterL (delOne q a) k cs0) := fun _ => rfl
  obtain ⟨it, hit⟩ : ∃ it : Nat → List Ce, (fun k => iterL (delOne q a) k cs0) = it := ⟨_, rfl⟩
  have hit' : ∀ k, iterL (delOne q a) k cs0 = it k := fun k => by rw [← hit]
  have hnext : ∀ k, it (k + 1) = (it k).take q ++ (it k).drop (q + 1) ++ [x] := fun k => by rw [← hit', hstep, hit', hone _ (by rw [← hit']; exact hlen k)]
  have h0it : it 0 = cs0 := by rw [← hit']; rfl
  simp only [hit'] at hlen hset ⊢
  obtain ⟨fg, bg, fl⟩ := a
  unfold At.agg Ce.agg Ce.cells at hblk
  unfold At.agg
  simp only at hblk ⊢
  rw [hnl] at hcap hrl hset ⊢
  rw [hml] at hcl hq hcols
  have hKn : (K : Int) ≤ num := by omega
  have hKc : (K : Int) ≤ cols := by omega
  have hKe : num ≤ K ∨ cols ≤ K := by omega
  have hKb : K ≤ 1000 := by omega
  clear hK hcols
  have hrli : (r : Int) < n := by omega
  have b0 := (((Bxs.nil W).alloc 24 #[.int .i64 cols, .slice (some ⟨g, o_, none⟩) n c0]).alloc 26 #[.int .i64 fg, .int .i64 bg, .int .i64 fl]).alloc 24 #[.int .i64 0, .slice none 0 0]
  simp only [World.size_alloc, List.nil_append, List.cons_append] at b0
  have h0 : Below W.heap.size W (((W.alloc (.cells #[.int .i64 cols, .slice (some ⟨g, o_, none⟩) n c0] 24)).alloc (.cells #[.int .i64 fg, .int .i64 bg, .int .i64 fl] 26)).alloc (.cells #[.int .i64 0, .slice none 0 0] 24)) := ((below_alloc _ _).alloc (by simp) _).alloc (by simp; omega) _
  have P0 := (h0.cell (p := ⟨g, o_ + r * 2, none⟩) hg).trans p0
  have hce0 := hce.below h0
  rw [← h0it] at hce0
  obtain ⟨lA, lc, rfl, _, _⟩ := hce
  rw [hml] at p0 P0 hce0
  have HCE := hid hce0
  have BX0 := hid b0
  have H0 := hid h0
  have HLEN := hid hlen
  have HSET := hid hset
  have HNX := hid hnext
  have HBLK := hid hblk
  clear b0 h0 hce0 hlen hset hnext hblk hc hs hx0 hnl hml hcell hA hxb hone hstep hit hit' h0it p0
  go_enter Tryd.func21, Tryd.ntmps21
  go_wp2
  go_loopw [11, 12] (fun lvv iv wr => ∃ k : Nat, k ≤ K ∧ iv = .int .i64 k ∧ CeRow wr lvv (it k) ∧ Bxs wr [(W.heap.size, 24, #[.int .i64 cols, .slice (some ⟨g, o_, none⟩) n c0]), (W.heap.size + 1, 26, #[.int .i64 fg, .int .i64 bg, .int .i64 fl]), (W.heap.size + 1 + 1, 24, #[.int .i64 0, .slice none 0 0])] ∧ Below W.heap.size W wr) (fun _ i _ => K - (intOf i).toNat)
  case atStart => exact ⟨0, by omega, rfl, HCE.out, BX0.out, H0.out⟩
  case round =>
    obtain ⟨k, hk, rfl, hrow, hbx, hbr⟩ := hrel
    have hlk := HLEN.out k
    obtain ⟨lB, ld, hlv⟩ := hrow.spell
    rw [hlk] at hlv
    subst hlv
    obtain ⟨⟨k0, k1⟩, f0, f1⟩ := (hbx.get 0 rfl).two
    obtain ⟨⟨c0_, c1_, c2_⟩, e0, e1, e2⟩ := (hbx.get 1 rfl).three
    have hsz : W.heap.size + 1 + 1 < wr.heap.size := (hbx.get 2 rfl).lt
    by_cases hlt : k < K
    · have hk1 : (k : Int) < num := by omega
      have hk2 : (k : Int) < cols := by omega
      have hkb : (k : Int) ≤ 1000 := by omega
      have hrow2 := hrow
      obtain ⟨_, _, hle, hlc, hlx⟩ := hrow2
      rw [hlk] at hle hlc
      cases hle
      obtain ⟨lg, lo, rfl, hlg, _⟩ := hlx (by intro e; rw [e] at hlk; simp at hlk; omega)
      clear hlx
      have w2b := below_alloc wr (.cells #[] 66)
      have hnow : OwnC (wr.alloc (.cells #[] 66)) wr.heap.size (.slice (some ⟨wr.heap.size, 0, none⟩) 0 0) [] := by
        have h := OwnC.lit (W := wr) (base := wr.heap.size) [] (by simp) (Nat.le_refl _)
        simpa [cflat] using h
      have hql : (q : Int) < m0 := by omega
      have hqc : (q : Int) < ld := by omega
      have hcq : ¬ ld = q := by omega
      have hm0 : m0 ≤ 1000 := hcl
      have HROW := hid hrow
      have HNOW := hid hnow
      have HBX := hid hbx
      have HBR := hid hbr
      have W2 := hid w2b
      have HLK := hid hlk
      have hs2 : (wr.alloc (.cells #[] 66)).heap.size = wr.heap.size + 1 := by simp
      have HS2 := hid hs2
      clear hrow hnow hbx hbr w2b hlk hs2
      go_upto_region 6 with fail
      generalize (wr.alloc (.cells #[] 66)) = w2 at *
      have hr1 : CeRow w2 (.slice (some ⟨lg, lo, none⟩) q ld) ((it k).take q) := (HROW.out.below W2.out).take HLK.out (by omega)
      have hlt1 : ((it k).take q).length = q := by rw [List.length_take, HLK.out]; omega
      have HR1 := hid hr1
      have HT1 := hid hlt1
      clear hr1 hlt1 k0 k1 f0 f1 c0_ c1_ c2_ e0 e1 e2
      go_upto_region 7 with (at_builtin; refine wpList_append_ce rfl _ _ rfl wr.heap.size _ _ [] ((it k).take q) rfl HNOW.out rfl HR1.out (by rw [HT1.out]; simp; omega) (by rw [HS2.out]; omega) ?_; intro v3 w3 h1 h2; rw [List.nil_append] at h1)
      have hb3 : Below wr.heap.size w2 w3 := HNOW.out.below h2 (Nat.le_refl _) (by rw [HS2.out]; omega)
      obtain ⟨A3, c3, hv3⟩ := h1.spell
      rw [HT1.out] at hv3
      subst hv3
      have hwb3 : Below wr.heap.size wr w3 := W2.out.trans hb3
      have H1 := hid h1
      have HB3 := hid hwb3
      clear h1 h2 hb3 hwb3 HR1 HNOW
      have hw3 : q + 1 < m0 ∨ (q + 1 = m0 ∧ ld = q + 1) ∨ (q + 1 = m0 ∧ ¬ ld = q + 1) := by omega
      rcases hw3 with hw | hw | hw
      · have hlt2 : q + 1 < m0 := hw
        have hcq2 : ¬ ld = q + 1 := by omega
        have HW1 : Hid (q + 1 ≤ m0) := Nat.le_of_lt hw
        have hr2 : CeRow w3 (.slice (some ⟨lg, lo + (q + 1) * 5, none⟩) (m0 - (q + 1)) (ld - (q + 1))) ((it k).drop (q + 1)) := (HROW.out.below HB3.out).drop HLK.out (by omega)
        have hl2 : ((it k).drop (q + 1)).length = m0 - (q + 1) := by rw [List.length_drop, HLK.out]
        have HR2 := hid hr2
        have HL2 := hid hl2
        have hi1 : (q : Int) + 1 ≤ (m0 : Int) := by have := HW1.out; omega
        have hi2 : ((q : Int) + 1).toNat = q + 1 := by omega
        have hi3 : (m0 : Int) ≤ ld := by have := HW1.out; omega
        have hi4 : (0 : Int) ≤ (q : Int) + 1 := by omega
        clear hr2 hl2
        go_upto_region 8 with (at_builtin; refine wpList_append_ce rfl _ _ rfl wr.heap.size _ _ ((it k).take q) ((it k).drop (q + 1)) rfl H1.out rfl HR2.out (by rw [HL2.out, HT1.out]; omega) HB3.out.size ?_; intro v4 w4 h1 h2)
        have hb4 := HB3.out.trans (H1.out.below h2 (Nat.le_refl _) HB3.out.size)
        obtain ⟨A4, c4, hv4⟩ := h1.spell
        rw [List.length_append, HT1.out, HL2.out] at hv4
        subst hv4
        have H4 := hid h1
        have HB4 := hid hb4
        have HT4 : Hid (((it k).take q ++ (it k).drop (q + 1)).length = q + (m0 - (q + 1))) := by unfold Hid; rw [List.length_append, HT1.out, HL2.out]
        clear h1 h2 hb4
        obtain ⟨⟨c0_, c1_, c2_⟩, e0, e1, e2⟩ := ((HBX.out.below HB4.out).get 1 rfl).three
        go_wp2_with fail
        ((with_reducible refine (HBLK.out _).mono ?_); rintro e w5 ⟨rfl, hb⟩)
        dsimp only
        have hlit := ce_lit w5 x
        unfold Ce.cells at hlit
        have hown : OwnC (w5.alloc (.cells #[.string x.tx, .int .i64 x.wd, .int .i64 x.fg, .int .i64 x.bg, .int .i64 x.fl] 66)) wr.heap.size (.slice A4 (q + (m0 - (q + 1))) c4) ((it k).take q ++ (it k).drop (q + 1)) := (H4.out.kept hb).kept (below_alloc _ _)
        have hwb := HB4.out.trans ((hb.trans ((below_alloc w5 (.cells #[.string x.tx, .int .i64 x.wd, .int .i64 x.fg, .int .i64 x.bg, .int .i64 x.fl] 66)).mono hb.size)).mono HB4.out.size)
        have HLIT := hid hlit
        have HOWN := hid hown
        have HWB := hid hwb
        clear hlit hown hwb hb c0_ c1_ c2_ e0 e1 e2
        go_upto_region 9 with (at_builtin; refine wpList_append_ce rfl _ _ rfl wr.heap.size _ _ (((it k).take q ++ (it k).drop (q + 1))) [x] rfl HOWN.out rfl HLIT.out (by rw [HT4.out]; simp; omega) HWB.out.size ?_; intro v7 w7 h1 h2)
        have hb7 := HWB.out.trans (HOWN.out.below h2 (Nat.le_refl _) HWB.out.size)
        have hfin : CeRow w7 v7 (it (k + 1)) := by rw [HNX.out]; exact h1.csl.row
        have HF := hid hfin
        have HB7 := hid hb7
        obtain ⟨A7, c7, hv7⟩ := h1.spell
        subst hv7
        clear h1 h2 hfin hb7
        go_wp2
        go_roundw
        case rel => exact ⟨k + 1, by omega, by go_num, HF.out, HBX.out.below HB7.out, HBR.out.trans (HB7.out.mono HBR.out.size)⟩
        case measure => simp [intOf]; omega
      · obtain ⟨hw1, rfl⟩ := hw
        have HW1 := hid hw1
        clear hw1
        have hr2 : ∀ ad cc, CeRow w3 (.slice (some ad) 0 cc) ((it k).drop (q + 1)) := fun ad cc => by rw [List.drop_of_length_le (by rw [HLK.out]; have := HW1.out; omega)]; exact CeRow.nil _ _ _
        have hl2 : ((it k).drop (q + 1)).length = m0 - (q + 1) := by rw [List.length_drop, HLK.out]
        have HR2 := hid hr2
        have HL2 := hid hl2
        have hi1 : (q : Int) + 1 ≤ (m0 : Int) := by have := HW1.out; omega
        have hi2 : ((q : Int) + 1).toNat = q + 1 := by omega
        have hi3 : (m0 : Int) ≤ ((q + 1 : Nat) : Int) := by have := HW1.out; omega
        have hi4 : (0 : Int) ≤ (q : Int) + 1 := by omega
        clear hr2 hl2
        go_upto_region 8 with (at_builtin; refine wpList_append_ce rfl _ _ rfl wr.heap.size _ _ ((it k).take q) ((it k).drop (q + 1)) rfl H1.out rfl (HR2.out _ _) (by rw [HL2.out, HT1.out]; omega) HB3.out.size ?_; intro v4 w4 h1 h2)
        have hb4 := HB3.out.trans (H1.out.below h2 (Nat.le_refl _) HB3.out.size)
        obtain ⟨A4, c4, hv4⟩ := h1.spell
        rw [List.length_append, HT1.out, HL2.out, show q + (m0 - (q + 1)) = q by have := HW1.out; omega] at hv4
        subst hv4
        have H4 := hid h1
        have HB4 := hid hb4
        have HT4 : Hid (((it k).take q ++ (it k).drop (q + 1)).length = q) := by unfold Hid; rw [List.length_append, HT1.out, HL2.out]; have := HW1.out; omega
        clear h1 h2 hb4
        obtain ⟨⟨c0_, c1_, c2_⟩, e0, e1, e2⟩ := ((HBX.out.below HB4.out).get 1 rfl).three
        go_wp2_with fail
        ((with_reducible refine (HBLK.out _).mono ?_); rintro e w5 ⟨rfl, hb⟩)
        dsimp only
        have hlit := ce_lit w5 x
        unfold Ce.cells at hlit
        have hown : OwnC (w5.alloc (.cells #[.string x.tx, .int .i64 x.wd, .int .i64 x.fg, .int .i64 x.bg, .int .i64 x.fl] 66)) wr.heap.size (.slice A4 q c4) ((it k).take q ++ (it k).drop (q + 1)) := (H4.out.kept hb).kept (below_alloc _ _)
        have hwb := HB4.out.trans ((hb.trans ((below_alloc w5 (.cells #[.string x.tx, .int .i64 x.wd, .int .i64 x.fg, .int .i64 x.bg, .int .i64 x.fl] 66)).mono hb.size)).mono HB4.out.size)
        have HLIT := hid hlit
        have HOWN := hid hown
        have HWB := hid hwb
        clear hlit hown hwb hb c0_ c1_ c2_ e0 e1 e2
        go_upto_region 9 with (at_builtin; refine wpList_append_ce rfl _ _ rfl wr.heap.size _ _ (((it k).take q ++ (it k).drop (q + 1))) [x] rfl HOWN.out rfl HLIT.out (by rw [HT4.out]; simp; omega) HWB.out.size ?_; intro v7 w7 h1 h2)
        have hb7 := HWB.out.trans (HOWN.out.below h2 (Nat.le_refl _) HWB.out.size)
        have hfin : CeRow w7 v7 (it (k + 1)) := by rw [HNX.out]; exact h1.csl.row
        have HF := hid hfin
        have HB7 := hid hb7
        obtain ⟨A7, c7, hv7⟩ := h1.spell
        subst hv7
        clear h1 h2 hfin hb7
        go_wp2
        go_roundw
        case rel => exact ⟨k + 1, by omega, by go_num, HF.out, HBX.out.below HB7.out, HBR.out.trans (HB7.out.mono HBR.out.size)⟩
        case measure => simp [intOf]; omega
      · obtain ⟨hw1, hw2⟩ := hw
        have HW1 := hid hw1
        clear hw1
        have hr2 : CeRow w3 (.slice (some ⟨lg, lo + (q + 1) * 5, none⟩) (m0 - (q + 1)) (ld - (q + 1))) ((it k).drop (q + 1)) := by rw [show m0 - (q + 1) = 0 by have := HW1.out; omega, List.drop_of_length_le (by rw [HLK.out]; have := HW1.out; omega)]; exact CeRow.nil _ _ _
        have hl2 : ((it k).drop (q + 1)).length = m0 - (q + 1) := by rw [List.length_drop, HLK.out]
        have HR2 := hid hr2
        have HL2 := hid hl2
        have hi1 : (q : Int) + 1 ≤ (m0 : Int) := by have := HW1.out; omega
        have hi2 : ((q : Int) + 1).toNat = q + 1 := by omega
        have hi3 : (m0 : Int) ≤ ld := by have := HW1.out; omega
        have hi4 : (0 : Int) ≤ (q : Int) + 1 := by omega
        clear hr2 hl2
        go_upto_region 8 with (at_builtin; refine wpList_append_ce rfl _ _ rfl wr.heap.size _ _ ((it k).take q) ((it k).drop (q + 1)) rfl H1.out rfl HR2.out (by rw [HL2.out, HT1.out]; omega) HB3.out.size ?_; intro v4 w4 h1 h2)
        have hb4 := HB3.out.trans (H1.out.below h2 (Nat.le_refl _) HB3.out.size)
        obtain ⟨A4, c4, hv4⟩ := h1.spell
        rw [List.length_append, HT1.out, HL2.out] at hv4
        subst hv4
        have H4 := hid h1
        have HB4 := hid hb4
        have HT4 : Hid (((it k).take q ++ (it k).drop (q + 1)).length = q + (m0 - (q + 1))) := by unfold Hid; rw [List.length_append, HT1.out, HL2.out]
        clear h1 h2 hb4
        obtain ⟨⟨c0_, c1_, c2_⟩, e0, e1, e2⟩ := ((HBX.out.below HB4.out).get 1 rfl).three
        go_wp2_with fail
        ((with_reducible refine (HBLK.out _).mono ?_); rintro e w5 ⟨rfl, hb⟩)
        dsimp only
        have hlit := ce_lit w5 x
        unfold Ce.cells at hlit
        have hown : OwnC (w5.alloc (.cells #[.string x.tx, .int .i64 x.wd, .int .i64 x.fg, .int .i64 x.bg, .int .i64 x.fl] 66)) wr.heap.size (.slice A4 (q + (m0 - (q + 1))) c4) ((it k).take q ++ (it k).drop (q + 1)) := (H4.out.kept hb).kept (below_alloc _ _)
        have hwb := HB4.out.trans ((hb.trans ((below_alloc w5 (.cells #[.string x.tx, .int .i64 x.wd, .int .i64 x.fg, .int .i64 x.bg, .int .i64 x.fl] 66)).mono hb.size)).mono HB4.out.size)
        have HLIT := hid hlit
        have HOWN := hid hown
        have HWB := hid hwb
        clear hlit hown hwb hb c0_ c1_ c2_ e0 e1 e2
        go_upto_region 9 with (at_builtin; refine wpList_append_ce rfl _ _ rfl wr.heap.size _ _ (((it k).take q ++ (it k).drop (q + 1))) [x] rfl HOWN.out rfl HLIT.out (by rw [HT4.out]; simp; omega) HWB.out.size ?_; intro v7 w7 h1 h2)
        have hb7 := HWB.out.trans (HOWN.out.below h2 (Nat.le_refl _) HWB.out.size)
        have hfin : CeRow w7 v7 (it (k + 1)) := by rw [HNX.out]; exact h1.csl.row
        have HF := hid hfin
        have HB7 := hid hb7
        obtain ⟨A7, c7, hv7⟩ := h1.spell
        subst hv7
        clear h1 h2 hfin hb7
        go_wp2
        go_roundw
        case rel => exact ⟨k + 1, by omega, by go_num, HF.out, HBX.out.below HB7.out, HBR.out.trans (HB7.out.mono HBR.out.size)⟩
        case measure => simp [intOf]; omega
    · have hkK : k = K := by omega
      subst hkK
      have hset := HSET.out wr _ hrow hbr
      have HS := hid hset
      have HBX := hid hbx
      have HBR := hid hbr
      have hko : ¬ ((k : Int) < num) ∨ ((k : Int) < num ∧ ¬ ((k : Int) < cols)) := by omega
      clear hset hbx hbr hrow hlk hlt hk
      rcases hko with hk1 | ⟨hk1, hk2⟩
      all_goals
        go_wp2_with fail
        with_reducible refine HS.out.mono ?_
        rintro e w5 ⟨v5, lv5, rfl, hm5, hl5, hn5, hb5⟩
        dsimp only
        have hbx5 := HBX.out.below hb5
        obtain ⟨⟨z0, z1⟩, y0, y1⟩ := (hbx5.get 2 rfl).two
        have hz2 : Box w5 (W.heap.size + 1 + 1) 24 #[.int .i64 0, .slice none 0 0] := hbx5.get 2 rfl
        obtain ⟨A5, c5, hs5⟩ := hl5.spell
        subst hs5
        have HM5 := hid hm5
        have HL5 := hid hl5
        have HN5 := hid hn5
        have HZ2 := hid hz2
        have HB5 := hid (HBR.out.trans (hb5.mono HBR.out.size))
        clear hm5 hl5 hn5 hbx5 hz2 hb5 k0 k1 f0 f1
        go_wp2
        refine bodyPost_ret (v := .agg #[.int .i64 cols, .slice A5 lv5.length c5]) (by simp [results, Tryd.results21, go_sem, z0, z1]) rfl ?_
        exact rpost_end HM5.out HL5.out HN5.out HBR.out.size HB5.out HZ2.out (by show W.heap.size ≤ W.heap.size + 1 + 1; omega) rfl
theorem shift_more {cols row col num : Int} {a : At} {lv : List (Ln × Value)} (h : shiftOk cols lv row col num a = true) :
    ∃ (r q K : Nat) (cs : List Ce) (soft : Bool) (u : Value), row = r ∧ col = q ∧ lv[r]? = some (⟨cs, soft⟩, u) ∧ rowL (lv.map Prod.fst) row = ⟨cs, soft⟩ ∧ q < cs.length ∧ (cs.length : Int) = cols ∧ ((num ≤ cols ∧ num = K) ∨ (cols < num ∧ cols = K)) ∧ min K (cs.length - q) = min num.toNat (cs.length - q) := by
  unfold shiftOk at h
  simp only [Bool.and_eq_true, decide_eq_true_iff] at h
  obtain ⟨h0, h1, h2, h3, h4⟩ := h
  obtain ⟨r, cs, soft, u, hr, hx, hrow⟩ := row_there h1
  have hf := fits_iff.1 (mayB_at h0 hx)
  simp only at hf
  have hcl : 0 ≤ col ∧ col < cols := of_decide_eq_true h2
  by_cases hn : num ≤ cols
  · exact ⟨r, col.toNat, num.toNat, cs, soft, u, hr, by omega, hx, hrow, by omega, hf.1, .inl ⟨hn, by omega⟩, rfl⟩
  · exact ⟨r, col.toNat, cols.toNat, cs, soft, u, hr, by omega, hx, hrow, by omega, hf.1, .inr ⟨by omega, by omega⟩, by omega⟩
theorem refInsert_out (cols row col num : Int) (a : At) (v : Value) (lv : List (Ln × Value)) (W : World) (hg : GIn W v lv) (h : shiftOk cols lv row col num a = true) :
    Calls Tryd.prog 20 #[.agg #[.int .i64 cols, v], .int .i64 row, .int .i64 col, .int .i64 num, a.agg] W (RPost W cols lv (insertT (lv.map Prod.fst) row col num a)) := by
  obtain ⟨r, q, K, cs, soft, u, rfl, rfl, hx, hrow, hq, hc, hK, hm⟩ := shift_more h
  have := rInsert_any cols num r q K a v lv W cs soft u hg.lr hg.ces hg.sm hx hq hc hK
  rw [iterIns_eq hq, hm] at this
  unfold insertT
  rw [hrow, Int.toNat_natCast, Int.toNat_natCast]
  exact this
theorem refDelete_out (cols row col num : Int) (a : At) (v : Value) (lv : List (Ln × Value)) (W : World) (hg : GIn W v lv) (h : shiftOk cols lv row col num a = true) :
    Calls Tryd.prog 21 #[.agg #[.int .i64 cols, v], .int .i64 row, .int .i64 col, .int .i64 num, a.agg] W (RPost W cols lv (deleteT (lv.map Prod.fst) row col num a)) := by
  obtain ⟨r, q, K, cs, soft, u, rfl, rfl, hx, hrow, hq, hc, hK, hm⟩ := shift_more h
  have := rDelete_any cols num r q K a v lv W cs soft u hg.lr hg.ces hg.sm hx hq hc hK
  rw [iterDel_eq hq, hm] at this
  unfold deleteT
  rw [hrow, Int.toNat_natCast, Int.toNat_natCast]
  exact this
end Go.Proofs.YtkejoknphnkhnaaDoor
