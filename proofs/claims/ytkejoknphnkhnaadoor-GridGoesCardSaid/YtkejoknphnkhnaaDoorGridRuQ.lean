/- Layer 6, the reference: lines go up one by one. Made by wip/gen/gridRu.py. -/
import Derived.Test.YtkejoknphnkhnaaDoorGridUsQ
namespace Go.Proofs.YtkejoknphnkhnaaDoor
open Go.RowKit

def UwRel (W wr : World) (lv : List (Ln × Value)) (C n : Nat) (v0 : Value) (fg bg fl : Int) (it gn : List Ln) : Prop :=
  ∃ gg og gc lvk gv gl, UwS W wr lv C n v0 fg bg fl gg og gc lvk gv gl ∧ lvk.map Prod.fst = it ∧ gl.map Prod.fst = gn
def UiRel (W wr : World) (lv : List (Ln × Value)) (C n : Nat) (v0 : Value) (fg bg fl : Int) (gg og gc : Nat) (lvk : List (Ln × Value)) (ob : Nat) (tgt gn : List Ln) : Prop :=
  ∃ ov gv done gl, UpS W wr lv C n v0 fg bg fl gg og gc lvk ob ov gv done gl ∧ done.map Prod.fst = tgt ∧ gl.map Prod.fst = gn

set_option maxRecDepth 100000 in
set_option maxHeartbeats 8000000 in
theorem rUp_any (C T B K : Nat) (num : Int) (a : At) (v : Value) (lv : List (Ln × Value)) (W : World) (hr : LR W v lv) (hc : CesOf W lv) (hTB : T ≤ B) (hB : B < lv.length) (hl : lv.length ≤ 50) (hC : C ≤ 80) (hK : (num ≤ (B : Int) - (T : Int) + 1 ∧ num = K) ∨ ((B : Int) - (T : Int) + 1 < num ∧ (K : Int) = (B : Int) - (T : Int) + 1)) :
    Calls Tryd.prog 13 #[.agg #[.int .i64 (C : Int), v], .int .i64 (T : Int), .int .i64 (B : Int), .int .i64 num, a.agg] W (UpwPost W C (scrL (lv.map Prod.fst) T K (B + 1 - K) C a) (((lv.map Prod.fst).drop T).take K)) := by
  obtain ⟨A, c0, rfl, hcap, hA⟩ := id hr
  obtain ⟨g, o_, rfl, hglt, _⟩ := hA (by intro e; rw [e] at hB; simp at hB)
  clear hA
  obtain ⟨n, hnl⟩ : ∃ n, lv.length = n := ⟨_, rfl⟩
  obtain ⟨it, hit⟩ : ∃ it : Nat → List Ln, (fun k => scrL (lv.map Prod.fst) T k (B + 1 - k) C a) = it := ⟨_, rfl⟩
  have hit' : ∀ k, scrL (lv.map Prod.fst) T k (B + 1 - k) C a = it k := fun k => by rw [← hit]
  have h0it : it 0 = lv.map Prod.fst := by rw [← hit', scr_zero']
  obtain ⟨gn, hgn⟩ : ∃ gn : Nat → List Ln, (fun k => ((lv.map Prod.fst).drop T).take k) = gn := ⟨_, rfl⟩
  have hgn' : ∀ k, ((lv.map Prod.fst).drop T).take k = gn k := fun k => by rw [← hgn]
  have h0gn : gn 0 = [] := by rw [← hgn', List.take_zero]
  have hgnl : ∀ k, (gn k).length ≤ k := fun k => by rw [← hgn']; exact List.length_take_le _ _
  have hgns : ∀ k x, k < B - T + 1 → (it k)[T]? = some x → gn (k + 1) = gn k ++ [x] := fun k x hk hx => by
    rw [← hit', up_gone hTB (by rw [List.length_map]; exact hB) hk] at hx
    rw [← hgn', ← hgn', List.take_add_one, List.getElem?_drop, hx]
    rfl
  have hnext : ∀ k, k < B - T + 1 → upP T B (bareN C a) (it k) n = it (k + 1) := fun k hk => by
    rw [← hit', ← hit']
    have := up_step (ls := lv.map Prod.fst) (cols := C) (a := a) hTB (by rw [List.length_map]; exact hB) hk
    rwa [List.length_map, hnl] at this
  have hbare := fun w => rBare_any C a w (by omega)
  unfold BarePost at hbare
  have hbn : (⟨List.replicate C (blkC a), false⟩ : Ln) = bareN C a := rfl
  obtain ⟨bn, hbn2⟩ : ∃ bn, bareN C a = bn := ⟨_, rfl⟩
  rw [hbn2] at hnext hbn
  obtain ⟨bl, hbl⟩ : ∃ bl, List.replicate C (blkC a) = bl := ⟨_, rfl⟩
  rw [hbl] at hbare hbn
  rw [hit' K, hgn' K]
  obtain ⟨fg, bg, fl⟩ := a
  unfold At.agg at hbare ⊢
  simp only at hbare ⊢
  rw [hnl] at hcap hB hl hr ⊢
  have b0 := ((((Bxs.nil W).alloc 24 #[.int .i64 (C : Int), .slice (some ⟨g, o_, none⟩) n c0]).alloc 26 #[.int .i64 fg, .int .i64 bg, .int .i64 fl]).alloc 35 #[.int .i64 0, .slice none 0 0, .slice none 0 0]).alloc 35 #[.int .i64 (C : Int), .slice (some ⟨g, o_, none⟩) n c0, .slice none 0 0]
  simp only [World.size_alloc, List.nil_append, List.cons_append] at b0
  have h0 : Below W.heap.size W ((((W.alloc (.cells #[.int .i64 (C : Int), .slice (some ⟨g, o_, none⟩) n c0] 24)).alloc (.cells #[.int .i64 fg, .int .i64 bg, .int .i64 fl] 26)).alloc (.cells #[.int .i64 0, .slice none 0 0, .slice none 0 0] 35)).alloc (.cells #[.int .i64 (C : Int), .slice (some ⟨g, o_, none⟩) n c0, .slice none 0 0] 35)) := (((below_alloc _ _).alloc (by simp) _).alloc (by simp; omega) _).alloc (by simp; omega) _
  have hst : UwRel W ((((W.alloc (.cells #[.int .i64 (C : Int), .slice (some ⟨g, o_, none⟩) n c0] 24)).alloc (.cells #[.int .i64 fg, .int .i64 bg, .int .i64 fl] 26)).alloc (.cells #[.int .i64 0, .slice none 0 0, .slice none 0 0] 35)).alloc (.cells #[.int .i64 (C : Int), .slice (some ⟨g, o_, none⟩) n c0, .slice none 0 0] 35)) lv C n (.slice (some ⟨g, o_, none⟩) n c0) fg bg fl (it 0) (gn 0) :=
    ⟨g, o_, c0, lv, .slice none 0 0, [], ⟨b0.get 0 rfl, b0.get 1 rfl, b0.get 2 rfl, b0.get 3 rfl, hr.below h0, by intro e; rw [e] at hnl; simp at hnl; omega, Nat.lt_of_lt_of_le hglt h0.size, fun x hx => .inl hx, OwnL.nil _ _, (fun x hx => by simp at hx), (fun q hq => by simp [Value.ownBlock] at hq), h0⟩, h0it.symm, h0gn.symm⟩
  have HST := hid hst
  have HNX := hid hnext
  have HGN := hid hgns
  have HGL := hid hgnl
  have HBA := hid hbare
  have HBN := hid hbn
  have HC := hid hc
  have hKn : (K : Int) ≤ num := by omega
  have hKb : (K : Int) ≤ (B : Int) - (T : Int) + 1 := by omega
  have hKe : num ≤ K ∨ (K : Int) = (B : Int) - (T : Int) + 1 := by omega
  have hKl : K ≤ B - T + 1 := by omega
  have hTi : (T : Int) ≤ B := by omega
  have hBi : (B : Int) < n := by omega
  clear b0 h0 hst hnext hbare hbn hit hit' h0it hc hr hcap hnl hbn2 hbl hK hgn hgn' h0gn hgnl hgns hglt
  go_enter Tryd.func13, Tryd.ntmps13
  go_wp2
  go_loopw [12] (fun iv wr => ∃ k : Nat, k ≤ K ∧ iv = .int .i64 k ∧ UwRel W wr lv C n (.slice (some ⟨g, o_, none⟩) n c0) fg bg fl (it k) (gn k)) (fun i _ => K - (intOf i).toNat)
  case atStart => exact ⟨0, by omega, rfl, HST.out⟩
  case round =>
    obtain ⟨k, hk, rfl, hrel⟩ := hrel
    obtain ⟨wo, rfl⟩ : ∃ wo : World, wo = wr := ⟨_, rfl⟩
    obtain ⟨gg, og, gc, lvk, gv, gl, hus, hmp, hgm⟩ := hrel
    obtain ⟨gB, gcc, hgv⟩ := hus.ow.spell
    obtain ⟨gll, hgll⟩ : ∃ gll, gl.length = gll := ⟨_, rfl⟩
    rw [hgll] at hgv
    subst hgv
    obtain ⟨⟨k0, k1⟩, f0, f1⟩ := hus.xg.two
    obtain ⟨⟨t0, t1, t2⟩, e0, e1, e2⟩ := hus.xt.three
    have hszo : W.heap.size + 1 + 1 + 1 < wo.heap.size := hus.xt.lt
    by_cases hlt : k < K
    · have hk1 : (k : Int) < num := by omega
      have hk2 : (k : Int) ≤ (B : Int) - (T : Int) := by omega
      have hkb : (k : Int) ≤ 50 := by omega
      have hlk : lvk.length = n := by have := hus.lr.len; omega
      have hstart : UiRel W (wo.alloc (.cells #[.int .i64 (C : Int), .slice none 0 0] 24)) lv C n (.slice (some ⟨g, o_, none⟩) n c0) fg bg fl gg og gc lvk wo.heap.size (upP T B bn (it k) 0) (if T < 0 then gn (k + 1) else gn k) := ⟨_, _, [], gl, hus.start, rfl, by rw [if_neg (by omega)]; exact hgm⟩
      have HS0 := hid hstart
      have HMP := hid hmp
      have HLK := hid hlk
      have HUS := hid hus
      clear hstart hus hmp hgm hlk
      go_wp2
      clear k0 k1 f0 f1 t0 t1 t2 e0 e1 e2
      go_loopw [37] (fun iv wr => ∃ i : Nat, i ≤ n ∧ iv = .int .i64 i ∧ UiRel W wr lv C n (.slice (some ⟨g, o_, none⟩) n c0) fg bg fl gg og gc lvk wo.heap.size (upP T B bn (it k) i) (if T < i then gn (k + 1) else gn k)) (fun i _ => n - (intOf i).toNat)
      case atStart => exact ⟨0, by omega, rfl, HS0.out⟩
      case round =>
        obtain ⟨i, hi, rfl, ov, gv, done, gl, hus, hmap, hgm⟩ := hrel
        obtain ⟨oA, oc, hov⟩ := hus.od.spell
        obtain ⟨dl, hdl⟩ : ∃ dl, done.length = dl := ⟨_, rfl⟩
        rw [hdl] at hov
        subst hov
        obtain ⟨gB, gcc, hgv⟩ := hus.ow.spell
        obtain ⟨gll, hgll⟩ : ∃ gll, gl.length = gll := ⟨_, rfl⟩
        rw [hgll] at hgv
        subst hgv
        obtain ⟨⟨n0, n1⟩, nf0, nf1⟩ := hus.xo.two
        obtain ⟨⟨k0, k1⟩, f0, f1⟩ := hus.xg.two
        obtain ⟨⟨a0, a1, a2⟩, e0, e1, e2⟩ := hus.xa.three
        obtain ⟨⟨t0, t1, t2⟩, ft0, ft1, ft2⟩ := hus.xt.three
        by_cases hin : i < n
        · have hii : (i : Int) < n := by omega
          have hi0 : (0 : Int) ≤ i := by omega
          have hib : (i : Int) ≤ 50 := by omega
          have hil : i < lvk.length := by rw [HLK.out]; exact hin
          have hx := List.getElem?_eq_getElem hil
          have hit1 : (it k)[i]? = some (lvk[i]).1 := by rw [← HMP.out, List.getElem?_map, hx]; rfl
          have hup : upP T B bn (it k) (i + 1) = upP T B bn (it k) i ++ (if i = T then [] else [(lvk[i]).1]) ++ (if i = B then [bn] else []) := by
            rw [upP, hit1]
            rfl
          have hgst : i = T → gn (k + 1) = gn k ++ [(lvk[i]).1] := fun e => HGN.out k _ (by omega) (by rw [← e]; exact hit1)
          have hdle : dl ≤ n + 1 := by
            have h1 := congrArg List.length hmap
            rw [List.length_map, hdl, upP_length hTB i (by rw [← HMP.out, List.length_map]; omega)] at h1
            split at h1
            · omega
            · split at h1 <;> omega
          have hgle : gll ≤ 60 := by
            have h1 := congrArg List.length hgm
            rw [List.length_map, hgll] at h1
            have h2 := HGL.out k
            have h3 := HGL.out (k + 1)
            split at h1 <;> omega
          obtain ⟨_, _, hle, _, hcell⟩ := id hus.lr
          rw [HLK.out] at hle
          cases hle
          obtain ⟨g2, o2, he2, hg2, hcell⟩ := hcell (by intro e; rw [e] at hil; simp at hil)
          cases he2
          obtain ⟨p0, p1⟩ := hcell i _ hx
          have hce := (hus.nk.ces (HC.out.below hus.hb)) lvk[i] (List.getElem_mem _)
          have hmem : lvk[i] ∈ lv ∨ CSl wr W.heap.size lvk[i].2 lvk[i].1.cs := hus.nk _ (List.getElem_mem _)
          generalize lvk[i] = x at *
          obtain ⟨⟨cs, soft⟩, cv⟩ := x
          simp only at p0 p1 hce hup hgst hmem
          obtain ⟨cA, cc, rfl⟩ := hce.spell
          obtain ⟨cl, hcl⟩ : ∃ cl, cs.length = cl := ⟨_, rfl⟩
          rw [hcl] at p0 hce hmem
          have HX := hid hmem
          have HCX := hid hce
          have HUP := hid hup
          have HGS := hid hgst
          have HU := hid hus
          have HMAP := hid hmap
          have HGM := hid hgm
          have HDL := hid hdl
          have HGLL := hid hgll
          have hB0 : W.heap.size + 1 + 1 + 1 < wo.heap.size := hus.ho
          have hB1 : wo.heap.size < wr.heap.size := hus.xo.lt
          have hBw : W.heap.size ≤ wr.heap.size := by omega
          clear hx hcell hce hmem hup hus hmap hgm hdl hil hcl hgst hgll hit1
          have hb8 := below_alloc wr (.cells #[.slice cA cl cc, .bool soft] 61)
          have HU8 := hid (HU.out.below hb8)
          have HX8 : Hid (((⟨cs, soft⟩ : Ln), (.slice cA cl cc : Value)) ∈ lv ∨ CSl (wr.alloc (.cells #[.slice cA cl cc, .bool soft] 61)) W.heap.size (.slice cA cl cc) cs) := HX.out.imp id fun q => q.below hb8 (Nat.le_refl _)
          have HCX8 := hid (HCX.out.below hb8)
          have hlb8 : Box (wr.alloc (.cells #[.slice cA cl cc, .bool soft] 61)) wr.heap.size 61 #[.slice cA cl cc, .bool soft] := Box.new _ _ _
          have HL8 := hid hlb8
          clear hb8 hlb8
          clear n0 n1 nf0 nf1 k0 k1 f0 f1 a0 a1 a2 e0 e1 e2 t0 t1 t2 ft0 ft1 ft2
          have hways : (¬ i = T ∧ ¬ i = B) ∨ (¬ i = T ∧ i = B) ∨ (i = T ∧ ¬ i = B) ∨ (i = T ∧ i = B) := by omega
          go_upto_region 9 with fail
          generalize (wr.alloc (.cells #[.slice cA cl cc, .bool soft] 61)) = w8 at *
          generalize wr.heap.size = lb at *
          obtain ⟨⟨n0, n1⟩, nf0, nf1⟩ := HU8.out.xo.two
          obtain ⟨⟨k0, k1⟩, f0, f1⟩ := HU8.out.xg.two
          obtain ⟨⟨a0, a1, a2⟩, e0, e1, e2⟩ := HU8.out.xa.three
          obtain ⟨⟨t0, t1, t2⟩, ft0, ft1, ft2⟩ := HU8.out.xt.three
          obtain ⟨⟨l0, l1⟩, lf0, lf1⟩ := HL8.out.two
          have s8 : W.heap.size ≤ w8.heap.size := HU8.out.hb.size
          have s9 : wo.heap.size < w8.heap.size := HU8.out.xo.lt
          have s10 : lb < w8.heap.size := HL8.out.lt
          rcases hways with ⟨hT, hB⟩ | ⟨hT, hB⟩ | ⟨hT, hB⟩ | ⟨hT, hB⟩
          · have bT1 : ((i : Int) == (T : Int)) = false := by (rw [beq_eq_false_iff_ne]; omega)
            have bT2 : (i == T) = false := by simp [hT]
            have bB1 : ((i : Int) == (B : Int)) = false := by (rw [beq_eq_false_iff_ne]; omega)
            have bB2 : (i == B) = false := by simp [hB]
            have HT := hid hT
            have HB := hid hB
            clear hT hB
            have hb9 := below_alloc w8 (.cells #[.slice cA cl cc, .bool soft] 61)
            have HA := hid (HU8.out.below hb9)
            have HXA : Hid (((⟨cs, soft⟩ : Ln), (.slice cA cl cc : Value)) ∈ lv ∨ CSl (w8.alloc (.cells #[.slice cA cl cc, .bool soft] 61)) W.heap.size (.slice cA cl cc) cs) := HX8.out.imp id fun q => q.below hb9 (Nat.le_refl _)
            have hcsa : CesOf (w8.alloc (.cells #[.slice cA cl cc, .bool soft] 61)) [((⟨cs, soft⟩ : Ln), (.slice cA cl cc : Value))] := by
              intro y hy
              rw [List.mem_singleton] at hy
              subst hy
              exact HCX8.out.below hb9
            have hlla := ln_lit w8 ((⟨cs, soft⟩ : Ln), (.slice cA cl cc : Value))
            simp only at hlla
            have HCSa := hid hcsa
            have HLLa := hid hlla
            clear hcsa hlla hb9
            go_upto_region 12 with (at_builtin; refine wpList_append_ln_at rfl _ _ rfl W.heap.size _ _ (done) [((⟨cs, soft⟩ : Ln), (.slice cA cl cc : Value))] rfl HA.out.od rfl HLLa.out HCSa.out (by simp) (by rw [HDL.out]; simp; omega) (by simp; omega) ?_; intro v2 w2 g1 g2 g3; obtain ⟨A2, c2, hv2⟩ := g1.spell; rw [List.length_append, HDL.out, List.length_singleton] at hv2; subst hv2; have G1 := hid g1; have G2 := hid g2; have G3 := hid g3; clear g1 g2 g3; have hb2 := HA.out.xo.grown G2.out (OwnL.not_box HA.out.od HA.out.xo (by decide)); obtain ⟨⟨m0, m1⟩, mf0, mf1⟩ := hb2.two)
            have hst := HA.out.out HXA.out G1.out G2.out G3.out
            clear m0 m1 mf0 mf1 hb2
            have HU9 := hid hst
            clear hst
            clear n0 n1 nf0 nf1 k0 k1 f0 f1 a0 a1 a2 e0 e1 e2 t0 t1 t2 ft0 ft1 ft2 l0 l1 lf0 lf1
            generalize (w2.setCell ⟨wo.heap.size, 1, none⟩ (.slice A2 (dl + 1) c2)) = w9 at *
            go_wp2
            go_roundw
            case rel => exact ⟨i + 1, by omega, by go_num, _, _, _, _, HU9.out, by rw [HUP.out, if_neg HT.out, if_neg HB.out, List.append_nil, List.map_append, HMAP.out]; rfl, by rw [HGM.out]; have := HT.out; by_cases h : T < i; rw [if_pos h, if_pos (by omega)]; rw [if_neg h, if_neg (by omega)]⟩
            case measure => simp [intOf]; omega
          · have bT1 : ((i : Int) == (T : Int)) = false := by (rw [beq_eq_false_iff_ne]; omega)
            have bT2 : (i == T) = false := by simp [hT]
            have bB1 : ((i : Int) == (B : Int)) = true := by simp [hB]
            have bB2 : (i == B) = true := by simp [hB]
            have HT := hid hT
            have HB := hid hB
            clear hT hB
            have hb9 := below_alloc w8 (.cells #[.slice cA cl cc, .bool soft] 61)
            have HA := hid (HU8.out.below hb9)
            have HXA : Hid (((⟨cs, soft⟩ : Ln), (.slice cA cl cc : Value)) ∈ lv ∨ CSl (w8.alloc (.cells #[.slice cA cl cc, .bool soft] 61)) W.heap.size (.slice cA cl cc) cs) := HX8.out.imp id fun q => q.below hb9 (Nat.le_refl _)
            have hcsa : CesOf (w8.alloc (.cells #[.slice cA cl cc, .bool soft] 61)) [((⟨cs, soft⟩ : Ln), (.slice cA cl cc : Value))] := by
              intro y hy
              rw [List.mem_singleton] at hy
              subst hy
              exact HCX8.out.below hb9
            have hlla := ln_lit w8 ((⟨cs, soft⟩ : Ln), (.slice cA cl cc : Value))
            simp only at hlla
            have HCSa := hid hcsa
            have HLLa := hid hlla
            clear hcsa hlla hb9
            go_upto_region 12 with (at_builtin; refine wpList_append_ln_at rfl _ _ rfl W.heap.size _ _ (done) [((⟨cs, soft⟩ : Ln), (.slice cA cl cc : Value))] rfl HA.out.od rfl HLLa.out HCSa.out (by simp) (by rw [HDL.out]; simp; omega) (by simp; omega) ?_; intro v2 w2 g1 g2 g3; obtain ⟨A2, c2, hv2⟩ := g1.spell; rw [List.length_append, HDL.out, List.length_singleton] at hv2; subst hv2; have G1 := hid g1; have G2 := hid g2; have G3 := hid g3; clear g1 g2 g3; have hb2 := HA.out.xo.grown G2.out (OwnL.not_box HA.out.od HA.out.xo (by decide)); obtain ⟨⟨m0, m1⟩, mf0, mf1⟩ := hb2.two)
            have hst := HA.out.out HXA.out G1.out G2.out G3.out
            clear m0 m1 mf0 mf1 hb2
            have HU9 := hid hst
            clear hst
            clear n0 n1 nf0 nf1 k0 k1 f0 f1 a0 a1 a2 e0 e1 e2 t0 t1 t2 ft0 ft1 ft2 l0 l1 lf0 lf1
            generalize (w2.setCell ⟨wo.heap.size, 1, none⟩ (.slice A2 (dl + 1) c2)) = w9 at *
            have HD9 : Hid ((done ++ [((⟨cs, soft⟩ : Ln), (.slice cA cl cc : Value))]).length = dl + 1) := by unfold Hid; rw [List.length_append, HDL.out, List.length_singleton]
            obtain ⟨⟨n0, n1⟩, nf0, nf1⟩ := HU9.out.xo.two
            obtain ⟨⟨k0, k1⟩, f0, f1⟩ := HU9.out.xg.two
            obtain ⟨⟨a0, a1, a2⟩, e0, e1, e2⟩ := HU9.out.xa.three
            obtain ⟨⟨t0, t1, t2⟩, ft0, ft1, ft2⟩ := HU9.out.xt.three
            have s8 : W.heap.size ≤ w9.heap.size := HU9.out.hb.size
            have s9 : wo.heap.size < w9.heap.size := HU9.out.xo.lt
            go_upto_region 13 with fail
            first | go_region_law (first | (go_simp; go_at_call 46; refine (HBA.out _).mono ?_; rintro e w5 ⟨vb, rfl, hcb, hb5⟩; have hd5 : Below w9.heap.size w9 w5 := (Below.refl _ w9).drew.trans hb5; obtain ⟨Ab, kb, cb, hvb⟩ : ∃ Ab kb cb, vb = .slice Ab kb cb := (by obtain ⟨Ab, cb, h⟩ := hcb.row.spell; exact ⟨_, _, _, h⟩); subst hvb; have hcb5 := hid (hcb.mono s8); clear hcb; have hd6 := hid (hd5.trans ((below_alloc w5 (.cells #[.slice Ab kb cb, .bool false] 61)).mono hd5.size)); have HU6 := hid (HU9.out.below hd6.out); obtain ⟨⟨n0, n1⟩, nf0, nf1⟩ := (HU9.out.below hd5).xo.two; have hlt6 : wo.heap.size < w5.heap.size := Nat.lt_of_lt_of_le s9 hd5.size; have hlit := ln_lit w5 ((⟨bl, false⟩ : Ln), (.slice Ab kb cb : Value)); simp only at hlit; have HLIT := hid hlit; clear hlit) | (refine step_append_ln_at rfl _ _ rfl W.heap.size _ _ (done ++ [((⟨cs, soft⟩ : Ln), (.slice cA cl cc : Value))]) [((⟨bl, false⟩ : Ln), (.slice Ab kb cb : Value))] rfl HU6.out.od rfl HLIT.out (by intro y hy; rw [List.mem_singleton] at hy; subst hy; exact hcb5.out.row.below (below_alloc _ _)) (by simp) (by rw [HD9.out]; simp; omega) (by have := HU6.out.hb.size; omega) ?_; intro v7 w7 h1 h2 h3; obtain ⟨A7, c7, hv7⟩ := h1.spell; rw [List.length_append, HD9.out, List.length_singleton] at hv7; subst hv7; have H1 := hid h1; have H2 := hid h2; have H3 := hid h3; clear h1 h2 h3; have hb7 := HU6.out.xo.grown H2.out (OwnL.not_box HU6.out.od HU6.out.xo (by decide)); obtain ⟨⟨m0, m1⟩, mf0, mf1⟩ := hb7.two)) | fail
            all_goals
              have hst9 := HU6.out.out (.inr (hcb5.out.below (below_alloc _ _) (Nat.le_refl _))) H1.out H2.out H3.out
              have HUE := hid hst9
              clear m0 m1 mf0 mf1 hb7 hst9
              go_wp2
              go_roundw
              case rel => exact ⟨i + 1, by omega, by go_num, _, _, _, _, HUE.out, by rw [HUP.out, if_neg HT.out, if_pos HB.out, List.map_append, List.map_append, HMAP.out, ← HBN.out]; rfl, by rw [HGM.out]; have := HT.out; by_cases h : T < i; rw [if_pos h, if_pos (by omega)]; rw [if_neg h, if_neg (by omega)]⟩
              case measure => simp [intOf]; omega
          · have bT1 : ((i : Int) == (T : Int)) = true := by simp [hT]
            have bT2 : (i == T) = true := by simp [hT]
            have bB1 : ((i : Int) == (B : Int)) = false := by (rw [beq_eq_false_iff_ne]; omega)
            have bB2 : (i == B) = false := by simp [hB]
            have HT := hid hT
            have HB := hid hB
            clear hT hB
            have hb9 := below_alloc w8 (.cells #[.slice cA cl cc, .bool soft] 61)
            have HA := hid (HU8.out.below hb9)
            have HXA : Hid (((⟨cs, soft⟩ : Ln), (.slice cA cl cc : Value)) ∈ lv ∨ CSl (w8.alloc (.cells #[.slice cA cl cc, .bool soft] 61)) W.heap.size (.slice cA cl cc) cs) := HX8.out.imp id fun q => q.below hb9 (Nat.le_refl _)
            have hcsa : CesOf (w8.alloc (.cells #[.slice cA cl cc, .bool soft] 61)) [((⟨cs, soft⟩ : Ln), (.slice cA cl cc : Value))] := by
              intro y hy
              rw [List.mem_singleton] at hy
              subst hy
              exact HCX8.out.below hb9
            have hlla := ln_lit w8 ((⟨cs, soft⟩ : Ln), (.slice cA cl cc : Value))
            simp only at hlla
            have HCSa := hid hcsa
            have HLLa := hid hlla
            clear hcsa hlla hb9
            go_upto_region 12 with (at_builtin; refine wpList_append_ln_at rfl _ _ rfl W.heap.size _ _ (gl) [((⟨cs, soft⟩ : Ln), (.slice cA cl cc : Value))] rfl HA.out.ow rfl HLLa.out HCSa.out (by simp) (by rw [HGLL.out]; simp; omega) (by simp; omega) ?_; intro v2 w2 g1 g2 g3; obtain ⟨A2, c2, hv2⟩ := g1.spell; rw [List.length_append, HGLL.out, List.length_singleton] at hv2; subst hv2; have G1 := hid g1; have G2 := hid g2; have G3 := hid g3; clear g1 g2 g3; have hb2 := HA.out.xt.grown G2.out (OwnL.not_box HA.out.ow HA.out.xt (by decide)); obtain ⟨⟨m0, m1, m2⟩, mf0, mf1, mf2⟩ := hb2.three)
            have hst := HA.out.gone HXA.out G1.out G2.out G3.out
            clear m0 m1 mf0 mf1 hb2 m2 mf2
            have HU9 := hid hst
            clear hst
            clear n0 n1 nf0 nf1 k0 k1 f0 f1 a0 a1 a2 e0 e1 e2 t0 t1 t2 ft0 ft1 ft2 l0 l1 lf0 lf1
            generalize (w2.setCell ⟨W.heap.size + 1 + 1 + 1, 2, none⟩ (.slice A2 (gll + 1) c2)) = w9 at *
            go_wp2
            go_roundw
            case rel => exact ⟨i + 1, by omega, by go_num, _, _, _, _, HU9.out, by rw [HUP.out, if_pos HT.out, if_neg HB.out, List.append_nil, List.append_nil, HMAP.out], by rw [List.map_append, HGM.out, if_neg (by have := HT.out; omega), if_pos (by have := HT.out; omega), HGS.out HT.out]; rfl⟩
            case measure => simp [intOf]; omega
          · have bT1 : ((i : Int) == (T : Int)) = true := by simp [hT]
            have bT2 : (i == T) = true := by simp [hT]
            have bB1 : ((i : Int) == (B : Int)) = true := by simp [hB]
            have bB2 : (i == B) = true := by simp [hB]
            have HT := hid hT
            have HB := hid hB
            clear hT hB
            have hb9 := below_alloc w8 (.cells #[.slice cA cl cc, .bool soft] 61)
            have HA := hid (HU8.out.below hb9)
            have HXA : Hid (((⟨cs, soft⟩ : Ln), (.slice cA cl cc : Value)) ∈ lv ∨ CSl (w8.alloc (.cells #[.slice cA cl cc, .bool soft] 61)) W.heap.size (.slice cA cl cc) cs) := HX8.out.imp id fun q => q.below hb9 (Nat.le_refl _)
            have hcsa : CesOf (w8.alloc (.cells #[.slice cA cl cc, .bool soft] 61)) [((⟨cs, soft⟩ : Ln), (.slice cA cl cc : Value))] := by
              intro y hy
              rw [List.mem_singleton] at hy
              subst hy
              exact HCX8.out.below hb9
            have hlla := ln_lit w8 ((⟨cs, soft⟩ : Ln), (.slice cA cl cc : Value))
            simp only at hlla
            have HCSa := hid hcsa
            have HLLa := hid hlla
            clear hcsa hlla hb9
            go_upto_region 12 with (at_builtin; refine wpList_append_ln_at rfl _ _ rfl W.heap.size _ _ (gl) [((⟨cs, soft⟩ : Ln), (.slice cA cl cc : Value))] rfl HA.out.ow rfl HLLa.out HCSa.out (by simp) (by rw [HGLL.out]; simp; omega) (by simp; omega) ?_; intro v2 w2 g1 g2 g3; obtain ⟨A2, c2, hv2⟩ := g1.spell; rw [List.length_append, HGLL.out, List.length_singleton] at hv2; subst hv2; have G1 := hid g1; have G2 := hid g2; have G3 := hid g3; clear g1 g2 g3; have hb2 := HA.out.xt.grown G2.out (OwnL.not_box HA.out.ow HA.out.xt (by decide)); obtain ⟨⟨m0, m1, m2⟩, mf0, mf1, mf2⟩ := hb2.three)
            have hst := HA.out.gone HXA.out G1.out G2.out G3.out
            clear m0 m1 mf0 mf1 hb2 m2 mf2
            have HU9 := hid hst
            clear hst
            clear n0 n1 nf0 nf1 k0 k1 f0 f1 a0 a1 a2 e0 e1 e2 t0 t1 t2 ft0 ft1 ft2 l0 l1 lf0 lf1
            generalize (w2.setCell ⟨W.heap.size + 1 + 1 + 1, 2, none⟩ (.slice A2 (gll + 1) c2)) = w9 at *
            obtain ⟨⟨n0, n1⟩, nf0, nf1⟩ := HU9.out.xo.two
            obtain ⟨⟨k0, k1⟩, f0, f1⟩ := HU9.out.xg.two
            obtain ⟨⟨a0, a1, a2⟩, e0, e1, e2⟩ := HU9.out.xa.three
            obtain ⟨⟨t0, t1, t2⟩, ft0, ft1, ft2⟩ := HU9.out.xt.three
            have s8 : W.heap.size ≤ w9.heap.size := HU9.out.hb.size
            have s9 : wo.heap.size < w9.heap.size := HU9.out.xo.lt
            go_upto_region 13 with fail
            first | go_region_law (first | (go_simp; go_at_call 46; refine (HBA.out _).mono ?_; rintro e w5 ⟨vb, rfl, hcb, hb5⟩; have hd5 : Below w9.heap.size w9 w5 := (Below.refl _ w9).drew.trans hb5; obtain ⟨Ab, kb, cb, hvb⟩ : ∃ Ab kb cb, vb = .slice Ab kb cb := (by obtain ⟨Ab, cb, h⟩ := hcb.row.spell; exact ⟨_, _, _, h⟩); subst hvb; have hcb5 := hid (hcb.mono s8); clear hcb; have hd6 := hid (hd5.trans ((below_alloc w5 (.cells #[.slice Ab kb cb, .bool false] 61)).mono hd5.size)); have HU6 := hid (HU9.out.below hd6.out); obtain ⟨⟨n0, n1⟩, nf0, nf1⟩ := (HU9.out.below hd5).xo.two; have hlt6 : wo.heap.size < w5.heap.size := Nat.lt_of_lt_of_le s9 hd5.size; have hlit := ln_lit w5 ((⟨bl, false⟩ : Ln), (.slice Ab kb cb : Value)); simp only at hlit; have HLIT := hid hlit; clear hlit) | (refine step_append_ln_at rfl _ _ rfl W.heap.size _ _ done [((⟨bl, false⟩ : Ln), (.slice Ab kb cb : Value))] rfl HU6.out.od rfl HLIT.out (by intro y hy; rw [List.mem_singleton] at hy; subst hy; exact hcb5.out.row.below (below_alloc _ _)) (by simp) (by rw [HDL.out]; simp; omega) (by have := HU6.out.hb.size; omega) ?_; intro v7 w7 h1 h2 h3; obtain ⟨A7, c7, hv7⟩ := h1.spell; rw [List.length_append, HDL.out, List.length_singleton] at hv7; subst hv7; have H1 := hid h1; have H2 := hid h2; have H3 := hid h3; clear h1 h2 h3; have hb7 := HU6.out.xo.grown H2.out (OwnL.not_box HU6.out.od HU6.out.xo (by decide)); obtain ⟨⟨m0, m1⟩, mf0, mf1⟩ := hb7.two)) | fail
            all_goals
              have hst9 := HU6.out.out (.inr (hcb5.out.below (below_alloc _ _) (Nat.le_refl _))) H1.out H2.out H3.out
              have HUE := hid hst9
              clear m0 m1 mf0 mf1 hb7 hst9
              go_wp2
              go_roundw
              case rel => exact ⟨i + 1, by omega, by go_num, _, _, _, _, HUE.out, by rw [HUP.out, if_pos HT.out, if_pos HB.out, List.append_nil, List.map_append, HMAP.out, ← HBN.out]; rfl, by rw [List.map_append, HGM.out, if_neg (by have := HT.out; omega), if_pos (by have := HT.out; omega), HGS.out HT.out]; rfl⟩
              case measure => simp [intOf]; omega
        · have hin' : i = n := by omega
          subst hin'
          rw [HNX.out k (by omega)] at hmap
          have hitl : (it k).length = i := by rw [← HMP.out, List.length_map, HLK.out]
          have hlk2 := up_length (b := bn) (l := it k) hTB (by rw [hitl]; exact hB)
          rw [hitl, HNX.out k (by omega)] at hlk2
          have hdi : dl = i := by rw [← hdl, ← hlk2, ← hmap, List.length_map]
          subst hdi
          obtain ⟨g3, o3, hg3⟩ := hus.od.lsl.row.first (by rw [hdl]; omega)
          subst hg3
          have hne : done ≠ [] := by intro e; rw [e] at hdl; simp at hdl; omega
          have hrelN : UwRel W ((wr.setCell ⟨W.heap.size + 1 + 1 + 1, 0, none⟩ (.int .i64 (C : Int))).setCell ⟨W.heap.size + 1 + 1 + 1, 1, none⟩ (.slice (some ⟨g3, o3, none⟩) dl oc)) lv C dl (.slice (some ⟨g, o_, none⟩) dl c0) fg bg fl (it (k + 1)) (gn (k + 1)) :=
            ⟨g3, o3, oc, done, _, gl, hus.next rfl hne, hmap, by rw [hgm, if_pos (by omega)]⟩
          have HRN := hid hrelN
          have hb0 : W.heap.size + 1 + 1 + 1 < wr.heap.size := hus.xt.lt
          clear hrelN hmap hlk2 hitl hdl hgm hgll hus hne
          go_wp2
          go_roundw
          case rel => exact ⟨k + 1, by omega, by go_num, HRN.out⟩
          case measure => simp [intOf]; omega
    · have hkK : k = K := by omega
      subst hkK
      have hfin := hus.fin HC.out hmp hgm rfl
      have HFIN := hid hfin
      obtain ⟨⟨z0, z1, z2⟩, y0, y1, y2⟩ := hus.xz.three
      have hko : ¬ ((k : Int) < num) ∨ ((k : Int) < num ∧ ¬ ((k : Int) ≤ (B : Int) - (T : Int))) := by omega
      clear hfin hus hmp hgm hlt hk hgll
      rcases hko with hk1 | ⟨hk1, hk2⟩
      all_goals
        go_wp2
        refine bodyPost_ret (v := .agg #[.int .i64 (C : Int), .slice (some ⟨gg, og, none⟩) n gc, .slice gB gll gcc]) (by simp [results, Tryd.results13, go_sem, z0, z1, z2]) rfl ?_
        exact HFIN.out
theorem refUp_out (cols top bot num : Int) (a : At) (v : Value) (lv : List (Ln × Value)) (W : World) (hg : GIn W v lv) (h : scrollOk cols lv top bot num a = true) :
    Calls Tryd.prog 13 #[.agg #[.int .i64 cols, v], .int .i64 top, .int .i64 bot, .int .i64 num, a.agg] W (UpwPost W cols (upT (lv.map Prod.fst) cols top bot num a) (goneT (lv.map Prod.fst) top bot num)) := by
  obtain ⟨C, T, Bn, M, rfl, rfl, rfl, p1, p2, p3, p4, p5, p6, p7⟩ := scr_parts h
  have := rUp_any C T Bn M num a v lv W hg.lr hg.ces p1 p2 p3 p4 p6
  unfold upT goneT
  rw [p5, Int.toNat_natCast, Int.toNat_natCast, Int.toNat_natCast]
  exact this
end Go.Proofs.YtkejoknphnkhnaaDoor
