/- Layer 6, the reference: lines go down one by one. Made by wip/gen/gridRd.py. -/
import Derived.Test.YtkejoknphnkhnaaDoorGridUsQ
import Derived.Test.YtkejoknphnkhnaaDoorGridStQ
import Derived.Test.YtkejoknphnkhnaaDoorGridRgQ
import Derived.Test.YtkejoknphnkhnaaDoorGridLaQ
namespace Go.Proofs.YtkejoknphnkhnaaDoor
open Go.RowKit

theorem CeRow.setg {W : World} {b i : Nat} {t : TypeId} {x : Int} {B : Option Addr} {j d : Nat} {v : Value} {l : List Ce} (h : CeRow W v l) (hb : Box W b t #[.int .i64 x, .slice B j d]) (u : Value) : CeRow (W.setCell ⟨b, i, none⟩ u) v l := by
  obtain ⟨A, c, e, hc, hcell⟩ := h
  refine ⟨A, c, e, hc, fun hne => ?_⟩
  obtain ⟨g, o, hA, hg, hcell⟩ := hcell hne
  have hgb : g ≠ b := by
    rintro rfl
    obtain ⟨e, he⟩ := List.exists_mem_of_ne_nil l hne
    obtain ⟨q, hq⟩ := List.mem_iff_getElem?.1 he
    have := hcell q e hq 0 (.string e.tx) rfl
    rw [hb.cell] at this
    match hh : o + q * 5 + 0, this with
    | 0, h => simp at h
    | 1, h => simp at h
    | n + 2, h => simp at h
  refine ⟨g, o, hA, by rw [size_set]; exact hg, fun q e he r w hw => ?_⟩
  have h1 : ∀ z, (W.setCell ⟨b, i, none⟩ u).cell? ⟨g, z, none⟩ = W.cell? ⟨g, z, none⟩ := fun z => by
    have := Below.heap_setCell W ⟨b, i, none⟩ u g hgb
    unfold World.cell?
    simp only [this]
  rw [h1]
  exact hcell q e he r w hw
theorem CesOf.setg {W : World} {b i : Nat} {t : TypeId} {x : Int} {B : Option Addr} {j d : Nat} {lv : List (Ln × Value)} (h : CesOf W lv) (hb : Box W b t #[.int .i64 x, .slice B j d]) (u : Value) : CesOf (W.setCell ⟨b, i, none⟩ u) lv := fun e he => (h e he).setg hb u
/-- A line appended to a row of the call's own that stands in a box of its own. -/
theorem row_step {wo wr wz w7 : World} {cols : Int} {lv done : List (Ln × Value)} {y : Ln × Value} {ov v' : Value} {lc : Array Value} {B0 : Nat} (hbo : Box wr B0 24 #[.int .i64 cols, ov]) (hown : OwnL wr B0 ov done) (hn : NewOf wr B0 lv done)
    (hb : Below wr.heap.size wr wz) (hy : y ∈ lv ∨ CSl wz B0 y.2 y.1.cs) (h7 : OwnL w7 B0 v' (done ++ [y])) (hg : (wz.alloc (.cells lc 61)).grownBy w7 ov.ownBlock) (hbr : Below B0 wo wr) :
    Box (w7.setCell ⟨B0, 1, none⟩ v') B0 24 #[.int .i64 cols, v'] ∧ OwnL (w7.setCell ⟨B0, 1, none⟩ v') B0 v' (done ++ [y]) ∧ NewOf (w7.setCell ⟨B0, 1, none⟩ v') B0 lv (done ++ [y]) ∧ Below B0 wo (w7.setCell ⟨B0, 1, none⟩ v') := by
  have hb6 := hb.trans ((below_alloc wz (.cells lc 61)).mono hb.size)
  have own6 := hown.kept hb6
  have box6 := hbo.below hb6 hbo.lt
  have box7 := box6.grown hg (own6.not_box box6 (by decide))
  have hlt := hbo.lt
  refine ⟨box7.set (i := 1) v', h7.set box7 (by decide) _, fun x hx => ?_, ?_⟩
  · rw [List.mem_append, List.mem_singleton] at hx
    rcases hx with hx | rfl
    · exact (hn x hx).imp id fun h => ((h.below hb6 (Nat.le_refl _)).grown own6 hg).set box7 (by decide) _
    · exact hy.imp id fun h => ((h.below (below_alloc wz _) (Nat.le_refl _)).grown own6 hg).set box7 (by decide) _
  · exact below_set ((hbr.trans (hb6.mono (by omega))).trans ((Below.refl B0 _).grown hg (by have := hb6.size; omega) (fun q hq => (World.ownsRow.lt own6 q hq).1))) (Nat.le_refl _) _
theorem scr_zero (ls : List Ln) (f i cols : Nat) (a : At) : scrL ls f 0 i cols a = ls := by
  unfold scrL
  rw [Nat.add_zero, List.take_append_drop, List.replicate_zero, List.append_nil, List.take_append_drop]
def DwnPost (W : World) (C : Nat) (tgt : List Ln) (e : Ending) (w' : World) : Prop :=
  ∃ v' lv', e = .returned (.agg #[.int .i64 (C : Int), v']) ∧ lv'.map Prod.fst = tgt ∧ LR w' v' lv' ∧ CesOf w' lv' ∧ Below W.heap.size W w'
/-- What holds at a round's head. -/
def DwRel (W wr : World) (C n : Nat) (it : List Ln) (fg bg fl : Int) : Prop :=
  ∃ gg og gc lvk, Box wr W.heap.size 24 #[.int .i64 (C : Int), .slice (some ⟨gg, og, none⟩) n gc] ∧ LR wr (.slice (some ⟨gg, og, none⟩) n gc) lvk ∧ CesOf wr lvk ∧ lvk.map Prod.fst = it ∧ Box wr (W.heap.size + 1) 26 #[.int .i64 fg, .int .i64 bg, .int .i64 fl] ∧ Box wr (W.heap.size + 1 + 1) 24 #[.int .i64 0, .slice none 0 0] ∧ Below W.heap.size W wr
def InRel (wo wr : World) (C : Nat) (lvk : List (Ln × Value)) (tgt : List Ln) : Prop :=
  ∃ ov done, Box wr wo.heap.size 24 #[.int .i64 (C : Int), ov] ∧ OwnL wr wo.heap.size ov done ∧ done.map Prod.fst = tgt ∧ NewOf wr wo.heap.size lvk done ∧ Below wo.heap.size wo wr

set_option maxRecDepth 100000 in
set_option maxHeartbeats 4000000 in
theorem rDown_any (C T B K : Nat) (num : Int) (a : At) (v : Value) (lv : List (Ln × Value)) (W : World) (hr : LR W v lv) (hc : CesOf W lv) (hTB : T ≤ B) (hB : B < lv.length) (hl : lv.length ≤ 50) (hC : C ≤ 80) (hK : (num ≤ (B : Int) - (T : Int) + 1 ∧ num = K) ∨ ((B : Int) - (T : Int) + 1 < num ∧ (K : Int) = (B : Int) - (T : Int) + 1)) :
    Calls Tryd.prog 16 #[.agg #[.int .i64 (C : Int), v], .int .i64 (T : Int), .int .i64 (B : Int), .int .i64 num, a.agg] W (DwnPost W C (scrL (lv.map Prod.fst) (B + 1 - K) K T C a)) := by
  obtain ⟨A, c0, rfl, hcap, hA⟩ := id hr
  obtain ⟨g, o_, rfl, _, _⟩ := hA (by intro e; rw [e] at hB; simp at hB)
  clear hA
  obtain ⟨n, hnl⟩ : ∃ n, lv.length = n := ⟨_, rfl⟩
  obtain ⟨it, hit⟩ : ∃ it : Nat → List Ln, (fun k => scrL (lv.map Prod.fst) (B + 1 - k) k T C a) = it := ⟨_, rfl⟩
  have hit' : ∀ k, scrL (lv.map Prod.fst) (B + 1 - k) k T C a = it k := fun k => by rw [← hit]
  have h0it : it 0 = lv.map Prod.fst := by rw [← hit', scr_zero]
  have hnext : ∀ k, k < B - T + 1 → dnP T B (bareN C a) (it k) n = it (k + 1) := fun k hk => by
    rw [← hit', ← hit']
    have := dn_step (ls := lv.map Prod.fst) (cols := C) (a := a) hTB (by rw [List.length_map]; exact hB) hk
    rwa [List.length_map, hnl] at this
  have hbare := fun w => rBare_any C a w (by omega)
  unfold BarePost at hbare
  have hbn : (⟨List.replicate C (blkC a), false⟩ : Ln) = bareN C a := rfl
  obtain ⟨bn, hbn2⟩ : ∃ bn, bareN C a = bn := ⟨_, rfl⟩
  rw [hbn2] at hnext hbn
  obtain ⟨bl, hbl⟩ : ∃ bl, List.replicate C (blkC a) = bl := ⟨_, rfl⟩
  rw [hbl] at hbare hbn
  rw [hit' K]
  obtain ⟨fg, bg, fl⟩ := a
  unfold At.agg at hbare ⊢
  simp only at hbare ⊢
  rw [hnl] at hcap hB hl hr ⊢
  have b0 := (((Bxs.nil W).alloc 24 #[.int .i64 (C : Int), .slice (some ⟨g, o_, none⟩) n c0]).alloc 26 #[.int .i64 fg, .int .i64 bg, .int .i64 fl]).alloc 24 #[.int .i64 0, .slice none 0 0]
  simp only [World.size_alloc, List.nil_append, List.cons_append] at b0
  have h0 : Below W.heap.size W (((W.alloc (.cells #[.int .i64 (C : Int), .slice (some ⟨g, o_, none⟩) n c0] 24)).alloc (.cells #[.int .i64 fg, .int .i64 bg, .int .i64 fl] 26)).alloc (.cells #[.int .i64 0, .slice none 0 0] 24)) := ((below_alloc _ _).alloc (by simp) _).alloc (by simp; omega) _
  have hst : DwRel W (((W.alloc (.cells #[.int .i64 (C : Int), .slice (some ⟨g, o_, none⟩) n c0] 24)).alloc (.cells #[.int .i64 fg, .int .i64 bg, .int .i64 fl] 26)).alloc (.cells #[.int .i64 0, .slice none 0 0] 24)) C n (it 0) fg bg fl :=
    ⟨g, o_, c0, lv, b0.get 0 rfl, hr.below h0, hc.below h0, h0it.symm, b0.get 1 rfl, b0.get 2 rfl, h0⟩
  have HST := hid hst
  have HNX := hid hnext
  have HBA := hid hbare
  have HBN := hid hbn
  have hKn : (K : Int) ≤ num := by omega
  have hKb : (K : Int) ≤ (B : Int) - (T : Int) + 1 := by omega
  have hKe : num ≤ K ∨ (K : Int) = (B : Int) - (T : Int) + 1 := by omega
  have hKl : K ≤ B - T + 1 := by omega
  have hTi : (T : Int) ≤ B := by omega
  have hBi : (B : Int) < n := by omega
  clear b0 h0 hst hnext hbare hbn hit hit' h0it hc hr hcap hnl hbn2 hbl hK
  go_enter Tryd.func16, Tryd.ntmps16
  go_wp2
  go_loopw [11] (fun iv wr => ∃ k : Nat, k ≤ K ∧ iv = .int .i64 k ∧ DwRel W wr C n (it k) fg bg fl) (fun i _ => K - (intOf i).toNat)
  case atStart => exact ⟨0, by omega, rfl, HST.out⟩
  case round =>
    obtain ⟨k, hk, rfl, hrel⟩ := hrel
    obtain ⟨wo, rfl⟩ : ∃ wo : World, wo = wr := ⟨_, rfl⟩
    obtain ⟨gg, og, gc, lvk, hbg, hlr, hce, hmp, hba, hbz, hbW⟩ := hrel
    obtain ⟨⟨k0, k1⟩, f0, f1⟩ := hbg.two
    obtain ⟨⟨a0, a1, a2⟩, e0, e1, e2⟩ := hba.three
    have hszo : W.heap.size + 1 + 1 < wo.heap.size := hbz.lt
    have hs0 : W.heap.size < wo.heap.size := by omega
    have hs1 : W.heap.size + 1 < wo.heap.size := by omega
    by_cases hlt : k < K
    · have hk1 : (k : Int) < num := by omega
      have hk2 : (k : Int) ≤ (B : Int) - (T : Int) := by omega
      have hkb : (k : Int) ≤ 50 := by omega
      have hlk : lvk.length = n := by have := hlr.len; omega
      have hstart : InRel wo (wo.alloc (.cells #[.int .i64 (C : Int), .slice none 0 0] 24)) C lvk (dnP T B bn (it k) 0) := ⟨_, [], Box.new _ _ _, OwnL.nil _ _, rfl, fun x hx => by simp at hx, below_alloc _ _⟩
      have HS0 := hid hstart
      have HBG := hid hbg
      have HLR := hid hlr
      have HCE := hid hce
      have HMP := hid hmp
      have HBAT := hid hba
      have HBZ := hid hbz
      have HBW := hid hbW
      have HLK := hid hlk
      clear hstart hbg hlr hce hmp hba hbz hbW hlk
      go_wp2
      clear k0 k1 f0 f1 a0 a1 a2 e0 e1 e2
      go_loopw [33] (fun iv wr => ∃ i : Nat, i ≤ n ∧ iv = .int .i64 i ∧ InRel wo wr C lvk (dnP T B bn (it k) i)) (fun i _ => n - (intOf i).toNat)
      case atStart => exact ⟨0, by omega, rfl, HS0.out⟩
      case round =>
        obtain ⟨i, hi, rfl, ov, done, hbo, hown, hmap, hnew, hbr⟩ := hrel
        obtain ⟨oA, oc, hov⟩ := hown.spell
        obtain ⟨dl, hdl⟩ : ∃ dl, done.length = dl := ⟨_, rfl⟩
        rw [hdl] at hov
        subst hov
        obtain ⟨⟨n0, n1⟩, nf0, nf1⟩ := hbo.two
        obtain ⟨⟨k0, k1⟩, f0, f1⟩ := (HBG.out.below hbr (by omega)).two
        obtain ⟨⟨a0, a1, a2⟩, e0, e1, e2⟩ := (HBAT.out.below hbr (by omega)).three
        by_cases hin : i < n
        · have hii : (i : Int) < n := by omega
          have hi0 : (0 : Int) ≤ i := by omega
          have hib : (i : Int) ≤ 50 := by omega
          have hil : i < lvk.length := by rw [HLK.out]; exact hin
          have hx := List.getElem?_eq_getElem hil
          have hdn : dnP T B bn (it k) (i + 1) = dnP T B bn (it k) i ++ (if i = T then [bn] else []) ++ (if i = B then [] else [(lvk[i]).1]) := by
            rw [dnP]
            congr 1
            split
            · rfl
            · rw [← HMP.out, List.getElem?_map, hx]; rfl
          have hdle : dl ≤ n + 1 := by
            have h1 := congrArg List.length hmap
            rw [List.length_map, hdl, dnP_length hTB i (by rw [← HMP.out, List.length_map]; omega)] at h1
            split at h1
            · omega
            · split at h1 <;> omega
          obtain ⟨_, _, hle, _, hcell⟩ := HLR.out
          rw [HLK.out] at hle
          cases hle
          obtain ⟨g2, o2, he2, hg2, hcell⟩ := hcell (by intro e; rw [e] at hil; simp at hil)
          cases he2
          obtain ⟨p0, p1⟩ := hcell i _ hx
          have p0 := (hbr.cell (p := ⟨gg, og + i * 2, none⟩) hg2).trans p0
          have p1 := (hbr.cell (p := ⟨gg, og + i * 2 + 1, none⟩) hg2).trans p1
          have hce := HCE.out lvk[i] (List.getElem_mem _)
          have hmem : lvk[i] ∈ lvk := List.getElem_mem _
          generalize lvk[i] = x at *
          obtain ⟨⟨cs, soft⟩, cv⟩ := x
          simp only at p0 p1 hce hdn
          obtain ⟨cA, cc, rfl⟩ := hce.spell
          obtain ⟨cl, hcl⟩ : ∃ cl, cs.length = cl := ⟨_, rfl⟩
          rw [hcl] at p0 hce hmem
          have HX := hid hmem
          have HCX := hid hce
          have HDN := hid hdn
          have HBO := hid hbo
          have HOWN := hid hown
          have HMAP := hid hmap
          have HNEW := hid hnew
          have HBR := hid hbr
          have HDL := hid hdl
          have hB0 : wo.heap.size < wr.heap.size := hbo.lt
          have hw0 : W.heap.size < wr.heap.size := by omega
          have hw1 : W.heap.size + 1 < wr.heap.size := by omega
          clear hx hcell hce hmem hdn hbo hown hmap hnew hbr hdl hil hcl
          have hways : (¬ i = T ∧ ¬ i = B) ∨ (¬ i = T ∧ i = B) ∨ (i = T ∧ ¬ i = B) ∨ (i = T ∧ i = B) := by omega
          have hb8 := below_alloc wr (.cells #[.slice cA cl cc, .bool soft] 61)
          have HB8 := hid hb8
          have hbw8 := HBR.out.trans (hb8.mono HBR.out.size)
          have HBW8 := hid hbw8
          clear hb8 hbw8
          rcases hways with ⟨hT, hB⟩ | ⟨hT, hB⟩ | ⟨hT, hB⟩ | ⟨hT, hB⟩
          · have bT1 : ((i : Int) == (T : Int)) = false := by (rw [beq_eq_false_iff_ne]; omega)
            have bT2 : (i == T) = false := by simp [hT]
            have bT3 : ((i : Int) != (T : Int)) = true := by unfold bne; rw [bT1]; rfl
            have bT4 : (i != T) = true := by unfold bne; rw [bT2]; rfl
            have HT := hid hT
            clear hT
            have bB1 : ((i : Int) == (B : Int)) = false := by (rw [beq_eq_false_iff_ne]; omega)
            have bB2 : (i == B) = false := by simp [hB]
            have bB3 : ((i : Int) != (B : Int)) = true := by unfold bne; rw [bB1]; rfl
            have bB4 : (i != B) = true := by unfold bne; rw [bB2]; rfl
            have HB := hid hB
            clear hB
            have hol : Box (wr.alloc (.cells #[.slice cA cl cc, .bool soft] 61)) wo.heap.size 24 #[.int .i64 (C : Int), .slice oA dl oc] := HBO.out.alloc _
            have HOL := hid hol
            clear hol
            have hcsa : CesOf ((wr.alloc (.cells #[.slice cA cl cc, .bool soft] 61)).alloc (.cells #[.slice cA cl cc, .bool soft] 61)) [((⟨cs, soft⟩ : Ln), (.slice cA cl cc : Value))] := by
              intro y hy
              rw [List.mem_singleton] at hy
              subst hy
              exact HCX.out.below (HBW8.out.trans ((below_alloc _ _).mono HBW8.out.size))
            have hlla := ln_lit (wr.alloc (.cells #[.slice cA cl cc, .bool soft] 61)) ((⟨cs, soft⟩ : Ln), (.slice cA cl cc : Value))
            simp only [World.size_alloc] at hlla
            have howa : OwnL ((wr.alloc (.cells #[.slice cA cl cc, .bool soft] 61)).alloc (.cells #[.slice cA cl cc, .bool soft] 61)) wo.heap.size (.slice oA dl oc) done := (HOWN.out.kept HB8.out).kept (below_alloc _ _)
            have HCSa := hid hcsa
            have HLLa := hid hlla
            have HOWa := hid howa
            clear hcsa hlla howa
            go_upto_region 12 with (at_builtin; refine wpList_append_ln rfl _ _ rfl wo.heap.size _ _ (done) [((⟨cs, soft⟩ : Ln), (.slice cA cl cc : Value))] rfl HOWa.out rfl HLLa.out HCSa.out (by rw [HDL.out]; simp; omega) (by have := HBW8.out.size; simp; omega) ?_; intro v2 w2 g1 g2; obtain ⟨A2, c2, hv2⟩ := g1.spell; rw [List.length_append, HDL.out, List.length_singleton] at hv2; subst hv2; have G1 := hid g1; have G2 := hid g2; clear g1 g2; have hb2 := (HOL.out.alloc (.cells #[.slice cA cl cc, .bool soft] 61)).grown G2.out (OwnL.not_box HOWa.out (HOL.out.alloc (.cells #[.slice cA cl cc, .bool soft] 61)) (by decide)); obtain ⟨⟨m0, m1⟩, mf0, mf1⟩ := hb2.two)
            have hst := row_step HBO.out HOWN.out HNEW.out HB8.out (.inl HX.out) G1.out G2.out HBR.out
            clear m0 m1 mf0 mf1
            have HST2 := hid hst
            clear hst hb2
            go_wp2
            go_roundw
            case rel =>
              obtain ⟨q1, q2, q3, q4⟩ := HST2.out
              exact ⟨i + 1, by omega, by go_num, _, _, q1, q2, by rw [HDN.out, if_neg HT.out, if_neg HB.out, List.append_nil, List.map_append, HMAP.out]; rfl, q3, q4⟩
            case measure => simp [intOf]; omega
          · have bT1 : ((i : Int) == (T : Int)) = false := by (rw [beq_eq_false_iff_ne]; omega)
            have bT2 : (i == T) = false := by simp [hT]
            have bT3 : ((i : Int) != (T : Int)) = true := by unfold bne; rw [bT1]; rfl
            have bT4 : (i != T) = true := by unfold bne; rw [bT2]; rfl
            have HT := hid hT
            clear hT
            have bB1 : ((i : Int) == (B : Int)) = true := by simp [hB]
            have bB2 : (i == B) = true := by simp [hB]
            have bB3 : ((i : Int) != (B : Int)) = false := by unfold bne; rw [bB1]; rfl
            have bB4 : (i != B) = false := by unfold bne; rw [bB2]; rfl
            have HB := hid hB
            clear hB
            go_wp2
            go_roundw
            case rel => exact ⟨i + 1, by omega, by go_num, _, done, HBO.out.alloc _, HOWN.out.kept HB8.out, by rw [HDN.out, if_neg HT.out, if_pos HB.out, List.append_nil, List.append_nil, HMAP.out], HNEW.out.below HB8.out (Nat.le_refl _), HBW8.out⟩
            case measure => simp [intOf]; omega
          · have bT1 : ((i : Int) == (T : Int)) = true := by simp [hT]
            have bT2 : (i == T) = true := by simp [hT]
            have bT3 : ((i : Int) != (T : Int)) = false := by unfold bne; rw [bT1]; rfl
            have bT4 : (i != T) = false := by unfold bne; rw [bT2]; rfl
            have HT := hid hT
            clear hT
            have bB1 : ((i : Int) == (B : Int)) = false := by (rw [beq_eq_false_iff_ne]; omega)
            have bB2 : (i == B) = false := by simp [hB]
            have bB3 : ((i : Int) != (B : Int)) = true := by unfold bne; rw [bB1]; rfl
            have bB4 : (i != B) = true := by unfold bne; rw [bB2]; rfl
            have HB := hid hB
            clear hB
            have hd0 : Below wr.heap.size wr (wr.alloc (.cells #[.slice cA cl cc, .bool soft] 61)).drew := HB8.out.drew
            have hlb0 : Box (wr.alloc (.cells #[.slice cA cl cc, .bool soft] 61)) wr.heap.size 61 #[.slice cA cl cc, .bool soft] := Box.new _ _ _
            have HLB0 := hid hlb0
            clear hlb0
            go_upto_region 9 with fail
            first | go_region_law (first | (go_simp; go_at_call 46; refine (HBA.out _).mono ?_; rintro e w5 ⟨vb, rfl, hcb, hb5⟩; have hd5 := hd0.trans (hb5.mono hd0.size); obtain ⟨Ab, kb, cb, hvb⟩ : ∃ Ab kb cb, vb = .slice Ab kb cb := (by obtain ⟨Ab, cb, h⟩ := hcb.row.spell; exact ⟨_, _, _, h⟩); subst hvb; have hcb5 := hid (hcb.mono (Nat.le_trans HBR.out.size hd0.size)); clear hcb; obtain ⟨⟨n0, n1⟩, nf0, nf1⟩ := (HBO.out.below hd5 HBO.out.lt).two; have hlt6 : wo.heap.size < w5.heap.size := Nat.lt_of_lt_of_le hB0 hd5.size; have hd6 := hid (hd5.trans ((below_alloc w5 (.cells #[.slice Ab kb cb, .bool false] 61)).mono hd5.size)); have hlit := ln_lit w5 ((⟨bl, false⟩ : Ln), (.slice Ab kb cb : Value)); simp only at hlit; have HLIT := hid hlit; clear hlit) | (refine step_append_ln rfl _ _ rfl wo.heap.size _ _ done [((⟨bl, false⟩ : Ln), (.slice Ab kb cb : Value))] rfl (HOWN.out.kept hd6.out) rfl HLIT.out (by intro y hy; rw [List.mem_singleton] at hy; subst hy; exact hcb5.out.row.below (below_alloc _ _)) (by rw [HDL.out]; simp; omega) (by have := hd6.out.size; omega) ?_; intro v7 w7 h1 h2; obtain ⟨A7, c7, hv7⟩ := h1.spell; rw [List.length_append, HDL.out, List.length_singleton] at hv7; subst hv7; have H1 := hid h1; have H2 := hid h2; clear h1 h2; have hb7 := (HBO.out.below hd6.out HBO.out.lt).grown H2.out (OwnL.not_box (HOWN.out.kept hd6.out) (HBO.out.below hd6.out HBO.out.lt) (by decide)); obtain ⟨⟨m0, m1⟩, mf0, mf1⟩ := hb7.two)) | fail
            all_goals
              have hst9 := row_step HBO.out HOWN.out HNEW.out hd5 (.inr hcb5.out) H1.out H2.out HBR.out
              obtain ⟨q1, q2, q3, q4⟩ := hst9
              clear m0 m1 mf0 mf1
              have hne : some wr.heap.size ≠ (Value.slice oA dl oc).ownBlock := fun e => by have := (World.ownsRow.lt HOWN.out _ e.symm).2; omega
              have hlb5 : Box w5 wr.heap.size 61 #[.slice cA cl cc, .bool soft] := HLB0.out.drew.below hb5 HLB0.out.lt
              have hlb7 := ((hlb5.alloc (.cells #[.slice Ab kb cb, .bool false] 61)).grown H2.out hne).other (b' := wo.heap.size) (i := 1) (by omega) (.slice A7 (dl + 1) c7)
              obtain ⟨⟨l0, l1⟩, lf0, lf1⟩ := hlb7.two
              obtain ⟨⟨n0, n1⟩, nf0, nf1⟩ := q1.two
              have Q1 := hid q1
              have Q2 := hid q2
              have Q3 := hid q3
              have Q4 := hid q4
              have hlz : wo.heap.size < (w7.setCell ⟨wo.heap.size, 1, none⟩ (.slice A7 (dl + 1) c7)).heap.size := q1.lt
              have hly : wr.heap.size < (w7.setCell ⟨wo.heap.size, 1, none⟩ (.slice A7 (dl + 1) c7)).heap.size := hlb7.lt
              clear q1 q2 q3 q4 hb7 hlb5 hlb7 hne
              go_upto_region 11 with fail
              generalize (w7.setCell ⟨wo.heap.size, 1, none⟩ (.slice A7 (dl + 1) c7)) = w9 at *
              have HD9 : Hid ((done ++ [((⟨bl, false⟩ : Ln), (.slice Ab kb cb : Value))]).length = dl + 1) := by unfold Hid; rw [List.length_append, HDL.out, List.length_singleton]
              have hcsc : CesOf (w9.alloc (.cells #[.slice cA cl cc, .bool soft] 61)) [((⟨cs, soft⟩ : Ln), (.slice cA cl cc : Value))] := by
                intro y hy
                rw [List.mem_singleton] at hy
                subst hy
                exact HCX.out.below (Q4.out.trans ((below_alloc _ _).mono Q4.out.size))
              have hllc := ln_lit w9 ((⟨cs, soft⟩ : Ln), (.slice cA cl cc : Value))
              simp only at hllc
              have howc : OwnL (w9.alloc (.cells #[.slice cA cl cc, .bool soft] 61)) wo.heap.size (.slice A7 (dl + 1) c7) (done ++ [((⟨bl, false⟩ : Ln), (.slice Ab kb cb : Value))]) := Q2.out.kept (below_alloc _ _)
              have HCSc := hid hcsc
              have HLLc := hid hllc
              have HOWc := hid howc
              clear hcsc hllc howc
              go_upto_region 12 with (at_builtin; refine wpList_append_ln rfl _ _ rfl wo.heap.size _ _ ((done ++ [((⟨bl, false⟩ : Ln), (.slice Ab kb cb : Value))])) [((⟨cs, soft⟩ : Ln), (.slice cA cl cc : Value))] rfl HOWc.out rfl HLLc.out HCSc.out (by rw [HD9.out]; simp; omega) (by have := Q4.out.size; simp; omega) ?_; intro v2 w2 g1 g2; obtain ⟨A2, c2, hv2⟩ := g1.spell; rw [List.length_append, HD9.out, List.length_singleton] at hv2; subst hv2; have G1 := hid g1; have G2 := hid g2; clear g1 g2; have hb2 := (Q1.out.alloc (.cells #[.slice cA cl cc, .bool soft] 61)).grown G2.out (OwnL.not_box HOWc.out (Q1.out.alloc (.cells #[.slice cA cl cc, .bool soft] 61)) (by decide)); obtain ⟨⟨m0, m1⟩, mf0, mf1⟩ := hb2.two)
              have hst := row_step Q1.out Q2.out Q3.out (Below.refl _ _) (.inl HX.out) G1.out G2.out Q4.out
              clear m0 m1 mf0 mf1
              have HST2 := hid hst
              clear hst hb2
              go_wp2
              go_roundw
              case rel =>
                obtain ⟨q1, q2, q3, q4⟩ := HST2.out
                exact ⟨i + 1, by omega, by go_num, _, _, q1, q2, by rw [HDN.out, if_pos HT.out, if_neg HB.out, List.map_append, List.map_append, HMAP.out, ← HBN.out]; rfl, q3, q4⟩
              case measure => simp [intOf]; omega
          · have bT1 : ((i : Int) == (T : Int)) = true := by simp [hT]
            have bT2 : (i == T) = true := by simp [hT]
            have bT3 : ((i : Int) != (T : Int)) = false := by unfold bne; rw [bT1]; rfl
            have bT4 : (i != T) = false := by unfold bne; rw [bT2]; rfl
            have HT := hid hT
            clear hT
            have bB1 : ((i : Int) == (B : Int)) = true := by simp [hB]
            have bB2 : (i == B) = true := by simp [hB]
            have bB3 : ((i : Int) != (B : Int)) = false := by unfold bne; rw [bB1]; rfl
            have bB4 : (i != B) = false := by unfold bne; rw [bB2]; rfl
            have HB := hid hB
            clear hB
            have hd0 : Below wr.heap.size wr (wr.alloc (.cells #[.slice cA cl cc, .bool soft] 61)).drew := HB8.out.drew
            have hlb0 : Box (wr.alloc (.cells #[.slice cA cl cc, .bool soft] 61)) wr.heap.size 61 #[.slice cA cl cc, .bool soft] := Box.new _ _ _
            have HLB0 := hid hlb0
            clear hlb0
            go_upto_region 9 with fail
            first | go_region_law (first | (go_simp; go_at_call 46; refine (HBA.out _).mono ?_; rintro e w5 ⟨vb, rfl, hcb, hb5⟩; have hd5 := hd0.trans (hb5.mono hd0.size); obtain ⟨Ab, kb, cb, hvb⟩ : ∃ Ab kb cb, vb = .slice Ab kb cb := (by obtain ⟨Ab, cb, h⟩ := hcb.row.spell; exact ⟨_, _, _, h⟩); subst hvb; have hcb5 := hid (hcb.mono (Nat.le_trans HBR.out.size hd0.size)); clear hcb; obtain ⟨⟨n0, n1⟩, nf0, nf1⟩ := (HBO.out.below hd5 HBO.out.lt).two; have hlt6 : wo.heap.size < w5.heap.size := Nat.lt_of_lt_of_le hB0 hd5.size; have hd6 := hid (hd5.trans ((below_alloc w5 (.cells #[.slice Ab kb cb, .bool false] 61)).mono hd5.size)); have hlit := ln_lit w5 ((⟨bl, false⟩ : Ln), (.slice Ab kb cb : Value)); simp only at hlit; have HLIT := hid hlit; clear hlit) | (refine step_append_ln rfl _ _ rfl wo.heap.size _ _ done [((⟨bl, false⟩ : Ln), (.slice Ab kb cb : Value))] rfl (HOWN.out.kept hd6.out) rfl HLIT.out (by intro y hy; rw [List.mem_singleton] at hy; subst hy; exact hcb5.out.row.below (below_alloc _ _)) (by rw [HDL.out]; simp; omega) (by have := hd6.out.size; omega) ?_; intro v7 w7 h1 h2; obtain ⟨A7, c7, hv7⟩ := h1.spell; rw [List.length_append, HDL.out, List.length_singleton] at hv7; subst hv7; have H1 := hid h1; have H2 := hid h2; clear h1 h2; have hb7 := (HBO.out.below hd6.out HBO.out.lt).grown H2.out (OwnL.not_box (HOWN.out.kept hd6.out) (HBO.out.below hd6.out HBO.out.lt) (by decide)); obtain ⟨⟨m0, m1⟩, mf0, mf1⟩ := hb7.two)) | fail
            all_goals
              have hst9 := row_step HBO.out HOWN.out HNEW.out hd5 (.inr hcb5.out) H1.out H2.out HBR.out
              obtain ⟨q1, q2, q3, q4⟩ := hst9
              clear m0 m1 mf0 mf1
              have Q1 := hid q1
              have Q2 := hid q2
              have Q3 := hid q3
              have Q4 := hid q4
              clear q1 q2 q3 q4 hb7
              go_wp2
              go_roundw
              case rel => exact ⟨i + 1, by omega, by go_num, _, _, Q1.out, Q2.out, by rw [HDN.out, if_pos HT.out, if_pos HB.out, List.append_nil, List.map_append, HMAP.out, ← HBN.out]; rfl, Q3.out, Q4.out⟩
              case measure => simp [intOf]; omega
        · have hin' : i = n := by omega
          subst hin'
          rw [HNX.out k (by omega)] at hmap
          have hitl : (it k).length = i := by rw [← HMP.out, List.length_map, HLK.out]
          have hlk2 := dn_length (b := bn) (l := it k) hTB (by rw [hitl]; exact hB)
          rw [hitl, HNX.out k (by omega)] at hlk2
          have hdi : dl = i := by rw [← hdl, ← hlk2, ← hmap, List.length_map]
          subst hdi
          obtain ⟨g3, o3, hg3⟩ := hown.lsl.row.first (by rw [hdl]; omega)
          subst hg3
          have hg2 := HBG.out.below hbr (by omega)
          have hlr2 := ((hown.lsl.row).setg hg2 (i := 0) (.int .i64 (C : Int))).setg (hg2.set (i := 0) _) (i := 1) (.slice (some ⟨g3, o3, none⟩) dl oc)
          have hce2 := ((hnew.ces (HCE.out.below hbr)).setg hg2 (i := 0) (.int .i64 (C : Int))).setg (hg2.set (i := 0) _) (i := 1) (.slice (some ⟨g3, o3, none⟩) dl oc)
          have hba2 := ((HBAT.out.below hbr (by omega)).other (b' := W.heap.size) (i := 0) (by omega) (.int .i64 (C : Int))).other (b' := W.heap.size) (i := 1) (by omega) (.slice (some ⟨g3, o3, none⟩) dl oc)
          have hbz2 := ((HBZ.out.below hbr (by omega)).other (b' := W.heap.size) (i := 0) (by omega) (.int .i64 (C : Int))).other (b' := W.heap.size) (i := 1) (by omega) (.slice (some ⟨g3, o3, none⟩) dl oc)
          have hbw2 := below_set (below_set (HBW.out.trans (hbr.mono (by omega))) (Nat.le_refl _) (i := 0) (.int .i64 (C : Int))) (Nat.le_refl _) (i := 1) (.slice (some ⟨g3, o3, none⟩) dl oc)
          have hrelN : DwRel W ((wr.setCell ⟨W.heap.size, 0, none⟩ (.int .i64 (C : Int))).setCell ⟨W.heap.size, 1, none⟩ (.slice (some ⟨g3, o3, none⟩) dl oc)) C dl (it (k + 1)) fg bg fl :=
            ⟨g3, o3, oc, done, (hg2.set (i := 0) _).set (i := 1) _, hlr2, hce2, hmap, hba2, hbz2, hbw2⟩
          have HRN := hid hrelN
          have hb0 : W.heap.size < wr.heap.size := by have := hbr.size; omega
          clear hg2 hlr2 hce2 hba2 hbz2 hbw2 hrelN hown hnew hbo hbr hmap hlk2 hitl hdl
          go_wp2
          go_roundw
          case rel => exact ⟨k + 1, by omega, by go_num, HRN.out⟩
          case measure => simp [intOf]; omega
    · have hkK : k = K := by omega
      subst hkK
      have hfin : DwnPost W C (it k) (.returned (.agg #[.int .i64 (C : Int), .slice (some ⟨gg, og, none⟩) n gc])) ((wo.setCell ⟨W.heap.size + 1 + 1, 0, none⟩ (.int .i64 (C : Int))).setCell ⟨W.heap.size + 1 + 1, 1, none⟩ (.slice (some ⟨gg, og, none⟩) n gc)) :=
        ⟨_, lvk, rfl, hmp, (hlr.setg hbz (i := 0) _).setg (hbz.set (i := 0) _) (i := 1) _, (hce.setg hbz (i := 0) _).setg (hbz.set (i := 0) _) (i := 1) _, below_set (below_set hbW (by omega) _) (by omega) _⟩
      have HFIN := hid hfin
      obtain ⟨⟨z0, z1⟩, y0, y1⟩ := hbz.two
      have hko : ¬ ((k : Int) < num) ∨ ((k : Int) < num ∧ ¬ ((k : Int) ≤ (B : Int) - (T : Int))) := by omega
      clear hfin hlr hce hmp hbg hba hbz hbW hlt hk
      rcases hko with hk1 | ⟨hk1, hk2⟩
      all_goals
        go_wp2
        refine bodyPost_ret (v := .agg #[.int .i64 (C : Int), .slice (some ⟨gg, og, none⟩) n gc]) (by simp [results, Tryd.results16, go_sem, z0, z1]) rfl ?_
        exact HFIN.out
theorem refDown_out (cols top bot num : Int) (a : At) (v : Value) (lv : List (Ln × Value)) (W : World) (hg : GIn W v lv) (h : scrollOk cols lv top bot num a = true) :
    Calls Tryd.prog 16 #[.agg #[.int .i64 cols, v], .int .i64 top, .int .i64 bot, .int .i64 num, a.agg] W (DwnPost W cols.toNat (downT (lv.map Prod.fst) cols top bot num a)) := by
  obtain ⟨C, T, Bn, M, rfl, rfl, rfl, p1, p2, p3, p4, p5, p6, p7⟩ := scr_parts h
  have := rDown_any C T Bn M num a v lv W hg.lr hg.ces p1 p2 p3 p4 p6
  unfold downT
  rw [p5, Int.toNat_natCast, Int.toNat_natCast, Int.toNat_natCast]
  exact this
end Go.Proofs.YtkejoknphnkhnaaDoor
