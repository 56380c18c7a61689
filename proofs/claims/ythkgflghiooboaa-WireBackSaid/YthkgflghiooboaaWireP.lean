/- The law WireBack, walked. -/
import Derived.Test.YthkgflghiooboaaWireL
import Derived.Test.YthkgflghiooboaaWireS
import Derived.Deep.DeepCutAuto
import Derived.Deep.CutBlock
import Derived.Deep.RegionWith
import Derived.Deep.RegionLaw
namespace Go.Proofs.Ythkgflghiooboaa
open Go.RowKit

/-- The frames of an argument, as they lie. -/
def ARow (W : World) (A : Option Addr) (l : List Fr) : Prop := ∀ k (h : k < l.length), ∃ ad, A = some ad ∧ ad.block < W.heap.size ∧ W.cell? (ad.add (k * 2)) = some (.int .i64 l[k].tag) ∧ W.cell? (ad.add (k * 2 + 1)) = some (.string l[k].text) ∧ l[k].text.size ≤ maxLen
def AInts (W : World) (A : Option Addr) (m : Nat) : Prop := ∀ k, k < m → ∃ ad x, A = some ad ∧ ad.block < W.heap.size ∧ W.cell? (ad.add k) = some (.int .i64 x)

theorem add_succ (a : Addr) (n : Nat) : a.add (n + 1) = ⟨(a.add n).block, (a.add n).off + 1, none⟩ := by
  unfold Addr.add
  rw [if_neg (by omega)]
  split
  · rename_i h; subst h; rfl
  · simp; omega
theorem split_at {s : ByteArray} {n : Nat} (h : n ≤ s.size) : s = s.extract 0 n ++ s.extract n s.size := by
  apply bytes_ext
  · rw [size_append', size_extract', size_extract']; omega
  · intro i hi
    by_cases hin : i < n
    · rw [byteAt_left _ _ _ (by rw [size_extract']; omega), byteAt_extract _ _ _ _ (by omega), Nat.zero_add]
    · have e : i = (s.extract 0 n).size + (i - n) := by rw [size_extract']; omega
      conv => rhs; rw [e]
      rw [byteAt_right _ _ _ (by rw [size_extract']; omega), byteAt_extract _ _ _ _ (by omega)]
      congr 1; omega
theorem step_of (x : Int) : ∃ y, wrap64 (1 + (wrap64 (x.tmod 40 + 40)).tmod 40) = y ∧ 1 ≤ y ∧ y ≤ 40 := by
  have h2 := Int.lt_tmod_of_pos x (b := 40) (by omega)
  have h3 := Int.tmod_lt_of_pos x (b := 40) (by omega)
  have e : wrap64 (x.tmod 40 + 40) = x.tmod 40 + 40 := by unfold wrap64; omega
  rw [e, Int.tmod_eq_emod_of_nonneg (by omega)]
  refine ⟨1 + (x.tmod 40 + 40) % 40, ?_, by omega, by omega⟩
  unfold wrap64; omega

/-- Frames appended to a row of the call's own, as one step of a region that draws. -/
theorem step_append_fr {ops : Array Oper} {o : Oper} {a : Act} {w : World} {K : Act → World → Prop} {Q : Exit → Act → World → Prop} {E : Prop} (hg : o.guard = none) (s x : Operand)
    (ho : o.op = .call { callee := .builtin .append, args := #[s, x], argTypes := #[30, 30] }) (base : Nat) (v xv : Value) (l m : List Fr)
    (hs : a.eval s = v) (hown : w.ownsRow base 23 2 v l.length (flat l)) (hxe : a.eval x = xv) (hx : FRow w xv m) (hb : l.length + m.length ≤ 1000000) (hbase : base ≤ w.heap.size)
    (h : ∀ v' w', w'.ownsRow base 23 2 v' (l ++ m).length (flat (l ++ m)) → w.grownBy w' v.ownBlock → K (a.put o.dst v') w') : if Region.wanted o (yielded ops a.tmps) = true then Oper.wp Try.prog o a w K Q else E := by
  have hw : Region.wanted o (yielded ops a.tmps) = true := by simp [Region.wanted, hg]
  rw [if_pos hw]
  obtain ⟨v', w', hrun, h2, h3⟩ := run_append_fr w base v xv l m hown hx o.type hb hbase
  unfold Oper.wp
  simp [execOp, ho, resolve, invoke, builtin, hs, hxe, hrun, Result.andThen]
  exact h v' w' h2 h3

theorem block_add (a : Addr) (n : Nat) : (a.add n).block = a.block := by unfold Addr.add; split <;> rfl

set_option maxRecDepth 100000 in
set_option maxHeartbeats 4000000 in
theorem back_any (A B : Option Addr) (c1 c2 m : Nat) (l : List Fr) (w : World) (hl : l.length ≤ maxLen) (hA : ARow w A l) (_hm : m ≤ maxLen) (hB : AInts w B m) :
    Calls Try.prog 5 #[.slice A l.length c1, .slice B m c2] w fun e w' => e = .returned (.bool true) ∧ Below w.heap.size w w' := by
  unfold maxLen at hl
  obtain ⟨n, hn⟩ : ∃ n, l.length = n := ⟨_, rfl⟩
  rw [hn] at hl ⊢
  have HN := hid hn
  clear hn
  go_enter Try.func5, Try.ntmps5
  go_upto_block 0 with fail
  go_cut [5, 6] (fun a v wx => a = .string (allOf (sentOf (l.take 6))) ∧ wx.ownsRow w.heap.size 23 2 v (sentOf (l.take 6)).length (flat (sentOf (l.take 6))) ∧ Below w.heap.size w wx)
  case first =>
    clear hB
    go_wp2
    go_loopw [5, 6, 20] (fun a v i wr => ∃ k : Nat, k ≤ n ∧ k ≤ 6 ∧ i = .int .i64 k ∧ a = .string (allOf (sentOf (l.take k))) ∧ wr.ownsRow w.heap.size 23 2 v (sentOf (l.take k)).length (flat (sentOf (l.take k))) ∧ Below w.heap.size w wr) (fun _ _ i _ => n - (intOf i).toNat)
    case atStart => exact ⟨0, by omega, by omega, rfl, rfl, ownsRow_nil' _ _ _ _, Below.refl _ _⟩
    case round =>
      obtain ⟨k, hk, hk6, rfl, rfl, hrow, hb⟩ := hrel
      by_cases hlt : k < n
      · have k1 : k < l.length := by rw [HN.out]; exact hlt
        obtain ⟨ad, rfl, hab, p1, p2, hts⟩ := hA k k1
        have p1 := (hb.cell (p := ad.add (k * 2)) (by rw [block_add]; exact hab)).trans p1
        have p2 := (hb.cell (p := ad.add (k * 2 + 1)) (by rw [block_add]; exact hab)).trans p2
        rw [add_succ] at p2
        have hki : (k : Int) < n := by omega
        have hk0 : (0 : Int) ≤ k := by omega
        have hst := sent_step k1
        generalize l[k] = f at p1 p2 hts hst
        obtain ⟨tag, tx⟩ := f
        have hcf : cutF ⟨tag, tx⟩ = ⟨tag, cutS tx⟩ := rfl
        rw [hcf] at hst
        have hcut := fun W => cut_any tag tx W hts
        have hcz := cutS_size tx
        obtain ⟨c, hc⟩ : ∃ c, cutS tx = c := ⟨_, rfl⟩
        rw [hc] at hcut hcz hst
        have henc := fun W => encode_any tag c W (by omega)
        clear hc hcf hts hA
        by_cases h6 : k < 6
        · have h6' : (k : Int) < 6 := by omega
          cases hmay : mayB tag c.size
          · have e1 : encI tag c = ⟨#[]⟩ := by unfold encI; rw [hmay]; rfl
            have e2 : encE tag c = 1 := by unfold encE; rw [hmay]; rfl
            rw [e1, e2] at henc
            rw [hmay, if_neg (by simp), List.append_nil] at hst
            have HST := hid hst
            clear hst e1 e2 hmay
            go_wp2_with (first | (go_at_call 7; refine (hcut _).mono ?_; rintro e w2 ⟨rfl, hb2⟩) | (go_at_call 8; refine (henc _).mono ?_; rintro e w3 ⟨rfl, hb3⟩))
            have hb23 : Below wr.heap.size wr w3 := (Below.behind hb2).trans (hb3.mono (by have := hb2.size; simp at this; omega))
            go_roundw
            case rel => exact ⟨k + 1, by omega, by omega, by go_num, by rw [HST.out], by rw [HST.out]; exact kept_below hrow hb23, hb.trans (hb23.mono hb.size)⟩
            case measure => simp [intOf]; omega
          · have e1 : encI tag c = encS tag c := by unfold encI; rw [hmay]; rfl
            have e2 : encE tag c = 0 := by unfold encE; rw [hmay]; rfl
            rw [e1, e2] at henc
            rw [hmay, if_pos rfl] at hst
            have HST := hid hst
            have hsl := sentOf_length (l.take k)
            have htk : (l.take k).length ≤ k := List.length_take_le _ _
            have has := allOf_size (sentOf (l.take k)) (sentOf_may _)
            have hez := enc_size tag c
            have HAL : Hid (allOf (sentOf (l.take (k + 1))) = allOf (sentOf (l.take k)) ++ encS tag c) := by unfold Hid; rw [HST.out, allOf_snoc]
            have HFL : Hid (flat (sentOf (l.take (k + 1))) = flat (sentOf (l.take k)) ++ [.int .i64 tag, .string c]) := by unfold Hid; rw [HST.out, flat_append]; rfl
            have HLN : Hid ((sentOf (l.take (k + 1))).length = (sentOf (l.take k)).length + 1) := by unfold Hid; rw [HST.out, List.length_append]; rfl
            have hsum : (allOf (sentOf (l.take k))).size + (encS tag c).size ≤ 9223372036854775807 := by omega
            have hsl6 : (sentOf (l.take k)).length ≤ 6 := by omega
            generalize allOf (sentOf (l.take k)) = a at *
            generalize (sentOf (l.take k)).length = q at *
            generalize flat (sentOf (l.take k)) = fl at *
            generalize encS tag c = es at *
            clear hst e1 e2 hmay HST htk hsl has hez
            obtain ⟨i0, hi, hz0, hz1, hz2⟩ := info_parts info_fr
            have bB := heap_alloc_new wr (.cells #[.int .i64 tag, .string tx] 23)
            go_upto_region 9 with (first | (go_at_call 7; refine (hcut _).mono ?_; rintro e w2 ⟨rfl, hb2⟩) | (go_at_call 8; refine (henc _).mono ?_; rintro e w3 ⟨rfl, hb3⟩))
            have hb13 : Below (wr.alloc (.cells #[.int .i64 tag, .string tx] 23)).heap.size (wr.alloc (.cells #[.int .i64 tag, .string tx] 23)) w3 := hb2.trans (hb3.mono hb2.size)
            have bB3 := (hb13.block _ (by simp)).trans bB
            obtain ⟨⟨x0, x1⟩, x2, x3⟩ := blk2 bB3
            have hbr3 : Below wr.heap.size wr w3 := Below.behind hb13
            have hrow3 := kept_below hrow hbr3
            have hbw3 := hb.trans (hbr3.mono hb.size)
            go_wp2_with (first | (go_at_call 7; refine (hcut _).mono ?_; rintro e w4 ⟨rfl, hb4⟩; have hrow4 := kept_below hrow3 hb4; have hbw4 := hbw3.trans (hb4.mono hbw3.size)) | (at_builtin; refine wpList_append_own _ rfl _ _ 30 rfl w.heap.size 23 i0 (.agg #[.int .i64 0, .string ⟨#[]⟩]) 2 24 Try.underlying30 hi hz0 hz1 hz2 rfl (by decide) _ q fl rfl (hrow4.alloc _) ⟨w4.heap.size, 0, none⟩ 1 1 [.int .i64 tag, .string c] rfl rfl (cell_two_new _ _ _ _) (by simp [Value.oneCell']) (by unfold maxLen; omega) (by omega) (by have := hbw4.size; simp; omega) ?_; intro v' w5 hown' hgrow _))
            have hb5 := (hbw4.alloc hbw4.size _).grown hgrow (by have := hbw4.size; simp; omega) (fun k e => (hrow4.lt k e).1)
            go_roundw
            case rel => exact ⟨k + 1, by omega, by omega, by go_num, by rw [HAL.out], by rw [HFL.out, HLN.out]; exact hown', hb5⟩
            case measure => simp [intOf]; omega
        · have h6' : (6 : Int) ≤ k := by omega
          have HT : Hid (l.take k = l.take 6) := by unfold Hid; rw [show k = 6 by omega]
          clear hcut henc hst
          go_wp2
          go_meet
          exact ⟨by rw [HT.out], by rw [← HT.out]; exact hrow.alloc _, (hb.alloc hb.size _)⟩
      · have HT : Hid (l.take k = l.take 6) := by unfold Hid; rw [List.take_of_length_le (by rw [HN.out]; omega), List.take_of_length_le (by rw [HN.out]; omega)]
        clear hA
        go_wp2
        go_meet
        exact ⟨by rw [HT.out], by rw [← HT.out]; exact hrow, hb⟩
  case rest =>
    clear hA HN
    obtain ⟨hT, hrow1, hb1⟩ := hcut
    have hmay := sentOf_may (l.take 6)
    obtain ⟨rd1, rd2⟩ := allOf_read _ hmay
    have hz := allOf_size _ hmay
    have hsl := sentOf_length (l.take 6)
    have htk : (l.take 6).length ≤ 6 := List.length_take_le _ _
    obtain ⟨sl, hsl'⟩ : ∃ sl, sentOf (l.take 6) = sl := ⟨_, rfl⟩
    rw [hsl'] at hT hrow1 hmay rd1 rd2 hz hsl
    obtain ⟨T, hT'⟩ : ∃ T, allOf sl = T := ⟨_, rfl⟩
    rw [hT'] at hT rd1 rd2 hz
    subst hT
    have hTz : T.size ≤ 3096 := by omega
    have hsl6 : sl.length ≤ 6 := by omega
    clear hsl' hT' hmay hz hsl htk hl
    obtain ⟨W1, rfl⟩ : ∃ W1 : World, W1 = wc := ⟨_, rfl⟩
    have rs1 := FRow.of_own hrow1
    have bd0 := heap_alloc_new W1 (.cells #[.string ⟨#[]⟩, .bool false] 25)
    have R1 := hid rd1
    have R2 := hid rd2
    clear rd1 rd2 hrow1
    have f0 : framesG ⟨#[]⟩ = [] ∧ leftG ⟨#[]⟩ = ⟨#[]⟩ := frames_none known_empty
    go_wp2
    go_loopw [5, 12, 13] (fun a v i wr => ∃ (pre rem : ByteArray) (k : Nat), a = .string rem ∧ T = pre ++ rem ∧ i = .int .i64 k ∧ k + rem.size ≤ T.size ∧ wr.ownsRow W1.heap.size 23 2 v (framesG pre).length (flat (framesG pre)) ∧
      wr.heap[W1.heap.size]? = some (.cells #[.string (leftG pre), .bool false] 25 (0, 0)) ∧ Below W1.heap.size W1 wr) (fun a _ _ _ => strLen a)
    case atStart => exact ⟨⟨#[]⟩, T, 0, rfl, (nil_app T).symm, rfl, by simp, by rw [f0.1]; exact ownsRow_nil' _ _ _ _, by rw [f0.2]; exact bd0, below_alloc _ _⟩
    case round =>
      clear bd0 f0
      obtain ⟨pre, rem, k, rfl, hpr, rfl, hk, hrow, bd, hb⟩ := hrel
      obtain ⟨⟨d0, d1⟩, d2, d3⟩ := blk2 bd
      by_cases h0 : rem.size = 0
      · have hTp : T = pre := by rw [hpr, empty_yes h0, app_nil]
        rw [← hTp, R1.out] at hrow
        rw [← hTp, R2.out] at d0
        have hn : rem.toList.isEmpty = true := by rw [empty_yes h0, ByteArray.toList_eq]; rfl
        have heqD : ∀ W, (binOp .eql 25 (.agg #[.string ⟨#[]⟩, .bool false]) (.agg #[.string ⟨#[]⟩, .bool false])).run Try.prog W = .ok (.bool true) W := fun W => by rw [run_eqlD]; simp
        have hg := FRow.of_own hrow
        have hs := rs1.below hb
        have bd' : wr.heap[W1.heap.size]? = some (.cells #[.string ⟨#[]⟩, .bool false] 25 (0, 0)) := by rw [← R2.out, hTp]; exact bd
        clear hpr hTp h0 hrow bd hB
        go_wp2_with (first | (go_at_call 14; refine (alive_any _).mono ?_; rintro e w7 ⟨rfl, hb7⟩; have bd7 := (hb7.block _ (Array.getElem?_eq_some_iff.1 bd').1).trans bd'; obtain ⟨⟨y0, y1⟩, y2, y3⟩ := blk2 bd7; have hsm := same_any _ _ sl sl w7 (hg.below hb7) (hs.below hb7) (by omega) (by omega)) | (go_at_call 13; refine hsm.mono ?_; rintro e w8 ⟨rfl, hb8⟩))
        go_ret
        exact ⟨rfl, hb1.trans (((hb.trans (hb7.mono hb.size)).trans (hb8.mono (Nat.le_trans hb.size hb7.size))).mono hb1.size)⟩
      · have hn := empty_no h0
        have hdr : rem.size ≤ 3096 := by omega
        have hpz : pre.size + rem.size = T.size := by rw [hpr, size_append']
        have HPR := hid hpr
        clear hpr rs1
        go_upto_if 51 with fail
        go_cut [14] (fun v wx => ∃ x : Int, v = .int .i64 x ∧ 1 ≤ x ∧ x ≤ 40 ∧ wx = wr)
        case first =>
          by_cases hkm : k < m
          · obtain ⟨ad, x, rfl, hab, p1⟩ := hB k hkm
            have p1 := (hb1.cell (p := ad.add k) (by rw [block_add]; exact hab)).trans p1
            have p1 := (hb.cell (p := ad.add k) (by rw [block_add]; have := hb1.size; omega)).trans p1
            have hki : (k : Int) < m := by omega
            have hk0 : (0 : Int) ≤ k := by omega
            clear hB
            go_wp2
            go_meet
            obtain ⟨y, hy, h1, h2⟩ := step_of x
            exact ⟨y, by rw [hy], h1, h2, rfl⟩
          · have hki : (m : Int) ≤ k := by omega
            clear hB
            go_wp2
            go_meet
            exact ⟨1, rfl, by omega, by omega, rfl⟩
        case rest =>
          obtain ⟨x, rfl, hx1, hx2, rfl⟩ := hcut
          obtain ⟨wr, rfl⟩ : ∃ wr : World, wr = wc := ⟨_, rfl⟩
          clear hB
          go_upto_region 19 with fail
          go_cut [14] (fun v wx => ∃ y : Nat, v = .int .i64 y ∧ 1 ≤ y ∧ y ≤ rem.size ∧ wx = wr)
          case first =>
            by_cases hle : x ≤ rem.size
            · go_wp2
              go_meet
              exact ⟨x.toNat, by congr 1; omega, by omega, by omega, rfl⟩
            · have hle' : (rem.size : Int) < x := by omega
              go_wp2
              go_meet
              exact ⟨rem.size, rfl, by omega, by omega, rfl⟩
          case rest =>
            clear hx1 hx2
            obtain ⟨y, rfl, hy1, hy2, rfl⟩ := hcut
            obtain ⟨wr, rfl⟩ : ∃ wr : World, wr = wc := ⟨_, rfl⟩
            obtain ⟨ch, hch⟩ : ∃ ch, rem.extract 0 y = ch := ⟨_, rfl⟩
            obtain ⟨rest, hrest⟩ : ∃ rest, rem.extract y rem.size = rest := ⟨_, rfl⟩
            have hcz : ch.size = y := by rw [← hch, size_extract']; omega
            have hrz : rest.size = rem.size - y := by rw [← hrest, size_extract']; omega
            have hcr : rem = ch ++ rest := by rw [← hch, ← hrest]; exact split_at hy2
            obtain ⟨g1, g2, g3, g4⟩ := feed_next (T := T) (pre := pre) (c := ch) (rest := rest) (by rw [HPR.out, hcr, ByteArray.append_assoc]) R2.out
            have hF := fun W => feed_any (leftG pre) ch false W (by have := leftG_size pre; omega)
            rw [g1] at hF
            have hRt := fun W => right_any (leftG (pre ++ ch)) false W (by unfold maxLen; omega)
            rw [g3] at hRt
            have G2 := hid g2
            have HCR := hid hcr
            have hfl : (framesG pre).length + (framesG (leftG pre ++ ch)).length ≤ 1000000 := by
              have := pairsG_length (pre ++ ch)
              have e : (framesG (pre ++ ch)).length = (pairsG (pre ++ ch)).length := by unfold framesG; rw [List.length_map]
              rw [g2, List.length_append] at e
              rw [size_append'] at this
              omega
            obtain ⟨nb, hnb⟩ : ∃ nb, leftG (pre ++ ch) = nb := ⟨_, rfl⟩
            rw [hnb] at hF hRt g4
            obtain ⟨nf, hnf⟩ : ∃ nf, framesG (leftG pre ++ ch) = nf := ⟨_, rfl⟩
            rw [hnf] at hF G2 hfl
            have HNB := hid hnb
            clear g1 g2 g3 hcr hnf hnb
            have hyi : (y : Int) ≤ rem.size := by omega
            have hy0 : (0 : Int) ≤ y := by omega
            have hlt1 : W1.heap.size < wr.heap.size := (Array.getElem?_eq_some_iff.1 bd).1
            have hne1 : ¬ W1.heap.size = wr.heap.size := by omega
            go_upto_region 20 with fail
            go_cut [15, 16, 17] (fun xv v e wx => ∃ X, xv = .pointer (some ⟨X, 0, none⟩) ∧ wr.heap.size ≤ X ∧ e = .int .i64 0 ∧ wx.heap[X]? = some (.cells #[.string nb, .bool false] 25 (0, 0)) ∧ FRow wx v nf ∧ Below wr.heap.size wr wx)
            case first =>
              first | go_region_with (go_at_call 9; refine (hF _).mono ?_; rintro e w5 ⟨⟨v5, rfl, hr5⟩, hb5⟩; obtain ⟨hc5, hf5⟩ := bcell hb5) | fail
              all_goals go_wp2
              all_goals go_meet
              all_goals
                first
                  | exact ⟨_, rfl, (by have := hb5.size; simpa using this), rfl, heap_alloc_new w5 _, (FRow.of_own hr5).below (below_alloc w5 _), ((Below.refl _ wr).drew.trans hb5).alloc (by have := hb5.size; simpa using this) _⟩
                  | (have bX5 := (hb5.block wr.heap.size (by simp)).trans (heap_alloc_new wr (.cells #[.string ⟨#[]⟩, .bool false] 25))
                     obtain ⟨sb, sg⟩ := stored_two bX5 (.string nb) (.bool false)
                     exact ⟨_, rfl, Nat.le_refl _, rfl, sb, FRow.of_own (hr5.kept sg (.inr (blk_not_row bX5 (by decide) hr5).symm)), ((below_alloc wr _).drew.trans (hb5.mono (by simp))).grown sg (by have := hb5.size; simp at this; omega) (fun k e => by cases e; exact Nat.le_refl _)⟩)
            case rest =>
              obtain ⟨X, rfl, hX, rfl, bX, rX, hbx⟩ := hcut
              have bdc := (hbx.block _ hlt1).trans bd
              have hrowc := kept_below hrow hbx
              have hbc := hb.trans (hbx.mono hb.size)
              have hnbz : (nb.size : Int) ≤ 515 := by omega
              obtain ⟨⟨x0, x1⟩, x2, x3⟩ := blk2 bX
              go_upto_region 23 with (go_at_call 11; refine (hRt _).mono ?_; rintro e w6 ⟨rfl, hb6⟩)
              have bX6 := (hb6.block _ (Array.getElem?_eq_some_iff.1 bX).1).trans bX
              have bd6 := (hb6.block _ (Array.getElem?_eq_some_iff.1 bdc).1).trans bdc
              have hrow6 : (World.drew w6).ownsRow W1.heap.size 23 2 u12 (framesG pre).length (flat (framesG pre)) := kept_below hrowc hb6.drew
              have rX6 : FRow (World.drew w6) u16 nf := rX.below hb6.drew
              have hbw6 := hbc.trans (hb6.mono hbc.size)
              obtain ⟨⟨x0, x1⟩, x2, x3⟩ := blk2 bX6
              obtain ⟨⟨d0, d1⟩, d2, d3⟩ := blk2 bd6
              have hne2 : ¬ X = W1.heap.size := by omega
              have hne3 : ¬ W1.heap.size = X := by omega
              go_cut [5, 12] (fun a v wx => a = .string rest ∧ wx.ownsRow W1.heap.size 23 2 v (framesG pre ++ nf).length (flat (framesG pre ++ nf)) ∧ wx.heap[W1.heap.size]? = some (.cells #[.string nb, .bool false] 25 (0, 0)) ∧ Below W1.heap.size W1 wx)
              case first =>
                first | go_region_law (refine step_append_fr rfl _ _ rfl W1.heap.size u12 u16 (framesG pre) nf rfl hrow6 rfl rX6 hfl (by have := hbw6.size; exact this) ?_; intro v' w7 hown7 hgrow7; obtain ⟨Av, cv, rfl⟩ := row_of hown7; have bX7 := (hgrow7.block _ (Array.getElem?_eq_some_iff.1 bX6).1 (blk_not_row bX6 (by decide) hrow6)).trans bX6; have bd7 := (hgrow7.block _ (Array.getElem?_eq_some_iff.1 bd6).1 (blk_not_row bd6 (by decide) hrow6)).trans bd6; obtain ⟨⟨X0, X1⟩, X2, X3⟩ := blk2 bX7; obtain ⟨⟨D0, D1⟩, D2, D3⟩ := blk2 bd7) | fail
                all_goals go_wp2
                all_goals go_meet
                all_goals
                  obtain ⟨sb, sg⟩ := stored_two bd7 (.string nb) (.bool false)
                  exact ⟨rfl, by rw [← List.length_append]; exact hown7.kept sg (.inr (blk_not_row bd7 (by decide) hown7).symm), sb, (hbw6.drew.grown hgrow7 hbw6.size (fun k e => (hrow6.lt k e).1)).grown sg (Nat.le_trans hbw6.size hgrow7.size) (fun k e => by cases e; exact Nat.le_refl _)⟩
              case rest =>
                obtain ⟨rfl, hrow9, bd9, hb9⟩ := hcut
                have hk4 : (k : Int) ≤ 4000 := by omega
                have HPR2 : Hid (T = (pre ++ ch) ++ rest) := by unfold Hid; rw [HPR.out, HCR.out, ByteArray.append_assoc]
                rw [← G2.out] at hrow9
                rw [← HNB.out] at bd9
                clear hch hrest
                go_wp2
                go_roundw
                case rel => exact ⟨pre ++ ch, rest, k + 1, rfl, HPR2.out, by go_num, by omega, hrow9, bd9, hb9⟩
                case measure =>
                  show rest.size < rem.size
                  omega
end Go.Proofs.Ythkgflghiooboaa
