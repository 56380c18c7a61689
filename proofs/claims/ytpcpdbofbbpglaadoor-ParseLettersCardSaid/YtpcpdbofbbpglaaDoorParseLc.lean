/- Layer 5, the statement ParseLetters. Made by wip/gen/parseLc.py. -/
import Derived.Test.YtpcpdbofbbpglaaDoorParseLa
import Derived.Test.YtpcpdbofbbpglaaDoorParseLb
import Derived.Test.YtpcpdbofbbpglaaDoorParseCt
import Derived.Test.YtpcpdbofbbpglaaDoorParseZa
import Derived.Test.YtpcpdbofbbpglaaDoorUtfT
namespace Go.Proofs.YtpcpdbofbbpglaaDoor
open Go.RowKit

/-- A slice that reads as these letters' numbers. -/
def LRow (W : World) (v : Value) (l : List Int) : Prop :=
  ∃ A c, v = .slice A l.length c ∧ (l ≠ [] → ∃ ad : Addr, A = some ad ∧ ad.block < W.heap.size ∧ ∀ j x, l[j]? = some x → W.cell? (ad.add j) = some (.int .i32 x))
theorem let_at {W : World} {x : Int} : ∀ j u, [Value.int .i32 x][j]? = some u → (W.alloc (.cells #[.int .i32 x] 21)).cell? ((⟨W.heap.size, 0, none⟩ : Addr).add j) = some u :=
  fun j u hu => by
    have := lit_at (l := [Value.int .i32 x]) (Box.new W 21 #[.int .i32 x]) j u hu
    exact this
theorem tmod_bd (c : Int) : -24 < c.tmod 24 ∧ c.tmod 24 < 24 := by
  rcases Int.le_total 0 c with h | h
  · rw [Int.tmod_eq_emod_of_nonneg h]; omega
  · obtain ⟨d, rfl⟩ : ∃ d, c = -d := ⟨-c, by omega⟩
    rw [Int.neg_tmod, Int.tmod_eq_emod_of_nonneg (by omega)]; omega
theorem c_facts (c : Int) : ∃ C, (wrap64 (c.tmod 24 + 24)).tmod 24 = C ∧ 0 ≤ C ∧ C < 24 := by
  have h := tmod_bd c
  have hw : wrap64 (c.tmod 24 + 24) = c.tmod 24 + 24 := by unfold wrap64; omega
  refine ⟨_, rfl, ?_, ?_⟩
  · rw [hw, Int.tmod_eq_emod_of_nonneg (by omega)]; omega
  · rw [hw, Int.tmod_eq_emod_of_nonneg (by omega)]; omega
theorem bytes_one {c : Int} (h : 0 ≤ c ∧ c ≤ 255) : bytesP (byteB c) = [c] := by
  unfold bytesP byteB
  have : ((UInt8.ofNat c.toNat).toNat : Int) = c := by rw [UInt8.toNat_ofNat']; omega
  simpa using this
theorem rows_one {lv : List (Dn × Value)} {a : Dn} (h : lv.map Prod.fst = [a]) : ∃ v, lv = [(a, v)] := by
  match lv, h with
  | [(x, v)], h =>
    simp only [List.map_cons, List.map_nil, List.cons.injEq, and_true] at h
    exact ⟨v, by rw [h]⟩
set_option maxRecDepth 100000 in
set_option maxHeartbeats 8000000 in
theorem letters_any (v : Value) (l : List Int) (c0 : Int) (a b : Dn) (AA AB : Option Addr) (ca cb : Nat) (w : World) (hT : Tab w) (hl : LRow w v l) (hlm : l.length ≤ maxLen) (hra : IRow w (.slice AA a.params.length ca) a.params) (hrb : IRow w (.slice AB b.params.length cb) b.params)
    (hca : a.params.length ≤ ca) (hcb : b.params.length ≤ cb) (hoa : a.text.size ≤ maxLen) (hob : b.text.size ≤ maxLen) :
    Calls Tryd.prog 4 #[v, .int .i64 c0, .agg (a.cells (.slice AA a.params.length ca)), .agg (b.cells (.slice AB b.params.length cb))] w fun e w' => e = .returned (.bool true) ∧ Below w.heap.size w w' := by
  unfold maxLen at *
  have hcA := fun W => cut_any a AA ca W hca hoa
  have hcB := fun W => cut_any b AB cb W hcb hob
  have hia := hra.take 18
  have hib := hrb.take 18
  have hqa : (a.params.take 18) = (cutD a).params := rfl
  have hqb : (b.params.take 18) = (cutD b).params := rfl
  rw [hqa] at hia
  rw [hqb] at hib
  have hza : (cutD a).params.length ≤ 1000000 := by rw [← hqa, List.length_take]; omega
  have hzb : (cutD b).params.length ≤ 1000000 := by rw [← hqb, List.length_take]; omega
  obtain ⟨AL, cl, rfl, hll⟩ := hl
  obtain ⟨n, hn⟩ : ∃ n, l.length = n := ⟨_, rfl⟩
  rw [hn] at hlm ⊢
  have HN := hid hn
  have HLL := hid hll
  have HCA := hid hcA
  have HCB := hid hcB
  unfold CutPost at HCA HCB
  obtain ⟨x, hx⟩ : ∃ x, cutD a = x := ⟨_, rfl⟩
  obtain ⟨y, hy⟩ : ∃ y, cutD b = y := ⟨_, rfl⟩
  rw [hx] at HCA hia hza
  rw [hy] at HCB hib hzb
  have hT0 := hid hT
  clear hcA hcB hqa hqb hra hrb hx hy hT hn hll
  obtain ⟨a1, a2, a3, a4, a5, a6, a7⟩ := a
  obtain ⟨b1, b2, b3, b4, b5, b6, b7⟩ := b
  unfold Dn.cells at *
  simp only at *
  generalize a5.length = ma at *
  generalize b5.length = mb at *
  clear hca hcb hoa hob
  have bxa := (Box.new w 37 #[.int .i64 a1, .int .i32 a2, .int .i64 a3, .int .i64 a4, .slice AA ma ca, .int .i64 a6, .string a7]).alloc (.cells #[.int .i64 b1, .int .i32 b2, .int .i64 b3, .int .i64 b4, .slice AB mb cb, .int .i64 b6, .string b7] 37)
  have bxb := Box.new (w.alloc (.cells #[.int .i64 a1, .int .i32 a2, .int .i64 a3, .int .i64 a4, .slice AA ma ca, .int .i64 a6, .string a7] 37)) 37 #[.int .i64 b1, .int .i32 b2, .int .i64 b3, .int .i64 b4, .slice AB mb cb, .int .i64 b6, .string b7]
  rw [World.size_alloc] at bxb
  have hbW := (below_alloc w (.cells #[.int .i64 a1, .int .i32 a2, .int .i64 a3, .int .i64 a4, .slice AA ma ca, .int .i64 a6, .string a7] 37)).alloc (by simp) (.cells #[.int .i64 b1, .int .i32 b2, .int .i64 b3, .int .i64 b4, .slice AB mb cb, .int .i64 b6, .string b7] 37)
  go_enter Tryd.func4, Tryd.ntmps4
  go_upto_region 1 with fail
  go_cut [8] (fun q wx => q = .bool false ∧ Box wx w.heap.size 37 (x.cells (.slice AA x.params.length ca)) ∧ Box wx (w.heap.size + 1) 37 (y.cells (.slice AB y.params.length cb)) ∧ Below w.heap.size w wx)
  case first =>
    generalize ((w.alloc (.cells #[.int .i64 a1, .int .i32 a2, .int .i64 a3, .int .i64 a4, .slice AA ma ca, .int .i64 a6, .string a7] 37)).alloc (.cells #[.int .i64 b1, .int .i32 b2, .int .i64 b3, .int .i64 b4, .slice AB mb cb, .int .i64 b6, .string b7] 37)) = W0 at *
    obtain ⟨b, hb⟩ : ∃ b, w.heap.size = b := ⟨_, rfl⟩
    rw [hb] at bxa bxb hbW ⊢
    have hlta := bxa.lt
    have hltb := bxb.lt
    have HBQ := hid hb
    clear hb
    refine wp_region_S (TwoS 4 5 (fun w' => Box w' b 37 #[.int .i64 a1, .int .i32 a2, .int .i64 a3, .int .i64 a4, .slice AA ma ca, .int .i64 a6, .string a7]) (fun w' => Box w' (b + 1) 37 #[.int .i64 b1, .int .i32 b2, .int .i64 b3, .int .i64 b4, .slice AB mb cb, .int .i64 b6, .string b7])) (by kernel_rfl) ?_
    have hS : ∀ L, TwoS 4 5 (fun w' => Box w' b 37 #[.int .i64 a1, .int .i32 a2, .int .i64 a3, .int .i64 a4, .slice AA ma ca, .int .i64 a6, .string a7]) (fun w' => Box w' (b + 1) 37 #[.int .i64 b1, .int .i32 b2, .int .i64 b3, .int .i64 b4, .slice AB mb cb, .int .i64 b6, .string b7]) L (World.drew W0) := fun L => ⟨fun _ => bxa, fun _ => bxb⟩
    refine takeS1 (i := 0) (v := ?v0) 18 rfl rfl (by kernel_rfl) (by kernel_rfl) (by kernel_rfl) (by kernel_rfl) (by decide) (by decide) (by kernel_rfl) (fun _ _ _ h => h) (Or.inl ⟨by rfl, fun w' hw' => ?hy0⟩) (hS _) ?rest0
    case hy0 => have g0 : w'.cell? ⟨b, 0, none⟩ = some (.int .i64 a1) := hw'.cell 0; have g1 : w'.cell? ⟨b, 1, none⟩ = some (.int .i32 a2) := hw'.cell 1; have g2 : w'.cell? ⟨b, 2, none⟩ = some (.int .i64 a3) := hw'.cell 2; have g3 : w'.cell? ⟨b, 3, none⟩ = some (.int .i64 a4) := hw'.cell 3; have g4 : w'.cell? ⟨b, 4, none⟩ = some (.slice AA ma ca) := hw'.cell 4; have g5 : w'.cell? ⟨b, 5, none⟩ = some (.int .i64 a6) := hw'.cell 5; have g6 : w'.cell? ⟨b, 6, none⟩ = some (.string a7) := hw'.cell 6; go_simp; try with_reducible rfl
    simp only [Act.put, List.setIfInBounds_toArray, List.set_cons_zero, List.set_cons_succ]
    refine takeS2 (i := 2) (v := ?v2) 20 rfl rfl (by kernel_rfl) (by kernel_rfl) (by kernel_rfl) (by kernel_rfl) (by decide) (by decide) (by kernel_rfl) (fun _ _ _ h => h) (Or.inl ⟨by rfl, fun w' hw' => ?hy2⟩) (hS _) ?rest2
    case hy2 => have g0 : w'.cell? ⟨b + 1, 0, none⟩ = some (.int .i64 b1) := hw'.cell 0; have g1 : w'.cell? ⟨b + 1, 1, none⟩ = some (.int .i32 b2) := hw'.cell 1; have g2 : w'.cell? ⟨b + 1, 2, none⟩ = some (.int .i64 b3) := hw'.cell 2; have g3 : w'.cell? ⟨b + 1, 3, none⟩ = some (.int .i64 b4) := hw'.cell 3; have g4 : w'.cell? ⟨b + 1, 4, none⟩ = some (.slice AB mb cb) := hw'.cell 4; have g5 : w'.cell? ⟨b + 1, 5, none⟩ = some (.int .i64 b6) := hw'.cell 5; have g6 : w'.cell? ⟨b + 1, 6, none⟩ = some (.string b7) := hw'.cell 6; go_simp; try with_reducible rfl
    simp only [Act.put, List.setIfInBounds_toArray, List.set_cons_zero, List.set_cons_succ]
    refine oneS (k := 1) (by kernel_rfl) rfl (by rfl) (fun K hK => ?_)
    go_simp
    go_at_call 12
    refine (HCA.out _).mono ?_
    rintro e w2 ⟨rfl, hb2⟩
    dsimp only
    have hb2 : Below W0.heap.size W0 w2 := (Below.refl _ W0).drew.trans hb2
    have bxa2 := bxa.below hb2 hlta
    have bxb2 := bxb.below hb2 hltb
    have hz2 := hb2.size
    refine hK _ _ ⟨fun _ => bxa2, fun _ => bxb2⟩ ?_
    clear hK K hS bxa bxb
    refine oneS (k := 3) (by kernel_rfl) rfl (by rfl) (fun K hK => ?_)
    go_simp
    go_at_call 12
    refine (HCB.out _).mono ?_
    rintro e w3 ⟨rfl, hb3⟩
    dsimp only
    have bxa3 := bxa2.below hb3 (by omega)
    have bxb3 := bxb2.below hb3 (by omega)
    have hz3 := hb3.size
    have hbY := (hbW.trans (hb2.mono (by omega))).trans (hb3.mono (by omega))
    refine hK _ _ ⟨fun _ => bxa3, fun _ => bxb3⟩ ?_
    clear hK K bxa2 bxb2 hia hib
    obtain ⟨x1, x2, x3, x4, x5, x6, x7⟩ := x
    obtain ⟨y1, y2, y3, y4, y5, y6, y7⟩ := y
    simp only at *
    obtain ⟨nx, hnx⟩ : ∃ nx, x5.length = nx := ⟨_, rfl⟩
    obtain ⟨ny, hny⟩ : ∃ ny, y5.length = ny := ⟨_, rfl⟩
    rw [hnx, hny]
    have HX5 := hid hnx
    have HY5 := hid hny
    clear hnx hny
    have c0' : w3.cell? ⟨b, 0, none⟩ = some (.int .i64 a1) := bxa3.cell 0
    have c1' : w3.cell? ⟨b, 1, none⟩ = some (.int .i32 a2) := bxa3.cell 1
    have c2' : w3.cell? ⟨b, 2, none⟩ = some (.int .i64 a3) := bxa3.cell 2
    have c3' : w3.cell? ⟨b, 3, none⟩ = some (.int .i64 a4) := bxa3.cell 3
    have c4' : w3.cell? ⟨b, 4, none⟩ = some (.slice AA ma ca) := bxa3.cell 4
    have c5' : w3.cell? ⟨b, 5, none⟩ = some (.int .i64 a6) := bxa3.cell 5
    have c6' : w3.cell? ⟨b, 6, none⟩ = some (.string a7) := bxa3.cell 6
    obtain ⟨f0, f1, f2, f3, f4, f5, f6⟩ := seven_free bxa3
    refine oneS (k := 4) (by kernel_rfl) rfl (by rfl) (fun K hK => ?_)
    go_simp
    refine hK _ _ ⟨fun h => absurd h (by decide), fun _ => bxb3.grown (grown_set (grown_set (grown_set (grown_set (grown_set (grown_set (grown_set (World.grownBy.refl w3 _) _) _) _) _) _) _) _) (by simp)⟩ ?_
    clear hK K
    have bx4 : Box (((((((w3.setCell ⟨b, 0, none⟩ (.int .i64 x1)).setCell ⟨b, 1, none⟩ (.int .i32 x2)).setCell ⟨b, 2, none⟩ (.int .i64 x3)).setCell ⟨b, 3, none⟩ (.int .i64 x4)).setCell ⟨b, 4, none⟩ (.slice AA nx ca)).setCell ⟨b, 5, none⟩ (.int .i64 x6)).setCell ⟨b, 6, none⟩ (.string x7)) b 37 #[.int .i64 x1, .int .i32 x2, .int .i64 x3, .int .i64 x4, .slice AA nx ca, .int .i64 x6, .string x7] := (((((((bxa3.set (i := 0) (.int .i64 x1)).set (i := 1) (.int .i32 x2)).set (i := 2) (.int .i64 x3)).set (i := 3) (.int .i64 x4)).set (i := 4) (.slice AA nx ca)).set (i := 5) (.int .i64 x6)).set (i := 6) (.string x7))
    have hg4 : w3.grownBy (((((((w3.setCell ⟨b, 0, none⟩ (.int .i64 x1)).setCell ⟨b, 1, none⟩ (.int .i32 x2)).setCell ⟨b, 2, none⟩ (.int .i64 x3)).setCell ⟨b, 3, none⟩ (.int .i64 x4)).setCell ⟨b, 4, none⟩ (.slice AA nx ca)).setCell ⟨b, 5, none⟩ (.int .i64 x6)).setCell ⟨b, 6, none⟩ (.string x7)) (some b) := grown_set (grown_set (grown_set (grown_set (grown_set (grown_set (grown_set (World.grownBy.refl w3 _) _) _) _) _) _) _) _
    have by4 := bxb3.grown hg4 (by simp)
    have hb4 := hbY.grown hg4 (by omega) (fun k e => by cases e; exact Nat.le_refl _)
    have hz4 := hg4.size
    generalize (((((((w3.setCell ⟨b, 0, none⟩ (.int .i64 x1)).setCell ⟨b, 1, none⟩ (.int .i32 x2)).setCell ⟨b, 2, none⟩ (.int .i64 x3)).setCell ⟨b, 3, none⟩ (.int .i64 x4)).setCell ⟨b, 4, none⟩ (.slice AA nx ca)).setCell ⟨b, 5, none⟩ (.int .i64 x6)).setCell ⟨b, 6, none⟩ (.string x7)) = w4 at *
    clear f0 f1 f2 f3 f4 f5 f6 c0' c1' c2' c3' c4' c5' c6' bxa3 bxb3 hg4
    have c0' : w4.cell? ⟨b + 1, 0, none⟩ = some (.int .i64 b1) := by4.cell 0
    have c1' : w4.cell? ⟨b + 1, 1, none⟩ = some (.int .i32 b2) := by4.cell 1
    have c2' : w4.cell? ⟨b + 1, 2, none⟩ = some (.int .i64 b3) := by4.cell 2
    have c3' : w4.cell? ⟨b + 1, 3, none⟩ = some (.int .i64 b4) := by4.cell 3
    have c4' : w4.cell? ⟨b + 1, 4, none⟩ = some (.slice AB mb cb) := by4.cell 4
    have c5' : w4.cell? ⟨b + 1, 5, none⟩ = some (.int .i64 b6) := by4.cell 5
    have c6' : w4.cell? ⟨b + 1, 6, none⟩ = some (.string b7) := by4.cell 6
    obtain ⟨f0, f1, f2, f3, f4, f5, f6⟩ := seven_free by4
    refine oneS (k := 5) (by kernel_rfl) rfl (by rfl) (fun K hK => ?_)
    go_simp
    refine hK _ _ ⟨fun h => absurd h (by decide), fun h => absurd h (by decide)⟩ ?_
    clear hK K
    refine doneS (by kernel_rfl) ?_ _
    have bx5 : Box (((((((w4.setCell ⟨b + 1, 0, none⟩ (.int .i64 y1)).setCell ⟨b + 1, 1, none⟩ (.int .i32 y2)).setCell ⟨b + 1, 2, none⟩ (.int .i64 y3)).setCell ⟨b + 1, 3, none⟩ (.int .i64 y4)).setCell ⟨b + 1, 4, none⟩ (.slice AB ny cb)).setCell ⟨b + 1, 5, none⟩ (.int .i64 y6)).setCell ⟨b + 1, 6, none⟩ (.string y7)) (b + 1) 37 #[.int .i64 y1, .int .i32 y2, .int .i64 y3, .int .i64 y4, .slice AB ny cb, .int .i64 y6, .string y7] := (((((((by4.set (i := 0) (.int .i64 y1)).set (i := 1) (.int .i32 y2)).set (i := 2) (.int .i64 y3)).set (i := 3) (.int .i64 y4)).set (i := 4) (.slice AB ny cb)).set (i := 5) (.int .i64 y6)).set (i := 6) (.string y7))
    have hg5 : w4.grownBy (((((((w4.setCell ⟨b + 1, 0, none⟩ (.int .i64 y1)).setCell ⟨b + 1, 1, none⟩ (.int .i32 y2)).setCell ⟨b + 1, 2, none⟩ (.int .i64 y3)).setCell ⟨b + 1, 3, none⟩ (.int .i64 y4)).setCell ⟨b + 1, 4, none⟩ (.slice AB ny cb)).setCell ⟨b + 1, 5, none⟩ (.int .i64 y6)).setCell ⟨b + 1, 6, none⟩ (.string y7)) (some (b + 1)) := grown_set (grown_set (grown_set (grown_set (grown_set (grown_set (grown_set (World.grownBy.refl w4 _) _) _) _) _) _) _) _
    have bxa5 := bx4.grown hg5 (by simp)
    have hb5 := hb4.grown hg5 (by omega) (fun k e => by cases e; omega)
    generalize (((((((w4.setCell ⟨b + 1, 0, none⟩ (.int .i64 y1)).setCell ⟨b + 1, 1, none⟩ (.int .i32 y2)).setCell ⟨b + 1, 2, none⟩ (.int .i64 y3)).setCell ⟨b + 1, 3, none⟩ (.int .i64 y4)).setCell ⟨b + 1, 4, none⟩ (.slice AB ny cb)).setCell ⟨b + 1, 5, none⟩ (.int .i64 y6)).setCell ⟨b + 1, 6, none⟩ (.string y7)) = w5 at *
    clear f0 f1 f2 f3 f4 f5 f6 c0' c1' c2' c3' c4' c5' c6'
    go_wp2
    have hbq := HBQ.out
    subst hbq
    go_meet
    have h1 := HX5.out
    have h2 := HY5.out
    subst h1 h2
    exact ⟨rfl, bxa5, bx5, hb5⟩
  case rest =>
    obtain ⟨rfl, bxa, bxb, hb0⟩ := hcut
    obtain ⟨w0, rfl⟩ : ∃ w0 : World, w0 = wc := ⟨_, rfl⟩
    clear HCA HCB hbW
    have hIA := hia.below hb0
    have hIB := hib.below hb0
    have hLp := fun d os => like_any x y (.slice AA x.params.length ca) (.slice AB y.params.length cb) (Go.Sort.grow (redrawn w0 d) os) (hIA.below (below_regrown w0 d os)) (hIB.below (below_regrown w0 d os)) hza hzb
    have hLr := fun d os => rLike_any x y (.slice AA x.params.length ca) (.slice AB y.params.length cb) (Go.Sort.grow (redrawn w0 d) os) (hIA.below (below_regrown w0 d os)) (hIB.below (below_regrown w0 d os)) hza hzb
    have hLs := fun d os => like_any x x (.slice AA x.params.length ca) (.slice AA x.params.length ca) (Go.Sort.grow (redrawn w0 d) os) (hIA.below (below_regrown w0 d os)) (hIA.below (below_regrown w0 d os)) hza hza
    have hAl := fun d os => alive_any (Go.Sort.grow (redrawn w0 d) os) (hT0.out.below (hb0.trans ((below_regrown w0 d os).mono hb0.size)))
    rw [like_iff.2 rfl] at hLs
    generalize likeB x y = r at *
    have cLp := fun d os => Calls.regrown_of (hLp d os)
    have cLr := fun d os => Calls.regrown_of (hLr d os)
    have cLs := fun d os => Calls.regrown_of (hLs d os)
    have cAl := fun d os => Calls.regrown_of (hAl d os)
    have hnq : ∀ W : World, (binOp .neq 4 (.bool r) (.bool r)).run Tryd.prog W = .ok (.bool false) W := by
      intro W
      cases r <;> rfl
    obtain ⟨x1, x2, x3, x4, x5, x6, x7⟩ := x
    obtain ⟨y1, y2, y3, y4, y5, y6, y7⟩ := y
    unfold Dn.cells at *
    simp only at *
    generalize x5.length = nx at *
    generalize y5.length = ny at *
    clear hLp hLr hLs hAl hia hib hza hzb hIA hIB
    have g0 := cell_regrown (show w0.cell? ⟨w.heap.size, 0, none⟩ = some (.int .i64 x1) from bxa.cell 0)
    have g1 := cell_regrown (show w0.cell? ⟨w.heap.size, 1, none⟩ = some (.int .i32 x2) from bxa.cell 1)
    have g2 := cell_regrown (show w0.cell? ⟨w.heap.size, 2, none⟩ = some (.int .i64 x3) from bxa.cell 2)
    have g3 := cell_regrown (show w0.cell? ⟨w.heap.size, 3, none⟩ = some (.int .i64 x4) from bxa.cell 3)
    have g4 := cell_regrown (show w0.cell? ⟨w.heap.size, 4, none⟩ = some (.slice AA nx ca) from bxa.cell 4)
    have g5 := cell_regrown (show w0.cell? ⟨w.heap.size, 5, none⟩ = some (.int .i64 x6) from bxa.cell 5)
    have g6 := cell_regrown (show w0.cell? ⟨w.heap.size, 6, none⟩ = some (.string x7) from bxa.cell 6)
    have h0 := cell_regrown (show w0.cell? ⟨w.heap.size + 1, 0, none⟩ = some (.int .i64 y1) from bxb.cell 0)
    have h1 := cell_regrown (show w0.cell? ⟨w.heap.size + 1, 1, none⟩ = some (.int .i32 y2) from bxb.cell 1)
    have h2 := cell_regrown (show w0.cell? ⟨w.heap.size + 1, 2, none⟩ = some (.int .i64 y3) from bxb.cell 2)
    have h3 := cell_regrown (show w0.cell? ⟨w.heap.size + 1, 3, none⟩ = some (.int .i64 y4) from bxb.cell 3)
    have h4 := cell_regrown (show w0.cell? ⟨w.heap.size + 1, 4, none⟩ = some (.slice AB ny cb) from bxb.cell 4)
    have h5 := cell_regrown (show w0.cell? ⟨w.heap.size + 1, 5, none⟩ = some (.int .i64 y6) from bxb.cell 5)
    have h6 := cell_regrown (show w0.cell? ⟨w.heap.size + 1, 6, none⟩ = some (.string y7) from bxb.cell 6)
    clear bxa bxb
    go_wp2
    refine wp_region_quiet_below (by kernel_rfl) (by kernel_rfl) ?_
    repeat (quiet_step (first | with_reducible exact cLp _ _ | with_reducible exact cLr _ _ | with_reducible exact cLs _ _ | with_reducible exact cAl _ _))
    refine wpQuiet_nil ?_
    intro _ hw'
    obtain ⟨⟨dq, osq⟩, hw''⟩ := hw'
    subst hw''
    have hw6 := hb0.trans ((below_regrown w0 dq osq).mono hb0.size)
    generalize Go.Sort.grow (redrawn w0 dq) osq = w6 at *
    clear cLp cLr cLs cAl hnq g0 g1 g2 g3 g4 g5 g6 h0 h1 h2 h3 h4 h5 h6
    go_wp2
    go_loopw [9, 10, 41] (fun s sv i wr => ∃ k : Nat, k ≤ n ∧ i = .int .i64 k ∧ s = .string (textL (sentL l k)) ∧ OwnL wr w6.heap.size sv (sentL l k) ∧ Below w6.heap.size w6 wr) (fun _ _ i _ => n - (intOf i).toNat)
    case atStart => exact ⟨0, by omega, rfl, rfl, OwnL.nil _ _, Below.refl _ _⟩
    case round =>
      obtain ⟨k, hk, rfl, rfl, hown, hbr⟩ := hrel
      have hwr := hw6.trans (hbr.mono hw6.size)
      obtain ⟨SA, sc, rfl⟩ := hown.spell
      have hlen := sent_length l k
      have hsz := textL_size (sentL l k) (fun r hr => (sent_good l k r hr).1)
      by_cases hlt : k < n
      · have hkl : k < l.length := by rw [HN.out]; exact hlt
        obtain ⟨ad, rfl, hadb, hadc⟩ := HLL.out (by intro e; rw [e] at hkl; simp at hkl)
        have hxk := List.getElem?_eq_getElem hkl
        obtain ⟨z, hz⟩ : ∃ z, l[k] = z := ⟨_, rfl⟩
        rw [hz] at hxk
        have hcell : wr.cell? (ad.add k) = some (.int .i32 z) := (hwr.cell (p := ad.add k) (by rw [add_blk]; exact hadb)).trans (hadc k z hxk)
        have HST := hid (sent_step hxk)
        have hisz := fun W => refIs_any z W
        have hTq : ∃ T, textL (sentL l k) = T := ⟨_, rfl⟩
        obtain ⟨T, hTq⟩ := hTq
        rw [hTq] at hsz ⊢
        generalize sentL l k = L at *
        have HTQ := hid hTq
        obtain ⟨q, hq⟩ : ∃ q, L.length = q := ⟨_, rfl⟩
        rw [hq] at hlen hsz hown ⊢
        have HOWN := hid hown
        have HLQ := hid hq
        clear hq
        clear hTq hown hadc hxk hz hkl
        have hki : (k : Int) < n := by omega
        by_cases h30 : k < 30
        · have h30i : (k : Int) < 30 := by omega
          cases hg : letterB z
          · have HS : Hid (sentL l (k + 1) = L) := by unfold Hid; rw [HST.out, if_neg (fun hh => by unfold goodL at hh; rw [hg] at hh; simp at hh)]
            rw [hg] at hisz
            have HIS := hid hisz
            clear hisz hg HST
            go_wp2_with (go_at_call 15; refine (HIS.out _).mono ?_; rintro e w4 ⟨rfl, rfl⟩)
            go_roundw
            case rel => exact ⟨k + 1, by omega, by go_num, by rw [HS.out, HTQ.out], by rw [HS.out]; exact HOWN.out, hbr⟩
            case measure => simp [intOf]; omega
          · have hcs : 160 ≤ z ∨ (32 ≤ z ∧ z < 127) ∨ z < 32 ∨ (127 ≤ z ∧ z < 160) := by omega
            rcases hcs with c1 | ⟨c1, c2⟩ | c1 | ⟨c1, c2⟩
            · have HS : Hid (sentL l (k + 1) = L ++ [z]) := by unfold Hid; rw [HST.out, if_pos ⟨h30, by unfold goodL; rw [hg]; simp; omega⟩]
              have hes : (Utf8.encode z).size ≤ 4 := by have h1 := (enc_bytes hg).1; have h2 := sizeOf_bd z; omega
              have HTX : Hid (textL (sentL l (k + 1)) = T ++ Utf8.encode z) := by unfold Hid; rw [HS.out, textL_snoc, HTQ.out]
              have hrt := fun W => refText_any hg W
              have HRT := hid hrt
              rw [hg] at hisz
              have HIS := hid hisz
              clear hrt hisz hg HST
              generalize Utf8.encode z = ez at *
              have hsum : T.size + ez.size ≤ 9223372036854775807 := by omega
              go_wp2_with (first
                | (go_at_call 15; refine (HIS.out _).mono ?_; rintro e w4 ⟨rfl, rfl⟩)
                | (go_at_call 16; refine (HRT.out _).mono ?_; rintro e w4 ⟨rfl, hb4⟩; have hw4 := hbr.trans (hb4.mono hbr.size); have HO4 := hid ((HOWN.out.kept hb4).kept (below_alloc w4 (.cells #[.int .i32 z] 21))))
                | (at_builtin; refine wpList_append_let rfl _ _ rfl w6.heap.size _ L rfl HO4.out z ⟨_, 0, none⟩ 1 rfl let_at (by have := HLQ.out; omega) (by have := hw4.size; simp; omega) ?_; intro v' w5 ho5 hg5; have hb5 := (hw4.alloc hw4.size (.cells #[.int .i32 z] 21)).grown hg5 (by have := hw4.size; simp; omega) (fun k e => (World.ownsRow.lt HO4.out k e).1); have HO5 := hid ho5; clear ho5))
              go_roundw
              case rel => exact ⟨k + 1, by omega, by go_num, by rw [HTX.out], by rw [HS.out]; exact HO5.out, hb5⟩
              case measure => simp [intOf]; omega
            · have HS : Hid (sentL l (k + 1) = L ++ [z]) := by unfold Hid; rw [HST.out, if_pos ⟨h30, by unfold goodL; rw [hg]; simp; omega⟩]
              have hes : (Utf8.encode z).size ≤ 4 := by have h1 := (enc_bytes hg).1; have h2 := sizeOf_bd z; omega
              have HTX : Hid (textL (sentL l (k + 1)) = T ++ Utf8.encode z) := by unfold Hid; rw [HS.out, textL_snoc, HTQ.out]
              have hrt := fun W => refText_any hg W
              have HRT := hid hrt
              rw [hg] at hisz
              have HIS := hid hisz
              clear hrt hisz hg HST
              generalize Utf8.encode z = ez at *
              have hsum : T.size + ez.size ≤ 9223372036854775807 := by omega
              go_wp2_with (first
                | (go_at_call 15; refine (HIS.out _).mono ?_; rintro e w4 ⟨rfl, rfl⟩)
                | (go_at_call 16; refine (HRT.out _).mono ?_; rintro e w4 ⟨rfl, hb4⟩; have hw4 := hbr.trans (hb4.mono hbr.size); have HO4 := hid ((HOWN.out.kept hb4).kept (below_alloc w4 (.cells #[.int .i32 z] 21))))
                | (at_builtin; refine wpList_append_let rfl _ _ rfl w6.heap.size _ L rfl HO4.out z ⟨_, 0, none⟩ 1 rfl let_at (by have := HLQ.out; omega) (by have := hw4.size; simp; omega) ?_; intro v' w5 ho5 hg5; have hb5 := (hw4.alloc hw4.size (.cells #[.int .i32 z] 21)).grown hg5 (by have := hw4.size; simp; omega) (fun k e => (World.ownsRow.lt HO4.out k e).1); have HO5 := hid ho5; clear ho5))
              go_roundw
              case rel => exact ⟨k + 1, by omega, by go_num, by rw [HTX.out], by rw [HS.out]; exact HO5.out, hb5⟩
              case measure => simp [intOf]; omega
            · have HS : Hid (sentL l (k + 1) = L) := by unfold Hid; rw [HST.out, if_neg (fun hh => by unfold goodL at hh; simp at hh; omega)]
              rw [hg] at hisz
              have HIS := hid hisz
              clear hisz hg HST
              go_wp2_with (go_at_call 15; refine (HIS.out _).mono ?_; rintro e w4 ⟨rfl, rfl⟩)
              go_roundw
              case rel => exact ⟨k + 1, by omega, by go_num, by rw [HS.out, HTQ.out], by rw [HS.out]; exact HOWN.out, hbr⟩
              case measure => simp [intOf]; omega
            · have HS : Hid (sentL l (k + 1) = L) := by unfold Hid; rw [HST.out, if_neg (fun hh => by unfold goodL at hh; simp at hh; omega)]
              rw [hg] at hisz
              have HIS := hid hisz
              clear hisz hg HST
              go_wp2_with (go_at_call 15; refine (HIS.out _).mono ?_; rintro e w4 ⟨rfl, rfl⟩)
              go_roundw
              case rel => exact ⟨k + 1, by omega, by go_num, by rw [HS.out, HTQ.out], by rw [HS.out]; exact HOWN.out, hbr⟩
              case measure => simp [intOf]; omega
        · have h30i : ¬ (k : Int) < 30 := by omega
          have HS : Hid (sentL l (k + 1) = L) := by unfold Hid; rw [HST.out, if_neg (fun hh => h30 hh.1)]
          clear hisz HST
          go_wp2
          go_roundw
          case rel => exact ⟨k + 1, by omega, by go_num, by rw [HS.out, HTQ.out], by rw [HS.out]; exact HOWN.out, hbr⟩
          case measure => simp [intOf]; omega
      · obtain rfl : k = n := by omega
        clear HLL
        obtain ⟨wo, rfl⟩ : ∃ wo : World, wo = wr := ⟨_, rfl⟩
        have hfd := sent_fed l k
        obtain ⟨L, hL⟩ : ∃ L, sentL l k = L := ⟨_, rfl⟩
        rw [hL] at hown hlen hsz hfd ⊢
        have hf := feed_yes (.to 0) (.slice none 0 0) (textL L) wo (hT0.out.below hwr) (IRow.nil _ _) right_0 (by omega)
        rw [hfd] at hf
        have HF := hid hf
        unfold Pa.cells at HF
        simp only [Pa.to, nilB] at HF
        obtain ⟨m, hm⟩ : ∃ m, L.length = m := ⟨_, rfl⟩
        rw [hm] at hlen hsz hown ⊢
        have HOWN := hid hown
        have HMQ := hid hm
        generalize textL L = T at *
        clear hown hfd hf hL hm
        go_wp2_with fail
        refine HF.out.mono ?_
        rintro e w7 ⟨v7, dv7, lv, rfl, hv7, hd7, hlv, hb7⟩
        dsimp only
        unfold Pa.cells
        simp only at hv7 hlv ⊢
        have hv7' := hv7
        obtain ⟨A7, k7, rfl, _⟩ := hv7'
        simp only [List.length_nil] at *
        obtain ⟨D7, e7, rfl, hd⟩ := hd7
        have hlvm : lv.length = m := by
          have := congrArg List.length hlv
          rw [List.length_map, List.length_map, HMQ.out] at this
          exact this
        rw [hlvm]
        have hw7 := hwr.trans (hb7.mono hwr.size)
        have hzl := zero_like _ (.slice A7 0 k7) (hv7.below (below_alloc w7 (.cells #[.int .i64 0, .int .i64 0, .slice A7 0 k7, .int .i64 0, .string ⟨#[]⟩, .string ⟨#[]⟩] 24)))
        have b13 := Box.new w7 24 #[.int .i64 0, .int .i64 0, .slice A7 0 k7, .int .i64 0, .string ⟨#[]⟩, .string ⟨#[]⟩]
        have HZL := hid hzl
        have HB13 := hid b13
        have HD := hid hd
        have HLV := hid hlv
        have HLM := hid hlvm
        clear hzl b13 hd hlv hlvm hv7 HF
        have hnm : ((m : Int) != (m : Int)) = false := by simp
        go_wp2_with fail
        refine HZL.out.mono ?_
        rintro e w8 ⟨rfl, hb8⟩
        dsimp only
        have h78 : Below w7.heap.size w7 w8 := Below.behind hb8
        have hw8 := hw7.trans (h78.mono hw7.size)
        have HB138 := hid (HB13.out.below hb8 HB13.out.lt)
        have hlt13 : w7.heap.size < w8.heap.size := HB138.out.lt
        clear HZL HB13 hb8
        go_wp2
        go_loopw [97] (fun i wr => ∃ k2 : Nat, k2 ≤ m ∧ i = .int .i64 k2 ∧ Below w8.heap.size w8 wr) (fun i _ => m - (intOf i).toNat)
        case atStart => exact ⟨0, by omega, rfl, Below.refl _ _⟩
        case round =>
          obtain ⟨k2, hk2, rfl, hb9⟩ := hrel
          have h79 : Below w7.heap.size w7 wr := h78.trans (hb9.mono h78.size)
          by_cases hlt2 : k2 < m
          · have hkl : k2 < lv.length := by rw [HLM.out]; exact hlt2
            have hkL : k2 < L.length := by rw [HMQ.out]; exact hlt2
            obtain ⟨g, rfl, hg, hc⟩ := HD.out (by intro e; rw [e] at hkl; simp at hkl)
            obtain ⟨cc, ir, _⟩ := hc k2 _ (List.getElem?_eq_getElem hkl)
            have hdn : lv[k2].1 = dPrint L[k2] := by
              have h3 : (lv.map Prod.fst)[k2]? = (L.map dPrint)[k2]? := by rw [HLV.out]
              rw [List.getElem?_map, List.getElem?_map, List.getElem?_eq_getElem hkl, List.getElem?_eq_getElem hkL] at h3
              simpa using h3
            have hzL := List.getElem?_eq_getElem hkL
            generalize lv[k2] = en at *
            generalize L[k2] = z at *
            obtain ⟨d, v⟩ := en
            simp only at cc ir hdn
            subst hdn
            obtain ⟨gs, sc', hsl, hgs, hsc⟩ := OwnL.row (show OwnL wo w6.heap.size (.slice SA m sc) L from HOWN.out) (by intro e; rw [e] at hkL; simp at hkL)
            rw [HMQ.out] at hsl
            cases hsl
            have hr9 : Below wo.heap.size wo wr := hb7.trans (h79.mono hb7.size)
            have hcs : wr.cell? ⟨gs, k2, none⟩ = some (.int .i32 z) := (hr9.cell (p := ⟨gs, k2, none⟩) hgs).trans (hsc k2 z hzL)
            have hgs9 : gs < wr.heap.size := Nat.lt_of_lt_of_le hgs hr9.size
            have hg9 : g < wr.heap.size := Nat.lt_of_lt_of_le hg h79.size
            obtain ⟨i0, i1, i2, i3, i4, i5, i6⟩ := dcells (W := wr) (g := g) (o := k2 * 7) (d := dPrint z) (v := v) (fun i u hu => (h79.cell (p := ⟨g, k2 * 7 + i, none⟩) hg).trans (cc i u hu))
            have hir := ir.below h79
            obtain ⟨Av, cv, rfl, _⟩ := ir
            simp only [dPrint, nilB, List.length_nil] at i0 i1 i2 i3 i4 i5 i6 hir
            have hba := below_alloc wr (.cells #[.int .i64 1, .int .i32 z, .int .i64 0, .int .i64 0, .slice Av 0 cv, .int .i64 0, .string ⟨#[]⟩] 37)
            have bx := Box.new wr 37 #[.int .i64 1, .int .i32 z, .int .i64 0, .int .i64 0, .slice Av 0 cv, .int .i64 0, .string ⟨#[]⟩]
            have cL : ∀ d os, Calls Tryd.prog 14 #[.agg #[.int .i64 1, .int .i32 z, .int .i64 0, .int .i64 0, .slice Av 0 cv, .int .i64 0, .string ⟨#[]⟩], .agg #[.int .i64 1, .int .i32 z, .int .i64 0, .int .i64 0, .slice none 0 0, .int .i64 0, .string ⟨#[]⟩]] (Go.Sort.grow (redrawn (wr.alloc (.cells #[.int .i64 1, .int .i32 z, .int .i64 0, .int .i64 0, .slice Av 0 cv, .int .i64 0, .string ⟨#[]⟩] 37)) d) os) fun e w'' => e = .returned (.bool true) ∧ ∃ p : Regrown, w'' = Go.Sort.grow (redrawn (wr.alloc (.cells #[.int .i64 1, .int .i32 z, .int .i64 0, .int .i64 0, .slice Av 0 cv, .int .i64 0, .string ⟨#[]⟩] 37)) p.d) p.os := fun d os => Calls.regrown_of (by
              have h := rLike_any (dPrint z) (dPrint z) (.slice Av 0 cv) (.slice none 0 0) (Go.Sort.grow (redrawn (wr.alloc (.cells #[.int .i64 1, .int .i32 z, .int .i64 0, .int .i64 0, .slice Av 0 cv, .int .i64 0, .string ⟨#[]⟩] 37)) d) os) ((hir.below hba).below (below_regrown _ d os)) (IRow.nil _ _) (Nat.zero_le _) (Nat.zero_le _)
              rw [like_iff.2 rfl] at h
              exact h)
            have cs := cell_regrown (show (wr.alloc (.cells #[.int .i64 1, .int .i32 z, .int .i64 0, .int .i64 0, .slice Av 0 cv, .int .i64 0, .string ⟨#[]⟩] 37)).cell? ⟨gs, k2, none⟩ = some (.int .i32 z) from (hba.cell (p := ⟨gs, k2, none⟩) hgs9).trans hcs)
            have j0 := cell_regrown (show (wr.alloc (.cells #[.int .i64 1, .int .i32 z, .int .i64 0, .int .i64 0, .slice Av 0 cv, .int .i64 0, .string ⟨#[]⟩] 37)).cell? ⟨wr.heap.size, 0, none⟩ = some (.int .i64 1) from bx.cell 0)
            have j1 := cell_regrown (show (wr.alloc (.cells #[.int .i64 1, .int .i32 z, .int .i64 0, .int .i64 0, .slice Av 0 cv, .int .i64 0, .string ⟨#[]⟩] 37)).cell? ⟨wr.heap.size, 1, none⟩ = some (.int .i32 z) from bx.cell 1)
            have j2 := cell_regrown (show (wr.alloc (.cells #[.int .i64 1, .int .i32 z, .int .i64 0, .int .i64 0, .slice Av 0 cv, .int .i64 0, .string ⟨#[]⟩] 37)).cell? ⟨wr.heap.size, 2, none⟩ = some (.int .i64 0) from bx.cell 2)
            have j3 := cell_regrown (show (wr.alloc (.cells #[.int .i64 1, .int .i32 z, .int .i64 0, .int .i64 0, .slice Av 0 cv, .int .i64 0, .string ⟨#[]⟩] 37)).cell? ⟨wr.heap.size, 3, none⟩ = some (.int .i64 0) from bx.cell 3)
            have j4 := cell_regrown (show (wr.alloc (.cells #[.int .i64 1, .int .i32 z, .int .i64 0, .int .i64 0, .slice Av 0 cv, .int .i64 0, .string ⟨#[]⟩] 37)).cell? ⟨wr.heap.size, 4, none⟩ = some (.slice Av 0 cv) from bx.cell 4)
            have j5 := cell_regrown (show (wr.alloc (.cells #[.int .i64 1, .int .i32 z, .int .i64 0, .int .i64 0, .slice Av 0 cv, .int .i64 0, .string ⟨#[]⟩] 37)).cell? ⟨wr.heap.size, 5, none⟩ = some (.int .i64 0) from bx.cell 5)
            have j6 := cell_regrown (show (wr.alloc (.cells #[.int .i64 1, .int .i32 z, .int .i64 0, .int .i64 0, .slice Av 0 cv, .int .i64 0, .string ⟨#[]⟩] 37)).cell? ⟨wr.heap.size, 6, none⟩ = some (.string ⟨#[]⟩) from bx.cell 6)
            have hki : (k2 : Int) < m := by omega
            clear cc hc hkl hkL hzL hsc hir
            go_wp2
            clear i0 i1 i2 i3 i4 i5 i6 hcs
            refine wp_region_quiet_below (by kernel_rfl) (by kernel_rfl) ?_
            repeat (quiet_step (with_reducible exact cL _ _))
            refine wpQuiet_nil ?_
            intro _ hw'
            obtain ⟨⟨dq, osq⟩, hw''⟩ := hw'
            subst hw''
            have n4 := (hb9.trans (hba.mono hb9.size)).trans ((below_regrown (wr.alloc (.cells #[.int .i64 1, .int .i32 z, .int .i64 0, .int .i64 0, .slice Av 0 cv, .int .i64 0, .string ⟨#[]⟩] 37)) dq osq).mono (Nat.le_trans hb9.size hba.size))
            clear cL cs j0 j1 j2 j3 j4 j5 j6 bx hba
            generalize Go.Sort.grow (redrawn (wr.alloc (.cells #[.int .i64 1, .int .i32 z, .int .i64 0, .int .i64 0, .slice Av 0 cv, .int .i64 0, .string ⟨#[]⟩] 37)) dq) osq = w10 at *
            go_wp2
            go_roundw
            case rel => exact ⟨k2 + 1, by omega, by go_num, n4⟩
            case measure => simp [intOf]; omega
          · obtain rfl : k2 = m := by omega
            clear HD HLV
            obtain ⟨C, hC, hC0, hC24⟩ := c_facts c0
            have hC8 : C % 256 = C := by omega
            have hcv := one_byte wr C
            have hc1 := hcv _ (.inl rfl)
            have hwr9 := hw8.trans (hb9.mono hw8.size)
            have hfc := feed_yes (.to 0) (.slice none 0 0) (byteB C) (wr.alloc (.cells #[.int .u8 C] 5)) (hT0.out.below (hwr9.alloc hwr9.size _)) (IRow.nil _ _) right_0 (by show 1 ≤ 100000; decide)
            rw [bytes_one (by omega), control_fed ⟨hC0, hC24⟩] at hfc
            have HFC := hid hfc
            unfold Pa.cells at HFC
            simp only [Pa.to, nilB] at HFC
            clear hcv hfc
            generalize byteB C = bc at *
            go_wp2_with fail
            refine HFC.out.mono ?_
            rintro e w11 ⟨v11, dv11, lv11, rfl, hv11, hd11, hlv11, hb11⟩
            dsimp only
            unfold Pa.cells
            simp only at hv11 hlv11 ⊢
            obtain ⟨u, rfl⟩ := rows_one hlv11
            obtain ⟨D11, e11, rfl, hd⟩ := hd11
            obtain ⟨g, rfl, hg, hc⟩ := hd (by simp)
            obtain ⟨cc, ir, _⟩ := hc 0 _ rfl
            obtain ⟨i0, i1, i2, i3, i4, i5, i6⟩ := dcells (o := 0 * 7) cc
            clear hc hd cc hlv11 HFC
            simp only [Nat.zero_mul, Nat.zero_add, List.length_cons, List.length_nil, dExec, nilB] at i0 i1 i2 i3 i4 i5 i6 ir hv11 ⊢
            obtain ⟨Av, cv, rfl, _⟩ := ir
            obtain ⟨A11, k11, rfl, _⟩ := hv11
            simp only [List.length_nil] at *
            have h811 : Below w8.heap.size w8 w11 := hb9.trans ((Below.behind hb11).mono hb9.size)
            have hw11 := hw8.trans (h811.mono hw8.size)
            have b13 := HB138.out.below h811 hlt13
            have c0' : w11.cell? ⟨w7.heap.size, 0, none⟩ = some (.int .i64 0) := b13.cell 0
            have c1' : w11.cell? ⟨w7.heap.size, 1, none⟩ = some (.int .i64 0) := b13.cell 1
            have c2' : w11.cell? ⟨w7.heap.size, 2, none⟩ = some (.slice A7 0 k7) := b13.cell 2
            have c3' : w11.cell? ⟨w7.heap.size, 3, none⟩ = some (.int .i64 0) := b13.cell 3
            have c4' : w11.cell? ⟨w7.heap.size, 4, none⟩ = some (.string ⟨#[]⟩) := b13.cell 4
            have c5' : w11.cell? ⟨w7.heap.size, 5, none⟩ = some (.string ⟨#[]⟩) := b13.cell 5
            obtain ⟨f0, f1, f2, f3, f4, f5⟩ := six_cells b13
            have hne : ¬ g = w7.heap.size := by
              intro e
              rw [e, c0'] at i0
              cases i0
            have hne2 : ¬ w7.heap.size = g := fun e => hne e.symm
            have hgS : w11.grownBy ((((((w11.setCell ⟨w7.heap.size, 0, none⟩ (.int .i64 0)).setCell ⟨w7.heap.size, 1, none⟩ (.int .i64 0)).setCell ⟨w7.heap.size, 2, none⟩ (.slice A11 0 k11)).setCell ⟨w7.heap.size, 3, none⟩ (.int .i64 0)).setCell ⟨w7.heap.size, 4, none⟩ (.string ⟨#[]⟩)).setCell ⟨w7.heap.size, 5, none⟩ (.string ⟨#[]⟩)) (some w7.heap.size) := grown_set (grown_set (grown_set (grown_set (grown_set (grown_set (World.grownBy.refl w11 _) _) _) _) _) _) _
            have hz7 := hw7.size
            have hwS := hw11.grown hgS hw11.size (fun k e => by cases e; exact hz7)
            have hsn : some g ≠ some w7.heap.size := fun e => hne (Option.some.inj e)
            have s0 := hgS.cell (a := ⟨g, 0, none⟩) i0 hsn
            have s1 := hgS.cell (a := ⟨g, 1, none⟩) i1 hsn
            have s2 := hgS.cell (a := ⟨g, 2, none⟩) i2 hsn
            have s3 := hgS.cell (a := ⟨g, 3, none⟩) i3 hsn
            have s4 := hgS.cell (a := ⟨g, 4, none⟩) i4 hsn
            have s5 := hgS.cell (a := ⟨g, 5, none⟩) i5 hsn
            have s6 := hgS.cell (a := ⟨g, 6, none⟩) i6 hsn
            have hgz : g < (((((((w11.setCell ⟨w7.heap.size, 0, none⟩ (.int .i64 0)).setCell ⟨w7.heap.size, 1, none⟩ (.int .i64 0)).setCell ⟨w7.heap.size, 2, none⟩ (.slice A11 0 k11)).setCell ⟨w7.heap.size, 3, none⟩ (.int .i64 0)).setCell ⟨w7.heap.size, 4, none⟩ (.string ⟨#[]⟩)).setCell ⟨w7.heap.size, 5, none⟩ (.string ⟨#[]⟩))).heap.size := Nat.lt_of_lt_of_le hg hgS.size
            have HG := hid (And.intro s0 (And.intro s1 (And.intro s2 (And.intro s3 (And.intro s4 (And.intro s5 s6))))))
            have HGZ := hid hgz
            have HWS := hid hwS
            have HZ2 := hid (fun W => zero_like W (.slice A11 0 k11) ⟨A11, k11, rfl, fun h => absurd rfl h⟩)
            have HLK := hid (fun W => rLike_any (dExec C) (dExec C) (.slice Av 0 cv) (.slice none 0 0) W ⟨Av, cv, rfl, fun h => absurd rfl h⟩ (IRow.nil _ _) (Nat.zero_le _) (Nat.zero_le _))
            rw [like_iff.2 rfl] at HLK
            unfold Dn.cells dExec nilB at HLK
            simp only at HLK
            clear hgS hwS hsn s0 s1 s2 s3 s4 s5 s6 hgz b13 i0 i1 i2 i3 i4 i5 i6
            go_wp2_with fail
            refine (HZ2.out _).mono ?_
            rintro e w12 ⟨rfl, hb12⟩
            dsimp only
            obtain ⟨s0, s1, s2, s3, s4, s5, s6⟩ := HG.out
            have i0 := (hb12.cell (p := ⟨g, 0, none⟩) HGZ.out).trans s0
            have i1 := (hb12.cell (p := ⟨g, 1, none⟩) HGZ.out).trans s1
            have i2 := (hb12.cell (p := ⟨g, 2, none⟩) HGZ.out).trans s2
            have i3 := (hb12.cell (p := ⟨g, 3, none⟩) HGZ.out).trans s3
            have i4 := (hb12.cell (p := ⟨g, 4, none⟩) HGZ.out).trans s4
            have i5 := (hb12.cell (p := ⟨g, 5, none⟩) HGZ.out).trans s5
            have i6 := (hb12.cell (p := ⟨g, 6, none⟩) HGZ.out).trans s6
            have hw12 := HWS.out.trans (hb12.mono HWS.out.size)
            clear s0 s1 s2 s3 s4 s5 s6 HG f0 f1 f2 f3 f4 f5 c0' c1' c2' c3' c4' c5' hb12
            go_wp2_with (go_at_call 14; refine (HLK.out _).mono ?_; rintro e w13 ⟨rfl, hb13⟩)
            go_ret
            exact ⟨rfl, hw12.trans (hb13.mono hw12.size)⟩
end Go.Proofs.YtpcpdbofbbpglaaDoor
