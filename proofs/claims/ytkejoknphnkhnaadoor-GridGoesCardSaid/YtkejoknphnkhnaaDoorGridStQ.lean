/- What the walk of GridStays wants. Made by wip/gen/gridStays.py. -/
import Derived.Test.YtkejoknphnkhnaaDoorGridSpQ
import Derived.Deep.RegionWith
namespace Go.Proofs.YtkejoknphnkhnaaDoor
open Go.RowKit

theorem Bxs.push {W : World} {l : List (Nat × TypeId × Array Value)} (h : Bxs W l) {b : Nat} {t : TypeId} {cs : Array Value} (hb : Box W b t cs) : Bxs W (l ++ [(b, t, cs)]) := by
  intro x hx
  rw [List.mem_append, List.mem_singleton] at hx
  rcases hx with hx | rfl
  · exact h x hx
  · exact hb
/-- A call's grid in a box of its own, and what it told. -/
def CallRel (w : World) (cols row : Int) (lv : List (Ln × Value)) (P : World → Option Addr → Nat → Nat → Int → Prop) (b e : Value) (wx : World) : Prop :=
  ∃ q yc A k c xn, b = .pointer (some ⟨q, 0, none⟩) ∧ e = .int .i64 xn ∧ Box wx q 24 #[.int .i64 yc, .slice A k c] ∧ SF wx cols row lv yc A k c xn ∧ P wx A k c xn ∧ Below w.heap.size w wx
/-- What Up, Down answered: a grid that may be, of the same size. -/
def UF (W : World) (cols : Int) (lv : List (Ln × Value)) (ok : Bool) (xc : Int) (A : Option Addr) (k c : Nat) (xn : Int) : Prop :=
  (ok = true ∧ xn = 0 ∧ xc = cols ∧ ∃ lv', LR W (.slice A k c) lv' ∧ CesOf W lv' ∧ Sm lv' ∧ mayB cols lv' = true ∧ lv'.length = lv.length) ∨ (ok = false ∧ xn = 1)
theorem UF.below {W W' : World} {cols : Int} {lv : List (Ln × Value)} {ok : Bool} {xc : Int} {A : Option Addr} {k c : Nat} {xn : Int} (h : UF W cols lv ok xc A k c xn) (hb : Below W.heap.size W W') : UF W' cols lv ok xc A k c xn :=
  h.imp (fun ⟨h1, h2, h3, lv', h4, h5, h6⟩ => ⟨h1, h2, h3, lv', h4.below hb, h5.below hb, h6⟩) id
theorem LR.len {W : World} {A : Option Addr} {k c : Nat} {l : List (Ln × Value)} (h : LR W (.slice A k c) l) : k = l.length := by obtain ⟨A', c', e, _⟩ := h; cases e; rfl
theorem up_uf {w' : World} {cols top bot num : Int} {a : At} {lv : List (Ln × Value)} (hs : Sm lv) {gone : List (Ln × Value)} {xc : Int} {A : Option Addr} {k c : Nat} {B : Option Addr} {j d : Nat} {xn : Int}
    (h : (scrollOk cols lv top bot num a = true ∧ xc = cols ∧ xn = 0 ∧ ∃ lv', lv'.map Prod.fst = upT (lv.map Prod.fst) cols top bot num a ∧ LR w' (.slice A k c) lv' ∧ CesOf w' lv' ∧ LR w' (.slice B j d) gone) ∨ (scrollOk cols lv top bot num a = false ∧ xc = 0 ∧ (.slice A k c : Value) = .slice none 0 0 ∧ (.slice B j d : Value) = .slice none 0 0 ∧ xn = 1)) :
    UF w' cols lv (scrollOk cols lv top bot num a) xc A k c xn := by
  rcases h with ⟨h0, h1, h2, lv', h3, h4, h5, _⟩ | ⟨h0, _, _, _, h4⟩
  · obtain ⟨C, T, Bn, M, hC, rfl, rfl, p1, p2, p3, p4, p5, p6, p7⟩ := scr_parts h0
    have h0' := h0
    unfold scrollOk at h0'
    simp only [Bool.and_eq_true] at h0'
    unfold upT at h3
    rw [hC, p5, Int.toNat_natCast, Int.toNat_natCast, Int.toNat_natCast] at h3
    obtain ⟨q1, q2, q3⟩ := scr_stay hs h0'.1 hC h0'.2.2.2.2.2 (by omega) h3
    exact .inl ⟨h0, h2, h1, lv', h4, h5, q3, q1, q2⟩
  · exact .inr ⟨h0, h4⟩
theorem down_uf {w' : World} {cols top bot num : Int} {a : At} {lv : List (Ln × Value)} (hs : Sm lv) {xc : Int} {A : Option Addr} {k c : Nat} {xn : Int}
    (h : (scrollOk cols lv top bot num a = true ∧ xc = cols ∧ xn = 0 ∧ ∃ lv', lv'.map Prod.fst = downT (lv.map Prod.fst) cols top bot num a ∧ LR w' (.slice A k c) lv' ∧ CesOf w' lv') ∨ (scrollOk cols lv top bot num a = false ∧ xc = 0 ∧ (.slice A k c : Value) = .slice none 0 0 ∧ xn = 1)) :
    UF w' cols lv (scrollOk cols lv top bot num a) xc A k c xn := by
  rcases h with ⟨h0, h1, h2, lv', h3, h4, h5⟩ | ⟨h0, _, _, h4⟩
  · obtain ⟨C, T, Bn, M, hC, rfl, rfl, p1, p2, p3, p4, p5, p6, p7⟩ := scr_parts h0
    have h0' := h0
    unfold scrollOk at h0'
    simp only [Bool.and_eq_true] at h0'
    unfold downT at h3
    rw [hC, p5, Int.toNat_natCast, Int.toNat_natCast, Int.toNat_natCast] at h3
    obtain ⟨q1, q2, q3⟩ := scr_stay hs h0'.1 hC h0'.2.2.2.2.2 (by omega) h3
    exact .inl ⟨h0, h2, h1, lv', h4, h5, q3, q1, q2⟩
  · exact .inr ⟨h0, h4⟩
theorem gone_len {W : World} {B : Option Addr} {j d : Nat} {lv : List (Ln × Value)} {T m M : Nat} {num top bot : Int} (h : LR W (.slice B j d) ((lv.drop top.toNat).take (scrM top bot num))) (ht : top = T) (hb : bot = (lv.length : Int) - 1) (hT : T < lv.length) (hn : num = m) (hM : M = if (m : Int) ≤ (lv.length : Int) - T then m else lv.length - T) : j = M := by
  rw [h.len, List.length_take, List.length_drop, ht, hb, hn, hM, Int.toNat_natCast]
  unfold scrM
  simp only [Int.min_def]
  split <;> split <;> omega
/-- What stands at each place of four. -/
theorem four_at {W : World} {b k : Nat} {t : TypeId} {c0 c1 c2 c3 : Int} {A0 A1 A2 A3 : Option Addr} {k0 k1 k2 k3 d0 d1 d2 d3 : Nat} {e0 e1 e2 e3 : Int} (hb : Box W b t #[.int .i64 c0, .slice A0 k0 d0, .int .i64 c1, .slice A1 k1 d1, .int .i64 c2, .slice A2 k2 d2, .int .i64 c3, .slice A3 k3 d3]) (hk : k < 4)
    {cols row : Int} {lv : List (Ln × Value)} (s0 : SF W cols row lv c0 A0 k0 d0 e0) (s1 : SF W cols row lv c1 A1 k1 d1 e1) (s2 : SF W cols row lv c2 A2 k2 d2 e2) (s3 : SF W cols row lv c3 A3 k3 d3 e3) :
    ∃ xc A j d xn, W.cell? ⟨b, k * 2, none⟩ = some (.int .i64 xc) ∧ W.cell? ⟨b, k * 2 + 1, none⟩ = some (.slice A j d) ∧ (∀ h : k < [Value.int .i64 e0, .int .i64 e1, .int .i64 e2, .int .i64 e3].length, [Value.int .i64 e0, .int .i64 e1, .int .i64 e2, .int .i64 e3][k] = .int .i64 xn) ∧ SF W cols row lv xc A j d xn := by
  rcases (by omega : k = 0 ∨ k = 1 ∨ k = 2 ∨ k = 3) with rfl | rfl | rfl | rfl
  · exact ⟨_, _, _, _, _, hb.cell 0, hb.cell 1, fun _ => rfl, s0⟩
  · exact ⟨_, _, _, _, _, hb.cell 2, hb.cell 3, fun _ => rfl, s1⟩
  · exact ⟨_, _, _, _, _, hb.cell 4, hb.cell 5, fun _ => rfl, s2⟩
  · exact ⟨_, _, _, _, _, hb.cell 6, hb.cell 7, fun _ => rfl, s3⟩
/-- The same, spelled out: a grid that may be, or none. -/
theorem four_is {W : World} {b k n : Nat} {t : TypeId} {c0 c1 c2 c3 : Int} {A0 A1 A2 A3 : Option Addr} {k0 k1 k2 k3 d0 d1 d2 d3 : Nat} {e0 e1 e2 e3 : Int} (hb : Box W b t #[.int .i64 c0, .slice A0 k0 d0, .int .i64 c1, .slice A1 k1 d1, .int .i64 c2, .slice A2 k2 d2, .int .i64 c3, .slice A3 k3 d3]) (hk : k < 4)
    {cols row : Int} {lv : List (Ln × Value)} (s0 : SF W cols row lv c0 A0 k0 d0 e0) (s1 : SF W cols row lv c1 A1 k1 d1 e1) (s2 : SF W cols row lv c2 A2 k2 d2 e2) (s3 : SF W cols row lv c3 A3 k3 d3 e3) (hm : mayB cols lv = true) (hn : lv.length = n) :
    (∃ gx ox d lvx, W.cell? ⟨b, k * 2, none⟩ = some (.int .i64 cols) ∧ W.cell? ⟨b, k * 2 + 1, none⟩ = some (.slice (some ⟨gx, ox, none⟩) n d) ∧ (∀ h : k < [Value.int .i64 e0, .int .i64 e1, .int .i64 e2, .int .i64 e3].length, [Value.int .i64 e0, .int .i64 e1, .int .i64 e2, .int .i64 e3][k] = .int .i64 0) ∧
      LR W (.slice (some ⟨gx, ox, none⟩) n d) lvx ∧ CesOf W lvx ∧ Sm lvx ∧ Stay cols row lv lvx) ∨
    (∃ xc A j d xn, W.cell? ⟨b, k * 2, none⟩ = some (.int .i64 xc) ∧ W.cell? ⟨b, k * 2 + 1, none⟩ = some (.slice A j d) ∧ (∀ h : k < [Value.int .i64 e0, .int .i64 e1, .int .i64 e2, .int .i64 e3].length, [Value.int .i64 e0, .int .i64 e1, .int .i64 e2, .int .i64 e3][k] = .int .i64 xn) ∧ xn ≠ 0) := by
  obtain ⟨xc, A, j, d, xn, h1, h2, h3, h4⟩ := four_at hb hk s0 s1 s2 s3
  rcases h4 with ⟨rfl, rfl, lvx, q1, q2, q3, q4⟩ | ⟨hne, _, _⟩
  · have hl : lvx.length = n := by rw [q4.2.1, hn]
    have hj := q1.len
    rw [hl] at hj
    subst hj
    have hc := (mayB_cols hm).2.1
    have hne : lvx ≠ [] := by
      intro e
      rw [e] at hl
      simp at hl
      omega
    obtain ⟨_, _, he, _, hx⟩ := id q1
    cases he
    obtain ⟨gx, ox, rfl, _, _⟩ := hx hne
    exact .inl ⟨gx, ox, d, lvx, h1, h2, h3, q1, q2, q3, q4⟩
  · exact .inr ⟨xc, A, j, d, xn, h1, h2, h3, hne⟩
theorem LR.first {W : World} {A : Option Addr} {n c : Nat} {l : List (Ln × Value)} (h : LR W (.slice A n c) l) (hn : 0 < l.length) : ∃ g o, A = some ⟨g, o, none⟩ := by
  obtain ⟨_, _, he, _, hx⟩ := h
  cases he
  obtain ⟨g, o, h, _⟩ := hx (by intro e; rw [e] at hn; simp at hn)
  exact ⟨g, o, h⟩
/-- A line of each of two grids, at one place. -/
theorem line_facts {W : World} {cols row : Int} {gx ox gg og n xd c1 k : Nat} {lv lvx : List (Ln × Value)} (hx : LR W (.slice (some ⟨gx, ox, none⟩) n xd) lvx) (cx : CesOf W lvx) (hg : GIn W (.slice (some ⟨gg, og, none⟩) n c1) lv) (hst : Stay cols row lv lvx) (hn : lv.length = n) (hk : k < n) :
    ∃ (Bx : Option Addr) (nx dx : Nat) (Bg : Option Addr) (ng dg : Nat) (s : Bool), gg < W.heap.size ∧ W.cell? ⟨gx, ox + k * 2, none⟩ = some (.slice Bx nx dx) ∧ W.cell? ⟨gx, ox + k * 2 + 1, none⟩ = some (.bool s) ∧ W.cell? ⟨gg, og + k * 2, none⟩ = some (.slice Bg ng dg) ∧ W.cell? ⟨gg, og + k * 2 + 1, none⟩ = some (.bool s) ∧
      ((k : Int) ≠ row → ∀ W', Below W.heap.size W W' → Calls Tryd.prog 48 #[.agg #[.slice Bx nx dx, .bool s], .agg #[.slice Bg ng dg, .bool s]] W' fun e w' => e = .returned (.bool true) ∧ Below W'.heap.size W' w') := by
  have kl2 : k < lv.length := by omega
  have kl1 : k < lvx.length := by rw [hst.2.1]; exact kl2
  have hx1 := List.getElem?_eq_getElem kl1
  have hx2 := List.getElem?_eq_getElem kl2
  obtain ⟨hsame, hsoft⟩ := hst.2.2 k _ _ hx2 hx1
  have e1 := cx lvx[k] (List.getElem_mem _)
  have e2 := hg.ces lv[k] (List.getElem_mem _)
  have hz := (hg.sm.2 lv[k] (List.getElem_mem _)).1
  obtain ⟨_, _, he1, _, hl1⟩ := hx
  have hlx : lvx.length = n := by rw [hst.2.1, hn]
  rw [hlx] at he1
  cases he1
  obtain ⟨g1, o1, hh1, _, hc1⟩ := hl1 (by intro e; rw [e] at kl1; simp at kl1)
  cases hh1
  obtain ⟨p0, p1⟩ := hc1 k _ hx1
  obtain ⟨_, _, he2, _, hl2⟩ := hg.lr
  rw [hn] at he2
  cases he2
  obtain ⟨g2, o2, hh2, hgg, hc2⟩ := hl2 (by intro e; rw [e] at kl2; simp at kl2)
  cases hh2
  obtain ⟨r0, r1⟩ := hc2 k _ hx2
  generalize lvx[k] = x1 at *
  generalize lv[k] = x2 at *
  obtain ⟨⟨csx, sx⟩, ux⟩ := x1
  obtain ⟨⟨csg, sg⟩, ug⟩ := x2
  simp only at hsame hsoft p0 p1 e1 e2 r0 r1 hz
  subst hsoft
  obtain ⟨Bx, dx, rfl⟩ := e1.spell
  obtain ⟨Bg, dg, rfl⟩ := e2.spell
  refine ⟨Bx, _, dx, Bg, _, dg, sx, hgg, p0, p1, r0, r1, fun hne W' hb' => ?_⟩
  have hcs : csx = csg := congrArg Ln.cs (hsame hne)
  subst hcs
  exact rSameLine_eq _ _ _ csx W' (e1.below hb') (e2.below hb') (by omega)
/-- All that a round wants of the world in which a line stands in a box of its own. -/
def LineAll (W : World) (row : Int) (b0 : Nat) (c0 : Int) (gg og n c1 k bl : Nat) (Bx : Option Addr) (nx dx : Nat) (Bg : Option Addr) (ng dg : Nat) (s : Bool) : Prop :=
  Bxs W [(b0, 24, #[.int .i64 c0, .slice (some ⟨gg, og, none⟩) n c1]), (bl, 61, #[.slice Bx nx dx, .bool s])] ∧ gg < W.heap.size ∧ W.cell? ⟨gg, og + k * 2, none⟩ = some (.slice Bg ng dg) ∧ W.cell? ⟨gg, og + k * 2 + 1, none⟩ = some (.bool s) ∧
    ((k : Int) ≠ row → ∀ W', Below W.heap.size W W' → Calls Tryd.prog 48 #[.agg #[.slice Bx nx dx, .bool s], .agg #[.slice Bg ng dg, .bool s]] W' fun e w' => e = .returned (.bool true) ∧ Below W'.heap.size W' w')
theorem LineAll.line {W W' : World} {row c0 : Int} {b0 gg og n c1 k bl nx dx ng dg : Nat} {Bx Bg : Option Addr} {s : Bool} (h : LineAll W row b0 c0 gg og n c1 k bl Bx nx dx Bg ng dg s) (hb : Below W.heap.size W W') : W'.cell? ⟨bl, 0, none⟩ = some (.slice Bx nx dx) ∧ W'.cell? ⟨bl, 1, none⟩ = some (.bool s) := ((h.1.below hb).get 1 rfl).two.1
theorem LineAll.grid {W W' : World} {row c0 : Int} {b0 gg og n c1 k bl nx dx ng dg : Nat} {Bx Bg : Option Addr} {s : Bool} (h : LineAll W row b0 c0 gg og n c1 k bl Bx nx dx Bg ng dg s) (hb : Below W.heap.size W W') : W'.cell? ⟨b0, 0, none⟩ = some (.int .i64 c0) ∧ W'.cell? ⟨b0, 1, none⟩ = some (.slice (some ⟨gg, og, none⟩) n c1) := ((h.1.below hb).get 0 rfl).two.1
theorem LineAll.there {W W' : World} {row c0 : Int} {b0 gg og n c1 k bl nx dx ng dg : Nat} {Bx Bg : Option Addr} {s : Bool} (h : LineAll W row b0 c0 gg og n c1 k bl Bx nx dx Bg ng dg s) (hb : Below W.heap.size W W') : W'.cell? ⟨gg, og + k * 2, none⟩ = some (.slice Bg ng dg) ∧ W'.cell? ⟨gg, og + k * 2 + 1, none⟩ = some (.bool s) :=
  ⟨(hb.cell (p := ⟨gg, og + k * 2, none⟩) h.2.1).trans h.2.2.1, (hb.cell (p := ⟨gg, og + k * 2 + 1, none⟩) h.2.1).trans h.2.2.2.1⟩
theorem line_all {W : World} {cols row c0 : Int} {b0 gx ox gg og n xd c1 k : Nat} {lv lvx : List (Ln × Value)} (hx : LR W (.slice (some ⟨gx, ox, none⟩) n xd) lvx) (cx : CesOf W lvx) (hg : GIn W (.slice (some ⟨gg, og, none⟩) n c1) lv) (hst : Stay cols row lv lvx) (hn : lv.length = n) (hk : k < n) (hb0 : Box W b0 24 #[.int .i64 c0, .slice (some ⟨gg, og, none⟩) n c1]) :
    ∃ (Bx : Option Addr) (nx dx : Nat) (Bg : Option Addr) (ng dg : Nat) (s : Bool), (W.cell? ⟨gx, ox + k * 2, none⟩ = some (.slice Bx nx dx) ∧ W.cell? ⟨gx, ox + k * 2 + 1, none⟩ = some (.bool s)) ∧ LineAll (W.alloc (.cells #[.slice Bx nx dx, .bool s] 61)) row b0 c0 gg og n c1 k W.heap.size Bx nx dx Bg ng dg s := by
  obtain ⟨Bx, nx, dx, Bg, ng, dg, s, h1, h2, h3, h4, h5, h6⟩ := line_facts hx cx hg hst hn hk
  have hbr := below_alloc W (.cells #[.slice Bx nx dx, .bool s] 61)
  refine ⟨Bx, nx, dx, Bg, ng, dg, s, ⟨h2, h3⟩, ?_, Nat.lt_of_lt_of_le h1 hbr.size, (hbr.cell (p := ⟨gg, og + k * 2, none⟩) h1).trans h4, (hbr.cell (p := ⟨gg, og + k * 2 + 1, none⟩) h1).trans h5, fun hne W' hb' => h6 hne W' (hbr.trans (hb'.mono hbr.size))⟩
  intro x hx
  simp only [List.mem_cons, List.mem_nil_iff, or_false] at hx
  rcases hx with rfl | rfl
  · exact hb0.alloc _
  · exact Box.new _ _ _
/-- Where the cell lies that was put. -/
theorem put_at {W : World} {row col : Int} {ce : Ce} {A : Option Addr} {k c : Nat} {xn : Int} (h : PF W row col ce A k c xn) (h0 : xn = 0) :
    ∃ gp op gl ol nl dl : Nat, A = some ⟨gp, op, none⟩ ∧ (0 ≤ row ∧ row < (k : Int)) ∧ (0 ≤ col ∧ col < (nl : Int)) ∧ nl ≤ 1000 ∧ (gp < W.heap.size ∧ gl < W.heap.size) ∧ W.cell? ⟨gp, op + row.toNat * 2, none⟩ = some (.slice (some ⟨gl, ol, none⟩) nl dl) ∧
      (W.cell? ⟨gl, ol + col.toNat * 5, none⟩ = some (.string ce.tx) ∧ W.cell? ⟨gl, ol + col.toNat * 5 + 1, none⟩ = some (.int .i64 ce.wd) ∧ W.cell? ⟨gl, ol + col.toNat * 5 + 2, none⟩ = some (.int .i64 ce.fg) ∧ W.cell? ⟨gl, ol + col.toNat * 5 + 3, none⟩ = some (.int .i64 ce.bg) ∧ W.cell? ⟨gl, ol + col.toNat * 5 + 4, none⟩ = some (.int .i64 ce.fl)) := by
  obtain ⟨lv', r, q, cs, soft, u, rfl, rfl, hl, hc, hx, hq, hlen⟩ := h h0
  have hk := hl.len
  have hr := (List.getElem?_eq_some_iff.1 hx).1
  have hq' := (List.getElem?_eq_some_iff.1 hq).1
  obtain ⟨_, _, he, _, hcell⟩ := hl
  cases he
  obtain ⟨gp, op, rfl, hg, hcell⟩ := hcell (by intro e; rw [e] at hr; simp at hr)
  obtain ⟨p0, _⟩ := hcell r _ hx
  obtain ⟨_, dl, he2, _, hcc⟩ := hc _ (List.mem_of_getElem? hx)
  simp only at he2 hcc
  subst he2
  obtain ⟨gl, ol, rfl, hgl, hcc⟩ := hcc (by intro e; rw [e] at hq'; simp at hq')
  refine ⟨gp, op, gl, ol, cs.length, dl, rfl, by omega, by omega, hlen, ⟨hg, hgl⟩, ?_, ?_⟩
  · rw [Int.toNat_natCast]; exact p0
  · rw [Int.toNat_natCast]; exact ccells (hcc q _ hq)
/-- All that is asked of such a grid. -/
theorem UF.right {W : World} {cols : Int} {lv : List (Ln × Value)} {xc : Int} {A : Option Addr} {k c : Nat} {xn : Int} (h : UF W cols lv true xc A k c xn) (hT : Tab W) (hW : TabW W) :
    xn = 0 ∧ k = lv.length ∧ ∀ W', Below W.heap.size W W' → Calls Tryd.prog 65 #[.agg #[.int .i64 xc, .slice A k c]] W' fun e w' => e = .returned (.bool true) ∧ Below W'.heap.size W' w' := by
  rcases h with ⟨_, h1, h2, lv', h3, h4, h5, h6, h7⟩ | ⟨h, _⟩
  · refine ⟨h1, by rw [h3.len, h7], fun W' hb => ?_⟩
    have hr := pRight_any cols _ lv' W' (h3.below hb) (h4.below hb) h5 (hT.below hb) (hW.below hb)
    rw [show (sizeB cols lv'.length && allB cols lv') = true from h6] at hr
    rw [h2]
    exact hr
  · cases h
theorem UF.none_ {W : World} {cols : Int} {lv : List (Ln × Value)} {xc : Int} {A : Option Addr} {k c : Nat} {xn : Int} (h : UF W cols lv false xc A k c xn) : xn = 1 := by
  rcases h with ⟨h, _⟩ | ⟨_, h⟩
  · cases h
  · exact h
theorem scroll_rows {cols top bot num : Int} {a : At} {lv : List (Ln × Value)} (h : scrollOk cols lv top bot num a = true) : 0 ≤ top ∧ top < lv.length := by
  obtain ⟨C, T, Bn, M, _, rfl, rfl, p1, p2, _⟩ := scr_parts h
  omega
theorem gone_is {w' : World} {cols row : Int} {a : At} {lv : List (Ln × Value)} {m n : Nat} {xc : Int} {A : Option Addr} {k c : Nat} {B : Option Addr} {j d : Nat} {xn : Int} (hn : lv.length = n)
    (h : (scrollOk cols lv row ((n : Int) - 1) m a = true ∧ xc = cols ∧ xn = 0 ∧ ∃ lv', lv'.map Prod.fst = upT (lv.map Prod.fst) cols row ((n : Int) - 1) m a ∧ LR w' (.slice A k c) lv' ∧ CesOf w' lv' ∧ LR w' (.slice B j d) ((lv.drop row.toNat).take (scrM row ((n : Int) - 1) m))) ∨ (scrollOk cols lv row ((n : Int) - 1) m a = false ∧ xc = 0 ∧ (.slice A k c : Value) = .slice none 0 0 ∧ (.slice B j d : Value) = .slice none 0 0 ∧ xn = 1)) :
    scrollOk cols lv row ((n : Int) - 1) m a = true → ((m : Int) ≤ (n : Int) - row → (j : Int) = m) ∧ ((n : Int) - row < (m : Int) → (j : Int) = (n : Int) - row) := by
  intro h0
  have hr := scroll_rows h0
  rcases h with ⟨_, _, _, lv', _, _, _, h4⟩ | ⟨h, _⟩
  · have hj := h4.len
    rw [List.length_take, List.length_drop, hn] at hj
    unfold scrM at hj
    simp only [Int.min_def] at hj
    constructor
    · intro hm; split at hj <;> omega
    · intro hm; split at hj <;> omega
  · rw [h0] at h; cases h
end Go.Proofs.YtkejoknphnkhnaaDoor
