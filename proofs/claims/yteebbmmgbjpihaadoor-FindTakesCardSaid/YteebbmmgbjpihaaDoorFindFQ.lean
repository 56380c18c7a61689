/- Layer 10, the package: Find. Made by wip/gen/findF.py. -/
import Derived.Test.YteebbmmgbjpihaaDoorFlowLmQ
import Derived.Test.YteebbmmgbjpihaaDoorFindPQ
import Derived.Test.YteebbmmgbjpihaaDoorHeldRQ
import Derived.Test.YteebbmmgbjpihaaDoorHeldSQ
namespace Go.Proofs.YteebbmmgbjpihaaDoor
open Go.RowKit Go.Shelf
attribute [local go_sem] Oper.semAt_some

/-- What Find answers. -/
def findR (lv : List (Ln × Value)) (s : ByteArray) (fr : Int × Int) (back : Bool) : Int × Int × Int :=
  if keptB lv = false ∨ inP (lv.map Prod.fst) fr = false ∨ s.size = 0 ∨ 64 < s.size then (0, 0, 1)
  else match foundL (lv.map Prod.fst) s (fr.1.toNat, fr.2.toNat) back with
    | some p => ((p.1 : Int), (p.2 : Int), 0)
    | none => (0, 0, 5)
def FdPost (W : World) (x : Int × Int × Int) (e : Ending) (w' : World) : Prop := e = .returned (.tuple #[.int .i64 x.1, .int .i64 x.2.1, .int .i64 x.2.2]) ∧ Below W.heap.size W w'
theorem box_one {W : World} {b : Nat} {t : TypeId} {x : Value} (h : Box W b t #[x]) : W.cell? ⟨b, 0, none⟩ = some x ∧ W.frozen? ⟨b, 0, none⟩ = false := ⟨h.cell 0, h.free 0⟩
/-- What Find lays first. -/
structure FdB (W W' : World) (v : Value) (s : ByteArray) (r q : Int) : Prop where
  hb : Below W.heap.size W W'
  lt : W.heap.size + 1 + 1 + 1 + 1 + 1 < W'.heap.size
  b0 : Box W' W.heap.size 22 #[v]
  b1 : Box W' (W.heap.size + 1) 9 #[.string s]
  b2 : Box W' (W.heap.size + 1 + 1) 3 #[.int .i64 0]
  b3 : Box W' (W.heap.size + 1 + 1 + 1) 3 #[.int .i64 0]
  b4 : Box W' (W.heap.size + 1 + 1 + 1 + 1) 24 #[.int .i64 0]
  b5 : Box W' (W.heap.size + 1 + 1 + 1 + 1 + 1) 50 #[.int .i64 r, .int .i64 q]
theorem FdB.new (W : World) (v : Value) (s : ByteArray) (r q : Int) : FdB W ((((((W.alloc (.cells #[v] 22)).alloc (.cells #[.string s] 9)).alloc (.cells #[.int .i64 0] 3)).alloc (.cells #[.int .i64 0] 3)).alloc (.cells #[.int .i64 0] 24)).alloc (.cells #[.int .i64 r, .int .i64 q] 50)) v s r q := by
  refine ⟨?_, by simp, ?_, ?_, ?_, ?_, ?_, ?_⟩
  · repeat (first | exact below_alloc _ _ | refine Below.alloc ?_ (by simp; try omega) _)
  · exact (((((Box.new _ _ _).alloc _).alloc _).alloc _).alloc _).alloc _
  · have := ((((Box.new (W.alloc (.cells #[v] 22)) 9 #[.string s]).alloc (.cells #[.int .i64 0] 3)).alloc (.cells #[.int .i64 0] 3)).alloc (.cells #[.int .i64 0] 24)).alloc (.cells #[.int .i64 r, .int .i64 q] 50)
    simpa only [World.size_alloc] using this
  · have := (((Box.new ((W.alloc (.cells #[v] 22)).alloc (.cells #[.string s] 9)) 3 #[.int .i64 0]).alloc (.cells #[.int .i64 0] 3)).alloc (.cells #[.int .i64 0] 24)).alloc (.cells #[.int .i64 r, .int .i64 q] 50)
    simpa only [World.size_alloc] using this
  · have := ((Box.new (((W.alloc (.cells #[v] 22)).alloc (.cells #[.string s] 9)).alloc (.cells #[.int .i64 0] 3)) 3 #[.int .i64 0]).alloc (.cells #[.int .i64 0] 24)).alloc (.cells #[.int .i64 r, .int .i64 q] 50)
    simpa only [World.size_alloc] using this
  · have := (Box.new ((((W.alloc (.cells #[v] 22)).alloc (.cells #[.string s] 9)).alloc (.cells #[.int .i64 0] 3)).alloc (.cells #[.int .i64 0] 3)) 24 #[.int .i64 0]).alloc (.cells #[.int .i64 r, .int .i64 q] 50)
    simpa only [World.size_alloc] using this
  · have := Box.new (((((W.alloc (.cells #[v] 22)).alloc (.cells #[.string s] 9)).alloc (.cells #[.int .i64 0] 3)).alloc (.cells #[.int .i64 0] 3)).alloc (.cells #[.int .i64 0] 24)) 50 #[.int .i64 r, .int .i64 q]
    simpa only [World.size_alloc] using this
theorem FdB.below {W W1 W2 : World} {v : Value} {s : ByteArray} {r q : Int} (h : FdB W W1 v s r q) (hb : Below W1.heap.size W1 W2) : FdB W W2 v s r q :=
  have hl := h.lt
  ⟨h.hb.trans (hb.mono h.hb.size), Nat.lt_of_lt_of_le h.lt hb.size, h.b0.below hb (by omega), h.b1.below hb (by omega), h.b2.below hb (by omega), h.b3.below hb (by omega), h.b4.below hb (by omega), h.b5.below hb (by omega)⟩
/-- Three results stored. -/
theorem FdB.res {W W1 : World} {v : Value} {s : ByteArray} {r q : Int} (h : FdB W W1 v s r q) (x y z : Int) :
    ((W1.setCell ⟨W.heap.size + 1 + 1, 0, none⟩ (.int .i64 x)).cell? ⟨W.heap.size + 1 + 1, 0, none⟩ = some (.int .i64 x) ∧
     ((W1.setCell ⟨W.heap.size + 1 + 1, 0, none⟩ (.int .i64 x)).setCell ⟨W.heap.size + 1 + 1 + 1, 0, none⟩ (.int .i64 y)).cell? ⟨W.heap.size + 1 + 1 + 1, 0, none⟩ = some (.int .i64 y) ∧
     (((W1.setCell ⟨W.heap.size + 1 + 1, 0, none⟩ (.int .i64 x)).setCell ⟨W.heap.size + 1 + 1 + 1, 0, none⟩ (.int .i64 y)).setCell ⟨W.heap.size + 1 + 1 + 1 + 1, 0, none⟩ (.int .i64 z)).cell? ⟨W.heap.size + 1 + 1 + 1 + 1, 0, none⟩ = some (.int .i64 z)) ∧
    Below W.heap.size W (((W1.setCell ⟨W.heap.size + 1 + 1, 0, none⟩ (.int .i64 x)).setCell ⟨W.heap.size + 1 + 1 + 1, 0, none⟩ (.int .i64 y)).setCell ⟨W.heap.size + 1 + 1 + 1 + 1, 0, none⟩ (.int .i64 z)) := by
  refine ⟨⟨?_, ?_, ?_⟩, below_set (below_set (below_set h.hb (by omega) _) (by omega) _) (by omega) _⟩
  · exact (h.b2.set (i := 0) (.int .i64 x)).cell 0
  · exact ((h.b3.other (b' := W.heap.size + 1 + 1) (i := 0) (by omega) (.int .i64 x)).set (i := 0) (.int .i64 y)).cell 0
  · exact (((h.b4.other (b' := W.heap.size + 1 + 1) (i := 0) (by omega) (.int .i64 x)).other (b' := W.heap.size + 1 + 1 + 1) (i := 0) (by omega) (.int .i64 y)).set (i := 0) (.int .i64 z)).cell 0
theorem below_others {X Y : World} (h : Below X.heap.size X Y) : KeepsOthers X Y := ⟨h.size, fun k _ ho _ => (h.block k (Array.getElem?_eq_some_iff.1 ho).1).trans ho⟩
theorem fdb_own {β : Type} {W : World} {v : Value} {s : ByteArray} {r q : Int} {B : Nat} (hB : W.heap.size ≤ B) : OwnFrom B (fun (_ : β) W' => FdB W W' v s r q) := by
  intro _ X Y row h hg hr
  have k := fun {b : Nat} {t : TypeId} {cs : Array Value} (hb : Box X b t cs) => (grownBy_keeps_cells hg (fun r e => (hr r e).2) hb rfl).trans hb
  exact ⟨h.hb.grown hg h.hb.size (fun j e => by have := (hr j e).1; omega), Nat.lt_of_lt_of_le h.lt hg.size, k h.b0, k h.b1, k h.b2, k h.b3, k h.b4, k h.b5⟩
/-- It is left with these results. -/
structure FdX (W W' : World) (x y : Int) : Prop where
  hb : Below W.heap.size W W'
  c2 : W'.cell? ⟨W.heap.size + 1 + 1, 0, none⟩ = some (.int .i64 x)
  c3 : W'.cell? ⟨W.heap.size + 1 + 1 + 1, 0, none⟩ = some (.int .i64 y)
  c4 : W'.cell? ⟨W.heap.size + 1 + 1 + 1 + 1, 0, none⟩ = some (.int .i64 0)
theorem fdx_own {W : World} {x y : Int} {B : Nat} (hB : W.heap.size ≤ B) {X Y : World} {row : Option Nat} (h : FdX W X x y) (hg : X.grownBy Y row) (hr : ∀ r, row = some r → B ≤ r ∧ ∃ o : Obj, X.heap[r]? = some o ∧ o.isCells = false) : FdX W Y x y :=
  have k := fun {a : Addr} {v : Value} (hc : X.cell? a = some v) => cell_kept hc hg (fun r e => (hr r e).2)
  ⟨h.hb.grown hg h.hb.size (fun j e => by have := (hr j e).1; omega), k h.c2, k h.c3, k h.c4⟩
theorem FdX.drew {W X : World} {x y : Int} (h : FdX W X x y) : FdX W X.drew x y := ⟨h.hb.trans ((below_drew X 1).mono h.hb.size), h.c2, h.c3, h.c4⟩
theorem FdB.resX {W W1 : World} {v : Value} {s : ByteArray} {r q : Int} (h : FdB W W1 v s r q) (x y : Int) :
    FdX W (((W1.setCell ⟨W.heap.size + 1 + 1, 0, none⟩ (.int .i64 x)).setCell ⟨W.heap.size + 1 + 1 + 1, 0, none⟩ (.int .i64 y)).setCell ⟨W.heap.size + 1 + 1 + 1 + 1, 0, none⟩ (.int .i64 0)) x y := by
  refine ⟨below_set (below_set (below_set h.hb (by omega) _) (by omega) _) (by omega) _, ?_, ?_, ?_⟩
  · exact (((h.b2.set (i := 0) (.int .i64 x)).other (b' := W.heap.size + 1 + 1 + 1) (i := 0) (by omega) (.int .i64 y)).other (b' := W.heap.size + 1 + 1 + 1 + 1) (i := 0) (by omega) (.int .i64 0)).cell 0
  · exact (((h.b3.other (b' := W.heap.size + 1 + 1) (i := 0) (by omega) (.int .i64 x)).set (i := 0) (.int .i64 y)).other (b' := W.heap.size + 1 + 1 + 1 + 1) (i := 0) (by omega) (.int .i64 0)).cell 0
  · exact (((h.b4.other (b' := W.heap.size + 1 + 1) (i := 0) (by omega) (.int .i64 x)).other (b' := W.heap.size + 1 + 1 + 1) (i := 0) (by omega) (.int .i64 y)).set (i := 0) (.int .i64 0)).cell 0
theorem FdB.resN {W W1 : World} {v : Value} {s : ByteArray} {r q : Int} (h : FdB W W1 v s r q) (x y z : Int) :
    ((((W1.setCell ⟨W.heap.size + 1 + 1, 0, none⟩ (.int .i64 x)).setCell ⟨W.heap.size + 1 + 1 + 1, 0, none⟩ (.int .i64 y)).setCell ⟨W.heap.size + 1 + 1 + 1 + 1, 0, none⟩ (.int .i64 z)).cell? ⟨W.heap.size + 1 + 1, 0, none⟩ = some (.int .i64 x) ∧
     (((W1.setCell ⟨W.heap.size + 1 + 1, 0, none⟩ (.int .i64 x)).setCell ⟨W.heap.size + 1 + 1 + 1, 0, none⟩ (.int .i64 y)).setCell ⟨W.heap.size + 1 + 1 + 1 + 1, 0, none⟩ (.int .i64 z)).cell? ⟨W.heap.size + 1 + 1 + 1, 0, none⟩ = some (.int .i64 y) ∧
     (((W1.setCell ⟨W.heap.size + 1 + 1, 0, none⟩ (.int .i64 x)).setCell ⟨W.heap.size + 1 + 1 + 1, 0, none⟩ (.int .i64 y)).setCell ⟨W.heap.size + 1 + 1 + 1 + 1, 0, none⟩ (.int .i64 z)).cell? ⟨W.heap.size + 1 + 1 + 1 + 1, 0, none⟩ = some (.int .i64 z)) ∧
    Below W.heap.size W (((W1.setCell ⟨W.heap.size + 1 + 1, 0, none⟩ (.int .i64 x)).setCell ⟨W.heap.size + 1 + 1 + 1, 0, none⟩ (.int .i64 y)).setCell ⟨W.heap.size + 1 + 1 + 1 + 1, 0, none⟩ (.int .i64 z)) := by
  refine ⟨⟨?_, ?_, ?_⟩, below_set (below_set (below_set h.hb (by omega) _) (by omega) _) (by omega) _⟩
  · exact (((h.b2.set (i := 0) (.int .i64 x)).other (b' := W.heap.size + 1 + 1 + 1) (i := 0) (by omega) (.int .i64 y)).other (b' := W.heap.size + 1 + 1 + 1 + 1) (i := 0) (by omega) (.int .i64 z)).cell 0
  · exact (((h.b3.other (b' := W.heap.size + 1 + 1) (i := 0) (by omega) (.int .i64 x)).set (i := 0) (.int .i64 y)).other (b' := W.heap.size + 1 + 1 + 1 + 1) (i := 0) (by omega) (.int .i64 z)).cell 0
  · exact (((h.b4.other (b' := W.heap.size + 1 + 1) (i := 0) (by omega) (.int .i64 x)).other (b' := W.heap.size + 1 + 1 + 1) (i := 0) (by omega) (.int .i64 y)).set (i := 0) (.int .i64 z)).cell 0
theorem set_dfr {X : World} {D b i : Nat} {o : Obj} (hne : D ≠ b) (u : Value) (h : X.heap[D]? = some o) : (X.setCell ⟨b, i, none⟩ u).heap[D]? = some o := (Below.heap_setCell X ⟨b, i, none⟩ u D hne).trans h
theorem found_none {ls : List Ln} {L : List (Int × Int)} {f : Int × Int → Bool} {ys : List (PlI ls)} {o : Option (Nat × Nat)} (hys : ys.map (·.val) = L) (h : ∀ y ∈ ys, f y.val = false) (hf : L.find? f = o.map toI) : o = none := by
  have : L.find? f = none := by
    rw [List.find?_eq_none, ← hys]
    intro x hx
    obtain ⟨y, hy, rfl⟩ := List.mem_map.1 hx
    rw [h y hy]
    simp
  rw [this] at hf
  cases o with
  | none => rfl
  | some p => cases hf
theorem found_some {ls : List Ln} {L : List (Int × Int)} {f : Int × Int → Bool} {pre : List (PlI ls)} {y : PlI ls} {o : Option (Nat × Nat)} (hp : (pre ++ [y]).map (·.val) <+: L) (h : ∀ z ∈ pre, f z.val = false) (hy : f y.val = true) (hf : L.find? f = o.map toI) : ∃ p, o = some p ∧ toI p = y.val := by
  obtain ⟨t, rfl⟩ := hp
  have : ((pre ++ [y]).map (·.val) ++ t).find? f = some y.val := by
    rw [List.map_append, List.append_assoc, List.find?_append]
    have h1 : (pre.map (·.val)).find? f = none := by
      rw [List.find?_eq_none]
      intro x hx
      obtain ⟨z, hz, rfl⟩ := List.mem_map.1 hx
      rw [h z hz]
      simp
    rw [h1]
    simp [hy]
  rw [this] at hf
  cases o with
  | none => cases hf
  | some p => exact ⟨p, rfl, (Option.some.inj hf).symm⟩
theorem fd_none {W w' : World} {o : Option (Nat × Nat)} {x : Int × Int × Int} (hx : x = match o with | some p => ((p.1 : Int), (p.2 : Int), 0) | none => (0, 0, 5)) (h : o = none) (hb : Below W.heap.size W w') : FdPost W x (.returned (.tuple #[.int .i64 0, .int .i64 0, .int .i64 5])) w' := by subst h; subst hx; exact ⟨rfl, hb⟩
theorem fd_some {W w' : World} {o : Option (Nat × Nat)} {y : Int × Int} {x : Int × Int × Int} (hx : x = match o with | some p => ((p.1 : Int), (p.2 : Int), 0) | none => (0, 0, 5)) (h : ∃ p, o = some p ∧ toI p = y) (hb : Below W.heap.size W w') : FdPost W x (.returned (.tuple #[.int .i64 y.1, .int .i64 y.2, .int .i64 0])) w' := by
  obtain ⟨p, rfl, rfl⟩ := h
  subst hx
  exact ⟨rfl, hb⟩
set_option maxRecDepth 100000 in
set_option maxHeartbeats 4000000 in
theorem find_no (v : Value) (lv : List (Ln × Value)) (s : ByteArray) (r q : Int) (back : Bool) (W : World) (hf : Fl W v lv) (hT : Tab W) (hW : TabW W)
    (hno : keptB lv = false ∨ inP (lv.map Prod.fst) (r, q) = false ∨ s.size = 0 ∨ 64 < s.size) :
    Calls Tryd.prog 7 #[v, .string s, .int .i64 r, .int .i64 q, .bool back] W (FdPost W (0, 0, 1)) := by
  obtain ⟨A, cap, rfl⟩ := hf.lr.spell
  obtain ⟨n, hnn⟩ : ∃ n, lv.length = n := ⟨_, rfl⟩
  have hM := fun (W' : World) (hb : Below W.heap.size W W') (g c : Nat) (hg : g < W'.heap.size) hp => fmay_any _ lv [(r, q)] g c W' (hf.below hb) (hT.below hb) (hW.below hb) (by simp) hg hp
  rw [hnn] at hM ⊢
  have hone : [(r, q)].all (inP (lv.map Prod.fst)) = inP (lv.map Prod.fst) (r, q) := by simp
  have hl1 : [(r, q)].length = 1 := rfl
  rw [hone, hl1] at hM
  have HM := hid hM
  clear hM hone hf hT hW hnn
  have hcase : (keptB lv && inP (lv.map Prod.fst) (r, q)) = false ∨ ((keptB lv && inP (lv.map Prod.fst) (r, q)) = true ∧ s = ⟨#[]⟩) ∨ ((keptB lv && inP (lv.map Prod.fst) (r, q)) = true ∧ s.toList.isEmpty = false ∧ (64 : Int) < s.size) := by
    cases h1 : (keptB lv && inP (lv.map Prod.fst) (r, q)) with
    | false => exact .inl rfl
    | true =>
      rw [Bool.and_eq_true] at h1
      rcases hno with h | h | h | h
      · rw [h1.1] at h; cases h
      · rw [h1.2] at h; cases h
      · exact .inr (.inl ⟨rfl, empty_yes h⟩)
      · exact .inr (.inr ⟨rfl, empty_no (by omega), by omega⟩)
  clear hno
  generalize (keptB lv && inP (lv.map Prod.fst) (r, q)) = ok at *
  have hB0 := FdB.new W (.slice A n cap) s r q
  have hbp := Box.new ((((((W.alloc (.cells #[.slice A n cap] 22)).alloc (.cells #[.string s] 9)).alloc (.cells #[.int .i64 0] 3)).alloc (.cells #[.int .i64 0] 3)).alloc (.cells #[.int .i64 0] 24)).alloc (.cells #[.int .i64 r, .int .i64 q] 50)) 50 #[.int .i64 r, .int .i64 q]
  simp only [World.size_alloc] at hbp
  have hB1 := hB0.below (below_alloc _ (.cells #[.int .i64 r, .int .i64 q] 50))
  have H := HM.out _ hB1.hb (W.heap.size + 1 + 1 + 1 + 1 + 1 + 1) 1 hbp.lt (fun j p hp => by
    match j, hp with
    | 0, hp => cases hp; exact ⟨hbp.cell 0, hbp.cell 1⟩
    | j + 1, hp => simp at hp)
  have HB1 := hid hB1
  have HH := hid H
  clear hB0 hB1 hbp H HM
  rcases hcase with rfl | ⟨rfl, rfl⟩ | ⟨rfl, hne, h64⟩
  all_goals
    go_enter Tryd.func7, Tryd.ntmps7
    go_wp2_with fail
    with_reducible refine HH.out.mono ?_
    rintro e w1 ⟨rfl, hb⟩
    dsimp only
    have hB2 := HB1.out.below hb
    obtain ⟨k2, f2⟩ := box_one hB2.b2
    obtain ⟨k3, f3⟩ := box_one hB2.b3
    obtain ⟨k4, f4⟩ := box_one hB2.b4
    obtain ⟨k1, _⟩ := box_one hB2.b1
    obtain ⟨⟨r2, r3, r4⟩, hZ⟩ := hB2.res 0 0 1
    have HZ := hid hZ
    clear hZ hB2 hb HH HB1
    go_wp2
    refine bodyPost_ret (v := .tuple #[.int .i64 0, .int .i64 0, .int .i64 1]) (by simp [results, Tryd.results7, go_sem, r2, r3, r4]) rfl ⟨rfl, HZ.out⟩
set_option maxRecDepth 100000 in
set_option maxHeartbeats 8000000 in
theorem find_next (v : Value) (lv : List (Ln × Value)) (s : ByteArray) (p0 : Nat × Nat) (W : World) (hf : Fl W v lv) (hT : Tab W) (hW : TabW W)
    (hk : keptB lv = true) (hi : p0 ∈ placesP (lv.map Prod.fst)) (h0 : 0 < s.size) (h64 : s.size ≤ 64) (x : Int × Int × Int) (hx : x = (match foundL (lv.map Prod.fst) s p0 false with | some p => ((p.1 : Int), (p.2 : Int), 0) | none => (0, 0, 5))) :
    Calls Tryd.prog 7 #[v, .string s, .int .i64 p0.1, .int .i64 p0.2, .bool false] W (FdPost W x) := by
  have HXX := hid hx
  clear hx
  have hok := kept_ok hf.sm hk
  have hin := inP_nat.2 hi
  have hwk := walk_next (ls := lv.map Prod.fst) (fun l hl => (hok l hl).2.2.1) _ p0 rfl hi
  have hfi := walk_find (lv.map Prod.fst) s p0 false
  obtain ⟨L, hL⟩ : ∃ L, L = walkL (lv.map Prod.fst) false p0 := ⟨_, rfl⟩
  have hwk' : WalkP (lv.map Prod.fst) (nextP (lv.map Prod.fst)) (nextP (lv.map Prod.fst) (toI p0)) L := by rw [hL]; exact hwk
  rw [← hL] at hfi
  have HFI := hid hfi
  clear hwk hL hfi
  obtain ⟨A, cap, rfl⟩ := hf.lr.spell
  obtain ⟨n, hnn⟩ : ∃ n, lv.length = n := ⟨_, rfl⟩
  obtain ⟨r, hr⟩ : ∃ r : Int, (p0.1 : Int) = r := ⟨_, rfl⟩
  obtain ⟨q, hq⟩ : ∃ q : Int, (p0.2 : Int) = q := ⟨_, rfl⟩
  have hti : toI p0 = (r, q) := by unfold toI; rw [hr, hq]
  rw [hti] at hin hwk'
  have hM := fun (W' : World) (hb : Below W.heap.size W W') (g c : Nat) (hg : g < W'.heap.size) hp => fmay_any _ lv [(r, q)] g c W' (hf.below hb) (hT.below hb) (hW.below hb) (by simp) hg hp
  rw [hnn] at hM ⊢
  rw [hr, hq]
  have hone : (keptB lv && [(r, q)].all (inP (lv.map Prod.fst))) = true := by rw [hk]; simp [hin]
  have hl1 : [(r, q)].length = 1 := rfl
  rw [hone, hl1] at hM
  have HM := hid hM
  have hlr := hf.lr
  rw [hnn] at hlr
  have HLR := hid hlr
  have HF := hid hf
  have HOK := hid hok
  clear hlr
  clear hM hone hf hT hW hok
  have hB0 := FdB.new W (.slice A n cap) s r q
  have hbp := Box.new ((((((W.alloc (.cells #[.slice A n cap] 22)).alloc (.cells #[.string s] 9)).alloc (.cells #[.int .i64 0] 3)).alloc (.cells #[.int .i64 0] 3)).alloc (.cells #[.int .i64 0] 24)).alloc (.cells #[.int .i64 r, .int .i64 q] 50)) 50 #[.int .i64 r, .int .i64 q]
  simp only [World.size_alloc] at hbp
  have hB1 := hB0.below (below_alloc _ (.cells #[.int .i64 r, .int .i64 q] 50))
  have H := HM.out _ hB1.hb (W.heap.size + 1 + 1 + 1 + 1 + 1 + 1) 1 hbp.lt (fun j p hp => by
    match j, hp with
    | 0, hp => cases hp; exact ⟨hbp.cell 0, hbp.cell 1⟩
    | j + 1, hp => simp at hp)
  have HB1 := hid hB1
  have HH := hid H
  have hne := empty_no (show ¬ s.size = 0 by omega)
  have h64i : ¬ (64 : Int) < s.size := by omega
  have h64j : (s.size : Int) ≤ 64 := by omega
  have h64b : decide ((64 : Int) < s.size) = false := decide_eq_false h64i
  have HT := hid (⟨hr, hq⟩ : (p0.1 : Int) = r ∧ (p0.2 : Int) = q)
  clear hB0 hB1 hbp H HM hr hq hti
  refine (callsIn_wide (n := 3)).1 (callsIn_of_wp_marks Tryd.func7 rfl trivial ?_ rfl)
  simp only [Tryd.ntmps7, List.size_toArray, List.length_cons, List.length_nil, Nat.reduceAdd, Nat.reduceSub, Array.replicate_succ, Array.replicate_zero, List.push_toArray, List.append_toArray, List.nil_append, List.cons_append]
  gi_upto_region 4 with ((try refine ⟨trivial, ?_⟩); gi_at_call 19; refine (callsIn_wide.2 HH.out).mono ?_; rintro e w1 ⟨rfl, hb⟩; have hB2 := HB1.out.below hb; obtain ⟨k1, _⟩ := box_one hB2.b1)
  have HP := hid (places_any (.slice A n cap) A n cap rfl r q false w1)
  obtain ⟨k0, _⟩ := box_one hB2.b0
  obtain ⟨⟨k5, k6⟩, _⟩ := hB2.b5.two
  gi_wp2_with ((try refine ⟨trivial, ?_⟩); gi_at_call 20; refine (callsIn_wide.2 HP.out).mono ?_; rintro e w2 ⟨rfl, hb2, c1, c20, c21, c3⟩)
  simp only [Bool.false_eq_true, if_false] at c1
  have hB3 := hB2.below hb2
  have hw2 := hb2.size
  have hw1 := hB2.hb.size
  have hlt3 := hB3.lt
  clear k0 k1 k5 k6 hb hB2 HP HH HB1
  refine wpIn_rangeFunc_ownH (by rfl) (by omega) (gf := 34) (lb := #[.pointer (some ⟨w1.heap.size + 1 + 1, 0, none⟩), .pointer (some ⟨w1.heap.size + 1, 0, none⟩), .pointer (some ⟨w1.heap.size, 0, none⟩)]) rfl trivial (enters_of Tryd.func34 (by kernel_rfl) rfl)
    (next_stops 2 (by omega) (w1.heap.size + 1 + 1) (w1.heap.size + 1) w1.heap.size (r, q) (.slice A n cap) lv L W w2 HLR.out HF.out.ces HF.out.sm hin hwk' hB3.hb c1 c20 c21 c3) (fun h k => h.trans k) (fun X l o o' hl h hc hw => KeptC.putObj (w := w2) hB3.hb.size X l o o' hl h hc hw) (Below.refl _ _) (fun _ => rfl)
    (fun pre X => FdB W X (.slice A n cap) s r q ∧ ∀ y ∈ pre, standsI (lv.map Prod.fst) s y.val = false)
    (fun c pre X => c = .ret ∧ ∃ pre' y, pre = pre' ++ [y] ∧ (∀ z ∈ pre', standsI (lv.map Prod.fst) s z.val = false) ∧ standsI (lv.map Prod.fst) s y.val = true ∧ FdX W X y.val.1 y.val.2)
    (fun pre X Y row h hg hr => ⟨fdb_own (β := Unit) hB3.hb.size () X Y row h.1 hg hr, h.2⟩)
    (fun c pre X Y row h hg hr => by obtain ⟨h1, pre', y, h2, h3, h4, h5⟩ := h; exact ⟨h1, pre', y, h2, h3, h4, fdx_own hB3.hb.size h5 hg hr⟩)
    ⟨hB3, fun y hy => by simp at hy⟩
    (fun x a' X => ∃ Bx, W.heap.size + 1 + 1 + 1 + 1 + 1 < Bx ∧ Box X Bx 50 #[.int .i64 x.val.1, .int .i64 x.val.2] ∧ a' = { tmps := #[.slice A n cap, .string s, .int .i64 r, .int .i64 q, .bool false, .pointer (some ⟨W.heap.size, 0, none⟩), .pointer (some ⟨W.heap.size + 1, 0, none⟩), undef, undef, undef,
      .pointer (some ⟨W.heap.size + 1 + 1, 0, none⟩), .pointer (some ⟨W.heap.size + 1 + 1 + 1, 0, none⟩), .pointer (some ⟨W.heap.size + 1 + 1 + 1 + 1, 0, none⟩), .pointer (some ⟨W.heap.size + 1 + 1 + 1 + 1 + 1, 0, none⟩), .pointer (some ⟨Bx, 0, none⟩), .int .i64 r, .int .i64 q, .agg #[.int .i64 r, .int .i64 q], .slice A n cap, .agg #[.int .i64 r, .int .i64 q],
      .slice (some ⟨W.heap.size + 1 + 1 + 1 + 1 + 1 + 1, 0, none⟩) 1 1, .bool true, .bool false, .bool false, .string s, .bool false, .bool false, .bool false, .string s, .int .i64 s.size, .bool false, .bool false, .slice A n cap, .agg #[.int .i64 r, .int .i64 q], .bool false,
      .func (.func 34) #[] #[.pointer (some ⟨w1.heap.size + 1 + 1, 0, none⟩), .pointer (some ⟨w1.heap.size + 1, 0, none⟩), .pointer (some ⟨w1.heap.size, 0, none⟩)], .agg #[.int .i64 x.val.1, .int .i64 x.val.2], undef, undef, undef, undef, undef, undef, undef, undef, undef, undef, undef, undef, undef, undef, undef], defers := [] })
    (fun x a' _ X Y row hs hg hr => by obtain ⟨Bx, h1, h2, h3⟩ := hs; exact ⟨Bx, h1, (grownBy_keeps_cells hg (fun r e => (hr r e).2) h2 rfl).trans h2, h3⟩)
    ?assign ?body ?done ?stop
  case assign =>
    rintro l pre ⟨⟨a, b⟩, hab⟩ X K ⟨h1, h2⟩ hK
    gi_wp2
    exact hK _ _ ((KeepsOthers.alloc _ _).from _) (KeptC.of_below h1.hb.size (below_alloc _ _)) ⟨h1.below (below_alloc _ _), h2⟩ ⟨X.heap.size, h1.lt, Box.new _ _ _, rfl⟩
  case body =>
    rintro l pre ⟨⟨a, b⟩, hab⟩ a' X hl ⟨rr, hrr⟩ ⟨h1, h2⟩ ⟨Bx, hBx, bX, rfl⟩ hlt
    dsimp only at bX ⊢
    obtain ⟨⟨u1, u2⟩, u3, u4⟩ := inP_iff.1 hab
    simp only [List.length_map] at u1 u2 u3 u4
    obtain ⟨ka, rfl⟩ : ∃ ka : Nat, a = ka := ⟨a.toNat, by omega⟩
    obtain ⟨kb, rfl⟩ : ∃ kb : Nat, b = kb := ⟨b.toNat, by omega⟩
    obtain ⟨g, o, e, rfl, hg, he, hcell⟩ := lr_at HLR.out hnn ka (by omega)
    obtain ⟨k7, _⟩ := hcell _ h1.hb
    have hle := lenI_at he
    rw [hle] at u4
    obtain ⟨y1, y2, y3, y4⟩ := HOK.out e.1 (List.mem_map.2 ⟨e, List.mem_of_getElem? he, rfl⟩)
    have hce := HF.out.ces e (List.mem_of_getElem? he)
    obtain ⟨eA, ec, hev⟩ := hce.spell
    obtain ⟨m, hm⟩ : ∃ m, e.1.cs.length = m := ⟨_, rfl⟩
    rw [hm] at hev u4
    rw [hev] at k7 hce
    obtain ⟨sA, hsl, hsr⟩ := slice_ce_l hce hm kb (by omega)
    have hcap : m ≤ ec := by
      obtain ⟨A', c', e', hcap, _⟩ := hce
      rw [hm] at e' hcap
      cases e'
      exact hcap
    have hdl : (e.1.cs.drop kb).length = m - kb := by rw [List.length_drop, hm]
    have hsd : standsI (lv.map Prod.fst) s ((ka : Int), (kb : Int)) = standsC s (e.1.cs.drop kb) := by
      show standsP _ s ka kb = _
      rw [standsP_is]
      congr 1
      unfold restP
      rw [List.getElem?_map, he]
      rfl
    have hst := fun (X' : World) (hb : Below W.heap.size W X') => stands_any s (.slice sA (m - kb) (ec - kb)) (e.1.cs.drop kb) X' (hsr.below hb) (fun c hc => ⟨rights_iff.1 (okR_iff.1 y1).1 c (List.drop_subset _ _ hc), y2 c (List.drop_subset _ _ hc)⟩) (fun h => by rw [h] at hdl; simp at hdl; omega) (by omega) h0 (by omega)
    rw [← hsd] at hst
    have HST := hid hst
    obtain ⟨⟨j0, j1⟩, _⟩ := bX.two
    obtain ⟨i0, _⟩ := box_one h1.b0
    obtain ⟨i1, _⟩ := box_one h1.b1
    have hkm : (kb : Int) ≤ m := by omega
    have hkmn : kb ≤ m := by omega
    have hkp : (0 : Int) ≤ kb := by omega
    rw [hnn] at u2
    have H1 := hid h1
    have H2 := hid h2
    have HX := hid bX
    clear hsd hst hdl hsr hle y1 y2 y3 y4 hce hev hm he hcell h1 h2 bX u4
    cases hv : standsI (lv.map Prod.fst) s ((ka : Int), (kb : Int))
    · rw [hv] at HST
      have HV := hid hv
      clear hv
      gi_wp2
      have hS0 : Below X.heap.size X _ := below_drew X 1
      refine wpIn_region_S (fun _ w' => Below X.heap.size X w') (by kernel_rfl) (by kernel_rfl) (by rintro ⟨_, _, h⟩; exact h) ?_
      refine takeC (i := 0) (v := ?v0m1) 37 rfl rfl (by kernel_rfl) (by kernel_rfl) (by kernel_rfl) (by kernel_rfl) (fun _ _ _ h => h) (Or.inl ⟨by rfl, fun w' hw' => ?hy0m1⟩) hS0 ?rest0m1
      case hy0m1 => have a1 := (hw'.cell (p := ⟨W.heap.size + 1, 0, none⟩) H1.out.b1.lt).trans i1; go_simp; try with_reducible rfl
      try simp only [Act.put, List.setIfInBounds_toArray, List.set_cons_zero, List.set_cons_succ]
      refine takeC (i := 1) (v := ?v1m1) 38 rfl rfl (by kernel_rfl) (by kernel_rfl) (by kernel_rfl) (by kernel_rfl) (fun _ _ _ h => h) (Or.inl ⟨by rfl, fun w' hw' => ?hy1m1⟩) hS0 ?rest1m1
      case hy1m1 => have a0 := (hw'.cell (p := ⟨W.heap.size, 0, none⟩) H1.out.b0.lt).trans i0; go_simp; try with_reducible rfl
      try simp only [Act.put, List.setIfInBounds_toArray, List.set_cons_zero, List.set_cons_succ]
      refine takeC (i := 2) (v := ?v2m1) 39 rfl rfl (by kernel_rfl) (by kernel_rfl) (by kernel_rfl) (by kernel_rfl) (fun _ _ _ h => h) (Or.inl ⟨by rfl, fun w' hw' => ?hy2m1⟩) hS0 ?rest2m1
      case hy2m1 => go_simp; try with_reducible rfl
      try simp only [Act.put, List.setIfInBounds_toArray, List.set_cons_zero, List.set_cons_succ]
      refine takeC (i := 3) (v := ?v3m1) 40 rfl rfl (by kernel_rfl) (by kernel_rfl) (by kernel_rfl) (by kernel_rfl) (fun _ _ _ h => h) (Or.inl ⟨by rfl, fun w' hw' => ?hy3m1⟩) hS0 ?rest3m1
      case hy3m1 => have a2 := (hw'.cell (p := ⟨Bx, 0, none⟩) HX.out.lt).trans j0; go_simp; try with_reducible rfl
      try simp only [Act.put, List.setIfInBounds_toArray, List.set_cons_zero, List.set_cons_succ]
      refine takeC (i := 4) (v := ?v4m1) 41 rfl rfl (by kernel_rfl) (by kernel_rfl) (by kernel_rfl) (by kernel_rfl) (fun _ _ _ h => h) (Or.inl ⟨by rfl, fun w' hw' => ?hy4m1⟩) hS0 ?rest4m1
      case hy4m1 => go_simp; try with_reducible rfl
      try simp only [Act.put, List.setIfInBounds_toArray, List.set_cons_zero, List.set_cons_succ]
      refine takeC (i := 5) (v := ?v5m1) 42 rfl rfl (by kernel_rfl) (by kernel_rfl) (by kernel_rfl) (by kernel_rfl) (fun _ _ _ h => h) (Or.inl ⟨by rfl, fun w' hw' => ?hy5m1⟩) hS0 ?rest5m1
      case hy5m1 => go_simp; try with_reducible rfl
      try simp only [Act.put, List.setIfInBounds_toArray, List.set_cons_zero, List.set_cons_succ]
      refine takeC (i := 6) (v := ?v6m1) 43 rfl rfl (by kernel_rfl) (by kernel_rfl) (by kernel_rfl) (by kernel_rfl) (fun _ _ _ h => h) (Or.inl ⟨by rfl, fun w' hw' => ?hy6m1⟩) hS0 ?rest6m1
      case hy6m1 => have a4 := (hw'.cell (p := ⟨g, o + ka * 2, none⟩) (Nat.lt_of_lt_of_le hg H1.out.hb.size)).trans k7; go_simp; try with_reducible rfl
      try simp only [Act.put, List.setIfInBounds_toArray, List.set_cons_zero, List.set_cons_succ]
      refine takeC (i := 7) (v := ?v7m1) 44 rfl rfl (by kernel_rfl) (by kernel_rfl) (by kernel_rfl) (by kernel_rfl) (fun _ _ _ h => h) (Or.inl ⟨by rfl, fun w' hw' => ?hy7m1⟩) hS0 ?rest7m1
      case hy7m1 => go_simp; try with_reducible rfl
      try simp only [Act.put, List.setIfInBounds_toArray, List.set_cons_zero, List.set_cons_succ]
      refine takeC (i := 8) (v := ?v8m1) 45 rfl rfl (by kernel_rfl) (by kernel_rfl) (by kernel_rfl) (by kernel_rfl) (fun _ _ _ h => h) (Or.inl ⟨by rfl, fun w' hw' => ?hy8m1⟩) hS0 ?rest8m1
      case hy8m1 => have a3 := (hw'.cell (p := ⟨Bx, 1, none⟩) HX.out.lt).trans j1; go_simp; try with_reducible rfl
      try simp only [Act.put, List.setIfInBounds_toArray, List.set_cons_zero, List.set_cons_succ]
      refine takeC (i := 9) (v := ?v9m1) 46 rfl rfl (by kernel_rfl) (by kernel_rfl) (by kernel_rfl) (by kernel_rfl) (fun _ _ _ h => h) (Or.inl ⟨by rfl, fun w' hw' => ?hy9m1⟩) hS0 ?rest9m1
      case hy9m1 => go_simp; try with_reducible rfl
      try simp only [Act.put, List.setIfInBounds_toArray, List.set_cons_zero, List.set_cons_succ]
      refine oneS (k := 10) (by kernel_rfl) rfl (by rfl) (fun K hK => ?_)
      go_simp
      go_at_call 21
      refine (HST.out _ (H1.out.hb.trans (hS0.mono H1.out.hb.size))).mono ?_
      rintro e w9 ⟨rfl, hb⟩
      dsimp only
      have hS1 := hS0.trans (hb.mono hS0.size)
      refine hK _ _ hS1 ?_
      clear hK K
      try simp only [Act.put, List.setIfInBounds_toArray, List.set_cons_zero, List.set_cons_succ]
      clear hS0 hb
      have hS0 := hS1
      clear hS1
      refine doneS (by kernel_rfl) ?_ _
      gi_wp2
      exact ⟨(below_others hS0).from _, KeptC.of_below H1.out.hb.size hS0, H1.out.below hS0, fun y hy => by rcases List.mem_append.1 hy with h | h; exact H2.out y h; rw [List.mem_singleton.1 h]; exact HV.out⟩
    · rw [hv] at HST
      have HV := hid hv
      clear hv
      gi_wp2
      have hS0 : Below X.heap.size X _ := below_drew X 1
      refine wpIn_region_S (fun _ w' => Below X.heap.size X w') (by kernel_rfl) (by kernel_rfl) (by rintro ⟨_, _, h⟩; exact h) ?_
      refine takeC (i := 0) (v := ?v0m2) 37 rfl rfl (by kernel_rfl) (by kernel_rfl) (by kernel_rfl) (by kernel_rfl) (fun _ _ _ h => h) (Or.inl ⟨by rfl, fun w' hw' => ?hy0m2⟩) hS0 ?rest0m2
      case hy0m2 => have a1 := (hw'.cell (p := ⟨W.heap.size + 1, 0, none⟩) H1.out.b1.lt).trans i1; go_simp; try with_reducible rfl
      try simp only [Act.put, List.setIfInBounds_toArray, List.set_cons_zero, List.set_cons_succ]
      refine takeC (i := 1) (v := ?v1m2) 38 rfl rfl (by kernel_rfl) (by kernel_rfl) (by kernel_rfl) (by kernel_rfl) (fun _ _ _ h => h) (Or.inl ⟨by rfl, fun w' hw' => ?hy1m2⟩) hS0 ?rest1m2
      case hy1m2 => have a0 := (hw'.cell (p := ⟨W.heap.size, 0, none⟩) H1.out.b0.lt).trans i0; go_simp; try with_reducible rfl
      try simp only [Act.put, List.setIfInBounds_toArray, List.set_cons_zero, List.set_cons_succ]
      refine takeC (i := 2) (v := ?v2m2) 39 rfl rfl (by kernel_rfl) (by kernel_rfl) (by kernel_rfl) (by kernel_rfl) (fun _ _ _ h => h) (Or.inl ⟨by rfl, fun w' hw' => ?hy2m2⟩) hS0 ?rest2m2
      case hy2m2 => go_simp; try with_reducible rfl
      try simp only [Act.put, List.setIfInBounds_toArray, List.set_cons_zero, List.set_cons_succ]
      refine takeC (i := 3) (v := ?v3m2) 40 rfl rfl (by kernel_rfl) (by kernel_rfl) (by kernel_rfl) (by kernel_rfl) (fun _ _ _ h => h) (Or.inl ⟨by rfl, fun w' hw' => ?hy3m2⟩) hS0 ?rest3m2
      case hy3m2 => have a2 := (hw'.cell (p := ⟨Bx, 0, none⟩) HX.out.lt).trans j0; go_simp; try with_reducible rfl
      try simp only [Act.put, List.setIfInBounds_toArray, List.set_cons_zero, List.set_cons_succ]
      refine takeC (i := 4) (v := ?v4m2) 41 rfl rfl (by kernel_rfl) (by kernel_rfl) (by kernel_rfl) (by kernel_rfl) (fun _ _ _ h => h) (Or.inl ⟨by rfl, fun w' hw' => ?hy4m2⟩) hS0 ?rest4m2
      case hy4m2 => go_simp; try with_reducible rfl
      try simp only [Act.put, List.setIfInBounds_toArray, List.set_cons_zero, List.set_cons_succ]
      refine takeC (i := 5) (v := ?v5m2) 42 rfl rfl (by kernel_rfl) (by kernel_rfl) (by kernel_rfl) (by kernel_rfl) (fun _ _ _ h => h) (Or.inl ⟨by rfl, fun w' hw' => ?hy5m2⟩) hS0 ?rest5m2
      case hy5m2 => go_simp; try with_reducible rfl
      try simp only [Act.put, List.setIfInBounds_toArray, List.set_cons_zero, List.set_cons_succ]
      refine takeC (i := 6) (v := ?v6m2) 43 rfl rfl (by kernel_rfl) (by kernel_rfl) (by kernel_rfl) (by kernel_rfl) (fun _ _ _ h => h) (Or.inl ⟨by rfl, fun w' hw' => ?hy6m2⟩) hS0 ?rest6m2
      case hy6m2 => have a4 := (hw'.cell (p := ⟨g, o + ka * 2, none⟩) (Nat.lt_of_lt_of_le hg H1.out.hb.size)).trans k7; go_simp; try with_reducible rfl
      try simp only [Act.put, List.setIfInBounds_toArray, List.set_cons_zero, List.set_cons_succ]
      refine takeC (i := 7) (v := ?v7m2) 44 rfl rfl (by kernel_rfl) (by kernel_rfl) (by kernel_rfl) (by kernel_rfl) (fun _ _ _ h => h) (Or.inl ⟨by rfl, fun w' hw' => ?hy7m2⟩) hS0 ?rest7m2
      case hy7m2 => go_simp; try with_reducible rfl
      try simp only [Act.put, List.setIfInBounds_toArray, List.set_cons_zero, List.set_cons_succ]
      refine takeC (i := 8) (v := ?v8m2) 45 rfl rfl (by kernel_rfl) (by kernel_rfl) (by kernel_rfl) (by kernel_rfl) (fun _ _ _ h => h) (Or.inl ⟨by rfl, fun w' hw' => ?hy8m2⟩) hS0 ?rest8m2
      case hy8m2 => have a3 := (hw'.cell (p := ⟨Bx, 1, none⟩) HX.out.lt).trans j1; go_simp; try with_reducible rfl
      try simp only [Act.put, List.setIfInBounds_toArray, List.set_cons_zero, List.set_cons_succ]
      refine takeC (i := 9) (v := ?v9m2) 46 rfl rfl (by kernel_rfl) (by kernel_rfl) (by kernel_rfl) (by kernel_rfl) (fun _ _ _ h => h) (Or.inl ⟨by rfl, fun w' hw' => ?hy9m2⟩) hS0 ?rest9m2
      case hy9m2 => go_simp; try with_reducible rfl
      try simp only [Act.put, List.setIfInBounds_toArray, List.set_cons_zero, List.set_cons_succ]
      refine oneS (k := 10) (by kernel_rfl) rfl (by rfl) (fun K hK => ?_)
      go_simp
      go_at_call 21
      refine (HST.out _ (H1.out.hb.trans (hS0.mono H1.out.hb.size))).mono ?_
      rintro e w9 ⟨rfl, hb⟩
      dsimp only
      have hS1 := hS0.trans (hb.mono hS0.size)
      refine hK _ _ hS1 ?_
      clear hK K
      try simp only [Act.put, List.setIfInBounds_toArray, List.set_cons_zero, List.set_cons_succ]
      clear hS0 hb
      have hS0 := hS1
      clear hS1
      refine doneS (by kernel_rfl) ?_ _
      have hF5 := H1.out.below hS0
      obtain ⟨k2, f2⟩ := box_one hF5.b2
      obtain ⟨k3, f3⟩ := box_one hF5.b3
      obtain ⟨k4, f4⟩ := box_one hF5.b4
      have hX5 := HX.out.below hS0 HX.out.lt
      have HK5 := hid (below_others hS0)
      have HF5 := hid hF5
      clear hS0 i0 i1 j0 j1 k7 hF5 HX H1
      gi_wp2
      have hS0 : Box _ Bx 50 #[.int .i64 (ka : Int), .int .i64 (kb : Int)] := hX5.drew
      refine wpIn_region_S (fun _ w' => Box w' Bx 50 #[.int .i64 (ka : Int), .int .i64 (kb : Int)]) (by kernel_rfl) (by kernel_rfl) (by rintro ⟨_, _, h⟩; exact h) ?_
      refine takeC (i := 0) (v := ?v0m5) 48 rfl rfl (by kernel_rfl) (by kernel_rfl) (by kernel_rfl) (by kernel_rfl) (fun _ _ _ h => h) (Or.inl ⟨by rfl, fun w' hw' => ?hy0m5⟩) hS0 ?rest0m5
      case hy0m5 => go_simp; try with_reducible rfl
      try simp only [Act.put, List.setIfInBounds_toArray, List.set_cons_zero, List.set_cons_succ]
      refine takeC (i := 1) (v := ?v1m5) 49 rfl rfl (by kernel_rfl) (by kernel_rfl) (by kernel_rfl) (by kernel_rfl) (fun _ _ _ h => h) (Or.inl ⟨by rfl, fun w' hw' => ?hy1m5⟩) hS0 ?rest1m5
      case hy1m5 => have a0 := hw'.two.1.1; go_simp; try with_reducible rfl
      try simp only [Act.put, List.setIfInBounds_toArray, List.set_cons_zero, List.set_cons_succ]
      refine takeC (i := 2) (v := ?v2m5) 50 rfl rfl (by kernel_rfl) (by kernel_rfl) (by kernel_rfl) (by kernel_rfl) (fun _ _ _ h => h) (Or.inl ⟨by rfl, fun w' hw' => ?hy2m5⟩) hS0 ?rest2m5
      case hy2m5 => go_simp; try with_reducible rfl
      try simp only [Act.put, List.setIfInBounds_toArray, List.set_cons_zero, List.set_cons_succ]
      refine takeC (i := 3) (v := ?v3m5) 51 rfl rfl (by kernel_rfl) (by kernel_rfl) (by kernel_rfl) (by kernel_rfl) (fun _ _ _ h => h) (Or.inl ⟨by rfl, fun w' hw' => ?hy3m5⟩) hS0 ?rest3m5
      case hy3m5 => have a1 := hw'.two.1.2; go_simp; try with_reducible rfl
      try simp only [Act.put, List.setIfInBounds_toArray, List.set_cons_zero, List.set_cons_succ]
      refine oneS (k := 4) (by kernel_rfl) rfl (by rfl) (fun K hK => ?_)
      go_simp
      have hS1 := hS0.other (b' := W.heap.size + 1 + 1) (i := 0) (by omega) (.int .i64 (ka : Int))
      refine hK _ _ hS1 ?_
      clear hK K
      try simp only [Act.put, List.setIfInBounds_toArray, List.set_cons_zero, List.set_cons_succ]
      clear hS0
      have hS0 := hS1
      clear hS1
      refine oneS (k := 5) (by kernel_rfl) rfl (by rfl) (fun K hK => ?_)
      go_simp
      have hS1 := hS0.other (b' := W.heap.size + 1 + 1 + 1) (i := 0) (by omega) (.int .i64 (kb : Int))
      refine hK _ _ hS1 ?_
      clear hK K
      try simp only [Act.put, List.setIfInBounds_toArray, List.set_cons_zero, List.set_cons_succ]
      clear hS0
      have hS0 := hS1
      clear hS1
      refine oneS (k := 6) (by kernel_rfl) rfl (by rfl) (fun K hK => ?_)
      go_simp
      have hS1 := hS0.other (b' := W.heap.size + 1 + 1 + 1 + 1) (i := 0) (by omega) (.int .i64 0)
      refine hK _ _ hS1 ?_
      clear hK K
      try simp only [Act.put, List.setIfInBounds_toArray, List.set_cons_zero, List.set_cons_succ]
      clear hS0
      have hS0 := hS1
      clear hS1
      refine doneS (by kernel_rfl) ?_ _
      gi_wp2
      exact ⟨(HK5.out.trans ((((KeepsOthers.setCell _ _ _).trans (KeepsOthers.setCell _ _ _)).trans (KeepsOthers.setCell _ _ _)).trans (below_others (below_drew _ 1)))).from _, rfl, pre, _, rfl, H2.out, HV.out, (HF5.out.resX (ka : Int) (kb : Int)).drew⟩
  case done =>
    rintro D ys X hD hys ⟨h1, h2⟩ hK
    have HN := hid (found_none hys h2 HFI.out)
    obtain ⟨k2, f2⟩ := box_one h1.b2
    obtain ⟨k3, f3⟩ := box_one h1.b3
    obtain ⟨k4, f4⟩ := box_one h1.b4
    have hZ := h1.resN 0 0 5
    have HZ := hid hZ
    have hDl : W.heap.size + 1 + 1 + 1 + 1 + 1 < D := by omega
    have H1 := hid h1
    have HK := hid hK
    clear h1 h2 hys hZ hK HFI
    gi_wp2
    have hK5 : (((X.setCell ⟨W.heap.size + 1 + 1, 0, none⟩ (.int .i64 0)).setCell ⟨W.heap.size + 1 + 1 + 1, 0, none⟩ (.int .i64 0)).setCell ⟨W.heap.size + 1 + 1 + 1 + 1, 0, none⟩ (.int .i64 5)).heap[D]? = some (.deferred (some [])) := set_dfr (show D ≠ W.heap.size + 1 + 1 + 1 + 1 by omega) (.int .i64 5) (set_dfr (show D ≠ W.heap.size + 1 + 1 + 1 by omega) (.int .i64 0) (set_dfr (show D ≠ W.heap.size + 1 + 1 by omega) (.int .i64 0) HK.out))
    have hkp := KeptC.putObj (B := W.heap.size) (w := w2) hB3.hb.size _ D _ (.deferred none) hD hK5 rfl rfl
    obtain ⟨⟨z2, z3, z4⟩, hb9⟩ := HZ.out
    have z2 := hkp.cell z2
    have z3 := hkp.cell z3
    have z4 := hkp.cell z4
    refine ⟨by simp, .inl ⟨_, _, rfl, run_takeDeferred hK5, ?_⟩⟩
    exact ⟨.tuple #[.int .i64 0, .int .i64 0, .int .i64 5], by simp [results, Tryd.f7, go_sem, z2, z3, z4], fd_none HXX.out HN.out (hb9.trans hkp.1)⟩
  case stop =>
    rintro D c pre X hD hpre ⟨rfl, pre', y, rfl, h3, h4, h5⟩ hK
    have HN := hid (found_some hpre h3 h4 HFI.out)
    have hkp := KeptC.putObj (B := W.heap.size) (w := w2) hB3.hb.size _ D _ (.deferred none) hD hK rfl rfl
    have z2 := hkp.cell h5.c2
    have z3 := hkp.cell h5.c3
    have z4 := hkp.cell h5.c4
    have HB := hid (h5.hb.trans hkp.1)
    have HK := hid hK
    clear hpre h3 h4 hK HFI hkp h5
    gi_wp2
    refine ⟨by simp, .inl ⟨_, _, rfl, run_takeDeferred HK.out, ?_⟩⟩
    exact ⟨.tuple #[.int .i64 y.val.1, .int .i64 y.val.2, .int .i64 0], by simp [results, Tryd.f7, go_sem, z2, z3, z4], fd_some HXX.out HN.out HB.out⟩
set_option maxRecDepth 100000 in
set_option maxHeartbeats 8000000 in
theorem find_prev (v : Value) (lv : List (Ln × Value)) (s : ByteArray) (p0 : Nat × Nat) (W : World) (hf : Fl W v lv) (hT : Tab W) (hW : TabW W)
    (hk : keptB lv = true) (hi : p0 ∈ placesP (lv.map Prod.fst)) (h0 : 0 < s.size) (h64 : s.size ≤ 64) (x : Int × Int × Int) (hx : x = (match foundL (lv.map Prod.fst) s p0 true with | some p => ((p.1 : Int), (p.2 : Int), 0) | none => (0, 0, 5))) :
    Calls Tryd.prog 7 #[v, .string s, .int .i64 p0.1, .int .i64 p0.2, .bool true] W (FdPost W x) := by
  have HXX := hid hx
  clear hx
  have hok := kept_ok hf.sm hk
  have hin := inP_nat.2 hi
  have hwk := walk_prev (ls := lv.map Prod.fst) (fun l hl => (hok l hl).2.2.1) _ p0 rfl hi
  have hfi := walk_find (lv.map Prod.fst) s p0 true
  obtain ⟨L, hL⟩ : ∃ L, L = walkL (lv.map Prod.fst) true p0 := ⟨_, rfl⟩
  have hwk' : WalkP (lv.map Prod.fst) (prevP (lv.map Prod.fst)) (prevP (lv.map Prod.fst) (toI p0)) L := by rw [hL]; exact hwk
  rw [← hL] at hfi
  have HFI := hid hfi
  clear hwk hL hfi
  obtain ⟨A, cap, rfl⟩ := hf.lr.spell
  obtain ⟨n, hnn⟩ : ∃ n, lv.length = n := ⟨_, rfl⟩
  obtain ⟨r, hr⟩ : ∃ r : Int, (p0.1 : Int) = r := ⟨_, rfl⟩
  obtain ⟨q, hq⟩ : ∃ q : Int, (p0.2 : Int) = q := ⟨_, rfl⟩
  have hti : toI p0 = (r, q) := by unfold toI; rw [hr, hq]
  rw [hti] at hin hwk'
  have hM := fun (W' : World) (hb : Below W.heap.size W W') (g c : Nat) (hg : g < W'.heap.size) hp => fmay_any _ lv [(r, q)] g c W' (hf.below hb) (hT.below hb) (hW.below hb) (by simp) hg hp
  rw [hnn] at hM ⊢
  rw [hr, hq]
  have hone : (keptB lv && [(r, q)].all (inP (lv.map Prod.fst))) = true := by rw [hk]; simp [hin]
  have hl1 : [(r, q)].length = 1 := rfl
  rw [hone, hl1] at hM
  have HM := hid hM
  have hlr := hf.lr
  rw [hnn] at hlr
  have HLR := hid hlr
  have HF := hid hf
  have HOK := hid hok
  clear hlr
  clear hM hone hf hT hW hok
  have hB0 := FdB.new W (.slice A n cap) s r q
  have hbp := Box.new ((((((W.alloc (.cells #[.slice A n cap] 22)).alloc (.cells #[.string s] 9)).alloc (.cells #[.int .i64 0] 3)).alloc (.cells #[.int .i64 0] 3)).alloc (.cells #[.int .i64 0] 24)).alloc (.cells #[.int .i64 r, .int .i64 q] 50)) 50 #[.int .i64 r, .int .i64 q]
  simp only [World.size_alloc] at hbp
  have hB1 := hB0.below (below_alloc _ (.cells #[.int .i64 r, .int .i64 q] 50))
  have H := HM.out _ hB1.hb (W.heap.size + 1 + 1 + 1 + 1 + 1 + 1) 1 hbp.lt (fun j p hp => by
    match j, hp with
    | 0, hp => cases hp; exact ⟨hbp.cell 0, hbp.cell 1⟩
    | j + 1, hp => simp at hp)
  have HB1 := hid hB1
  have HH := hid H
  have hne := empty_no (show ¬ s.size = 0 by omega)
  have h64i : ¬ (64 : Int) < s.size := by omega
  have h64j : (s.size : Int) ≤ 64 := by omega
  have h64b : decide ((64 : Int) < s.size) = false := decide_eq_false h64i
  have HT := hid (⟨hr, hq⟩ : (p0.1 : Int) = r ∧ (p0.2 : Int) = q)
  clear hB0 hB1 hbp H HM hr hq hti
  refine (callsIn_wide (n := 3)).1 (callsIn_of_wp_marks Tryd.func7 rfl trivial ?_ rfl)
  simp only [Tryd.ntmps7, List.size_toArray, List.length_cons, List.length_nil, Nat.reduceAdd, Nat.reduceSub, Array.replicate_succ, Array.replicate_zero, List.push_toArray, List.append_toArray, List.nil_append, List.cons_append]
  gi_upto_region 4 with ((try refine ⟨trivial, ?_⟩); gi_at_call 19; refine (callsIn_wide.2 HH.out).mono ?_; rintro e w1 ⟨rfl, hb⟩; have hB2 := HB1.out.below hb; obtain ⟨k1, _⟩ := box_one hB2.b1)
  have HP := hid (places_any (.slice A n cap) A n cap rfl r q true w1)
  obtain ⟨k0, _⟩ := box_one hB2.b0
  obtain ⟨⟨k5, k6⟩, _⟩ := hB2.b5.two
  gi_wp2_with ((try refine ⟨trivial, ?_⟩); gi_at_call 20; refine (callsIn_wide.2 HP.out).mono ?_; rintro e w2 ⟨rfl, hb2, c1, c20, c21, c3⟩)
  simp only [if_true] at c1
  have hB3 := hB2.below hb2
  have hw2 := hb2.size
  have hw1 := hB2.hb.size
  have hlt3 := hB3.lt
  clear k0 k1 k5 k6 hb hB2 HP HH HB1
  refine wpIn_rangeFunc_ownH (by rfl) (by omega) (gf := 34) (lb := #[.pointer (some ⟨w1.heap.size + 1 + 1, 0, none⟩), .pointer (some ⟨w1.heap.size + 1, 0, none⟩), .pointer (some ⟨w1.heap.size, 0, none⟩)]) rfl trivial (enters_of Tryd.func34 (by kernel_rfl) rfl)
    (prev_stops 2 (by omega) (w1.heap.size + 1 + 1) (w1.heap.size + 1) w1.heap.size (r, q) (.slice A n cap) lv L W w2 HLR.out HF.out.ces HF.out.sm hin hwk' hB3.hb c1 c20 c21 c3) (fun h k => h.trans k) (fun X l o o' hl h hc hw => KeptC.putObj (w := w2) hB3.hb.size X l o o' hl h hc hw) (Below.refl _ _) (fun _ => rfl)
    (fun pre X => FdB W X (.slice A n cap) s r q ∧ ∀ y ∈ pre, standsI (lv.map Prod.fst) s y.val = false)
    (fun c pre X => c = .ret ∧ ∃ pre' y, pre = pre' ++ [y] ∧ (∀ z ∈ pre', standsI (lv.map Prod.fst) s z.val = false) ∧ standsI (lv.map Prod.fst) s y.val = true ∧ FdX W X y.val.1 y.val.2)
    (fun pre X Y row h hg hr => ⟨fdb_own (β := Unit) hB3.hb.size () X Y row h.1 hg hr, h.2⟩)
    (fun c pre X Y row h hg hr => by obtain ⟨h1, pre', y, h2, h3, h4, h5⟩ := h; exact ⟨h1, pre', y, h2, h3, h4, fdx_own hB3.hb.size h5 hg hr⟩)
    ⟨hB3, fun y hy => by simp at hy⟩
    (fun x a' X => ∃ Bx, W.heap.size + 1 + 1 + 1 + 1 + 1 < Bx ∧ Box X Bx 50 #[.int .i64 x.val.1, .int .i64 x.val.2] ∧ a' = { tmps := #[.slice A n cap, .string s, .int .i64 r, .int .i64 q, .bool true, .pointer (some ⟨W.heap.size, 0, none⟩), .pointer (some ⟨W.heap.size + 1, 0, none⟩), undef, undef, undef,
      .pointer (some ⟨W.heap.size + 1 + 1, 0, none⟩), .pointer (some ⟨W.heap.size + 1 + 1 + 1, 0, none⟩), .pointer (some ⟨W.heap.size + 1 + 1 + 1 + 1, 0, none⟩), .pointer (some ⟨W.heap.size + 1 + 1 + 1 + 1 + 1, 0, none⟩), .pointer (some ⟨Bx, 0, none⟩), .int .i64 r, .int .i64 q, .agg #[.int .i64 r, .int .i64 q], .slice A n cap, .agg #[.int .i64 r, .int .i64 q],
      .slice (some ⟨W.heap.size + 1 + 1 + 1 + 1 + 1 + 1, 0, none⟩) 1 1, .bool true, .bool false, .bool false, .string s, .bool false, .bool false, .bool false, .string s, .int .i64 s.size, .bool false, .bool false, .slice A n cap, .agg #[.int .i64 r, .int .i64 q], .bool true,
      .func (.func 34) #[] #[.pointer (some ⟨w1.heap.size + 1 + 1, 0, none⟩), .pointer (some ⟨w1.heap.size + 1, 0, none⟩), .pointer (some ⟨w1.heap.size, 0, none⟩)], .agg #[.int .i64 x.val.1, .int .i64 x.val.2], undef, undef, undef, undef, undef, undef, undef, undef, undef, undef, undef, undef, undef, undef, undef], defers := [] })
    (fun x a' _ X Y row hs hg hr => by obtain ⟨Bx, h1, h2, h3⟩ := hs; exact ⟨Bx, h1, (grownBy_keeps_cells hg (fun r e => (hr r e).2) h2 rfl).trans h2, h3⟩)
    ?assign ?body ?done ?stop
  case assign =>
    rintro l pre ⟨⟨a, b⟩, hab⟩ X K ⟨h1, h2⟩ hK
    gi_wp2
    exact hK _ _ ((KeepsOthers.alloc _ _).from _) (KeptC.of_below h1.hb.size (below_alloc _ _)) ⟨h1.below (below_alloc _ _), h2⟩ ⟨X.heap.size, h1.lt, Box.new _ _ _, rfl⟩
  case body =>
    rintro l pre ⟨⟨a, b⟩, hab⟩ a' X hl ⟨rr, hrr⟩ ⟨h1, h2⟩ ⟨Bx, hBx, bX, rfl⟩ hlt
    dsimp only at bX ⊢
    obtain ⟨⟨u1, u2⟩, u3, u4⟩ := inP_iff.1 hab
    simp only [List.length_map] at u1 u2 u3 u4
    obtain ⟨ka, rfl⟩ : ∃ ka : Nat, a = ka := ⟨a.toNat, by omega⟩
    obtain ⟨kb, rfl⟩ : ∃ kb : Nat, b = kb := ⟨b.toNat, by omega⟩
    obtain ⟨g, o, e, rfl, hg, he, hcell⟩ := lr_at HLR.out hnn ka (by omega)
    obtain ⟨k7, _⟩ := hcell _ h1.hb
    have hle := lenI_at he
    rw [hle] at u4
    obtain ⟨y1, y2, y3, y4⟩ := HOK.out e.1 (List.mem_map.2 ⟨e, List.mem_of_getElem? he, rfl⟩)
    have hce := HF.out.ces e (List.mem_of_getElem? he)
    obtain ⟨eA, ec, hev⟩ := hce.spell
    obtain ⟨m, hm⟩ : ∃ m, e.1.cs.length = m := ⟨_, rfl⟩
    rw [hm] at hev u4
    rw [hev] at k7 hce
    obtain ⟨sA, hsl, hsr⟩ := slice_ce_l hce hm kb (by omega)
    have hcap : m ≤ ec := by
      obtain ⟨A', c', e', hcap, _⟩ := hce
      rw [hm] at e' hcap
      cases e'
      exact hcap
    have hdl : (e.1.cs.drop kb).length = m - kb := by rw [List.length_drop, hm]
    have hsd : standsI (lv.map Prod.fst) s ((ka : Int), (kb : Int)) = standsC s (e.1.cs.drop kb) := by
      show standsP _ s ka kb = _
      rw [standsP_is]
      congr 1
      unfold restP
      rw [List.getElem?_map, he]
      rfl
    have hst := fun (X' : World) (hb : Below W.heap.size W X') => stands_any s (.slice sA (m - kb) (ec - kb)) (e.1.cs.drop kb) X' (hsr.below hb) (fun c hc => ⟨rights_iff.1 (okR_iff.1 y1).1 c (List.drop_subset _ _ hc), y2 c (List.drop_subset _ _ hc)⟩) (fun h => by rw [h] at hdl; simp at hdl; omega) (by omega) h0 (by omega)
    rw [← hsd] at hst
    have HST := hid hst
    obtain ⟨⟨j0, j1⟩, _⟩ := bX.two
    obtain ⟨i0, _⟩ := box_one h1.b0
    obtain ⟨i1, _⟩ := box_one h1.b1
    have hkm : (kb : Int) ≤ m := by omega
    have hkmn : kb ≤ m := by omega
    have hkp : (0 : Int) ≤ kb := by omega
    rw [hnn] at u2
    have H1 := hid h1
    have H2 := hid h2
    have HX := hid bX
    clear hsd hst hdl hsr hle y1 y2 y3 y4 hce hev hm he hcell h1 h2 bX u4
    cases hv : standsI (lv.map Prod.fst) s ((ka : Int), (kb : Int))
    · rw [hv] at HST
      have HV := hid hv
      clear hv
      gi_wp2
      have hS0 : Below X.heap.size X _ := below_drew X 1
      refine wpIn_region_S (fun _ w' => Below X.heap.size X w') (by kernel_rfl) (by kernel_rfl) (by rintro ⟨_, _, h⟩; exact h) ?_
      refine takeC (i := 0) (v := ?v0m3) 37 rfl rfl (by kernel_rfl) (by kernel_rfl) (by kernel_rfl) (by kernel_rfl) (fun _ _ _ h => h) (Or.inl ⟨by rfl, fun w' hw' => ?hy0m3⟩) hS0 ?rest0m3
      case hy0m3 => have a1 := (hw'.cell (p := ⟨W.heap.size + 1, 0, none⟩) H1.out.b1.lt).trans i1; go_simp; try with_reducible rfl
      try simp only [Act.put, List.setIfInBounds_toArray, List.set_cons_zero, List.set_cons_succ]
      refine takeC (i := 1) (v := ?v1m3) 38 rfl rfl (by kernel_rfl) (by kernel_rfl) (by kernel_rfl) (by kernel_rfl) (fun _ _ _ h => h) (Or.inl ⟨by rfl, fun w' hw' => ?hy1m3⟩) hS0 ?rest1m3
      case hy1m3 => have a0 := (hw'.cell (p := ⟨W.heap.size, 0, none⟩) H1.out.b0.lt).trans i0; go_simp; try with_reducible rfl
      try simp only [Act.put, List.setIfInBounds_toArray, List.set_cons_zero, List.set_cons_succ]
      refine takeC (i := 2) (v := ?v2m3) 39 rfl rfl (by kernel_rfl) (by kernel_rfl) (by kernel_rfl) (by kernel_rfl) (fun _ _ _ h => h) (Or.inl ⟨by rfl, fun w' hw' => ?hy2m3⟩) hS0 ?rest2m3
      case hy2m3 => go_simp; try with_reducible rfl
      try simp only [Act.put, List.setIfInBounds_toArray, List.set_cons_zero, List.set_cons_succ]
      refine takeC (i := 3) (v := ?v3m3) 40 rfl rfl (by kernel_rfl) (by kernel_rfl) (by kernel_rfl) (by kernel_rfl) (fun _ _ _ h => h) (Or.inl ⟨by rfl, fun w' hw' => ?hy3m3⟩) hS0 ?rest3m3
      case hy3m3 => have a2 := (hw'.cell (p := ⟨Bx, 0, none⟩) HX.out.lt).trans j0; go_simp; try with_reducible rfl
      try simp only [Act.put, List.setIfInBounds_toArray, List.set_cons_zero, List.set_cons_succ]
      refine takeC (i := 4) (v := ?v4m3) 41 rfl rfl (by kernel_rfl) (by kernel_rfl) (by kernel_rfl) (by kernel_rfl) (fun _ _ _ h => h) (Or.inl ⟨by rfl, fun w' hw' => ?hy4m3⟩) hS0 ?rest4m3
      case hy4m3 => go_simp; try with_reducible rfl
      try simp only [Act.put, List.setIfInBounds_toArray, List.set_cons_zero, List.set_cons_succ]
      refine takeC (i := 5) (v := ?v5m3) 42 rfl rfl (by kernel_rfl) (by kernel_rfl) (by kernel_rfl) (by kernel_rfl) (fun _ _ _ h => h) (Or.inl ⟨by rfl, fun w' hw' => ?hy5m3⟩) hS0 ?rest5m3
      case hy5m3 => go_simp; try with_reducible rfl
      try simp only [Act.put, List.setIfInBounds_toArray, List.set_cons_zero, List.set_cons_succ]
      refine takeC (i := 6) (v := ?v6m3) 43 rfl rfl (by kernel_rfl) (by kernel_rfl) (by kernel_rfl) (by kernel_rfl) (fun _ _ _ h => h) (Or.inl ⟨by rfl, fun w' hw' => ?hy6m3⟩) hS0 ?rest6m3
      case hy6m3 => have a4 := (hw'.cell (p := ⟨g, o + ka * 2, none⟩) (Nat.lt_of_lt_of_le hg H1.out.hb.size)).trans k7; go_simp; try with_reducible rfl
      try simp only [Act.put, List.setIfInBounds_toArray, List.set_cons_zero, List.set_cons_succ]
      refine takeC (i := 7) (v := ?v7m3) 44 rfl rfl (by kernel_rfl) (by kernel_rfl) (by kernel_rfl) (by kernel_rfl) (fun _ _ _ h => h) (Or.inl ⟨by rfl, fun w' hw' => ?hy7m3⟩) hS0 ?rest7m3
      case hy7m3 => go_simp; try with_reducible rfl
      try simp only [Act.put, List.setIfInBounds_toArray, List.set_cons_zero, List.set_cons_succ]
      refine takeC (i := 8) (v := ?v8m3) 45 rfl rfl (by kernel_rfl) (by kernel_rfl) (by kernel_rfl) (by kernel_rfl) (fun _ _ _ h => h) (Or.inl ⟨by rfl, fun w' hw' => ?hy8m3⟩) hS0 ?rest8m3
      case hy8m3 => have a3 := (hw'.cell (p := ⟨Bx, 1, none⟩) HX.out.lt).trans j1; go_simp; try with_reducible rfl
      try simp only [Act.put, List.setIfInBounds_toArray, List.set_cons_zero, List.set_cons_succ]
      refine takeC (i := 9) (v := ?v9m3) 46 rfl rfl (by kernel_rfl) (by kernel_rfl) (by kernel_rfl) (by kernel_rfl) (fun _ _ _ h => h) (Or.inl ⟨by rfl, fun w' hw' => ?hy9m3⟩) hS0 ?rest9m3
      case hy9m3 => go_simp; try with_reducible rfl
      try simp only [Act.put, List.setIfInBounds_toArray, List.set_cons_zero, List.set_cons_succ]
      refine oneS (k := 10) (by kernel_rfl) rfl (by rfl) (fun K hK => ?_)
      go_simp
      go_at_call 21
      refine (HST.out _ (H1.out.hb.trans (hS0.mono H1.out.hb.size))).mono ?_
      rintro e w9 ⟨rfl, hb⟩
      dsimp only
      have hS1 := hS0.trans (hb.mono hS0.size)
      refine hK _ _ hS1 ?_
      clear hK K
      try simp only [Act.put, List.setIfInBounds_toArray, List.set_cons_zero, List.set_cons_succ]
      clear hS0 hb
      have hS0 := hS1
      clear hS1
      refine doneS (by kernel_rfl) ?_ _
      gi_wp2
      exact ⟨(below_others hS0).from _, KeptC.of_below H1.out.hb.size hS0, H1.out.below hS0, fun y hy => by rcases List.mem_append.1 hy with h | h; exact H2.out y h; rw [List.mem_singleton.1 h]; exact HV.out⟩
    · rw [hv] at HST
      have HV := hid hv
      clear hv
      gi_wp2
      have hS0 : Below X.heap.size X _ := below_drew X 1
      refine wpIn_region_S (fun _ w' => Below X.heap.size X w') (by kernel_rfl) (by kernel_rfl) (by rintro ⟨_, _, h⟩; exact h) ?_
      refine takeC (i := 0) (v := ?v0m4) 37 rfl rfl (by kernel_rfl) (by kernel_rfl) (by kernel_rfl) (by kernel_rfl) (fun _ _ _ h => h) (Or.inl ⟨by rfl, fun w' hw' => ?hy0m4⟩) hS0 ?rest0m4
      case hy0m4 => have a1 := (hw'.cell (p := ⟨W.heap.size + 1, 0, none⟩) H1.out.b1.lt).trans i1; go_simp; try with_reducible rfl
      try simp only [Act.put, List.setIfInBounds_toArray, List.set_cons_zero, List.set_cons_succ]
      refine takeC (i := 1) (v := ?v1m4) 38 rfl rfl (by kernel_rfl) (by kernel_rfl) (by kernel_rfl) (by kernel_rfl) (fun _ _ _ h => h) (Or.inl ⟨by rfl, fun w' hw' => ?hy1m4⟩) hS0 ?rest1m4
      case hy1m4 => have a0 := (hw'.cell (p := ⟨W.heap.size, 0, none⟩) H1.out.b0.lt).trans i0; go_simp; try with_reducible rfl
      try simp only [Act.put, List.setIfInBounds_toArray, List.set_cons_zero, List.set_cons_succ]
      refine takeC (i := 2) (v := ?v2m4) 39 rfl rfl (by kernel_rfl) (by kernel_rfl) (by kernel_rfl) (by kernel_rfl) (fun _ _ _ h => h) (Or.inl ⟨by rfl, fun w' hw' => ?hy2m4⟩) hS0 ?rest2m4
      case hy2m4 => go_simp; try with_reducible rfl
      try simp only [Act.put, List.setIfInBounds_toArray, List.set_cons_zero, List.set_cons_succ]
      refine takeC (i := 3) (v := ?v3m4) 40 rfl rfl (by kernel_rfl) (by kernel_rfl) (by kernel_rfl) (by kernel_rfl) (fun _ _ _ h => h) (Or.inl ⟨by rfl, fun w' hw' => ?hy3m4⟩) hS0 ?rest3m4
      case hy3m4 => have a2 := (hw'.cell (p := ⟨Bx, 0, none⟩) HX.out.lt).trans j0; go_simp; try with_reducible rfl
      try simp only [Act.put, List.setIfInBounds_toArray, List.set_cons_zero, List.set_cons_succ]
      refine takeC (i := 4) (v := ?v4m4) 41 rfl rfl (by kernel_rfl) (by kernel_rfl) (by kernel_rfl) (by kernel_rfl) (fun _ _ _ h => h) (Or.inl ⟨by rfl, fun w' hw' => ?hy4m4⟩) hS0 ?rest4m4
      case hy4m4 => go_simp; try with_reducible rfl
      try simp only [Act.put, List.setIfInBounds_toArray, List.set_cons_zero, List.set_cons_succ]
      refine takeC (i := 5) (v := ?v5m4) 42 rfl rfl (by kernel_rfl) (by kernel_rfl) (by kernel_rfl) (by kernel_rfl) (fun _ _ _ h => h) (Or.inl ⟨by rfl, fun w' hw' => ?hy5m4⟩) hS0 ?rest5m4
      case hy5m4 => go_simp; try with_reducible rfl
      try simp only [Act.put, List.setIfInBounds_toArray, List.set_cons_zero, List.set_cons_succ]
      refine takeC (i := 6) (v := ?v6m4) 43 rfl rfl (by kernel_rfl) (by kernel_rfl) (by kernel_rfl) (by kernel_rfl) (fun _ _ _ h => h) (Or.inl ⟨by rfl, fun w' hw' => ?hy6m4⟩) hS0 ?rest6m4
      case hy6m4 => have a4 := (hw'.cell (p := ⟨g, o + ka * 2, none⟩) (Nat.lt_of_lt_of_le hg H1.out.hb.size)).trans k7; go_simp; try with_reducible rfl
      try simp only [Act.put, List.setIfInBounds_toArray, List.set_cons_zero, List.set_cons_succ]
      refine takeC (i := 7) (v := ?v7m4) 44 rfl rfl (by kernel_rfl) (by kernel_rfl) (by kernel_rfl) (by kernel_rfl) (fun _ _ _ h => h) (Or.inl ⟨by rfl, fun w' hw' => ?hy7m4⟩) hS0 ?rest7m4
      case hy7m4 => go_simp; try with_reducible rfl
      try simp only [Act.put, List.setIfInBounds_toArray, List.set_cons_zero, List.set_cons_succ]
      refine takeC (i := 8) (v := ?v8m4) 45 rfl rfl (by kernel_rfl) (by kernel_rfl) (by kernel_rfl) (by kernel_rfl) (fun _ _ _ h => h) (Or.inl ⟨by rfl, fun w' hw' => ?hy8m4⟩) hS0 ?rest8m4
      case hy8m4 => have a3 := (hw'.cell (p := ⟨Bx, 1, none⟩) HX.out.lt).trans j1; go_simp; try with_reducible rfl
      try simp only [Act.put, List.setIfInBounds_toArray, List.set_cons_zero, List.set_cons_succ]
      refine takeC (i := 9) (v := ?v9m4) 46 rfl rfl (by kernel_rfl) (by kernel_rfl) (by kernel_rfl) (by kernel_rfl) (fun _ _ _ h => h) (Or.inl ⟨by rfl, fun w' hw' => ?hy9m4⟩) hS0 ?rest9m4
      case hy9m4 => go_simp; try with_reducible rfl
      try simp only [Act.put, List.setIfInBounds_toArray, List.set_cons_zero, List.set_cons_succ]
      refine oneS (k := 10) (by kernel_rfl) rfl (by rfl) (fun K hK => ?_)
      go_simp
      go_at_call 21
      refine (HST.out _ (H1.out.hb.trans (hS0.mono H1.out.hb.size))).mono ?_
      rintro e w9 ⟨rfl, hb⟩
      dsimp only
      have hS1 := hS0.trans (hb.mono hS0.size)
      refine hK _ _ hS1 ?_
      clear hK K
      try simp only [Act.put, List.setIfInBounds_toArray, List.set_cons_zero, List.set_cons_succ]
      clear hS0 hb
      have hS0 := hS1
      clear hS1
      refine doneS (by kernel_rfl) ?_ _
      have hF5 := H1.out.below hS0
      obtain ⟨k2, f2⟩ := box_one hF5.b2
      obtain ⟨k3, f3⟩ := box_one hF5.b3
      obtain ⟨k4, f4⟩ := box_one hF5.b4
      have hX5 := HX.out.below hS0 HX.out.lt
      have HK5 := hid (below_others hS0)
      have HF5 := hid hF5
      clear hS0 i0 i1 j0 j1 k7 hF5 HX H1
      gi_wp2
      have hS0 : Box _ Bx 50 #[.int .i64 (ka : Int), .int .i64 (kb : Int)] := hX5.drew
      refine wpIn_region_S (fun _ w' => Box w' Bx 50 #[.int .i64 (ka : Int), .int .i64 (kb : Int)]) (by kernel_rfl) (by kernel_rfl) (by rintro ⟨_, _, h⟩; exact h) ?_
      refine takeC (i := 0) (v := ?v0m6) 48 rfl rfl (by kernel_rfl) (by kernel_rfl) (by kernel_rfl) (by kernel_rfl) (fun _ _ _ h => h) (Or.inl ⟨by rfl, fun w' hw' => ?hy0m6⟩) hS0 ?rest0m6
      case hy0m6 => go_simp; try with_reducible rfl
      try simp only [Act.put, List.setIfInBounds_toArray, List.set_cons_zero, List.set_cons_succ]
      refine takeC (i := 1) (v := ?v1m6) 49 rfl rfl (by kernel_rfl) (by kernel_rfl) (by kernel_rfl) (by kernel_rfl) (fun _ _ _ h => h) (Or.inl ⟨by rfl, fun w' hw' => ?hy1m6⟩) hS0 ?rest1m6
      case hy1m6 => have a0 := hw'.two.1.1; go_simp; try with_reducible rfl
      try simp only [Act.put, List.setIfInBounds_toArray, List.set_cons_zero, List.set_cons_succ]
      refine takeC (i := 2) (v := ?v2m6) 50 rfl rfl (by kernel_rfl) (by kernel_rfl) (by kernel_rfl) (by kernel_rfl) (fun _ _ _ h => h) (Or.inl ⟨by rfl, fun w' hw' => ?hy2m6⟩) hS0 ?rest2m6
      case hy2m6 => go_simp; try with_reducible rfl
      try simp only [Act.put, List.setIfInBounds_toArray, List.set_cons_zero, List.set_cons_succ]
      refine takeC (i := 3) (v := ?v3m6) 51 rfl rfl (by kernel_rfl) (by kernel_rfl) (by kernel_rfl) (by kernel_rfl) (fun _ _ _ h => h) (Or.inl ⟨by rfl, fun w' hw' => ?hy3m6⟩) hS0 ?rest3m6
      case hy3m6 => have a1 := hw'.two.1.2; go_simp; try with_reducible rfl
      try simp only [Act.put, List.setIfInBounds_toArray, List.set_cons_zero, List.set_cons_succ]
      refine oneS (k := 4) (by kernel_rfl) rfl (by rfl) (fun K hK => ?_)
      go_simp
      have hS1 := hS0.other (b' := W.heap.size + 1 + 1) (i := 0) (by omega) (.int .i64 (ka : Int))
      refine hK _ _ hS1 ?_
      clear hK K
      try simp only [Act.put, List.setIfInBounds_toArray, List.set_cons_zero, List.set_cons_succ]
      clear hS0
      have hS0 := hS1
      clear hS1
      refine oneS (k := 5) (by kernel_rfl) rfl (by rfl) (fun K hK => ?_)
      go_simp
      have hS1 := hS0.other (b' := W.heap.size + 1 + 1 + 1) (i := 0) (by omega) (.int .i64 (kb : Int))
      refine hK _ _ hS1 ?_
      clear hK K
      try simp only [Act.put, List.setIfInBounds_toArray, List.set_cons_zero, List.set_cons_succ]
      clear hS0
      have hS0 := hS1
      clear hS1
      refine oneS (k := 6) (by kernel_rfl) rfl (by rfl) (fun K hK => ?_)
      go_simp
      have hS1 := hS0.other (b' := W.heap.size + 1 + 1 + 1 + 1) (i := 0) (by omega) (.int .i64 0)
      refine hK _ _ hS1 ?_
      clear hK K
      try simp only [Act.put, List.setIfInBounds_toArray, List.set_cons_zero, List.set_cons_succ]
      clear hS0
      have hS0 := hS1
      clear hS1
      refine doneS (by kernel_rfl) ?_ _
      gi_wp2
      exact ⟨(HK5.out.trans ((((KeepsOthers.setCell _ _ _).trans (KeepsOthers.setCell _ _ _)).trans (KeepsOthers.setCell _ _ _)).trans (below_others (below_drew _ 1)))).from _, rfl, pre, _, rfl, H2.out, HV.out, (HF5.out.resX (ka : Int) (kb : Int)).drew⟩
  case done =>
    rintro D ys X hD hys ⟨h1, h2⟩ hK
    have HN := hid (found_none hys h2 HFI.out)
    obtain ⟨k2, f2⟩ := box_one h1.b2
    obtain ⟨k3, f3⟩ := box_one h1.b3
    obtain ⟨k4, f4⟩ := box_one h1.b4
    have hZ := h1.resN 0 0 5
    have HZ := hid hZ
    have hDl : W.heap.size + 1 + 1 + 1 + 1 + 1 < D := by omega
    have H1 := hid h1
    have HK := hid hK
    clear h1 h2 hys hZ hK HFI
    gi_wp2
    have hK5 : (((X.setCell ⟨W.heap.size + 1 + 1, 0, none⟩ (.int .i64 0)).setCell ⟨W.heap.size + 1 + 1 + 1, 0, none⟩ (.int .i64 0)).setCell ⟨W.heap.size + 1 + 1 + 1 + 1, 0, none⟩ (.int .i64 5)).heap[D]? = some (.deferred (some [])) := set_dfr (show D ≠ W.heap.size + 1 + 1 + 1 + 1 by omega) (.int .i64 5) (set_dfr (show D ≠ W.heap.size + 1 + 1 + 1 by omega) (.int .i64 0) (set_dfr (show D ≠ W.heap.size + 1 + 1 by omega) (.int .i64 0) HK.out))
    have hkp := KeptC.putObj (B := W.heap.size) (w := w2) hB3.hb.size _ D _ (.deferred none) hD hK5 rfl rfl
    obtain ⟨⟨z2, z3, z4⟩, hb9⟩ := HZ.out
    have z2 := hkp.cell z2
    have z3 := hkp.cell z3
    have z4 := hkp.cell z4
    refine ⟨by simp, .inl ⟨_, _, rfl, run_takeDeferred hK5, ?_⟩⟩
    exact ⟨.tuple #[.int .i64 0, .int .i64 0, .int .i64 5], by simp [results, Tryd.f7, go_sem, z2, z3, z4], fd_none HXX.out HN.out (hb9.trans hkp.1)⟩
  case stop =>
    rintro D c pre X hD hpre ⟨rfl, pre', y, rfl, h3, h4, h5⟩ hK
    have HN := hid (found_some hpre h3 h4 HFI.out)
    have hkp := KeptC.putObj (B := W.heap.size) (w := w2) hB3.hb.size _ D _ (.deferred none) hD hK rfl rfl
    have z2 := hkp.cell h5.c2
    have z3 := hkp.cell h5.c3
    have z4 := hkp.cell h5.c4
    have HB := hid (h5.hb.trans hkp.1)
    have HK := hid hK
    clear hpre h3 h4 hK HFI hkp h5
    gi_wp2
    refine ⟨by simp, .inl ⟨_, _, rfl, run_takeDeferred HK.out, ?_⟩⟩
    exact ⟨.tuple #[.int .i64 y.val.1, .int .i64 y.val.2, .int .i64 0], by simp [results, Tryd.f7, go_sem, z2, z3, z4], fd_some HXX.out HN.out HB.out⟩
/-- Find, whatever comes. -/
theorem find_any (v : Value) (lv : List (Ln × Value)) (s : ByteArray) (r q : Int) (back : Bool) (W : World) (hf : Fl W v lv) (hT : Tab W) (hW : TabW W) :
    Calls Tryd.prog 7 #[v, .string s, .int .i64 r, .int .i64 q, .bool back] W (FdPost W (findR lv s (r, q) back)) := by
  unfold findR
  by_cases hno : keptB lv = false ∨ inP (lv.map Prod.fst) (r, q) = false ∨ s.size = 0 ∨ 64 < s.size
  · rw [if_pos hno]
    exact find_no v lv s r q back W hf hT hW hno
  · rw [if_neg hno]
    have h1 : keptB lv = true := by cases h : keptB lv with | true => rfl | false => exact absurd (.inl h) hno
    have h2 : inP (lv.map Prod.fst) (r, q) = true := by cases h : inP (lv.map Prod.fst) (r, q) with | true => rfl | false => exact absurd (.inr (.inl h)) hno
    have h3 : 0 < s.size := by rcases Nat.eq_zero_or_pos s.size with h | h; exact absurd (.inr (.inr (.inl h))) hno; exact h
    have h4 : s.size ≤ 64 := by rcases Nat.lt_or_ge 64 s.size with h | h; exact absurd (.inr (.inr (.inr h))) hno; exact h
    obtain ⟨⟨u1, u2⟩, u3, u4⟩ := inP_iff.1 h2
    obtain ⟨ka, rfl⟩ : ∃ ka : Nat, r = ka := ⟨r.toNat, by simp only at u1; omega⟩
    obtain ⟨kb, rfl⟩ : ∃ kb : Nat, q = kb := ⟨q.toNat, by simp only at u3; omega⟩
    have hi : (ka, kb) ∈ placesP (lv.map Prod.fst) := inP_nat.1 h2
    cases back
    · exact find_next v lv s (ka, kb) W hf hT hW h1 hi h3 h4 _ rfl
    · exact find_prev v lv s (ka, kb) W hf hT hW h1 hi h3 h4 _ rfl
end Go.Proofs.YteebbmmgbjpihaaDoor
