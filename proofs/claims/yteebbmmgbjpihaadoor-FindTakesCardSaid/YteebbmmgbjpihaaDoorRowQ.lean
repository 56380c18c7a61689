/- A row of the call's own cells, told by its cells, whoever laid it; what an append makes of it. -/
import Derived.Test.YteebbmmgbjpihaaDoorBytesQ
import Derived.ArgAppend
import Derived.Laws.IdiomCopy
import Derived.Lib.ConvBytes
namespace Go.Proofs.YteebbmmgbjpihaaDoor
open Go.RowKit

structure CRow (w : World) (base size g n cap : Nat) (xs : List Value) : Prop where
  lo : base ≤ g
  lt : g < w.heap.size
  len : xs.length = n * size
  le : n ≤ cap
  capm : cap ≤ maxLen
  vals : ∀ j u, xs[j]? = some u → w.cell? ⟨g, j, none⟩ = some u
  there : ∀ j, j < cap * size → (w.cell? ⟨g, j, none⟩).isSome = true ∧ w.frozen? ⟨g, j, none⟩ = false

theorem CRow.keep {w w' : World} {base size g n cap : Nat} {xs : List Value} (h : CRow w base size g n cap xs) (hb : w'.heap[g]? = w.heap[g]?) (hs : w.heap.size ≤ w'.heap.size) : CRow w' base size g n cap xs :=
  ⟨h.lo, Nat.lt_of_lt_of_le h.lt hs, h.len, h.le, h.capm, fun j u hu => (World.cell?_of_block (a := ⟨g, j, none⟩) hb).trans (h.vals j u hu),
    fun j hj => ⟨by rw [World.cell?_of_block (a := ⟨g, j, none⟩) hb]; exact (h.there j hj).1, (World.frozen?_of_block (a := ⟨g, j, none⟩) hb).trans (h.there j hj).2⟩⟩
theorem CRow.alloc {w : World} {base size g n cap : Nat} {xs : List Value} (h : CRow w base size g n cap xs) (o : Obj) : CRow (w.alloc o) base size g n cap xs :=
  h.keep (Below.heap_alloc w o g h.lt) (by simp)
theorem CRow.below {w w' : World} {base size g n cap B : Nat} {xs : List Value} (h : CRow w base size g n cap xs) (hb : Below B w w') (hg : g < B) : CRow w' base size g n cap xs :=
  h.keep (hb.block g hg) hb.size
theorem CRow.grown {w w' : World} {base size g n cap : Nat} {xs : List Value} {row : Option Nat} (h : CRow w base size g n cap xs) (hg : w.grownBy w' row) (hne : some g ≠ row) : CRow w' base size g n cap xs :=
  h.keep (hg.block g h.lt hne) hg.size
theorem CRow.of_own {w : World} {base size g n cap : Nat} {e : TypeId} {xs : List Value} (h : w.ownsRow base e size (.slice (some ⟨g, 0, none⟩) n cap) n xs) : CRow w base size g n cap xs := by
  have hlt := (h.lt g rfl)
  rcases h.2 with ⟨h', _⟩ | ⟨g', cap', cur, h', hb, hg, hnc, hcm, hcs, htake⟩
  · simp at h'
  · simp only [Value.slice.injEq, Option.some.injEq, Addr.mk.injEq, and_true, true_and] at h'
    obtain ⟨rfl, rfl⟩ := h'
    refine ⟨hlt.1, hlt.2, h.1, hnc, hcm, fun j u hu => ?_, fun j hj => ⟨?_, h.frozenAt j⟩⟩
    · have hj : j < n * size := by rw [← h.1]; exact (List.getElem?_eq_some_iff.1 hu).1
      rw [h.cellAt j hj]; exact hu
    · rw [cell_of_row w g j cur e (0, 0) hg, Array.getElem?_eq_getElem (by omega)]; rfl
theorem CRow.addr {w : World} {base size g n cap : Nat} {xs : List Value} (h : CRow w base size g n cap xs) : ∀ j u, xs[j]? = some u → w.cell? ((⟨g, 0, none⟩ : Addr).add j) = some u := by
  intro j u hu
  have hadd : (⟨g, 0, none⟩ : Addr).add j = ⟨g, j, none⟩ := by unfold Addr.add; split <;> simp_all
  rw [hadd]
  exact h.vals j u hu

theorem tape_setCells (b : Nat) : ∀ (vs : List Value) (o : Nat) (w : World), (w.setCells b o vs).tape = w.tape
  | [], _, _ => rfl
  | v :: vs, o, w => by rw [World.setCells, tape_setCells b vs]; rfl

/-- An append to such a row, of cells behind an address: such a row again. -/
theorem wpList_append_row {P : Program} {ops : Array Oper} {rest : List Oper} {o : Oper} {a : Act} {w : World} {Q : Exit → Act → World → Prop} (hgd : o.guard = none) (s x : Operand) (t : TypeId)
    (ho : o.op = .call { callee := .builtin .append, args := #[s, x], argTypes := #[t, t] }) (base : Nat) (e : TypeId) (z : Value) (size bytes : Nat) (ht : P.underlying t = some (.slice e))
    (hinfo : (P.info? e).map (fun i => (i.zero, i.size, i.bytes)) = some (some z, size, bytes)) (hzs : z.cells.size = size) (hsz : 0 < size) {g n cap m c : Nat} {xs news : List Value} {ad : Addr}
    (hs : a.eval s = .slice (some ⟨g, 0, none⟩) n cap) (hrow : CRow w base size g n cap xs)
    (hx : a.eval x = .slice (some ad) m c) (hl : news.length = m * size) (hnews : ∀ j u, news[j]? = some u → w.cell? (ad.add j) = some u) (h1 : ∀ u ∈ news, u.oneCell' = true)
    (h63 : n + m ≤ maxLen) (hby : (n + m) * bytes ≤ 140737488355328)
    (h : ∀ g' cap' w', CRow w' base size g' (n + m) cap' (xs ++ news) → w.grownBy w' (some g) → (g' = g ∨ w.heap.size ≤ g') → wpList P ops Q rest (a.put o.dst (.slice (some ⟨g', 0, none⟩) (n + m) cap')) w') :
    wpList P ops Q (o :: rest) a w := by
  obtain ⟨i0, hi, hz0, hz1, hz2⟩ := info_parts hinfo
  have hfit : n + m ≤ cap → ∀ j, j < news.length → n * size + j < cap * size := by
    intro hc j hj
    have := Nat.mul_le_mul_right size hc
    rw [Nat.add_mul] at this
    omega
  refine wpList_append_arg w hgd s x t ho e i0 z size bytes ht hi hz0 hz1 hz2 hzs hsz g 0 n cap xs hs hrow.len (fun j u hu => by rw [Nat.zero_add]; exact hrow.vals j u hu) ad m c news hx hl hnews h1
    (fun hc j hj => by rw [Nat.zero_add]; exact hrow.there _ (hfit hc j hj)) h63 hby ?_ ?_
  · intro hc
    rw [Nat.zero_add]
    have hthere : ∀ j, j < news.length → (w.cell? ⟨g, n * size + j, none⟩).isSome = true := fun j hj => (hrow.there _ (hfit hc j hj)).1
    have hkb := World.keptBut_setCells g (may := fun p => p.block = g) news (n * size) w (fun _ _ => rfl)
    refine h g cap _ ⟨hrow.lo, Nat.lt_of_lt_of_le hrow.lt hkb.size, by rw [List.length_append, hrow.len, hl, Nat.add_mul], hc, hrow.capm, fun j u hu => ?_, fun j hj => ?_⟩ ⟨?_, ?_, ?_, hkb.size, ?_⟩ (Or.inl rfl)
    · by_cases hj : j < xs.length
      · rw [List.getElem?_append_left hj] at hu
        rw [World.cell?_setCells_out g news (n * size) w _ (fun _ _ => Or.inl (by rw [hrow.len] at hj; exact hj))]
        exact hrow.vals j u hu
      · rw [List.getElem?_append_right (by omega)] at hu
        have hj2 := (List.getElem?_eq_some_iff.1 hu).1
        have := World.cell?_setCells_in g news (n * size) w hthere (j - xs.length) hj2
        have e : n * size + (j - xs.length) = j := by have := hrow.len; omega
        rw [e] at this
        rw [List.getElem?_eq_getElem hj2] at hu
        rw [this]; exact hu
    · refine ⟨?_, by rw [World.frozen?_setCells]; exact (hrow.there j hj).2⟩
      by_cases hin : n * size ≤ j ∧ j < n * size + news.length
      · have := World.cell?_setCells_in g news (n * size) w hthere (j - n * size) (by omega)
        rw [show n * size + (j - n * size) = j by omega] at this
        rw [this]; rfl
      · rw [World.cell?_setCells_out g news (n * size) w _ (fun _ _ => by show j < _ ∨ _ ≤ j; omega)]
        exact (hrow.there j hj).1
    · exact hkb.1
    · exact tape_setCells g news _ w
    · exact hkb.2.1
    · intro k hk hne
      exact hkb.block hk (fun p hp e => hne (by rw [← e, hp]))
  · intro hc v' w' hown hgr
    rcases hown.2 with ⟨hv, hn⟩ | ⟨g', cap', cur, hv, hb', _⟩
    · exfalso; omega
    · subst hv
      have hr := CRow.of_own hown
      exact h g' cap' w' { hr with lo := Nat.le_trans hrow.lo (Nat.le_trans (Nat.le_of_lt hrow.lt) hb') } ⟨hgr.os, hgr.tape, hgr.output, hgr.size, fun k hk _ => hgr.block k hk (by simp)⟩ (Or.inr hb')

/-- Such a row of bytes, read as a text. -/
theorem conv_row {P : Program} {W : World} {src dst e : TypeId} {B g n cap : Nat} {ns : List Int} (hs : P.underlying src = some (.slice e)) (he : P.underlying e = some (.int .u8)) (hd : P.underlying dst = some .string)
    (h : CRow W B 1 g n cap (ns.map (Value.int .u8))) :
    (convert src dst (.slice (some ⟨g, 0, none⟩) n cap)).run P W = .ok (.string (mkB ns)) W := by
  rw [run_convert_bytes_string W src dst e _ n cap hs he hd]
  refine run_bytesToString W ⟨g, 0, none⟩ n cap ns ?_
  have hl : (ns.map (Value.int .u8)).length = n := by have := h.len; omega
  have := run_loadCells_list (P := P) W ⟨g, 0, none⟩ (ns.map (Value.int .u8)) h.addr
  rw [hl] at this
  exact this

theorem CRow.set {w : World} {base g n cap : Nat} {ns : List Int} (h : CRow w base 1 g n cap (ns.map (Value.int .u8))) {j : Nat} (hj : j < n) (x : Int) :
    CRow (w.setCell ⟨g, j, none⟩ (.int .u8 x)) base 1 g n cap ((ns.set j x).map (Value.int .u8)) := by
  have hle := h.le
  have hlen := h.len
  rw [List.length_map] at hlen
  refine ⟨h.lo, by have := h.lt; simpa [World.setCell] using this, by rw [List.length_map, List.length_set]; exact hlen, h.le, h.capm, fun i u hu => ?_, fun i hi => ⟨?_, ?_⟩⟩
  · by_cases e : i = j
    · subst e
      rw [List.getElem?_map, List.getElem?_set_self (by omega)] at hu
      cases hu
      exact World.cell?_setCell_same' _ _ _ (h.there i (by omega)).1
    · rw [World.cell?_setCell_other w ⟨g, j, none⟩ ⟨g, i, none⟩ _ (fun q => e (by cases q; rfl))]
      rw [List.getElem?_map, List.getElem?_set_ne (Ne.symm e), ← List.getElem?_map] at hu
      exact h.vals i u hu
  · by_cases e : i = j
    · subst e
      rw [World.cell?_setCell_same' _ _ _ (h.there i (by omega)).1]; rfl
    · rw [World.cell?_setCell_other w ⟨g, j, none⟩ ⟨g, i, none⟩ _ (fun q => e (by cases q; rfl))]
      exact (h.there i hi).1
  · rw [World.frozen?_setCell]; exact (h.there i hi).2

/-- A text's bytes as numbers. -/
def bytesI (s : ByteArray) : List Int := s.data.toList.map fun b => (b.toNat : Int)
theorem bytesI_length (s : ByteArray) : (bytesI s).length = s.size := by simp [bytesI]
theorem bytesI_at (s : ByteArray) (i : Nat) : (bytesI s).getD i 0 = byteAt s i := by
  unfold bytesI byteAt
  rw [List.getD_eq_getElem?_getD, List.getElem?_map]
  by_cases h : i < s.size
  · rw [dif_pos h]
    have h4 : s.data.toList[i]? = some s[i] := by
      rw [Array.getElem?_toList]
      exact Array.getElem?_eq_getElem h
    rw [h4]; rfl
  · rw [dif_neg h, List.getElem?_eq_none (by simp; omega)]; rfl

theorem grownCap_max (w : World) (n : Nat) (e : TypeId) (h : n ≤ 1000000000) : grownCap w n 0 e ≤ maxLen := grownCap_le_maxLen w n 0 e (by unfold maxLen; omega)

/-- '[]byte(s)': a row of the text's bytes in a new block. -/
theorem bytesWorld_row {w : World} {base : Nat} (e : TypeId) (s : ByteArray) (hb : base ≤ w.heap.size) (hs : s.size ≤ 1000000000) :
    CRow (Lib.bytesWorld w e s) base 1 w.heap.size s.size (grownCap w s.size 0 e) ((bytesI s).map (Value.int .u8)) := by
  have hge := grownCap_ge w s.size 0 e
  have hsz : (Lib.bytesCells w e s).size = grownCap w s.size 0 e := by
    simp [Lib.bytesCells]; omega
  refine ⟨hb, by rw [Lib.bytesWorld_size]; omega, by rw [List.length_map, bytesI_length, Nat.mul_one], hge, grownCap_max w _ e hs, fun j u hu => ?_, fun j hj => ⟨?_, ?_⟩⟩
  · have hj : j < s.size := by
      have := (List.getElem?_eq_some_iff.1 hu).1
      rwa [List.length_map, bytesI_length] at this
    rw [Lib.bytesWorld_cell w e s j hj, ← hu]
    simp [bytesI, hj, List.getD]
  · rw [Nat.mul_one] at hj
    have hn := Lib.bytesWorld_at_new w e s
    rw [cell_of_row _ _ j _ _ _ hn, Array.getElem?_eq_getElem (by omega)]; rfl
  · have hn := Lib.bytesWorld_at_new w e s
    unfold World.frozen?
    simp only [hn]
    rw [Nat.mul_one] at hj
    simp; omega
theorem bytesWorld_below {w : World} {B : Nat} (e : TypeId) (s : ByteArray) (hb : B ≤ w.heap.size) : Below B w (Lib.bytesWorld w e s) := by
  refine ⟨?_, ?_, ?_, by rw [Lib.bytesWorld_size]; omega, fun k hk => Lib.bytesWorld_at_old w e s k (by omega)⟩
  all_goals
    simp only [Lib.bytesWorld, World.freeze]
    split <;> rfl

theorem below_of_grown {w w' : World} {B g : Nat} (hg : w.grownBy w' (some g)) (hB : B ≤ w.heap.size) (hl : B ≤ g) : Below B w w' :=
  (Below.refl B w).grown hg hB (fun k hk => by simp only [Option.some.injEq] at hk; omega)
end Go.Proofs.YteebbmmgbjpihaaDoor
