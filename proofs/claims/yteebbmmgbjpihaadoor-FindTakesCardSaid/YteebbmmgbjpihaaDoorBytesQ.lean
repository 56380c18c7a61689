/- Bytes that a call laid itself, as numbers: made, read as a text. -/
import Derived.Test.YteebbmmgbjpihaaDoorCellIQ
import Derived.Laws.BytesString
namespace Go.Proofs.YteebbmmgbjpihaaDoor
open Go.RowKit

/-- Numbers as bytes of a text. -/
def mkB (ns : List Int) : ByteArray := ns.foldl (fun r n => r.push (UInt8.ofNat n.toNat)) ByteArray.empty
theorem mkB_data : ∀ (ns : List Int) (s : ByteArray), (ns.foldl (fun r n => r.push (UInt8.ofNat n.toNat)) s).data.toList = s.data.toList ++ ns.map fun n => UInt8.ofNat n.toNat
  | [], s => by simp
  | n :: ns, s => by
    rw [List.foldl_cons, mkB_data ns (s.push _)]
    simp [ByteArray.push]
theorem mkB_list (ns : List Int) : (mkB ns).data.toList = ns.map fun n => UInt8.ofNat n.toNat := by
  unfold mkB
  rw [mkB_data]
  simp
theorem mkB_size (ns : List Int) : (mkB ns).size = ns.length := by
  have : (mkB ns).data.toList.length = ns.length := by rw [mkB_list, List.length_map]
  simpa using this
theorem mkB_at (ns : List Int) (i : Nat) (hi : i < ns.length) (h : 0 ≤ ns.getD i 0 ∧ ns.getD i 0 ≤ 255) : byteAt (mkB ns) i = ns.getD i 0 := by
  have h1 : i < (mkB ns).size := by rw [mkB_size]; exact hi
  rw [← byteAt_eq h1]
  have h2 : (mkB ns).data.toList[i]? = some (UInt8.ofNat (ns.getD i 0).toNat) := by
    rw [mkB_list, List.getElem?_map, List.getD_eq_getElem?_getD, List.getElem?_eq_getElem hi]; rfl
  have h3 : (mkB ns)[i] = UInt8.ofNat (ns.getD i 0).toNat := by
    have h4 : (mkB ns).data.toList[i]? = some (mkB ns)[i] := by
      rw [Array.getElem?_toList]
      exact Array.getElem?_eq_getElem h1
    rw [h4] at h2
    exact Option.some.inj h2
  rw [h3]
  clear h2 h3
  generalize ns.getD i 0 = x at h ⊢
  rw [UInt8.toNat_ofNat']
  omega

/-- The call's own bytes, read as a text. -/
theorem conv_own {P : Program} {W : World} {src dst e : TypeId} {B g n cap : Nat} {ns : List Int} (hs : P.underlying src = some (.slice e)) (he : P.underlying e = some (.int .u8)) (hd : P.underlying dst = some .string)
    (h : W.ownsRow B e 1 (.slice (some ⟨g, 0, none⟩) n cap) n (ns.map (Value.int .u8))) :
    (convert src dst (.slice (some ⟨g, 0, none⟩) n cap)).run P W = .ok (.string (mkB ns)) W := by
  rw [run_convert_bytes_string W src dst e _ n cap hs he hd]
  refine run_bytesToString W ⟨g, 0, none⟩ n cap ns ?_
  have hl : (ns.map (Value.int .u8)).length = n := by have := h.1; omega
  have := run_loadCells_list (P := P) W ⟨g, 0, none⟩ (ns.map (Value.int .u8)) (h.cells rfl)
  rw [hl] at this
  exact this

/-- One slice of the call's own bytes appended to another: a slice of its own again; nothing below 'base' has turned. -/
theorem wpList_append_bytes {P : Program} {ops : Array Oper} {rest : List Oper} {o : Oper} {a : Act} {w : World} {Q : Exit → Act → World → Prop} (hgd : o.guard = none) (s x : Operand) (t : TypeId)
    (ho : o.op = .call { callee := .builtin .append, args := #[s, x], argTypes := #[t, t] }) (base : Nat) (e : TypeId) (ht : P.underlying t = some (.slice e))
    (hinfo : (P.info? e).map (fun i => (i.zero, i.size, i.bytes)) = some (some (.int .u8 0), 1, 1)) {g1 cap1 n g2 cap2 m base2 : Nat} {ns ms : List Int}
    (hs : a.eval s = .slice (some ⟨g1, 0, none⟩) n cap1) (hown1 : w.ownsRow base e 1 (.slice (some ⟨g1, 0, none⟩) n cap1) n (ns.map (Value.int .u8)))
    (hx : a.eval x = .slice (some ⟨g2, 0, none⟩) m cap2) (hown2 : w.ownsRow base2 e 1 (.slice (some ⟨g2, 0, none⟩) m cap2) m (ms.map (Value.int .u8)))
    (hsz : n + m ≤ 1000000000) (hbase : base ≤ w.heap.size)
    (h : ∀ g cap w', w'.ownsRow base e 1 (.slice (some ⟨g, 0, none⟩) (n + m) cap) (n + m) ((ns ++ ms).map (Value.int .u8)) → Below base w w' → wpList P ops Q rest (a.put o.dst (.slice (some ⟨g, 0, none⟩) (n + m) cap)) w') :
    wpList P ops Q (o :: rest) a w := by
  obtain ⟨i0, hi, hz0, hz1, hz2⟩ := info_parts hinfo
  refine wpList_append_own w hgd s x t ho base e i0 (.int .u8 0) 1 1 ht hi hz0 hz1 hz2 rfl (by decide) _ n _ hs hown1 ⟨g2, 0, none⟩ m cap2 (ms.map (Value.int .u8)) hx hown2.1 (hown2.cells rfl)
    (fun u hu => by obtain ⟨_, _, rfl⟩ := List.mem_map.1 hu; rfl) (by unfold maxLen; omega) (by omega) hbase ?_
  intro v' w' hown hgrow hnil
  have hb : Below base w w' := (Below.refl base w).grown hgrow hbase (fun k hk => by
    simp only [Value.ownBlock, Option.some.injEq] at hk
    subst hk
    exact (hown1.lt _ rfl).1)
  rcases hown.2 with ⟨hv, hn⟩ | ⟨g, cap, cur, hv, _⟩
  · exact absurd (hnil.1 hv).1 (by simp)
  · subst hv
    refine h g cap w' ?_ hb
    rw [List.map_append]
    exact hown

/-- A literal's bytes, the second block that was laid. -/
theorem own_lit2 {base : Nat} {e : TypeId} (w : World) (o : Obj) (ns : List Int) (hb : base ≤ w.heap.size) (hm : ns.length ≤ 1000000000) :
    ((w.alloc o).alloc (.cells (ns.map (Value.int .u8)).toArray e)).ownsRow base e 1 (.slice (some ⟨w.heap.size + 1, 0, none⟩) ns.length ns.length) ns.length (ns.map (Value.int .u8)) := by
  have h := World.ownsRow_lit (base := base) (e := e) (size := 1) (w.alloc o) (ns.map (Value.int .u8)).toArray ns.length (by simp; omega) (by unfold maxLen; omega) (by simp)
  have hs : (w.alloc o).heap.size = w.heap.size + 1 := by simp
  rw [hs] at h
  exact h
theorem A_info : (Tryd.prog.info? 5).map (fun i => (i.zero, i.size, i.bytes)) = some (some (.int .u8 0), 1, 1) := by kernel_rfl
end Go.Proofs.YteebbmmgbjpihaaDoor
