/- Layer 8, the reference: Line, Say. -/
/- Layer 8, the reference: Say. -/
import Derived.Test.YteebbmmgbjpihaaDoorFlowLmQ
import Derived.Deep.LoopGhost
namespace Go.Proofs.YteebbmmgbjpihaaDoor
open Go.RowKit

/-- What holds while a line is filled. -/
def LnRel (W wr : World) (l : List Ce) (cols : Nat) (soft : Bool) (k : Nat) : Prop :=
  ∃ v j, l.length + j + k = cols ∧ Box wr (W.heap.size + 1) 39 #[v, .bool soft] ∧ OwnC wr W.heap.size v (l ++ List.replicate j b0C) ∧ Box wr W.heap.size 39 #[.slice none 0 0, .bool false] ∧ Below W.heap.size W wr
theorem ln_step {W wr w7 : World} {l : List Ce} {soft : Bool} {v v' : Value} {m : List Ce} {lc : Array Value} (hb : Box wr (W.heap.size + 1) 39 #[v, .bool soft]) (ho : OwnC wr W.heap.size v l) (hz : Box wr W.heap.size 39 #[.slice none 0 0, .bool false]) (hW : Below W.heap.size W wr)
    (h7 : OwnC w7 W.heap.size v' (l ++ m)) (wz : World) (hwz : wz = wr ∨ wz = wr.alloc (.cells lc 44)) (hg : wz.grownBy w7 v.ownBlock) :
    Box (w7.setCell ⟨W.heap.size + 1, 0, none⟩ v') (W.heap.size + 1) 39 #[v', .bool soft] ∧ OwnC (w7.setCell ⟨W.heap.size + 1, 0, none⟩ v') W.heap.size v' (l ++ m) ∧ Box (w7.setCell ⟨W.heap.size + 1, 0, none⟩ v') W.heap.size 39 #[.slice none 0 0, .bool false] ∧ Below W.heap.size W (w7.setCell ⟨W.heap.size + 1, 0, none⟩ v') := by
  have hbz : Below wr.heap.size wr wz := by
    rcases hwz with rfl | rfl
    · exact Below.refl _ _
    · exact below_alloc _ _
  have o2 := ho.kept hbz
  have b7 := (hb.below hbz hb.lt).grown hg (o2.not_box (hb.below hbz hb.lt) (by decide))
  have z7 := (hz.below hbz hz.lt).grown hg (o2.not_box (hz.below hbz hz.lt) (by decide))
  refine ⟨b7.set (i := 0) v', h7.set b7 (by decide) _, z7.other (by omega) _, below_set ((hW.trans (hbz.mono hW.size)).grown hg (Nat.le_trans hW.size hbz.size) fun q hq => (World.ownsRow.lt o2 q hq).1) (by omega) _⟩
end Go.Proofs.YteebbmmgbjpihaaDoor

namespace Go.Proofs.YteebbmmgbjpihaaDoor
open Go.RowKit

def sayN (row : List Ce) (k : Nat) : ByteArray := (row.take k).foldl (fun s c => s ++ sayC c) ⟨#[]⟩
theorem sayN_step {row : List Ce} {k : Nat} {c : Ce} (h : row[k]? = some c) : sayN row (k + 1) = sayN row k ++ sayC c := by
  unfold sayN
  rw [take_snoc h, List.foldl_append]
  rfl
theorem sayN_size {row : List Ce} (h : ∀ c ∈ row, c.tx.size ≤ 1000) : ∀ k, k ≤ row.length → (sayN row k).size ≤ k * 1001
  | 0, _ => Nat.le_refl _
  | k + 1, hk => by
    have hx : row[k]? = some row[k] := List.getElem?_eq_getElem (by omega)
    have h1 := sayN_size h k (by omega)
    have h2 := h _ (List.mem_of_getElem? hx)
    rw [sayN_step hx, ByteArray.size_append]
    unfold sayC
    rw [ByteArray.size_append]
    split
    · show _ + (1 + _) ≤ _
      omega
    · show _ + (0 + _) ≤ _
      omega
set_option maxRecDepth 100000 in
set_option maxHeartbeats 4000000 in
theorem rSay_raw (v : Value) (row : List Ce) (W : World) (hr : CeRow W v row) (htx : ∀ c ∈ row, c.tx.size ≤ 1000) (hn : row.length ≤ 100000) :
    Calls Tryd.prog 27 #[v] W fun e w' => e = .returned (.string (sayN row row.length)) ∧ Below W.heap.size W w' := by
  obtain ⟨S, hall⟩ : ∃ S, sayN row row.length = S := ⟨_, rfl⟩
  rw [hall]
  obtain ⟨A, c0, rfl⟩ := hr.spell
  obtain ⟨n, hnn⟩ : ∃ n, row.length = n := ⟨_, rfl⟩
  have hsz := sayN_size htx
  rw [hnn] at hr hn hall hsz ⊢
  have HN := hid hnn
  have HR := hid hr
  have HALL := hid hall
  have HSZ := hid hsz
  clear hr hall hsz hnn
  go_enter Tryd.func27, Tryd.ntmps27
  go_wp2
  go_loopw [3, 8] (fun sv i wr => ∃ k : Nat, k ≤ n ∧ i = .int .i64 k ∧ sv = .string (sayN row k) ∧ Below W.heap.size W wr) (fun _ i _ => n - (intOf i).toNat)
  case atStart => exact ⟨0, by omega, rfl, rfl, Below.refl _ _⟩
  case round =>
    obtain ⟨k, hk, rfl, rfl, hb⟩ := hrel
    by_cases hlt : k < n
    · have hki : (k : Int) < n := by omega
      have hkb : (k : Int) ≤ 100000 := by omega
      obtain ⟨g, o, c, rfl, hg, hx, hcell⟩ := row_cells HR.out HN.out k hlt
      obtain ⟨p0, p1, p2, p3, p4⟩ := ccells (W := wr) (g := g) (o := o + k * 5) (e := c) (fun i u hu => hcell _ hb i u hu)
      have HST := hid (sayN_step hx)
      have hz := HSZ.out k (by omega)
      have ht := htx c (List.mem_of_getElem? hx)
      obtain ⟨s, hs⟩ : ∃ s, sayN row k = s := ⟨_, rfl⟩
      rw [hs] at hz HST ⊢
      obtain ⟨tx, wd, fg, bg, fl⟩ := c
      simp only at p0 p1 p2 p3 p4 ht
      have hbx := Box.new wr 44 #[.string tx, .int .i64 wd, .int .i64 fg, .int .i64 bg, .int .i64 fl]
      obtain ⟨⟨a0, a1, a2, a3, a4⟩, _⟩ := hbx.five
      have HB := hid (hb.alloc hb.size (.cells #[.string tx, .int .i64 wd, .int .i64 fg, .int .i64 bg, .int .i64 fl] 44))
      clear hx hcell hbx hs hb
      by_cases h0 : tx.size = 0
      · have h0' := empty_yes h0
        subst h0'
        by_cases h1 : wd = 1
        · have hq : (wd == 1) = true := by simp [h1]
          have HE : Hid (sayC ⟨⟨#[]⟩, wd, fg, bg, fl⟩ = ⟨#[32]⟩) := by unfold Hid sayC; rw [if_pos ⟨rfl, h1⟩, app_nil]
          clear h0 h1
          go_wp2
          go_roundw
          case rel => exact ⟨k + 1, by omega, by go_num, by rw [HST.out, HE.out]; try simp [app_nil], HB.out⟩
          case measure => simp [intOf]; omega
        · have hq : (wd == 1) = false := by simp [h1]
          have HE : Hid (sayC ⟨⟨#[]⟩, wd, fg, bg, fl⟩ = ⟨#[]⟩) := by unfold Hid sayC; rw [if_neg (fun e => h1 e.2), app_nil]
          clear h0 h1
          go_wp2
          go_roundw
          case rel => exact ⟨k + 1, by omega, by go_num, by rw [HST.out, HE.out]; try simp [app_nil], HB.out⟩
          case measure => simp [intOf]; omega
      · have hne := empty_no h0
        have HE : Hid (sayC ⟨tx, wd, fg, bg, fl⟩ = tx) := by unfold Hid sayC; rw [if_neg (fun e => h0 e.1), nil_app]
        clear h0
        go_wp2
        go_roundw
        case rel => exact ⟨k + 1, by omega, by go_num, by rw [HST.out, HE.out], HB.out⟩
        case measure => simp [intOf]; omega
    · have hkn : k = n := by omega
      subst hkn
      have HE := hid HALL.out
      clear hlt
      go_wp2
      go_ret
      exact ⟨ret_str HE.out, hb⟩
theorem rSay_any (v : Value) (row : List Ce) (W : World) (hr : CeRow W v row) (hok : okR row = true) (htx : ∀ c ∈ row, c.tx.size ≤ 1000) (hn : row.length ≤ 100000) :
    Calls Tryd.prog 27 #[v] W fun e w' => e = .returned (.string (sayP row)) ∧ Below W.heap.size W w' := by
  have hall : sayN row row.length = sayP row := by unfold sayN; rw [List.take_length]; exact sayP_cells hok
  rw [← hall]
  exact rSay_raw v row W hr htx hn
end Go.Proofs.YteebbmmgbjpihaaDoor
