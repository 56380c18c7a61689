/- Layer 5, the statement ParseLetters: which letters are sent, their text; a row of letters of one's own. -/
import Derived.Test.YtpcpdbofbbpglaaDoorParseN
import Derived.Test.YtpcpdbofbbpglaaDoorBlk
import Derived.Laws.AppendOwn
import Derived.OwnWalk
import Derived.ProofKit
namespace Go.Proofs.YtpcpdbofbbpglaaDoor
open Go.RowKit

def goodL (r : Int) : Bool := letterB r && decide (160 ≤ r ∨ (32 ≤ r ∧ r < 127))
/-- The letters of the first so many that are sent. -/
def sentL (l : List Int) (k : Nat) : List Int := ((l.take k).take 30).filter goodL
theorem sent_step {l : List Int} {k : Nat} {x : Int} (h : l[k]? = some x) : sentL l (k + 1) = if k < 30 ∧ goodL x = true then sentL l k ++ [x] else sentL l k := by
  have hk : k < l.length := (List.getElem?_eq_some_iff.1 h).1
  have ht : l.take (k + 1) = l.take k ++ [x] := by rw [List.take_add_one, h]; rfl
  have hl : (l.take k).length = k := by rw [List.length_take]; omega
  unfold sentL
  rw [ht]
  by_cases h30 : k < 30
  · have e1 : (l.take k ++ [x]).take 30 = l.take k ++ [x] := List.take_of_length_le (by simp; omega)
    have e2 : (l.take k).take 30 = l.take k := List.take_of_length_le (by omega)
    rw [e1, e2, List.filter_append]
    by_cases hg : goodL x = true
    · rw [if_pos ⟨h30, hg⟩]; simp [hg]
    · rw [if_neg (fun hh => hg hh.2)]; simp [hg]
  · have e1 : (l.take k ++ [x]).take 30 = (l.take k).take 30 := by rw [List.take_append_of_le_length (by omega)]
    rw [e1, if_neg (fun hh => h30 hh.1)]
theorem sent_length (l : List Int) (k : Nat) : (sentL l k).length ≤ 30 := by
  unfold sentL
  refine Nat.le_trans (List.length_filter_le _ _) ?_
  rw [List.length_take]; omega
theorem sent_good (l : List Int) (k : Nat) : ∀ r ∈ sentL l k, letterB r = true ∧ (160 ≤ r ∨ (32 ≤ r ∧ r < 127)) := by
  intro r hr
  have := (List.mem_filter.1 hr).2
  unfold goodL at this
  simpa using this
def textL : List Int → ByteArray
  | [] => nilB
  | r :: l => Utf8.encode r ++ textL l
theorem textL_snoc : ∀ (l : List Int) (r : Int), textL (l ++ [r]) = textL l ++ Utf8.encode r
  | [], r => by
    show Utf8.encode r ++ nilB = nilB ++ Utf8.encode r
    rw [show nilB = ⟨#[]⟩ from rfl, app_nil, nil_app]
  | x :: l, r => by rw [List.cons_append, textL, textL, textL_snoc l r, ByteArray.append_assoc]
theorem textL_bytes : ∀ l : List Int, bytesP (textL l) = l.flatMap fun r => bytesP (Utf8.encode r)
  | [] => rfl
  | r :: l => by rw [textL, bytesP_append, textL_bytes l]; rfl
theorem textL_size : ∀ l : List Int, (∀ r ∈ l, letterB r = true) → (textL l).size ≤ 4 * l.length
  | [], _ => Nat.le_refl _
  | r :: l, h => by
    have h1 := (enc_bytes (h r (List.Mem.head _))).1
    have h2 := textL_size l (fun x hx => h x (List.Mem.tail _ hx))
    have h3 := sizeOf_bd r
    rw [textL, size_append', List.length_cons]
    omega
/-- What is sent, is printed. -/
theorem sent_fed (l : List Int) (k : Nat) : feedP (.to 0) (bytesP (textL (sentL l k))) = (.to 0, (sentL l k).map dPrint) := by
  rw [textL_bytes]
  exact feed_letters _ (sent_good l k)
/-- A control but 24, 26, 27 is done. -/
theorem control_fed {c : Int} (h : 0 ≤ c ∧ c < 24) : feedP (.to 0) [c] = (.to 0, [dExec c]) := by
  rw [feedP, feedP, take_empty rfl]
  unfold oneP
  rw [if_neg (by omega), if_neg (by omega), if_neg (by show ¬ (0 : Int) = 6; decide), if_neg (by show ¬ (0 : Int) = 7; decide), if_pos (by omega)]
  rfl

def lets (l : List Int) : List Value := l.map (Value.int .i32)
theorem lets_length (l : List Int) : (lets l).length = l.length := List.length_map _
theorem lets_append (a b : List Int) : lets (a ++ b) = lets a ++ lets b := List.map_append
/-- A slice of one's own that holds these letters. -/
def OwnL (W : World) (base : Nat) (v : Value) (l : List Int) : Prop := W.ownsRow base 21 1 v l.length (lets l)
theorem let_info : (Tryd.prog.info? 21).map (fun i => (i.zero, i.size, i.bytes)) = some (some (.int .i32 0), 1, 4) := by kernel_rfl
theorem OwnL.nil (W : World) (base : Nat) : OwnL W base (.slice none 0 0) [] := ⟨rfl, .inl ⟨rfl, rfl⟩⟩
theorem OwnL.spell {W : World} {base : Nat} {v : Value} {l : List Int} (h : OwnL W base v l) : ∃ A c, v = .slice A l.length c := by
  rcases h.2 with ⟨rfl, h0⟩ | ⟨g, cap, cur, rfl, _⟩
  · exact ⟨_, _, by rw [h0]⟩
  · exact ⟨_, _, rfl⟩
theorem OwnL.kept {W W' : World} {base : Nat} {v : Value} {l : List Int} (h : OwnL W base v l) (hb : Below W.heap.size W W') : OwnL W' base v l :=
  World.ownsRow.kept h ⟨hb.os, hb.tape, hb.output, hb.size, fun k hk _ => hb.block k hk⟩ (row := none) (by cases v.ownBlock <;> simp)
theorem OwnL.row {W : World} {base : Nat} {v : Value} {l : List Int} (h : OwnL W base v l) (hl : l ≠ []) : ∃ g c, v = .slice (some ⟨g, 0, none⟩) l.length c ∧ g < W.heap.size ∧ ∀ j x, l[j]? = some x → W.cell? ⟨g, j, none⟩ = some (.int .i32 x) := by
  have h' : W.ownsRow base 21 1 v l.length (lets l) := h
  rcases h.2 with ⟨rfl, h0⟩ | ⟨g, cap, cur, rfl, _, hg, _⟩
  · exact absurd (List.length_eq_zero_iff.1 h0) hl
  · refine ⟨g, cap, rfl, (Array.getElem?_eq_some_iff.1 hg).1, fun j x hx => ?_⟩
    have hj : j < l.length := (List.getElem?_eq_some_iff.1 hx).1
    rw [h'.cellAt j (by omega)]
    unfold lets
    rw [List.getElem?_map, hx]
    rfl
theorem wpList_append_let {ops : Array Oper} {rest : List Oper} {o : Oper} {a : Act} {w : World} {Q : Exit → Act → World → Prop} (hgd : o.guard = none) (s x : Operand)
    (ho : o.op = .call { callee := .builtin .append, args := #[s, x], argTypes := #[35, 35] }) (base : Nat) (v : Value) (L : List Int) (hs : a.eval s = v) (hown : OwnL w base v L)
    (r : Int) (ad : Addr) (c : Nat) (hx : a.eval x = .slice (some ad) 1 c) (hc : ∀ j u, [Value.int .i32 r][j]? = some u → w.cell? (ad.add j) = some u) (hb : L.length ≤ 1000) (hbase : base ≤ w.heap.size)
    (h : ∀ v' w', OwnL w' base v' (L ++ [r]) → w.grownBy w' v.ownBlock → wpList Tryd.prog ops Q rest (a.put o.dst v') w') : wpList Tryd.prog ops Q (o :: rest) a w := by
  obtain ⟨i0, hi, hz0, hz1, hz2⟩ := info_parts let_info
  refine wpList_append_own w hgd s x 35 ho base 21 i0 (.int .i32 0) 1 4 Tryd.underlying35 hi hz0 hz1 hz2 rfl (by decide) v L.length (lets L) hs hown ad 1 c [.int .i32 r] hx rfl hc (by simp [Value.oneCell']) (by unfold maxLen; omega) (by omega) hbase ?_
  intro v' w' h1 h2 _
  refine h v' w' ?_ h2
  unfold OwnL
  rw [List.length_append, lets_append]
  exact h1
end Go.Proofs.YtpcpdbofbbpglaaDoor
