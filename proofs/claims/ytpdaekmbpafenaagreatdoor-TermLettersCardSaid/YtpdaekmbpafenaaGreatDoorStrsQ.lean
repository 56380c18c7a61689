
import Derived.Test.YtpdaekmbpafenaaGreatDoorLtRowQ
import Derived.Laws.AppendOwn
import Derived.OwnWalk
import Derived.ProofKit
namespace Go.Proofs.YtpdaekmbpafenaaGreatDoor
open Go.RowKit
def strs (l:List ByteArray):List Value:=l.map (Value.string)
theorem strs_length (l:List ByteArray):(strs l).length=l.length:=List.length_map _
theorem strs_append (a b:List ByteArray):strs (a ++ b)=strs a ++ strs b:=List.map_append
def OwnS (W:World) (base:Nat) (v:Value) (l:List ByteArray):Prop:=W.ownsRow base 9 1 v l.length (strs l)
theorem str_info:(Tryz.prog.info? 9).map (fun i=>(i.zero,i.size,i.bytes))=some (some (.string ⟨#[]⟩),1,16):=by kernel_rfl
theorem OwnS.spell {W:World} {base:Nat} {v:Value} {l:List ByteArray} (h:OwnS W base v l):∃ A c,v=.slice A l.length c:=by
 rcases h.2 with ⟨rfl,h0⟩ | ⟨g,cap,cur,rfl,_⟩
 ·exact⟨_,_,by rw[h0]⟩
 ·exact⟨_,_,rfl⟩
theorem OwnS.kept {W W':World} {base:Nat} {v:Value} {l:List ByteArray} (h:OwnS W base v l) (hb:Below W.heap.size W W'):OwnS W' base v l :=
 World.ownsRow.kept h ⟨hb.os,hb.tape,hb.output,hb.size,fun k hk _=>hb.block k hk⟩ (row:=none) (by cases v.ownBlock <;> simp)
theorem qjf {ops : Array Oper} {rest : List Oper} {o : Oper} {a : Act} {w : World} {Q : Exit → Act → World → Prop} (hgd : o.guard = none) (s x : Operand)
  (ho:o.op=.call { callee:=.builtin .append,args:=#[s,x],argTypes:=#[49,49] }) (base:Nat) (v:Value) (L:List ByteArray) (hs:a.eval s=v) (hown:OwnS w base v L)
  (news:List ByteArray) (ad:Addr) (m c:Nat) (hx:a.eval x=.slice (some ad) m c) (hm:news.length=m) (hc:∀ j u,(strs news)[j]?=some u→w.cell? (ad.add j)=some u) (hb:L.length+m≤1000000) (hbase:base≤w.heap.size)
  (h:∀ v' w',OwnS w' base v' (L ++ news)→w.grownBy w' v.ownBlock→wpList Tryz.prog ops Q rest (a.put o.dst v') w'):wpList Tryz.prog ops Q (o :: rest) a w:=by
 subst hm
 obtain⟨i0,hi,hz0,hz1,hz2⟩:=info_parts str_info
 refine wpList_append_own w hgd s x 49 ho base 9 i0 (.string ⟨#[]⟩) 1 16 Tryz.underlying49 hi hz0 hz1 hz2 rfl (by decide) v L.length (strs L) hs hown ad news.length c (strs news) hx (by rw[strs_length];omega) hc
  (fun u hu=>by obtain⟨_,_,rfl⟩:=List.mem_map.1 hu;rfl) (by unfold maxLen;omega) (by omega) hbase ?_
 intro v' w' h1 h2 _
 refine h v' w' ?_ h2
 unfold OwnS
 rw[List.length_append,strs_append]
 exact h1
theorem slit_at {W:World} {g:Nat} {t:TypeId} {l:List Value} (h:Box W g t l.toArray):∀ (j:Nat) (u:Value),l[j]?=some u→W.cell? ((⟨g,0,none⟩:Addr).add j)=some u:=by
 intro j u hu
 have hadd:(⟨g,0,none⟩:Addr).add j=⟨g,j,none⟩:=by unfold Addr.add;split <;> simp_all
 rw[hadd,h.cell j]
 simpa using hu
theorem OwnS.nil (W:World) (base:Nat):OwnS W base (.slice none 0 0) []:=⟨rfl,.inl ⟨rfl,rfl⟩⟩
theorem OwnS.row {W:World} {base:Nat} {v:Value} {l:List ByteArray} (h:OwnS W base v l) (hl:l≠[]):∃ g c,v=.slice (some ⟨g,0,none⟩) l.length c∧g < W.heap.size∧∀ j x,l[j]?=some x→W.cell? ⟨g,j,none⟩=some (.string x):=by
 have h':W.ownsRow base 9 1 v l.length (strs l):=h
 rcases h.2 with ⟨rfl,h0⟩ | ⟨g,cap,cur,rfl,_,hg,_⟩
 ·exact absurd (List.length_eq_zero_iff.1 h0) hl
 ·refine⟨g,cap,rfl,(Array.getElem?_eq_some_iff.1 hg).1,fun j x hx=>?_⟩
  have hj:j < l.length:=(List.getElem?_eq_some_iff.1 hx).1
  rw[h'.cellAt j (by omega)]
  unfold strs
  rw[List.getElem?_map,hx]
  rfl
theorem OwnS.any {W:World} {base:Nat} {v:Value} {l:List ByteArray} (h:OwnS W base v l):∃ A c,v=.slice A l.length c∧(l≠[]→∃ g,A=some ⟨g,0,none⟩∧g < W.heap.size∧∀ j x,l[j]?=some x→W.cell? ⟨g,j,none⟩=some (.string x)):=by
 by_cases hl:l=[]
 ·obtain⟨A,c,e⟩:=h.spell
  exact⟨A,c,e,fun hn=>absurd hl hn⟩
 ·obtain⟨g,c,e,hg,hx⟩:=h.row hl
  exact⟨_,c,e,fun _=>⟨g,rfl,hg,hx⟩⟩
end Go.Proofs.YtpdaekmbpafenaaGreatDoor
