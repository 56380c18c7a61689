
import Derived.Test.YtpdaekmbpafenaaGreatDoorLtRowQ
import Derived.Laws.AppendOwn
import Derived.OwnWalk
import Derived.ProofKit
import Derived.Test.YtpdaekmbpafenaaGreatDoorUtfCQ
import Derived.Deep.RegionLaw
import Derived.Maps.AppendAt
import Derived.StillTailTactics
namespace Go.Proofs.YtpdaekmbpafenaaGreatDoor
open Go.RowKit
def qfo (l:List Int):List Value:=l.map (Value.int .i64)
theorem qhy (l:List Int):(qfo l).length=l.length:=List.length_map _
theorem qkw (a b:List Int):qfo (a ++ b)=qfo a ++ qfo b:=List.map_append
def OwnI (W:World) (base:Nat) (v:Value) (l:List Int):Prop:=W.ownsRow base 3 1 v l.length (qfo l)
theorem int_info:(Tryz.prog.info? 3).map (fun i=>(i.zero,i.size,i.bytes))=some (some (.int .i64 0),1,8):=by kernel_rfl
theorem OwnI.spell {W:World} {base:Nat} {v:Value} {l:List Int} (h:OwnI W base v l):∃ A c,v=.slice A l.length c:=by
 rcases h.2 with ⟨rfl,h0⟩ | ⟨g,cap,cur,rfl,_⟩
 ·exact⟨_,_,by rw[h0]⟩
 ·exact⟨_,_,rfl⟩
theorem OwnI.lit {W:World} {base:Nat} (l:List Int) (hl:l.length≤1000) (hb:base≤W.heap.size):OwnI (W.alloc (.cells (qfo l).toArray 3)) base (.slice (some ⟨W.heap.size,0,none⟩) l.length l.length) l:=by
 have h:=World.ownsRow_lit (base:=base) (e:=3) (size:=1) W (qfo l).toArray l.length hb (by unfold maxLen;omega) (by simp[qhy])
 unfold OwnI
 simpa using h
theorem qja {ops : Array Oper} {rest : List Oper} {o : Oper} {a : Act} {w : World} {Q : Exit → Act → World → Prop} (hgd : o.guard = none) (s x : Operand)
  (ho:o.op=.call { callee:=.builtin .append,args:=#[s,x],argTypes:=#[29,29] }) (base:Nat) (v:Value) (L:List Int) (hs:a.eval s=v) (hown:OwnI w base v L)
  (news:List Int) (ad:Addr) (m c:Nat) (hx:a.eval x=.slice (some ad) m c) (hm:news.length=m) (hc:∀ j u,(qfo news)[j]?=some u→w.cell? (ad.add j)=some u) (hb:L.length+m≤1000000) (hbase:base≤w.heap.size)
  (h:∀ v' w',OwnI w' base v' (L ++ news)→w.grownBy w' v.ownBlock→wpList Tryz.prog ops Q rest (a.put o.dst v') w'):wpList Tryz.prog ops Q (o :: rest) a w:=by
 subst hm
 obtain⟨i0,hi,hz0,hz1,hz2⟩:=info_parts int_info
 refine wpList_append_own w hgd s x 29 ho base 3 i0 (.int .i64 0) 1 8 Tryz.underlying29 hi hz0 hz1 hz2 rfl (by decide) v L.length (qfo L) hs hown ad news.length c (qfo news) hx (by rw[qhy];omega) hc
  (fun u hu=>by obtain⟨_,_,rfl⟩:=List.mem_map.1 hu;rfl) (by unfold maxLen;omega) (by omega) hbase ?_
 intro v' w' h1 h2 _
 refine h v' w' ?_ h2
 unfold OwnI
 rw[List.length_append,qkw]
 exact h1
theorem lit_at {W:World} {g:Nat} {t:TypeId} {l:List Value} (h:Box W g t l.toArray):∀ (j:Nat) (u:Value),l[j]?=some u→W.cell? ((⟨g,0,none⟩:Addr).add j)=some u:=by
 intro j u hu
 have hadd:(⟨g,0,none⟩:Addr).add j=⟨g,j,none⟩:=by unfold Addr.add;split <;> simp_all
 rw[hadd,h.cell j]
 simpa using hu
set_option maxHeartbeats 1000000
set_option maxRecDepth 100000
def NumO (W:World) (lo hi:Nat) (v:Value) (l:List Int):Prop :=
 (l=[]∧∃ A,v=.slice A 0 0)∨(OwnI W lo v l∧∀ g,v.ownBlock=some g→g < hi)
def Kept (hi:Nat) (W W':World):Prop:=∀ g cur,g < hi→W.heap[g]?=some (.cells cur 3 (0,0))→W'.heap[g]?=some (.cells cur 3 (0,0))
theorem Kept.trans {hi:Nat} {W W1 W2:World} (h:Kept hi W W1) (h2:Kept hi W1 W2):Kept hi W W2:=fun g cur hg hc=>h2 g cur hg (h g cur hg hc)
theorem Kept.of_below {W W':World} (hi:Nat) (h:Below W.heap.size W W'):Kept hi W W':=fun g _ _ hc=>(h.block g (Array.getElem?_eq_some_iff.1 hc).1).trans hc
theorem Kept.set {W:World} {b i:Nat} {t:TypeId} {cs:Array Value} (hi:Nat) (hb:Box W b t cs) (ht:t≠3) (u:Value):Kept hi W (W.setCell ⟨b,i,none⟩ u):=by
 intro g cur _ hc
 refine(Below.heap_setCell W ⟨b,i,none⟩ u g ?_).trans hc
 show g≠b
 rintro rfl
 have hb':W.heap[g]?=some (.cells cs t (0,0)):=hb
 rw[hc] at hb'
 cases hb'
 exact ht rfl
theorem Kept.grown {W W':World} {row:Option Nat} (hi:Nat) (hg:W.grownBy W' row) (hr:∀ g cur,row=some g→W.heap[g]?=some (.cells cur 3 (0,0))→hi≤g):Kept hi W W':=by
 intro g cur hlt hc
 refine(hg.block g (Array.getElem?_eq_some_iff.1 hc).1 (fun e=>?_)).trans hc
 have:=hr g cur e.symm hc
 omega
theorem NumO.kept {W W':World} {lo hi:Nat} {v:Value} {l:List Int} (h:NumO W lo hi v l) (hk:Kept hi W W'):NumO W' lo hi v l:=by
 rcases h with h | ⟨⟨h1,h2⟩,hlt⟩
 ·exact .inl h
 ·refine .inr ⟨⟨h1,?_⟩,hlt⟩
  rcases h2 with h2 | ⟨g,cap,cur,rfl,hb,hg,rest⟩
  ·exact .inl h2
  ·exact .inr ⟨g,cap,cur,rfl,hb,hk g cur (hlt g rfl) hg,rest⟩
theorem NumO.mono {W:World} {lo lo' hi hi':Nat} {v:Value} {l:List Int} (h:NumO W lo hi v l) (h1:lo'≤lo) (h2:hi≤hi'):NumO W lo' hi' v l:=by
 rcases h with h | ⟨⟨e,h⟩,hlt⟩
 ·exact .inl h
 ·refine .inr ⟨⟨e,?_⟩,fun g hg=>Nat.lt_of_lt_of_le (hlt g hg) h2⟩
  rcases h with h | ⟨g,cap,cur,rfl,hb,rest⟩
  ·exact .inl h
  ·exact .inr ⟨g,cap,cur,rfl,Nat.le_trans h1 hb,rest⟩
theorem NumO.spell {W:World} {lo hi:Nat} {v:Value} {l:List Int} (h:NumO W lo hi v l):∃ A c,v=.slice A l.length c:=by
 rcases h with ⟨rfl,A,rfl⟩ | ⟨h,_⟩
 ·exact⟨A,0,rfl⟩
 ·exact h.spell
theorem NumO.nil (W:World) (lo hi:Nat):NumO W lo hi (.slice none 0 0) []:=.inl ⟨rfl,none,rfl⟩
theorem NumO.row {W:World} {lo hi:Nat} {v:Value} {l:List Int} (h:NumO W lo hi v l) (hl:l≠[]):∃ g c,v=.slice (some ⟨g,0,none⟩) l.length c∧lo≤g∧g < W.heap.size∧g < hi∧l.length≤c∧∀ j x,l[j]?=some x→W.cell? ⟨g,j,none⟩=some (.int .i64 x):=by
 rcases h with ⟨h,_⟩ | ⟨h,hlt⟩
 ·exact absurd h hl
 ·have h':W.ownsRow lo 3 1 v l.length (qfo l):=h
  rcases h.2 with ⟨rfl,h0⟩ | ⟨g,cap,cur,rfl,hb,hg,hc,_⟩
  ·exact absurd (List.length_eq_zero_iff.1 h0) hl
  ·refine⟨g,cap,rfl,hb,(Array.getElem?_eq_some_iff.1 hg).1,hlt g rfl,hc,fun j x hx=>?_⟩
   have hj:j < l.length:=(List.getElem?_eq_some_iff.1 hx).1
   rw[h'.cellAt j (by omega)]
   unfold qfo
   rw[List.getElem?_map,hx]
   rfl
theorem NumO.irow {W:World} {lo hi:Nat} {v:Value} {l:List Int} (h:NumO W lo hi v l):IRow W v l:=by
 by_cases hl:l=[]
 ·obtain⟨A,c,e⟩:=h.spell
  exact⟨A,c,e,fun hn=>absurd hl hn⟩
 ·obtain⟨g,c,e,_,hg,_,_,hx⟩:=h.row hl
  refine⟨_,c,e,fun _=>⟨_,rfl,hg,fun j x hj=>?_⟩⟩
  have hadd:(⟨g,0,none⟩:Addr).add j=⟨g,j,none⟩:=by unfold Addr.add;split <;> simp_all
  rw[hadd]
  exact hx j x hj
def qgt:List (Dn×Value)→List Value
 | []=>[]
 | e :: l=>(e.1.cells e.2).toList ++ qgt l
theorem qjr:∀ a b,qgt (a ++ b)=qgt a ++ qgt b
 | [],_=>rfl
 | e :: a,b=>by rw[List.cons_append,qgt,qgt,qjr a b,List.append_assoc]
theorem dflat_at:∀ (l:List (Dn×Value)) (j:Nat) (e:Dn×Value) (i:Nat) (u:Value),l[j]?=some e→(e.1.cells e.2)[i]?=some u→(qgt l)[j * 7+i]?=some u
 | [],_,_,_,_,h,_=>by simp at h
 | x :: l,0,e,i,u,h,hu=>by
  simp at h
  subst h
  have hi:i < 7:=by have:=(Array.getElem?_eq_some_iff.1 hu).1;simpa [Dn.cells] using this
  rw[qgt,List.getElem?_append_left (by simp[Dn.cells];omega)]
  simpa using hu
 | x :: l,j+1,e,i,u,h,hu=>by
  rw[qgt,List.getElem?_append_right (by simp[Dn.cells];omega)]
  have:(x.1.cells x.2).toList.length=7:=by simp[Dn.cells]
  rw[this,show (j+1) * 7+i - 7=j * 7+i by omega]
  exact dflat_at l j e i u (by simpa using h) hu
def OwnD (W:World) (base:Nat) (v:Value) (l:List (Dn×Value)):Prop:=W.ownsRow base 91 7 v l.length (qgt l)
theorem do_info:(Tryz.prog.info? 91).map (fun i=>(i.zero,i.size,i.bytes))=some (some (.agg #[.int .i64 0,.int .i32 0,.int .i64 0,.int .i64 0,.slice none 0 0,.int .i64 0,.string ⟨#[]⟩]),7,80):=by kernel_rfl
theorem OwnD.spell {W:World} {base:Nat} {v:Value} {l:List (Dn×Value)} (h:OwnD W base v l):∃ A c,v=.slice A l.length c:=by
 rcases h.2 with ⟨rfl,h0⟩ | ⟨g,cap,cur,rfl,_⟩
 ·exact⟨_,_,by rw[h0]⟩
 ·exact⟨_,_,rfl⟩
theorem OwnD.kept {W W':World} {base:Nat} {v:Value} {l:List (Dn×Value)} (h:OwnD W base v l) (hb:Below W.heap.size W W'):OwnD W' base v l :=
 World.ownsRow.kept h ⟨hb.os,hb.tape,hb.output,hb.size,fun k hk _=>hb.block k hk⟩ (row:=none) (by cases v.ownBlock <;> simp)
theorem OwnD.not_box {W:World} {base b:Nat} {t:TypeId} {cs:Array Value} {v:Value} {l:List (Dn×Value)} (h:OwnD W base v l) (hb:Box W b t cs) (ht:t≠91):some b≠v.ownBlock:=by
 rcases h.2 with ⟨rfl,_⟩ | ⟨g,cap,cur,rfl,_,hg,_⟩
 ·simp[Value.ownBlock]
 ·simp only[Value.ownBlock,ne_eq,Option.some.injEq]
  rintro rfl
  have hb':W.heap[b]?=some (.cells cs t (0,0)):=hb
  rw[hg] at hb'
  cases hb'
  exact ht rfl
theorem OwnD.set {W:World} {base b i:Nat} {t:TypeId} {cs:Array Value} {v:Value} {l:List (Dn×Value)} (h:OwnD W base v l) (hb:Box W b t cs) (ht:t≠91) (u:Value):OwnD (W.setCell ⟨b,i,none⟩ u) base v l :=
 World.ownsRow.kept h (row:=some b) ⟨rfl,rfl,rfl,by simp[World.setCell],fun k _ hk=>Below.heap_setCell _ _ _ _ (fun e=>hk (by rw[e]))⟩ (.inr (h.not_box hb ht).symm)
theorem OwnD.not_int {W:World} {base:Nat} {v:Value} {l:List (Dn×Value)} (h:OwnD W base v l):∀ g cur,v.ownBlock=some g→W.heap[g]?=some (.cells cur 3 (0,0))→False:=by
 intro g cur e hg
 rcases h.2 with ⟨rfl,_⟩ | ⟨g',cap,cur',rfl,_,hg',_⟩
 ·cases e
 ·simp only[Value.ownBlock,Option.some.injEq] at e
  subst e
  rw[hg] at hg'
  cases hg'
theorem OwnD.nil (W:World) (base:Nat):OwnD W base (.slice none 0 0) []:=⟨rfl,.inl ⟨rfl,rfl⟩⟩
theorem OwnD.drow {W:World} {base lo hi:Nat} {v:Value} {l:List (Dn×Value)} (h:OwnD W base v l) (hn:∀ e∈l,NumO W lo hi e.2 e.1.params∧e.1.params.length≤16):DRow W v l:=by
 have h':W.ownsRow base 91 7 v l.length (qgt l):=h
 rcases h.2 with ⟨rfl,h0⟩ | ⟨g,cap,cur,rfl,_,hg,_⟩
 ·exact⟨_,_,by rw[h0],fun hl=>absurd (List.length_eq_zero_iff.1 h0) hl⟩
 ·refine⟨_,_,rfl,fun _=>⟨g,rfl,(Array.getElem?_eq_some_iff.1 hg).1,fun j e hj=>?_⟩⟩
  obtain⟨hj1,hj2⟩:=List.getElem?_eq_some_iff.1 hj
  obtain⟨n1,n2⟩:=hn e (by rw[← hj2];exact List.getElem_mem _)
  refine⟨fun i u hu=>?_,n1.irow,by omega⟩
  have hi:i < 7:=by have:=(Array.getElem?_eq_some_iff.1 hu).1;simpa [Dn.cells] using this
  rw[h'.cellAt (j * 7+i) (by omega)]
  exact dflat_at l j e i u hj hu
theorem qmf {ops : Array Oper} {o : Oper} {a : Act} {w : World} {K : Act → World → Prop} {Q : Exit → Act → World → Prop} {E : Prop} (hg : o.guard = none) (s x : Operand)
  (ho:o.op=.call { callee:=.builtin .append,args:=#[s,x],argTypes:=#[82,82] }) (base:Nat) (v:Value) (l:List (Dn×Value)) (hs:a.eval s=v) (hown:OwnD w base v l)
  (d:Dn) (dv:Value) (hdv:∃ A n c,dv=.slice A n c) (ad:Addr) (c:Nat) (hx:a.eval x=.slice (some ad) 1 c) (hc:∀ j u,(d.cells dv).toList[j]?=some u→w.cell? (ad.add j)=some u) (hb:l.length≤500000) (hbase:base≤w.heap.size)
  (h:∀ v' w',OwnD w' base v' (l ++ [(d,dv)])→w.grownBy w' v.ownBlock→K (a.put o.dst v') w'):if Region.wanted o (yielded ops a.tmps)=true then Oper.wp Tryz.prog o a w K Q else E:=by
 have hw:Region.wanted o (yielded ops a.tmps)=true:=by simp[Region.wanted,hg]
 rw[if_pos hw]
 obtain⟨i0,hi,hz0,hz1,hz2⟩:=info_parts do_info
 have h1:∀ u∈(d.cells dv).toList,u.oneCell'=true:=by
  obtain⟨A,n,c,rfl⟩:=hdv
  intro u hu
  simp only[Dn.cells,List.mem_cons,List.mem_nil_iff,or_false] at hu
  rcases hu with rfl | rfl | rfl | rfl | rfl | rfl | rfl <;> rfl
 refine wp_append_own w s x 82 ho base 91 i0 _ 7 80 Tryz.underlying82 hi hz0 hz1 hz2 rfl (by decide) v l.length (qgt l) hs hown ad 1 c (d.cells dv).toList hx (by simp[Dn.cells]) hc h1 (by unfold maxLen;omega) (by omega) hbase ?_
 intro v' w' h2 h3 _
 refine h v' w' ?_ h3
 unfold OwnD
 rw[List.length_append,qjr]
 simpa [qgt] using h2
def qba (R:Nat) (p:Pa) (v dv:Value):Array Value :=
 #[.int .i64 p.st,.int .i64 p.priv,v,.int .i64 p.inter,.string p.osc,.string p.pend,dv,
  .func (.func 136) #[.pointer (some ⟨R,0,none⟩)] #[],.func (.func 137) #[.pointer (some ⟨R,0,none⟩)] #[],
  .func (.func 138) #[.pointer (some ⟨R,0,none⟩)] #[],.func (.func 139) #[.pointer (some ⟨R,0,none⟩)] #[],
  .func (.func 140) #[.pointer (some ⟨R,0,none⟩)] #[],.func (.func 141) #[.pointer (some ⟨R,0,none⟩)] #[],
  .func (.func 142) #[.pointer (some ⟨R,0,none⟩)] #[],.func (.func 143) #[.pointer (some ⟨R,0,none⟩)] #[],
  .func (.func 144) #[.pointer (some ⟨R,0,none⟩)] #[]]
def RdX (B R hi:Nat) (W:World) (p:Pa) (v:Value) (lv:List (Dn×Value)):Prop :=
 ∃ dv,B≤R∧Box W R 126 (qba R p v dv)∧OwnD W B dv lv∧∀ e∈lv,NumO W B hi e.2 e.1.params∧e.1.params.length≤16
def Told (B:Nat) (W W':World):Prop:=Below B W W'∧∀ k,Kept k W W'
theorem tell_end {B R hi : Nat} {W W2 w7 : World} {p : Pa} {v dv v' : Value} {lv : List (Dn × Value)} {d : Dn} {u : Value} (hBR : B ≤ R) (hbox : Box W R 126 (qba R p v dv)) (hown : OwnD W B dv lv)
  (hnum:∀ e∈lv,NumO W B hi e.2 e.1.params∧e.1.params.length≤16) (hd:NumO W B hi u d.params) (hl:d.params.length≤16) (hB:B≤W.heap.size) (h2:Below W.heap.size W W2) (hown7:OwnD w7 B v' (lv ++ [(d,u)])) (hgrow:W2.grownBy w7 dv.ownBlock) :
  RdX B R hi (w7.setCell ⟨R,6,none⟩ v') p v (lv ++ [(d,u)])∧Told B W (w7.setCell ⟨R,6,none⟩ v'):=by
 have box2:=hbox.below h2 hbox.lt
 have own2:=hown.kept h2
 have box7:=box2.grown hgrow (own2.not_box box2 (by decide))
 have kp:∀ k,Kept k W (w7.setCell ⟨R,6,none⟩ v'):=fun k=>((Kept.of_below k h2).trans (Kept.grown k hgrow (fun g cur e hg=>(own2.not_int g cur e hg).elim))).trans (Kept.set k box7 (by decide) _)
 refine⟨⟨v',hBR,box7.set v',hown7.set box7 (by decide) _,fun e he=>?_⟩,?_,kp⟩
 ·rw[List.mem_append,List.mem_singleton] at he
  rcases he with he | rfl
  ·exact⟨(hnum e he).1.kept (kp hi),(hnum e he).2⟩
  ·exact⟨hd.kept (kp hi),hl⟩
 ·exact((h2.mono hB).grown hgrow (Nat.le_trans hB h2.size) (fun k e=>(World.ownsRow.lt own2 k e).1)).setCell hBR _
theorem tell_any (B R hi : Nat) (W : World) (p : Pa) (v : Value) (lv : List (Dn × Value)) (d : Dn) (u : Value) (h : RdX B R hi W p v lv) (hd : NumO W B hi u d.params) (hl : d.params.length ≤ 16) (hn : lv.length ≤ 500000) (hB : B ≤ W.heap.size) :
  Calls Tryz.prog 194 #[.pointer (some ⟨R,0,none⟩),.agg (d.cells u)] W fun e w'=>e=.returned (.tuple #[])∧RdX B R hi w' p v (lv ++ [(d,u)])∧Told B W w':=by
 obtain⟨dv,hBR,hbox,hown,hnum⟩:=h
 have hR:=hbox.lt
 have c6:W.cell? ⟨R,6,none⟩=some dv:=hbox.cell 6
 have f6:W.frozen? ⟨R,6,none⟩=false:=hbox.free 6
 have hsp:∃ A n c,u=.slice A n c:=by obtain⟨A,c,e⟩:=hd.spell;exact⟨A,_,c,e⟩
 obtain⟨A,n,c,rfl⟩:=hsp
 obtain⟨dA,dc,rfl⟩:=hown.spell
 have HB:=hid hbox
 have HN:=hid hnum
 have HO:=hid hown
 have HD:=hid hd
 clear hbox hnum hown hd
 have HL:=hid hn
 have hz:W.heap.size < W.heap.size+1:=by omega
 clear hn
 obtain⟨d1,d2,d3,d4,d5,d6,d7⟩:=d
 have hcell:∀ (W0:World) b,b=W0.heap.size→∀ j u,(Dn.cells ⟨d1,d2,d3,d4,d5,d6,d7⟩ (.slice A n c)).toList[j]?=some u→(W0.alloc (.cells #[.int .i64 d1,.int .i32 d2,.int .i64 d3,.int .i64 d4,.slice A n c,.int .i64 d6,.string d7] 91)).drew.cell? ((⟨b,0,none⟩:Addr).add j)=some u:=by
  rintro W0 _ rfl j u hu
  exact lit_at (Box.new W0 91 _).drew j u hu
 have HC:=hid hcell
 clear hcell
 unfold Dn.cells
 simp only
 go_enter Tryz.func194,Tryz.ntmps194
 go_wp2
 first | go_region_law (refine qmf rfl _ _ rfl B _ lv rfl ((HO.out.kept (qa _ _)).kept (qa _ _).drew) ⟨d1,d2,d3,d4,d5,d6,d7⟩ (.slice A n c) ⟨_,_,_,rfl⟩ ⟨_,0,none⟩ 1 rfl (HC.out _ _ (by simp)) HL.out (by simp;omega) ?_;intro v' w7 hown7 hgrow7;have b7:=((HB.out.alloc _).alloc _).drew.grown hgrow7 (HO.out.not_box HB.out (by decide));have g6:w7.cell? ⟨R,6,none⟩=some (.slice dA lv.length dc):=b7.cell 6;have k6:w7.frozen? ⟨R,6,none⟩=false:=b7.free 6;obtain⟨A',c',rfl⟩:=hown7.spell;rw[List.length_append,List.length_singleton] at hown7) | fail
 all_goals
  go_end0
  exact⟨rfl,tell_end hBR HB.out HO.out HN.out HD.out hl hB (((qa _ _).alloc (by simp) _).drew) hown7 hgrow7⟩
set_option maxHeartbeats 1000000
set_option maxRecDepth 100000
def Rd (B R:Nat) (W:World) (p:Pa) (l:List Dn):Prop :=
 ∃ v lv P,lv.map Prod.fst=l∧B≤P∧P≤W.heap.size∧RdX B R P W p v lv∧NumO W P W.heap.size v p.params
def qae (B R:Nat) (W:World) (p:Pa) (l:List Dn) (e:Ending) (w':World):Prop:=e=.returned (.tuple #[])∧Rd B R w' p l∧Below B W w'
theorem Rd.base {B R:Nat} {W:World} {p:Pa} {l:List Dn} (h:Rd B R W p l):B≤W.heap.size:=by
 obtain⟨_,_,_,_,h1,h2,_⟩:=h
 omega
theorem Rd.lt {B R:Nat} {W:World} {p:Pa} {l:List Dn} (h:Rd B R W p l):R < W.heap.size:=by
 obtain⟨_,_,_,_,_,_,⟨_,_,hb,_⟩,_⟩:=h
 exact hb.lt
theorem RdX.mono {B R hi hi':Nat} {W:World} {p:Pa} {v:Value} {lv:List (Dn×Value)} (h:RdX B R hi W p v lv) (hh:hi≤hi'):RdX B R hi' W p v lv:=by
 obtain⟨dv,h1,h2,h3,h4⟩:=h
 exact⟨dv,h1,h2,h3,fun e he=>⟨(h4 e he).1.mono (Nat.le_refl _) hh,(h4 e he).2⟩⟩
theorem qli {B R : Nat} {W : World} {p : Pa} {l : List Dn} (h : Rd B R W p l) (hn : l.length ≤ 500000) (d : Dn) (hd : d.params = []) :
  Calls Tryz.prog 194 #[.pointer (some ⟨R,0,none⟩),.agg (d.cells (.slice none 0 0))] W (qae B R W p (l ++ [d])):=by
 have hB:=h.base
 obtain⟨v,lv,P,rfl,h1,h2,hx,hv⟩:=h
 rw[List.length_map] at hn
 refine(tell_any B R P W p v lv d (.slice none 0 0) hx (by rw[hd];exact NumO.nil _ _ _) (by rw[hd];exact Nat.zero_le _) hn hB).mono ?_
 rintro e w' ⟨he,hx',hb,hk⟩
 exact⟨he,⟨v,_,P,by rw[List.map_append];rfl,h1,Nat.le_trans h2 hb.size,hx',(hv.kept (hk _)).mono (Nat.le_refl _) hb.size⟩,hb⟩
theorem qev {B R : Nat} {W : World} {p : Pa} {l : List Dn} (h : Rd B R W p l) (hn : l.length ≤ 500000) (b : Int) (hb : 0 ≤ b ∧ b ≤ 255) :
  Calls Tryz.prog 146 #[.pointer (some ⟨R,0,none⟩),.int .u8 b] W (qae B R W p (l ++ [qeg b])):=by
 have ht:=qli h hn (qeg b) rfl
 unfold Dn.cells qeg nilB at ht
 simp only at ht
 have HT:=hid ht
 clear ht
 obtain⟨b0,b1⟩:=hb
 go_enter Tryz.func146,Tryz.ntmps146
 go_wp2_with (go_at_call 194;refine HT.out.mono ?_;rintro e w' ⟨rfl,h1,h2⟩;have H1:=hid h1;clear h1)
 go_end0
 exact⟨rfl,H1.out,h2⟩
theorem qin {B R : Nat} {W : World} {p : Pa} {l : List Dn} (h : Rd B R W p l) (hn : l.length ≤ 500000) (r : Int) :
  Calls Tryz.prog 189 #[.pointer (some ⟨R,0,none⟩),.int .i32 r] W (qae B R W p (l ++ [qb8 r])):=by
 have ht:=qli h hn (qb8 r) rfl
 unfold Dn.cells qb8 nilB at ht
 simp only at ht
 have HT:=hid ht
 clear ht
 go_enter Tryz.func189,Tryz.ntmps189
 go_wp2_with (go_at_call 194;refine HT.out.mono ?_;rintro e w' ⟨rfl,h1,h2⟩;have H1:=hid h1;clear h1)
 go_end0
 exact⟨rfl,H1.out,h2⟩
theorem Rd.cells {B R:Nat} {W:World} {p:Pa} {l:List Dn} (h:Rd B R W p l):∃ A c dA n dc,Box W R 126 (qba R p (.slice A p.params.length c) (.slice dA n dc))∧IRow W (.slice A p.params.length c) p.params:=by
 obtain⟨v,lv,P,rfl,h1,h2,⟨dv,_,hb,ho,_⟩,hv⟩:=h
 obtain⟨A,c,rfl⟩:=hv.spell
 obtain⟨dA,dc,rfl⟩:=ho.spell
 exact⟨A,c,dA,_,dc,hb,hv.irow⟩
theorem qk1 {B R : Nat} {W : World} {p : Pa} {l : List Dn} (h : Rd B R W p l) (hn : l.length ≤ 500000) :
  Calls Tryz.prog 148 #[.pointer (some ⟨R,0,none⟩)] W (qae B R W p (l ++ [dOsc p.osc])):=by
 obtain⟨A,c,dA,n,dc,hbox,_⟩:=h.cells
 have c4:W.cell? ⟨R,4,none⟩=some (.string p.osc):=hbox.cell 4
 have ht:=qli h hn (dOsc p.osc) rfl
 unfold Dn.cells dOsc at ht
 simp only at ht
 have HT:=hid ht
 clear ht hbox
 go_enter Tryz.func148,Tryz.ntmps148
 go_wp2_with (go_at_call 194;refine HT.out.mono ?_;rintro e w' ⟨rfl,h1,h2⟩;have H1:=hid h1;clear h1)
 go_end0
 exact⟨rfl,H1.out,h2⟩
theorem qad {W W1:World} {b i:Nat} (h:W.grownBy W1 (some b)) (u:Value):W.grownBy (W1.setCell ⟨b,i,none⟩ u) (some b) :=
 h.trans ⟨rfl,rfl,rfl,by simp[World.setCell],fun k _ hk=>Below.heap_setCell _ _ _ _ (fun e=>hk (by rw[e]))⟩
theorem rd_to {B R : Nat} {W : World} {p : Pa} {v dv : Value} (s : Int) (h : Box W R 126 (qba R p v dv)) (hBR : B ≤ R) : ∃ W', W' = (((((W.setCell ⟨R, 0, none⟩ (.int .i64 s)).setCell ⟨R, 1, none⟩ (.int .i64 0)).setCell ⟨R, 2, none⟩ (.slice none 0 0)).setCell ⟨R, 3, none⟩ (.int .i64 0)).setCell ⟨R, 4, none⟩ (.string ⟨#[]⟩)).setCell ⟨R, 5, none⟩ (.string ⟨#[]⟩) ∧
  Box W' R 126 (qba R (.to s) (.slice none 0 0) dv)∧W.grownBy W' (some R)∧Below B W W':=by
 refine⟨_,rfl,?_,qad (qad (qad (qad (qad (qad (World.grownBy.refl W _) _) _) _) _) _) _,?_⟩
 ·obtain⟨p1,p2,p3,p4,p5,p6⟩:=p
  have h1:Box (W.setCell ⟨R,0,none⟩ (.int .i64 s)) R 126 (qba R ⟨s,p2,p3,p4,p5,p6⟩ v dv):=h.set _
  have h2:Box (_) R 126 (qba R ⟨s,0,p3,p4,p5,p6⟩ v dv):=h1.set (i:=1) (.int .i64 0)
  have h3:Box (_) R 126 (qba R ⟨s,0,[],p4,p5,p6⟩ (.slice none 0 0) dv):=h2.set (i:=2) (.slice none 0 0)
  have h4:Box (_) R 126 (qba R ⟨s,0,[],0,p5,p6⟩ (.slice none 0 0) dv):=h3.set (i:=3) (.int .i64 0)
  have h5:Box (_) R 126 (qba R ⟨s,0,[],0,nilB,p6⟩ (.slice none 0 0) dv):=h4.set (i:=4) (.string nilB)
  exact h5.set (i:=5) (.string nilB)
 ·exact((((((Below.refl B W).setCell hBR _).setCell hBR _).setCell hBR _).setCell hBR _).setCell hBR _).setCell hBR _
theorem OwnD.other {W W':World} {base b:Nat} {t:TypeId} {cs:Array Value} {v:Value} {l:List (Dn×Value)} (h:OwnD W base v l) (hb:Box W b t cs) (ht:t≠91) (hg:W.grownBy W' (some b)):OwnD W' base v l :=
 World.ownsRow.kept h hg (.inr (h.not_box hb ht).symm)
theorem Kept.other {W W':World} {b:Nat} {t:TypeId} {cs:Array Value} (hi:Nat) (hb:Box W b t cs) (ht:t≠3) (hg:W.grownBy W' (some b)):Kept hi W W':=by
 refine Kept.grown hi hg (fun g cur e hc=>?_)
 cases e
 have hb':W.heap[b]?=some (.cells cs t (0,0)):=hb
 rw[hc] at hb'
 cases hb'
 exact absurd rfl ht
theorem RdX.turned {B R hi : Nat} {W W' : World} {p p' : Pa} {v v' : Value} {lv : List (Dn × Value)} {dv : Value} (hBR : B ≤ R) (hbox : Box W R 126 (qba R p v dv)) (hown : OwnD W B dv lv) (hnum : ∀ e ∈ lv, NumO W B hi e.2 e.1.params ∧ e.1.params.length ≤ 16)
  (hb':Box W' R 126 (qba R p' v' dv)) (hg:W.grownBy W' (some R)):RdX B R hi W' p' v' lv :=
 ⟨dv,hBR,hb',hown.other hbox (by decide) hg,fun e he=>⟨(hnum e he).1.kept (Kept.other hi hbox (by decide) hg),(hnum e he).2⟩⟩
theorem enter_any {B R hi : Nat} {W : World} {p : Pa} {v : Value} {lv : List (Dn × Value)} (h : RdX B R hi W p v lv) (hh : hi ≤ W.heap.size) (hB : B ≤ hi) (s : Int) :
  Calls Tryz.prog 147 #[.pointer (some ⟨R,0,none⟩),.int .i64 s] W (qae B R W (.to s) (lv.map Prod.fst)):=by
 obtain⟨dv,hBR,hbox,hown,hnum⟩:=h
 obtain⟨W',hW',hb',hg,hbel⟩:=rd_to s hbox hBR
 have hx:RdX B R hi W' (.to s) (.slice none 0 0) lv:=RdX.turned hBR hbox hown hnum hb' hg
 have hrd:Rd B R W' (.to s) (lv.map Prod.fst):=⟨_,lv,hi,rfl,hB,Nat.le_trans hh hg.size,hx,NumO.nil _ _ _⟩
 have c0:W.cell? ⟨R,0,none⟩=some (.int .i64 p.st):=hbox.cell 0
 have c1:W.cell? ⟨R,1,none⟩=some (.int .i64 p.priv):=hbox.cell 1
 have c2:W.cell? ⟨R,2,none⟩=some v:=hbox.cell 2
 have c3:W.cell? ⟨R,3,none⟩=some (.int .i64 p.inter):=hbox.cell 3
 have c4:W.cell? ⟨R,4,none⟩=some (.string p.osc):=hbox.cell 4
 have c5:W.cell? ⟨R,5,none⟩=some (.string p.pend):=hbox.cell 5
 have f0:=hbox.free 0
 have f1:=hbox.free 1
 have f2:=hbox.free 2
 have f3:=hbox.free 3
 have f4:=hbox.free 4
 have f5:=hbox.free 5
 have HR:=hid hrd
 have HW:=hid hW'
 have HL:=hid hbel
 clear hbox hown hnum hW' hb' hg hbel hx hrd
 go_enter Tryz.func147,Tryz.ntmps147
 go_wp2
 go_end0
 have hw:=HW.out
 subst hw
 exact⟨rfl,HR.out,HL.out⟩
theorem qao {B R : Nat} {W : World} {p : Pa} {l : List Dn} (h : Rd B R W p l) (s : Int) :
  Calls Tryz.prog 147 #[.pointer (some ⟨R,0,none⟩),.int .i64 s] W (qae B R W (.to s) l):=by
 obtain⟨v,lv,P,rfl,h1,h2,hx,hv⟩:=h
 exact enter_any hx h2 h1 s
theorem qi0 {B R : Nat} {W : World} {p : Pa} {l : List Dn} (h : Rd B R W p l) (hn : l.length ≤ 500000) (b : Int) (hb : 0 ≤ b ∧ b ≤ 255) :
  Calls Tryz.prog 190 #[.pointer (some ⟨R,0,none⟩),.int .u8 b] W (qae B R W (.to 0) (l ++ [dEsc p.inter b])):=by
 obtain⟨A,c,dA,n,dc,hbox,_⟩:=h.cells
 have c3:W.cell? ⟨R,3,none⟩=some (.int .i64 p.inter):=hbox.cell 3
 have ht:=qli h hn (dEsc p.inter b) rfl
 unfold Dn.cells dEsc nilB at ht
 simp only at ht
 have HT:=hid ht
 clear ht hbox
 obtain⟨b0,b1⟩:=hb
 go_enter Tryz.func190,Tryz.ntmps190
 go_wp2_with (first | (go_at_call 194;refine HT.out.mono ?_;rintro e w' ⟨rfl,h1,h2⟩;have HE:=hid (qao h1 0);clear h1) | (go_at_call 147;refine HE.out.mono ?_;rintro e w3 ⟨rfl,h3,h4⟩;have H3:=hid h3;clear h3))
 go_end0
 exact⟨rfl,H3.out,h2.trans h4⟩
theorem qme {B R : Nat} {W : World} {p : Pa} {l : List Dn} (h : Rd B R W p l) (hn : l.length ≤ 500000) (hp : p.params.length ≤ 16) (b : Int) (hb : 0 ≤ b ∧ b ≤ 255) :
  Calls Tryz.prog 193 #[.pointer (some ⟨R,0,none⟩),.int .u8 b] W (qae B R W (.to 0) (l ++ [dCsi p b])):=by
 have hB:=h.base
 obtain⟨v,lv,P,rfl,h1,h2,hx,hv⟩:=h
 rw[List.length_map] at hn
 have ht:=tell_any B R W.heap.size W.drew p v lv (dCsi p b) v (show RdX B R W.heap.size W.drew p v lv from hx.mono h2) (show NumO W.drew B W.heap.size v p.params from hv.mono h1 (Nat.le_refl _)) hp hn hB
 obtain⟨dv,_,hbox,hown,_⟩:=hx
 obtain⟨A,c,rfl⟩:=hv.spell
 have c1:W.cell? ⟨R,1,none⟩=some (.int .i64 p.priv):=hbox.cell 1
 have c2:W.cell? ⟨R,2,none⟩=some (.slice A p.params.length c):=hbox.cell 2
 have c3:W.cell? ⟨R,3,none⟩=some (.int .i64 p.inter):=hbox.cell 3
 have hle:∀ w':World,Below B W.drew w'→W.heap.size≤w'.heap.size:=fun w' hb=>hb.size
 unfold Dn.cells dCsi nilB at ht
 simp only at ht
 have HT:=hid ht
 have HL:=hid hle
 clear ht hbox hown hv hle hn hp
 obtain⟨b0,b1⟩:=hb
 go_enter Tryz.func193,Tryz.ntmps193
 go_wp2_with fail
 go_still_tail 19,(by kernel_rfl)
 change wpList _ _ _ _ _ W.drew
 go_wp2_with (first | (go_at_call 194;refine HT.out.mono ?_;rintro e w' ⟨rfl,h1,h2,_⟩;have HE:=hid (enter_any h1 (HL.out _ h2) hB 0);clear h1) | (go_at_call 147;refine HE.out.mono ?_;rintro e w3 ⟨rfl,h3,h4⟩;have H3:=hid h3;clear h3))
 go_end0
 exact⟨rfl,by have:=H3.out;rw[List.map_append] at this;exact this,(Below.refl B W).drew.trans (h2.trans h4)⟩
end Go.Proofs.YtpdaekmbpafenaaGreatDoor
