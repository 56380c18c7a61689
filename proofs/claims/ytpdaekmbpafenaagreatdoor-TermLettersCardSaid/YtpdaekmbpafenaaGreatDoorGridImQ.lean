
import Derived.Test.YtpdaekmbpafenaaGreatDoorGridRbQ
import Derived.Lib.Overlaps
import Derived.Lib.AppendZerosOnto
import Derived.Laws.IdiomCopy
import Derived.Laws.Externs
import Derived.Deep.RegionLaw
namespace Go.Proofs.YtpdaekmbpafenaaGreatDoor
set_option maxHeartbeats 1000000
set_option maxRecDepth 100000
open Go.RowKit
def wrA:Array Value→Nat→List Value→Array Value
 | cur,_,[]=>cur
 | cur,o,v :: r=>wrA (cur.setIfInBounds o v) (o+1) r
theorem qet:∀ (vs:List Value) (cur:Array Value) (o:Nat),(wrA cur o vs).size=cur.size
 | [],_,_=>rfl
 | v :: r,cur,o=>by rw[wrA,qet r,Array.size_setIfInBounds]
theorem wrA_at:∀ (vs:List Value) (cur:Array Value) (o j:Nat),o+vs.length≤cur.size→(wrA cur o vs)[j]?=if o≤j∧j < o+vs.length then vs[j - o]? else cur[j]?
 | [],cur,o,j,_=>by rw[wrA,if_neg (by rw[List.length_nil];omega)]
 | v :: r,cur,o,j,h=>by
  rw[List.length_cons] at h
  rw[wrA,wrA_at r _ _ _ (by rw[Array.size_setIfInBounds];omega)]
  by_cases h1:o+1≤j∧j < o+1+r.length
  ·rw[if_pos h1,if_pos (by rw[List.length_cons];omega),show j - o=(j - (o+1))+1 by omega,List.getElem?_cons_succ]
  ·rw[if_neg h1]
   by_cases h2:j=o
   ·subst h2
    rw[Array.getElem?_setIfInBounds,if_pos rfl,if_pos (by omega),if_pos (by rw[List.length_cons];omega),Nat.sub_self]
    rfl
   ·rw[Array.getElem?_setIfInBounds,if_neg (Ne.symm h2),if_neg (by rw[List.length_cons];omega)]
theorem Box.wr:∀ (vs:List Value) {w:World} {g:Nat} {t:TypeId} {cur:Array Value} (o:Nat),Box w g t cur→Box (w.setCells g o vs) g t (wrA cur o vs)
 | [],_,_,_,_,_,h=>h
 | v :: r,_,_,_,_,o,h=>Box.wr r (o+1) (h.set (i:=o) v)
theorem only_set (w:World) (g o:Nat) (v:Value):Only g w (w.setCell ⟨g,o,none⟩ v) :=
 ⟨rfl,rfl,rfl,by simp[World.setCell],fun k _ hk=>Below.heap_setCell _ _ _ _ (fun e=>hk (by rw[e]))⟩
theorem only_wr:∀ (vs:List Value) (w:World) (g o:Nat),Only g w (w.setCells g o vs)
 | [],w,g,_=>Only.refl g w
 | v :: r,w,g,o=>(only_set w g o v).trans (only_wr r _ g (o+1))
theorem qi7 {L:List (Ln×Value)} {i:Nat} (hi:i≤L.length):qr (L.take i)=(qr L).take (i * 2):=by
 have h:=qck (L.take i) (L.drop i)
 rw[List.take_append_drop] at h
 rw[h,List.take_left' (by rw[qaa,List.length_take];omega)]
theorem qg1 {L:List (Ln×Value)} {i:Nat} (hi:i≤L.length):qr (L.drop i)=(qr L).drop (i * 2):=by
 have h:=qck (L.take i) (L.drop i)
 rw[List.take_append_drop] at h
 rw[h,List.drop_left' (by rw[qaa,List.length_take];omega)]
theorem fin_row {L V : List (Ln × Value)} {i n m : Nat} (C F : Array Value) (hL : L.length = n) (hV : V.length = m) (hi : i ≤ n) (hC : (n + m) * 2 ≤ C.size)
  (hF:F=wrA (wrA C ((i+m) * 2) (qr (L.drop i))) (i * 2) (qr V)∨F=wrA (wrA C (i * 2) (qr V)) ((i+m) * 2) (qr (L.drop i))) (h0:∀ j,j < i * 2→C[j]?=(qr L)[j]?) :
  F.toList.take ((n+m) * 2)=qr (L.take i ++ V ++ L.drop i):=by
 have l1:(qr (L.drop i)).length=(n - i) * 2:=by rw[qaa,List.length_drop,hL]
 have l2:(qr V).length=m * 2:=by rw[qaa,hV]
 have l0:(qr (L.take i)).length=i * 2:=by rw[qaa,List.length_take,hL];omega
 have hat:∀ j,j < (n+m) * 2→F[j]?=if j < i * 2 then (qr L)[j]? else if j < (i+m) * 2 then (qr V)[j - i * 2]? else (qr (L.drop i))[j - (i+m) * 2]?:=by
  intro j hj
  rcases hF with rfl | rfl
  ·rw[wrA_at _ _ _ _ (by rw[qet];omega),wrA_at _ _ _ _ (by omega),l1,l2]
   by_cases a:j < i * 2
   ·rw[if_neg (by omega),if_neg (by omega),if_pos a];exact h0 j a
   ·by_cases b:j < (i+m) * 2
    ·rw[if_pos (by omega),if_neg a,if_pos b]
    ·rw[if_neg (by omega),if_pos (by omega),if_neg a,if_neg b]
  ·rw[wrA_at _ _ _ _ (by rw[qet];omega),wrA_at _ _ _ _ (by omega),l1,l2]
   by_cases a:j < i * 2
   ·rw[if_neg (by omega),if_neg (by omega),if_pos a];exact h0 j a
   ·by_cases b:j < (i+m) * 2
    ·rw[if_neg (by omega),if_pos (by omega),if_neg a,if_pos b]
    ·rw[if_pos (by omega),if_neg a,if_neg b]
 apply List.ext_getElem?
 intro j
 rw[List.getElem?_take,qck,qck]
 by_cases hj:j < (n+m) * 2
 ·rw[if_pos hj,Array.getElem?_toList,hat j hj]
  by_cases a:j < i * 2
  ·rw[if_pos a,List.getElem?_append_left (by rw[List.length_append,l0,l2];omega),List.getElem?_append_left (by omega),qi7 (by omega),List.getElem?_take,if_pos a]
  ·rw[if_neg a]
   by_cases b:j < (i+m) * 2
   ·rw[if_pos b,List.getElem?_append_left (by rw[List.length_append,l0,l2];omega),List.getElem?_append_right (by omega),l0]
   ·rw[if_neg b,List.getElem?_append_right (by rw[List.length_append,l0,l2];omega),List.length_append,l0,l2,show i * 2+m * 2=(i+m) * 2 by omega]
 ·rw[if_neg hj,List.getElem?_eq_none (by rw[List.length_append,List.length_append,l0,l1,l2];omega)]
theorem own_fin {w : World} {g cap base k : Nat} {F : Array Value} {R : List (Ln × Value)} (hb : Box w g 55 F) (hs : F.size = cap * 2) (hR : R.length = k) (hkc : k ≤ cap) (hcm : cap ≤ maxLen) (hg : base ≤ g) (ht : F.toList.take (k * 2) = qr R) :
  OwnL w base (.slice (some ⟨g,0,none⟩) k cap) R:=by
 subst hR
 exact⟨qaa _,.inr ⟨g,cap,F,rfl,hg,hb,hkc,hcm,hs,ht⟩⟩
theorem qfy (w : World) (ty : TypeId) (g o dLen dCap : Nat) (a : Addr) (sLen sCap m : Nat) (vs : List Value) {cur : Array Value} (hb : Box w g 55 cur) (hn : m = Nat.min sLen dLen) (hv : vs.length = m * 2) (ho : o + m * 2 ≤ cur.size)
  (hsrc:∀ j u,vs[j]?=some u→w.cell? (a.add j)=some u) (h1:∀ u∈vs,u.oneCell'=true) :
  (Builtin.copy_ #[22,22] ty #[.slice (some ⟨g,o,none⟩) dLen dCap,.slice (some a) sLen sCap]).run Tryz.prog w=.ok (goInt m) (w.setCells g o vs):=by
 obtain⟨i0,hi,hz0,hz1,hz2⟩:=info_parts qik
 have hl:=run_loadCells_list (P:=Tryz.prog) w a vs hsrc
 rw[hv] at hl
 have hc:∀ j,j < vs.length→(w.cell? ⟨g,o+j,none⟩).isSome=true:=fun j hj=>by rw[hb.cell,Array.getElem?_eq_getElem (by omega)];rfl
 have hst:=run_storeCells_cells (P:=Tryz.prog) g o vs 0 w (by simpa using hc) (by simpa using fun j _=>hb.free _) h1
 simp only[Nat.add_zero] at hst
 have hn':Nat.min sLen dLen=m:=hn.symm
 simp[Builtin.copy_,run_underlying Tryz.underlying22,Builtin.lenOf,Builtin.firstCells,hn',hl,hst]
theorem qht {ops : Array Oper} {rest : List Oper} {o : Oper} {a : Act} {w : World} {Q : Exit → Act → World → Prop} (hw : Region.wanted o (yielded ops a.tmps) = true) (d s : Operand)
  (ho:o.op=.call { callee:=.builtin .copy,args:=#[d,s],argTypes:=#[22,22] }) (v u:Value) (hd:a.eval d=v) (hs:a.eval s=u) {v':Value} {w':World}
  (hr:∀ ty,(Builtin.copy_ #[22,22] ty #[v,u]).run Tryz.prog w=.ok v' w') (h:wpList Tryz.prog ops Q rest (a.put o.dst v') w'):wpList Tryz.prog ops Q (o :: rest) a w:=by
 simp only[wpList,hw,if_true]
 left
 unfold Oper.wp
 simp[execOp,ho,resolve,invoke,builtin,hd,hs,hr o.type,Result.andThen]
 exact h
theorem qjk {ops : Array Oper} {o : Oper} {a : Act} {w : World} {K : Act → World → Prop} {Q : Exit → Act → World → Prop} {E : Prop} (hgd : o.guard = none) (d s : Operand)
  (ho:o.op=.call { callee:=.builtin .copy,args:=#[d,s],argTypes:=#[22,22] }) (v u:Value) (hd:a.eval d=v) (hs:a.eval s=u) {v':Value} {w':World}
  (hr:∀ ty,(Builtin.copy_ #[22,22] ty #[v,u]).run Tryz.prog w=.ok v' w') (h:K (a.put o.dst v') w'):if Region.wanted o (yielded ops a.tmps)=true then Oper.wp Tryz.prog o a w K Q else E:=by
 have hw:Region.wanted o (yielded ops a.tmps)=true:=by simp[Region.wanted,hgd]
 rw[if_pos hw]
 unfold Oper.wp
 simp[execOp,ho,resolve,invoke,builtin,hd,hs,hr,Result.andThen]
 exact h
theorem ins_room (g h c i n m vc : Nat) (cur curV : Array Value) (L V : List (Ln × Value)) (W : World) (hb : Box W g 55 cur) (hs : cur.size = c * 2) (hcm : c ≤ 9223372036854775807) (hL : L.length = n) (ht : cur.toList.take (n * 2) = qr L) (hroom : n + m ≤ c) (hi : i < n) (hm : 0 < m)
  (hgh:h≠g) (hv:Box W h 55 curV) (hV:V.length=m) (hvf:∀ (j:Nat) (u:Value),(qr V)[j]?=some u→curV[j]?=some u) (h1L:∀ u∈qr L,u.oneCell'=true) (h1V:∀ u∈qr V,u.oneCell'=true) :
  Calls Tryz.prog 232 #[.slice (some ⟨g,0,none⟩) n c,.int .i64 i,.slice (some ⟨h,0,none⟩) m vc] W fun e w' =>
   e=.returned (.slice (some ⟨g,0,none⟩) (n+m) c)∧∃ F,Box w' g 55 F∧F.size=c * 2∧F.toList.take ((n+m) * 2)=qr (L.take i ++ V ++ L.drop i)∧Only g W w':=by
 have hsa:W.shape? h=some (55,curV.size):=by
  have h':W.heap[h]?=some (.cells curV 55 (0,0)):=hv
  simp[World.shape?,h']
 have hsb:W.shape? g=some (55,cur.size):=by
  have h':W.heap[g]?=some (.cells cur 55 (0,0)):=hb
  simp[World.shape?,h']
 have hov:∀ o lb cb,(callFunc 244 #[.slice (some ⟨h,0,none⟩) m vc,.slice (some ⟨g,o,none⟩) lb cb]).run Tryz.prog W=.ok (.value (.bool false)) W:=fun o lb cb=>by
  rw[run_callFunc_extern Tryz.func244 (by kernel_rfl) (by kernel_rfl) (by kernel_rfl) (e:=Extern.SlicesOverlaps.overlaps #[22,22] #[4]) (by kernel_rfl),
   Lib.run_overlaps_apart W 22 4 55 Tryz.underlying22 2 (fun w=>by kernel_rfl) ⟨h,0,none⟩ ⟨g,o,none⟩ m vc lb cb hgh _ _ _ _ hsa hsb (by omega) (hv.free 0) (hv.free _)]
  rfl
 have hcL:∀ j,j < n * 2→cur[j]?=(qr L)[j]?:=fun j hj=>by
  rw[← ht,List.getElem?_take,if_pos hj,Array.getElem?_toList]
 obtain⟨C1,hC1⟩:∃ C1,wrA cur ((i+m) * 2) (qr (L.drop i))=C1:=⟨_,rfl⟩
 obtain⟨W1,hW1⟩:∃ W1,W.drew.setCells g ((i+m) * 2) (qr (L.drop i))=W1:=⟨_,rfl⟩
 have hdl:(qr (L.drop i)).length=(n - i) * 2:=by rw[qaa,List.length_drop,hL]
 have hVl:(qr V).length=m * 2:=by rw[qaa,hV]
 have hB1:Box W1 g 55 C1:=by rw[← hW1,← hC1];exact(hb.drew).wr _ _
 have hC1s:C1.size=c * 2:=by rw[← hC1,qet,hs]
 have hO1:Only g W W1:=by rw[← hW1];exact(Only.of_below (Below.refl _ _).drew).trans (only_wr _ _ _ _)
 have hV1:Box W1 h 55 curV:=hv.grown hO1 (by simp[hgh])
 have hcp1:∀ ty dc sc,(Builtin.copy_ #[22,22] ty #[.slice (some ⟨g,(i+m) * 2,none⟩) (n+m - (i+m)) dc,.slice (some ⟨g,i * 2,none⟩) (n+m - i) sc]).run Tryz.prog W.drew=.ok (goInt ((n - i:Nat):Int)) W1:=fun ty dc sc=>by
  rw[← hW1]
  exact qfy W.drew ty g ((i+m) * 2) (n+m - (i+m)) dc ⟨g,i * 2,none⟩ (n+m - i) sc (n - i) (qr (L.drop i)) hb.drew (by simp only[Nat.min_def];split <;> omega) hdl (by omega)
   (fun j u hj=>by
    rw[qc4,hb.drew.cell,hcL _ (by have:=(List.getElem?_eq_some_iff.1 hj).1;omega)]
    rwa [qg1 (by omega),List.getElem?_drop] at hj)
   (fun u hu=>h1L u (by rw[qg1 (by omega)] at hu;exact List.mem_of_mem_drop hu))
 obtain⟨W2,hW2⟩:∃ W2,W1.setCells g (i * 2) (qr V)=W2:=⟨_,rfl⟩
 have hcp2:∀ ty dc,(Builtin.copy_ #[22,22] ty #[.slice (some ⟨g,i * 2,none⟩) (n+m - i) dc,.slice (some ⟨h,0,none⟩) m vc]).run Tryz.prog W1=.ok (goInt (m:Int)) W2:=fun ty dc=>by
  rw[← hW2]
  exact qfy W1 ty g (i * 2) (n+m - i) dc ⟨h,0,none⟩ m vc m (qr V) hB1 (by simp only[Nat.min_def];split <;> omega) hVl (by omega)
   (fun j u hj=>by rw[qc4,hV1.cell,Nat.zero_add];exact hvf j u hj) h1V
 have hfin:∃ F,Box W2 g 55 F∧F.size=c * 2∧F.toList.take ((n+m) * 2)=qr (L.take i ++ V ++ L.drop i)∧Only g W W2 :=
  ⟨wrA C1 (i * 2) (qr V),by rw[← hW2];exact hB1.wr _ _,by rw[qet,hC1s],fin_row cur _ hL hV (by omega) (by omega) (.inl (by rw[hC1])) (fun j hj=>hcL j (by omega)),by rw[← hW2];exact hO1.trans (only_wr _ _ _ _)⟩
 have HFIN:=hid hfin
 have HC1:=hid hcp1
 have HC2:=hid hcp2
 clear hfin hcp1 hcp2 hsa hsb hcL hC1 hW1 hdl hVl hB1 hC1s hO1 hV1 hW2 hb hv ht hs hL hV hvf h1L h1V
 have hz1:¬ ((m:Int)=0):=by omega
 have hz2:¬ ((i:Int)=(n:Int)):=by omega
 have hz3:¬ ((c:Int) < (n:Int)+(m:Int)):=by omega
 have hb1:(0:Int)≤(i:Int)+(m:Int):=by omega
 have hin:(i:Int)≤(n:Int):=by omega
 have htn:((i:Int)+(m:Int)).toNat=i+m:=by omega
 have hb2:¬ (c=i+m):=by omega
 have hb3:(i:Int)≤(n:Int)+(m:Int):=by omega
 have hb4:¬ (c=i):=by omega
 have hb5:(n:Int)+(m:Int)≤c:=by omega
 have hb6:(i:Int)+(m:Int)≤(n:Int)+(m:Int):=by omega
 go_enter Tryz.func232,Tryz.ntmps232
 go_wp2_with (simp only[hov])
 have hw1:IntKind.i64.wrap ((i:Int)+(m:Int))=(i:Int)+(m:Int):=by rw[IntKind.wrap_i64];omega
 go_region_law (refine qjk rfl (.tmp 73) (.tmp 76) rfl (.slice (some ⟨g,(i+m) * 2,none⟩) (n+m - (i+m)) (c - (i+m))) (.slice (some ⟨g,i * 2,none⟩) (n+m - i) (c - i)) (by simp[Act.eval,Act.put]) (by simp[Act.eval,Act.put]) (fun ty=>HC1.out ty _ _) ?_)
 clear hw1
 go_wp2_with (refine qht rfl (.tmp 80) (.tmp 81) rfl _ _ rfl rfl (fun ty=>HC2.out ty _) ?_)
 go_ret
 exact⟨rfl,HFIN.out⟩
theorem qlt {W:World} {b o:Nat} {v:Value} (h:W.cell? ⟨b,o,none⟩=some v):b < W.heap.size:=by
 apply Classical.byContradiction
 intro hn
 unfold World.cell? at h
 have:W.heap[b]?=none:=Array.getElem?_eq_none (by omega)
 simp[this] at h
theorem qlu {B b:Nat} {W:World} (hB:B≤b):∀ (vs:List Value) (w:World) (o:Nat),Below B W w→Below B W (w.setCells b o vs)
 | [],_,_,h=>h
 | v :: r,_,o,h=>qlu hB r _ (o+1) (qcu h hB v)
theorem ins_grow (b off h c i n m vc : Nat) (L V : List (Ln × Value)) (W : World) (hL : L.length = n) (hcs : ∀ (j : Nat) (u : Value), (qr L)[j]? = some u → W.cell? ⟨b, off + j, none⟩ = some u) (hnc : n ≤ c) (hroom : c < n + m) (hi : i < n) (hm : 0 < m) (hnm : n + m ≤ 1000000)
  (hV:V.length=m) (hvs:∀ (j:Nat) (u:Value),(qr V)[j]?=some u→W.cell? ⟨h,j,none⟩=some u) (h1L:∀ u∈qr L,u.oneCell'=true) (h1V:∀ u∈qr V,u.oneCell'=true) :
  Calls Tryz.prog 232 #[.slice (some ⟨b,off,none⟩) n c,.int .i64 i,.slice (some ⟨h,0,none⟩) m vc] W fun e w' =>
   ∃ G,e=.returned (.slice (some ⟨W.heap.size,0,none⟩) (n+m) G)∧OwnL w' W.heap.size (.slice (some ⟨W.heap.size,0,none⟩) (n+m) G) (L.take i ++ V ++ L.drop i)∧Below W.heap.size W w':=by
 obtain⟨i0,hi0,hz0,hzs,hzb⟩:=info_parts qik
 have hdl:(qr (L.drop i)).length=(n - i) * 2:=by rw[qaa,List.length_drop,hL]
 have hVl:(qr V).length=m * 2:=by rw[qaa,hV]
 have hLl:(qr L).length=n * 2:=by rw[qaa,hL]
 have hbw:b < W.heap.size:=qlt (hcs 0 _ (List.getElem?_eq_getElem (by omega)))
 have hvw:h < W.heap.size:=qlt (hvs 0 _ (List.getElem?_eq_getElem (by omega)))
 have hold:(Builtin.firstCells i0.size i (.slice (some ⟨b,off,none⟩) i c)).run Tryz.prog W.drew=.ok (qr (L.take i)).toArray W.drew:=by
  rw[hzs]
  exact run_firstCells_some W.drew 2 i ⟨b,off,none⟩ i c (qr (L.take i)) (by rw[qaa,List.length_take];omega) (fun j u hj=>by
   rw[qc4]
   rw[qi7 (by omega),List.getElem?_take] at hj
   split at hj
   ·exact hcs j u hj
   ·cases hj)
 have hfit:=growslice_fits (bytes:=32) hroom (by omega)
 obtain⟨G,hG⟩:∃ G,grownCap W (n+m) c 55=G:=⟨_,rfl⟩
 have hGn:n+m≤G:=by rw[← hG];exact grownCap_ge W _ _ _
 have hGm:G≤maxLen:=by rw[← hG];exact grownCap_le_maxLen W (n+m) c 55 (by unfold maxLen;omega)
 obtain⟨ROW,hROW⟩:∃ ROW:Array Value,(qr (L.take i)).toArray ++ Builtin.zeroCells (Value.agg #[Value.slice none 0 0,Value.bool false]).cells (n+m - i) ++ Builtin.zeroCells (Value.agg #[Value.slice none 0 0,Value.bool false]).cells (G - (n+m))=ROW:=⟨_,rfl⟩
 obtain⟨W1,hW1⟩:∃ W1,W.drew.alloc (.cells ROW 55)=W1:=⟨_,rfl⟩
 have hrz:∀ ty,(Builtin.append_ #[22,3] ty #[.slice (some ⟨b,off,none⟩) i c,.int .i64 ((n:Int)+(m:Int) - (i:Int))]).run Tryz.prog W=.ok (.slice (some ⟨W.heap.size,0,none⟩) (n+m) G) W1:=fun ty=>by
  have h:=Lib.run_append_grow_zeros W 22 3 ty 55 i0 _ .i64 .i64 Tryz.underlying22 Tryz.underlying3 hi0 hz0 (some ⟨b,off,none⟩) i c (qr (L.take i)) hold (n+m - i) (by omega) (by omega) (by omega) (by omega) (by rw[hzb];omega) (by rw[hzb,show i+(n+m - i)=n+m by omega];exact hfit)
  rw[show i+(n+m - i)=n+m by omega,hG,hROW,hW1] at h
  rw[show (n:Int)+(m:Int) - (i:Int)=((n+m - i:Nat):Int) by omega]
  exact h
 have hRs:ROW.size=G * 2:=by
  rw[← hROW,Array.size_append,Array.size_append,size_zeroCells,size_zeroCells,List.size_toArray,qaa,List.length_take,hL,show (Value.agg #[Value.slice none 0 0,Value.bool false]).cells.size=2 from rfl]
  omega
 have hR0:∀ j,j < i * 2→ROW[j]?=(qr L)[j]?:=fun j hj=>by
  have hl:(qr (L.take i)).length=i * 2:=by rw[qaa,List.length_take];omega
  rw[← hROW,Array.getElem?_append_left (by rw[Array.size_append,List.size_toArray];omega),Array.getElem?_append_left (by rw[List.size_toArray];omega),List.getElem?_toArray,qi7 (by omega),List.getElem?_take,if_pos hj]
 have hW1B:Below W.heap.size W W1:=by rw[← hW1];exact(Below.refl _ _).drew.alloc (Nat.le_refl _) _
 have hB1:Box W1 W.heap.size 55 ROW:=by rw[← hW1];exact Box.new W.drew _ _
 obtain⟨W2,hW2⟩:∃ W2,W1.setCells W.heap.size (i * 2) (qr V)=W2:=⟨_,rfl⟩
 have hW2B:Below W.heap.size W W2:=by rw[← hW2];exact qlu (Nat.le_refl _) _ _ _ hW1B
 have hB2:Box W2 W.heap.size 55 (wrA ROW (i * 2) (qr V)):=by rw[← hW2];exact hB1.wr _ _
 have hcpA:∀ ty dc,(Builtin.copy_ #[22,22] ty #[.slice (some ⟨W.heap.size,i * 2,none⟩) (n+m - i) dc,.slice (some ⟨h,0,none⟩) m vc]).run Tryz.prog W1=.ok (goInt (m:Int)) W2:=fun ty dc=>by
  rw[← hW2]
  exact qfy W1 ty W.heap.size (i * 2) (n+m - i) dc ⟨h,0,none⟩ m vc m (qr V) hB1 (by simp only[Nat.min_def];split <;> omega) hVl (by omega)
   (fun j u hj=>by rw[qc4,Nat.zero_add,hW1B.cell (p:=⟨h,j,none⟩) hvw];exact hvs j u hj) h1V
 obtain⟨W3,hW3⟩:∃ W3,W2.drew.setCells W.heap.size ((i+m) * 2) (qr (L.drop i))=W3:=⟨_,rfl⟩
 have hcpB:∀ ty dc sc,(Builtin.copy_ #[22,22] ty #[.slice (some ⟨W.heap.size,(i+m) * 2,none⟩) (n+m - (i+m)) dc,.slice (some ⟨b,off+i * 2,none⟩) (n - i) sc]).run Tryz.prog W2.drew=.ok (goInt ((n - i:Nat):Int)) W3:=fun ty dc sc=>by
  rw[← hW3]
  exact qfy W2.drew ty W.heap.size ((i+m) * 2) (n+m - (i+m)) dc ⟨b,off+i * 2,none⟩ (n - i) sc (n - i) (qr (L.drop i)) hB2.drew (by simp only[Nat.min_def];split <;> omega) hdl (by rw[qet];omega)
   (fun j u hj=>by
    rw[qc4,(hW2B.drew).cell (p:=⟨b,off+i * 2+j,none⟩) hbw,Nat.add_assoc]
    rw[qg1 (by omega),List.getElem?_drop] at hj
    exact hcs _ u hj)
   (fun u hu=>h1L u (by rw[qg1 (by omega)] at hu;exact List.mem_of_mem_drop hu))
 have hW3B:Below W.heap.size W W3:=by rw[← hW3];exact qlu (Nat.le_refl _) _ _ _ hW2B.drew
 have hfin:OwnL W3 W.heap.size (.slice (some ⟨W.heap.size,0,none⟩) (n+m) G) (L.take i ++ V ++ L.drop i):=by
  refine own_fin (F:=wrA (wrA ROW (i * 2) (qr V)) ((i+m) * 2) (qr (L.drop i))) (by rw[← hW3];exact hB2.drew.wr _ _) (by rw[qet,qet,hRs]) ?_ hGn hGm (Nat.le_refl _) (fin_row ROW _ hL hV (by omega) (by omega) (.inr rfl) hR0)
  rw[List.length_append,List.length_append,List.length_take,List.length_drop,hL,hV]
  omega
 have HFIN:=hid hfin
 have HRZ:=hid hrz
 have HCA:=hid hcpA
 have HCB:=hid hcpB
 have HB3:=hid hW3B
 unfold maxLen at hGm
 clear hfin hrz hcpA hcpB hW3B hW3 hB2 hW2B hW2 hB1 hW1B hR0 hRs hW1 hROW hG hfit hold hVl hdl hLl h1L h1V hvs hcs hi0 hz0 hzs hzb hL hV hbw hvw
 generalize W.heap.size=g0 at *
 have hz1:¬ ((m:Int)=0):=by omega
 have hz2:¬ ((i:Int)=(n:Int)):=by omega
 have hz3:(c:Int) < (n:Int)+(m:Int):=by omega
 have hb1:(0:Int)≤(i:Int)+(m:Int):=by omega
 have hin:(i:Int)≤(n:Int):=by omega
 have htn:((i:Int)+(m:Int)).toNat=i+m:=by omega
 have hb2:¬ (G=i+m):=by omega
 have hb3:(i:Int)≤(n:Int)+(m:Int):=by omega
 have hb4:¬ (c=i):=by omega
 have hb5:¬ (G=i):=by omega
 have hb6:(i:Int)+(m:Int)≤(n:Int)+(m:Int):=by omega
 have hb7:(i:Int)≤c:=by omega
 go_enter Tryz.func232,Tryz.ntmps232
 go_upto_region 9 with fail
 go_wp2_with (first | (at_builtin;refine Lib.wpList_append_run _ rfl _ _ _ _ rfl _ _ rfl rfl _ _ (HRZ.out _) ?_) | (refine qht rfl (.tmp 43) (.tmp 44) rfl _ _ rfl rfl (fun ty=>HCA.out ty _) ?_))
 have hw1:IntKind.i64.wrap ((i:Int)+(m:Int))=(i:Int)+(m:Int):=by rw[IntKind.wrap_i64];omega
 go_region_law (refine qjk rfl (.tmp 50) (.tmp 53) rfl (.slice (some ⟨g0,(i+m) * 2,none⟩) (n+m - (i+m)) (G - (i+m))) (.slice (some ⟨b,off+i * 2,none⟩) (n - i) (c - i)) (by simp[Act.eval,Act.put]) (by simp[Act.eval,Act.put]) (fun ty=>HCB.out ty _ _) ?_)
 clear hw1
 go_wp2
 go_ret
 exact⟨G,rfl,HFIN.out,HB3.out⟩
set_option maxHeartbeats 1000000
set_option maxRecDepth 100000
theorem ins_zero (A B : Option Addr) (n c i d : Nat) (W : World) (hi : i ≤ n) (hn : n ≤ c) (hc : c ≤ 9223372036854775807) (hA : A = none → c = 0) :
  Calls Tryz.prog 232 #[.slice A n c,.int .i64 i,.slice B 0 d] W fun e w'=>e=.returned (.slice A n c)∧W=w':=by
 have h1:(i:Int)≤n:=by omega
 have h2:(i:Int)≤c:=by omega
 cases A with
 | none =>
  obtain rfl:=hA rfl
  obtain rfl:n=0:=by omega
  obtain rfl:i=0:=by omega
  clear hA
  go_enter Tryz.func232,Tryz.ntmps232
  go_wp2
  go_ret
  exact⟨rfl,rfl⟩
 | some a =>
  clear hA
  by_cases h3:c=i
  all_goals
   go_enter Tryz.func232,Tryz.ntmps232
   go_wp2
   go_ret
   exact⟨rfl,rfl⟩
theorem ins_end (A B : Option Addr) (n c m d : Nat) (W W' : World) (v' : Value) (hn : n ≤ c) (hm : 0 < m) (hm2 : m ≤ 1000000) (hc : c ≤ 9223372036854775807) (hA : A = none → c = 0)
  (hr:(Builtin.append_ #[22,22] 22 #[.slice A n c,.slice B m d]).run Tryz.prog W=.ok v' W') (hs:∃ A' n' c',v'=.slice A' n' c') :
  Calls Tryz.prog 232 #[.slice A n c,.int .i64 n,.slice B m d] W fun e w'=>e=.returned v'∧W'=w':=by
 obtain⟨A',n',c',rfl⟩:=hs
 have h2:(n:Int)≤c:=by omega
 have h4:¬ (m:Int)=0:=by omega
 have HR:=hid hr
 clear hr
 cases A with
 | none =>
  obtain rfl:=hA rfl
  obtain rfl:n=0:=by omega
  clear hA
  go_enter Tryz.func232,Tryz.ntmps232
  go_wp2_with (at_builtin;refine Lib.wpList_append_run _ rfl _ _ _ _ rfl _ _ rfl rfl _ _ HR.out ?_)
  go_ret
  exact⟨rfl,rfl⟩
 | some a =>
  clear hA
  by_cases h3:c=n
  all_goals
   go_enter Tryz.func232,Tryz.ntmps232
   go_wp2_with (at_builtin;refine Lib.wpList_append_run _ rfl _ _ _ _ rfl _ _ rfl rfl _ _ HR.out ?_)
   go_ret
   exact⟨rfl,rfl⟩
def InsPost (W:World) (base:Nat) (T:List (Ln×Value)) (e:Ending) (w':World):Prop :=
 ∃ v',e=.returned v'∧LR w' v' T∧Below base W w'∧(∀ b v l,CSl W b v l→CSl w' b v l)∧(∀ b t cs,t≠55→Box W b t cs→Box w' b t cs)
theorem qi6 {W w':World} {base:Nat} {T:List (Ln×Value)} {v':Value} (h:LR w' v' T) (hb:Below W.heap.size W w') (hbase:base≤W.heap.size):InsPost W base T (.returned v') w' :=
 ⟨v',rfl,h,hb.mono hbase,fun _ _ _ h=>h.below hb (Nat.le_refl _),fun _ _ _ _ h=>h.below hb h.lt⟩
theorem qls {W w':World} {base:Nat} {L T:List (Ln×Value)} {sv v':Value} (h:LR w' v' T) (ho:OwnL W base sv L) (hg:W.grownBy w' sv.ownBlock) (hbase:base≤W.heap.size):InsPost W base T (.returned v') w' :=
 ⟨v',rfl,h,(Below.refl base W).grown hg hbase (fun q hq=>(World.ownsRow.lt ho q hq).1),fun _ _ _ h=>h.grown ho hg,fun _ _ _ ht h=>h.grown hg (ho.not_box h ht)⟩
theorem ins_any (sv vv : Value) (L V : List (Ln × Value)) (i base B : Nat) (W : World) (hs : (OwnL W base sv L ∧ ∀ q, sv.ownBlock = some q → q < B) ∨ (∃ A, sv = .slice A L.length L.length ∧ LR W sv L)) (hv : LSl W B vv V) (hc : CesOf W L) (hcV : CesOf W V)
  (hi:i≤L.length) (hlen:L.length+V.length≤1000) (hbase:base≤W.heap.size) (_:base≤B) :
  Calls Tryz.prog 232 #[sv,.int .i64 i,vv] W (InsPost W base (L.take i ++ V ++ L.drop i)):=by
 have hrow:LR W sv L:=hs.elim (fun h=>h.1.lsl.row) fun ⟨_,_,h⟩=>h
 have hcap:∃ A c,sv=.slice A L.length c∧L.length≤c∧c≤9223372036854775807∧(A=none→c=0):=by
  rcases hs with ⟨h,_⟩ | ⟨A,rfl,h⟩
  ·rcases h.2 with ⟨rfl,h0⟩ | ⟨g,cap,cur,rfl,hb,hg,hn,hm,hs,ht⟩
   ·exact⟨none,0,by rw[h0],by omega,by omega,fun _=>rfl⟩
   ·exact⟨_,cap,rfl,hn,by unfold maxLen at hm;omega,fun h=>by cases h⟩
  ·refine⟨A,_,rfl,Nat.le_refl _,by omega,fun hA=>?_⟩
   subst hA
   obtain⟨A',c',e,_,hcell⟩:=h
   cases e
   apply Classical.byContradiction
   intro hne
   obtain⟨g,o,h,_⟩:=hcell (fun e=>hne (by rw[e];rfl))
   cases h
 obtain⟨A,c,hsv,hLc,hcm,hA0⟩:=hcap
 subst hsv
 rcases Nat.eq_zero_or_pos V.length with hm | hm
 ·have hV:V=[]:=List.length_eq_zero_iff.1 hm
  subst hV
  obtain⟨Bv,d,rfl⟩:=hv.spell
  refine(ins_zero A Bv L.length c i d W hi hLc hcm hA0).mono fun e w' ⟨he,hw⟩=>?_
  subst he hw
  refine qi6 ?_ (Below.refl _ _) hbase
  rw[List.append_nil,List.take_append_drop]
  exact hrow
 rcases Nat.lt_or_ge i L.length with hin | hin
 ·obtain ⟨h, cv, rfl, hBh, curV, hbV, hsV, hlV, hfV⟩ : ∃ h cap, vv = .slice (some ⟨h, 0, none⟩) V.length cap ∧ B ≤ h ∧ LBox W h V cap := by
   rcases hv with ⟨h,_⟩ | h
   ·rw[h] at hm;simp at hm
   ·exact h
  have hvf:∀ (j:Nat) (u:Value),(qr V)[j]?=some u→curV[j]?=some u:=fun j u hu=>by
   obtain⟨e,h1,h2⟩:=qgj V j u hu
   rcases h2 with ⟨h3,rfl⟩ | ⟨h3,rfl⟩
   ·have:=(hfV (j / 2) e h1).1
    rwa [show j / 2 * 2=j by omega] at this
   ·have:=(hfV (j / 2) e h1).2
    rwa [show j / 2 * 2+1=j by omega] at this
  rcases Nat.lt_or_ge c (L.length+V.length) with hroom | hroom
  ·have hne:L≠[]:=by intro e;rw[e] at hin;simp at hin
   obtain⟨a,rfl,hcells⟩:=(hrow.flat rfl).resolve_left hne
   obtain⟨A',c',e',_,hx⟩:=hrow
   obtain⟨b,off,hb,_,_⟩:=hx hne
   cases e'
   cases hb
   refine(ins_grow b off h c i L.length V.length cv L V W rfl (fun j u hu=>by have:=hcells j u hu;rwa [qc4] at this) hLc hroom hin hm (by omega) rfl (fun j u hu=>by rw[hbV.cell];exact hvf j u hu) (qfe hc) (qfe hcV)).mono fun e w' ⟨G,he,ho,hb⟩=>?_
   subst he
   exact qi6 ho.lsl.row hb hbase
  ·rcases hs with ⟨ho,hq⟩ | ⟨A',e,_⟩
   ·rcases ho.2 with ⟨e,h0⟩ | ⟨g,cap,cur,e,hg,hbg,hn,hm',hsz,ht⟩
    ·rw[h0] at hin;omega
    ·cases e
     have hgB:g < B:=hq g rfl
     refine(ins_room g h c i L.length V.length cv cur curV L V W hbg hsz hcm rfl ht hroom hin hm (by omega) hbV rfl hvf (qfe hc) (qfe hcV)).mono fun e w' ⟨he,F,h1,h2,h3,h4⟩=>?_
     subst he
     have hR:(L.take i ++ V ++ L.drop i).length=L.length+V.length:=by rw[List.length_append,List.length_append,List.length_take,List.length_drop];omega
     exact qls (own_fin h1 h2 hR hroom hm' hg h3).lsl.row ho h4 hbase
   ·cases e
    omega
 ·obtain rfl:i=L.length:=by omega
  rw[List.take_length,List.drop_length,List.append_nil]
  obtain⟨Bv,d,rfl⟩:=hv.spell
  rcases hs with ⟨ho,hq⟩ | ⟨A',e,_⟩
  ·obtain ⟨v', w', hrun, h1, h2⟩ : ∃ v' w', (Builtin.append_ #[22, 22] 22 #[.slice A L.length c, .slice Bv V.length d]).run Tryz.prog W = .ok v' w' ∧ OwnL w' base v' (L ++ V) ∧ W.grownBy w' (Value.slice A L.length c).ownBlock :=
    qiv W base _ _ L V ho hv.row hcV _ (by omega) hbase
   obtain⟨A2,c2,hs2⟩:=h1.spell
   refine(ins_end A Bv L.length c V.length d W w' v' hLc hm (by omega) hcm hA0 hrun ⟨_,_,_,hs2⟩).mono fun e w'' ⟨he,hw⟩=>?_
   subst he hw
   exact qls h1.lsl.row ho h2 hbase
  ·cases e
   obtain⟨v',w',hrun,h1,h2⟩:=qcj W A L.length L.length _ L V hrow rfl hv.row hcV (by omega) (Nat.le_refl _) (by omega)
   obtain⟨A2,c2,hs2⟩:=h1.spell
   refine(ins_end A Bv L.length L.length V.length d W w' v' hLc hm (by omega) hcm hA0 (hrun _) ⟨_,_,_,hs2⟩).mono fun e w'' ⟨he,hw⟩=>?_
   subst he hw
   exact qi6 h1.lsl.row h2 hbase
end Go.Proofs.YtpdaekmbpafenaaGreatDoor
