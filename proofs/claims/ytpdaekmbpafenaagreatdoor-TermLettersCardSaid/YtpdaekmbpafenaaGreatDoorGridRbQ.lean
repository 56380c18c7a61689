
import Derived.Test.YtpdaekmbpafenaaGreatDoorGridMnQ
import Derived.Deep.RegionLaw
import Derived.Deep.DeepCutAuto
import Derived.Deep.RegionWith
import Derived.Deep.AppendSrc
import Derived.StillTailTactics
import Derived.Test.YtpdaekmbpafenaaGreatDoorHeldIQ
import Derived.Test.YtpdaekmbpafenaaGreatDoorGridRmQ
import Derived.Test.YtpdaekmbpafenaaGreatDoorGridSoftQ
namespace Go.Proofs.YtpdaekmbpafenaaGreatDoor
open Go.RowKit
theorem ln_lit (W:World) (e:Ln×Value):LR (W.alloc (.cells #[e.2,.bool e.1.soft] 55)) (.slice (some ⟨W.heap.size,0,none⟩) 1 1) [e]:=by
 refine⟨_,_,rfl,Nat.le_refl _,fun _=>⟨W.heap.size,0,rfl,by simp,fun j x hj=>?_⟩⟩
 have hb:=Box.new W 55 #[e.2,.bool e.1.soft]
 cases j with
 | zero =>
  simp at hj
  subst hj
  exact⟨hb.cell 0,hb.cell 1⟩
 | succ j=>simp at hj
theorem CSl.grown {W W':World} {base base':Nat} {v v':Value} {l:List Ce} {lv:List (Ln×Value)} (h:CSl W base v l) (ho:OwnL W base' v' lv) (hg:W.grownBy W' v'.ownBlock):CSl W' base v l:=by
 rcases h with h | ⟨g,cap,rfl,h1,cur,hb,h2⟩
 ·exact .inl h
 ·exact .inr ⟨g,cap,rfl,h1,cur,hb.grown hg (ho.not_box hb (by decide)),h2⟩
set_option maxRecDepth 100000
theorem LR.flat {W:World} {A:Option Addr} {k c:Nat} {l:List (Ln×Value)} (h:LR W (.slice A k c) l) (hl:l.length=k):(l=[]∨∃ a,A=some a∧∀ j u,(qr l)[j]?=some u→W.cell? (a.add j)=some u):=by
 obtain⟨A',c',e,_,hc⟩:=h
 cases e
 by_cases hn:l=[]
 ·exact .inl hn
 ·obtain⟨g,o,rfl,_,hc⟩:=hc hn
  refine .inr ⟨_,rfl,fun j u hu=>?_⟩
  obtain⟨e,h1,h2⟩:=qgj l j u hu
  rw[qc4]
  have:=hc (j / 2) e h1
  rcases h2 with ⟨h3,rfl⟩ | ⟨h3,rfl⟩
  ·have:=this.1
   rwa [show o+j / 2 * 2=o+j by omega] at this
  ·have:=this.2
   rwa [show o+j / 2 * 2+1=o+j by omega] at this
theorem qcj (w : World) (A : Option Addr) (k cap : Nat) (vx : Value) (l m : List (Ln × Value)) (hl : LR w (.slice A k cap) l) (hk : l.length = k) (hx : LR w vx m) (hm : CesOf w m) (hroom : cap < k + m.length) (hkc : k ≤ cap) (hb : k + m.length ≤ 1000000) :
  ∃ v' w',(∀ ty,(Builtin.append_ #[22,22] ty #[.slice A k cap,vx]).run Tryz.prog w=.ok v' w')∧OwnL w' w.heap.size v' (l ++ m)∧Below w.heap.size w w':=by
 obtain⟨i0,hi,hz0,hz1,hz2⟩:=info_parts qik
 obtain⟨B,cx,rfl⟩:=hx.spell
 have hmne:m≠[]:=by intro e;rw[e] at hroom;simp at hroom;omega
 obtain⟨a,rfl,hcells⟩:∃ a,B=some a∧∀ j u,(qr m)[j]?=some u→w.cell? (a.add j)=some u:=by
  rcases hx.flat rfl with h | h
  ·exact absurd h hmne
  ·exact h
 have hold:(Builtin.firstCells i0.size k (.slice A k cap)).run Tryz.prog w.drew=.ok (qr l).toArray w.drew:=by
  rw[hz1]
  rcases hl.flat hk with h | ⟨b,rfl,hc⟩
  ·subst h
   simp at hk
   subst hk
   cases A with
   | none=>exact run_firstCells_none w.drew 2 0 0 cap
   | some b=>exact run_firstCells_some w.drew 2 0 b 0 cap [] (by simp) (by simp)
  ·exact run_firstCells_some w.drew 2 k b k cap (qr l) (by rw[qaa,hk]) (fun j u hu=>hc j u hu)
 have hsrc:Src Tryz.prog i0.size 22 (.slice (some a) m.length cx) m.length (qr m) w:=by
  rw[hz1]
  exact Src.ofSlice w Tryz.underlying22 a m.length cx (qr m) (qaa m) hcells (qfe hm)
 refine⟨_,_,fun ty=>run_append_grow_src w _ _ ty _ i0 _ Tryz.underlying22 hi hz0 A k cap (qr l) hold _ m.length (qr m) hsrc hroom (by omega) (by rw[hz2];exact growslice_fits hroom (by omega)),?_,?_⟩
 ·have hge:=grownCap_ge w (k+m.length) cap 55
  have hcm:grownCap w (k+m.length) cap 55≤maxLen:=grownCap_le_maxLen w (k+m.length) cap 55 (by unfold maxLen;omega)
  have hfl:(qr l ++ qr m).length=(k+m.length) * 2:=by rw[List.length_append,qaa,qaa,hk];omega
  unfold OwnL
  rw[List.length_append,hk,qck]
  refine⟨hfl,.inr ⟨w.heap.size,_,_,rfl,Nat.le_refl _,heap_alloc_new w.drew _,hge,hcm,?_,?_⟩⟩
  ·rw[Array.size_append,size_zeroCells,List.size_toArray,hfl,show (Value.agg #[Value.slice none 0 0,Value.bool false]).cells.size=2 from rfl,← Nat.add_mul]
   congr 1
   omega
  ·rw[Array.toList_append,List.toList_toArray,← hfl]
   exact List.take_left
 ·exact(Below.refl _ _).drew.alloc (Nat.le_refl _) _
theorem qbz (w:World) (ty:TypeId) (A B:Option Addr) (k cap n c:Nat) (hn:n=0) (hk:k≤cap):(Builtin.append_ #[22,22] ty #[.slice A k cap,.slice B n c]).run Tryz.prog w=.ok (.slice A k cap) w:=by
 subst hn
 obtain⟨i0,hi,hz0,hz1,hz2⟩:=info_parts qik
 have ht:=Tryz.underlying22
 have hl:∀ (x:Addr),(loadCells x 0).run Tryz.prog w=.ok #[] w:=fun x=>by simpa using run_loadCells_list (P:=Tryz.prog) w x [] (by simp)
 cases A <;> cases B <;> simp[Builtin.append_,run_underlying ht,typeInfo,hi,Builtin.lenOf,Builtin.firstCells,hk,storeCells,hl]
set_option maxHeartbeats 2000000
set_option maxRecDepth 100000
theorem LR.sub {W:World} {g o n c:Nat} {l:List (Ln×Value)} (h:LR W (.slice (some ⟨g,o,none⟩) n c) l) (hl:l.length=n) (k m cap:Nat) (hm:k+m≤n) (hc:m≤cap):LR W (.slice (some ⟨g,o+k * 2,none⟩) m cap) ((l.drop k).take m):=by
 obtain⟨A',c',e,_,hcell⟩:=h
 cases e
 have hlen:((l.drop k).take m).length=m:=by rw[List.length_take,List.length_drop];omega
 refine⟨_,_,by rw[hlen],by rw[hlen];exact hc,fun hn=>?_⟩
 have hm0:0 < m:=by rw[← hlen];exact List.length_pos_iff.2 hn
 obtain⟨g',o',e',hg,hcell⟩:=hcell (List.length_pos_iff.1 (by omega))
 cases e'
 refine⟨g,o+k * 2,rfl,hg,fun j e he=>?_⟩
 rw[List.getElem?_take] at he
 split at he
 ·rw[List.getElem?_drop] at he
  have:=hcell (k+j) e he
  rwa [show o+k * 2+j * 2=o+(k+j) * 2 by omega]
 ·cases he
theorem qby {o : Oper} {a : Act} {w : World} {K : Act → World → Prop} {Q : Exit → Act → World → Prop} (s x : Operand)
  (ho:o.op=.call { callee:=.builtin .append,args:=#[s,x],argTypes:=#[22,22] }) (v u:Value) (hs:a.eval s=v) (hx:a.eval x=u) {v':Value} {w':World}
  (hr:∀ ty,(Builtin.append_ #[22,22] ty #[v,u]).run Tryz.prog w=.ok v' w') (h:K (a.put o.dst v') w'):Oper.wp Tryz.prog o a w K Q:=by
 unfold Oper.wp
 simp[execOp,ho,resolve,invoke,builtin,hs,hx,hr o.type,Result.andThen]
 exact h
def CutPost (W:World) (A:Option Addr) (lv:List (Ln×Value)) (f t:Nat) (e:Ending) (w':World):Prop :=
 ∃ gone left,e=.returned (.tuple #[gone,left])∧LR W gone ((lv.drop f).take (t - f))∧Below W.heap.size W w' ∧
  (OwnL w' W.heap.size left (lv.take f ++ lv.drop t)∨(left=.slice A f f∧t=lv.length))
theorem cutLines_mid (g o n c : Nat) (lv : List (Ln × Value)) (f t : Nat) (W : World) (hr : LR W (.slice (some ⟨g, o, none⟩) n c) lv) (hn : lv.length = n) (hc : CesOf W lv) (hft : f ≤ t) (htn : t ≤ n) (hn1 : n ≤ 1000) (h : t < n) :
  Calls Tryz.prog 231 #[.slice (some ⟨g,o,none⟩) n c,.int .i64 f,.int .i64 t] W (CutPost W (some ⟨g,o,none⟩) lv f t):=by
 have hnc:n≤c:=by obtain⟨A',c',e,h,_⟩:=hr;cases e;rw[← hn];exact h
 have hd:Below W.heap.size W W.drew:=(Below.refl _ _).drew
 have hgone:LR W (.slice (some ⟨g,o+f * 2,none⟩) (t - f) (t - f)) ((lv.drop f).take (t - f)):=hr.sub hn f (t - f) (t - f) (by omega) (Nat.le_refl _)
 have hi1:(f:Int)≤t:=by omega
 have hi2:(t:Int)≤c:=by omega
 have hi3:(t:Int)≤n:=by omega
 have hi4:(f:Int)≤c:=by omega
 have hfirst:LR W (.slice (some ⟨g,o,none⟩) f f) (lv.take f):=by
  have:=hr.sub hn 0 f f (by omega) (Nat.le_refl _)
  simpa using this
 have hlf:(lv.take f).length=f:=by rw[List.length_take];omega
 have HGONE:=hid hgone
 have hct:¬ c=t:=by omega
 have hcf:¬ c=f:=by omega
 have hrest:LR W (.slice (some ⟨g,o+t * 2,none⟩) (n - t) (c - t)) (lv.drop t):=by
  have h2:=hr.sub hn t (n - t) (c - t) (by omega) (by omega)
  rwa [List.take_of_length_le (by rw[List.length_drop,hn];exact Nat.le_refl _)] at h2
 obtain⟨v',w',hrun,hown,hb⟩:=qcj W.drew (some ⟨g,o,none⟩) f f _ (lv.take f) (lv.drop t) (hfirst.below hd) hlf (hrest.below hd) (fun e he=>hc.below hd e (List.mem_of_mem_drop he)) (by rw[List.length_drop,hn];omega) (Nat.le_refl _) (by rw[List.length_drop,hn];omega)
 obtain⟨A',c',rfl⟩:=hown.spell
 generalize (lv.take f ++ lv.drop t).length=m at hrun hown
 have HRUN:=hid hrun
 have HOWN:=hid hown
 have HB:=hid hb
 clear hrun hown hb hrest hlf hfirst hgone hc hn hr
 by_cases htf:f=t
 ·subst htf
  go_enter Tryz.func231,Tryz.ntmps231
  go_wp2_with fail
  refine qh (qee 13 14 (fun _=>True) (fun _=>True)) (by kernel_rfl) ?_
  have hS:∀ L,qee 13 14 (fun _:World=>True) (fun _=>True) L (World.drew W):=fun L=>⟨fun _=>trivial,fun _=>trivial⟩
  refine tS 0 (hS _) ?_
  refine tS 1 (hS _) ?_
  refine tS 2 (hS _) ?_
  refine tS 3 (hS _) ?_
  refine tS 4 (hS _) ?_
  refine tS 5 (hS _) ?_
  refine tS 6 (hS _) ?_
  refine tS 7 (hS _) ?_
  refine tS 8 (hS _) ?_
  refine tS 9 (hS _) ?_
  refine tS 10 (hS _) ?_
  refine tS 11 (hS _) ?_
  clear hS
  refine qz (k:=12) (by kernel_rfl) rfl (by rfl) (fun K hK=>?_)
  refine qby (.tmp 16) (.tmp 19) rfl _ _ rfl rfl HRUN.out ?_
  refine hK _ _ ⟨fun _=>trivial,fun _=>trivial⟩ ?_
  clear hK K
  simp only[Act.put,List.setIfInBounds_toArray]
  refine qz (k:=13) (by kernel_rfl) rfl (by rfl) (fun K hK=>?_)
  go_simp
  refine hK _ _ ⟨fun _=>trivial,fun _=>trivial⟩ ?_
  clear hK K
  refine qz (k:=14) (by kernel_rfl) rfl (by rfl) (fun K hK=>?_)
  go_simp
  refine hK _ _ ⟨fun _=>trivial,fun _=>trivial⟩ ?_
  clear hK K
  refine qal (by kernel_rfl) ?_ _
  go_wp2_with fail
  go_ret2
  exact⟨_,_,rfl,by rw[Nat.sub_self,List.take_zero];exact LR.nil _ _ _,hd.trans HB.out,.inl HOWN.out⟩
 ·have htf2:¬ t=f:=fun e=>htf e.symm
  go_enter Tryz.func231,Tryz.ntmps231
  go_wp2_with fail
  refine qh (qee 13 14 (fun _=>True) (fun _=>True)) (by kernel_rfl) ?_
  have hS:∀ L,qee 13 14 (fun _:World=>True) (fun _=>True) L (World.drew W):=fun L=>⟨fun _=>trivial,fun _=>trivial⟩
  refine tS 0 (hS _) ?_
  refine tS 1 (hS _) ?_
  refine tS 2 (hS _) ?_
  refine tS 3 (hS _) ?_
  refine tS 4 (hS _) ?_
  refine tS 5 (hS _) ?_
  refine tS 6 (hS _) ?_
  refine tS 7 (hS _) ?_
  refine tS 8 (hS _) ?_
  refine tS 9 (hS _) ?_
  refine tS 10 (hS _) ?_
  refine tS 11 (hS _) ?_
  clear hS
  refine qz (k:=12) (by kernel_rfl) rfl (by rfl) (fun K hK=>?_)
  refine qby (.tmp 16) (.tmp 19) rfl _ _ rfl rfl HRUN.out ?_
  refine hK _ _ ⟨fun _=>trivial,fun _=>trivial⟩ ?_
  clear hK K
  simp only[Act.put,List.setIfInBounds_toArray]
  refine qz (k:=13) (by kernel_rfl) rfl (by rfl) (fun K hK=>?_)
  go_simp
  refine hK _ _ ⟨fun _=>trivial,fun _=>trivial⟩ ?_
  clear hK K
  refine qz (k:=14) (by kernel_rfl) rfl (by rfl) (fun K hK=>?_)
  go_simp
  refine hK _ _ ⟨fun _=>trivial,fun _=>trivial⟩ ?_
  clear hK K
  refine qal (by kernel_rfl) ?_ _
  go_wp2_with fail
  go_ret2
  exact⟨_,_,rfl,HGONE.out,hd.trans HB.out,.inl HOWN.out⟩
theorem cutLines_end (g o n c : Nat) (lv : List (Ln × Value)) (f : Nat) (W : World) (hr : LR W (.slice (some ⟨g, o, none⟩) n c) lv) (hn : lv.length = n) (hft : f ≤ n) (hn1 : n ≤ 1000) :
  Calls Tryz.prog 231 #[.slice (some ⟨g,o,none⟩) n c,.int .i64 f,.int .i64 n] W (CutPost W (some ⟨g,o,none⟩) lv f n):=by
 have hnc:n≤c:=by obtain⟨A',c',e,h,_⟩:=hr;cases e;rw[← hn];exact h
 have hd:Below W.heap.size W W.drew:=(Below.refl _ _).drew
 have hgone:LR W (.slice (some ⟨g,o+f * 2,none⟩) (n - f) (n - f)) ((lv.drop f).take (n - f)):=hr.sub hn f (n - f) (n - f) (by omega) (Nat.le_refl _)
 have HGONE:=hid hgone
 have HN:=hid hn
 clear hgone hr hn
 rcases Nat.lt_or_ge f n with hfn | hfn
 ·have hnf:¬ n=f:=by omega
  have hcf:¬ c=f:=by omega
  by_cases hcn:c=n
  ·subst hcn
   have hi1:(f:Int)≤c:=by omega
   go_enter Tryz.func231,Tryz.ntmps231
   go_wp2_with fail
   refine qh (qee 13 14 (fun _=>True) (fun _=>True)) (by kernel_rfl) ?_
   have hS:∀ L,qee 13 14 (fun _:World=>True) (fun _=>True) L (World.drew W):=fun L=>⟨fun _=>trivial,fun _=>trivial⟩
   refine tS 0 (hS _) ?_
   refine tS 1 (hS _) ?_
   refine tS 2 (hS _) ?_
   refine tS 3 (hS _) ?_
   refine tS 4 (hS _) ?_
   refine tS 5 (hS _) ?_
   refine tS 6 (hS _) ?_
   refine tS 7 (hS _) ?_
   refine tS 8 (hS _) ?_
   refine tS 9 (hS _) ?_
   refine tS 10 (hS _) ?_
   refine tS 11 (hS _) ?_
   clear hS
   refine qz (k:=12) (by kernel_rfl) rfl (by rfl) (fun K hK=>?_)
   refine qby (.tmp 16) (.tmp 19) rfl _ _ rfl rfl (fun ty=>qbz _ ty _ _ _ _ _ _ rfl (Nat.le_refl _)) ?_
   refine hK _ _ ⟨fun _=>trivial,fun _=>trivial⟩ ?_
   clear hK K
   simp only[Act.put,List.setIfInBounds_toArray]
   refine qz (k:=13) (by kernel_rfl) rfl (by rfl) (fun K hK=>?_)
   go_simp
   refine hK _ _ ⟨fun _=>trivial,fun _=>trivial⟩ ?_
   clear hK K
   refine qz (k:=14) (by kernel_rfl) rfl (by rfl) (fun K hK=>?_)
   go_simp
   refine hK _ _ ⟨fun _=>trivial,fun _=>trivial⟩ ?_
   clear hK K
   refine qal (by kernel_rfl) ?_ _
   go_wp2_with fail
   go_ret2
   exact⟨_,_,rfl,HGONE.out,hd,.inr ⟨rfl,HN.out.symm⟩⟩
  ·have hi1:(f:Int)≤n:=by omega
   have hi2:(n:Int)≤c:=by omega
   have hi3:(f:Int)≤c:=by omega
   go_enter Tryz.func231,Tryz.ntmps231
   go_wp2_with fail
   refine qh (qee 13 14 (fun _=>True) (fun _=>True)) (by kernel_rfl) ?_
   have hS:∀ L,qee 13 14 (fun _:World=>True) (fun _=>True) L (World.drew W):=fun L=>⟨fun _=>trivial,fun _=>trivial⟩
   refine tS 0 (hS _) ?_
   refine tS 1 (hS _) ?_
   refine tS 2 (hS _) ?_
   refine tS 3 (hS _) ?_
   refine tS 4 (hS _) ?_
   refine tS 5 (hS _) ?_
   refine tS 6 (hS _) ?_
   refine tS 7 (hS _) ?_
   refine tS 8 (hS _) ?_
   refine tS 9 (hS _) ?_
   refine tS 10 (hS _) ?_
   refine tS 11 (hS _) ?_
   clear hS
   refine qz (k:=12) (by kernel_rfl) rfl (by rfl) (fun K hK=>?_)
   refine qby (.tmp 16) (.tmp 19) rfl _ _ rfl rfl (fun ty=>qbz _ ty _ _ _ _ _ _ rfl (Nat.le_refl _)) ?_
   refine hK _ _ ⟨fun _=>trivial,fun _=>trivial⟩ ?_
   clear hK K
   simp only[Act.put,List.setIfInBounds_toArray]
   refine qz (k:=13) (by kernel_rfl) rfl (by rfl) (fun K hK=>?_)
   go_simp
   refine hK _ _ ⟨fun _=>trivial,fun _=>trivial⟩ ?_
   clear hK K
   refine qz (k:=14) (by kernel_rfl) rfl (by rfl) (fun K hK=>?_)
   go_simp
   refine hK _ _ ⟨fun _=>trivial,fun _=>trivial⟩ ?_
   clear hK K
   refine qal (by kernel_rfl) ?_ _
   go_wp2_with fail
   go_ret2
   exact⟨_,_,rfl,HGONE.out,hd,.inr ⟨rfl,HN.out.symm⟩⟩
 ·obtain rfl:n=f:=by omega
  by_cases hcn:c=n
  ·subst hcn
   go_enter Tryz.func231,Tryz.ntmps231
   go_wp2_with fail
   refine qh (qee 13 14 (fun _=>True) (fun _=>True)) (by kernel_rfl) ?_
   have hS:∀ L,qee 13 14 (fun _:World=>True) (fun _=>True) L (World.drew W):=fun L=>⟨fun _=>trivial,fun _=>trivial⟩
   refine tS 0 (hS _) ?_
   refine tS 1 (hS _) ?_
   refine tS 2 (hS _) ?_
   refine tS 3 (hS _) ?_
   refine tS 4 (hS _) ?_
   refine tS 5 (hS _) ?_
   refine tS 6 (hS _) ?_
   refine tS 7 (hS _) ?_
   refine tS 8 (hS _) ?_
   refine tS 9 (hS _) ?_
   refine tS 10 (hS _) ?_
   refine tS 11 (hS _) ?_
   clear hS
   refine qz (k:=12) (by kernel_rfl) rfl (by rfl) (fun K hK=>?_)
   refine qby (.tmp 16) (.tmp 19) rfl _ _ rfl rfl (fun ty=>qbz _ ty _ _ _ _ _ _ rfl (Nat.le_refl _)) ?_
   refine hK _ _ ⟨fun _=>trivial,fun _=>trivial⟩ ?_
   clear hK K
   simp only[Act.put,List.setIfInBounds_toArray]
   refine qz (k:=13) (by kernel_rfl) rfl (by rfl) (fun K hK=>?_)
   go_simp
   refine hK _ _ ⟨fun _=>trivial,fun _=>trivial⟩ ?_
   clear hK K
   refine qz (k:=14) (by kernel_rfl) rfl (by rfl) (fun K hK=>?_)
   go_simp
   refine hK _ _ ⟨fun _=>trivial,fun _=>trivial⟩ ?_
   clear hK K
   refine qal (by kernel_rfl) ?_ _
   go_wp2_with fail
   go_ret2
   exact⟨_,_,rfl,by rw[Nat.sub_self,List.take_zero];exact LR.nil _ _ _,hd,.inr ⟨rfl,HN.out.symm⟩⟩
  ·have hi2:(n:Int)≤c:=by omega
   go_enter Tryz.func231,Tryz.ntmps231
   go_wp2_with fail
   refine qh (qee 13 14 (fun _=>True) (fun _=>True)) (by kernel_rfl) ?_
   have hS:∀ L,qee 13 14 (fun _:World=>True) (fun _=>True) L (World.drew W):=fun L=>⟨fun _=>trivial,fun _=>trivial⟩
   refine tS 0 (hS _) ?_
   refine tS 1 (hS _) ?_
   refine tS 2 (hS _) ?_
   refine tS 3 (hS _) ?_
   refine tS 4 (hS _) ?_
   refine tS 5 (hS _) ?_
   refine tS 6 (hS _) ?_
   refine tS 7 (hS _) ?_
   refine tS 8 (hS _) ?_
   refine tS 9 (hS _) ?_
   refine tS 10 (hS _) ?_
   refine tS 11 (hS _) ?_
   clear hS
   refine qz (k:=12) (by kernel_rfl) rfl (by rfl) (fun K hK=>?_)
   refine qby (.tmp 16) (.tmp 19) rfl _ _ rfl rfl (fun ty=>qbz _ ty _ _ _ _ _ _ rfl (Nat.le_refl _)) ?_
   refine hK _ _ ⟨fun _=>trivial,fun _=>trivial⟩ ?_
   clear hK K
   simp only[Act.put,List.setIfInBounds_toArray]
   refine qz (k:=13) (by kernel_rfl) rfl (by rfl) (fun K hK=>?_)
   go_simp
   refine hK _ _ ⟨fun _=>trivial,fun _=>trivial⟩ ?_
   clear hK K
   refine qz (k:=14) (by kernel_rfl) rfl (by rfl) (fun K hK=>?_)
   go_simp
   refine hK _ _ ⟨fun _=>trivial,fun _=>trivial⟩ ?_
   clear hK K
   refine qal (by kernel_rfl) ?_ _
   go_wp2_with fail
   go_ret2
   exact⟨_,_,rfl,by rw[Nat.sub_self,List.take_zero];exact LR.nil _ _ _,hd,.inr ⟨rfl,HN.out.symm⟩⟩
theorem qjn (g o n c : Nat) (lv : List (Ln × Value)) (f t : Nat) (W : World) (hr : LR W (.slice (some ⟨g, o, none⟩) n c) lv) (hn : lv.length = n) (hc : CesOf W lv) (hft : f ≤ t) (htn : t ≤ n) (hn1 : n ≤ 1000) :
  Calls Tryz.prog 231 #[.slice (some ⟨g,o,none⟩) n c,.int .i64 f,.int .i64 t] W (CutPost W (some ⟨g,o,none⟩) lv f t):=by
 rcases Nat.lt_or_ge t n with h | h
 ·exact cutLines_mid g o n c lv f t W hr hn hc hft htn hn1 h
 ·obtain rfl:n=t:=by omega
  exact cutLines_end g o n c lv f W hr hn hft hn1
set_option maxHeartbeats 2000000
set_option maxRecDepth 100000
theorem qmy {ops : Array Oper} {o : Oper} {a : Act} {w : World} {K : Act → World → Prop} {Q : Exit → Act → World → Prop} {E : Prop} (hgd : o.guard = none) (s x : Operand)
  (ho:o.op=.call { callee:=.builtin .append,args:=#[s,x],argTypes:=#[53,53] }) (base:Nat) (v xv:Value) (l m:List Ce)
  (hs:a.eval s=v) (hown:OwnC w base v l) (hxe:a.eval x=xv) (hx:CeRow w xv m) (hb:l.length+m.length≤1000000) (hbase:base≤w.heap.size)
  (h:∀ v' w',OwnC w' base v' (l ++ m)→w.grownBy w' v.ownBlock→K (a.put o.dst v') w'):if Region.wanted o (yielded ops a.tmps)=true then Oper.wp Tryz.prog o a w K Q else E:=by
 have hw:Region.wanted o (yielded ops a.tmps)=true:=by simp[Region.wanted,hgd]
 rw[if_pos hw]
 obtain⟨v',w',hrun,h2,h3⟩:=qix w base v xv l m hown hx o.type hb hbase
 unfold Oper.wp
 simp[execOp,ho,resolve,invoke,builtin,hs,hxe,hrun,Result.andThen]
 exact h v' w' h2 h3
def qmz (W:World) (C:Nat) (a:At) (e:Ending) (w':World):Prop :=
 ∃ v,e=.returned (.agg #[v,.bool false])∧CSl w' W.heap.size v (List.replicate C (qd0 a))∧Below W.heap.size W w'
theorem rBare_any (C : Nat) (a : At) (W : World) (hC : C ≤ 1000) :
  Calls Tryz.prog 19 #[.int .i64 (C:Int),a.agg] W (qmz W C a):=by
 have hblk:=rblank_any a
 obtain⟨x,hxb⟩:∃ x,qd0 a=x:=⟨_,rfl⟩
 unfold qmz
 rw[hxb] at hblk ⊢
 obtain⟨fg,bg,fl⟩:=a
 unfold At.agg Ce.agg Ce.cells at hblk
 unfold At.agg
 simp only at hblk ⊢
 have b0:=(((Bxs.nil W).alloc 26 #[.int .i64 fg,.int .i64 bg,.int .i64 fl]).alloc 55 #[.slice none 0 0,.bool false]).alloc 55 #[.slice none 0 0,.bool false]
 simp only[World.size_alloc,List.nil_append,List.cons_append] at b0
 have h0:Below W.heap.size W (((W.alloc (.cells #[.int .i64 fg,.int .i64 bg,.int .i64 fl] 26)).alloc (.cells #[.slice none 0 0,.bool false] 55)).alloc (.cells #[.slice none 0 0,.bool false] 55)):=((qa _ _).alloc (by simp) _).alloc (by simp;omega) _
 have BX0:=hid b0
 have H0:=hid h0
 have HBLK:=hid hblk
 clear b0 h0 hblk hxb
 go_enter Tryz.func19,Tryz.ntmps19
 go_wp2
 go_loopw [6] (fun i wr=>∃ k:Nat,k≤C∧i=.int .i64 k∧(∃ ov,Box wr (W.heap.size+1+1) 55 #[ov,.bool false]∧OwnC wr W.heap.size ov (List.replicate k x))∧Box wr W.heap.size 26 #[.int .i64 fg,.int .i64 bg,.int .i64 fl]∧Box wr (W.heap.size+1) 55 #[.slice none 0 0,.bool false]∧Below W.heap.size W wr) (fun i _=>C - (intOf i).toNat)
 case atStart=>exact⟨0,by omega,rfl,⟨_,BX0.out.get 2 rfl,OwnC.nil _ _⟩,BX0.out.get 0 rfl,BX0.out.get 1 rfl,H0.out⟩
 case round =>
  obtain⟨k,hk,rfl,⟨ov,hbo,hown⟩,hba,hbz,hbr⟩:=hrel
  obtain⟨oA,oc,rfl⟩:=hown.spell
  rw[List.length_replicate] at hown hbo
  obtain⟨⟨k0,k1⟩,f0,f1⟩:=hbo.two
  obtain⟨⟨a0,a1,a2⟩,e0,e1,e2⟩:=hba.three
  by_cases hlt:k < C
  ·have hki:(k:Int) < C:=by omega
   have hkb:(k:Int)≤1000:=by omega
   have hltb:W.heap.size+1+1 < wr.heap.size:=hbo.lt
   have HOWN:=hid hown
   have HBO:=hid hbo
   have HBA:=hid hba
   have HBZ:=hid hbz
   have HBR:=hid hbr
   clear hown hbo hba hbz hbr
   have hd0:Below wr.heap.size wr wr.drew:=(Below.refl _ _).drew
   go_upto_region 5 with fail
   first | go_region_law (first | (go_simp;go_at_call 51;refine(HBLK.out _).mono ?_;rintro e w5 ⟨rfl,hb5⟩;have hd5:=hd0.trans (hb5.mono hd0.size);obtain⟨⟨k0,k1⟩,f0,f1⟩:=(HBO.out.below hd5 HBO.out.lt).two;have hlt6:W.heap.size+1+1 < w5.heap.size:=Nat.lt_of_lt_of_le hltb hd5.size;have hd6:=hid (hd5.trans ((qa w5 (.cells #[.string x.tx,.int .i64 x.wd,.int .i64 x.fg,.int .i64 x.bg,.int .i64 x.fl] 57)).mono hd5.size));have hlit:=ce_lit w5 x;unfold Ce.cells at hlit;have HLIT:=hid hlit;clear hlit) | (refine qmy rfl _ _ rfl W.heap.size _ _ (List.replicate k x) [x] rfl (HOWN.out.kept hd6.out) rfl HLIT.out (by simp;omega) (Nat.le_trans HBR.out.size hd6.out.size) ?_;intro v' w7 h1 h2;obtain⟨A',c',hv'⟩:=h1.spell;rw[List.length_append,List.length_replicate,List.length_singleton] at hv';subst hv';have H1:=hid h1;have H2:=hid h2;clear h1 h2;have hb7:=(HBO.out.below hd6.out HBO.out.lt).grown H2.out (OwnC.not_box (HOWN.out.kept hd6.out) (HBO.out.below hd6.out HBO.out.lt) (by decide));obtain⟨⟨m0,m1⟩,n0,n1⟩:=hb7.two)) | fail
   all_goals
    have own7:OwnC (w7.setCell ⟨W.heap.size+1+1,0,none⟩ (.slice A' (k+1) c')) W.heap.size (.slice A' (k+1) c') (List.replicate (k+1) x):=by
     rw[List.replicate_succ']
     exact H1.out.set hb7 (by decide) _
    have box7:=hb7.set (i:=0) (.slice A' (k+1) c')
    have boxa:=((HBA.out.below hd6.out HBA.out.lt).grown H2.out (OwnC.not_box (HOWN.out.kept hd6.out) (HBA.out.below hd6.out HBA.out.lt) (by decide))).other (b':=W.heap.size+1+1) (i:=0) (by omega) (.slice A' (k+1) c')
    have boxz:=((HBZ.out.below hd6.out HBZ.out.lt).grown H2.out (OwnC.not_box (HOWN.out.kept hd6.out) (HBZ.out.below hd6.out HBZ.out.lt) (by decide))).other (b':=W.heap.size+1+1) (i:=0) (by omega) (.slice A' (k+1) c')
    have hlt7:∀ q,(Value.slice oA k oc).ownBlock=some q→W.heap.size≤q:=fun q hq=>(World.ownsRow.lt (HOWN.out.kept hd6.out) q hq).1
    have hbb:=(((HBR.out.trans (hd6.out.mono HBR.out.size)).trans ((Below.refl W.heap.size _).grown H2.out (Nat.le_trans HBR.out.size hd6.out.size) hlt7))).setCell (p:=⟨W.heap.size+1+1,0,none⟩) (by show W.heap.size≤W.heap.size+1+1;omega) (.slice A' (k+1) c')
    have HO:=hid own7
    have HX:=hid box7
    have HA:=hid boxa
    have HZ:=hid boxz
    have HBB:=hid hbb
    clear own7 box7 boxa boxz hlt7 hbb m0 m1 n0 n1 hb7
    go_wp2
    go_roundw
    case rel=>exact⟨k+1,by omega,by go_num,⟨_,HX.out,HO.out⟩,HA.out,HZ.out,HBB.out⟩
    case measure=>simp[intOf];omega
  ·have hkm:k=C:=by omega
   subst hkm
   obtain⟨⟨z0,z1⟩,y0,y1⟩:=hbz.two
   have HOWN:=hid hown
   have HBZ:=hid hbz
   have HBR:=hid hbr
   clear hown hbz hbr hbo hba
   go_wp2
   refine bodyPost_ret (v:=.agg #[.slice oA k oc,.bool false]) (by simp[results,Tryz.results19,go_sem,z0,z1]) rfl ⟨_,rfl,?_,?_⟩
   ·exact((HOWN.out.csl.set HBZ.out (by decide) _).set (HBZ.out.set (i:=0) _) (by decide) _)
   ·exact qcu (qcu HBR.out (by omega) _) (by omega) _
end Go.Proofs.YtpdaekmbpafenaaGreatDoor
