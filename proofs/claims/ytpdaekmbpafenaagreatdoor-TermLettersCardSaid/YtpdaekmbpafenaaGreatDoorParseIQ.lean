
import Derived.Test.YtpdaekmbpafenaaGreatDoorParseFQ
import Derived.Deep.DeepCutAuto
import Derived.IntWalk
import Derived.Test.YtpdaekmbpafenaaGreatDoorIRowQ
namespace Go.Proofs.YtpdaekmbpafenaaGreatDoor
set_option maxHeartbeats 1000000
set_option maxRecDepth 100000
open Go.RowKit
def IntRow (lo:Nat) (w:World) (row:Option Nat):Prop:=∀ g,row=some g→lo≤g∧∃ cur,w.heap[g]?=some (.cells cur 3 (0,0))
theorem IntRow.box {lo b:Nat} {w:World} {row:Option Nat} {t:TypeId} {cs:Array Value} (h:IntRow lo w row) (hb:Box w b t cs) (ht:t≠3):some b≠row:=by
 intro e
 obtain⟨_,cur,hc⟩:=h b e.symm
 have hb':w.heap[b]?=some (.cells cs t (0,0)):=hb
 rw[hc] at hb'
 cases hb'
 exact ht rfl
theorem IntRow.own {lo base:Nat} {w:World} {row:Option Nat} {v:Value} {l:List (Dn×Value)} (h:IntRow lo w row) (ho:OwnD w base v l):v.ownBlock=none∨v.ownBlock≠row:=by
 cases hv:v.ownBlock with
 | none=>exact .inl rfl
 | some g =>
  refine .inr (fun e=>?_)
  obtain⟨_,cur,hc⟩:=h g e.symm
  exact ho.not_int g cur hv hc
theorem IntRow.kept {lo:Nat} {w w':World} {row:Option Nat} (h:IntRow lo w row) (hg:w.grownBy w' row):Kept lo w w':=Kept.grown lo hg (fun g _ e _=>(h g e).1)
theorem IntRow.own_int {lo:Nat} {w:World} {v:Value} {l:List Int} (h:OwnI w lo v l):IntRow lo w v.ownBlock:=by
 intro g e
 rcases h.2 with ⟨rfl,_⟩ | ⟨g',cap,cur,rfl,hb,hg,_⟩
 ·cases e
 ·simp only[Value.ownBlock,Option.some.injEq] at e
  subst e
  exact⟨hb,cur,hg⟩
theorem qmd {lo hi : Nat} {w : World} {v : Value} {L : List Int} (hown : NumO w lo hi v L) (n : Int) (ad : Addr) (c : Nat) (ty : TypeId) (hc : w.cell? ad = some (.int .i64 n)) (hb : L.length ≤ 1000) (hbase : lo ≤ w.heap.size) :
  ∃ v' w' row,(Builtin.append_ #[29,29] ty #[v,.slice (some ad) 1 c]).run Tryz.prog w=.ok v' w'∧NumO w' lo w'.heap.size v' (L ++ [n])∧w.grownBy w' row∧IntRow lo w row:=by
 obtain⟨i0,hi',hz0,hz1,hz2⟩:=info_parts int_info
 have hnews:∀ j u,[Value.int .i64 n][j]?=some u→w.cell? (ad.add j)=some u:=by
  intro j u hu
  cases j with
  | zero =>
   have hadd:ad.add 0=ad:=by unfold Addr.add;obtain⟨b,o,k⟩:=ad;cases k <;> rfl
   rw[hadd,hc]
   simpa using hu
  | succ j=>simp at hu
 rcases hown with ⟨rfl,A,rfl⟩ | ⟨hown,_⟩
 ·cases A with
  | none =>
   obtain⟨v',w',hrun,h2,h3,_⟩:=run_append_own (P:=Tryz.prog) w lo 29 ty 3 i0 (.int .i64 0) 1 8 Tryz.underlying29 hi' hz0 hz1 hz2 rfl (by decide) (.slice none 0 0) 0 [] ⟨rfl,.inl ⟨rfl,rfl⟩⟩ ad 1 c [.int .i64 n] rfl hnews (by simp[Value.oneCell']) (by unfold maxLen;omega) (by omega) hbase
   refine⟨v',w',_,hrun,.inr ⟨h2,fun g e=>(World.ownsRow.lt h2 g e).2⟩,h3,?_⟩
   intro g e
   cases e
  | some a =>
   have hr:=run_append_grow (P:=Tryz.prog) w 29 ty 3 i0 (.int .i64 0) Tryz.underlying29 hi' hz0 a 0 0 [] (by simp) (by simp) ad 1 c [.int .i64 n] (by rw[hz1];rfl) hnews (by omega) (by decide) (growslice_fits (by omega) (by rw[hz2];decide))
   refine⟨_,_,none,hr,.inr ⟨⟨by simp[qfo],.inr ⟨w.heap.size,_,_,rfl,hbase,heap_alloc_new w.drew _,grownCap_ge w 1 0 _,grownCap_le_maxLen w 1 0 _ (by decide),?_,?_⟩⟩,?_⟩,⟨rfl,rfl,rfl,by simp,fun k hk _=>Below.heap_alloc w.drew _ k hk⟩,fun g e=>by cases e⟩
   ·have hge:=grownCap_ge w 1 0 3
    simp only[Array.size_append,List.size_toArray,size_zeroCells,Value.cells]
    simp
    omega
   ·simp[qfo]
   ·intro g e
    simp only[Value.ownBlock,Option.some.injEq] at e
    subst e
    simp
 ·obtain⟨v',w',hrun,h2,h3,_⟩:=run_append_own (P:=Tryz.prog) w lo 29 ty 3 i0 (.int .i64 0) 1 8 Tryz.underlying29 hi' hz0 hz1 hz2 rfl (by decide) v L.length (qfo L) hown ad 1 c [.int .i64 n] rfl hnews (by simp[Value.oneCell']) (by unfold maxLen;omega) (by omega) hbase
  refine⟨v',w',_,hrun,.inr ⟨?_,fun g e=>(World.ownsRow.lt h2 g e).2⟩,h3,IntRow.own_int hown⟩
  unfold OwnI
  rw[List.length_append,qkw]
  exact h2
theorem qf2 {ops : Array Oper} {rest : List Oper} {o : Oper} {a : Act} {w : World} {Q : Exit → Act → World → Prop} (hgd : o.guard = none) (s x : Operand)
  (ho:o.op=.call { callee:=.builtin .append,args:=#[s,x],argTypes:=#[29,29] }) (lo hi:Nat) (v:Value) (L:List Int) (hs:a.eval s=v) (hown:NumO w lo hi v L)
  (n:Int) (ad:Addr) (c:Nat) (hx:a.eval x=.slice (some ad) 1 c) (hc:w.cell? ad=some (.int .i64 n)) (hb:L.length≤1000) (hbase:lo≤w.heap.size)
  (h:∀ v' w' row,NumO w' lo w'.heap.size v' (L ++ [n])→w.grownBy w' row→IntRow lo w row→wpList Tryz.prog ops Q rest (a.put o.dst v') w'):wpList Tryz.prog ops Q (o :: rest) a w:=by
 obtain⟨v',w',row,hr,h2,h3,h4⟩:=qmd hown n ad c o.type hc hb hbase
 refine wpList_plain hgd fun K hK=>?_
 unfold Oper.wp execOp
 simp only[ho,resolve,invoke,builtin,Sem.run_bind,Sem.run_pure,Result.andThen_ok,List.map_toArray,List.map_cons,List.map_nil,hs,hx,hr]
 exact hK _ _ (h v' w' row h2 h3 h4)
theorem par_end {B R P : Nat} {W W2 w7 : World} {p : Pa} {v dv v' : Value} {lv : List (Dn × Value)} {row : Option Nat} {L : List Int} (hBR : B ≤ R) (hBP : B ≤ P) (hP : P ≤ W.heap.size) (hbox : Box W R 126 (qba R p v dv)) (hown : OwnD W B dv lv)
  (hnum:∀ e∈lv,NumO W B P e.2 e.1.params∧e.1.params.length≤16) (h2:Below W.heap.size W W2) (hg:W2.grownBy w7 row) (hr:IntRow P W2 row) (hv:NumO w7 P w7.heap.size v' L) :
  Rd B R (w7.setCell ⟨R,2,none⟩ v') { p with params:=L } (lv.map Prod.fst)∧Below B W (w7.setCell ⟨R,2,none⟩ v'):=by
 have box2:=hbox.below h2 hbox.lt
 have own2:=hown.kept h2
 have box7:=box2.grown hg (hr.box box2 (by decide))
 have own7:OwnD w7 B dv lv:=World.ownsRow.kept own2 hg (hr.own own2)
 have kp:Kept P W (w7.setCell ⟨R,2,none⟩ v'):=((Kept.of_below P h2).trans (hr.kept hg)).trans (Kept.set P box7 (by decide) _)
 have hz:w7.heap.size=(w7.setCell ⟨R,2,none⟩ v').heap.size:=by simp[World.setCell]
 have hle:W.heap.size≤w7.heap.size:=Nat.le_trans h2.size hg.size
 refine⟨⟨v',lv,P,rfl,hBP,by omega,⟨dv,hBR,box7.set v',own7.set box7 (by decide) _,fun e he=>⟨(hnum e he).1.kept kp,(hnum e he).2⟩⟩,?_⟩,?_⟩
 ·exact(hv.kept (Kept.set _ box7 (by decide) _)).mono (Nat.le_refl _) (by omega)
 ·exact((h2.mono (by omega)).grown hg (by have:=h2.size;omega) (fun k e=>Nat.le_trans hBP (hr k e).1)).setCell hBR _
theorem qh3 {B R : Nat} {W : World} {p : Pa} {l : List Dn} (h : Rd B R W p l) (hp : p.params.length ≤ 16) :
  Calls Tryz.prog 220 #[.pointer (some ⟨R,0,none⟩)] W (qae B R W { p with params:=qau p.params } l):=by
 have hrd:=h
 obtain⟨v,lv,P,rfl,h1,h2,⟨dv,hBR,hbox,hown,hnum⟩,hv⟩:=h
 have hvO:=hv
 obtain⟨A,c,rfl⟩:=hv.spell
 have hR:=hbox.lt
 have c2:W.cell? ⟨R,2,none⟩=some (.slice A p.params.length c):=hbox.cell 2
 have f2:W.frozen? ⟨R,2,none⟩=false:=hbox.free 2
 by_cases hl:p.params=[]
 ·have hlen:p.params.length=0:=by rw[hl];rfl
  have ho:qau p.params=[] ++ [0]:=by unfold qau;rw[if_pos hl];rfl
  rw[hlen] at c2 hbox hv
  rw[hl] at hv
  rw[ho]
  have HB:=hid hbox
  have HN:=hid hnum
  have HO:=hid hown
  have HV:=hid hv
  clear hbox hnum hown hv hvO hrd hl hlen ho
  have hlt:W.heap.size < W.heap.size+1:=by omega
  go_enter Tryz.func220,Tryz.ntmps220
  go_wp2_with (at_builtin;refine qf2 rfl _ _ rfl P W.heap.size _ [] rfl (HV.out.kept (Kept.of_below _ (qa _ _))) 0 ⟨W.heap.size,0,none⟩ 1 rfl ?_ (by simp) (by simp;omega) ?_;(· go_simp);intro v' w7 row hv7 hg7 hr7;have HE:=hid (par_end hBR h1 h2 HB.out HO.out HN.out (qa _ _) hg7 hr7 hv7);have b7:=((HB.out.alloc (.cells #[.int .i64 0] 3)).grown hg7 (hr7.box (HB.out.alloc _) (by decide)));have g2:w7.cell? ⟨R,2,none⟩=some (.slice A 0 c):=b7.cell 2;have k2:w7.frozen? ⟨R,2,none⟩=false:=b7.free 2;obtain⟨A',c',rfl⟩:=hv7.spell;clear hv7 hg7 hr7 b7)
  go_end0
  exact⟨rfl,HE.out⟩
 ·have ho:qau p.params=p.params:=by unfold qau;rw[if_neg hl]
  rw[ho]
  have hpos:0 < p.params.length:=List.length_pos_iff.2 hl
  have HR:=hid hrd
  clear hbox hnum hown hv hvO hrd hl ho
  obtain⟨m,hm⟩:∃ m,p.params.length=m:=⟨_,rfl⟩
  rw[hm] at c2 hpos
  have hne:((m:Int) == 0)=false:=by simp;omega
  clear hm
  go_enter Tryz.func220,Tryz.ntmps220
  go_wp2
  go_end0
  exact⟨rfl,HR.out,Below.refl _ _⟩
theorem qm1 {B R : Nat} {W : World} {p : Pa} {l : List Dn} (h : Rd B R W p l) (hp : p.params.length ≤ 16) :
  Calls Tryz.prog 192 #[.pointer (some ⟨R,0,none⟩)] W (qae B R W (if (qau p.params).length=16 then .to 5 else { p with params:=qau p.params ++ [0] }) l):=by
 have hf:=qh3 h hp
 have hq:∀ w',qae B R W { p with params:=qau p.params } l (.returned (.tuple #[])) w'→Rd B R w' { p with params:=qau p.params } l∧Below B W w':=fun w' h=>h.2
 have HF:=hid hf
 have HQ:=hid hq
 have ho:(qau p.params).length≤16:=by
  unfold qau
  split
  ·simp
  ·exact hp
 clear hf hq
 by_cases h16:(qau p.params).length=16
 ·rw[if_pos h16]
  have H16:=hid h16
  clear h16 ho
  go_enter Tryz.func192,Tryz.ntmps192
  go_wp2_with (first | (go_at_call 220;refine HF.out.mono ?_;rintro e w1 ⟨rfl,hr1,hb1⟩;obtain⟨A,c,dA,n,dc,hbox,_⟩:=hr1.cells;have c2:w1.cell? ⟨R,2,none⟩=some (.slice A (qau p.params).length c):=hbox.cell 2;rw[H16.out] at c2;have HE:=hid (qao hr1 5);clear hr1 hbox) | (go_at_call 147;refine HE.out.mono ?_;rintro e w3 ⟨rfl,h3,h4⟩;have H3:=hid h3;clear h3))
  go_end0
  exact⟨rfl,H3.out,hb1.trans h4⟩
 ·rw[if_neg h16]
  have hm:∃ m:Nat,(qau p.params).length=m:=⟨_,rfl⟩
  obtain⟨m,hm⟩:=hm
  rw[hm] at h16 ho
  have hne:((m:Int) == 16)=false:=by simp;omega
  have HM:=hid hm
  clear hm
  go_enter Tryz.func192,Tryz.ntmps192
  go_upto_region 1 with (go_at_call 220;refine HF.out.mono ?_;rintro e w1 ⟨rfl,hr1,hb1⟩)
  obtain⟨v,lv,P,rfl,h1,h2,⟨dv,hBR,hbox,hown,hnum⟩,hv⟩:=hr1
  obtain⟨A,c,rfl⟩:=hv.spell
  have hR:=hbox.lt
  simp only at hv hbox
  rw[HM.out] at hbox hv
  have c2:w1.cell? ⟨R,2,none⟩=some (.slice A m c):=hbox.cell 2
  have f2:w1.frozen? ⟨R,2,none⟩=false:=hbox.free 2
  have hmL:(qau p.params).length≤1000:=by rw[HM.out];omega
  have HB:=hid hbox
  have HN:=hid hnum
  have HO:=hid hown
  have HV:=hid hv
  have HML:=hid hmL
  clear hbox hnum hown hv hmL
  have hlt:w1.heap.size < w1.heap.size+1:=by omega
  go_wp2_with (at_builtin;refine qf2 rfl _ _ rfl P w1.heap.size _ (qau p.params) rfl (HV.out.kept (Kept.of_below _ (qa _ _))) 0 ⟨w1.heap.size,0,none⟩ 1 rfl ?_ HML.out (by simp;omega) ?_;(· go_simp);intro v' w7 row hv7 hg7 hr7;have HE:=hid (par_end hBR h1 h2 HB.out HO.out HN.out (qa _ _) hg7 hr7 hv7);have b7:=((HB.out.alloc (.cells #[.int .i64 0] 3)).grown hg7 (hr7.box (HB.out.alloc _) (by decide)));have g2:w7.cell? ⟨R,2,none⟩=some (.slice A m c):=b7.cell 2;have k2:w7.frozen? ⟨R,2,none⟩=false:=b7.free 2;obtain⟨A',c',e'⟩:=hv7.spell;rw[List.length_append,List.length_singleton] at e';subst e';clear hv7 hg7 hr7 b7)
  go_end0
  exact⟨rfl,HE.out.1,hb1.trans HE.out.2⟩
theorem NumO.last {W : World} {lo hi : Nat} {l : List Int} {g c : Nat} (h : NumO W lo hi (.slice (some ⟨g, 0, none⟩) l.length c) l) (hl : l ≠ []) (x : Int) :
  NumO (W.setCell ⟨g,l.length - 1,none⟩ (.int .i64 x)) lo hi (.slice (some ⟨g,0,none⟩) l.length c) (l.dropLast ++ [x])∧IntRow lo W (some g)∧W.cell? ⟨g,l.length - 1,none⟩=some (.int .i64 (l.getLastD 0))∧W.frozen? ⟨g,l.length - 1,none⟩=false:=by
 have hpos:0 < l.length:=List.length_pos_iff.2 hl
 have hlen:(l.dropLast ++ [x]).length=l.length:=by simp;omega
 rcases h with ⟨h,_⟩ | ⟨h,hlt⟩
 ·exact absurd h hl
 ·have h':W.ownsRow lo 3 1 (.slice (some ⟨g,0,none⟩) l.length c) l.length (qfo l):=h
  have hr:=IntRow.own_int h
  have hlast:l[l.length - 1]?=some (l.getLastD 0):=by
   rw[← List.getLast?_eq_getElem?,List.getLastD_eq_getLast?,List.getLast?_eq_some_getLast hl]
   rfl
  have hcell:=h'.cellAt (l.length - 1) (by omega)
  rw[show (qfo l)[l.length - 1]?=some (.int .i64 (l.getLastD 0)) by unfold qfo;rw[List.getElem?_map,hlast];rfl] at hcell
  rcases h.2 with ⟨h0,_⟩ | ⟨g',cap,cur,e,hb,hg,hc,hm,hs,ht⟩
  ·cases h0
  ·cases e
   have hW:(W.setCell ⟨g,l.length - 1,none⟩ (.int .i64 x)).heap[g]?=some (.cells (cur.setIfInBounds (l.length - 1) (.int .i64 x)) 3 (0,0)):=Box.set (i:=l.length - 1) hg (.int .i64 x)
   refine⟨.inr ⟨⟨?_,.inr ⟨g,c,_,?_,hb,hW,?_,hm,?_,?_⟩⟩,hlt⟩,hr,hcell,Box.free hg _⟩
   ·rw[qhy];omega
   ·rw[hlen]
   ·rw[hlen];exact hc
   ·rw[Array.size_setIfInBounds];exact hs
   ·rw[hlen,Array.toList_setIfInBounds]
    apply List.ext_getElem?
    intro j
    have ht':∀ j,j < l.length→cur.toList[j]?=(qfo l)[j]?:=by
     intro j hj
     rw[← ht,List.getElem?_take,if_pos (by omega)]
    unfold qfo
    rw[List.getElem?_map,List.getElem?_take]
    by_cases hj:j < l.length
    ·rw[if_pos (by omega),List.getElem?_set]
     by_cases hj2:j=l.length - 1
     ·subst hj2
      have hcs:l.length - 1 < cur.toList.length:=by
       have:cur.toList.length=cur.size:=Array.length_toList
       omega
      rw[if_pos rfl,if_pos hcs,List.getElem?_append_right (by simp)]
      simp
     ·rw[if_neg (by omega),ht' j hj,List.getElem?_append_left (by simp;omega),List.getElem?_dropLast,if_pos (by omega)]
      unfold qfo
      rw[List.getElem?_map]
    ·rw[if_neg (by omega)]
     have:(l.dropLast ++ [x])[j]?=none:=List.getElem?_eq_none (by omega)
     rw[this]
     rfl
theorem digit_end {B R P g : Nat} {W : World} {p : Pa} {c : Nat} {dv : Value} {lv : List (Dn × Value)} {L : List Int} (hBR : B ≤ R) (hBP : B ≤ P) (hP : P ≤ W.heap.size) (hL : L ≠ []) (hbox : Box W R 126 (qba R { p with params := L } (.slice (some ⟨g, 0, none⟩) L.length c) dv)) (hown : OwnD W B dv lv)
  (hnum:∀ e∈lv,NumO W B P e.2 e.1.params∧e.1.params.length≤16) (hv:NumO W P W.heap.size (.slice (some ⟨g,0,none⟩) L.length c) L) (x:Int) :
  Rd B R (W.setCell ⟨g,L.length - 1,none⟩ (.int .i64 x)) { p with params:=L.dropLast ++ [x] } (lv.map Prod.fst)∧Below B W (W.setCell ⟨g,L.length - 1,none⟩ (.int .i64 x)):=by
 obtain⟨h1,h2,_,_⟩:=hv.last hL x
 obtain⟨h5,cur,h6⟩:=h2 g rfl
 have hg:W.grownBy (W.setCell ⟨g,L.length - 1,none⟩ (.int .i64 x)) (some g):=qad (World.grownBy.refl W _) _
 have hz:W.heap.size=(W.setCell ⟨g,L.length - 1,none⟩ (.int .i64 x)).heap.size:=by simp[World.setCell]
 refine⟨⟨_,lv,P,rfl,hBP,by omega,⟨dv,hBR,hbox.grown hg (h2.box hbox (by decide)),World.ownsRow.kept hown hg (h2.own hown),fun e he=>⟨(hnum e he).1.kept (h2.kept hg),(hnum e he).2⟩⟩,?_⟩,?_⟩
 ·exact h1.mono (Nat.le_refl _) (by omega)
 ·exact(Below.refl B W).setCell (show B≤g by omega) _
theorem getLastD_mem {l:List Int} (h:l≠[]):l.getLastD 0∈l:=by
 rw[List.getLastD_eq_getLast?,List.getLast?_eq_some_getLast h]
 exact List.getLast_mem h
theorem digit_any {B R : Nat} {W : World} {p : Pa} {l : List Dn} (h : Rd B R W p l) (hr : ∀ n ∈ p.params, 0 ≤ n ∧ n ≤ 9999) (hp : p.params.length ≤ 16) (d : Int) (hd : 0 ≤ d ∧ d ≤ 9) :
  Calls Tryz.prog 191 #[.pointer (some ⟨R,0,none⟩),.int .i64 d] W (qae B R W { p with params:=qd9 (qau p.params) d } l):=by
 have hf:=qh3 h hp
 obtain⟨o1,o2,o3⟩:=parOne_ok hr hp
 have hx:=o1 _ (getLastD_mem o3)
 have hpd:qd9 (qau p.params) d=(qau p.params).dropLast ++ [if 9999 < 10 * (qau p.params).getLastD 0+d then 9999 else 10 * (qau p.params).getLastD 0+d]:=rfl
 generalize qau p.params=L at *
 obtain⟨k,hk⟩:∃ k:Nat,L.length=k+1:=⟨L.length - 1,by have:=List.length_pos_iff.2 o3;omega⟩
 have HF:=hid hf
 have HK:=hid hk
 obtain⟨x,hxx⟩:∃ x,L.getLastD 0=x:=⟨_,rfl⟩
 rw[hxx] at hx hpd
 have HPD:=hid hpd
 have HX:=hid hxx
 obtain⟨d0,d9⟩:=hd
 obtain⟨x0,x9⟩:=hx
 have hk16:k≤15:=by omega
 clear hf hk hr hp o1 o2 hpd hxx
 go_enter Tryz.func191,Tryz.ntmps191
 go_upto_region 1 with (go_at_call 220;refine HF.out.mono ?_;rintro e w1 ⟨rfl,hr1,hb1⟩)
 obtain⟨v,lv,P,rfl,h1,h2,⟨dv,hBR,hbox,hown,hnum⟩,hv⟩:=hr1
 obtain⟨g,c,rfl,hPg,hg1,hg2,hkc,_⟩:=hv.row o3
 obtain⟨_,_,hcl,hfl⟩:=hv.last o3 0
 simp only at hcl hfl hkc
 rw[HK.out,HX.out] at hcl
 rw[HK.out] at hfl hkc
 rw[Nat.add_sub_cancel] at hcl hfl
 have hE:=fun (n:Nat) y=>digit_end (W:=w1.drewN n) hBR h1 h2 o3 hbox.drewN (show OwnD (w1.drewN n) B dv lv from hown) hnum hv y
 rw[HK.out,Nat.add_sub_cancel] at hE
 have HE:=hid hE
 clear hE
 rw[show ({ p with params:=L }:Pa).params.length=k+1 from HK.out] at hbox
 have c2:w1.cell? ⟨R,2,none⟩=some (.slice (some ⟨g,0,none⟩) (k+1) c):=hbox.cell 2
 clear hbox hown hnum hv
 have s1:IntKind.i64.wrap ((k:Int)+1 - 1)=(k:Int):=by rw[IntWalk.i64_in _ (by omega)];omega
 have s2:(0:Int)≤k:=by omega
 go_quiet (fail)
 go_wp2
 all_goals go_end0
 ·have e:qd9 L d=L.dropLast ++ [9999]:=by rw[HPD.out,if_pos (by omega)]
  obtain⟨e1,e2⟩:=HE.out nq 9999
  rw[e]
  exact⟨rfl,e1,hb1.trans ((qf _ nq).mono (by omega) |>.trans e2)⟩
 ·have e:qd9 L d=L.dropLast ++ [x * 10+d]:=by rw[HPD.out,if_neg (by omega),Int.mul_comm]
  obtain⟨e1,e2⟩:=HE.out nq (x * 10+d)
  rw[e]
  exact⟨rfl,e1,hb1.trans ((qf _ nq).mono (by omega) |>.trans e2)⟩
set_option maxHeartbeats 2000000
set_option maxRecDepth 100000
def qj (p:Pa) (c:Int):Pa×List Dn :=
 if p.st=6 then oscP p c
 else if p.st=7 then (p,[])
 else if c < 32 then (p,[qeg c])
 else if p.st=0 then (if 127 < c then qh4 p c else (p,if c < 127 then [qb8 c] else []))
 else if p.st=1∨p.st=2 then qe9 p c
 else if p.st=3 then qgu p c
 else if p.st=4 then qc1 p c
 else if p.st=5 then (if 64≤c∧c≤126 then (.to 0,[]) else (p,[]))
 else if (48≤c∧c≤126)∨127 < c then (.to 0,[]) else (p,[])
theorem qmc (p:Pa) (c:Int):oneP p c=if c=24∨c=26 then (.to 0,if p.st=6∨p.st=7 then [] else [qeg c]) else if c=27 then (.to 1,if p.st=6 then [dOsc p.osc] else []) else qj p c:=rfl
theorem qc0 {f:FuncId} {args:Array Value} {B R:Nat} {W:World} {x:Pa×List Dn} {q:Pa} {l d:List Dn} (e:x=(q,d)) (hc:Calls Tryz.prog f args W (qae B R W q (l ++ d))):Calls Tryz.prog f args W (qae B R W x.1 (l ++ x.2)):=by rw[e];exact hc
theorem qv {f:FuncId} {args:Array Value} {B R:Nat} {W:World} {x:Pa×List Dn} {q:Pa} {l:List Dn} (e:x=(q,[])) (hc:Calls Tryz.prog f args W (qae B R W q l)):Calls Tryz.prog f args W (qae B R W x.1 (l ++ x.2)):=by rw[e];simpa using hc
theorem rd_inter {B R : Nat} {W : World} {p : Pa} {l : List Dn} (h : Rd B R W p l) (i : Int) : ∃ W', W' = (((((W.setCell ⟨R, 0, none⟩ (.int .i64 2)).setCell ⟨R, 1, none⟩ (.int .i64 0)).setCell ⟨R, 2, none⟩ (.slice none 0 0)).setCell ⟨R, 3, none⟩ (.int .i64 i)).setCell ⟨R, 4, none⟩ (.string ⟨#[]⟩)).setCell ⟨R, 5, none⟩ (.string ⟨#[]⟩) ∧
  Rd B R W' { Pa.to 2 with inter:=i } l∧Below B W W':=by
 obtain⟨v,lv,P,rfl,h1,h2,⟨dv,hBR,h,hown,hnum⟩,hv⟩:=h
 have hg:W.grownBy ((((((W.setCell ⟨R,0,none⟩ (.int .i64 2)).setCell ⟨R,1,none⟩ (.int .i64 0)).setCell ⟨R,2,none⟩ (.slice none 0 0)).setCell ⟨R,3,none⟩ (.int .i64 i)).setCell ⟨R,4,none⟩ (.string ⟨#[]⟩)).setCell ⟨R,5,none⟩ (.string ⟨#[]⟩)) (some R):=qad (qad (qad (qad (qad (qad (World.grownBy.refl W _) _) _) _) _) _) _
 refine⟨_,rfl,⟨.slice none 0 0,lv,P,rfl,h1,Nat.le_trans h2 hg.size,RdX.turned hBR h hown hnum ?_ hg,NumO.nil _ _ _⟩,?_⟩
 ·obtain⟨p1,p2,p3,p4,p5,p6⟩:=p
  have h1:Box (W.setCell ⟨R,0,none⟩ (.int .i64 2)) R 126 (qba R ⟨2,p2,p3,p4,p5,p6⟩ v dv):=h.set _
  have h2:Box (_) R 126 (qba R ⟨2,0,p3,p4,p5,p6⟩ v dv):=h1.set (i:=1) (.int .i64 0)
  have h3:Box (_) R 126 (qba R ⟨2,0,[],p4,p5,p6⟩ (.slice none 0 0) dv):=h2.set (i:=2) (.slice none 0 0)
  have h4:Box (_) R 126 (qba R ⟨2,0,[],i,p5,p6⟩ (.slice none 0 0) dv):=h3.set (i:=3) (.int .i64 i)
  have h5:Box (_) R 126 (qba R ⟨2,0,[],i,nilB,p6⟩ (.slice none 0 0) dv):=h4.set (i:=4) (.string nilB)
  exact h5.set (i:=5) (.string nilB)
 ·exact((((((Below.refl B W).setCell hBR _).setCell hBR _).setCell hBR _).setCell hBR _).setCell hBR _).setCell hBR _
theorem qjq {B R:Nat} {W W':World} {p p':Pa} {l:List Dn} (h:Rd B R W p l) (hp:p'.params=p.params) (hb:∀ v dv,Box W R 126 (qba R p v dv)→Box W' R 126 (qba R p' v dv)) (hg:W.grownBy W' (some R)):Rd B R W' p' l∧Below B W W':=by
 obtain⟨v,lv,P,rfl,h1,h2,⟨dv,hBR,h,hown,hnum⟩,hv⟩:=h
 refine⟨⟨v,lv,P,rfl,h1,Nat.le_trans h2 hg.size,RdX.turned hBR h hown hnum (hb _ _ h) hg,?_⟩,(Below.refl B W).grown hg (by omega) (fun k e=>by cases e;exact hBR)⟩
 rw[hp]
 exact(hv.kept (Kept.other _ h (by decide) hg)).mono (Nat.le_refl _) hg.size
theorem drop_any {B R : Nat} {W : World} {p : Pa} {l : List Dn} (h : Rd B R W p l) (hn : l.length ≤ 500000) (hs : p.st = 8) (b : Int) (hb : 0 ≤ b ∧ b ≤ 255) :
  Calls Tryz.prog 144 #[.pointer (some ⟨R,0,none⟩),.int .u8 b] W (qae B R W (qj p b).1 (l ++ (qj p b).2)):=by
 obtain⟨b0,b1⟩:=hb
 have hc:(b < 32)∨(32≤b∧b < 48)∨(48≤b∧b < 127)∨(b=127)∨(128≤b):=by omega
 rcases hc with hlt | ⟨g1,g2⟩ | ⟨g1,g2⟩ | rfl | g1
 ·refine qc0 (q:=p) (d:=[qeg b]) (by unfold qj;repeat (first | rw[if_pos (by omega)] | rw[if_neg (by omega)])) ?_
  have HX:=hid (qev h hn b ⟨b0,b1⟩)
  clear h hn
  go_enter Tryz.func144,Tryz.ntmps144
  go_wp2_with (go_at_call 146;refine HX.out.mono ?_;rintro e w1 ⟨rfl,h1,h2⟩;have H1:=hid h1;clear h1)
  go_end0
  exact⟨rfl,H1.out,h2⟩
 ·refine qv (q:=p) (by unfold qj;repeat (first | rw[if_pos (by omega)] | rw[if_neg (by omega)])) ?_
  have HX:=hid h
  clear h hn
  go_enter Tryz.func144,Tryz.ntmps144
  go_wp2
  go_end0
  exact⟨rfl,HX.out,Below.refl _ _⟩
 ·refine qv (q:=.to 0) (by unfold qj;repeat (first | rw[if_pos (by omega)] | rw[if_neg (by omega)])) ?_
  have HX:=hid (qao h 0)
  have q127:(b == 127)=false:=by simp;omega
  clear h hn
  go_enter Tryz.func144,Tryz.ntmps144
  go_wp2_with (go_at_call 147;refine HX.out.mono ?_;rintro e w1 ⟨rfl,h1,h2⟩;have H1:=hid h1;clear h1)
  go_end0
  exact⟨rfl,H1.out,h2⟩
 ·refine qv (q:=p) (by unfold qj;repeat (first | rw[if_pos (by omega)] | rw[if_neg (by omega)])) ?_
  have HX:=hid h
  clear h hn
  go_enter Tryz.func144,Tryz.ntmps144
  go_wp2
  go_end0
  exact⟨rfl,HX.out,Below.refl _ _⟩
 ·refine qv (q:=.to 0) (by unfold qj;repeat (first | rw[if_pos (by omega)] | rw[if_neg (by omega)])) ?_
  have HX:=hid (qao h 0)
  have q127:(b == 127)=false:=by simp;omega
  clear h hn
  go_enter Tryz.func144,Tryz.ntmps144
  go_wp2_with (go_at_call 147;refine HX.out.mono ?_;rintro e w1 ⟨rfl,h1,h2⟩;have H1:=hid h1;clear h1)
  go_end0
  exact⟨rfl,H1.out,h2⟩
theorem skip_any {B R : Nat} {W : World} {p : Pa} {l : List Dn} (h : Rd B R W p l) (hn : l.length ≤ 500000) (hs : p.st = 5) (b : Int) (hb : 0 ≤ b ∧ b ≤ 255) :
  Calls Tryz.prog 141 #[.pointer (some ⟨R,0,none⟩),.int .u8 b] W (qae B R W (qj p b).1 (l ++ (qj p b).2)):=by
 obtain⟨b0,b1⟩:=hb
 have hc:(b < 32)∨(32≤b∧b < 64)∨(64≤b∧b < 127)∨(b=127)∨(128≤b):=by omega
 rcases hc with hlt | ⟨g1,g2⟩ | ⟨g1,g2⟩ | rfl | g1
 ·refine qc0 (q:=p) (d:=[qeg b]) (by unfold qj;repeat (first | rw[if_pos (by omega)] | rw[if_neg (by omega)])) ?_
  have HX:=hid (qev h hn b ⟨b0,b1⟩)
  clear h hn
  go_enter Tryz.func141,Tryz.ntmps141
  go_wp2_with (go_at_call 146;refine HX.out.mono ?_;rintro e w1 ⟨rfl,h1,h2⟩;have H1:=hid h1;clear h1)
  go_end0
  exact⟨rfl,H1.out,h2⟩
 ·refine qv (q:=p) (by unfold qj;repeat (first | rw[if_pos (by omega)] | rw[if_neg (by omega)])) ?_
  have HX:=hid h
  clear h hn
  go_enter Tryz.func141,Tryz.ntmps141
  go_wp2
  go_end0
  exact⟨rfl,HX.out,Below.refl _ _⟩
 ·refine qv (q:=.to 0) (by unfold qj;repeat (first | rw[if_pos (by omega)] | rw[if_neg (by omega)])) ?_
  have HX:=hid (qao h 0)
  clear h hn
  go_enter Tryz.func141,Tryz.ntmps141
  go_wp2_with (go_at_call 147;refine HX.out.mono ?_;rintro e w1 ⟨rfl,h1,h2⟩;have H1:=hid h1;clear h1)
  go_end0
  exact⟨rfl,H1.out,h2⟩
 ·refine qv (q:=p) (by unfold qj;repeat (first | rw[if_pos (by omega)] | rw[if_neg (by omega)])) ?_
  have HX:=hid h
  clear h hn
  go_enter Tryz.func141,Tryz.ntmps141
  go_wp2
  go_end0
  exact⟨rfl,HX.out,Below.refl _ _⟩
 ·refine qv (q:=p) (by unfold qj;repeat (first | rw[if_pos (by omega)] | rw[if_neg (by omega)])) ?_
  have HX:=hid h
  clear h hn
  go_enter Tryz.func141,Tryz.ntmps141
  go_wp2
  go_end0
  exact⟨rfl,HX.out,Below.refl _ _⟩
theorem behind_any {B R : Nat} {W : World} {p : Pa} {l : List Dn} (h : Rd B R W p l) (hn : l.length ≤ 500000) (hs : p.st = 4) (hp : p.params.length ≤ 16) (b : Int) (hb : 0 ≤ b ∧ b ≤ 255) :
  Calls Tryz.prog 140 #[.pointer (some ⟨R,0,none⟩),.int .u8 b] W (qae B R W (qj p b).1 (l ++ (qj p b).2)):=by
 obtain⟨b0,b1⟩:=hb
 have hc:(b < 32)∨(32≤b∧b < 64)∨(64≤b∧b < 127)∨(b=127)∨(128≤b):=by omega
 rcases hc with hlt | ⟨g1,g2⟩ | ⟨g1,g2⟩ | rfl | g1
 ·refine qc0 (q:=p) (d:=[qeg b]) (by unfold qj qc1;repeat (first | rw[if_pos (by omega)] | rw[if_neg (by omega)])) ?_
  have HX:=hid (qev h hn b ⟨b0,b1⟩)
  clear h hn
  go_enter Tryz.func140,Tryz.ntmps140
  go_wp2_with (go_at_call 146;refine HX.out.mono ?_;rintro e w1 ⟨rfl,h1,h2⟩;have H1:=hid h1;clear h1)
  go_end0
  exact⟨rfl,H1.out,h2⟩
 ·refine qv (q:=.to 5) (by unfold qj qc1;repeat (first | rw[if_pos (by omega)] | rw[if_neg (by omega)])) ?_
  have HX:=hid (qao h 5)
  have q127:(b == 127)=false:=by simp;omega
  clear h hn
  go_enter Tryz.func140,Tryz.ntmps140
  go_wp2_with (go_at_call 147;refine HX.out.mono ?_;rintro e w1 ⟨rfl,h1,h2⟩;have H1:=hid h1;clear h1)
  go_end0
  exact⟨rfl,H1.out,h2⟩
 ·refine qc0 (q:=.to 0) (d:=[dCsi p b]) (by unfold qj qc1;repeat (first | rw[if_pos (by omega)] | rw[if_neg (by omega)])) ?_
  have HX:=hid (qme h hn hp b ⟨b0,b1⟩)
  clear h hn
  go_enter Tryz.func140,Tryz.ntmps140
  go_wp2_with (go_at_call 193;refine HX.out.mono ?_;rintro e w1 ⟨rfl,h1,h2⟩;have H1:=hid h1;clear h1)
  go_end0
  exact⟨rfl,H1.out,h2⟩
 ·refine qv (q:=p) (by unfold qj qc1;repeat (first | rw[if_pos (by omega)] | rw[if_neg (by omega)])) ?_
  have HX:=hid h
  clear h hn
  go_enter Tryz.func140,Tryz.ntmps140
  go_wp2
  go_end0
  exact⟨rfl,HX.out,Below.refl _ _⟩
 ·refine qv (q:=.to 5) (by unfold qj qc1;repeat (first | rw[if_pos (by omega)] | rw[if_neg (by omega)])) ?_
  have HX:=hid (qao h 5)
  have q127:(b == 127)=false:=by simp;omega
  clear h hn
  go_enter Tryz.func140,Tryz.ntmps140
  go_wp2_with (go_at_call 147;refine HX.out.mono ?_;rintro e w1 ⟨rfl,h1,h2⟩;have H1:=hid h1;clear h1)
  go_end0
  exact⟨rfl,H1.out,h2⟩
theorem inter_any {B R : Nat} {W : World} {p : Pa} {l : List Dn} (h : Rd B R W p l) (hn : l.length ≤ 500000) (hs : p.st = 2) (b : Int) (hb : 0 ≤ b ∧ b ≤ 255) :
  Calls Tryz.prog 138 #[.pointer (some ⟨R,0,none⟩),.int .u8 b] W (qae B R W (qj p b).1 (l ++ (qj p b).2)):=by
 obtain⟨b0,b1⟩:=hb
 have hc:(b < 32)∨(32≤b∧b < 48)∨(48≤b∧b < 127)∨(b=127)∨(128≤b):=by omega
 rcases hc with hlt | ⟨g1,g2⟩ | ⟨g1,g2⟩ | rfl | g1
 ·refine qc0 (q:=p) (d:=[qeg b]) (by unfold qj qe9;repeat (first | rw[if_pos (by omega)] | rw[if_neg (by omega)])) ?_
  have HX:=hid (qev h hn b ⟨b0,b1⟩)
  clear h hn
  go_enter Tryz.func138,Tryz.ntmps138
  go_wp2_with (go_at_call 146;refine HX.out.mono ?_;rintro e w1 ⟨rfl,h1,h2⟩;have H1:=hid h1;clear h1)
  go_end0
  exact⟨rfl,H1.out,h2⟩
 ·refine qv (q:=.to 8) (by unfold qj qe9;repeat (first | rw[if_pos (by omega)] | rw[if_neg (by omega)])) ?_
  have HX:=hid (qao h 8)
  clear h hn
  go_enter Tryz.func138,Tryz.ntmps138
  go_wp2_with (go_at_call 147;refine HX.out.mono ?_;rintro e w1 ⟨rfl,h1,h2⟩;have H1:=hid h1;clear h1)
  go_end0
  exact⟨rfl,H1.out,h2⟩
 ·refine qc0 (q:=.to 0) (d:=[dEsc p.inter b]) (by unfold qj qe9;repeat (first | rw[if_pos (by omega)] | rw[if_neg (by omega)])) ?_
  have HX:=hid (qi0 h hn b ⟨b0,b1⟩)
  clear h hn
  go_enter Tryz.func138,Tryz.ntmps138
  go_wp2_with (go_at_call 190;refine HX.out.mono ?_;rintro e w1 ⟨rfl,h1,h2⟩;have H1:=hid h1;clear h1)
  go_end0
  exact⟨rfl,H1.out,h2⟩
 ·refine qv (q:=p) (by unfold qj qe9;repeat (first | rw[if_pos (by omega)] | rw[if_neg (by omega)])) ?_
  have HX:=hid h
  clear h hn
  go_enter Tryz.func138,Tryz.ntmps138
  go_wp2
  go_end0
  exact⟨rfl,HX.out,Below.refl _ _⟩
 ·refine qv (q:=.to 0) (by unfold qj qe9;repeat (first | rw[if_pos (by omega)] | rw[if_neg (by omega)])) ?_
  have HX:=hid (qao h 0)
  clear h hn
  go_enter Tryz.func138,Tryz.ntmps138
  go_wp2_with (go_at_call 147;refine HX.out.mono ?_;rintro e w1 ⟨rfl,h1,h2⟩;have H1:=hid h1;clear h1)
  go_end0
  exact⟨rfl,H1.out,h2⟩
theorem escaped_any {B R : Nat} {W : World} {p : Pa} {l : List Dn} (h : Rd B R W p l) (hn : l.length ≤ 500000) (hs : p.st = 1) (b : Int) (hb : 0 ≤ b ∧ b ≤ 255) :
  Calls Tryz.prog 137 #[.pointer (some ⟨R,0,none⟩),.int .u8 b] W (qae B R W (qj p b).1 (l ++ (qj p b).2)):=by
 obtain⟨b0,b1⟩:=hb
 have hc:(b < 32)∨(32≤b∧b < 48)∨(b=91)∨(b=93)∨(b=80)∨(b=88)∨(b=94)∨(b=95)∨(48≤b∧b < 127∧b≠91∧b≠93∧b≠80∧b≠88∧b≠94∧b≠95)∨(b=127)∨(128≤b):=by omega
 rcases hc with hlt | ⟨g1,g2⟩ | rfl | rfl | rfl | rfl | rfl | rfl | ⟨g1,g2,g3⟩ | rfl | g1
 ·refine qc0 (q:=p) (d:=[qeg b]) (by unfold qj qe9;repeat (first | rw[if_pos (by omega)] | rw[if_neg (by omega)])) ?_
  have HX:=hid (qev h hn b ⟨b0,b1⟩)
  clear h hn
  go_enter Tryz.func137,Tryz.ntmps137
  go_wp2_with (go_at_call 146;refine HX.out.mono ?_;rintro e w1 ⟨rfl,h1,h2⟩;have H1:=hid h1;clear h1)
  go_end0
  exact⟨rfl,H1.out,h2⟩
 ·refine qv (q:={ Pa.to 2 with inter:=b }) (by unfold qj qe9;repeat (first | rw[if_pos (by omega)] | rw[if_neg (by omega)])) ?_
  obtain⟨A,c,dA,n,dc,hbox,_⟩:=h.cells
  have c0:W.cell? ⟨R,0,none⟩=some (.int .i64 p.st):=hbox.cell 0
  have c1:W.cell? ⟨R,1,none⟩=some (.int .i64 p.priv):=hbox.cell 1
  have c2:W.cell? ⟨R,2,none⟩=some (.slice A p.params.length c):=hbox.cell 2
  have c3:W.cell? ⟨R,3,none⟩=some (.int .i64 p.inter):=hbox.cell 3
  have c4:W.cell? ⟨R,4,none⟩=some (.string p.osc):=hbox.cell 4
  have c5:W.cell? ⟨R,5,none⟩=some (.string p.pend):=hbox.cell 5
  have f0:=hbox.free 0
  have f1:=hbox.free 1
  have f2:=hbox.free 2
  have f3:=hbox.free 3
  have f4:=hbox.free 4
  have f5:=hbox.free 5
  obtain⟨W',hW',hrd,hbel⟩:=rd_inter h b
  have HR:=hid hrd
  have HW:=hid hW'
  have HL:=hid hbel
  clear h hn hbox hs hW' hrd hbel
  go_enter Tryz.func137,Tryz.ntmps137
  go_wp2
  go_end0
  have hw:=HW.out
  subst hw
  exact⟨rfl,HR.out,HL.out⟩
 ·refine qv (q:=.to 3) (by unfold qj qe9;repeat (first | rw[if_pos (by omega)] | rw[if_neg (by omega)])) ?_
  have HX:=hid (qao h 3)
  clear h hn
  go_enter Tryz.func137,Tryz.ntmps137
  go_wp2_with (go_at_call 147;refine HX.out.mono ?_;rintro e w1 ⟨rfl,h1,h2⟩;have H1:=hid h1;clear h1)
  go_end0
  exact⟨rfl,H1.out,h2⟩
 ·refine qv (q:=.to 6) (by unfold qj qe9;repeat (first | rw[if_pos (by omega)] | rw[if_neg (by omega)])) ?_
  have HX:=hid (qao h 6)
  clear h hn
  go_enter Tryz.func137,Tryz.ntmps137
  go_wp2_with (go_at_call 147;refine HX.out.mono ?_;rintro e w1 ⟨rfl,h1,h2⟩;have H1:=hid h1;clear h1)
  go_end0
  exact⟨rfl,H1.out,h2⟩
 ·refine qv (q:=.to 7) (by unfold qj qe9;repeat (first | rw[if_pos (by omega)] | rw[if_neg (by omega)])) ?_
  have HX:=hid (qao h 7)
  clear h hn
  go_enter Tryz.func137,Tryz.ntmps137
  go_wp2_with (go_at_call 147;refine HX.out.mono ?_;rintro e w1 ⟨rfl,h1,h2⟩;have H1:=hid h1;clear h1)
  go_end0
  exact⟨rfl,H1.out,h2⟩
 ·refine qv (q:=.to 7) (by unfold qj qe9;repeat (first | rw[if_pos (by omega)] | rw[if_neg (by omega)])) ?_
  have HX:=hid (qao h 7)
  clear h hn
  go_enter Tryz.func137,Tryz.ntmps137
  go_wp2_with (go_at_call 147;refine HX.out.mono ?_;rintro e w1 ⟨rfl,h1,h2⟩;have H1:=hid h1;clear h1)
  go_end0
  exact⟨rfl,H1.out,h2⟩
 ·refine qv (q:=.to 7) (by unfold qj qe9;repeat (first | rw[if_pos (by omega)] | rw[if_neg (by omega)])) ?_
  have HX:=hid (qao h 7)
  clear h hn
  go_enter Tryz.func137,Tryz.ntmps137
  go_wp2_with (go_at_call 147;refine HX.out.mono ?_;rintro e w1 ⟨rfl,h1,h2⟩;have H1:=hid h1;clear h1)
  go_end0
  exact⟨rfl,H1.out,h2⟩
 ·refine qv (q:=.to 7) (by unfold qj qe9;repeat (first | rw[if_pos (by omega)] | rw[if_neg (by omega)])) ?_
  have HX:=hid (qao h 7)
  clear h hn
  go_enter Tryz.func137,Tryz.ntmps137
  go_wp2_with (go_at_call 147;refine HX.out.mono ?_;rintro e w1 ⟨rfl,h1,h2⟩;have H1:=hid h1;clear h1)
  go_end0
  exact⟨rfl,H1.out,h2⟩
 ·refine qc0 (q:=.to 0) (d:=[dEsc p.inter b]) (by unfold qj qe9;repeat (first | rw[if_pos (by omega)] | rw[if_neg (by omega)])) ?_
  have HX:=hid (qi0 h hn b ⟨b0,b1⟩)
  have q91:(b == 91)=false:=by simp;omega
  have q93:(b == 93)=false:=by simp;omega
  have q80:(b == 80)=false:=by simp;omega
  have q88:(b == 88)=false:=by simp;omega
  have q94:(b == 94)=false:=by simp;omega
  have q95:(b == 95)=false:=by simp;omega
  clear h hn
  go_enter Tryz.func137,Tryz.ntmps137
  go_wp2_with (go_at_call 190;refine HX.out.mono ?_;rintro e w1 ⟨rfl,h1,h2⟩;have H1:=hid h1;clear h1)
  go_end0
  exact⟨rfl,H1.out,h2⟩
 ·refine qv (q:=p) (by unfold qj qe9;repeat (first | rw[if_pos (by omega)] | rw[if_neg (by omega)])) ?_
  have HX:=hid h
  clear h hn
  go_enter Tryz.func137,Tryz.ntmps137
  go_wp2
  go_end0
  exact⟨rfl,HX.out,Below.refl _ _⟩
 ·refine qv (q:=.to 0) (by unfold qj qe9;repeat (first | rw[if_pos (by omega)] | rw[if_neg (by omega)])) ?_
  have HX:=hid (qao h 0)
  have q91:(b == 91)=false:=by simp;omega
  have q93:(b == 93)=false:=by simp;omega
  have q80:(b == 80)=false:=by simp;omega
  have q88:(b == 88)=false:=by simp;omega
  have q94:(b == 94)=false:=by simp;omega
  have q95:(b == 95)=false:=by simp;omega
  clear h hn
  go_enter Tryz.func137,Tryz.ntmps137
  go_wp2_with (go_at_call 147;refine HX.out.mono ?_;rintro e w1 ⟨rfl,h1,h2⟩;have H1:=hid h1;clear h1)
  go_end0
  exact⟨rfl,H1.out,h2⟩
set_option maxHeartbeats 2000000
set_option maxRecDepth 100000
theorem inter_set {B R:Nat} {W:World} {p:Pa} {l:List Dn} (h:Rd B R W p l) (i:Int):Rd B R ((W.setCell ⟨R,0,none⟩ (.int .i64 4)).setCell ⟨R,3,none⟩ (.int .i64 i)) { p with st:=4,inter:=i } l∧Below B W ((W.setCell ⟨R,0,none⟩ (.int .i64 4)).setCell ⟨R,3,none⟩ (.int .i64 i)):=by
 refine qjq h rfl (fun v dv hb=>?_) (qad (qad (World.grownBy.refl W _) _) _)
 obtain⟨p1,p2,p3,p4,p5,p6⟩:=p
 have h1:Box (W.setCell ⟨R,0,none⟩ (.int .i64 4)) R 126 (qba R ⟨4,p2,p3,p4,p5,p6⟩ v dv):=hb.set _
 exact h1.set (i:=3) (.int .i64 i)
theorem priv_set {B R:Nat} {W:World} {p:Pa} {l:List Dn} (h:Rd B R W p l) (i:Int):Rd B R (W.setCell ⟨R,1,none⟩ (.int .i64 i)) { p with priv:=i } l∧Below B W (W.setCell ⟨R,1,none⟩ (.int .i64 i)):=by
 refine qjq h rfl (fun v dv hb=>?_) (qad (World.grownBy.refl W _) _)
 obtain⟨p1,p2,p3,p4,p5,p6⟩:=p
 exact hb.set (i:=1) (.int .i64 i)
theorem osc_set {B R:Nat} {W W1:World} {p:Pa} {l:List Dn} (h:Rd B R W p l) (hw:Below W.heap.size W W1) (s:ByteArray):Rd B R (W1.setCell ⟨R,4,none⟩ (.string s)) { p with osc:=s } l∧Below B W (W1.setCell ⟨R,4,none⟩ (.string s)):=by
 refine qjq h rfl (fun v dv hb=>?_) (qad ⟨hw.os,hw.tape,hw.output,hw.size,fun k hk _=>hw.block k hk⟩ _)
 obtain⟨p1,p2,p3,p4,p5,p6⟩:=p
 exact(hb.below hw hb.lt).set (i:=4) (.string s)
theorem qh2 {B R:Nat} {W W1:World} {p:Pa} {l:List Dn} (h:Rd B R W p l) (hw:Below W.heap.size W W1) (s:ByteArray):Rd B R (W1.setCell ⟨R,5,none⟩ (.string s)) { p with pend:=s } l∧Below B W (W1.setCell ⟨R,5,none⟩ (.string s)):=by
 refine qjq h rfl (fun v dv hb=>?_) (qad ⟨hw.os,hw.tape,hw.output,hw.size,fun k hk _=>hw.block k hk⟩ _)
 obtain⟨p1,p2,p3,p4,p5,p6⟩:=p
 exact(hb.below hw hb.lt).set (i:=5) (.string s)
theorem Rd.below {B R:Nat} {W W':World} {p:Pa} {l:List Dn} (h:Rd B R W p l) (hb:Below W.heap.size W W'):Rd B R W' p l:=by
 obtain⟨v,lv,P,rfl,h1,h2,⟨dv,hBR,hbox,hown,hnum⟩,hv⟩:=h
 exact⟨v,lv,P,rfl,h1,Nat.le_trans h2 hb.size,⟨dv,hBR,hbox.below hb hbox.lt,hown.kept hb,fun e he=>⟨(hnum e he).1.kept (Kept.of_below _ hb),(hnum e he).2⟩⟩,(hv.kept (Kept.of_below _ hb)).mono (Nat.le_refl _) hb.size⟩
theorem set_new {B R i:Nat} {W:World} {p:Pa} {l:List Dn} {u:Value} (h:Rd B R (W.setCell ⟨R,i,none⟩ u) p l∧Below B W (W.setCell ⟨R,i,none⟩ u)) (o:Obj) (n:Nat):Rd B R (((W.setCell ⟨R,i,none⟩ u).alloc o).drewN n) p l∧Below B W (((W.setCell ⟨R,i,none⟩ u).alloc o).drewN n):=by
 have hb:=(qa (W.setCell ⟨R,i,none⟩ u) o).trans ((qf _ n).mono (by simp))
 exact⟨h.1.below hb,h.2.trans (hb.mono h.1.base)⟩
theorem qgs (W : World) (b : Int) : ∀ w1, w1 = W.alloc (.cells #[.int .u8 b] 5) ∨ w1 = (W.alloc (.cells #[.int .u8 b] 5)).drew →
  (convert 95 9 (.slice (some ⟨W.heap.size,0,none⟩) 1 1)).run Tryz.prog w1=.ok (.string (qs b)) w1:=by
 have ho:=World.ownsRow_lit (base:=W.heap.size) (e:=5) (size:=1) W #[.int .u8 b] 1 (Nat.le_refl _) (by decide) rfl
 rintro w1 (rfl | rfl)
 ·exact qgq (P:=Tryz.prog) (ns:=[b]) Tryz.underlying95 Tryz.underlying5 Tryz.underlying9 ho
 ·exact qgq (P:=Tryz.prog) (ns:=[b]) (W:=(W.alloc (.cells #[.int .u8 b] 5)).drew) Tryz.underlying95 Tryz.underlying5 Tryz.underlying9 ho
theorem csi_any {B R : Nat} {W : World} {p : Pa} {l : List Dn} (h : Rd B R W p l) (hn : l.length ≤ 500000) (hs : p.st = 3) (hr : ∀ n ∈ p.params, 0 ≤ n ∧ n ≤ 9999) (hp : p.params.length ≤ 16) (b : Int) (hb : 0 ≤ b ∧ b ≤ 255) :
  Calls Tryz.prog 139 #[.pointer (some ⟨R,0,none⟩),.int .u8 b] W (qae B R W (qj p b).1 (l ++ (qj p b).2)):=by
 obtain⟨b0,b1⟩:=hb
 have hc:(b < 32)∨(32≤b∧b < 48)∨(48≤b∧b < 58)∨(b=58)∨(b=59)∨(60≤b∧b < 64)∨(64≤b∧b < 127)∨(b=127)∨(128≤b):=by omega
 rcases hc with hlt | ⟨g1,g2⟩ | ⟨g1,g2⟩ | rfl | rfl | ⟨g1,g2⟩ | ⟨g1,g2⟩ | rfl | g1
 ·refine qc0 (q:=p) (d:=[qeg b]) (by unfold qj qgu qc1;repeat (first | rw[if_pos (by omega)] | rw[if_neg (by omega)])) ?_
  have HX:=hid (qev h hn b ⟨b0,b1⟩)
  clear h hn
  go_enter Tryz.func139,Tryz.ntmps139
  go_wp2_with (go_at_call 146;refine HX.out.mono ?_;rintro e w1 ⟨rfl,h1,h2⟩;have H1:=hid h1;clear h1)
  go_end0
  exact⟨rfl,H1.out,h2⟩
 ·refine qv (q:={ p with st:=4,inter:=b }) (by unfold qj qgu qc1;repeat (first | rw[if_pos (by omega)] | rw[if_neg (by omega)])) ?_
  obtain⟨A,c,dA,n,dc,hbox,_⟩:=h.cells
  have c0:W.cell? ⟨R,0,none⟩=some (.int .i64 p.st):=hbox.cell 0
  have c3:W.cell? ⟨R,3,none⟩=some (.int .i64 p.inter):=hbox.cell 3
  have f0:=hbox.free 0
  have f3:=hbox.free 3
  have HX:=hid (inter_set h b)
  clear h hn hbox hs
  go_enter Tryz.func139,Tryz.ntmps139
  go_wp2
  go_end0
  exact⟨rfl,HX.out⟩
 ·refine qv (q:={ p with params:=qd9 (qau p.params) (b - 48) }) (by unfold qj qgu qc1;repeat (first | rw[if_pos (by omega)] | rw[if_neg (by omega)])) ?_
  have HX:=hid (digit_any h hr hp (b - 48) (by omega))
  clear h hn hs
  go_enter Tryz.func139,Tryz.ntmps139
  go_wp2_with (go_at_call 191;refine HX.out.mono ?_;rintro e w1 ⟨rfl,h1,h2⟩;have H1:=hid h1;clear h1)
  go_end0
  exact⟨rfl,H1.out,h2⟩
 ·refine qv (q:=.to 5) (by unfold qj qgu qc1;repeat (first | rw[if_pos (by omega)] | rw[if_neg (by omega)])) ?_
  have HX:=hid (qao h 5)
  clear h hn
  go_enter Tryz.func139,Tryz.ntmps139
  go_wp2_with (go_at_call 147;refine HX.out.mono ?_;rintro e w1 ⟨rfl,h1,h2⟩;have H1:=hid h1;clear h1)
  go_end0
  exact⟨rfl,H1.out,h2⟩
 ·refine qv (q:=if (qau p.params).length=16 then .to 5 else { p with params:=qau p.params ++ [0] }) (by unfold qj;rw[if_neg (by omega),if_neg (by omega),if_neg (by omega),if_neg (by omega),if_neg (by omega),if_pos (by omega)];unfold qgu;rw[if_neg (by omega),if_pos rfl];split <;> rfl) ?_
  have HX:=hid (qm1 h hp)
  generalize (if (qau p.params).length=16 then Pa.to 5 else { p with params:=qau p.params ++ [0] })=q at *
  clear h hn hs
  go_enter Tryz.func139,Tryz.ntmps139
  go_wp2_with (go_at_call 192;refine HX.out.mono ?_;rintro e w1 ⟨rfl,h1,h2⟩;have H1:=hid h1;clear h1)
  go_end0
  exact⟨rfl,H1.out,h2⟩
 ·obtain⟨A,c,dA,n,dc,hbox,_⟩:=h.cells
  have c1:W.cell? ⟨R,1,none⟩=some (.int .i64 p.priv):=hbox.cell 1
  have c2:W.cell? ⟨R,2,none⟩=some (.slice A p.params.length c):=hbox.cell 2
  have f1:=hbox.free 1
  have HS:qj p b=qgu p b:=by unfold qj;rw[if_neg (by omega),if_neg (by omega),if_neg (by omega),if_neg (by omega),if_neg (by omega),if_pos (by omega)]
  have q127:(b == 127)=false:=by simp;omega
  by_cases k1:p.priv=0
  ·rw[k1] at c1
   by_cases k2:p.params=[]
   ·have k3:p.params.length=0:=by rw[k2];rfl
    rw[k3] at c2
    refine qv (q:={ p with priv:=b }) (by rw[HS];unfold qgu;rw[if_neg (by omega),if_neg (by omega),if_pos ⟨g1,by omega,k2,k1⟩]) ?_
    have HX:=hid (priv_set h b)
    clear h hn hbox hs k1 k2 k3 HS hr hp
    go_enter Tryz.func139,Tryz.ntmps139
    go_wp2
    go_end0
    exact⟨rfl,HX.out⟩
   ·refine qv (q:=.to 5) (by rw[HS];unfold qgu qc1;rw[if_neg (by omega),if_neg (by omega),if_neg (fun hh=>k2 hh.2.2.1),if_neg (by omega),if_neg (by omega),if_neg (by omega)]) ?_
    have k3:((p.params.length:Int) == 0)=false:=by have:=List.length_pos_iff.2 k2;simp;omega
    have HX:=hid (qao h 5)
    generalize p.params.length=m at *
    clear h hn hbox hs k1 k2 HS hr hp
    go_enter Tryz.func139,Tryz.ntmps139
    go_wp2_with (go_at_call 147;refine HX.out.mono ?_;rintro e w1 ⟨rfl,h1,h2⟩;have H1:=hid h1;clear h1)
    go_end0
    exact⟨rfl,H1.out,h2⟩
  ·refine qv (q:=.to 5) (by rw[HS];unfold qgu qc1;rw[if_neg (by omega),if_neg (by omega),if_neg (fun hh=>k1 hh.2.2.2),if_neg (by omega),if_neg (by omega),if_neg (by omega)]) ?_
   have k3:(p.priv == 0)=false:=by simp;omega
   have HX:=hid (qao h 5)
   generalize p.params.length=m at *
   clear h hn hbox hs k1 HS hr hp
   go_enter Tryz.func139,Tryz.ntmps139
   go_wp2_with (go_at_call 147;refine HX.out.mono ?_;rintro e w1 ⟨rfl,h1,h2⟩;have H1:=hid h1;clear h1)
   go_end0
   exact⟨rfl,H1.out,h2⟩
 ·refine qc0 (q:=.to 0) (d:=[dCsi p b]) (by unfold qj qgu qc1;repeat (first | rw[if_pos (by omega)] | rw[if_neg (by omega)])) ?_
  have HX:=hid (qme h hn hp b ⟨b0,b1⟩)
  have q59:(b == 59)=false:=by simp;omega
  clear h hn
  go_enter Tryz.func139,Tryz.ntmps139
  go_wp2_with (go_at_call 193;refine HX.out.mono ?_;rintro e w1 ⟨rfl,h1,h2⟩;have H1:=hid h1;clear h1)
  go_end0
  exact⟨rfl,H1.out,h2⟩
 ·refine qv (q:=p) (by unfold qj qgu qc1;repeat (first | rw[if_pos (by omega)] | rw[if_neg (by omega)])) ?_
  have HX:=hid h
  clear h hn
  go_enter Tryz.func139,Tryz.ntmps139
  go_wp2
  go_end0
  exact⟨rfl,HX.out,Below.refl _ _⟩
 ·refine qv (q:=.to 5) (by unfold qj qgu qc1;repeat (first | rw[if_pos (by omega)] | rw[if_neg (by omega)])) ?_
  have HX:=hid (qao h 5)
  have q59:(b == 59)=false:=by simp;omega
  have q127:(b == 127)=false:=by simp;omega
  clear h hn
  go_enter Tryz.func139,Tryz.ntmps139
  go_wp2_with (go_at_call 147;refine HX.out.mono ?_;rintro e w1 ⟨rfl,h1,h2⟩;have H1:=hid h1;clear h1)
  go_end0
  exact⟨rfl,H1.out,h2⟩
theorem osc_any {B R : Nat} {W : World} {p : Pa} {l : List Dn} (h : Rd B R W p l) (hn : l.length ≤ 500000) (hs : p.st = 6) (hp : p.osc.size ≤ 64) (b : Int) (hb : 0 ≤ b ∧ b ≤ 255) :
  Calls Tryz.prog 142 #[.pointer (some ⟨R,0,none⟩),.int .u8 b] W (qae B R W (qj p b).1 (l ++ (qj p b).2)):=by
 obtain⟨b0,b1⟩:=hb
 have hc:(b=7)∨(b < 32∧b≠7)∨(32≤b):=by omega
 rcases hc with rfl | ⟨g1,g2⟩ | g1
 ·refine qc0 (q:=.to 0) (d:=[dOsc p.osc]) (by unfold qj oscP;rw[if_pos hs,if_pos rfl]) ?_
  have HX:=hid (qk1 h hn)
  clear h hn hs
  go_enter Tryz.func142,Tryz.ntmps142
  go_wp2_with (first | (go_at_call 148;refine HX.out.mono ?_;rintro e w1 ⟨rfl,h1,h2⟩;have HE:=hid (qao h1 0);clear h1) | (go_at_call 147;refine HE.out.mono ?_;rintro e w3 ⟨rfl,h3,h4⟩;have H3:=hid h3;clear h3))
  go_end0
  exact⟨rfl,H3.out,h2.trans h4⟩
 ·refine qv (q:=p) (by unfold qj oscP;repeat (first | rw[if_pos (by omega)] | rw[if_neg (by omega)])) ?_
  have HX:=hid h
  have q7:(b == 7)=false:=by simp;omega
  clear h hn
  go_enter Tryz.func142,Tryz.ntmps142
  go_wp2
  go_end0
  exact⟨rfl,HX.out,Below.refl _ _⟩
 ·obtain⟨A,c,dA,n,dc,hbox,_⟩:=h.cells
  have hR:=hbox.lt
  have c4:W.cell? ⟨R,4,none⟩=some (.string p.osc):=hbox.cell 4
  have f4:=hbox.free 4
  have q7:(b == 7)=false:=by simp;omega
  have HS:qj p b=oscP p b:=by unfold qj;rw[if_pos hs]
  by_cases k:p.osc.size < 64
  ·refine qv (q:={ p with osc:=p.osc ++ qs b }) (by rw[HS];unfold oscP;rw[if_neg (by omega),if_pos ⟨g1,k⟩]) ?_
   have hcv:=qgs W b
   have hc1:=hcv _ (.inl rfl)
   have hc2:=hcv _ (.inr rfl)
   have HX:=hid (set_new (osc_set h (Below.refl _ _) (p.osc ++ qs b)) (.cells #[.int .u8 b] 5) 1)
   have hz:(qs b).size=1:=rfl
   generalize qs b=bb at *
   have hsum:p.osc.size+bb.size≤9223372036854775807:=by omega
   clear h hn hbox hs HS hcv hp
   go_enter Tryz.func142,Tryz.ntmps142
   go_wp2
   go_region
   all_goals
    go_end0
    exact⟨rfl,HX.out⟩
  ·refine qv (q:=p) (by rw[HS];unfold oscP;rw[if_neg (by omega),if_neg (fun hh=>k hh.2)]) ?_
   have k2:¬ (p.osc.size:Int) < 64:=by omega
   have HX:=hid h
   clear h hn hbox hs HS k
   go_enter Tryz.func142,Tryz.ntmps142
   go_wp2
   go_end0
   exact⟨rfl,HX.out,Below.refl _ _⟩
theorem p_text_any {B R : Nat} {W : World} {p : Pa} {l : List Dn} (h : Rd B R W p l) (hs : p.st = 7) (b : Int) :
  Calls Tryz.prog 143 #[.pointer (some ⟨R,0,none⟩),.int .u8 b] W (qae B R W (qj p b).1 (l ++ (qj p b).2)):=by
 refine qv (q:=p) (by unfold qj;rw[if_neg (by omega),if_pos hs]) ?_
 have HX:=hid h
 clear h hs
 go_enter Tryz.func143,Tryz.ntmps143
 go_wp2
 go_end0
 exact⟨rfl,HX.out,Below.refl _ _⟩
end Go.Proofs.YtpdaekmbpafenaaGreatDoor
