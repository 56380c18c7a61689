
import Derived.Test.YtpdaekmbpafenaaGreatDoorGridPutQ
import Derived.Laws.IdiomCopy
import Derived.StillTailTactics
import Derived.Deep.QuietTactic
import Derived.BigQuiet
import Derived.IntWalk
namespace Go.Proofs.YtpdaekmbpafenaaGreatDoor
open Go.RowKit
theorem qkx (w : World) (ty : TypeId) (g o dLen dCap so sLen sCap : Nat) (cs : List Ce) (hn : cs.length = Nat.min sLen dLen)
  (hsrc:∀ j u,(qb0 cs)[j]?=some u→w.cell? ⟨g,so+j,none⟩=some u) (hc:∀ j,j < cs.length * 5→(w.cell? ⟨g,o+j,none⟩).isSome=true) (hf:∀ j,j < cs.length * 5→w.frozen? ⟨g,o+j,none⟩=false) :
  (Builtin.copy_ #[53,53] ty #[.slice (some ⟨g,o,none⟩) dLen dCap,.slice (some ⟨g,so,none⟩) sLen sCap]).run Tryz.prog w=.ok (goInt cs.length) (w.setCells g o (qb0 cs)):=by
 obtain⟨i0,hi,hz0,hz1,hz2⟩:=info_parts ce_info
 have hl:=run_loadCells_list (P:=Tryz.prog) w ⟨g,so,none⟩ (qb0 cs) (fun j u hj=>by rw[qc4];exact hsrc j u hj)
 rw[qdc] at hl
 have hst:=run_storeCells_cells (P:=Tryz.prog) g o (qb0 cs) 0 w (by rw[qdc];simpa using hc) (by rw[qdc];simpa using hf) cflat_one
 have hn':Nat.min sLen dLen=cs.length:=hn.symm
 simp only[Nat.add_zero] at hst
 simp[Builtin.copy_,run_underlying Tryz.underlying53,Builtin.lenOf,Builtin.firstCells,hn',hl,hst]
def putAll:List Ce→Nat→List Ce→List Ce
 | l,_,[]=>l
 | l,k,e :: m=>putAll (l.set k e) (k+1) m
theorem qw:∀ (m l:List Ce) (k:Nat),(putAll l k m).length=l.length
 | [],_,_=>rfl
 | e :: m,l,k=>by rw[putAll,qw m,List.length_set]
theorem putAll_at:∀ (m l:List Ce) (k j:Nat),k+m.length≤l.length→(putAll l k m)[j]?=if k≤j∧j < k+m.length then m[j - k]? else l[j]?
 | [],l,k,j,_=>by rw[putAll,if_neg (by rw[List.length_nil];omega)]
 | e :: m,l,k,j,h=>by
  rw[List.length_cons] at h
  rw[putAll,putAll_at m _ _ _ (by rw[List.length_set];omega)]
  by_cases h1:k+1≤j∧j < k+1+m.length
  ·rw[if_pos h1,if_pos (by rw[List.length_cons];omega),show j - k=(j - (k+1))+1 by omega,List.getElem?_cons_succ]
  ·rw[if_neg h1]
   by_cases h2:j=k
   ·subst h2
    rw[List.getElem?_set_self (by omega),if_pos (by rw[List.length_cons];omega),Nat.sub_self]
    rfl
   ·rw[List.getElem?_set_ne (Ne.symm h2),if_neg (by rw[List.length_cons];omega)]
theorem CBox.putAll {g cap:Nat}:∀ (m l:List Ce) (k:Nat) (w:World),CBox w g l cap→k+m.length≤l.length→CBox (w.setCells g (k * 5) (qb0 m)) g (putAll l k m) cap∧Only g w (w.setCells g (k * 5) (qb0 m))
 | [],l,k,w,h,_=>⟨h,Only.refl g w⟩
 | e :: m,l,k,w,h,hk=>by
  rw[List.length_cons] at hk
  have h5:=h.set5 (k:=k) (by omega) e
  obtain⟨h1,h2⟩:=CBox.putAll m (l.set k e) (k+1) (Go.Proofs.YtpdaekmbpafenaaGreatDoor.set5 w g (k * 5) e) h5 (by rw[List.length_set];omega)
  have hw:w.setCells g (k * 5) (qb0 (e :: m))=(Go.Proofs.YtpdaekmbpafenaaGreatDoor.set5 w g (k * 5) e).setCells g ((k+1) * 5) (qb0 m):=by
   unfold Go.Proofs.YtpdaekmbpafenaaGreatDoor.set5
   simp only[qb0,Ce.cells,List.cons_append,List.nil_append,World.setCells]
   rw[show (k+1) * 5=k * 5+1+1+1+1+1 by omega]
  rw[hw]
  exact⟨h1,(Only.set5 (Only.refl g w) e).trans h2⟩
theorem CBox.flat {W:World} {g cap:Nat} {l:List Ce} (h:CBox W g l cap) {k:Nat} {m:List Ce} (hm:∀ j e,m[j]?=some e→l[k+j]?=some e):∀ j u,(qb0 m)[j]?=some u→W.cell? ⟨g,k * 5+j,none⟩=some u:=by
 intro j u hu
 obtain⟨e,h1,h2⟩:=qil m j u hu
 have:=h.cell (hm _ e h1) h2
 rwa [show (k+j / 5) * 5+j % 5=k * 5+j by omega] at this
theorem CBox.some_ {W:World} {g cap:Nat} {l:List Ce} (h:CBox W g l cap) {j:Nat} (hj:j < l.length * 5):(W.cell? ⟨g,j,none⟩).isSome=true:=by
 have hx:=List.getElem?_eq_getElem (l:=l) (i:=j / 5) (by omega)
 have hi:(l[j / 5]).cells[j % 5]?=some ((l[j / 5]).cells[j % 5]'(by simp[Ce.cells];omega)):=Array.getElem?_eq_getElem _
 have:=h.cell hx hi
 rw[show j / 5 * 5+j % 5=j by omega] at this
 rw[this]
 rfl
def qgc (l:List Ce) (k n:Nat) (a:At):List Ce:=qa2 (putAll l (k+n) ((l.drop k).take (l.length - k - n))) k n a
def qfw (l:List Ce) (k n:Nat) (a:At):List Ce:=qa2 (putAll l k ((l.drop (k+n)).take (l.length - k - n))) (l.length - n) n a
set_option maxHeartbeats 1000000
set_option maxRecDepth 100000
theorem qbi {ops : Array Oper} {rest : List Oper} {o : Oper} {a : Act} {w : World} {Q : Exit → Act → World → Prop} (hw : Region.wanted o (yielded ops a.tmps) = true) (d s : Operand)
  (ho:o.op=.call { callee:=.builtin .copy,args:=#[d,s],argTypes:=#[53,53] }) (v u:Value) (hd:a.eval d=v) (hs:a.eval s=u) {v':Value} {w':World}
  (hr:∀ ty,(Builtin.copy_ #[53,53] ty #[v,u]).run Tryz.prog w=.ok v' w') (h:wpList Tryz.prog ops Q rest (a.put o.dst v') w'):wpList Tryz.prog ops Q (o :: rest) a w:=by
 simp only[wpList,hw,if_true]
 left
 unfold Oper.wp
 simp[execOp,ho,resolve,invoke,builtin,hd,hs,hr o.type,Result.andThen]
 exact h
theorem qiz (w : World) (ty : TypeId) (A B : Option Addr) (dCap sLen sCap : Nat) :
  (Builtin.copy_ #[53,53] ty #[.slice A 0 dCap,.slice B sLen sCap]).run Tryz.prog w=.ok (goInt 0) w:=by
 have hl:∀ (x:Addr),(loadCells x 0).run Tryz.prog w=.ok #[] w:=fun x=>by simpa using run_loadCells_list (P:=Tryz.prog) w x [] (by simp)
 cases A <;> cases B <;> simp[Builtin.copy_,run_underlying Tryz.underlying53,Builtin.lenOf,Builtin.firstCells,storeCells,hl]
theorem copy_any (w : World) {g cap : Nat} {l : List Ce} (h : CBox w g l cap) (d s n dCap sLen sCap : Nat) (A : Option Addr) (hn : n ≤ sLen) (hA : 0 < n → A = some ⟨g, d * 5, none⟩) (hd : d + n ≤ l.length) (hs : s + n ≤ l.length) :
  ∃ w',(∀ ty,(Builtin.copy_ #[53,53] ty #[.slice A n dCap,.slice (some ⟨g,s * 5,none⟩) sLen sCap]).run Tryz.prog w=.ok (goInt n) w')∧CBox w' g (putAll l d ((l.drop s).take n)) cap∧Only g w w':=by
 rcases Nat.eq_zero_or_pos n with rfl | hp
 ·exact⟨w,fun ty=>qiz w ty A _ dCap sLen sCap,by rw[List.take_zero];exact h,Only.refl g w⟩
 ·rw[hA hp]
  have hl:((l.drop s).take n).length=n:=by rw[List.length_take,List.length_drop];omega
  obtain⟨h1,h2⟩:=CBox.putAll ((l.drop s).take n) l d w h (by rw[hl];exact hd)
  refine⟨_,fun ty=>?_,h1,h2⟩
  have hr:=qkx w ty g (d * 5) n dCap (s * 5) sLen sCap ((l.drop s).take n) (by rw[hl];simp only[Nat.min_def];split <;> omega) (h.flat (k:=s) (fun j e hj=>by
   rw[List.getElem?_take] at hj
   split at hj
   ·rwa [List.getElem?_drop] at hj
   ·cases hj)) (fun j hj=>h.some_ (by rw[hl] at hj;omega)) (fun j _=>h.free _)
  rw[hl] at hr
  exact hr
theorem insert_chg (B : Nat) (w : World) (cs : List Ce) (soft : Bool) (q n : Nat) (n0 : Int) (a : At) (bq bn ba : Nat) (h1 : bq < B) (h2 : bn < B) (h3 : ba < B) (hbq : Box w bq 3 #[.int .i64 q]) (hbn : Box w bn 3 #[.int .i64 n0]) (hba : Box w ba 26 a.cells)
  (hq:q < cs.length) (hc:cs.length≤1000) (hn0:0≤n0) (hn:(n0≤((cs.length - q:Nat):Int)∧n0=n)∨(((cs.length - q:Nat):Int) < n0∧n=cs.length - q)) :
  Chg 228 #[.pointer (some ⟨bq,0,none⟩),.pointer (some ⟨bn,0,none⟩),.pointer (some ⟨ba,0,none⟩)] B w cs (qgc cs q n a) soft soft:=by
 refine⟨fun _ _=>by kernel_rfl,fun W b v hbel hB hbox hcs=>?_⟩
 have kq:=(hbq.below hbel h1).cell 0
 have kn:=(hbn.below hbel h2).cell 0
 have ka:=hba.below hbel h3
 obtain⟨fg,bg,fl⟩:=a
 unfold At.cells at ka
 simp only at ka
 obtain⟨⟨a0,a1,a2⟩,_⟩:=ka.three
 obtain⟨⟨c0,c1⟩,d0,d1⟩:=hbox.two
 show Calls _ _ #[.pointer (some ⟨b,0,none⟩),.pointer (some ⟨bq,0,none⟩),.pointer (some ⟨bn,0,none⟩),.pointer (some ⟨ba,0,none⟩)] _ _
 have HX:=hid hbox
 have hlt:=hbox.lt
 obtain⟨g,cap,rfl,hg,hcb⟩:=hcs.some (by intro e;rw[e] at hq;simp at hq)
 have hcap:cs.length≤cap:=by obtain⟨_,_,_,h,_⟩:=hcb;exact h
 have hle:n≤cs.length - q:=by omega
 have hgb:¬ g=b:=by omega
 have hne:¬ cap=q:=by omega
 obtain⟨m,hm⟩:∃ m,cs.length=m:=⟨_,rfl⟩
 rw[hm] at c0 hq hc hn hcap hle
 have HM:=hid hm
 have HCB:=hid hcb
 have hqi:(q:Int)≤m:=by omega
 have hqi2:(q:Int)≤cap:=by omega
 clear hcs hbox hm hcb
 have hcopy:∀ W',CBox W' g cs cap→∃ w',(∀ ty,(Builtin.copy_ #[53,53] ty #[.slice (if cap - q=n then some ⟨g,q * 5,none⟩ else some ⟨g,q * 5+n * 5,none⟩) (m - q - n) (cap - q - n),.slice (some ⟨g,q * 5,none⟩) (m - q) (cap - q)]).run Tryz.prog W'=.ok (goInt ((m - q - n:Nat):Int)) w')∧CBox w' g (putAll cs (q+n) ((cs.drop q).take (m - q - n))) cap∧Only g W' w':=fun W' h =>
  copy_any W' h (q+n) q (m - q - n) (cap - q - n) (m - q) (cap - q) (if cap - q=n then some ⟨g,q * 5,none⟩ else some ⟨g,q * 5+n * 5,none⟩) (by omega) (fun h=>by rw[if_neg (by omega),Nat.add_mul]) (by rw[HM.out];omega) (by rw[HM.out];omega)
 rcases hn with ⟨hn1,rfl⟩ | ⟨hn1,hn2⟩
 ·have hn2:(n:Int)≤((cap - q:Nat):Int):=by omega
  by_cases hcn:cap - q=n
  ·have hcopy' : ∀ W', CBox W' g cs cap → ∃ w', (∀ ty, (Builtin.copy_ #[53, 53] ty #[.slice (some ⟨g, q * 5, none⟩) (m - q - n) (cap - q - n), .slice (some ⟨g, q * 5, none⟩) (m - q) (cap - q)]).run Tryz.prog W' = .ok (goInt ((m - q - n : Nat) : Int)) w') ∧ CBox w' g (putAll cs (q + n) ((cs.drop q).take (m - q - n))) cap ∧ Only g W' w' := fun W' h => by
    have:=hcopy W' h
    rwa [if_pos hcn] at this
   have HCOPY:=hid hcopy'
   clear hcopy' hcopy
   go_enter Tryz.func228,Tryz.ntmps228
   go_wp2_with fail
   go_quiet (fail)
   obtain⟨w1,hr1,hc1,ho1⟩:=HCOPY.out (W.drewN nq) HCB.out.drewN
   have hx1:=(HX.out.drewN (n:=nq)).only ho1 (by omega)
   have hn1':=ho1.below (B:=b) (by show b≤W.heap.size;omega) (by omega)
   have HC1:=hid hc1
   have HX1:=hid hx1
   have HO1:=hid ((qf W nq).mono (Nat.le_of_lt hlt) |>.trans hn1')
   have HR1:=hid hr1
   have ka1:=hba.below hbel h3
   have ka2:=(ka1.drewN (n:=nq)).only ho1 (by omega)
   clear hr1 hc1 ho1 hx1 hn1' ka1 a0 a1 a2
   unfold At.cells at ka2
   simp only at ka2
   go_upto_region 3 with (refine qbi rfl (.tmp 19) (.tmp 20) rfl _ _ rfl rfl HR1.out ?_)
   obtain⟨⟨a0,a1,a2⟩,_⟩:=ka2.three
   have her:=fun c=>qdo g q n c cap (putAll cs (q+n) ((cs.drop q).take (m - q - n))) ⟨fg,bg,fl⟩ w1.drew HC1.out.drew (by rw[qw,HM.out];omega) (by rw[qw,HM.out];omega)
   unfold At.agg at her
   simp only at her
   have HER:=hid her
   clear her
   go_wp2_with fail
   go_still_tail 4,(by kernel_rfl)
   change wpList _ _ _ _ _ w1.drew
   go_wp2_with fail
   with_reducible refine(HER.out _).mono ?_
   rintro e w2 ⟨rfl,h2,h3'⟩
   dsimp only
   have H2:=hid h2
   clear h2
   go_wp2
   go_end0
   have hle2:b≤w1.heap.size:=Nat.le_of_lt HX1.out.lt
   refine⟨rfl,⟨_,HX1.out.drew.only h3' (by omega),.inr ⟨g,cap,?_,hg,?_⟩⟩,HO1.out.trans ((Below.refl b w1).drew.trans (h3'.below hle2 (by omega)))⟩
   ·unfold qgc
    rw[qai _ (by rw[qw,HM.out];omega),qw,HM.out]
   ·unfold qgc
    rw[HM.out]
    exact H2.out
  ·have hcopy' : ∀ W', CBox W' g cs cap → ∃ w', (∀ ty, (Builtin.copy_ #[53, 53] ty #[.slice (some ⟨g, q * 5 + n * 5, none⟩) (m - q - n) (cap - q - n), .slice (some ⟨g, q * 5, none⟩) (m - q) (cap - q)]).run Tryz.prog W' = .ok (goInt ((m - q - n : Nat) : Int)) w') ∧ CBox w' g (putAll cs (q + n) ((cs.drop q).take (m - q - n))) cap ∧ Only g W' w' := fun W' h => by
    have:=hcopy W' h
    rwa [if_neg hcn] at this
   have HCOPY:=hid hcopy'
   clear hcopy' hcopy
   go_enter Tryz.func228,Tryz.ntmps228
   go_wp2_with fail
   go_quiet (fail)
   obtain⟨w1,hr1,hc1,ho1⟩:=HCOPY.out (W.drewN nq) HCB.out.drewN
   have hx1:=(HX.out.drewN (n:=nq)).only ho1 (by omega)
   have hn1':=ho1.below (B:=b) (by show b≤W.heap.size;omega) (by omega)
   have HC1:=hid hc1
   have HX1:=hid hx1
   have HO1:=hid ((qf W nq).mono (Nat.le_of_lt hlt) |>.trans hn1')
   have HR1:=hid hr1
   have ka1:=hba.below hbel h3
   have ka2:=(ka1.drewN (n:=nq)).only ho1 (by omega)
   clear hr1 hc1 ho1 hx1 hn1' ka1 a0 a1 a2
   unfold At.cells at ka2
   simp only at ka2
   go_upto_region 3 with (refine qbi rfl (.tmp 19) (.tmp 20) rfl _ _ rfl rfl HR1.out ?_)
   obtain⟨⟨a0,a1,a2⟩,_⟩:=ka2.three
   have her:=fun c=>qdo g q n c cap (putAll cs (q+n) ((cs.drop q).take (m - q - n))) ⟨fg,bg,fl⟩ w1.drew HC1.out.drew (by rw[qw,HM.out];omega) (by rw[qw,HM.out];omega)
   unfold At.agg at her
   simp only at her
   have HER:=hid her
   clear her
   go_wp2_with fail
   go_still_tail 4,(by kernel_rfl)
   change wpList _ _ _ _ _ w1.drew
   go_wp2_with fail
   with_reducible refine(HER.out _).mono ?_
   rintro e w2 ⟨rfl,h2,h3'⟩
   dsimp only
   have H2:=hid h2
   clear h2
   go_wp2
   go_end0
   have hle2:b≤w1.heap.size:=Nat.le_of_lt HX1.out.lt
   refine⟨rfl,⟨_,HX1.out.drew.only h3' (by omega),.inr ⟨g,cap,?_,hg,?_⟩⟩,HO1.out.trans ((Below.refl b w1).drew.trans (h3'.below hle2 (by omega)))⟩
   ·unfold qgc
    rw[qai _ (by rw[qw,HM.out];omega),qw,HM.out]
   ·unfold qgc
    rw[HM.out]
    exact H2.out
 ·clear hcopy
  have hn3:((m - q:Nat):Int)≤((cap - q:Nat):Int):=by omega
  rw[hn2]
  clear hn2
  by_cases hcn:cap - q=m - q
  all_goals
   go_enter Tryz.func228,Tryz.ntmps228
   go_wp2_with fail
   go_quiet (fail)
   have HC1:=hid (HCB.out.drewN (n:=nq))
   have HX1:=hid (HX.out.drewN (n:=nq))
   have HO1:=hid ((qf W nq).mono (Nat.le_of_lt hlt))
   have ka2:=hid ((hba.below hbel h3).drewN (n:=nq))
   clear a0 a1 a2
   go_upto_region 3 with (refine qbi rfl (.tmp 19) (.tmp 20) rfl _ _ rfl rfl (fun ty=>qiz _ ty _ _ _ _ _) ?_)
   generalize W.drewN nq=w1 at *
   have ka3:=ka2.out
   unfold At.cells at ka3
   simp only at ka3
   obtain⟨⟨a0,a1,a2⟩,_⟩:=ka3.three
   have her:=fun c=>qdo g q (m - q) c cap cs ⟨fg,bg,fl⟩ w1.drew HC1.out.drew (by rw[HM.out];omega) (by rw[HM.out];omega)
   unfold At.agg at her
   simp only at her
   have HER:=hid her
   clear her
   go_wp2_with fail
   go_still_tail 4,(by kernel_rfl)
   change wpList _ _ _ _ _ w1.drew
   go_wp2_with fail
   with_reducible refine(HER.out _).mono ?_
   rintro e w2 ⟨rfl,h2,h3'⟩
   dsimp only
   have H2:=hid h2
   clear h2
   go_wp2
   go_end0
   have hle2:b≤w1.heap.size:=Nat.le_of_lt HX1.out.lt
   have hins:qgc cs q (m - q) ⟨fg,bg,fl⟩=qa2 cs q (m - q) ⟨fg,bg,fl⟩:=by
    unfold qgc
    rw[HM.out,Nat.sub_self,List.take_zero,putAll]
   refine⟨rfl,⟨_,HX1.out.drew.only h3' (by omega),.inr ⟨g,cap,?_,hg,?_⟩⟩,HO1.out.trans ((Below.refl b w1).drew.trans (h3'.below hle2 (by omega)))⟩
   ·rw[hins,qai _ (by rw[HM.out];omega),HM.out]
   ·rw[hins]
    exact H2.out
set_option maxHeartbeats 8000000
set_option maxRecDepth 100000
theorem qh0 (w : World) (ty : TypeId) (A B : Option Addr) (dLen dCap sCap : Nat) :
  (Builtin.copy_ #[53,53] ty #[.slice A dLen dCap,.slice B 0 sCap]).run Tryz.prog w=.ok (goInt 0) w:=by
 have hl:∀ (x:Addr),(loadCells x 0).run Tryz.prog w=.ok #[] w:=fun x=>by simpa using run_loadCells_list (P:=Tryz.prog) w x [] (by simp)
 cases A <;> cases B <;> simp[Builtin.copy_,run_underlying Tryz.underlying53,Builtin.lenOf,Builtin.firstCells,storeCells,hl]
theorem run_copy_z (w : World) (ty : TypeId) (A B : Option Addr) (dLen dCap n sCap : Nat) (hn : n = 0) :
  (Builtin.copy_ #[53,53] ty #[.slice A dLen dCap,.slice B n sCap]).run Tryz.prog w=.ok (goInt 0) w:=by
 subst hn
 exact qh0 w ty A B dLen dCap sCap
theorem copy_back (w : World) {g cap : Nat} {l : List Ce} (h : CBox w g l cap) (d s n dLen dCap sCap : Nat) (A : Option Addr) (hn : n ≤ dLen) (hA : 0 < n → A = some ⟨g, s * 5, none⟩) (hd : d + n ≤ l.length) (hs : s + n ≤ l.length) :
  ∃ w',(∀ ty,(Builtin.copy_ #[53,53] ty #[.slice (some ⟨g,d * 5,none⟩) dLen dCap,.slice A n sCap]).run Tryz.prog w=.ok (goInt n) w')∧CBox w' g (putAll l d ((l.drop s).take n)) cap∧Only g w w':=by
 rcases Nat.eq_zero_or_pos n with rfl | hp
 ·exact⟨w,fun ty=>qh0 w ty _ A dLen dCap sCap,by rw[List.take_zero];exact h,Only.refl g w⟩
 ·rw[hA hp]
  have hl:((l.drop s).take n).length=n:=by rw[List.length_take,List.length_drop];omega
  obtain⟨h1,h2⟩:=CBox.putAll ((l.drop s).take n) l d w h (by rw[hl];exact hd)
  refine⟨_,fun ty=>?_,h1,h2⟩
  have hr:=qkx w ty g (d * 5) dLen dCap (s * 5) n sCap ((l.drop s).take n) (by rw[hl];simp only[Nat.min_def];split <;> omega) (h.flat (k:=s) (fun j e hj=>by
   rw[List.getElem?_take] at hj
   split at hj
   ·rwa [List.getElem?_drop] at hj
   ·cases hj)) (fun j hj=>h.some_ (by rw[hl] at hj;omega)) (fun j _=>h.free _)
  rw[hl] at hr
  exact hr
theorem delete_chg (B : Nat) (w : World) (cs : List Ce) (soft : Bool) (q n : Nat) (n0 : Int) (a : At) (bq bn ba : Nat) (h1 : bq < B) (h2 : bn < B) (h3 : ba < B) (hbq : Box w bq 3 #[.int .i64 q]) (hbn : Box w bn 3 #[.int .i64 n0]) (hba : Box w ba 26 a.cells)
  (hq:q < cs.length) (hc:cs.length≤1000) (hn0:0≤n0) (hn:(n0≤((cs.length - q:Nat):Int)∧n0=n)∨(((cs.length - q:Nat):Int) < n0∧n=cs.length - q)) :
  Chg 229 #[.pointer (some ⟨bq,0,none⟩),.pointer (some ⟨bn,0,none⟩),.pointer (some ⟨ba,0,none⟩)] B w cs (qfw cs q n a) soft soft:=by
 refine⟨fun _ _=>by kernel_rfl,fun W b v hbel hB hbox hcs=>?_⟩
 have kq:=(hbq.below hbel h1).cell 0
 have kn:=(hbn.below hbel h2).cell 0
 have ka:=hba.below hbel h3
 obtain⟨fg,bg,fl⟩:=a
 unfold At.cells at ka
 simp only at ka
 obtain⟨⟨a0,a1,a2⟩,_⟩:=ka.three
 obtain⟨⟨c0,c1⟩,d0,d1⟩:=hbox.two
 show Calls _ _ #[.pointer (some ⟨b,0,none⟩),.pointer (some ⟨bq,0,none⟩),.pointer (some ⟨bn,0,none⟩),.pointer (some ⟨ba,0,none⟩)] _ _
 have HX:=hid hbox
 have hlt:=hbox.lt
 obtain⟨g,cap,rfl,hg,hcb⟩:=hcs.some (by intro e;rw[e] at hq;simp at hq)
 have hcap:cs.length≤cap:=by obtain⟨_,_,_,h,_⟩:=hcb;exact h
 have hle:n≤cs.length - q:=by omega
 have hgb:¬ g=b:=by omega
 have hne:¬ cap=q:=by omega
 obtain⟨m,hm⟩:∃ m,cs.length=m:=⟨_,rfl⟩
 rw[hm] at c0 hq hc hn hcap hle
 have HM:=hid hm
 have HCB:=hid hcb
 have hqi:(q:Int)≤m:=by omega
 have hqi2:(q:Int)≤cap:=by omega
 clear hcs hbox hm hcb
 have hcopy:∀ W',CBox W' g cs cap→∃ w',(∀ ty,(Builtin.copy_ #[53,53] ty #[.slice (some ⟨g,q * 5,none⟩) (m - q) (cap - q),.slice (if cap - q=n then some ⟨g,q * 5,none⟩ else some ⟨g,q * 5+n * 5,none⟩) (m - q - n) (cap - q - n)]).run Tryz.prog W'=.ok (goInt ((m - q - n:Nat):Int)) w')∧CBox w' g (putAll cs q ((cs.drop (q+n)).take (m - q - n))) cap∧Only g W' w':=fun W' h =>
  copy_back W' h q (q+n) (m - q - n) (m - q) (cap - q) (cap - q - n) (if cap - q=n then some ⟨g,q * 5,none⟩ else some ⟨g,q * 5+n * 5,none⟩) (by omega) (fun h=>by rw[if_neg (by omega),Nat.add_mul]) (by rw[HM.out];omega) (by rw[HM.out];omega)
 have hera:∀ w1,CBox w1 g (putAll cs q ((cs.drop (q+n)).take (m - q - n))) cap→∀ c,Calls Tryz.prog 116 #[.slice (if cap - q=m - q - n then some ⟨g,q * 5,none⟩ else some ⟨g,q * 5+(m - q - n) * 5,none⟩) (m - q - (m - q - n)) c,At.agg ⟨fg,bg,fl⟩] w1 (ErPost w1 g cap (qfw cs q n ⟨fg,bg,fl⟩)):=by
  intro w1 h c
  have hd:qfw cs q n ⟨fg,bg,fl⟩=qa2 (putAll cs q ((cs.drop (q+n)).take (m - q - n))) (m - n) n ⟨fg,bg,fl⟩:=by
   unfold qfw
   rw[HM.out]
  rw[hd,show m - q - (m - q - n)=n by omega]
  by_cases hn0:n=0
  ·subst hn0
   rw[qlw]
   exact(qlx _ c ⟨fg,bg,fl⟩ w1).mono fun _ _ ⟨he,hb⟩=>⟨he,h.below hb h.lt,Only.of_below hb⟩
  ·rw[if_neg (by omega),show q * 5+(m - q - n) * 5=(m - n) * 5 by omega]
   exact qdo g (m - n) n c cap _ ⟨fg,bg,fl⟩ w1 h (by rw[qw,HM.out];omega) (by rw[qw,HM.out];omega)
 unfold At.agg at hera
 simp only at hera
 have hlen:(qfw cs q n ⟨fg,bg,fl⟩).length=m:=by
  unfold qfw
  rw[qai _ (by rw[qw,HM.out];omega),qw,HM.out]
 have HLEN:=hid hlen
 clear hlen
 rcases hn with ⟨hn1,rfl⟩ | ⟨hn1,hn2⟩
 ·have hn2:(n:Int)≤((cap - q:Nat):Int):=by omega
  have hn4:(n:Int)≤((m - q:Nat):Int):=by omega
  have hn5:((m - q - n:Nat):Int)≤((m - q:Nat):Int):=by omega
  have hcn3:¬ (cap - q=n∧cap - q=m - q - n):=by omega
  by_cases hcn:cap - q=n
  ·have hcn2:¬ cap - q=m - q - n:=fun h=>hcn3 ⟨hcn,h⟩
   have hcn2':¬ n=m - q - n:=by omega
   clear hcn3
   simp only[if_pos hcn] at hcopy
   simp only[if_neg hcn2] at hera
   have HCOPY:=hid hcopy
   have HERA:=hid hera
   clear hcopy hera
   go_enter Tryz.func229,Tryz.ntmps229
   go_wp2_with fail
   go_quiet (fail)
   obtain⟨w1,hr1,hc1,ho1⟩:=HCOPY.out (W.drewN nq) HCB.out.drewN
   have hx1:=(HX.out.drewN (n:=nq)).only ho1 (by omega)
   have hn1':=ho1.below (B:=b) (by show b≤W.heap.size;omega) (by omega)
   have HC1:=hid hc1
   have HX1:=hid hx1
   have HO1:=hid ((qf W nq).mono (Nat.le_of_lt hlt) |>.trans hn1')
   have HR1:=hid hr1
   have ka1:=hba.below hbel h3
   have ka2:=(ka1.drewN (n:=nq)).only ho1 (by omega)
   clear hr1 hc1 ho1 hx1 hn1' ka1 a0 a1 a2
   unfold At.cells at ka2
   simp only at ka2
   go_upto_region 2 with (refine qbi rfl (.tmp 13) (.tmp 19) rfl _ _ rfl rfl HR1.out ?_)
   obtain⟨⟨a0,a1,a2⟩,_⟩:=ka2.three
   have HER:=hid (HERA.out w1.drew HC1.out.drew)
   go_wp2_with fail
   go_still_tail 4,(by kernel_rfl)
   change wpList _ _ _ _ _ w1.drew
   go_wp2_with fail
   with_reducible refine(HER.out _).mono ?_
   rintro e w2 ⟨rfl,h2,h3'⟩
   dsimp only
   have H2:=hid h2
   clear h2
   go_wp2
   go_end0
   have hle2:b≤w1.heap.size:=Nat.le_of_lt HX1.out.lt
   exact⟨rfl,⟨_,HX1.out.drew.only h3' (by omega),.inr ⟨g,cap,by rw[HLEN.out,HM.out],hg,H2.out⟩⟩,HO1.out.trans ((Below.refl b w1).drew.trans (h3'.below hle2 (by omega)))⟩
  by_cases hcn2:cap - q=m - q - n
  ·clear hcn3
   simp only[if_neg hcn] at hcopy
   simp only[if_pos hcn2] at hera
   have HCOPY:=hid hcopy
   have HERA:=hid hera
   clear hcopy hera
   go_enter Tryz.func229,Tryz.ntmps229
   go_wp2_with fail
   go_quiet (fail)
   obtain⟨w1,hr1,hc1,ho1⟩:=HCOPY.out (W.drewN nq) HCB.out.drewN
   have hx1:=(HX.out.drewN (n:=nq)).only ho1 (by omega)
   have hn1':=ho1.below (B:=b) (by show b≤W.heap.size;omega) (by omega)
   have HC1:=hid hc1
   have HX1:=hid hx1
   have HO1:=hid ((qf W nq).mono (Nat.le_of_lt hlt) |>.trans hn1')
   have HR1:=hid hr1
   have ka1:=hba.below hbel h3
   have ka2:=(ka1.drewN (n:=nq)).only ho1 (by omega)
   clear hr1 hc1 ho1 hx1 hn1' ka1 a0 a1 a2
   unfold At.cells at ka2
   simp only at ka2
   go_upto_region 2 with (refine qbi rfl (.tmp 13) (.tmp 19) rfl _ _ rfl rfl HR1.out ?_)
   obtain⟨⟨a0,a1,a2⟩,_⟩:=ka2.three
   have HER:=hid (HERA.out w1.drew HC1.out.drew)
   go_wp2_with fail
   go_still_tail 4,(by kernel_rfl)
   change wpList _ _ _ _ _ w1.drew
   go_wp2_with fail
   with_reducible refine(HER.out _).mono ?_
   rintro e w2 ⟨rfl,h2,h3'⟩
   dsimp only
   have H2:=hid h2
   clear h2
   go_wp2
   go_end0
   have hle2:b≤w1.heap.size:=Nat.le_of_lt HX1.out.lt
   exact⟨rfl,⟨_,HX1.out.drew.only h3' (by omega),.inr ⟨g,cap,by rw[HLEN.out,HM.out],hg,H2.out⟩⟩,HO1.out.trans ((Below.refl b w1).drew.trans (h3'.below hle2 (by omega)))⟩
  ·clear hcn3
   simp only[if_neg hcn] at hcopy
   simp only[if_neg hcn2] at hera
   have HCOPY:=hid hcopy
   have HERA:=hid hera
   clear hcopy hera
   go_enter Tryz.func229,Tryz.ntmps229
   go_wp2_with fail
   go_quiet (fail)
   obtain⟨w1,hr1,hc1,ho1⟩:=HCOPY.out (W.drewN nq) HCB.out.drewN
   have hx1:=(HX.out.drewN (n:=nq)).only ho1 (by omega)
   have hn1':=ho1.below (B:=b) (by show b≤W.heap.size;omega) (by omega)
   have HC1:=hid hc1
   have HX1:=hid hx1
   have HO1:=hid ((qf W nq).mono (Nat.le_of_lt hlt) |>.trans hn1')
   have HR1:=hid hr1
   have ka1:=hba.below hbel h3
   have ka2:=(ka1.drewN (n:=nq)).only ho1 (by omega)
   clear hr1 hc1 ho1 hx1 hn1' ka1 a0 a1 a2
   unfold At.cells at ka2
   simp only at ka2
   go_upto_region 2 with (refine qbi rfl (.tmp 13) (.tmp 19) rfl _ _ rfl rfl HR1.out ?_)
   obtain⟨⟨a0,a1,a2⟩,_⟩:=ka2.three
   have HER:=hid (HERA.out w1.drew HC1.out.drew)
   go_wp2_with fail
   go_still_tail 4,(by kernel_rfl)
   change wpList _ _ _ _ _ w1.drew
   go_wp2_with fail
   with_reducible refine(HER.out _).mono ?_
   rintro e w2 ⟨rfl,h2,h3'⟩
   dsimp only
   have H2:=hid h2
   clear h2
   go_wp2
   go_end0
   have hle2:b≤w1.heap.size:=Nat.le_of_lt HX1.out.lt
   exact⟨rfl,⟨_,HX1.out.drew.only h3' (by omega),.inr ⟨g,cap,by rw[HLEN.out,HM.out],hg,H2.out⟩⟩,HO1.out.trans ((Below.refl b w1).drew.trans (h3'.below hle2 (by omega)))⟩
 ·clear hcopy hera HLEN
  have hn3:((m - q:Nat):Int)≤((cap - q:Nat):Int):=by omega
  rw[hn2]
  clear hn2
  have hnz:¬ cap - q=0:=by omega
  by_cases hcn:cap - q=m - q
  all_goals
   go_enter Tryz.func229,Tryz.ntmps229
   go_wp2_with fail
   go_quiet (fail)
   have HC1:=hid (HCB.out.drewN (n:=nq))
   have HX1:=hid (HX.out.drewN (n:=nq))
   have HO1:=hid ((qf W nq).mono (Nat.le_of_lt hlt))
   have ka2:=hid ((hba.below hbel h3).drewN (n:=nq))
   clear a0 a1 a2
   go_upto_region 2 with (refine qbi rfl (.tmp 13) (.tmp 19) rfl _ _ rfl rfl (fun ty=>run_copy_z _ ty _ _ _ _ _ _ (by first | rfl | omega)) ?_)
   generalize W.drewN nq=w1 at *
   have ka3:=ka2.out
   unfold At.cells at ka3
   simp only at ka3
   obtain⟨⟨a0,a1,a2⟩,_⟩:=ka3.three
   have her:=fun c=>qdo g q (m - q) c cap cs ⟨fg,bg,fl⟩ w1.drew HC1.out.drew (by rw[HM.out];omega) (by rw[HM.out];omega)
   unfold At.agg at her
   simp only at her
   have HER:=hid her
   clear her
   go_wp2_with fail
   go_still_tail 4,(by kernel_rfl)
   change wpList _ _ _ _ _ w1.drew
   go_wp2_with fail
   with_reducible refine(HER.out _).mono ?_
   rintro e w2 ⟨rfl,h2,h3'⟩
   dsimp only
   have H2:=hid h2
   clear h2
   go_wp2
   go_end0
   have hle2:b≤w1.heap.size:=Nat.le_of_lt HX1.out.lt
   have hins:qfw cs q (m - q) ⟨fg,bg,fl⟩=qa2 cs q (m - q) ⟨fg,bg,fl⟩:=by
    unfold qfw
    rw[HM.out,Nat.sub_self,List.take_zero,putAll,show m - (m - q)=q by omega]
   refine⟨rfl,⟨_,HX1.out.drew.only h3' (by omega),.inr ⟨g,cap,?_,hg,?_⟩⟩,HO1.out.trans ((Below.refl b w1).drew.trans (h3'.below hle2 (by omega)))⟩
   ·rw[hins,qai _ (by rw[HM.out];omega),HM.out]
   ·rw[hins]
    exact H2.out
end Go.Proofs.YtpdaekmbpafenaaGreatDoor
