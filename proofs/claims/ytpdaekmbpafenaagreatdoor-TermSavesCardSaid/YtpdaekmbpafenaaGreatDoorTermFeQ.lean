
import Derived.Test.YtpdaekmbpafenaaGreatDoorBackPQ
import Derived.Test.YtpdaekmbpafenaaGreatDoorTermRjQ
import Derived.Test.YtpdaekmbpafenaaGreatDoorHeldIQ
import Derived.Test.YtpdaekmbpafenaaGreatDoorTermOfQ
namespace Go.Proofs.YtpdaekmbpafenaaGreatDoor
set_option maxHeartbeats 4000000
set_option maxRecDepth 100000
open Go.RowKit
def LnMax (lv:List (Ln×Value)):Prop:=lv.length≤maxLen∧∀ e∈lv,e.1.cs.length≤maxLen∧∀ c∈e.1.cs,c.tx.size≤maxLen
def TmMax (t:Tm) (lg lm lb:List (Ln×Value)):Prop:=LnMax lg∧LnMax lm∧LnMax lb∧t.pa.params.length≤maxLen∧t.pa.osc.size≤maxLen∧t.pa.pend.size≤maxLen∧t.title.size≤maxLen
def fewQ (p:Pa):Pa:=⟨p.st,p.priv,p.params.take 18,p.inter,p.osc.extract 0 66,p.pend.extract 0 6⟩
def qem (t:Tm):Tm:={ t with g:=⟨t.g.cols,qd5 t.g.ls 52⟩,main:=⟨t.main.cols,qd5 t.main.ls 52⟩,bls:=qd5 t.bls 42,pa:=fewQ t.pa,title:=t.title.extract 0 36 }
def FewRow (W w:World) (v:Value) (lv:List (Ln×Value)) (ls:List Ln):Prop:=lv.map Prod.fst=ls∧LSl w W.heap.size v lv∧∀ x∈lv,CSl w W.heap.size x.2 x.1.cs
theorem FewRow.below {W w w':World} {v:Value} {lv:List (Ln×Value)} {ls:List Ln} (h:FewRow W w v lv ls) (hb:Below w.heap.size w w'):FewRow W w' v lv ls :=
 ⟨h.1,h.2.1.below hb (Nat.le_refl _),fun x hx=>(h.2.2 x hx).below hb (Nat.le_refl _)⟩
theorem FewRow.mono {W W' w:World} {v:Value} {lv:List (Ln×Value)} {ls:List Ln} (h:FewRow W w v lv ls) (hs:W'.heap.size≤W.heap.size):FewRow W' w v lv ls :=
 ⟨h.1,h.2.1.mono hs,fun x hx=>(h.2.2 x hx).mono hs⟩
theorem FewRow.set {W w:World} {v:Value} {lv:List (Ln×Value)} {ls:List Ln} (h:FewRow W w v lv ls) {b i:Nat} {t:TypeId} {cs:Array Value} (hb:Box w b t cs) (h1:t≠55) (h2:t≠57) (u:Value):FewRow W (w.setCell ⟨b,i,none⟩ u) v lv ls :=
 ⟨h.1,h.2.1.set hb h1 u,fun x hx=>(h.2.2 x hx).set hb h2 u⟩
theorem FewRow.sets {W:World} {v:Value} {lv:List (Ln×Value)} {ls:List Ln} {b:Nat} {t:TypeId} (h1:t≠55) (h2:t≠57):∀ (l:List Value) (i:Nat) {w:World} {cs:Array Value},FewRow W w v lv ls→Box w b t cs→FewRow W (qbw w b i l) v lv ls
 | [],_,_,_,h,_=>h
 | x :: l,i,_,_,h,hb=>FewRow.sets h1 h2 l (i+1) (h.set hb h1 h2 x) (hb.set x)
theorem FewRow.row {W w:World} {v:Value} {lv:List (Ln×Value)} {ls:List Ln} (h:FewRow W w v lv ls) {b:Nat} {t:TypeId} {cs:Array Value} (hb:Box w b t cs) (h1:t≠55) (h2:t≠57) (c:Array Value):FewRow W (w.setRow b c) v lv ls:=by
 refine⟨h.1,?_,fun x hx=>?_⟩
 ·rcases h.2.1 with h0 | ⟨g,cap,e,hg,cur,hc,hr⟩
  ·exact .inl h0
  ·have hne : g ≠ b := by
    rintro rfl
    have:=hb.symm.trans hc
    simp only[Option.some.injEq,Obj.cells.injEq] at this
    exact h1 this.2.1
   exact .inr ⟨g,cap,e,hg,cur,hc.otherRow hne c,hr⟩
 ·rcases h.2.2 x hx with h0 | ⟨g,cap,e,hg,cur,hc,hr⟩
  ·exact .inl h0
  ·have hne : g ≠ b := by
    rintro rfl
    have:=hb.symm.trans hc
    simp only[Option.some.injEq,Obj.cells.injEq] at this
    exact h2 this.2.1
   exact .inr ⟨g,cap,e,hg,cur,hc.otherRow hne c,hr⟩
theorem FewRow.spell {W w:World} {v:Value} {lv:List (Ln×Value)} {ls:List Ln} (h:FewRow W w v lv ls):∃ A n c,v=.slice A n c:=by
 obtain⟨A,c,e⟩:=h.2.1.spell
 exact⟨A,_,c,e⟩
def TFew (W:World) (t:Tm) (pA:Option Addr) (pc:Nat) (e:Ending) (w':World):Prop :=
 ∃ vg vm vb lg lm lb,e=.returned (.agg ((qem t).cells vg vm (.slice pA (qem t).pa.params.length pc) vb))∧FewRow W w' vg lg (qem t).g.ls∧FewRow W w' vm lm (qem t).main.ls∧FewRow W w' vb lb (qem t).bls∧Below W.heap.size W w'
theorem qgd {n:Nat} (h:n≤maxLen):(n:Int)≤9223372036854775807:=by
 unfold maxLen at h
 omega
theorem LnMax.ints {lv:List (Ln×Value)} (h:LnMax lv):(lv.length:Int)≤9223372036854775807∧∀ e∈lv,(e.1.cs.length:Int)≤9223372036854775807∧∀ c∈e.1.cs,(c.tx.size:Int)≤9223372036854775807 :=
 ⟨qgd h.1,fun e he=>⟨qgd (h.2 e he).1,fun c hc=>qgd ((h.2 e he).2 c hc)⟩⟩
theorem cut_all {s:ByteArray} {n:Nat} (h:s.size≤n):s.extract 0 s.size=s.extract 0 n:=by
 apply qcz
 ·rw[qj,qj];omega
 ·intro i hi
  rw[qj] at hi
  rw[qas _ _ _ _ (by omega),qas _ _ _ _ (by omega)]
theorem qfi (s:ByteArray) (n:Nat):(0:Int)≤(if (n:Int) < s.size then (n:Int) else s.size)∧(if (n:Int) < s.size then (n:Int) else s.size)≤s.size∧s.extract 0 (if (n:Int) < s.size then (n:Int) else s.size).toNat=s.extract 0 n:=by
 refine⟨by split <;> omega,by split <;> omega,?_⟩
 split
 ·rw[Int.toNat_natCast]
 ·rw[Int.toNat_natCast];exact cut_all (by omega)
theorem num_min (m n:Nat):(0:Int)≤(if (n:Int) < m then (n:Int) else m)∧(if (n:Int) < m then (n:Int) else m)≤m∧(if (n:Int) < m then (n:Int) else (m:Int)).toNat=min n m:=by
 refine⟨by split <;> omega,by split <;> omega,?_⟩
 split <;> (rw[Int.toNat_natCast];omega)
theorem few_sets (t:Tm) (vg vm vp vb ug um up ub:Value):((((((((((t.cells vg vm vp vb).setIfInBounds 1 ug).setIfInBounds 4 um).setIfInBounds 30 ub).setIfInBounds 23 (.int .i64 t.pa.st)).setIfInBounds 24 (.int .i64 t.pa.priv)).setIfInBounds 25 (up)).setIfInBounds 26 (.int .i64 t.pa.inter)).setIfInBounds 27 (.string (t.pa.osc.extract 0 66))).setIfInBounds 28 (.string (t.pa.pend.extract 0 6))).setIfInBounds 31 (.string (t.title.extract 0 36))=(qem t).cells ug um up ub:=by
 unfold qem fewQ Tm.cells
 simp only[List.setIfInBounds_toArray,List.set_cons_zero,List.set_cons_succ]
theorem qkp {P : Program} {fn : Func} {tmps : Array Value} {i : Nat} {t : TypeId} {a : Addr} {v : Value} {w : World} (hf : fn.results = #[.cell i t]) (ht : tmps.getD i undef = .pointer (some a)) (hl : (loadVar t a).run P w = .ok v w) :
  (results fn tmps).run P w=.ok v w:=by
 unfold results
 rw[hf]
 have ht2:tmps[i]?.getD undef=.pointer (some a):=by rw[← Array.getD_eq_getD_getElem?];exact ht
 simp[ht2,asAddr,hl]
theorem tfew_any (t : Tm) (vg vm vb : Value) (pA : Option Addr) (pc : Nat) (lg lm lb : List (Ln × Value)) (W : World) (hin : TmIn W t vg vm (.slice pA t.pa.params.length pc) vb lg lm lb) (hmx : TmMax t lg lm lb) (hpc : t.pa.params.length ≤ pc) :
  Calls Tryz.prog 7 #[.agg (t.cells vg vm (.slice pA t.pa.params.length pc) vb)] W (TFew W t pA pc):=by
 obtain⟨hm1,hm2,hm3,hm4,hm5,hm6,hm7⟩:=hmx
 have i4:=qgd hm4;have i5:=qgd hm5;have i6:=qgd hm6;have i7:=qgd hm7
 have HL:=hid (show ∀ W':World,Below W.heap.size W W'→Calls Tryz.prog 22 #[vg,.int .i64 52] W' (LFew W' (qd5 t.g.ls 52)) from fun W' hb=>by
  rw[← hin.gm];exact qjf vg lg 52 W' (hin.g.below hb) (hin.gc.below hb) hm1.ints.1 hm1.ints.2 (by decide))
 have HM:=hid (show ∀ W':World,Below W.heap.size W W'→Calls Tryz.prog 22 #[vm,.int .i64 52] W' (LFew W' (qd5 t.main.ls 52)) from fun W' hb=>by
  rw[← hin.mm];exact qjf vm lm 52 W' (hin.m.below hb) (hin.mc.below hb) hm2.ints.1 hm2.ints.2 (by decide))
 have HK:=hid (show ∀ W':World,Below W.heap.size W W'→Calls Tryz.prog 22 #[vb,.int .i64 42] W' (LFew W' (qd5 t.bls 42)) from fun W' hb=>by
  rw[← hin.bm];exact qjf vb lb 42 W' (hin.b.below hb) (hin.bc.below hb) hm3.ints.1 hm3.ints.2 (by decide))
 clear hm1 hm2 hm3 hm4 hm5 hm6 hm7
 obtain⟨gA,gc,rfl,_⟩:=hin.g.spell
 obtain⟨mA,mc,rfl,_⟩:=hin.m.spell
 obtain⟨kA,kc,rfl,_⟩:=hin.b.spell
 clear hin
 obtain⟨pn,hpn⟩:∃ pn,t.pa.params.length=pn:=⟨_,rfl⟩
 rw[hpn] at i4 hpc ⊢
 obtain⟨gn,hgn⟩:∃ gn,lg.length=gn:=⟨_,rfl⟩
 obtain⟨mn,hmn⟩:∃ mn,lm.length=mn:=⟨_,rfl⟩
 obtain⟨kn,hkn⟩:∃ kn,lb.length=kn:=⟨_,rfl⟩
 rw[hgn] at HL ⊢
 rw[hmn] at HM ⊢
 rw[hkn] at HK ⊢
 have HPN:=hid hpn
 have hcl:=hid (show t.cells (.slice gA gn gc) (.slice mA mn mc) (.slice pA pn pc) (.slice kA kn kc)=t.cells (.slice gA gn gc) (.slice mA mn mc) (.slice pA pn pc) (.slice kA kn kc) from rfl)
 clear hgn hmn hkn hpn
 obtain⟨TL,hTL⟩:∃ TL,t.cells (.slice gA gn gc) (.slice mA mn mc) (.slice pA pn pc) (.slice kA kn kc)=TL:=⟨_,rfl⟩
 have hs:TL.size=32:=by rw[← hTL];rfl
 have t1:TL[1]?=some (.slice gA gn gc):=by rw[← hTL];rfl
 have t4:TL[4]?=some (.slice mA mn mc):=by rw[← hTL];rfl
 have t30:TL[30]?=some (.slice kA kn kc):=by rw[← hTL];rfl
 have t31:TL[31]?=some (.string t.title):=by rw[← hTL];rfl
 have t23:TL[23]?=some (.int .i64 t.pa.st):=by rw[← hTL];rfl
 have t24:TL[24]?=some (.int .i64 t.pa.priv):=by rw[← hTL];rfl
 have t25:TL[25]?=some (.slice pA pn pc):=by rw[← hTL];rfl
 have t26:TL[26]?=some (.int .i64 t.pa.inter):=by rw[← hTL];rfl
 have t27:TL[27]?=some (.string t.pa.osc):=by rw[← hTL];rfl
 have t28:TL[28]?=some (.string t.pa.pend):=by rw[← hTL];rfl
 rw[hTL]
 have HTL:=hid hTL
 have hb2:=(qa W (.cells TL 35)).alloc (by simp) (.cells #[.int .i64 0,.slice none 0 0,.bool false,.int .i64 0,.slice none 0 0,.int .i64 0,.int .i64 0,.bool false,.int .i64 0,.int .i64 0,.int .i64 0,.int .i64 0,.int .i64 0,.int .i64 0,.int .i64 0,.int .i64 0,.int .i64 0,.int .i64 0,.bool false,.bool false,.bool false,.bool false,.bool false,.int .i64 0,.int .i64 0,.slice none 0 0,.int .i64 0,.string ⟨#[]⟩,.string ⟨#[]⟩,.int .i64 0,.slice none 0 0,.string ⟨#[]⟩] 35)
 have hx0:=(Box.new W 35 TL).alloc (.cells #[.int .i64 0,.slice none 0 0,.bool false,.int .i64 0,.slice none 0 0,.int .i64 0,.int .i64 0,.bool false,.int .i64 0,.int .i64 0,.int .i64 0,.int .i64 0,.int .i64 0,.int .i64 0,.int .i64 0,.int .i64 0,.int .i64 0,.int .i64 0,.bool false,.bool false,.bool false,.bool false,.bool false,.int .i64 0,.int .i64 0,.slice none 0 0,.int .i64 0,.string ⟨#[]⟩,.string ⟨#[]⟩,.int .i64 0,.slice none 0 0,.string ⟨#[]⟩] 35)
 have hx1:=Box.new (W.alloc (.cells TL 35)) 35 #[.int .i64 0,.slice none 0 0,.bool false,.int .i64 0,.slice none 0 0,.int .i64 0,.int .i64 0,.bool false,.int .i64 0,.int .i64 0,.int .i64 0,.int .i64 0,.int .i64 0,.int .i64 0,.int .i64 0,.int .i64 0,.int .i64 0,.int .i64 0,.bool false,.bool false,.bool false,.bool false,.bool false,.int .i64 0,.int .i64 0,.slice none 0 0,.int .i64 0,.string ⟨#[]⟩,.string ⟨#[]⟩,.int .i64 0,.slice none 0 0,.string ⟨#[]⟩]
 rw[World.size_alloc] at hx1
 clear hTL hcl
 go_enter Tryz.func7,Tryz.ntmps7
 go_upto_region 1 with fail
 generalize (W.alloc (.cells TL 35)).alloc (.cells #[.int .i64 0,.slice none 0 0,.bool false,.int .i64 0,.slice none 0 0,.int .i64 0,.int .i64 0,.bool false,.int .i64 0,.int .i64 0,.int .i64 0,.int .i64 0,.int .i64 0,.int .i64 0,.int .i64 0,.int .i64 0,.int .i64 0,.int .i64 0,.bool false,.bool false,.bool false,.bool false,.bool false,.int .i64 0,.int .i64 0,.slice none 0 0,.int .i64 0,.string ⟨#[]⟩,.string ⟨#[]⟩,.int .i64 0,.slice none 0 0,.string ⟨#[]⟩] 35)=W0 at *
 obtain⟨b,hbq⟩:∃ b,W.heap.size=b:=⟨_,rfl⟩
 have HBQ:=hid hbq
 rw[hbq] at HL HM HK hb2 hx0 hx1 ⊢
 clear hbq
 have HR0:=hid hx1
 clear hx1
 have hS0:(fun w'=>Box w' b 35 TL∧Below b W w') _:=⟨hx0.drew,hb2.drew⟩
 refine qh (qcp 14 (fun w'=>Box w' b 35 TL∧Below b W w')) (by kernel_rfl) ?_
 refine tN 0 (fun _=>hS0) ?_
 refine tN 1 (fun _=>hS0) ?_
 refine tG 2 (fun _=>hS0) ?_ (hy:=fun w' hw'=>by have a0:w'.cell? ⟨b,1,none⟩=some (.slice gA gn gc):=(hw'.1.cell 1).trans t1;go_simp;try with_reducible rfl)
 refine tN 4 (fun _=>hS0) ?_
 refine tN 5 (fun _=>hS0) ?_
 refine tG 6 (fun _=>hS0) ?_ (hy:=fun w' hw'=>by have a0:w'.cell? ⟨b,4,none⟩=some (.slice mA mn mc):=(hw'.1.cell 4).trans t4;go_simp;try with_reducible rfl)
 refine tN 8 (fun _=>hS0) ?_
 refine tN 9 (fun _=>hS0) ?_
 refine tG 10 (fun _=>hS0) ?_ (hy:=fun w' hw'=>by have a0:w'.cell? ⟨b,30,none⟩=some (.slice kA kn kc):=(hw'.1.cell 30).trans t30;go_simp;try with_reducible rfl)
 refine qy (k:=3) (by kernel_rfl) rfl (by rfl) (fun K hK=>?_)
 go_simp
 go_at_call 22
 refine(HL.out _ hS0.2).mono ?_
 rintro e9 x3 ⟨ug,lug,rfl,hq1,hq2,hq3,hb⟩
 have rug:FewRow W x3 ug lug _:=FewRow.mono ⟨hq1,hq2,hq3⟩ hS0.2.size
 clear hq1 hq2 hq3
 dsimp only
 have hz3:=HR0.out.below ((Below.refl _ W0).drew.trans hb) HR0.out.lt
 have hS1:Box x3 b 35 TL∧Below b W x3:=⟨hS0.1.below hb hS0.1.lt,hS0.2.trans (hb.mono (Nat.le_trans (Nat.le_of_eq HBQ.out.symm) hS0.2.size))⟩
 refine hK _ _ (fun _=>hS1) ?_
 clear hK K
 (try simp only[zT]);(try simp only[zA]);(try simp only[zS]);(try simp only[zZ])
 have hzp:=hz3
 clear hz3 hS0 hb
 have hS0:=hS1
 clear hS1
 refine tN 12 (fun _=>hS0) ?_
 refine tN 13 (fun _=>hS0) ?_
 refine qy (k:=7) (by kernel_rfl) rfl (by rfl) (fun K hK=>?_)
 go_simp
 go_at_call 22
 refine(HM.out _ hS0.2).mono ?_
 rintro e9 x7 ⟨um,lum,rfl,hq1,hq2,hq3,hb⟩
 have rum:FewRow W x7 um lum _:=FewRow.mono ⟨hq1,hq2,hq3⟩ hS0.2.size
 clear hq1 hq2 hq3
 dsimp only
 have rug:=(FewRow.below rug hb)
 have hz7:=hzp.below hb hzp.lt
 have hS1:Box x7 b 35 TL∧Below b W x7:=⟨hS0.1.below hb hS0.1.lt,hS0.2.trans (hb.mono (Nat.le_trans (Nat.le_of_eq HBQ.out.symm) hS0.2.size))⟩
 refine hK _ _ (fun _=>hS1) ?_
 clear hK K
 (try simp only[zT]);(try simp only[zA]);(try simp only[zS]);(try simp only[zZ])
 clear hzp
 have hzp:=hz7
 clear hz7 hS0 hb
 have hS0:=hS1
 clear hS1
 refine qy (k:=11) (by kernel_rfl) rfl (by rfl) (fun K hK=>?_)
 go_simp
 go_at_call 22
 refine(HK.out _ hS0.2).mono ?_
 rintro e9 x11 ⟨ub,lub,rfl,hq1,hq2,hq3,hb⟩
 have rub:FewRow W x11 ub lub _:=FewRow.mono ⟨hq1,hq2,hq3⟩ hS0.2.size
 clear hq1 hq2 hq3
 dsimp only
 have rug:=(FewRow.below rug hb)
 have rum:=(FewRow.below rum hb)
 have hz11:=hzp.below hb hzp.lt
 have hS1:Box x11 b 35 TL∧Below b W x11:=⟨hS0.1.below hb hS0.1.lt,hS0.2.trans (hb.mono (Nat.le_trans (Nat.le_of_eq HBQ.out.symm) hS0.2.size))⟩
 refine hK _ _ (fun _=>hS1) ?_
 clear hK K
 (try simp only[zT]);(try simp only[zA]);(try simp only[zS]);(try simp only[zZ])
 clear hzp
 have hzp:=hz11
 clear hz11 hS0 hb
 have hS0:=hS1
 clear hS1
 have c1:x11.cell? ⟨b,1,none⟩=some (.slice gA gn gc):=(hS0.1.cell 1).trans t1
 have c4:x11.cell? ⟨b,4,none⟩=some (.slice mA mn mc):=(hS0.1.cell 4).trans t4
 have c30:x11.cell? ⟨b,30,none⟩=some (.slice kA kn kc):=(hS0.1.cell 30).trans t30
 have f1:=hS0.1.free 1
 have f4:=hS0.1.free 4
 have f30:=hS0.1.free 30
 obtain⟨Ag,ng,cg,hug⟩:=rug.spell
 obtain⟨Am,nm,cm,hum⟩:=rum.spell
 obtain⟨Ab,nb,cb,hub⟩:=rub.spell
 subst hug hum hub
 refine qy (k:=14) (by kernel_rfl) rfl (by rfl) (fun K hK=>?_)
 go_simp
 refine hK _ _ (fun h=>(by simp at h)) ?_
 clear hK K
 (try simp only[zT]);(try simp only[zA]);(try simp only[zS]);(try simp only[zZ])
 refine tN 15 (fun h=>(by simp at h)) ?_
 refine tN 16 (fun h=>(by simp at h)) ?_
 refine qy (k:=17) (by kernel_rfl) rfl (by rfl) (fun K hK=>?_)
 go_simp
 refine hK _ _ (fun h=>(by simp at h)) ?_
 clear hK K
 (try simp only[zT]);(try simp only[zA]);(try simp only[zS]);(try simp only[zZ])
 refine tN 18 (fun h=>(by simp at h)) ?_
 refine tN 19 (fun h=>(by simp at h)) ?_
 refine qy (k:=20) (by kernel_rfl) rfl (by rfl) (fun K hK=>?_)
 go_simp
 refine hK _ _ (fun h=>(by simp at h)) ?_
 clear hK K
 (try simp only[zT]);(try simp only[zA]);(try simp only[zS]);(try simp only[zZ])
 refine qao (by kernel_rfl) ?_ _
 have HX:=hid (((hS0.1.set (i:=1) (.slice Ag ng cg)).set (i:=4) (.slice Am nm cm)).set (i:=30) (.slice Ab nb cb))
 have HB:=hid (((hS0.2.setCell (p:=⟨b,1,none⟩) (Nat.le_refl _) (.slice Ag ng cg)).setCell (p:=⟨b,4,none⟩) (Nat.le_refl _) (.slice Am nm cm)).setCell (p:=⟨b,30,none⟩) (Nat.le_refl _) (.slice Ab nb cb))
 have keep:∀ {v l ls},FewRow W x11 v l ls→FewRow W (((x11.setCell ⟨b,1,none⟩ (.slice Ag ng cg)).setCell ⟨b,4,none⟩ (.slice Am nm cm)).setCell ⟨b,30,none⟩ (.slice Ab nb cb)) v l ls:=fun h=>((h.set hS0.1 (by decide) (by decide) _).set (hS0.1.set _) (by decide) (by decide) _).set ((hS0.1.set _).set _) (by decide) (by decide) _
 have RG:=hid (keep rug)
 have RM:=hid (keep rum)
 have RK:=hid (keep rub)
 have hzq:Box (((x11.setCell ⟨b,1,none⟩ (.slice Ag ng cg)).setCell ⟨b,4,none⟩ (.slice Am nm cm)).setCell ⟨b,30,none⟩ (.slice Ab nb cb)) (b+1) 35 #[.int .i64 0,.slice none 0 0,.bool false,.int .i64 0,.slice none 0 0,.int .i64 0,.int .i64 0,.bool false,.int .i64 0,.int .i64 0,.int .i64 0,.int .i64 0,.int .i64 0,.int .i64 0,.int .i64 0,.int .i64 0,.int .i64 0,.int .i64 0,.bool false,.bool false,.bool false,.bool false,.bool false,.int .i64 0,.int .i64 0,.slice none 0 0,.int .i64 0,.string ⟨#[]⟩,.string ⟨#[]⟩,.int .i64 0,.slice none 0 0,.string ⟨#[]⟩]:=((hzp.other (Nat.succ_ne_self b) _).other (Nat.succ_ne_self b) _).other (Nat.succ_ne_self b) _
 have HR1:=hid hzq
 clear keep rug rum rub hzq hzp hS0 c1 c4 c30 f1 f4 f30 hx0 hb2 HR0 HL HM HK
 obtain⟨T1,hT1⟩:∃ T1,((TL.setIfInBounds 1 (.slice Ag ng cg)).setIfInBounds 4 (.slice Am nm cm)).setIfInBounds 30 (.slice Ab nb cb)=T1:=⟨_,rfl⟩
 rw[hT1] at HX
 have hs1:T1.size=32:=by rw[← hT1];simp[hs]
 have u23:T1[23]?=some (.int .i64 t.pa.st):=by rw[← hT1];simp[t23]
 have u24:T1[24]?=some (.int .i64 t.pa.priv):=by rw[← hT1];simp[t24]
 have u25:T1[25]?=some (.slice pA pn pc):=by rw[← hT1];simp[t25]
 have u26:T1[26]?=some (.int .i64 t.pa.inter):=by rw[← hT1];simp[t26]
 have u27:T1[27]?=some (.string t.pa.osc):=by rw[← hT1];simp[t27]
 have u28:T1[28]?=some (.string t.pa.pend):=by rw[← hT1];simp[t28]
 have u31:T1[31]?=some (.string t.title):=by rw[← hT1];simp[t31]
 have HT1:=hid hT1
 clear hT1 t1 t4 t30 t31 t23 t24 t25 t26 t27 t28
 generalize ((x11.setCell ⟨b,1,none⟩ (.slice Ag ng cg)).setCell ⟨b,4,none⟩ (.slice Am nm cm)).setCell ⟨b,30,none⟩ (.slice Ab nb cb)=W1 at *
 have q23:W1.cell? ⟨b,23,none⟩=some (.int .i64 t.pa.st):=(HX.out.cell 23).trans u23
 have q24:W1.cell? ⟨b,24,none⟩=some (.int .i64 t.pa.priv):=(HX.out.cell 24).trans u24
 have q25:W1.cell? ⟨b,25,none⟩=some (.slice pA pn pc):=(HX.out.cell 25).trans u25
 have q26:W1.cell? ⟨b,26,none⟩=some (.int .i64 t.pa.inter):=(HX.out.cell 26).trans u26
 have q27:W1.cell? ⟨b,27,none⟩=some (.string t.pa.osc):=(HX.out.cell 27).trans u27
 have q28:W1.cell? ⟨b,28,none⟩=some (.string t.pa.pend):=(HX.out.cell 28).trans u28
 have hp0:=Box.new W1 31 #[.int .i64 0,.int .i64 0,.slice none 0 0,.int .i64 0,.string ⟨#[]⟩,.string ⟨#[]⟩]
 have HP1:=hid (hp0.setRow #[.int .i64 t.pa.st,.int .i64 t.pa.priv,.slice pA pn pc,.int .i64 t.pa.inter,.string t.pa.osc,.string t.pa.pend])
 have HP0:=hid hp0
 have hbl:=qan (qa W1 (.cells #[.int .i64 0,.int .i64 0,.slice none 0 0,.int .i64 0,.string ⟨#[]⟩,.string ⟨#[]⟩] 31)) (Nat.le_refl W1.heap.size) #[.int .i64 t.pa.st,.int .i64 t.pa.priv,.slice pA pn pc,.int .i64 t.pa.inter,.string t.pa.osc,.string t.pa.pend]
 have HX2:=hid (HX.out.below hbl HX.out.lt)
 have HR2:=hid (HR1.out.below hbl HR1.out.lt)
 have HB2:=hid (HB.out.trans (hbl.mono (Nat.le_trans (Nat.le_of_eq HBQ.out.symm) HB.out.size)))
 have RG2:=hid (RG.out.below hbl)
 have RM2:=hid (RM.out.below hbl)
 have RK2:=hid (RK.out.below hbl)
 have hlt3:b < W1.heap.size:=HX.out.lt
 have hlt4:b+1 < W1.heap.size:=HR1.out.lt
 clear hp0 hbl HX HR1 HB RG RM RK
 go_upto_region 3 with (first
  | (refine qag rfl 31 (.tmp 3) (.tmp 23) rfl W1.heap.size [.int .i64 t.pa.st,.int .i64 t.pa.priv,.slice pA pn pc,.int .i64 t.pa.inter,.string t.pa.osc,.string t.pa.pend] rfl rfl HP0.out (by simp) (by kernel_rfl) (by simp[Value.oneCell']) ?_;rw[show (([.int .i64 t.pa.st,.int .i64 t.pa.priv,.slice pA pn pc,.int .i64 t.pa.inter,.string t.pa.osc,.string t.pa.pend]:List Value) ++ (#[.int .i64 0,.int .i64 0,.slice none 0 0,.int .i64 0,.string ⟨#[]⟩,.string ⟨#[]⟩]:Array Value).toList.drop ([.int .i64 t.pa.st,.int .i64 t.pa.priv,.slice pA pn pc,.int .i64 t.pa.inter,.string t.pa.osc,.string t.pa.pend]:List Value).length).toArray=#[.int .i64 t.pa.st,.int .i64 t.pa.priv,.slice pA pn pc,.int .i64 t.pa.inter,.string t.pa.osc,.string t.pa.pend] from rfl]))
 clear q23 q24 q25 q26 q27 q28 HP0
 generalize (W1.alloc (.cells #[.int .i64 0,.int .i64 0,.slice none 0 0,.int .i64 0,.string ⟨#[]⟩,.string ⟨#[]⟩] 31)).setRow W1.heap.size #[.int .i64 t.pa.st,.int .i64 t.pa.priv,.slice pA pn pc,.int .i64 t.pa.inter,.string t.pa.osc,.string t.pa.pend]=W2 at *
 obtain⟨p,hpq⟩:∃ p,W1.heap.size=p:=⟨_,rfl⟩
 rw[hpq] at HP1 hlt3 hlt4 ⊢
 clear hpq
 have m1:(0:Int)≤(if (18:Int) < pn then (18:Int) else pn):=(num_min pn 18).1
 have m2:(if (18:Int) < pn then (18:Int) else pn)≤pn:=(num_min pn 18).2.1
 have m3:(if (18:Int) < pn then (18:Int) else pn).toNat=min 18 pn:=(num_min pn 18).2.2
 have o1:(0:Int)≤(if (66:Int) < t.pa.osc.size then (66:Int) else t.pa.osc.size):=(qfi t.pa.osc 66).1
 have o2:(if (66:Int) < t.pa.osc.size then (66:Int) else t.pa.osc.size)≤t.pa.osc.size:=(qfi t.pa.osc 66).2.1
 have o3:t.pa.osc.extract 0 (if (66:Int) < t.pa.osc.size then (66:Int) else t.pa.osc.size).toNat=t.pa.osc.extract 0 66:=(qfi t.pa.osc 66).2.2
 have e1:(0:Int)≤(if (6:Int) < t.pa.pend.size then (6:Int) else t.pa.pend.size):=(qfi t.pa.pend 6).1
 have e2:(if (6:Int) < t.pa.pend.size then (6:Int) else t.pa.pend.size)≤t.pa.pend.size:=(qfi t.pa.pend 6).2.1
 have e3:t.pa.pend.extract 0 (if (6:Int) < t.pa.pend.size then (6:Int) else t.pa.pend.size).toNat=t.pa.pend.extract 0 6:=(qfi t.pa.pend 6).2.2
 have hcI:(if (18:Int) < pn then (18:Int) else pn)≤pc:=by omega
 have hS0:(fun w'=>Box w' p 31 #[.int .i64 t.pa.st,.int .i64 t.pa.priv,.slice pA pn pc,.int .i64 t.pa.inter,.string t.pa.osc,.string t.pa.pend]) _:=HP1.out.drew
 refine qh (qcp 22 (fun w'=>Box w' p 31 #[.int .i64 t.pa.st,.int .i64 t.pa.priv,.slice pA pn pc,.int .i64 t.pa.inter,.string t.pa.osc,.string t.pa.pend])) (by kernel_rfl) ?_
 refine tN 0 (fun _=>hS0) ?_
 refine tG 1 (fun _=>hS0) ?_ (hy:=fun w' hw'=>by have a0:w'.cell? ⟨p,2,none⟩=some (.slice pA pn pc):=hw'.cell 2;go_simp;try with_reducible rfl)
 refine tN 2 (fun _=>hS0) ?_
 refine tG 3 (fun _=>hS0) ?_ (hy:=fun w' hw'=>by have a0:w'.cell? ⟨p,2,none⟩=some (.slice pA pn pc):=hw'.cell 2;go_simp;try with_reducible rfl)
 refine tN 4 (fun _=>hS0) ?_
 refine tN 5 (fun _=>hS0) ?_
 refine tN 6 (fun _=>hS0) ?_
 refine tN 7 (fun _=>hS0) ?_
 refine tG 8 (fun _=>hS0) ?_ (hy:=fun w' hw'=>by have a0:w'.cell? ⟨p,4,none⟩=some (.string t.pa.osc):=hw'.cell 4;go_simp;try with_reducible rfl)
 refine tN 9 (fun _=>hS0) ?_
 refine tG 10 (fun _=>hS0) ?_ (hy:=fun w' hw'=>by have a0:w'.cell? ⟨p,4,none⟩=some (.string t.pa.osc):=hw'.cell 4;go_simp;try with_reducible rfl)
 refine tN 11 (fun _=>hS0) ?_
 refine tN 12 (fun _=>hS0) ?_
 refine tN 13 (fun _=>hS0) ?_
 refine tN 14 (fun _=>hS0) ?_
 refine tG 15 (fun _=>hS0) ?_ (hy:=fun w' hw'=>by have a0:w'.cell? ⟨p,5,none⟩=some (.string t.pa.pend):=hw'.cell 5;go_simp;try with_reducible rfl)
 refine tN 16 (fun _=>hS0) ?_
 refine tG 17 (fun _=>hS0) ?_ (hy:=fun w' hw'=>by have a0:w'.cell? ⟨p,5,none⟩=some (.string t.pa.pend):=hw'.cell 5;go_simp;try with_reducible rfl)
 refine tN 18 (fun _=>hS0) ?_
 refine tN 19 (fun _=>hS0) ?_
 refine tN 20 (fun _=>hS0) ?_
 refine tN 21 (fun _=>hS0) ?_
 have c2:W2.cell? ⟨p,2,none⟩=some (.slice pA pn pc):=HP1.out.cell 2
 have c4:W2.cell? ⟨p,4,none⟩=some (.string t.pa.osc):=HP1.out.cell 4
 have c5:W2.cell? ⟨p,5,none⟩=some (.string t.pa.pend):=HP1.out.cell 5
 have f2:W2.frozen? ⟨p,2,none⟩=false:=HP1.out.free 2
 have f4:W2.frozen? ⟨p,4,none⟩=false:=HP1.out.free 4
 have f5:W2.frozen? ⟨p,5,none⟩=false:=HP1.out.free 5
 refine qy (k:=22) (by kernel_rfl) rfl (by rfl) (fun K hK=>?_)
 go_simp
 refine hK _ _ (fun h=>(by simp at h)) ?_
 clear hK K
 (try simp only[zT]);(try simp only[zA]);(try simp only[zS]);(try simp only[zZ])
 refine tN 23 (fun h=>(by simp at h)) ?_
 refine qy (k:=24) (by kernel_rfl) rfl (by rfl) (fun K hK=>?_)
 go_simp
 refine hK _ _ (fun h=>(by simp at h)) ?_
 clear hK K
 (try simp only[zT]);(try simp only[zA]);(try simp only[zS]);(try simp only[zZ])
 refine tN 25 (fun h=>(by simp at h)) ?_
 refine qy (k:=26) (by kernel_rfl) rfl (by rfl) (fun K hK=>?_)
 go_simp
 refine hK _ _ (fun h=>(by simp at h)) ?_
 clear hK K
 (try simp only[zT]);(try simp only[zA]);(try simp only[zS]);(try simp only[zZ])
 refine qao (by kernel_rfl) ?_ _
 have hP2:Box (((W2.setCell ⟨p,2,none⟩ (.slice pA (min 18 pn) pc)).setCell ⟨p,4,none⟩ (.string (t.pa.osc.extract 0 66))).setCell ⟨p,5,none⟩ (.string (t.pa.pend.extract 0 6))) p 31 #[.int .i64 t.pa.st,.int .i64 t.pa.priv,.slice pA (min 18 pn) pc,.int .i64 t.pa.inter,.string (t.pa.osc.extract 0 66),.string (t.pa.pend.extract 0 6)]:=(((HP1.out.set (i:=2) (.slice pA (min 18 pn) pc)).set (i:=4) (.string (t.pa.osc.extract 0 66))).set (i:=5) (.string (t.pa.pend.extract 0 6)))
 have hX3:Box (((W2.setCell ⟨p,2,none⟩ (.slice pA (min 18 pn) pc)).setCell ⟨p,4,none⟩ (.string (t.pa.osc.extract 0 66))).setCell ⟨p,5,none⟩ (.string (t.pa.pend.extract 0 6))) b 35 T1:=(((HX2.out.other (Nat.ne_of_lt hlt3) _).other (Nat.ne_of_lt hlt3) _).other (Nat.ne_of_lt hlt3) _)
 have hR3:Box (((W2.setCell ⟨p,2,none⟩ (.slice pA (min 18 pn) pc)).setCell ⟨p,4,none⟩ (.string (t.pa.osc.extract 0 66))).setCell ⟨p,5,none⟩ (.string (t.pa.pend.extract 0 6))) (b+1) 35 #[.int .i64 0,.slice none 0 0,.bool false,.int .i64 0,.slice none 0 0,.int .i64 0,.int .i64 0,.bool false,.int .i64 0,.int .i64 0,.int .i64 0,.int .i64 0,.int .i64 0,.int .i64 0,.int .i64 0,.int .i64 0,.int .i64 0,.int .i64 0,.bool false,.bool false,.bool false,.bool false,.bool false,.int .i64 0,.int .i64 0,.slice none 0 0,.int .i64 0,.string ⟨#[]⟩,.string ⟨#[]⟩,.int .i64 0,.slice none 0 0,.string ⟨#[]⟩]:=(((HR2.out.other (Nat.ne_of_lt hlt4) _).other (Nat.ne_of_lt hlt4) _).other (Nat.ne_of_lt hlt4) _)
 have hB3:Below b W (((W2.setCell ⟨p,2,none⟩ (.slice pA (min 18 pn) pc)).setCell ⟨p,4,none⟩ (.string (t.pa.osc.extract 0 66))).setCell ⟨p,5,none⟩ (.string (t.pa.pend.extract 0 6))):=((HB2.out.setCell (p:=⟨p,2,none⟩) (Nat.le_of_lt hlt3) _).setCell (p:=⟨p,4,none⟩) (Nat.le_of_lt hlt3) _).setCell (p:=⟨p,5,none⟩) (Nat.le_of_lt hlt3) _
 have keep:∀ {v:Value} {l:List (Ln×Value)} {ls:List Ln},FewRow W W2 v l ls→FewRow W (((W2.setCell ⟨p,2,none⟩ (.slice pA (min 18 pn) pc)).setCell ⟨p,4,none⟩ (.string (t.pa.osc.extract 0 66))).setCell ⟨p,5,none⟩ (.string (t.pa.pend.extract 0 6))) v l ls:=fun h=>((h.set HP1.out (by decide) (by decide) _).set (HP1.out.set _) (by decide) (by decide) _).set ((HP1.out.set _).set _) (by decide) (by decide) _
 have RG3:=hid (keep RG2.out)
 have RM3:=hid (keep RM2.out)
 have RK3:=hid (keep RK2.out)
 have HX4:=hid hX3.drew
 have HP4:=hid hP2.drew
 have HR4:=hid hR3.drew
 have HB4:=hid hB3.drew
 have RG4:=hid (FewRow.below RG3.out (Below.refl _ _).drew)
 have RM4:=hid (FewRow.below RM3.out (Below.refl _ _).drew)
 have RK4:=hid (FewRow.below RK3.out (Below.refl _ _).drew)
 clear keep c2 c4 c5 f2 f4 f5 hP2 hX3 hR3 hB3 RG3 RM3 RK3 HX2 HP1 HR2 HB2 RG2 RM2 RK2 m1 m2 m3 o1 o2 o3 e1 e2 e3 hcI
 generalize (((W2.setCell ⟨p,2,none⟩ (.slice pA (min 18 pn) pc)).setCell ⟨p,4,none⟩ (.string (t.pa.osc.extract 0 66))).setCell ⟨p,5,none⟩ (.string (t.pa.pend.extract 0 6))).drew=W3 at *
 have n1:(0:Int)≤(if (36:Int) < t.title.size then (36:Int) else t.title.size):=(qfi t.title 36).1
 have n2:(if (36:Int) < t.title.size then (36:Int) else t.title.size)≤t.title.size:=(qfi t.title 36).2.1
 have n3:t.title.extract 0 (if (36:Int) < t.title.size then (36:Int) else t.title.size).toNat=t.title.extract 0 36:=(qfi t.title 36).2.2
 have hsz:23+([.int .i64 t.pa.st,.int .i64 t.pa.priv,.slice pA (min 18 pn) pc,.int .i64 t.pa.inter,.string (t.pa.osc.extract 0 66),.string (t.pa.pend.extract 0 6)]:List Value).length≤T1.size:=by rw[hs1];exact Nat.le_of_ble_eq_true rfl
 generalize (if (18:Int) < pn then (18:Int) else pn)=i1
 generalize (if (66:Int) < t.pa.osc.size then (66:Int) else t.pa.osc.size)=i2
 generalize (if (6:Int) < t.pa.pend.size then (6:Int) else t.pa.pend.size)=i3
 go_upto_region 4 with fail
 have hS0:(fun w'=>Box w' b 35 T1∧Box w' p 31 #[.int .i64 t.pa.st,.int .i64 t.pa.priv,.slice pA (min 18 pn) pc,.int .i64 t.pa.inter,.string (t.pa.osc.extract 0 66),.string (t.pa.pend.extract 0 6)]) _:=⟨HX4.out.drew,HP4.out.drew⟩
 refine qh (qcp 9 (fun w'=>Box w' b 35 T1∧Box w' p 31 #[.int .i64 t.pa.st,.int .i64 t.pa.priv,.slice pA (min 18 pn) pc,.int .i64 t.pa.inter,.string (t.pa.osc.extract 0 66),.string (t.pa.pend.extract 0 6)])) (by kernel_rfl) ?_
 refine tG 0 (fun _=>hS0) ?_ (hy:=fun w' hw'=>by have d0:w'.cell? ⟨p,0,none⟩=some (.int .i64 t.pa.st):=hw'.2.cell 0;have d1:w'.cell? ⟨p,1,none⟩=some (.int .i64 t.pa.priv):=hw'.2.cell 1;have d2:w'.cell? ⟨p,2,none⟩=some (.slice pA (min 18 pn) pc):=hw'.2.cell 2;have d3:w'.cell? ⟨p,3,none⟩=some (.int .i64 t.pa.inter):=hw'.2.cell 3;have d4:w'.cell? ⟨p,4,none⟩=some (.string (t.pa.osc.extract 0 66)):=hw'.2.cell 4;have d5:w'.cell? ⟨p,5,none⟩=some (.string (t.pa.pend.extract 0 6)):=hw'.2.cell 5;go_simp;try with_reducible rfl)
 refine tN 1 (fun _=>hS0) ?_
 refine tG 2 (fun _=>hS0) ?_ (hy:=fun w' hw'=>by have a0:w'.cell? ⟨b,31,none⟩=some (.string t.title):=(hw'.1.cell 31).trans u31;go_simp;try with_reducible rfl)
 refine tN 3 (fun _=>hS0) ?_
 refine tG 4 (fun _=>hS0) ?_ (hy:=fun w' hw'=>by have a0:w'.cell? ⟨b,31,none⟩=some (.string t.title):=(hw'.1.cell 31).trans u31;go_simp;try with_reducible rfl)
 refine tN 5 (fun _=>hS0) ?_
 refine tN 6 (fun _=>hS0) ?_
 refine tN 7 (fun _=>hS0) ?_
 refine tN 8 (fun _=>hS0) ?_
 refine qy (k:=9) (by kernel_rfl) rfl (by rfl) (fun K hK=>?_)
 refine qej 31 _ _ rfl b 23 [.int .i64 t.pa.st,.int .i64 t.pa.priv,.slice pA (min 18 pn) pc,.int .i64 t.pa.inter,.string (t.pa.osc.extract 0 66),.string (t.pa.pend.extract 0 6)] rfl rfl hS0.1 hsz (by kernel_rfl) (by simp[Value.oneCell']) (hK _ _ (fun h=>(by simp at h)) ?_)
 clear hK K
 (try simp only[zT]);(try simp only[zA]);(try simp only[zS]);(try simp only[zZ])
 have hx5:Box (qbw W3.drew b 23 [.int .i64 t.pa.st,.int .i64 t.pa.priv,.slice pA (min 18 pn) pc,.int .i64 t.pa.inter,.string (t.pa.osc.extract 0 66),.string (t.pa.pend.extract 0 6)]) b 35 ((((((T1.setIfInBounds 23 (.int .i64 t.pa.st)).setIfInBounds 24 (.int .i64 t.pa.priv)).setIfInBounds 25 (.slice pA (min 18 pn) pc)).setIfInBounds 26 (.int .i64 t.pa.inter)).setIfInBounds 27 (.string (t.pa.osc.extract 0 66))).setIfInBounds 28 (.string (t.pa.pend.extract 0 6))):=((((((HX4.out.drew.set (i:=23) (.int .i64 t.pa.st)).set (i:=24) (.int .i64 t.pa.priv)).set (i:=25) (.slice pA (min 18 pn) pc)).set (i:=26) (.int .i64 t.pa.inter)).set (i:=27) (.string (t.pa.osc.extract 0 66))).set (i:=28) (.string (t.pa.pend.extract 0 6)))
 have hb5:Below b W (qbw W3.drew b 23 [.int .i64 t.pa.st,.int .i64 t.pa.priv,.slice pA (min 18 pn) pc,.int .i64 t.pa.inter,.string (t.pa.osc.extract 0 66),.string (t.pa.pend.extract 0 6)]):=((((((HB4.out.drew.setCell (p:=⟨b,23,none⟩) (Nat.le_refl _) (.int .i64 t.pa.st)).setCell (p:=⟨b,24,none⟩) (Nat.le_refl _) (.int .i64 t.pa.priv)).setCell (p:=⟨b,25,none⟩) (Nat.le_refl _) (.slice pA (min 18 pn) pc)).setCell (p:=⟨b,26,none⟩) (Nat.le_refl _) (.int .i64 t.pa.inter)).setCell (p:=⟨b,27,none⟩) (Nat.le_refl _) (.string (t.pa.osc.extract 0 66))).setCell (p:=⟨b,28,none⟩) (Nat.le_refl _) (.string (t.pa.pend.extract 0 6)))
 have hr5:Box (qbw W3.drew b 23 [.int .i64 t.pa.st,.int .i64 t.pa.priv,.slice pA (min 18 pn) pc,.int .i64 t.pa.inter,.string (t.pa.osc.extract 0 66),.string (t.pa.pend.extract 0 6)]) (b+1) 35 _:=((((((HR4.out.drew.other (Nat.succ_ne_self b) _).other (Nat.succ_ne_self b) _).other (Nat.succ_ne_self b) _).other (Nat.succ_ne_self b) _).other (Nat.succ_ne_self b) _).other (Nat.succ_ne_self b) _)
 have RG5:=hid (FewRow.sets (by decide) (by decide) [.int .i64 t.pa.st,.int .i64 t.pa.priv,.slice pA (min 18 pn) pc,.int .i64 t.pa.inter,.string (t.pa.osc.extract 0 66),.string (t.pa.pend.extract 0 6)] 23 (FewRow.below RG4.out (Below.refl _ _).drew) HX4.out.drew)
 have RM5:=hid (FewRow.sets (by decide) (by decide) [.int .i64 t.pa.st,.int .i64 t.pa.priv,.slice pA (min 18 pn) pc,.int .i64 t.pa.inter,.string (t.pa.osc.extract 0 66),.string (t.pa.pend.extract 0 6)] 23 (FewRow.below RM4.out (Below.refl _ _).drew) HX4.out.drew)
 have RK5:=hid (FewRow.sets (by decide) (by decide) [.int .i64 t.pa.st,.int .i64 t.pa.priv,.slice pA (min 18 pn) pc,.int .i64 t.pa.inter,.string (t.pa.osc.extract 0 66),.string (t.pa.pend.extract 0 6)] 23 (FewRow.below RK4.out (Below.refl _ _).drew) HX4.out.drew)
 clear RG4 RM4 RK4 HX4 HB4 HR4 HP4 hS0 hsz
 generalize qbw W3.drew b 23 [.int .i64 t.pa.st,.int .i64 t.pa.priv,.slice pA (min 18 pn) pc,.int .i64 t.pa.inter,.string (t.pa.osc.extract 0 66),.string (t.pa.pend.extract 0 6)]=W5 at *
 obtain⟨T2,hT2⟩:∃ T2,((((((T1.setIfInBounds 23 (.int .i64 t.pa.st)).setIfInBounds 24 (.int .i64 t.pa.priv)).setIfInBounds 25 (.slice pA (min 18 pn) pc)).setIfInBounds 26 (.int .i64 t.pa.inter)).setIfInBounds 27 (.string (t.pa.osc.extract 0 66))).setIfInBounds 28 (.string (t.pa.pend.extract 0 6)))=T2:=⟨_,rfl⟩
 rw[hT2] at hx5
 have c31:W5.cell? ⟨b,31,none⟩=some (.string t.title):=(hx5.cell 31).trans (by rw[← hT2];simp[u31])
 have f31:W5.frozen? ⟨b,31,none⟩=false:=hx5.free 31
 have HT2:=hid hT2
 clear hT2
 refine tN 10 (fun h=>(by simp at h)) ?_
 refine qy (k:=11) (by kernel_rfl) rfl (by rfl) (fun K hK=>?_)
 go_simp
 refine hK _ _ (fun h=>(by simp at h)) ?_
 clear hK K
 (try simp only[zT]);(try simp only[zA]);(try simp only[zS]);(try simp only[zZ])
 refine qao (by kernel_rfl) ?_ _
 have hX6:Box (W5.setCell ⟨b,31,none⟩ (.string (t.title.extract 0 36))) b 35 (T2.setIfInBounds 31 (.string (t.title.extract 0 36))):=hx5.set _
 have hR6:Box (W5.setCell ⟨b,31,none⟩ (.string (t.title.extract 0 36))) (b+1) 35 _:=hr5.other (Nat.succ_ne_self b) _
 have hB6:Below b W (W5.setCell ⟨b,31,none⟩ (.string (t.title.extract 0 36))):=hb5.setCell (p:=⟨b,31,none⟩) (Nat.le_refl _) _
 have RG6:=hid (RG5.out.set hx5 (i:=31) (by decide) (by decide) (.string (t.title.extract 0 36)))
 have RM6:=hid (RM5.out.set hx5 (i:=31) (by decide) (by decide) (.string (t.title.extract 0 36)))
 have RK6:=hid (RK5.out.set hx5 (i:=31) (by decide) (by decide) (.string (t.title.extract 0 36)))
 have hT3:T2.setIfInBounds 31 (.string (t.title.extract 0 36))=(qem t).cells (.slice Ag ng cg) (.slice Am nm cm) (.slice pA (qem t).pa.params.length pc) (.slice Ab nb cb):=by
  have hml:min 18 pn=(qem t).pa.params.length:=by rw[← HPN.out];exact(List.length_take ..).symm
  rw[← HT2.out,← HT1.out,← HTL.out,hml]
  exact few_sets t _ _ _ _ _ _ _ _
 rw[hT3] at hX6
 clear c31 f31 hx5 hb5 hr5 RG5 RM5 RK5 HT1 HT2 HTL HPN hT3 n1 n2 n3
 generalize (W5.setCell ⟨b,31,none⟩ (.string (t.title.extract 0 36)))=W6 at *
 obtain⟨TF,hTF⟩:∃ TF,(qem t).cells (.slice Ag ng cg) (.slice Am nm cm) (.slice pA (qem t).pa.params.length pc) (.slice Ab nb cb)=TF:=⟨_,rfl⟩
 rw[hTF] at hX6
 have hll:TF.toList.length=32:=by rw[← hTF];rfl
 have HZS:=hid (show TF.size=32 by rw[← hTF];rfl)
 have HS:=hid (show (Tryz.prog.info? 35).map (·.size)=some TF.size by rw[HZS.out];kernel_rfl)
 have HLN:=hid (show TF.toList.length≤(#[.int .i64 0,.slice none 0 0,.bool false,.int .i64 0,.slice none 0 0,.int .i64 0,.int .i64 0,.bool false,.int .i64 0,.int .i64 0,.int .i64 0,.int .i64 0,.int .i64 0,.int .i64 0,.int .i64 0,.int .i64 0,.int .i64 0,.int .i64 0,.bool false,.bool false,.bool false,.bool false,.bool false,.int .i64 0,.int .i64 0,.slice none 0 0,.int .i64 0,.string ⟨#[]⟩,.string ⟨#[]⟩,.int .i64 0,.slice none 0 0,.string ⟨#[]⟩]:Array Value).size by rw[hll];exact Nat.le_refl _)
 have HDR:=hid (show (TF.toList ++ (#[.int .i64 0,.slice none 0 0,.bool false,.int .i64 0,.slice none 0 0,.int .i64 0,.int .i64 0,.bool false,.int .i64 0,.int .i64 0,.int .i64 0,.int .i64 0,.int .i64 0,.int .i64 0,.int .i64 0,.int .i64 0,.int .i64 0,.int .i64 0,.bool false,.bool false,.bool false,.bool false,.bool false,.int .i64 0,.int .i64 0,.slice none 0 0,.int .i64 0,.string ⟨#[]⟩,.string ⟨#[]⟩,.int .i64 0,.slice none 0 0,.string ⟨#[]⟩]:Array Value).toList.drop TF.toList.length).toArray=TF by rw[hll];simp)
 have HI:=hid (show (Tryz.prog.info? 35).map (·.size)=some TF.toList.length by rw[hll];kernel_rfl)
 have H1C:=hid (show ∀ v∈TF.toList,v.oneCell'=true by rw[← hTF];simp[Tm.cells,Value.oneCell'])
 have HTF:=hid hTF
 have HX6:=hid hX6
 have HR6:=hid hR6
 have HB6:=hid hB6
 have HX7:=hid (hR6.setRow TF)
 have keep:∀ {v:Value} {l:List (Ln×Value)} {ls:List Ln},FewRow W W6 v l ls→FewRow W (W6.setRow (b+1) TF) v l ls:=fun h=>h.row HR6.out (by decide) (by decide) TF
 have RG7:=hid (keep RG6.out)
 have RM7:=hid (keep RM6.out)
 have RK7:=hid (keep RK6.out)
 have HB7:=hid (qan hB6 (Nat.le_succ b) TF)
 clear hTF hll hX6 hR6 hB6 keep RG6 RM6 RK6 u23 u24 u25 u26 u27 u28 u31
 generalize (if (36:Int) < t.title.size then (36:Int) else t.title.size)=i4
 go_wp2_with (first
  | (refine qg (by rfl) 35 (.tmp 1) rfl b rfl HX6.out _ Tryz.underlying35 (by kernel_rfl) HS.out ?_)
  | (refine qag rfl 35 (.tmp 2) (.tmp 58) rfl (b+1) TF.toList rfl rfl HR6.out HLN.out HI.out H1C.out ?_;rw[HDR.out]))
 exact bodyPost_ret (v:=.agg TF) (qkp (t:=35) (i:=2) (a:=⟨b+1,0,none⟩) (by kernel_rfl) rfl (HX7.out.loadVar Tryz.underlying35 rfl HS.out)) rfl ⟨_,_,_,_,_,_,by rw[HTF.out],RG7.out,RM7.out,RK7.out,HBQ.out.symm ▸ HB7.out⟩
end Go.Proofs.YtpdaekmbpafenaaGreatDoor
