
import Derived.Test.YtpdaekmbpafenaaGreatDoorTermUQ
import Derived.Test.YtpdaekmbpafenaaGreatDoorCellHQ
import Derived.Test.YtpdaekmbpafenaaGreatDoorCellYaQ
namespace Go.Proofs.YtpdaekmbpafenaaGreatDoor
set_option maxHeartbeats 4000000
set_option maxRecDepth 100000
open Go.RowKit
theorem qk8:∀ (r done:List Ce),qa3 (qd1 done) r=true→∀ i,done.length≤i→i < (done ++ r).length→qf0 (done ++ r) i=false
 | [],done,_,i,h1,h2=>by simp at h2;omega
 | c :: r,done,h,i,h1,h2=>by
  rw[ql1,Bool.and_eq_true] at h
  by_cases hi:i=done.length
  ·subst hi
   rw[half_at]
   simpa using h.1
  ·have:=qk8 r (done ++ [c]) h.2 i (by simp;omega) (by simpa using h2)
   simpa using this
theorem qdh {cols:Int} {l:List Ce} (h:qbv cols l=true) {i:Nat} (hi:i < l.length):qf0 l i=false:=by
 have:=qk8 l [] (fits_iff.1 h).2.2 i (Nat.zero_le _) (by simpa using hi)
 simpa using this
theorem qex {l:List Ce} {i:Nat} {c:Ce} (h:qf0 l i=false) (hc:l[i]?=some c) (hw:c.wd=2):i+1 < l.length:=by
 unfold qf0 at h
 rw[hc] at h
 simp only[hw,if_true] at h
 cases hd:l[i+1]? with
 | none=>rw[hd] at h;cases h
 | some d=>exact(List.getElem?_eq_some_iff.1 hd).1
theorem half_zero {l:List Ce} {i:Nat} {c:Ce} (h:qf0 l i=false) (hc:l[i]?=some c) (hw:c.wd=0):0 < i:=by
 unfold qf0 at h
 rw[hc] at h
 simp only[hw] at h
 by_cases hi:i=0
 ·subst hi;simp at h
 ·omega
def MkOk (x:Ce):Prop:=x.tx.size≠0∧(qaz x.tx).2≠2
def MkNo (W:World) (e:Ending) (w':World):Prop:=∃ n:Int,(n=1∨n=7)∧e=.returned (.tuple #[.agg #[.string ⟨#[]⟩,.int .i64 0,.int .i64 0,.int .i64 0,.int .i64 0],.int .i64 n])∧Below W.heap.size W w'
theorem mk_no (x:Ce) (r:Int) (W:World) (hx:qq x=true) (hv:qg r=0) (h:¬ MkOk x) (hT:Tab W) (hW:TabW W):Calls Tryz.prog 211 #[x.agg,.int .i32 r] W (MkNo W):=by
 have hs:x.tx.size≤1000:=by have:=qc7 hx;omega
 by_cases h0:x.tx.size=0
 ·exact(mark_no x r W hs (.inr (.inl h0)) hT hW).mono fun e w' ⟨he,hb⟩=>⟨1,.inl rfl,he,hb⟩
 ·have hp:(qaz x.tx).2=2:=Classical.byContradiction fun hp=>h ⟨h0,hp⟩
  exact(mark_full x r W hs hx h0 hv hp hT hW).mono fun e w' ⟨he,hb⟩=>⟨7,.inr rfl,he,hb⟩
section
variable {M:World→Value→Prop} {b:Nat} {mv:Value} {t:Tm} {W:World}
structure LineIn (W:World) (b:Nat) (t:Tm) (g o r c cg co cc:Nat):Prop where
 hg:W.cell? ⟨b,1,none⟩=some (.slice (some ⟨g,o,none⟩) t.g.ls.length c)
 cells:W.cell? ⟨g,o+r * 2,none⟩=some (.slice (some ⟨cg,co,none⟩) (qo t.g.ls t.row).cs.length cc)
 gl:g < W.heap.size
 cl:cg < W.heap.size
 at_:∀ (j:Nat) (e:Ce),(qo t.g.ls t.row).cs[j]?=some e→∀ (i:Nat) (u:Value),e.cells[i]?=some u→W.cell? ⟨cg,co+j * 5+i,none⟩=some u
theorem qfc (h:TAt M b mv t W) (hr:WellT t) {r:Nat} (hrr:t.row=r):∃ g o c cg co cc,LineIn W b t g o r c cg co cc:=by
 obtain⟨A,c,lv,⟨⟨k1,_⟩,_⟩,hG,hgi,_⟩:=h.gin hr.g
 have hr1:=hr.row1
 have hrl:r < lv.length:=by rw[hG.len];omega
 have hx:=List.getElem?_eq_getElem hrl
 have hln:qo t.g.ls t.row=lv[r].1:=by unfold qo;rw[hrr,← hG.mp,Int.toNat_natCast,List.getElem?_map,hx];rfl
 obtain⟨A',c',e,_,hl⟩:=hG.lr
 injection e with e1 _ e3
 subst e1
 subst e3
 obtain⟨g,o,rfl,hgl,hl⟩:=hl (by rintro rfl;simp at hrl)
 have hces:=hG.ces _ (List.getElem_mem hrl)
 obtain⟨cA,cc,he,_,hcl⟩:=hces
 have hcn:lv[r].1.cs≠[]:=(qdg hr.g hG.mp).2 _ (List.getElem_mem hrl)
 obtain⟨cg,co,hcA,hcgl,hcc⟩:=hcl hcn
 refine⟨g,o,c,cg,co,cc,k1,?_,hgl,hcgl,?_⟩
 ·rw[(hl r _ hx).1,he,hcA,hln]
 ·rw[hln]
  exact hcc
theorem mark_first (h : TAt M b mv t W) (hr : WellT t) (rr : Int) (hlate : t.late = false) (h0 : t.col = 0) :
  Calls Tryz.prog 172 #[.pointer (some ⟨b,0,none⟩),.int .i32 rr] W (qu M b mv W t):=by
 obtain⟨r,hrr⟩:∃ r:Nat,t.row=r:=⟨t.row.toNat,by have:=hr.row0;omega⟩
 obtain⟨g,o,c,cg,co,cc,hL⟩:=qfc h hr hrr
 obtain⟨k1,kc,hgl,hcl,_⟩:=hL
 have k5:=h.c_row.1
 have k6:=h.c_col.1
 have k7:=h.c_late.1
 rw[hrr] at k5
 rw[h0] at k6
 rw[hlate] at k7
 have hr1:=hr.row1
 rw[hrr] at hr1
 have hn50:=qd hr.g
 have HT:=hid h
 generalize t.g.ls.length=N at *
 generalize (qo t.g.ls t.row).cs.length=CN at *
 have hN:N≤50:=by omega
 clear h hr hrr hlate h0 hn50
 go_enter Tryz.func172,Tryz.ntmps172
 go_wp2_with fail
 go_quiet (fail)
 go_wp2
 go_end0
 exact⟨rfl,HT.out.drewN _,But.of_below (qf W _)⟩
theorem mark_cwn (h : TAt M b mv t W) (hr : WellT t) (rr : Int) (hv : qg rr = 0) (m : Nat) (x : Ce) (hlate : t.late = false) (hk : t.col = (m : Int) + 1) (hyw : x.wd ≠ 0)  (hx : (qo t.g.ls t.row).cs[m]? = some x) (hok : ¬ MkOk x) :
  Calls Tryz.prog 172 #[.pointer (some ⟨b,0,none⟩),.int .i32 rr] W (qu M b mv W (t)):=by
 obtain⟨r,hrr⟩:∃ r:Nat,t.row=r:=⟨t.row.toNat,by have:=hr.row0;omega⟩
 obtain⟨g,o,c,cg,co,cc,hL⟩:=qfc h hr hrr
 obtain⟨k1,kc,hgl,hcl,hat⟩:=hL
 obtain⟨x0,x1,x2,x3,x4⟩:=qdp (fun i u hu=>hat m x hx i u hu)
 have hlen:=qfi hr.g hr.row0 hr.row1
 have hml:m < (qo t.g.ls t.row).cs.length:=(List.getElem?_eq_some_iff.1 hx).1
 have hxr:=qb4 hr.g hr.row0 hr.row1 x (List.mem_of_getElem? hx)
 have hhalf:=qdh (qeh hr.g hr.row0 hr.row1).2 hml
 have hwid:x.wd=2→m+1 < (qo t.g.ls t.row).cs.length:=fun hw=>qex hhalf hx hw
 have k5:=h.c_row.1
 have k6:=h.c_col.1
 have k7:=h.c_late.1
 rw[hrr] at k5
 rw[hk] at k6
 rw[hlate] at k7
 have hr1:=hr.row1
 rw[hrr] at hr1
 have hn50:=qd hr.g
 have HT:=hid h
 have HR:=hid hr
 have HMK:=hid (fun w' (hT:Tab w') (hW:TabW w')=>mk_no x rr w' hxr hv hok hT hW)
 unfold Ce.agg Ce.cells at HMK
 have hwy:(x.wd == 0)=false:=by simpa using hyw
 have hN50:t.g.ls.length≤50:=by omega
 have hC80:(qo t.g.ls t.row).cs.length≤80:=by omega
 generalize (qo t.g.ls t.row).cs.length=CN at *
 generalize t.g.ls.length=N at *
 have hm80:m≤80:=by omega
 have hmc:(m:Int) < CN:=by omega
 have hlt:=HT.out.lt
 obtain⟨tx,wd,fg,bg,fl⟩:=x
 simp only at x0 x1 x2 x3 x4
 simp only at hwy
 clear h hr hrr hlate hk hx hok hat hlen hxr hhalf hwid hn50 hml hv
 clear hyw
 go_enter Tryz.func172,Tryz.ntmps172
 go_wp2_with fail
 go_quiet (fail)
 obtain⟨w1,hw1⟩:∃ w1,w1=W.drewN nq:=⟨_,rfl⟩
 have hbw:Below W.heap.size W w1:=by rw[hw1];exact qf W nq
 rw[← hw1]
 clear hw1
 obtain⟨hc,hf⟩:=qag hbw
 have h1:=HT.out.below hbw
 have HC:=hid (HMK.out w1 h1.tab h1.tabW)
 have HB1:=hid (But.of_below (b:=b) hbw)
 have HT1:=hid h1
 clear h1 hbw HMK
 go_wp2_with fail
 with_reducible refine HC.out.mono ?_
 rintro e w2 ⟨n,hn,rfl,hb⟩
 dsimp only
 have hne:(n == 0)=false:=by rcases hn with rfl | rfl <;> rfl
 have HE:=hid ((HT1.out.below hb).alloc (.cells #[.string ⟨#[]⟩,.int .i64 0,.int .i64 0,.int .i64 0,.int .i64 0] 57))
 have HB2:=hid (But.of_below (b:=b) (hb.trans ((qa w2 (.cells #[.string ⟨#[]⟩,.int .i64 0,.int .i64 0,.int .i64 0,.int .i64 0] 57)).mono hb.size)))
 clear hb hc hf hn
 go_wp2
 go_end0
 exact⟨rfl,HE.out,HB1.out.trans HB2.out⟩
theorem mark_cwy (h : TAt M b mv t W) (hr : WellT t) (rr : Int) (hv : qg rr = 0) (m : Nat) (x : Ce) (hlate : t.late = false) (hk : t.col = (m : Int) + 1) (hyw : x.wd ≠ 0)  (hx : (qo t.g.ls t.row).cs[m]? = some x) (hok : MkOk x) :
  Calls Tryz.prog 172 #[.pointer (some ⟨b,0,none⟩),.int .i32 rr] W (qu M b mv W (qc3 t m (qav x rr))):=by
 obtain⟨r,hrr⟩:∃ r:Nat,t.row=r:=⟨t.row.toNat,by have:=hr.row0;omega⟩
 obtain⟨g,o,c,cg,co,cc,hL⟩:=qfc h hr hrr
 obtain⟨k1,kc,hgl,hcl,hat⟩:=hL
 obtain⟨x0,x1,x2,x3,x4⟩:=qdp (fun i u hu=>hat m x hx i u hu)
 have hlen:=qfi hr.g hr.row0 hr.row1
 have hml:m < (qo t.g.ls t.row).cs.length:=(List.getElem?_eq_some_iff.1 hx).1
 have hxr:=qb4 hr.g hr.row0 hr.row1 x (List.mem_of_getElem? hx)
 have hhalf:=qdh (qeh hr.g hr.row0 hr.row1).2 hml
 have hwid:x.wd=2→m+1 < (qo t.g.ls t.row).cs.length:=fun hw=>qex hhalf hx hw
 have k5:=h.c_row.1
 have k6:=h.c_col.1
 have k7:=h.c_late.1
 rw[hrr] at k5
 rw[hk] at k6
 rw[hlate] at k7
 have hr1:=hr.row1
 rw[hrr] at hr1
 have hn50:=qd hr.g
 have HT:=hid h
 have HR:=hid hr
 have hxt:(qav x rr).tx.size≠0:=by show (x.tx ++ Utf8.encode rr).size≠0;rw[qn];have:=hok.1;omega
 have hmr:qq (qav x rr)=true:=by
  unfold qav
  rw[qeo hv hxr hok.1]
  exact decide_eq_true hok.2
 have hmw:¬ ((qav x rr).wd=2∧(m:Int)=t.g.cols - 1):=fun ⟨hw,hc⟩=>by have:=hwid hw;omega
 have HPUT:=hid (fun w' (h':TAt M b mv t w')=>qhg (m:Int) (qav x rr) h' HR.out.g HR.out.row0 HR.out.row1 (by omega) (by omega) hmr hxt hmw)
 have HMK:=hid (fun w' (hT:Tab w') (hW:TabW w')=>qj6 x rr w' (by have:=qc7 hxr;omega) hxr hok.1 hv hok.2 hT hW)
 unfold qav at HPUT
 simp only at HPUT
 unfold Ce.agg Ce.cells at HMK
 have hwy:(x.wd == 0)=false:=by simpa using hyw
 have hN50:t.g.ls.length≤50:=by omega
 have hC80:(qo t.g.ls t.row).cs.length≤80:=by omega
 generalize (qo t.g.ls t.row).cs.length=CN at *
 generalize t.g.ls.length=N at *
 have hm80:m≤80:=by omega
 have hmc:(m:Int) < CN:=by omega
 have hlt:=HT.out.lt
 obtain⟨tx,wd,fg,bg,fl⟩:=x
 simp only at x0 x1 x2 x3 x4
 simp only at hwy
 clear h hr hrr hlate hk hx hok hat hlen hxr hhalf hwid hn50 hml hv hxt hmr hmw
 clear hyw
 go_enter Tryz.func172,Tryz.ntmps172
 go_wp2_with fail
 go_quiet (fail)
 obtain⟨w1,hw1⟩:∃ w1,w1=W.drewN nq:=⟨_,rfl⟩
 have hbw:Below W.heap.size W w1:=by rw[hw1];exact qf W nq
 rw[← hw1]
 clear hw1
 obtain⟨hc,hf⟩:=qag hbw
 have h1:=HT.out.below hbw
 have HC:=hid (HMK.out w1 h1.tab h1.tabW)
 have HB1:=hid (But.of_below (b:=b) hbw)
 have HT1:=hid h1
 clear h1 hbw HMK
 go_wp2_with fail
 with_reducible refine HC.out.mono ?_
 rintro e w2 ⟨he,hb⟩
 have he':e=.returned (.tuple #[.agg #[.string (tx ++ Utf8.encode rr),.int .i64 wd,.int .i64 fg,.int .i64 bg,.int .i64 fl],.int .i64 0]):=he
 subst he'
 dsimp only
 have HB2:=hid (But.of_below (b:=b) hb)
 have h2:=HT1.out.below hb
 have HP:=hid (HPUT.out _ (h2.alloc (.cells #[.string (tx ++ Utf8.encode rr),.int .i64 wd,.int .i64 fg,.int .i64 bg,.int .i64 fl] 57)))
 have HB3:=hid (But.of_below (b:=b) (qa w2 (.cells #[.string (tx ++ Utf8.encode rr),.int .i64 wd,.int .i64 fg,.int .i64 bg,.int .i64 fl] 57)))
 clear he hb h2 hc hf HPUT
 go_wp2_with ((with_reducible refine HP.out.mono ?_);rintro e wn ⟨rfl,h5,h6⟩)
 go_end0
 exact⟨rfl,h5,((HB1.out.trans HB2.out).trans HB3.out).trans h6⟩
theorem mark_chn (h : TAt M b mv t W) (hr : WellT t) (rr : Int) (hv : qg rr = 0) (k m : Nat) (x y : Ce) (hlate : t.late = false) (hk : t.col = (k : Int) + 1) (hyw : y.wd = 0) (hy : (qo t.g.ls t.row).cs[k]? = some y) (hm : k = m + 1) (hx : (qo t.g.ls t.row).cs[m]? = some x) (hok : ¬ MkOk x) :
  Calls Tryz.prog 172 #[.pointer (some ⟨b,0,none⟩),.int .i32 rr] W (qu M b mv W (t)):=by
 obtain⟨r,hrr⟩:∃ r:Nat,t.row=r:=⟨t.row.toNat,by have:=hr.row0;omega⟩
 obtain⟨g,o,c,cg,co,cc,hL⟩:=qfc h hr hrr
 obtain⟨k1,kc,hgl,hcl,hat⟩:=hL
 obtain⟨_,y1,_⟩:=qdp (fun i u hu=>hat k y hy i u hu)
 obtain⟨x0,x1,x2,x3,x4⟩:=qdp (fun i u hu=>hat m x hx i u hu)
 have hlen:=qfi hr.g hr.row0 hr.row1
 have hml:m < (qo t.g.ls t.row).cs.length:=(List.getElem?_eq_some_iff.1 hx).1
 have hkl:k < (qo t.g.ls t.row).cs.length:=(List.getElem?_eq_some_iff.1 hy).1
 have hxr:=qb4 hr.g hr.row0 hr.row1 x (List.mem_of_getElem? hx)
 have hhalf:=qdh (qeh hr.g hr.row0 hr.row1).2 hml
 have hwid:x.wd=2→m+1 < (qo t.g.ls t.row).cs.length:=fun hw=>qex hhalf hx hw
 have k5:=h.c_row.1
 have k6:=h.c_col.1
 have k7:=h.c_late.1
 rw[hrr] at k5
 rw[hk] at k6
 rw[hlate] at k7
 have hr1:=hr.row1
 rw[hrr] at hr1
 have hn50:=qd hr.g
 have HT:=hid h
 have HR:=hid hr
 have HMK:=hid (fun w' (hT:Tab w') (hW:TabW w')=>mk_no x rr w' hxr hv hok hT hW)
 unfold Ce.agg Ce.cells at HMK
 have hwy:(y.wd == 0)=true:=by simpa using hyw
 have hN50:t.g.ls.length≤50:=by omega
 have hC80:(qo t.g.ls t.row).cs.length≤80:=by omega
 generalize (qo t.g.ls t.row).cs.length=CN at *
 generalize t.g.ls.length=N at *
 have hk80:k≤80:=by omega
 have hm80:m≤80:=by omega
 have hmc:(m:Int) < CN:=by omega
 have hkc:(k:Int) < CN:=by omega
 have hlt:=HT.out.lt
 obtain⟨tx,wd,fg,bg,fl⟩:=x
 simp only at x0 x1 x2 x3 x4
 generalize y.wd=yw at *
 clear h hr hrr hlate hk hy hx hok hat hlen hxr hhalf hwid hn50 hml hkl hv
 subst hm
 go_enter Tryz.func172,Tryz.ntmps172
 go_wp2_with fail
 go_quiet (fail)
 obtain⟨w1,hw1⟩:∃ w1,w1=W.drewN nq:=⟨_,rfl⟩
 have hbw:Below W.heap.size W w1:=by rw[hw1];exact qf W nq
 rw[← hw1]
 clear hw1
 obtain⟨hc,hf⟩:=qag hbw
 have h1:=HT.out.below hbw
 have HC:=hid (HMK.out w1 h1.tab h1.tabW)
 have HB1:=hid (But.of_below (b:=b) hbw)
 have HT1:=hid h1
 clear h1 hbw HMK
 go_wp2_with fail
 with_reducible refine HC.out.mono ?_
 rintro e w2 ⟨n,hn,rfl,hb⟩
 dsimp only
 have hne:(n == 0)=false:=by rcases hn with rfl | rfl <;> rfl
 have HE:=hid ((HT1.out.below hb).alloc (.cells #[.string ⟨#[]⟩,.int .i64 0,.int .i64 0,.int .i64 0,.int .i64 0] 57))
 have HB2:=hid (But.of_below (b:=b) (hb.trans ((qa w2 (.cells #[.string ⟨#[]⟩,.int .i64 0,.int .i64 0,.int .i64 0,.int .i64 0] 57)).mono hb.size)))
 clear hb hc hf hn
 go_wp2
 go_end0
 exact⟨rfl,HE.out,HB1.out.trans HB2.out⟩
theorem mark_chy (h : TAt M b mv t W) (hr : WellT t) (rr : Int) (hv : qg rr = 0) (k m : Nat) (x y : Ce) (hlate : t.late = false) (hk : t.col = (k : Int) + 1) (hyw : y.wd = 0) (hy : (qo t.g.ls t.row).cs[k]? = some y) (hm : k = m + 1) (hx : (qo t.g.ls t.row).cs[m]? = some x) (hok : MkOk x) :
  Calls Tryz.prog 172 #[.pointer (some ⟨b,0,none⟩),.int .i32 rr] W (qu M b mv W (qc3 t m (qav x rr))):=by
 obtain⟨r,hrr⟩:∃ r:Nat,t.row=r:=⟨t.row.toNat,by have:=hr.row0;omega⟩
 obtain⟨g,o,c,cg,co,cc,hL⟩:=qfc h hr hrr
 obtain⟨k1,kc,hgl,hcl,hat⟩:=hL
 obtain⟨_,y1,_⟩:=qdp (fun i u hu=>hat k y hy i u hu)
 obtain⟨x0,x1,x2,x3,x4⟩:=qdp (fun i u hu=>hat m x hx i u hu)
 have hlen:=qfi hr.g hr.row0 hr.row1
 have hml:m < (qo t.g.ls t.row).cs.length:=(List.getElem?_eq_some_iff.1 hx).1
 have hkl:k < (qo t.g.ls t.row).cs.length:=(List.getElem?_eq_some_iff.1 hy).1
 have hxr:=qb4 hr.g hr.row0 hr.row1 x (List.mem_of_getElem? hx)
 have hhalf:=qdh (qeh hr.g hr.row0 hr.row1).2 hml
 have hwid:x.wd=2→m+1 < (qo t.g.ls t.row).cs.length:=fun hw=>qex hhalf hx hw
 have k5:=h.c_row.1
 have k6:=h.c_col.1
 have k7:=h.c_late.1
 rw[hrr] at k5
 rw[hk] at k6
 rw[hlate] at k7
 have hr1:=hr.row1
 rw[hrr] at hr1
 have hn50:=qd hr.g
 have HT:=hid h
 have HR:=hid hr
 have hxt:(qav x rr).tx.size≠0:=by show (x.tx ++ Utf8.encode rr).size≠0;rw[qn];have:=hok.1;omega
 have hmr:qq (qav x rr)=true:=by
  unfold qav
  rw[qeo hv hxr hok.1]
  exact decide_eq_true hok.2
 have hmw:¬ ((qav x rr).wd=2∧(m:Int)=t.g.cols - 1):=fun ⟨hw,hc⟩=>by have:=hwid hw;omega
 have HPUT:=hid (fun w' (h':TAt M b mv t w')=>qhg (m:Int) (qav x rr) h' HR.out.g HR.out.row0 HR.out.row1 (by omega) (by omega) hmr hxt hmw)
 have HMK:=hid (fun w' (hT:Tab w') (hW:TabW w')=>qj6 x rr w' (by have:=qc7 hxr;omega) hxr hok.1 hv hok.2 hT hW)
 unfold qav at HPUT
 simp only at HPUT
 unfold Ce.agg Ce.cells at HMK
 have hwy:(y.wd == 0)=true:=by simpa using hyw
 have hN50:t.g.ls.length≤50:=by omega
 have hC80:(qo t.g.ls t.row).cs.length≤80:=by omega
 generalize (qo t.g.ls t.row).cs.length=CN at *
 generalize t.g.ls.length=N at *
 have hk80:k≤80:=by omega
 have hm80:m≤80:=by omega
 have hmc:(m:Int) < CN:=by omega
 have hkc:(k:Int) < CN:=by omega
 have hlt:=HT.out.lt
 obtain⟨tx,wd,fg,bg,fl⟩:=x
 simp only at x0 x1 x2 x3 x4
 generalize y.wd=yw at *
 clear h hr hrr hlate hk hy hx hok hat hlen hxr hhalf hwid hn50 hml hkl hv hxt hmr hmw
 subst hm
 go_enter Tryz.func172,Tryz.ntmps172
 go_wp2_with fail
 go_quiet (fail)
 obtain⟨w1,hw1⟩:∃ w1,w1=W.drewN nq:=⟨_,rfl⟩
 have hbw:Below W.heap.size W w1:=by rw[hw1];exact qf W nq
 rw[← hw1]
 clear hw1
 obtain⟨hc,hf⟩:=qag hbw
 have h1:=HT.out.below hbw
 have HC:=hid (HMK.out w1 h1.tab h1.tabW)
 have HB1:=hid (But.of_below (b:=b) hbw)
 have HT1:=hid h1
 clear h1 hbw HMK
 go_wp2_with fail
 with_reducible refine HC.out.mono ?_
 rintro e w2 ⟨he,hb⟩
 have he':e=.returned (.tuple #[.agg #[.string (tx ++ Utf8.encode rr),.int .i64 wd,.int .i64 fg,.int .i64 bg,.int .i64 fl],.int .i64 0]):=he
 subst he'
 dsimp only
 have HB2:=hid (But.of_below (b:=b) hb)
 have h2:=HT1.out.below hb
 have HP:=hid (HPUT.out _ (h2.alloc (.cells #[.string (tx ++ Utf8.encode rr),.int .i64 wd,.int .i64 fg,.int .i64 bg,.int .i64 fl] 57)))
 have HB3:=hid (But.of_below (b:=b) (qa w2 (.cells #[.string (tx ++ Utf8.encode rr),.int .i64 wd,.int .i64 fg,.int .i64 bg,.int .i64 fl] 57)))
 clear he hb h2 hc hf HPUT
 go_wp2_with ((with_reducible refine HP.out.mono ?_);rintro e wn ⟨rfl,h5,h6⟩)
 go_end0
 exact⟨rfl,h5,((HB1.out.trans HB2.out).trans HB3.out).trans h6⟩
theorem mark_lwn (h : TAt M b mv t W) (hr : WellT t) (rr : Int) (hv : qg rr = 0) (m : Nat) (x : Ce) (hlate : t.late = true) (hk : t.col = m) (hyw : x.wd ≠ 0)  (hx : (qo t.g.ls t.row).cs[m]? = some x) (hok : ¬ MkOk x) :
  Calls Tryz.prog 172 #[.pointer (some ⟨b,0,none⟩),.int .i32 rr] W (qu M b mv W (t)):=by
 obtain⟨r,hrr⟩:∃ r:Nat,t.row=r:=⟨t.row.toNat,by have:=hr.row0;omega⟩
 obtain⟨g,o,c,cg,co,cc,hL⟩:=qfc h hr hrr
 obtain⟨k1,kc,hgl,hcl,hat⟩:=hL
 obtain⟨x0,x1,x2,x3,x4⟩:=qdp (fun i u hu=>hat m x hx i u hu)
 have hlen:=qfi hr.g hr.row0 hr.row1
 have hml:m < (qo t.g.ls t.row).cs.length:=(List.getElem?_eq_some_iff.1 hx).1
 have hxr:=qb4 hr.g hr.row0 hr.row1 x (List.mem_of_getElem? hx)
 have hhalf:=qdh (qeh hr.g hr.row0 hr.row1).2 hml
 have hwid:x.wd=2→m+1 < (qo t.g.ls t.row).cs.length:=fun hw=>qex hhalf hx hw
 have k5:=h.c_row.1
 have k6:=h.c_col.1
 have k7:=h.c_late.1
 rw[hrr] at k5
 rw[hk] at k6
 rw[hlate] at k7
 have hr1:=hr.row1
 rw[hrr] at hr1
 have hn50:=qd hr.g
 have HT:=hid h
 have HR:=hid hr
 have HMK:=hid (fun w' (hT:Tab w') (hW:TabW w')=>mk_no x rr w' hxr hv hok hT hW)
 unfold Ce.agg Ce.cells at HMK
 have hwy:(x.wd == 0)=false:=by simpa using hyw
 have hN50:t.g.ls.length≤50:=by omega
 have hC80:(qo t.g.ls t.row).cs.length≤80:=by omega
 generalize (qo t.g.ls t.row).cs.length=CN at *
 generalize t.g.ls.length=N at *
 have hm80:m≤80:=by omega
 have hmc:(m:Int) < CN:=by omega
 have hlt:=HT.out.lt
 obtain⟨tx,wd,fg,bg,fl⟩:=x
 simp only at x0 x1 x2 x3 x4
 simp only at hwy
 clear h hr hrr hlate hk hx hok hat hlen hxr hhalf hwid hn50 hml hv
 clear hyw
 go_enter Tryz.func172,Tryz.ntmps172
 go_wp2_with fail
 go_quiet (fail)
 obtain⟨w1,hw1⟩:∃ w1,w1=W.drewN nq:=⟨_,rfl⟩
 have hbw:Below W.heap.size W w1:=by rw[hw1];exact qf W nq
 rw[← hw1]
 clear hw1
 obtain⟨hc,hf⟩:=qag hbw
 have h1:=HT.out.below hbw
 have HC:=hid (HMK.out w1 h1.tab h1.tabW)
 have HB1:=hid (But.of_below (b:=b) hbw)
 have HT1:=hid h1
 clear h1 hbw HMK
 go_wp2_with fail
 with_reducible refine HC.out.mono ?_
 rintro e w2 ⟨n,hn,rfl,hb⟩
 dsimp only
 have hne:(n == 0)=false:=by rcases hn with rfl | rfl <;> rfl
 have HE:=hid ((HT1.out.below hb).alloc (.cells #[.string ⟨#[]⟩,.int .i64 0,.int .i64 0,.int .i64 0,.int .i64 0] 57))
 have HB2:=hid (But.of_below (b:=b) (hb.trans ((qa w2 (.cells #[.string ⟨#[]⟩,.int .i64 0,.int .i64 0,.int .i64 0,.int .i64 0] 57)).mono hb.size)))
 clear hb hc hf hn
 go_wp2
 go_end0
 exact⟨rfl,HE.out,HB1.out.trans HB2.out⟩
theorem mark_lwy (h : TAt M b mv t W) (hr : WellT t) (rr : Int) (hv : qg rr = 0) (m : Nat) (x : Ce) (hlate : t.late = true) (hk : t.col = m) (hyw : x.wd ≠ 0)  (hx : (qo t.g.ls t.row).cs[m]? = some x) (hok : MkOk x) :
  Calls Tryz.prog 172 #[.pointer (some ⟨b,0,none⟩),.int .i32 rr] W (qu M b mv W (qc3 t m (qav x rr))):=by
 obtain⟨r,hrr⟩:∃ r:Nat,t.row=r:=⟨t.row.toNat,by have:=hr.row0;omega⟩
 obtain⟨g,o,c,cg,co,cc,hL⟩:=qfc h hr hrr
 obtain⟨k1,kc,hgl,hcl,hat⟩:=hL
 obtain⟨x0,x1,x2,x3,x4⟩:=qdp (fun i u hu=>hat m x hx i u hu)
 have hlen:=qfi hr.g hr.row0 hr.row1
 have hml:m < (qo t.g.ls t.row).cs.length:=(List.getElem?_eq_some_iff.1 hx).1
 have hxr:=qb4 hr.g hr.row0 hr.row1 x (List.mem_of_getElem? hx)
 have hhalf:=qdh (qeh hr.g hr.row0 hr.row1).2 hml
 have hwid:x.wd=2→m+1 < (qo t.g.ls t.row).cs.length:=fun hw=>qex hhalf hx hw
 have k5:=h.c_row.1
 have k6:=h.c_col.1
 have k7:=h.c_late.1
 rw[hrr] at k5
 rw[hk] at k6
 rw[hlate] at k7
 have hr1:=hr.row1
 rw[hrr] at hr1
 have hn50:=qd hr.g
 have HT:=hid h
 have HR:=hid hr
 have hxt:(qav x rr).tx.size≠0:=by show (x.tx ++ Utf8.encode rr).size≠0;rw[qn];have:=hok.1;omega
 have hmr:qq (qav x rr)=true:=by
  unfold qav
  rw[qeo hv hxr hok.1]
  exact decide_eq_true hok.2
 have hmw:¬ ((qav x rr).wd=2∧(m:Int)=t.g.cols - 1):=fun ⟨hw,hc⟩=>by have:=hwid hw;omega
 have HPUT:=hid (fun w' (h':TAt M b mv t w')=>qhg (m:Int) (qav x rr) h' HR.out.g HR.out.row0 HR.out.row1 (by omega) (by omega) hmr hxt hmw)
 have HMK:=hid (fun w' (hT:Tab w') (hW:TabW w')=>qj6 x rr w' (by have:=qc7 hxr;omega) hxr hok.1 hv hok.2 hT hW)
 unfold qav at HPUT
 simp only at HPUT
 unfold Ce.agg Ce.cells at HMK
 have hwy:(x.wd == 0)=false:=by simpa using hyw
 have hN50:t.g.ls.length≤50:=by omega
 have hC80:(qo t.g.ls t.row).cs.length≤80:=by omega
 generalize (qo t.g.ls t.row).cs.length=CN at *
 generalize t.g.ls.length=N at *
 have hm80:m≤80:=by omega
 have hmc:(m:Int) < CN:=by omega
 have hlt:=HT.out.lt
 obtain⟨tx,wd,fg,bg,fl⟩:=x
 simp only at x0 x1 x2 x3 x4
 simp only at hwy
 clear h hr hrr hlate hk hx hok hat hlen hxr hhalf hwid hn50 hml hv hxt hmr hmw
 clear hyw
 go_enter Tryz.func172,Tryz.ntmps172
 go_wp2_with fail
 go_quiet (fail)
 obtain⟨w1,hw1⟩:∃ w1,w1=W.drewN nq:=⟨_,rfl⟩
 have hbw:Below W.heap.size W w1:=by rw[hw1];exact qf W nq
 rw[← hw1]
 clear hw1
 obtain⟨hc,hf⟩:=qag hbw
 have h1:=HT.out.below hbw
 have HC:=hid (HMK.out w1 h1.tab h1.tabW)
 have HB1:=hid (But.of_below (b:=b) hbw)
 have HT1:=hid h1
 clear h1 hbw HMK
 go_wp2_with fail
 with_reducible refine HC.out.mono ?_
 rintro e w2 ⟨he,hb⟩
 have he':e=.returned (.tuple #[.agg #[.string (tx ++ Utf8.encode rr),.int .i64 wd,.int .i64 fg,.int .i64 bg,.int .i64 fl],.int .i64 0]):=he
 subst he'
 dsimp only
 have HB2:=hid (But.of_below (b:=b) hb)
 have h2:=HT1.out.below hb
 have HP:=hid (HPUT.out _ (h2.alloc (.cells #[.string (tx ++ Utf8.encode rr),.int .i64 wd,.int .i64 fg,.int .i64 bg,.int .i64 fl] 57)))
 have HB3:=hid (But.of_below (b:=b) (qa w2 (.cells #[.string (tx ++ Utf8.encode rr),.int .i64 wd,.int .i64 fg,.int .i64 bg,.int .i64 fl] 57)))
 clear he hb h2 hc hf HPUT
 go_wp2_with ((with_reducible refine HP.out.mono ?_);rintro e wn ⟨rfl,h5,h6⟩)
 go_end0
 exact⟨rfl,h5,((HB1.out.trans HB2.out).trans HB3.out).trans h6⟩
theorem mark_lhn (h : TAt M b mv t W) (hr : WellT t) (rr : Int) (hv : qg rr = 0) (k m : Nat) (x y : Ce) (hlate : t.late = true) (hk : t.col = k) (hyw : y.wd = 0) (hy : (qo t.g.ls t.row).cs[k]? = some y) (hm : k = m + 1) (hx : (qo t.g.ls t.row).cs[m]? = some x) (hok : ¬ MkOk x) :
  Calls Tryz.prog 172 #[.pointer (some ⟨b,0,none⟩),.int .i32 rr] W (qu M b mv W (t)):=by
 obtain⟨r,hrr⟩:∃ r:Nat,t.row=r:=⟨t.row.toNat,by have:=hr.row0;omega⟩
 obtain⟨g,o,c,cg,co,cc,hL⟩:=qfc h hr hrr
 obtain⟨k1,kc,hgl,hcl,hat⟩:=hL
 obtain⟨_,y1,_⟩:=qdp (fun i u hu=>hat k y hy i u hu)
 obtain⟨x0,x1,x2,x3,x4⟩:=qdp (fun i u hu=>hat m x hx i u hu)
 have hlen:=qfi hr.g hr.row0 hr.row1
 have hml:m < (qo t.g.ls t.row).cs.length:=(List.getElem?_eq_some_iff.1 hx).1
 have hkl:k < (qo t.g.ls t.row).cs.length:=(List.getElem?_eq_some_iff.1 hy).1
 have hxr:=qb4 hr.g hr.row0 hr.row1 x (List.mem_of_getElem? hx)
 have hhalf:=qdh (qeh hr.g hr.row0 hr.row1).2 hml
 have hwid:x.wd=2→m+1 < (qo t.g.ls t.row).cs.length:=fun hw=>qex hhalf hx hw
 have k5:=h.c_row.1
 have k6:=h.c_col.1
 have k7:=h.c_late.1
 rw[hrr] at k5
 rw[hk] at k6
 rw[hlate] at k7
 have hr1:=hr.row1
 rw[hrr] at hr1
 have hn50:=qd hr.g
 have HT:=hid h
 have HR:=hid hr
 have HMK:=hid (fun w' (hT:Tab w') (hW:TabW w')=>mk_no x rr w' hxr hv hok hT hW)
 unfold Ce.agg Ce.cells at HMK
 have hwy:(y.wd == 0)=true:=by simpa using hyw
 have hN50:t.g.ls.length≤50:=by omega
 have hC80:(qo t.g.ls t.row).cs.length≤80:=by omega
 generalize (qo t.g.ls t.row).cs.length=CN at *
 generalize t.g.ls.length=N at *
 have hk80:k≤80:=by omega
 have hm80:m≤80:=by omega
 have hmc:(m:Int) < CN:=by omega
 have hkc:(k:Int) < CN:=by omega
 have hlt:=HT.out.lt
 obtain⟨tx,wd,fg,bg,fl⟩:=x
 simp only at x0 x1 x2 x3 x4
 generalize y.wd=yw at *
 clear h hr hrr hlate hk hy hx hok hat hlen hxr hhalf hwid hn50 hml hkl hv
 subst hm
 go_enter Tryz.func172,Tryz.ntmps172
 go_wp2_with fail
 go_quiet (fail)
 obtain⟨w1,hw1⟩:∃ w1,w1=W.drewN nq:=⟨_,rfl⟩
 have hbw:Below W.heap.size W w1:=by rw[hw1];exact qf W nq
 rw[← hw1]
 clear hw1
 obtain⟨hc,hf⟩:=qag hbw
 have h1:=HT.out.below hbw
 have HC:=hid (HMK.out w1 h1.tab h1.tabW)
 have HB1:=hid (But.of_below (b:=b) hbw)
 have HT1:=hid h1
 clear h1 hbw HMK
 go_wp2_with fail
 with_reducible refine HC.out.mono ?_
 rintro e w2 ⟨n,hn,rfl,hb⟩
 dsimp only
 have hne:(n == 0)=false:=by rcases hn with rfl | rfl <;> rfl
 have HE:=hid ((HT1.out.below hb).alloc (.cells #[.string ⟨#[]⟩,.int .i64 0,.int .i64 0,.int .i64 0,.int .i64 0] 57))
 have HB2:=hid (But.of_below (b:=b) (hb.trans ((qa w2 (.cells #[.string ⟨#[]⟩,.int .i64 0,.int .i64 0,.int .i64 0,.int .i64 0] 57)).mono hb.size)))
 clear hb hc hf hn
 go_wp2
 go_end0
 exact⟨rfl,HE.out,HB1.out.trans HB2.out⟩
theorem mark_lhy (h : TAt M b mv t W) (hr : WellT t) (rr : Int) (hv : qg rr = 0) (k m : Nat) (x y : Ce) (hlate : t.late = true) (hk : t.col = k) (hyw : y.wd = 0) (hy : (qo t.g.ls t.row).cs[k]? = some y) (hm : k = m + 1) (hx : (qo t.g.ls t.row).cs[m]? = some x) (hok : MkOk x) :
  Calls Tryz.prog 172 #[.pointer (some ⟨b,0,none⟩),.int .i32 rr] W (qu M b mv W (qc3 t m (qav x rr))):=by
 obtain⟨r,hrr⟩:∃ r:Nat,t.row=r:=⟨t.row.toNat,by have:=hr.row0;omega⟩
 obtain⟨g,o,c,cg,co,cc,hL⟩:=qfc h hr hrr
 obtain⟨k1,kc,hgl,hcl,hat⟩:=hL
 obtain⟨_,y1,_⟩:=qdp (fun i u hu=>hat k y hy i u hu)
 obtain⟨x0,x1,x2,x3,x4⟩:=qdp (fun i u hu=>hat m x hx i u hu)
 have hlen:=qfi hr.g hr.row0 hr.row1
 have hml:m < (qo t.g.ls t.row).cs.length:=(List.getElem?_eq_some_iff.1 hx).1
 have hkl:k < (qo t.g.ls t.row).cs.length:=(List.getElem?_eq_some_iff.1 hy).1
 have hxr:=qb4 hr.g hr.row0 hr.row1 x (List.mem_of_getElem? hx)
 have hhalf:=qdh (qeh hr.g hr.row0 hr.row1).2 hml
 have hwid:x.wd=2→m+1 < (qo t.g.ls t.row).cs.length:=fun hw=>qex hhalf hx hw
 have k5:=h.c_row.1
 have k6:=h.c_col.1
 have k7:=h.c_late.1
 rw[hrr] at k5
 rw[hk] at k6
 rw[hlate] at k7
 have hr1:=hr.row1
 rw[hrr] at hr1
 have hn50:=qd hr.g
 have HT:=hid h
 have HR:=hid hr
 have hxt:(qav x rr).tx.size≠0:=by show (x.tx ++ Utf8.encode rr).size≠0;rw[qn];have:=hok.1;omega
 have hmr:qq (qav x rr)=true:=by
  unfold qav
  rw[qeo hv hxr hok.1]
  exact decide_eq_true hok.2
 have hmw:¬ ((qav x rr).wd=2∧(m:Int)=t.g.cols - 1):=fun ⟨hw,hc⟩=>by have:=hwid hw;omega
 have HPUT:=hid (fun w' (h':TAt M b mv t w')=>qhg (m:Int) (qav x rr) h' HR.out.g HR.out.row0 HR.out.row1 (by omega) (by omega) hmr hxt hmw)
 have HMK:=hid (fun w' (hT:Tab w') (hW:TabW w')=>qj6 x rr w' (by have:=qc7 hxr;omega) hxr hok.1 hv hok.2 hT hW)
 unfold qav at HPUT
 simp only at HPUT
 unfold Ce.agg Ce.cells at HMK
 have hwy:(y.wd == 0)=true:=by simpa using hyw
 have hN50:t.g.ls.length≤50:=by omega
 have hC80:(qo t.g.ls t.row).cs.length≤80:=by omega
 generalize (qo t.g.ls t.row).cs.length=CN at *
 generalize t.g.ls.length=N at *
 have hk80:k≤80:=by omega
 have hm80:m≤80:=by omega
 have hmc:(m:Int) < CN:=by omega
 have hkc:(k:Int) < CN:=by omega
 have hlt:=HT.out.lt
 obtain⟨tx,wd,fg,bg,fl⟩:=x
 simp only at x0 x1 x2 x3 x4
 generalize y.wd=yw at *
 clear h hr hrr hlate hk hy hx hok hat hlen hxr hhalf hwid hn50 hml hkl hv hxt hmr hmw
 subst hm
 go_enter Tryz.func172,Tryz.ntmps172
 go_wp2_with fail
 go_quiet (fail)
 obtain⟨w1,hw1⟩:∃ w1,w1=W.drewN nq:=⟨_,rfl⟩
 have hbw:Below W.heap.size W w1:=by rw[hw1];exact qf W nq
 rw[← hw1]
 clear hw1
 obtain⟨hc,hf⟩:=qag hbw
 have h1:=HT.out.below hbw
 have HC:=hid (HMK.out w1 h1.tab h1.tabW)
 have HB1:=hid (But.of_below (b:=b) hbw)
 have HT1:=hid h1
 clear h1 hbw HMK
 go_wp2_with fail
 with_reducible refine HC.out.mono ?_
 rintro e w2 ⟨he,hb⟩
 have he':e=.returned (.tuple #[.agg #[.string (tx ++ Utf8.encode rr),.int .i64 wd,.int .i64 fg,.int .i64 bg,.int .i64 fl],.int .i64 0]):=he
 subst he'
 dsimp only
 have HB2:=hid (But.of_below (b:=b) hb)
 have h2:=HT1.out.below hb
 have HP:=hid (HPUT.out _ (h2.alloc (.cells #[.string (tx ++ Utf8.encode rr),.int .i64 wd,.int .i64 fg,.int .i64 bg,.int .i64 fl] 57)))
 have HB3:=hid (But.of_below (b:=b) (qa w2 (.cells #[.string (tx ++ Utf8.encode rr),.int .i64 wd,.int .i64 fg,.int .i64 bg,.int .i64 fl] 57)))
 clear he hb h2 hc hf HPUT
 go_wp2_with ((with_reducible refine HP.out.mono ?_);rintro e wn ⟨rfl,h5,h6⟩)
 go_end0
 exact⟨rfl,h5,((HB1.out.trans HB2.out).trans HB3.out).trans h6⟩
theorem cellAt_is {t:Tm} {C:Int} {k:Nat} {y:Ce} (hk:C=k) (hy:(qo t.g.ls t.row).cs[k]?=some y):cellAt t C=y:=by
 unfold cellAt
 rw[hk,Int.toNat_natCast,hy]
 rfl
theorem mk_iff {x:Ce} {rr:Int} (hv:qg rr=0) (hx:qq x=true):(x.tx.size≠0∧qq (qav x rr)=true)↔MkOk x:=by
 unfold MkOk
 constructor
 ·rintro⟨h1,h2⟩
  unfold qav at h2
  rw[qeo hv hx h1] at h2
  exact⟨h1,of_decide_eq_true h2⟩
 ·rintro⟨h1,h2⟩
  refine⟨h1,?_⟩
  unfold qav
  rw[qeo hv hx h1]
  exact decide_eq_true h2
theorem mark_is {t : Tm} {rr : Int} (hv : qg rr = 0) {k m : Nat} {x y : Ce} (hC : qho t = k) (hy : (qo t.g.ls t.row).cs[k]? = some y) (hm : (y.wd = 0 ∧ k = m + 1) ∨ (y.wd ≠ 0 ∧ k = m)) (hx : (qo t.g.ls t.row).cs[m]? = some x) (hxr : qq x = true) :
  qhp t rr=if x.tx.size≠0∧(qaz x.tx).2≠2 then qc3 t m (qav x rr) else t:=by
 have hcy:=cellAt_is hC hy
 have hA:qka t=m:=by
  unfold qka
  rw[hcy,hC]
  rcases hm with ⟨h1,h2⟩ | ⟨h1,h2⟩
  ·rw[if_pos h1];omega
  ·rw[if_neg h1];omega
 have hcx:=cellAt_is hA hx
 unfold qhp
 rw[if_neg (by omega),hcx,hA]
 exact qhw (mk_iff hv hxr)
theorem mark_any (h : TAt M b mv t W) (hr : WellT t) (rr : Int) (hv : qg rr = 0) :
  Calls Tryz.prog 172 #[.pointer (some ⟨b,0,none⟩),.int .i32 rr] W (qu M b mv W (qhp t rr)):=by
 have hc0:=hr.col0
 have hc1:=hr.col1
 have hlen:=qfi hr.g hr.row0 hr.row1
 by_cases hneg:qho t < 0
 ·have hm:qhp t rr=t:=if_pos hneg
  rw[hm]
  unfold qho at hneg
  cases hl:t.late
  ·rw[hl,if_neg (by decide)] at hneg
   exact mark_first h hr rr hl (by omega)
  ·rw[hl,if_pos rfl] at hneg
   omega
 ·obtain⟨k,hk⟩:∃ k:Nat,qho t=k:=⟨(qho t).toNat,by omega⟩
  have hkl:k < (qo t.g.ls t.row).cs.length:=by
   unfold qho at hk
   split at hk <;> omega
  obtain⟨y,hy⟩:∃ y,(qo t.g.ls t.row).cs[k]?=some y:=⟨_,List.getElem?_eq_getElem hkl⟩
  have hkc:∀ lt,t.late=lt→(lt=true→t.col=k)∧(lt=false→t.col=(k:Int)+1):=fun lt hlt=>by
   unfold qho at hk
   rw[hlt] at hk
   constructor
   ·rintro rfl
    rwa [if_pos rfl] at hk
   ·rintro rfl
    rw[if_neg (by decide)] at hk
    omega
  by_cases hw:y.wd=0
  ·have hk0:=half_zero (qdh (qeh hr.g hr.row0 hr.row1).2 hkl) hy hw
   obtain⟨m,rfl⟩:∃ m,k=m+1:=⟨k - 1,by omega⟩
   obtain⟨x,hx⟩:∃ x,(qo t.g.ls t.row).cs[m]?=some x:=⟨_,List.getElem?_eq_getElem (by omega)⟩
   have hxr:=qb4 hr.g hr.row0 hr.row1 x (List.mem_of_getElem? hx)
   rw[mark_is hv hk hy (.inl ⟨hw,rfl⟩) hx hxr]
   by_cases hok:MkOk x
   ·rw[if_pos (show x.tx.size≠0∧(qaz x.tx).2≠2 from hok)]
    cases hl:t.late
    ·exact mark_chy h hr rr hv _ m x y hl ((hkc _ hl).2 rfl) hw hy rfl hx hok
    ·exact mark_lhy h hr rr hv _ m x y hl ((hkc _ hl).1 rfl) hw hy rfl hx hok
   ·rw[if_neg (show ¬ (x.tx.size≠0∧(qaz x.tx).2≠2) from hok)]
    cases hl:t.late
    ·exact mark_chn h hr rr hv _ m x y hl ((hkc _ hl).2 rfl) hw hy rfl hx hok
    ·exact mark_lhn h hr rr hv _ m x y hl ((hkc _ hl).1 rfl) hw hy rfl hx hok
  ·have hxr:=qb4 hr.g hr.row0 hr.row1 y (List.mem_of_getElem? hy)
   rw[mark_is hv hk hy (.inr ⟨hw,rfl⟩) hy hxr]
   by_cases hok:MkOk y
   ·rw[if_pos (show y.tx.size≠0∧(qaz y.tx).2≠2 from hok)]
    cases hl:t.late
    ·exact mark_cwy h hr rr hv k y hl ((hkc _ hl).2 rfl) hw hy hok
    ·exact mark_lwy h hr rr hv k y hl ((hkc _ hl).1 rfl) hw hy hok
   ·rw[if_neg (show ¬ (y.tx.size≠0∧(qaz y.tx).2≠2) from hok)]
    cases hl:t.late
    ·exact mark_cwn h hr rr hv k y hl ((hkc _ hl).2 rfl) hw hy hok
    ·exact mark_lwn h hr rr hv k y hl ((hkc _ hl).1 rfl) hw hy hok
end
end Go.Proofs.YtpdaekmbpafenaaGreatDoor
