
import Derived.Test.YtpdaekmbpafenaaGreatDoorTermOfQ
import Derived.Test.YtpdaekmbpafenaaGreatDoorTermUQ
namespace Go.Proofs.YtpdaekmbpafenaaGreatDoor
set_option maxHeartbeats 4000000
set_option maxRecDepth 100000
open Go.RowKit
section
variable {M:World→Value→Prop} {b:Nat} {mv:Value} {t:Tm} {W:World}
theorem qf7 {w:World} {x y g:Nat} {t1 t2:TypeId} {c1 c2:Array Value} (h:Box w x t1 c1∧Box w y t2 c2) (h1:¬ x=g) (h2:¬ y=g) (i:Nat) (u:Value):Box (w.setCell ⟨g,i,none⟩ u) x t1 c1∧Box (w.setCell ⟨g,i,none⟩ u) y t2 c2:=⟨h.1.other h1 u,h.2.other h2 u⟩
def qec (C:Int) (N:Nat) (K:Int) (A:Option Addr) (k c:Nat):Array Value:=#[.int .i64 C,.slice A k c,.bool false,.int .i64 0,.slice none 0 0,.int .i64 0,.int .i64 0,.bool false,.int .i64 0,.int .i64 0,.int .i64 0,.int .i64 0,.int .i64 ((N:Int) - 1),.int .i64 0,.int .i64 0,.int .i64 0,.int .i64 0,.int .i64 0,.bool false,.bool false,.bool true,.bool false,.bool false,.int .i64 0,.int .i64 0,.slice none 0 0,.int .i64 0,.string ⟨#[]⟩,.string ⟨#[]⟩,.int .i64 K,.slice none 0 0,.string ⟨#[]⟩]
def TermCut (W:World) (C:Int) (N:Nat) (K:Int) (p x:Value) (wx:World):Prop :=
 ∃ s A k c lg,p=.pointer (some ⟨s,0,none⟩)∧x=.int .i64 0∧W.heap.size≤s∧Box wx s 35 (qec C N K A k c)∧LR wx (.slice A k c) lg∧CesOf wx lg∧lg.map Prod.fst=(newT C N K).g.ls∧Below W.heap.size W wx
theorem qj5 {n:Nat} {W X:World} (h:Below n W X):Below n W X.drew:=⟨h.os,h.tape,h.output,h.size,h.block⟩
theorem TAt.s_pa (h : TAt M b mv t W) (q : Pa) {v : Value} (hp : PRow W v q.params) (ho : q.params ≠ [] → qcq b v) :
  TAt M b mv { t with pa:=q } ((((((W.setCell ⟨b,23,none⟩ (.int .i64 q.st)).setCell ⟨b,24,none⟩ (.int .i64 q.priv)).setCell ⟨b,25,none⟩ v).setCell ⟨b,26,none⟩ (.int .i64 q.inter)).setCell ⟨b,27,none⟩ (.string q.osc)).setCell ⟨b,28,none⟩ (.string q.pend)) ∧
  But b W ((((((W.setCell ⟨b,23,none⟩ (.int .i64 q.st)).setCell ⟨b,24,none⟩ (.int .i64 q.priv)).setCell ⟨b,25,none⟩ v).setCell ⟨b,26,none⟩ (.int .i64 q.inter)).setCell ⟨b,27,none⟩ (.string q.osc)).setCell ⟨b,28,none⟩ (.string q.pend)):=by
 have h1:=h.s_pst q.st
 have h2:=h1.s_ppriv q.priv
 have h3:=h2.s_p (hp.but ((qbb W b 23 _).set _) ho) ho
 have h4:=h3.s_pinter q.inter
 have h5:=h4.s_posc q.osc
 have h6:=h5.s_ppend q.pend
 exact⟨h6,(((((qbb W b 23 _).set _).set _).set _).set _).set _⟩
theorem TAt.renew (h : TAt M b mv t W) {C : Int} {N : Nat} {K : Int} {A : Option Addr} {k c : Nat} {lg : List (Ln × Value)} (hg : GRow b W (.slice A k c) lg (newT C N K).g.ls) :
  TAt M b mv (newT C N K) (W.setRow b ((qec C N K A k c).toList ++ [mv]).toArray):=by
 have hlt:=h.lt
 obtain⟨he,vg,vm,vp,vb,l1,l2,l3,h1,h2⟩:=h
 have hb:=qdb W b ((qec C N K A k c).toList ++ [mv]).toArray
 exact⟨he.but hb hlt,.slice A k c,.slice none 0 0,.slice none 0 0,.slice none 0 0,lg,[],[],h1.setRow _,hg.but hb,GRow.nil _ _ 0,GRow.nil _ _ 0,PRow.nil _ 0,fun hh=>absurd rfl hh⟩
theorem TAt.last (h:TAt M b mv t W):∃ cs,Box W b 89 cs∧cs.size=33∧cs.toList.drop 32=[mv]:=by
 obtain⟨_,vg,vm,vp,vb,l1,l2,l3,h1,_⟩:=h
 exact⟨_,h1,rfl,rfl⟩
def KeepCut (W:World) (mx:Int) (vb:Value) (pc:Array Value) (p2 p3:Value) (wx:World):Prop :=
 ∃ s2 s3,p2=.pointer (some ⟨s2,0,none⟩)∧p3=.pointer (some ⟨s3,0,none⟩)∧W.heap.size≤s2∧W.heap.size≤s3∧Box wx s2 33 #[.int .i64 mx,vb]∧Box wx s3 31 pc∧Below W.heap.size W wx
theorem reset_any (h : TAt M b mv t W) (hr : RightT t) :
  Calls Tryz.prog 176 #[.pointer (some ⟨b,0,none⟩)] W (qu M b mv W { newT t.g.cols t.rows t.bmax with bls:=t.bls,pa:=t.pa }):=by
 have k29:=h.c_bmax.1
 obtain⟨Ab,cb,lb,⟨k30,_⟩,_,hgb⟩:=h.c_b
 obtain⟨vp,⟨k25,_⟩,hpp,hpo⟩:=h.c_p
 have k23:=h.c_pst.1
 have k24:=h.c_ppriv.1
 have k26:=h.c_pinter.1
 have k27:=h.c_posc.1
 have k28:=h.c_ppend.1
 have hlt:=h.lt
 have HT:=hid h
 have HR:=hid hr
 have HGB:=hid hgb
 have HPP:=hid (And.intro hpp hpo)
 obtain⟨Ap,cp,hvp,_⟩:=hpp.1
 subst hvp
 generalize t.pa.params.length=np at *
 generalize t.bls.length=nb at *
 clear h hr hgb hpo
 go_enter Tryz.func176,Tryz.ntmps176
 go_upto_region 0 with fail
 go_cut [2,3] (fun p2 p3 wx=>KeepCut W t.bmax (.slice Ab nb cb) #[.int .i64 t.pa.st,.int .i64 t.pa.priv,.slice Ap np cp,.int .i64 t.pa.inter,.string t.pa.osc,.string t.pa.pend] p2 p3 wx)
 case first =>
  have hS0:Below W.heap.size W _:=qf W 1
  refine qh (fun _ w'=>Below W.heap.size W w') (by kernel_rfl) ?_
  refine qar (i:=0) (v:=?v0u) 6 rfl rfl (by kernel_rfl) (by kernel_rfl) (by kernel_rfl) (by kernel_rfl) (fun _ _ _ h=>h) (Or.inl ⟨by rfl,fun w' hw'=>?hy0u⟩) hS0 ?rest0u
  case hy0u=>go_simp;try with_reducible rfl
  try simp only[Act.put,List.setIfInBounds_toArray,List.set_cons_zero,List.set_cons_succ]
  refine qar (i:=1) (v:=?v1u) 7 rfl rfl (by kernel_rfl) (by kernel_rfl) (by kernel_rfl) (by kernel_rfl) (fun _ _ _ h=>h) (Or.inl ⟨by rfl,fun w' hw'=>?hy1u⟩) hS0 ?rest1u
  case hy1u=>go_simp;try with_reducible rfl
  try simp only[Act.put,List.setIfInBounds_toArray,List.set_cons_zero,List.set_cons_succ]
  refine qar (i:=2) (v:=?v2u) 8 rfl rfl (by kernel_rfl) (by kernel_rfl) (by kernel_rfl) (by kernel_rfl) (fun _ _ _ h=>h) (Or.inl ⟨by rfl,fun w' hw'=>?hy2u⟩) hS0 ?rest2u
  case hy2u=>go_simp;try with_reducible rfl
  try simp only[Act.put,List.setIfInBounds_toArray,List.set_cons_zero,List.set_cons_succ]
  refine qar (i:=3) (v:=?v3u) 9 rfl rfl (by kernel_rfl) (by kernel_rfl) (by kernel_rfl) (by kernel_rfl) (fun _ _ _ h=>h) (Or.inl ⟨by rfl,fun w' hw'=>?hy3u⟩) hS0 ?rest3u
  case hy3u=>go_simp;try with_reducible rfl
  try simp only[Act.put,List.setIfInBounds_toArray,List.set_cons_zero,List.set_cons_succ]
  refine qar (i:=4) (v:=?v4u) 10 rfl rfl (by kernel_rfl) (by kernel_rfl) (by kernel_rfl) (by kernel_rfl) (fun _ _ _ h=>h) (Or.inl ⟨by rfl,fun w' hw'=>?hy4u⟩) hS0 ?rest4u
  case hy4u=>obtain⟨hc,hf⟩:=qag hw';go_simp;try with_reducible rfl
  try simp only[Act.put,List.setIfInBounds_toArray,List.set_cons_zero,List.set_cons_succ]
  refine qar (i:=5) (v:=?v5u) 11 rfl rfl (by kernel_rfl) (by kernel_rfl) (by kernel_rfl) (by kernel_rfl) (fun _ _ _ h=>h) (Or.inl ⟨by rfl,fun w' hw'=>?hy5u⟩) hS0 ?rest5u
  case hy5u=>go_simp;try with_reducible rfl
  try simp only[Act.put,List.setIfInBounds_toArray,List.set_cons_zero,List.set_cons_succ]
  refine qar (i:=6) (v:=?v6u) 12 rfl rfl (by kernel_rfl) (by kernel_rfl) (by kernel_rfl) (by kernel_rfl) (fun _ _ _ h=>h) (Or.inl ⟨by rfl,fun w' hw'=>?hy6u⟩) hS0 ?rest6u
  case hy6u=>go_simp;try with_reducible rfl
  try simp only[Act.put,List.setIfInBounds_toArray,List.set_cons_zero,List.set_cons_succ]
  refine qar (i:=7) (v:=?v7u) 13 rfl rfl (by kernel_rfl) (by kernel_rfl) (by kernel_rfl) (by kernel_rfl) (fun _ _ _ h=>h) (Or.inl ⟨by rfl,fun w' hw'=>?hy7u⟩) hS0 ?rest7u
  case hy7u=>go_simp;try with_reducible rfl
  try simp only[Act.put,List.setIfInBounds_toArray,List.set_cons_zero,List.set_cons_succ]
  refine qar (i:=8) (v:=?v8u) 14 rfl rfl (by kernel_rfl) (by kernel_rfl) (by kernel_rfl) (by kernel_rfl) (fun _ _ _ h=>h) (Or.inl ⟨by rfl,fun w' hw'=>?hy8u⟩) hS0 ?rest8u
  case hy8u=>go_simp;try with_reducible rfl
  try simp only[Act.put,List.setIfInBounds_toArray,List.set_cons_zero,List.set_cons_succ]
  refine qar (i:=9) (v:=?v9u) 15 rfl rfl (by kernel_rfl) (by kernel_rfl) (by kernel_rfl) (by kernel_rfl) (fun _ _ _ h=>h) (Or.inl ⟨by rfl,fun w' hw'=>?hy9u⟩) hS0 ?rest9u
  case hy9u=>obtain⟨hc,hf⟩:=qag hw';go_simp;try with_reducible rfl
  try simp only[Act.put,List.setIfInBounds_toArray,List.set_cons_zero,List.set_cons_succ]
  refine qio (k1:=10) (k2:=11) (by kernel_rfl) rfl rfl (by rfl) (by rfl) (fun K hK=>?_) (fun K hK=>?_)
  ·go_simp
   have hS1:=hS0.alloc hS0.size (.cells #[.int .i64 0,.slice none 0 0] 33)
   refine hK _ _ hS1 ?_
   clear hK K
   try simp only[Act.put,List.setIfInBounds_toArray,List.set_cons_zero,List.set_cons_succ]
   clear hS0
   have hS0:=hS1
   clear hS1
   refine qz (k:=11) (by kernel_rfl) rfl (by rfl) (fun K hK=>?_)
   go_simp
   have hS1:=hS0.alloc hS0.size (.cells #[.int .i64 0,.int .i64 0,.slice none 0 0,.int .i64 0,.string ⟨#[]⟩,.string ⟨#[]⟩] 31)
   refine hK _ _ hS1 ?_
   clear hK K
   try simp only[Act.put,List.setIfInBounds_toArray,List.set_cons_zero,List.set_cons_succ]
   clear hS0
   have hS0:=hS1
   clear hS1
   refine qz (k:=12) (by kernel_rfl) rfl (by rfl) (fun K hK=>?_)
   go_simp
   have hS1:=qj5 ((qa W (.cells #[.int .i64 t.bmax,.slice Ab nb cb] 33)).alloc (by simp) (.cells #[.int .i64 0,.int .i64 0,.slice none 0 0,.int .i64 0,.string ⟨#[]⟩,.string ⟨#[]⟩] 31))
   refine hK _ _ hS1 ?_
   clear hK K
   try simp only[Act.put,List.setIfInBounds_toArray,List.set_cons_zero,List.set_cons_succ]
   clear hS0
   have hS0:=hS1
   clear hS1
   refine qz (k:=13) (by kernel_rfl) rfl (by rfl) (fun K hK=>?_)
   go_simp
   have hS1:=qj5 ((qa W (.cells #[.int .i64 t.bmax,.slice Ab nb cb] 33)).alloc (by simp) (.cells #[.int .i64 t.pa.st,.int .i64 t.pa.priv,.slice Ap np cp,.int .i64 t.pa.inter,.string t.pa.osc,.string t.pa.pend] 31))
   refine hK _ _ hS1 ?_
   clear hK K
   try simp only[Act.put,List.setIfInBounds_toArray,List.set_cons_zero,List.set_cons_succ]
   clear hS0
   have hS0:=hS1
   clear hS1
   refine qal (by kernel_rfl) ?_ _
   go_wp2_with fail
   go_meet
   have hx:=(Box.new W 33 #[.int .i64 t.bmax,.slice Ab nb cb]).alloc (.cells #[.int .i64 t.pa.st,.int .i64 t.pa.priv,.slice Ap np cp,.int .i64 t.pa.inter,.string t.pa.osc,.string t.pa.pend] 31)
   have hy:=Box.new (W.alloc (.cells #[.int .i64 t.bmax,.slice Ab nb cb] 33)) 31 #[.int .i64 t.pa.st,.int .i64 t.pa.priv,.slice Ap np cp,.int .i64 t.pa.inter,.string t.pa.osc,.string t.pa.pend]
   rw[World.size_alloc] at hy
   exact⟨W.heap.size,W.heap.size+1,rfl,rfl,Nat.le_refl _,by omega,hx.drew,hy.drew,hS0⟩
  ·go_simp
   have hS1:=hS0.alloc hS0.size (.cells #[.int .i64 0,.int .i64 0,.slice none 0 0,.int .i64 0,.string ⟨#[]⟩,.string ⟨#[]⟩] 31)
   refine hK _ _ hS1 ?_
   clear hK K
   try simp only[Act.put,List.setIfInBounds_toArray,List.set_cons_zero,List.set_cons_succ]
   clear hS0
   have hS0:=hS1
   clear hS1
   refine qz (k:=10) (by kernel_rfl) rfl (by rfl) (fun K hK=>?_)
   go_simp
   have hS1:=hS0.alloc hS0.size (.cells #[.int .i64 0,.slice none 0 0] 33)
   refine hK _ _ hS1 ?_
   clear hK K
   try simp only[Act.put,List.setIfInBounds_toArray,List.set_cons_zero,List.set_cons_succ]
   clear hS0
   have hS0:=hS1
   clear hS1
   refine qz (k:=12) (by kernel_rfl) rfl (by rfl) (fun K hK=>?_)
   go_simp
   have hS1:=qj5 ((qa W (.cells #[.int .i64 0,.int .i64 0,.slice none 0 0,.int .i64 0,.string ⟨#[]⟩,.string ⟨#[]⟩] 31)).alloc (by simp) (.cells #[.int .i64 t.bmax,.slice Ab nb cb] 33))
   refine hK _ _ hS1 ?_
   clear hK K
   try simp only[Act.put,List.setIfInBounds_toArray,List.set_cons_zero,List.set_cons_succ]
   clear hS0
   have hS0:=hS1
   clear hS1
   refine qz (k:=13) (by kernel_rfl) rfl (by rfl) (fun K hK=>?_)
   go_simp
   have hS1:=qj5 ((qa W (.cells #[.int .i64 t.pa.st,.int .i64 t.pa.priv,.slice Ap np cp,.int .i64 t.pa.inter,.string t.pa.osc,.string t.pa.pend] 31)).alloc (by simp) (.cells #[.int .i64 t.bmax,.slice Ab nb cb] 33))
   refine hK _ _ hS1 ?_
   clear hK K
   try simp only[Act.put,List.setIfInBounds_toArray,List.set_cons_zero,List.set_cons_succ]
   clear hS0
   have hS0:=hS1
   clear hS1
   refine qal (by kernel_rfl) ?_ _
   go_wp2_with fail
   go_meet
   have hx:=(Box.new W 31 #[.int .i64 t.pa.st,.int .i64 t.pa.priv,.slice Ap np cp,.int .i64 t.pa.inter,.string t.pa.osc,.string t.pa.pend]).alloc (.cells #[.int .i64 t.bmax,.slice Ab nb cb] 33)
   have hy:=Box.new (W.alloc (.cells #[.int .i64 t.pa.st,.int .i64 t.pa.priv,.slice Ap np cp,.int .i64 t.pa.inter,.string t.pa.osc,.string t.pa.pend] 31)) 33 #[.int .i64 t.bmax,.slice Ab nb cb]
   rw[World.size_alloc] at hy
   exact⟨W.heap.size+1,W.heap.size,rfl,rfl,by omega,Nat.le_refl _,hy.drew,hx.drew,hS0⟩
 case rest =>
  obtain⟨s2,s3,rfl,rfl,hs2,hs3,hb2,hb3,hbel⟩:=hcut
  have HT2:=hid (HT.out.below hbel)
  have hbd:=qd HR.out.g
  have hbk:=HR.out.bk
  have hK40:0≤t.bmax∧t.bmax≤40:=by
   have h1:=hbk
   unfold qdu at h1
   rw[Bool.and_eq_true,decide_eq_true_iff] at h1
   exact h1.1
  have k0:=HT2.out.c_cols.1
  obtain⟨Ag,cg,lg0,⟨k1,_⟩,_,_⟩:=HT2.out.c_g
  have q29:=hb2.cell 0
  have hs2l:=hb2.lt
  have hltx:=HT2.out.lt
  have hrows:t.rows=(t.g.ls.length:Int):=rfl
  have HNW:=hid (fun w' (hb:Below wc.heap.size wc w')=>qmv t.g.cols (t.g.ls.length:Int) t.bmax w' ⟨hbd.1,hbd.2.1⟩ (by omega) hK40 (HT2.out.below hb).tab (HT2.out.below hb).tabW)
  have HB2:=hid hb2
  have HB3:=hid hb3
  have HBEL:=hid hbel
  have hne2:¬ s2=b:=by omega
  have hne3:¬ s3=b:=by omega
  generalize hN:t.g.ls.length=N at *
  have HN:=hid hN
  have HCSN:=hid (fun (lg:List (Ln×Value)) (hm:lg.map Prod.fst=(newT t.g.cols N t.bmax).g.ls)=>(qdg (g:=qf8 t.g.cols N .no) (rg_new ⟨hbd.1,hbd.2.1⟩ (by omega) qep) hm).2)
  clear hbd hbk hK40 hb2 hb3 hbel hN k23 k24 k25 k26 k27 k28 k29 k30
  go_upto_region 1 with fail
  go_cut [4,5] (fun p x wx=>TermCut wc t.g.cols N t.bmax p x wx)
  case first =>
   have hS0:Below wc.heap.size wc _:=qf wc 1
   refine qh (fun _ w'=>Below wc.heap.size wc w') (by kernel_rfl) ?_
   refine qar (i:=0) (v:=?v0w) 17 rfl rfl (by kernel_rfl) (by kernel_rfl) (by kernel_rfl) (by kernel_rfl) (fun _ _ _ h=>h) (Or.inl ⟨by rfl,fun w' hw'=>?hy0w⟩) hS0 ?rest0w
   case hy0w=>go_simp;try with_reducible rfl
   try simp only[Act.put,List.setIfInBounds_toArray,List.set_cons_zero,List.set_cons_succ]
   refine qar (i:=1) (v:=?v1w) 18 rfl rfl (by kernel_rfl) (by kernel_rfl) (by kernel_rfl) (by kernel_rfl) (fun _ _ _ h=>h) (Or.inl ⟨by rfl,fun w' hw'=>?hy1w⟩) hS0 ?rest1w
   case hy1w=>go_simp;try with_reducible rfl
   try simp only[Act.put,List.setIfInBounds_toArray,List.set_cons_zero,List.set_cons_succ]
   refine qar (i:=2) (v:=?v2w) 19 rfl rfl (by kernel_rfl) (by kernel_rfl) (by kernel_rfl) (by kernel_rfl) (fun _ _ _ h=>h) (Or.inl ⟨by rfl,fun w' hw'=>?hy2w⟩) hS0 ?rest2w
   case hy2w=>go_simp;try with_reducible rfl
   try simp only[Act.put,List.setIfInBounds_toArray,List.set_cons_zero,List.set_cons_succ]
   refine qar (i:=3) (v:=?v3w) 20 rfl rfl (by kernel_rfl) (by kernel_rfl) (by kernel_rfl) (by kernel_rfl) (fun _ _ _ h=>h) (Or.inl ⟨by rfl,fun w' hw'=>?hy3w⟩) hS0 ?rest3w
   case hy3w=>go_simp;try with_reducible rfl
   try simp only[Act.put,List.setIfInBounds_toArray,List.set_cons_zero,List.set_cons_succ]
   refine qar (i:=4) (v:=?v4w) 21 rfl rfl (by kernel_rfl) (by kernel_rfl) (by kernel_rfl) (by kernel_rfl) (fun _ _ _ h=>h) (Or.inl ⟨by rfl,fun w' hw'=>?hy4w⟩) hS0 ?rest4w
   case hy4w=>go_simp;try with_reducible rfl
   try simp only[Act.put,List.setIfInBounds_toArray,List.set_cons_zero,List.set_cons_succ]
   refine qar (i:=5) (v:=?v5w) 22 rfl rfl (by kernel_rfl) (by kernel_rfl) (by kernel_rfl) (by kernel_rfl) (fun _ _ _ h=>h) (Or.inl ⟨by rfl,fun w' hw'=>?hy5w⟩) hS0 ?rest5w
   case hy5w=>obtain⟨hc,hf⟩:=qag hw';go_simp;try with_reducible rfl
   try simp only[Act.put,List.setIfInBounds_toArray,List.set_cons_zero,List.set_cons_succ]
   refine qar (i:=6) (v:=?v6w) 23 rfl rfl (by kernel_rfl) (by kernel_rfl) (by kernel_rfl) (by kernel_rfl) (fun _ _ _ h=>h) (Or.inl ⟨by rfl,fun w' hw'=>?hy6w⟩) hS0 ?rest6w
   case hy6w=>go_simp;try with_reducible rfl
   try simp only[Act.put,List.setIfInBounds_toArray,List.set_cons_zero,List.set_cons_succ]
   refine qar (i:=7) (v:=?v7w) 24 rfl rfl (by kernel_rfl) (by kernel_rfl) (by kernel_rfl) (by kernel_rfl) (fun _ _ _ h=>h) (Or.inl ⟨by rfl,fun w' hw'=>?hy7w⟩) hS0 ?rest7w
   case hy7w=>go_simp;try with_reducible rfl
   try simp only[Act.put,List.setIfInBounds_toArray,List.set_cons_zero,List.set_cons_succ]
   refine qar (i:=8) (v:=?v8w) 25 rfl rfl (by kernel_rfl) (by kernel_rfl) (by kernel_rfl) (by kernel_rfl) (fun _ _ _ h=>h) (Or.inl ⟨by rfl,fun w' hw'=>?hy8w⟩) hS0 ?rest8w
   case hy8w=>go_simp;try with_reducible rfl
   try simp only[Act.put,List.setIfInBounds_toArray,List.set_cons_zero,List.set_cons_succ]
   refine qar (i:=9) (v:=?v9w) 26 rfl rfl (by kernel_rfl) (by kernel_rfl) (by kernel_rfl) (by kernel_rfl) (fun _ _ _ h=>h) (Or.inl ⟨by rfl,fun w' hw'=>?hy9w⟩) hS0 ?rest9w
   case hy9w=>go_simp;try with_reducible rfl
   try simp only[Act.put,List.setIfInBounds_toArray,List.set_cons_zero,List.set_cons_succ]
   refine qar (i:=10) (v:=?v10w) 27 rfl rfl (by kernel_rfl) (by kernel_rfl) (by kernel_rfl) (by kernel_rfl) (fun _ _ _ h=>h) (Or.inl ⟨by rfl,fun w' hw'=>?hy10w⟩) hS0 ?rest10w
   case hy10w=>go_simp;try with_reducible rfl
   try simp only[Act.put,List.setIfInBounds_toArray,List.set_cons_zero,List.set_cons_succ]
   refine qar (i:=11) (v:=?v11w) 28 rfl rfl (by kernel_rfl) (by kernel_rfl) (by kernel_rfl) (by kernel_rfl) (fun _ _ _ h=>h) (Or.inl ⟨by rfl,fun w' hw'=>?hy11w⟩) hS0 ?rest11w
   case hy11w=>obtain⟨hc,hf⟩:=qag hw';go_simp;try with_reducible rfl
   try simp only[Act.put,List.setIfInBounds_toArray,List.set_cons_zero,List.set_cons_succ]
   refine qar (i:=12) (v:=?v12w) 29 rfl rfl (by kernel_rfl) (by kernel_rfl) (by kernel_rfl) (by kernel_rfl) (fun _ _ _ h=>h) (Or.inl ⟨by rfl,fun w' hw'=>?hy12w⟩) hS0 ?rest12w
   case hy12w=>go_simp;try with_reducible rfl
   try simp only[Act.put,List.setIfInBounds_toArray,List.set_cons_zero,List.set_cons_succ]
   refine qar (i:=13) (v:=?v13w) 30 rfl rfl (by kernel_rfl) (by kernel_rfl) (by kernel_rfl) (by kernel_rfl) (fun _ _ _ h=>h) (Or.inl ⟨by rfl,fun w' hw'=>?hy13w⟩) hS0 ?rest13w
   case hy13w=>go_simp;try with_reducible rfl
   try simp only[Act.put,List.setIfInBounds_toArray,List.set_cons_zero,List.set_cons_succ]
   refine qar (i:=14) (v:=?v14w) 31 rfl rfl (by kernel_rfl) (by kernel_rfl) (by kernel_rfl) (by kernel_rfl) (fun _ _ _ h=>h) (Or.inl ⟨by rfl,fun w' hw'=>?hy14w⟩) hS0 ?rest14w
   case hy14w=>obtain⟨hc,hf⟩:=qag hw';go_simp;try with_reducible rfl
   try simp only[Act.put,List.setIfInBounds_toArray,List.set_cons_zero,List.set_cons_succ]
   refine qio (k1:=15) (k2:=19) (by kernel_rfl) rfl rfl (by rfl) (by rfl) (fun K hK=>?_) (fun K hK=>?_)
   ·go_simp
    go_at_call 15
    refine(HNW.out _ hS0).mono ?_
    rintro e w9 ⟨A2,k2,c2,lg2,rfl,q1,q2,q3,hb⟩
    dsimp only
    have HQ:=hid (And.intro q1 (And.intro q2 q3))
    clear q1 q2 q3
    have HBq:=hid hb
    have hS1:=hS0.trans (hb.mono hS0.size)
    have HB9:=hid hS1
    refine hK _ _ hS1 ?_
    clear hK K
    try simp only[Act.put,List.setIfInBounds_toArray,List.set_cons_zero,List.set_cons_succ]
    clear hS0 hb
    have hS0:=hS1
    clear hS1
    refine qar (i:=16) (v:=?v16w15) 16 rfl rfl (by kernel_rfl) (by kernel_rfl) (by kernel_rfl) (by kernel_rfl) (fun _ _ _ h=>h) (Or.inl ⟨by rfl,fun w' hw'=>?hy16w15⟩) hS0 ?rest16w15
    case hy16w15=>go_simp;try with_reducible rfl
    try simp only[Act.put,List.setIfInBounds_toArray,List.set_cons_zero,List.set_cons_succ]
    refine qar (i:=17) (v:=?v17w15) 33 rfl rfl (by kernel_rfl) (by kernel_rfl) (by kernel_rfl) (by kernel_rfl) (fun _ _ _ h=>h) (Or.inl ⟨by rfl,fun w' hw'=>?hy17w15⟩) hS0 ?rest17w15
    case hy17w15=>go_simp;try with_reducible rfl
    try simp only[Act.put,List.setIfInBounds_toArray,List.set_cons_zero,List.set_cons_succ]
    refine qar (i:=18) (v:=?v18w15) 34 rfl rfl (by kernel_rfl) (by kernel_rfl) (by kernel_rfl) (by kernel_rfl) (fun _ _ _ h=>h) (Or.inl ⟨by rfl,fun w' hw'=>?hy18w15⟩) hS0 ?rest18w15
    case hy18w15=>go_simp;try with_reducible rfl
    try simp only[Act.put,List.setIfInBounds_toArray,List.set_cons_zero,List.set_cons_succ]
    refine qz (k:=19) (by kernel_rfl) rfl (by rfl) (fun K hK=>?_)
    go_simp
    have hS1:=hS0.alloc hS0.size (.cells #[.int .i64 0,.slice none 0 0,.bool false,.int .i64 0,.slice none 0 0,.int .i64 0,.int .i64 0,.bool false,.int .i64 0,.int .i64 0,.int .i64 0,.int .i64 0,.int .i64 0,.int .i64 0,.int .i64 0,.int .i64 0,.int .i64 0,.int .i64 0,.bool false,.bool false,.bool false,.bool false,.bool false,.int .i64 0,.int .i64 0,.slice none 0 0,.int .i64 0,.string ⟨#[]⟩,.string ⟨#[]⟩,.int .i64 0,.slice none 0 0,.string ⟨#[]⟩] 35)
    refine hK _ _ hS1 ?_
    clear hK K
    try simp only[Act.put,List.setIfInBounds_toArray,List.set_cons_zero,List.set_cons_succ]
    clear hS0
    have hS0:=hS1
    clear hS1
    have HZ:=hid (Box.new w9 35 #[.int .i64 0,.slice none 0 0,.bool false,.int .i64 0,.slice none 0 0,.int .i64 0,.int .i64 0,.bool false,.int .i64 0,.int .i64 0,.int .i64 0,.int .i64 0,.int .i64 0,.int .i64 0,.int .i64 0,.int .i64 0,.int .i64 0,.int .i64 0,.bool false,.bool false,.bool false,.bool false,.bool false,.int .i64 0,.int .i64 0,.slice none 0 0,.int .i64 0,.string ⟨#[]⟩,.string ⟨#[]⟩,.int .i64 0,.slice none 0 0,.string ⟨#[]⟩])
    refine qz (k:=20) (by kernel_rfl) rfl (by rfl) (fun K hK=>?_)
    refine wp_store_row 35 _ _ rfl w9.heap.size #[.int .i64 t.g.cols,.slice A2 k2 c2,.bool false,.int .i64 0,.slice none 0 0,.int .i64 0,.int .i64 0,.bool false,.int .i64 0,.int .i64 0,.int .i64 0,.int .i64 0,.int .i64 ((N:Int) - 1),.int .i64 0,.int .i64 0,.int .i64 0,.int .i64 0,.int .i64 0,.bool false,.bool false,.bool true,.bool false,.bool false,.int .i64 0,.int .i64 0,.slice none 0 0,.int .i64 0,.string ⟨#[]⟩,.string ⟨#[]⟩,.int .i64 t.bmax,.slice none 0 0,.string ⟨#[]⟩] rfl rfl 35 _ HZ.out (by kernel_rfl) (by kernel_rfl) (by simp[Value.oneCell']) ?_
    have hS1:=qb6 hS0 HB9.out.size #[.int .i64 t.g.cols,.slice A2 k2 c2,.bool false,.int .i64 0,.slice none 0 0,.int .i64 0,.int .i64 0,.bool false,.int .i64 0,.int .i64 0,.int .i64 0,.int .i64 0,.int .i64 ((N:Int) - 1),.int .i64 0,.int .i64 0,.int .i64 0,.int .i64 0,.int .i64 0,.bool false,.bool false,.bool true,.bool false,.bool false,.int .i64 0,.int .i64 0,.slice none 0 0,.int .i64 0,.string ⟨#[]⟩,.string ⟨#[]⟩,.int .i64 t.bmax,.slice none 0 0,.string ⟨#[]⟩]
    refine hK _ _ hS1 ?_
    clear hK K
    try simp only[Act.put,List.setIfInBounds_toArray]
    clear hS0
    have hS0:=hS1
    clear hS1
    refine qar (i:=21) (v:=?v21w15_19_20) 5 rfl rfl (by kernel_rfl) (by kernel_rfl) (by kernel_rfl) (by kernel_rfl) (fun _ _ _ h=>h) (Or.inl ⟨by rfl,fun w' hw'=>?hy21w15_19_20⟩) hS0 ?rest21w15_19_20
    case hy21w15_19_20=>go_simp;try with_reducible rfl
    try simp only[Act.put]
    refine qal (by kernel_rfl) ?_ _
    go_wp2_with fail
    go_meet
    have hw:Below w9.heap.size w9 (w9.alloc (.cells #[.int .i64 0,.slice none 0 0,.bool false,.int .i64 0,.slice none 0 0,.int .i64 0,.int .i64 0,.bool false,.int .i64 0,.int .i64 0,.int .i64 0,.int .i64 0,.int .i64 0,.int .i64 0,.int .i64 0,.int .i64 0,.int .i64 0,.int .i64 0,.bool false,.bool false,.bool false,.bool false,.bool false,.int .i64 0,.int .i64 0,.slice none 0 0,.int .i64 0,.string ⟨#[]⟩,.string ⟨#[]⟩,.int .i64 0,.slice none 0 0,.string ⟨#[]⟩] 35)):=qa _ _
    have q1:=HQ.out.1.below hw
    have q2:=HQ.out.2.1.below hw
    have hcs:=HCSN.out lg2 HQ.out.2.2
    have hbt:=qdb (w9.alloc (.cells #[.int .i64 0,.slice none 0 0,.bool false,.int .i64 0,.slice none 0 0,.int .i64 0,.int .i64 0,.bool false,.int .i64 0,.int .i64 0,.int .i64 0,.int .i64 0,.int .i64 0,.int .i64 0,.int .i64 0,.int .i64 0,.int .i64 0,.int .i64 0,.bool false,.bool false,.bool false,.bool false,.bool false,.int .i64 0,.int .i64 0,.slice none 0 0,.int .i64 0,.string ⟨#[]⟩,.string ⟨#[]⟩,.int .i64 0,.slice none 0 0,.string ⟨#[]⟩] 35)) w9.heap.size #[.int .i64 t.g.cols,.slice A2 k2 c2,.bool false,.int .i64 0,.slice none 0 0,.int .i64 0,.int .i64 0,.bool false,.int .i64 0,.int .i64 0,.int .i64 0,.int .i64 0,.int .i64 ((N:Int) - 1),.int .i64 0,.int .i64 0,.int .i64 0,.int .i64 0,.int .i64 0,.bool false,.bool false,.bool true,.bool false,.bool false,.int .i64 0,.int .i64 0,.slice none 0 0,.int .i64 0,.string ⟨#[]⟩,.string ⟨#[]⟩,.int .i64 t.bmax,.slice none 0 0,.string ⟨#[]⟩]
    exact⟨w9.heap.size,A2,k2,c2,lg2,rfl,rfl,HB9.out.size,HZ.out.setRow _,q1.but hbt (fun hn=>qgx HZ.out q1 q2 hcs hn),fun e he=>(q2 e he).but hbt (fun hn=>qdz HZ.out (q2 e he) hn),HQ.out.2.2,hS0⟩
   ·go_simp
    have hS1:=hS0.alloc hS0.size (.cells #[.int .i64 0,.slice none 0 0,.bool false,.int .i64 0,.slice none 0 0,.int .i64 0,.int .i64 0,.bool false,.int .i64 0,.int .i64 0,.int .i64 0,.int .i64 0,.int .i64 0,.int .i64 0,.int .i64 0,.int .i64 0,.int .i64 0,.int .i64 0,.bool false,.bool false,.bool false,.bool false,.bool false,.int .i64 0,.int .i64 0,.slice none 0 0,.int .i64 0,.string ⟨#[]⟩,.string ⟨#[]⟩,.int .i64 0,.slice none 0 0,.string ⟨#[]⟩] 35)
    refine hK _ _ hS1 ?_
    clear hK K
    try simp only[Act.put,List.setIfInBounds_toArray,List.set_cons_zero,List.set_cons_succ]
    clear hS0
    have hS0:=hS1
    clear hS1
    refine qz (k:=15) (by kernel_rfl) rfl (by rfl) (fun K hK=>?_)
    go_simp
    go_at_call 15
    refine(HNW.out _ hS0).mono ?_
    rintro e w9 ⟨A2,k2,c2,lg2,rfl,q1,q2,q3,hb⟩
    dsimp only
    have HQ:=hid (And.intro q1 (And.intro q2 q3))
    clear q1 q2 q3
    have HZ:=hid (show Box w9 wc.heap.size 35 #[.int .i64 0,.slice none 0 0,.bool false,.int .i64 0,.slice none 0 0,.int .i64 0,.int .i64 0,.bool false,.int .i64 0,.int .i64 0,.int .i64 0,.int .i64 0,.int .i64 0,.int .i64 0,.int .i64 0,.int .i64 0,.int .i64 0,.int .i64 0,.bool false,.bool false,.bool false,.bool false,.bool false,.int .i64 0,.int .i64 0,.slice none 0 0,.int .i64 0,.string ⟨#[]⟩,.string ⟨#[]⟩,.int .i64 0,.slice none 0 0,.string ⟨#[]⟩] from (Box.new wc.drew _ _).below hb (by simp))
    have HBq:=hid hb
    have hS1:=hS0.trans (hb.mono hS0.size)
    have HB9:=hid hS1
    refine hK _ _ hS1 ?_
    clear hK K
    try simp only[Act.put,List.setIfInBounds_toArray,List.set_cons_zero,List.set_cons_succ]
    clear hS0 hb
    have hS0:=hS1
    clear hS1
    refine qar (i:=16) (v:=?v16w19_15) 16 rfl rfl (by kernel_rfl) (by kernel_rfl) (by kernel_rfl) (by kernel_rfl) (fun _ _ _ h=>h) (Or.inl ⟨by rfl,fun w' hw'=>?hy16w19_15⟩) hS0 ?rest16w19_15
    case hy16w19_15=>go_simp;try with_reducible rfl
    try simp only[Act.put,List.setIfInBounds_toArray,List.set_cons_zero,List.set_cons_succ]
    refine qar (i:=17) (v:=?v17w19_15) 33 rfl rfl (by kernel_rfl) (by kernel_rfl) (by kernel_rfl) (by kernel_rfl) (fun _ _ _ h=>h) (Or.inl ⟨by rfl,fun w' hw'=>?hy17w19_15⟩) hS0 ?rest17w19_15
    case hy17w19_15=>go_simp;try with_reducible rfl
    try simp only[Act.put,List.setIfInBounds_toArray,List.set_cons_zero,List.set_cons_succ]
    refine qar (i:=18) (v:=?v18w19_15) 34 rfl rfl (by kernel_rfl) (by kernel_rfl) (by kernel_rfl) (by kernel_rfl) (fun _ _ _ h=>h) (Or.inl ⟨by rfl,fun w' hw'=>?hy18w19_15⟩) hS0 ?rest18w19_15
    case hy18w19_15=>go_simp;try with_reducible rfl
    try simp only[Act.put,List.setIfInBounds_toArray,List.set_cons_zero,List.set_cons_succ]
    refine qz (k:=20) (by kernel_rfl) rfl (by rfl) (fun K hK=>?_)
    refine wp_store_row 35 _ _ rfl wc.heap.size #[.int .i64 t.g.cols,.slice A2 k2 c2,.bool false,.int .i64 0,.slice none 0 0,.int .i64 0,.int .i64 0,.bool false,.int .i64 0,.int .i64 0,.int .i64 0,.int .i64 0,.int .i64 ((N:Int) - 1),.int .i64 0,.int .i64 0,.int .i64 0,.int .i64 0,.int .i64 0,.bool false,.bool false,.bool true,.bool false,.bool false,.int .i64 0,.int .i64 0,.slice none 0 0,.int .i64 0,.string ⟨#[]⟩,.string ⟨#[]⟩,.int .i64 t.bmax,.slice none 0 0,.string ⟨#[]⟩] rfl rfl 35 _ HZ.out (by kernel_rfl) (by kernel_rfl) (by simp[Value.oneCell']) ?_
    have hS1:=qb6 hS0 (Nat.le_refl _) #[.int .i64 t.g.cols,.slice A2 k2 c2,.bool false,.int .i64 0,.slice none 0 0,.int .i64 0,.int .i64 0,.bool false,.int .i64 0,.int .i64 0,.int .i64 0,.int .i64 0,.int .i64 ((N:Int) - 1),.int .i64 0,.int .i64 0,.int .i64 0,.int .i64 0,.int .i64 0,.bool false,.bool false,.bool true,.bool false,.bool false,.int .i64 0,.int .i64 0,.slice none 0 0,.int .i64 0,.string ⟨#[]⟩,.string ⟨#[]⟩,.int .i64 t.bmax,.slice none 0 0,.string ⟨#[]⟩]
    refine hK _ _ hS1 ?_
    clear hK K
    try simp only[Act.put,List.setIfInBounds_toArray]
    clear hS0
    have hS0:=hS1
    clear hS1
    refine qar (i:=21) (v:=?v21w19_15_20) 5 rfl rfl (by kernel_rfl) (by kernel_rfl) (by kernel_rfl) (by kernel_rfl) (fun _ _ _ h=>h) (Or.inl ⟨by rfl,fun w' hw'=>?hy21w19_15_20⟩) hS0 ?rest21w19_15_20
    case hy21w19_15_20=>go_simp;try with_reducible rfl
    try simp only[Act.put]
    refine qal (by kernel_rfl) ?_ _
    go_wp2_with fail
    go_meet
    have q1:=HQ.out.1
    have q2:=HQ.out.2.1
    have hcs:=HCSN.out lg2 HQ.out.2.2
    have hbt:=qdb w9 wc.heap.size #[.int .i64 t.g.cols,.slice A2 k2 c2,.bool false,.int .i64 0,.slice none 0 0,.int .i64 0,.int .i64 0,.bool false,.int .i64 0,.int .i64 0,.int .i64 0,.int .i64 0,.int .i64 ((N:Int) - 1),.int .i64 0,.int .i64 0,.int .i64 0,.int .i64 0,.int .i64 0,.bool false,.bool false,.bool true,.bool false,.bool false,.int .i64 0,.int .i64 0,.slice none 0 0,.int .i64 0,.string ⟨#[]⟩,.string ⟨#[]⟩,.int .i64 t.bmax,.slice none 0 0,.string ⟨#[]⟩]
    exact⟨wc.heap.size,A2,k2,c2,lg2,rfl,rfl,Nat.le_refl _,HZ.out.setRow _,q1.but hbt (fun hn=>qgx HZ.out q1 q2 hcs hn),fun e he=>(q2 e he).but hbt (fun hn=>qdz HZ.out (q2 e he) hn),HQ.out.2.2,hS0⟩
  case rest =>
   obtain⟨s,A2,k2,c2,lg,rfl,rfl,hsl,hbx,q1,q2,q3,hbel⟩:=hcut
   have hT3:=HT2.out.below hbel
   have hgr:=hT3.grow HR.out.g q1 q2 q3 (HCSN.out lg q3)
   have hT4:=hT3.renew hgr
   have hbt:=qdb wc b ((qec t.g.cols N t.bmax A2 k2 c2).toList ++ [mv]).toArray
   obtain⟨cs,hbb,hsz,hdr⟩:=hT3.last
   have hb2:=(HB2.out.below hbel HB2.out.lt).but hbt hne2
   have hb3:=(HB3.out.below hbel HB3.out.lt).but hbt hne3
   have hgb:=(HGB.out.but ((But.of_below HBEL.out).trans (But.of_below hbel))).but hbt
   have hpb:=(HPP.out.1.but ((But.of_below HBEL.out).trans (But.of_below hbel)) HPP.out.2).but hbt HPP.out.2
   have HB5:=hid (((But.of_below HBEL.out).trans (But.of_below hbel)).trans hbt)
   have HT4:=hid hT4
   have HBX:=hid hbx
   have HBB:=hid hbb
   have HSZ:=hid hsz
   have HDR:=hid hdr
   have HB2':=hid hb2
   have HB3':=hid hb3
   have HGB':=hid hgb
   have HPB:=hid hpb
   clear q1 q2 q3 hT3 hgr hT4 hbt hbx hbb hsz hdr hb2 hb3 hgb hpb hbel k0 k1 q29
   go_upto_region 3 with fail
   go_wp2_with (first
    | (refine qhi rfl 35 (.tmp 4) rfl s rfl (qec t.g.cols N t.bmax A2 k2 c2).toList HBX.out (by kernel_rfl) _ Tryz.underlying35 (by kernel_rfl) (by kernel_rfl) ?_)
    | (refine qbj rfl 35 (.tmp 40) (.tmp 38) rfl b (qec t.g.cols N t.bmax A2 k2 c2).toList rfl rfl HBB.out (by rw[HSZ.out];show 32≤33;omega) (by kernel_rfl) (by simp[qec,Value.oneCell']) ?_)
    | fail)
   obtain⟨wx,hwx⟩:∃ w,w=wc.setRow b ((qec t.g.cols N t.bmax A2 k2 c2).toList ++ [mv]).toArray:=⟨_,rfl⟩
   rw[show (qec t.g.cols N t.bmax A2 k2 c2).toList.length=32 from rfl,HDR.out,← hwx]
   rw[← hwx] at HT4 HB2' HB3' HGB' HPB HB5
   obtain⟨cs2,hbx2,hsz2,_⟩:=HT4.out.last
   have hlx:=HT4.out.lt
   have hHX:=HT4
   clear hwx HBX HBB HSZ HDR
   have HBX:=hid (And.intro hbx2 hsz2)
   clear hbx2 hsz2
   have hS0:Box wx.drew s2 _ _∧Box wx.drew s3 _ _:=⟨HB2'.out,HB3'.out⟩
   refine qh (fun _ w'=>Box w' s2 33 #[.int .i64 t.bmax,.slice Ab nb cb]∧Box w' s3 31 #[.int .i64 t.pa.st,.int .i64 t.pa.priv,.slice Ap np cp,.int .i64 t.pa.inter,.string t.pa.osc,.string t.pa.pend]) (by kernel_rfl) ?_
   refine qar (i:=0) (v:=?v0x) 41 rfl rfl (by kernel_rfl) (by kernel_rfl) (by kernel_rfl) (by kernel_rfl) (fun _ _ _ h=>h) (Or.inl ⟨by rfl,fun w' hw'=>?hy0x⟩) hS0 ?rest0x
   case hy0x=>go_simp;try with_reducible rfl
   try simp only[Act.put,List.setIfInBounds_toArray,List.set_cons_zero,List.set_cons_succ]
   refine qar (i:=1) (v:=?v1x) 42 rfl rfl (by kernel_rfl) (by kernel_rfl) (by kernel_rfl) (by kernel_rfl) (fun _ _ _ h=>h) (Or.inl ⟨by rfl,fun w' hw'=>?hy1x⟩) hS0 ?rest1x
   case hy1x=>go_simp;try with_reducible rfl
   try simp only[Act.put,List.setIfInBounds_toArray,List.set_cons_zero,List.set_cons_succ]
   refine qar (i:=2) (v:=?v2x) 43 rfl rfl (by kernel_rfl) (by kernel_rfl) (by kernel_rfl) (by kernel_rfl) (fun _ _ _ h=>h) (Or.inl ⟨by rfl,fun w' hw'=>?hy2x⟩) hS0 ?rest2x
   case hy2x=>have e20:=hw'.1.cell 0;have e21:=hw'.1.cell 1;have e30:=hw'.2.cell 0;have e31:=hw'.2.cell 1;have e32:=hw'.2.cell 2;have e33:=hw'.2.cell 3;have e34:=hw'.2.cell 4;have e35:=hw'.2.cell 5;go_simp;try with_reducible rfl
   try simp only[Act.put,List.setIfInBounds_toArray,List.set_cons_zero,List.set_cons_succ]
   refine qar (i:=3) (v:=?v3x) 44 rfl rfl (by kernel_rfl) (by kernel_rfl) (by kernel_rfl) (by kernel_rfl) (fun _ _ _ h=>h) (Or.inl ⟨by rfl,fun w' hw'=>?hy3x⟩) hS0 ?rest3x
   case hy3x=>have e20:=hw'.1.cell 0;have e21:=hw'.1.cell 1;have e30:=hw'.2.cell 0;have e31:=hw'.2.cell 1;have e32:=hw'.2.cell 2;have e33:=hw'.2.cell 3;have e34:=hw'.2.cell 4;have e35:=hw'.2.cell 5;go_simp;try with_reducible rfl
   try simp only[Act.put,List.setIfInBounds_toArray,List.set_cons_zero,List.set_cons_succ]
   refine qar (i:=4) (v:=?v4x) 45 rfl rfl (by kernel_rfl) (by kernel_rfl) (by kernel_rfl) (by kernel_rfl) (fun _ _ _ h=>h) (Or.inl ⟨by rfl,fun w' hw'=>?hy4x⟩) hS0 ?rest4x
   case hy4x=>go_simp;try with_reducible rfl
   try simp only[Act.put,List.setIfInBounds_toArray,List.set_cons_zero,List.set_cons_succ]
   refine qar (i:=5) (v:=?v5x) 46 rfl rfl (by kernel_rfl) (by kernel_rfl) (by kernel_rfl) (by kernel_rfl) (fun _ _ _ h=>h) (Or.inl ⟨by rfl,fun w' hw'=>?hy5x⟩) hS0 ?rest5x
   case hy5x=>go_simp;try with_reducible rfl
   try simp only[Act.put,List.setIfInBounds_toArray,List.set_cons_zero,List.set_cons_succ]
   refine qar (i:=6) (v:=?v6x) 47 rfl rfl (by kernel_rfl) (by kernel_rfl) (by kernel_rfl) (by kernel_rfl) (fun _ _ _ h=>h) (Or.inl ⟨by rfl,fun w' hw'=>?hy6x⟩) hS0 ?rest6x
   case hy6x=>go_simp;try with_reducible rfl
   try simp only[Act.put,List.setIfInBounds_toArray,List.set_cons_zero,List.set_cons_succ]
   refine qz (k:=7) (by kernel_rfl) rfl (by rfl) (fun K hK=>?_)
   refine qhc 33 _ _ rfl b 29 [.int .i64 t.bmax,.slice Ab nb cb] rfl rfl HBX.out.1 (by rw[HBX.out.2];show 31≤33;omega) (by kernel_rfl) (by simp[Value.oneCell']) ?_
   have hS1:=(qf7 (qf7 hS0 hne2 hne3 29 (.int .i64 t.bmax)) hne2 hne3 30 (.slice Ab nb cb))
   refine hK _ _ hS1 ?_
   clear hK K
   try simp only[Act.put]
   clear hS0
   have hS0:=hS1
   clear hS1
   refine qar (i:=8) (v:=?v8x7) 48 rfl rfl (by kernel_rfl) (by kernel_rfl) (by kernel_rfl) (by kernel_rfl) (fun _ _ _ h=>h) (Or.inl ⟨by rfl,fun w' hw'=>?hy8x7⟩) hS0 ?rest8x7
   case hy8x7=>go_simp;try with_reducible rfl
   try simp only[Act.put]
   refine qar (i:=9) (v:=?v9x7) 49 rfl rfl (by kernel_rfl) (by kernel_rfl) (by kernel_rfl) (by kernel_rfl) (fun _ _ _ h=>h) (Or.inl ⟨by rfl,fun w' hw'=>?hy9x7⟩) hS0 ?rest9x7
   case hy9x7=>go_simp;try with_reducible rfl
   try simp only[Act.put]
   refine qar (i:=10) (v:=?v10x7) 50 rfl rfl (by kernel_rfl) (by kernel_rfl) (by kernel_rfl) (by kernel_rfl) (fun _ _ _ h=>h) (Or.inl ⟨by rfl,fun w' hw'=>?hy10x7⟩) hS0 ?rest10x7
   case hy10x7=>go_simp;try with_reducible rfl
   try simp only[Act.put]
   refine qz (k:=11) (by kernel_rfl) rfl (by rfl) (fun K hK=>?_)
   refine qhc 31 _ _ rfl b 23 [.int .i64 t.pa.st,.int .i64 t.pa.priv,.slice Ap np cp,.int .i64 t.pa.inter,.string t.pa.osc,.string t.pa.pend] rfl rfl ((HBX.out.1.drew.set (i:=29) (.int .i64 t.bmax)).set (i:=30) (.slice Ab nb cb)) (by rw[Array.size_setIfInBounds,Array.size_setIfInBounds,HBX.out.2];show 29≤33;omega) (by kernel_rfl) (by simp[Value.oneCell']) ?_
   have hS1:=(qf7 (qf7 (qf7 (qf7 (qf7 (qf7 hS0 hne2 hne3 23 (.int .i64 t.pa.st)) hne2 hne3 24 (.int .i64 t.pa.priv)) hne2 hne3 25 (.slice Ap np cp)) hne2 hne3 26 (.int .i64 t.pa.inter)) hne2 hne3 27 (.string t.pa.osc)) hne2 hne3 28 (.string t.pa.pend))
   refine hK _ _ hS1 ?_
   clear hK K
   try simp only[Act.put]
   clear hS0
   refine qal (by kernel_rfl) ?_ _
   go_wp2_with fail
   have xd:But b wx wx.drew:=⟨rfl,rfl,rfl,Nat.le_refl _,fun _ _ _=>rfl⟩
   have x1:TAt M b mv _ wx.drew∧But b W wx.drew:=⟨HT4.out.drew,HB5.out.drew⟩
   have x2:=x1.1.s_back (mx:=t.bmax) (v:=.slice Ab nb cb) (lv:=lb) (ls:=t.bls) (HGB'.out.but xd)
   have x3:=x2.1.s_pa t.pa (v:=.slice Ap np cp) ((HPB.out.but xd HPP.out.2).but x2.2 HPP.out.2) HPP.out.2
   go_end0
   exact⟨rfl,x3.1,x1.2.trans (x2.2.trans x3.2)⟩
end
set_option maxHeartbeats 2000000
set_option maxRecDepth 100000
section
variable {M:World→Value→Prop} {b:Nat} {mv:Value} {t:Tm} {W:World}
def escC (t:Tm) (c:Int):Tm :=
 if c=55 then qhr t else if c=56 then qco t else if c=68 then goDown t else if c=69 then { goDown t with col:=0 } else if c=77 then goUp t
 else if c=99 then { newT t.g.cols t.rows t.bmax with bls:=t.bls,pa:=t.pa } else t
theorem escT_c {t:Tm} {d:Dn} (h:d.inter=0):escT t d=escC t d.code:=by
 unfold escT escC
 rw[if_neg (by simp[h])]
theorem esc_55 (h : TAt M b mv t W) :
  Calls Tryz.prog 105 #[.pointer (some ⟨b,0,none⟩),.int .i64 55] W (qu M b mv W (qhr t)):=by
 have HC:=hid (qml h)
 clear h
 go_enter Tryz.func105,Tryz.ntmps105
 go_wp2_with ((with_reducible refine HC.out.mono ?_);rintro e wn ⟨rfl,h5,h6⟩)
 go_end0
 exact⟨rfl,h5,h6⟩
theorem esc_56 (h : TAt M b mv t W) (hl : WellT t) :
  Calls Tryz.prog 105 #[.pointer (some ⟨b,0,none⟩),.int .i64 56] W (qu M b mv W (qco t)):=by
 have HC:=hid (qh9 h hl.g)
 clear h hl
 go_enter Tryz.func105,Tryz.ntmps105
 go_wp2_with ((with_reducible refine HC.out.mono ?_);rintro e wn ⟨rfl,h5,h6⟩)
 go_end0
 exact⟨rfl,h5,h6⟩
theorem esc_68 (h : TAt M b mv t W) (hl : WellT t) :
  Calls Tryz.prog 105 #[.pointer (some ⟨b,0,none⟩),.int .i64 68] W (qu M b mv W (goDown t)):=by
 rw[qjc]
 have HC:=hid (qen h hl)
 clear h hl
 go_enter Tryz.func105,Tryz.ntmps105
 go_wp2_with fail
 with_reducible refine HC.out.mono ?_
 rintro e w1 ⟨rfl,h1,b1⟩
 dsimp only
 have HC2:=hid (qcg h1)
 clear h1
 go_wp2_with ((with_reducible refine HC2.out.mono ?_);rintro e wn ⟨rfl,h5,h6⟩)
 go_end0
 exact⟨rfl,h5,b1.trans h6⟩
theorem esc_69 (h : TAt M b mv t W) (hl : WellT t) :
  Calls Tryz.prog 105 #[.pointer (some ⟨b,0,none⟩),.int .i64 69] W (qu M b mv W ({ goDown t with col:=0 })):=by
 rw[downFirst_p hl]
 have HC:=hid (qen h hl)
 have HW:=hid hl.pDown
 clear h hl
 go_enter Tryz.func105,Tryz.ntmps105
 go_wp2_with fail
 with_reducible refine HC.out.mono ?_
 rintro e w1 ⟨rfl,h1,b1⟩
 dsimp only
 have k5:=h1.c_row.1
 have HC2:=hid (qaq h1 HW.out.g (pDown t).row 0)
 clear h1
 go_wp2_with ((with_reducible refine HC2.out.mono ?_);rintro e wn ⟨rfl,h5,h6⟩)
 go_end0
 exact⟨rfl,h5,b1.trans h6⟩
theorem esc_77 (h : TAt M b mv t W) (hl : WellT t) :
  Calls Tryz.prog 105 #[.pointer (some ⟨b,0,none⟩),.int .i64 77] W (qu M b mv W (goUp t)):=by
 rw[up_p]
 have HC:=hid (goUp_any h hl)
 clear h hl
 go_enter Tryz.func105,Tryz.ntmps105
 go_wp2_with fail
 with_reducible refine HC.out.mono ?_
 rintro e w1 ⟨rfl,h1,b1⟩
 dsimp only
 have HC2:=hid (qcg h1)
 clear h1
 go_wp2_with ((with_reducible refine HC2.out.mono ?_);rintro e wn ⟨rfl,h5,h6⟩)
 go_end0
 exact⟨rfl,h5,b1.trans h6⟩
theorem esc_99 (h : TAt M b mv t W) (hr : RightT t) :
  Calls Tryz.prog 105 #[.pointer (some ⟨b,0,none⟩),.int .i64 99] W (qu M b mv W ({ newT t.g.cols t.rows t.bmax with bls:=t.bls,pa:=t.pa })):=by
 have HC:=hid (reset_any h hr)
 clear h hr
 go_enter Tryz.func105,Tryz.ntmps105
 go_wp2_with ((with_reducible refine HC.out.mono ?_);rintro e wn ⟨rfl,h5,h6⟩)
 go_end0
 exact⟨rfl,h5,h6⟩
theorem escape_any (h : TAt M b mv t W) (hr : RightT t) (hl : WellT t) (c : Int) :
  Calls Tryz.prog 105 #[.pointer (some ⟨b,0,none⟩),.int .i64 c] W (qu M b mv W (escC t c)):=by
 have hc:c=55∨c=56∨c=68∨c=69∨c=77∨c=99∨(c≠55∧c≠56∧c≠68∧c≠69∧c≠77∧c≠99):=by omega
 rcases hc with rfl | rfl | rfl | rfl | rfl | rfl | ⟨e0,e1,e2,e3,e4,e5⟩
 ·exact esc_55 h
 ·exact esc_56 h hl
 ·exact esc_68 h hl
 ·exact esc_69 h hl
 ·exact esc_77 h hl
 ·exact esc_99 h hr
 ·have hm : escC t c = t := by
   unfold escC
   rw[if_neg e0,if_neg e1,if_neg e2,if_neg e3,if_neg e4,if_neg e5]
  rw[hm]
  have n0:(c == 55)=false:=by simpa using e0
  have n1:(c == 56)=false:=by simpa using e1
  have n2:(c == 68)=false:=by simpa using e2
  have n3:(c == 69)=false:=by simpa using e3
  have n4:(c == 77)=false:=by simpa using e4
  have n5:(c == 99)=false:=by simpa using e5
  have HT:=hid h
  clear h hr hl hm e0 e1 e2 e3 e4 e5
  go_enter Tryz.func105,Tryz.ntmps105
  go_wp2
  go_end0
  exact⟨rfl,HT.out,But.refl b W⟩
end
end Go.Proofs.YtpdaekmbpafenaaGreatDoor
