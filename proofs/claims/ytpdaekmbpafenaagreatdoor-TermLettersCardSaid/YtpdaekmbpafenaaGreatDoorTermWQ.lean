
import Derived.Test.YtpdaekmbpafenaaGreatDoorTermNQ
import Derived.Test.YtpdaekmbpafenaaGreatDoorUtfCQ
namespace Go.Proofs.YtpdaekmbpafenaaGreatDoor
open Go.RowKit
theorem num_pos (d:Dn) (i:Nat) {s:Int} (h:1≤s):1≤qf9 d i s:=by
 unfold qf9
 split
 ·split <;> omega
 ·exact h
theorem qes {r:Int} (h:1≤qg r) {a:At} (ha:qab a=true):qq ⟨Utf8.encode r,qg r,a.fg,a.bg,a.fl⟩=true:=by
 have hz:=qim (qa8 (r:=r) (by omega))
 unfold qq
 rw[Bool.and_eq_true]
 refine⟨ha,?_⟩
 simp only
 rw[if_neg (by omega),parts_0 h]
 exact decide_eq_true ⟨by simp only;omega,rfl⟩
theorem RightT.put {t:Tm} (h:RightT t) (col:Int) {c:Ce} (hc:qq c=true):RightT (qc3 t col c) :=
 h.setG (rg_put h.g h.row0 h.row1 col hc) rfl (by show (putT _ _ _ _).length=_;unfold putT;rw[List.length_set])
theorem RightT.mark {t:Tm} (h:RightT t) (r:Int):RightT (qhp t r):=by
 unfold qhp
 split
 ·exact h
 ·split
  ·rename_i hc
   exact h.put _ hc.2
  ·exact h
theorem RightT.soft {t:Tm} (h:RightT t) {row:Int} (h0:0≤row) (h1:row < t.g.ls.length) (s:Bool):RightT { t with g:=⟨t.g.cols,qci t.g.ls row s⟩ } :=
 h.setG (rg_soft h.g h0 h1 s) rfl (by show (qci _ _ _).length=_;unfold qci;rw[List.length_set])
theorem RightT.erase {t:Tm} (h:RightT t) {row fr tt:Int} (h0:0≤row) (h1:row < t.g.ls.length) (hf:0≤fr) (ht:fr≤tt) (hc:tt≤t.g.cols):RightT (qdl t row fr tt) :=
 h.setG (qlr h.g h0 h1 hf ht hc h.lk) rfl (by show (qe0 _ _ _ _ _).length=_;unfold qe0;rw[List.length_set])
theorem qii (t:Tm) (row fr tt:Int):(qdl t row fr tt).g.ls.length=t.g.ls.length:=by show (qe0 _ _ _ _ _).length=_;unfold qe0;rw[List.length_set]
theorem RightT.hard {t:Tm} (h:RightT t) {row:Int} (h0:0≤row) (h1:row < t.g.ls.length):RightT (hardM t row):=h.soft h0 h1 false
theorem RightT.wipe {t:Tm} (h:RightT t) {row fr tt:Int} (h0:0≤row) (h1:row < t.g.ls.length) (hf:0≤fr) (ht:fr≤tt) (hc:tt≤t.g.cols):RightT (hardM (qdl t row fr tt) row) :=
 (h.erase h0 h1 hf ht hc).hard h0 (by rw[qii];exact h1)
theorem RightT.goOn {t:Tm} (h:RightT t):RightT (goOn t)∧(goOn t).late=false∧(goOn t).g.cols=t.g.cols∧(goOn t).wr=t.wr∧(goOn t).lk=t.lk∧(goOn t).col=0:=by
 have h1:=(h.soft h.row0 h.row1 true).goDown
 have hl:=qku { t with g:=⟨t.g.cols,qci t.g.ls t.row true⟩ }
 have hc:=qhm { t with g:=⟨t.g.cols,qci t.g.ls t.row true⟩ }
 have hb:=qd h.g
 refine⟨h1.setCol hl (Int.le_refl 0) (by rw[hc.1];show 0 < t.g.cols;omega),hl,hc.1,hc.2.1,hc.2.2,rfl⟩
theorem RightT.printEnd {t:Tm} (h:RightT t) (hl:t.late=false) {r:Int} (hw:1≤qg r):RightT (printEnd t r (qg r)):=by
 have key:∀ u:Tm,RightT u→u.late=false→RightT (if (qc3 u u.col ⟨Utf8.encode r,qg r,u.lk.fg,u.lk.bg,u.lk.fl⟩).last < (qc3 u u.col ⟨Utf8.encode r,qg r,u.lk.fg,u.lk.bg,u.lk.fl⟩).col+qg r then { qc3 u u.col ⟨Utf8.encode r,qg r,u.lk.fg,u.lk.bg,u.lk.fl⟩ with col:=(qc3 u u.col ⟨Utf8.encode r,qg r,u.lk.fg,u.lk.bg,u.lk.fl⟩).last,late:=(qc3 u u.col ⟨Utf8.encode r,qg r,u.lk.fg,u.lk.bg,u.lk.fl⟩).wr } else { qc3 u u.col ⟨Utf8.encode r,qg r,u.lk.fg,u.lk.bg,u.lk.fl⟩ with col:=(qc3 u u.col ⟨Utf8.encode r,qg r,u.lk.fg,u.lk.bg,u.lk.fl⟩).col+qg r }):=fun u hu hul=>by
  have hv:=hu.put u.col (qes hw hu.lk)
  have hvl:(qc3 u u.col ⟨Utf8.encode r,qg r,u.lk.fg,u.lk.bg,u.lk.fl⟩).late=false:=hul
  generalize qc3 u u.col ⟨Utf8.encode r,qg r,u.lk.fg,u.lk.bg,u.lk.fl⟩=v at hv hvl ⊢
  have hb:=qd hv.g
  have hlast:v.last=v.g.cols - 1:=rfl
  have:=hv.col0
  split
  ·exact⟨hv.g,hv.row0,hv.row1,by show 0≤v.last;omega,by show v.last < v.g.cols;omega,fun hh=>⟨hh,rfl⟩,hv.main1,hv.main0,hv.top0,hv.bot1,hv.tb,hv.svr,hv.svc,hv.svl,hv.lk,hv.pa,hv.bk,hv.ti⟩
  ·exact hv.setCol hvl (by omega) (by omega)
 unfold Go.Proofs.YtpdaekmbpafenaaGreatDoor.printEnd
 simp only
 split
 ·exact key _ (h.setG (qij h.g h.row0 h.row1 h.col1 h.lk) rfl (by show (qbr _ _ _ _ _).length=_;unfold qbr;rw[List.length_set])) hl
 ·exact key _ h hl
theorem RightT.print {t:Tm} (h:RightT t) (r:Int):RightT (qfj t r):=by
 unfold qfj
 by_cases h0:qg r < 0
 ·rw[if_pos h0];exact h
 rw[if_neg h0]
 by_cases h1:qg r=0
 ·rw[if_pos h1];exact h.mark r
 rw[if_neg h1]
 have key:∀ u:Tm,RightT u→u.late=false→RightT (if qg r=2∧u.col=u.last then (if u.g.cols=1∨u.wr=false then u else Go.Proofs.YtpdaekmbpafenaaGreatDoor.printEnd (Go.Proofs.YtpdaekmbpafenaaGreatDoor.goOn u) r 2) else Go.Proofs.YtpdaekmbpafenaaGreatDoor.printEnd u r (qg r)):=fun u hu hul=>by
  by_cases h2:qg r=2∧u.col=u.last
  ·rw[if_pos h2]
   split
   ·exact hu
   ·have ho:=hu.goOn
    have:=ho.1.printEnd ho.2.1 (r:=r) (by omega)
    rwa [h2.1] at this
  ·rw[if_neg h2]
   exact hu.printEnd hul (by omega)
 simp only
 by_cases hl:t.late=true
 ·rw[if_pos hl];exact key _ h.goOn.1 h.goOn.2.1
 ·rw[if_neg hl];exact key t h (by simpa using hl)
theorem RightT.exec {t:Tm} (h:RightT t) (c:Int):RightT (qhq t c):=by
 unfold qhq
 split
 ·exact h.move _ _
 ·split
  ·exact h.move _ _
  ·split
   ·exact h.goDown
   ·split
    ·exact h.move _ _
    ·exact h
theorem qep:qab At.no=true:=by decide
theorem valid_nil:qce ⟨#[]⟩=true:=by decide +kernel
theorem RightT.fresh {t:Tm} (h:RightT t):RightT { newT t.g.cols t.rows t.bmax with bls:=t.bls,pa:=t.pa }:=by
 obtain⟨b1,b2,b3,b4⟩:=qd h.g
 have hr:t.rows=t.g.ls.length:=rfl
 have hn:(qf8 t.g.cols t.rows .no).ls.length=t.g.ls.length:=by
  show (List.replicate t.rows.toNat _).length=_
  rw[List.length_replicate,hr]
  omega
 refine⟨rg_new ⟨b1,b2⟩ (by omega) qep,Int.le_refl 0,?_,Int.le_refl 0,?_,(fun hh=>by cases hh),(fun hh=>by cases hh),fun _=>rfl,Int.le_refl 0,?_,?_,⟨Int.le_refl 0,by show (0:Int)≤79;decide⟩,⟨Int.le_refl 0,by show (0:Int)≤79;decide⟩,qep,qep,h.pa,h.bk,valid_nil,Nat.zero_le _⟩
 ·show (0:Int) < (qf8 t.g.cols t.rows .no).ls.length
  rw[hn];omega
 ·show (0:Int) < t.g.cols
  omega
 ·show t.rows - 1 < (qf8 t.g.cols t.rows .no).ls.length
  rw[hn];omega
 ·show (0:Int) < t.rows - 1∨((qf8 t.g.cols t.rows .no).ls.length=1∧(0:Int)=0∧t.rows - 1=0)
  rw[hn]
  omega
theorem RightT.esc {t:Tm} (h:RightT t) (d:Dn):RightT (escT t d):=by
 obtain⟨b1,_⟩:=qd h.g
 unfold escT
 split
 ·exact h
 split
 ·exact h.save
 split
 ·exact h.restore
 split
 ·exact h.goDown
 split
 ·exact h.goDown.setCol (qku t) (Int.le_refl 0) (by rw[(qhm t).1];omega)
 split
 ·exact h.goUp
 split
 ·exact h.fresh
 ·exact h
theorem RightT.moves {t:Tm} (h:RightT t) (d:Dn):RightT (qdk t d):=by
 unfold qdk
 simp only
 split
 ·exact h.move _ _
 split
 ·exact h.move _ _
 split
 ·exact h.move _ _
 split
 ·exact h.move _ _
 split
 ·exact h.move _ _
 split
 ·exact h.move _ _
 ·exact h.move _ _
theorem RightT.part {t:Tm} (h:RightT t) (p:Int):RightT (qit t p):=by
 have:=h.col0;have:=h.col1
 unfold qit
 split
 ·exact h.wipe h.row0 h.row1 h.col0 (by omega) (Int.le_refl _)
 split
 ·exact h.wipe h.row0 h.row1 (Int.le_refl 0) (by omega) (Int.le_refl _)
 split
 ·exact h.wipe h.row0 h.row1 (Int.le_refl 0) (by omega) (by omega)
 ·exact h.erase h.row0 h.row1 (Int.le_refl 0) (by omega) (by omega)
theorem RightT.clearN {t:Tm} (h:RightT t) (p:Int):∀ k,k≤t.g.ls.length→RightT (clearN t p k)∧(clearN t p k).g.ls.length=t.g.ls.length∧(clearN t p k).g.cols=t.g.cols
 | 0,_=>⟨h,rfl,rfl⟩
 | k+1,hk=>by
  obtain⟨i1,i2,i3⟩:=RightT.clearN h p k (by omega)
  have:=h.col0;have:=h.col1
  unfold Go.Proofs.YtpdaekmbpafenaaGreatDoor.clearN
  split
  ·refine⟨i1.wipe (by omega) (by rw[i2];omega) (Int.le_refl 0) (by omega) (by rw[i3];exact Int.le_refl _),?_,i3⟩
   show (qci _ _ _).length=_
   unfold qci
   rw[List.length_set,qii,i2]
  ·exact⟨i1,i2,i3⟩
theorem back_none {mx:Int} {ls:List Ln} (h:qdu mx ls=true):qdu mx []=true:=by
 unfold qdu at h ⊢
 simp only[Bool.and_eq_true,decide_eq_true_eq] at h ⊢
 exact⟨h.1,by have:=h.1;simp;omega,rfl⟩
theorem RightT.noBack {t:Tm} (h:RightT t):RightT { t with bls:=[] } :=
 ⟨h.g,h.row0,h.row1,h.col0,h.col1,h.late,h.main1,h.main0,h.top0,h.bot1,h.tb,h.svr,h.svc,h.svl,h.lk,h.pa,back_none h.bk,h.ti⟩
theorem RightT.clearE {t:Tm} (h:RightT t) (d:Dn) (p:Int):RightT (clearE t d p):=by
 unfold Go.Proofs.YtpdaekmbpafenaaGreatDoor.clearE
 split
 ·exact h
 ·refine RightT.part ?_ _
  split
  ·exact(h.noLate.clearN _ _ (Nat.le_refl _)).1
  ·exact h.noLate
theorem RightT.clear {t:Tm} (h:RightT t) (d:Dn):RightT (qgy t d):=by
 unfold qgy
 split
 ·exact h.noBack.clearE _ _
 ·exact h.clearE _ _
theorem minI_le (a b:Int):qe4 a b≤a∧qe4 a b≤b∧(qe4 a b=a∨qe4 a b=b):=by
 unfold qe4
 split <;> omega
theorem RightT.cells {t:Tm} (h:RightT t) (d:Dn):RightT (qgz t d):=by
 have hn:=num_pos d 0 (s:=1) (by omega)
 have:=h.col0;have:=h.col1
 have hm:=minI_le t.g.cols (t.col+qf9 d 0 1)
 unfold qgz
 simp only
 split
 ·exact h.noLate.erase h.row0 h.row1 h.col0 (by show t.col≤qe4 t.g.cols (t.col+qf9 d 0 1);omega) hm.1
 split
 ·exact h.noLate.setG (qij h.g h.row0 h.row1 h.col1 h.lk) rfl (by show (qbr _ _ _ _ _).length=_;unfold qbr;rw[List.length_set])
 ·exact h.noLate.setG (rg_delete h.g h.row0 h.row1 h.lk) rfl (by show (qd6 _ _ _ _ _).length=_;unfold qd6;rw[List.length_set])
theorem RightT.lines {t:Tm} (h:RightT t) (d:Dn):RightT (qez t d):=by
 unfold qez
 simp only
 split
 ·exact h.up true h.top0 h.tob
 split
 ·exact h.down h.top0 h.tob
 split
 ·exact h
 rename_i hr
 have hr':t.top≤t.row∧t.row≤t.bot:=Classical.not_not.1 hr
 split
 ·exact(h.down h.row0 hr'.2).move _ _
 ·exact(h.up false h.row0 hr'.2).move _ _
theorem RightT.region {t:Tm} (h:RightT t) (d:Dn):RightT (qg0 t d):=by
 have hn:=num_pos d 0 (s:=1) (by omega)
 have hr:t.rows=t.g.ls.length:=rfl
 have hm:=minI_le t.rows (qf9 d 1 t.rows)
 unfold qg0
 simp only
 split
 ·exact h
 rename_i hb
 refine RightT.home ⟨h.g,h.row0,h.row1,h.col0,h.col1,h.late,h.main1,h.main0,?_,?_,.inl ?_,h.svr,h.svc,h.svl,h.lk,h.pa,h.bk,h.ti⟩
 ·show 0≤qf9 d 0 1 - 1
  omega
 ·show qe4 t.rows (qf9 d 1 t.rows) - 1 < (t.g.ls.length:Int)
  omega
 ·show qf9 d 0 1 - 1 < qe4 t.rows (qf9 d 1 t.rows) - 1
  omega
theorem RightT.insM {t:Tm} (h:RightT t) (b:Bool):RightT { t with ins:=b } :=
 ⟨h.g,h.row0,h.row1,h.col0,h.col1,h.late,h.main1,h.main0,h.top0,h.bot1,h.tb,h.svr,h.svc,h.svl,h.lk,h.pa,h.bk,h.ti⟩
theorem RightT.insMode (on:Bool):∀ (l:List Int) {t:Tm},RightT t→RightT (insMode t on l)
 | [],_,h=>h
 | n :: l,t,h=>by
  unfold Go.Proofs.YtpdaekmbpafenaaGreatDoor.insMode
  refine RightT.insMode on l ?_
  split
  ·exact h.insM on
  ·exact h
theorem RightT.other {t:Tm} (h:RightT t) (on:Bool):RightT (qhs t on):=by
 obtain⟨b1,b2,b3,b4⟩:=qd h.g
 have hr:t.rows=t.g.ls.length:=rfl
 have hn:(qf8 t.g.cols t.rows .no).ls.length=t.g.ls.length:=by
  show (List.replicate t.rows.toNat _).length=_
  rw[List.length_replicate,hr]
  omega
 unfold qhs
 split
 ·have hs:=h.save
  refine⟨rg_new ⟨b1,b2⟩ (by omega) qep,h.row0,?_,h.col0,h.col1,(fun hh=>by cases hh),fun _=>⟨h.g,rfl,hn.symm⟩,(fun hh=>by cases hh),h.top0,?_,?_,hs.svr,hs.svc,hs.svl,h.lk,h.pa,h.bk,h.ti⟩
  ·show t.row < (qf8 t.g.cols t.rows .no).ls.length
   rw[hn];exact h.row1
  ·show t.bot < (qf8 t.g.cols t.rows .no).ls.length
   rw[hn];exact h.bot1
  ·show t.top < t.bot∨((qf8 t.g.cols t.rows .no).ls.length=1∧t.top=0∧t.bot=0)
   rw[hn];exact h.tb
 split
 ·rename_i hh
  obtain⟨m1,m2,m3⟩:=h.main1 hh.2
  have hg:=h.setG m1 m2 m3
  refine RightT.restore ⟨hg.g,hg.row0,hg.row1,hg.col0,hg.col1,hg.late,(fun hh=>by cases hh),fun _=>rfl,hg.top0,hg.bot1,hg.tb,hg.svr,hg.svc,hg.svl,hg.lk,hg.pa,hg.bk,hg.ti⟩
 ·exact h
theorem RightT.mode {t:Tm} (h:RightT t) (on:Bool) (n:Int):RightT (qdv t on n):=by
 unfold qdv
 split
 ·exact(h.look h.lk on).home
 split
 ·refine⟨h.g,h.row0,h.row1,h.col0,h.col1,fun hh=>?_,h.main1,h.main0,h.top0,h.bot1,h.tb,h.svr,h.svc,h.svl,h.lk,h.pa,h.bk,h.ti⟩
  have hh':(t.late && on)=true:=hh
  rw[Bool.and_eq_true] at hh'
  exact⟨hh'.2,(h.late hh'.1).2⟩
 split
 ·exact⟨h.g,h.row0,h.row1,h.col0,h.col1,h.late,h.main1,h.main0,h.top0,h.bot1,h.tb,h.svr,h.svc,h.svl,h.lk,h.pa,h.bk,h.ti⟩
 split
 ·exact h.other on
 ·exact h
theorem RightT.osc {t:Tm} (h:RightT t) (s:ByteArray):RightT (oscT t s):=by
 unfold oscT
 split
 ·rename_i hs
  refine⟨h.g,h.row0,h.row1,h.col0,h.col1,h.late,h.main1,h.main0,h.top0,h.bot1,h.tb,h.svr,h.svc,h.svl,h.lk,h.pa,h.bk,hs.2.2.2.2,?_⟩
  show (s.extract 2 s.size).size≤32
  rw[ql]
  omega
 ·exact h
theorem RightT.csi {t:Tm} (h:RightT t) (d:Dn):RightT (qa4 t d):=by
 unfold qa4
 split
 ·exact h.moves d
 split
 ·exact h.clear d
 split
 ·exact h.cells d
 split
 ·exact h.lines d
 split
 ·exact h.look (changeG_look h.lk _) t.og
 split
 ·exact h.region d
 split
 ·exact h.save
 split
 ·exact h.restore
 split
 ·exact RightT.insMode _ _ h
 ·exact h
theorem qfx (on:Bool):∀ (l:List Int) {t:Tm},RightT t→RightT (l.foldl (fun t n=>qdv t on n) t)
 | [],_,h=>h
 | n :: l,_,h=>qfx on l (h.mode on n)
theorem RightT.do {t:Tm} (h:RightT t) (d:Dn):RightT (doT t d):=by
 unfold doT
 split
 ·exact h.print _
 split
 ·exact h.exec _
 split
 ·exact h.esc d
 split
 ·exact h.osc _
 split
 ·exact h
 split
 ·exact h.csi d
 split
 ·exact qfx _ _ h
 ·exact h
theorem dos_right:∀ (l:List Dn) {t:Tm},RightT t→RightT (l.foldl doT t)
 | [],_,h=>h
 | d :: l,_,h=>dos_right l (h.do d)
theorem RightT.feed {t:Tm} (h:RightT t) (s:List Int):RightT (qiu t s):=by
 unfold qiu
 refine dos_right _ ⟨h.g,h.row0,h.row1,h.col0,h.col1,h.late,h.main1,h.main0,h.top0,h.bot1,h.tb,h.svr,h.svc,h.svl,h.lk,?_,h.bk,h.ti⟩
 exact(qds _).2 (qha s _ ((qds _).1 h.pa))
def qx (t:Tm) (p:Pa):Tm:={ t with pa:=p }
theorem qy {c:Prop} [Decidable c] (a b:Tm) (p:Pa):qx (if c then a else b) p=if c then qx a p else qx b p:=by split <;> rfl
theorem qj9 (t:Tm) (p:Pa):goDown (qx t p)=qx (goDown t) p:=by unfold goDown;rw[qy,qy];rfl
theorem goUp_pa (t:Tm) (p:Pa):goUp (qx t p)=qx (goUp t) p:=by unfold goUp;rw[qy,qy];rfl
theorem mark_pa (t:Tm) (p:Pa) (r:Int):qhp (qx t p) r=qx (qhp t r) p:=by unfold qhp;rw[qy,qy];rfl
theorem goOn_pa (t:Tm) (p:Pa):goOn (qx t p)=qx (goOn t) p:=by
 have h:({ qx t p with g:=⟨(qx t p).g.cols,qci (qx t p).g.ls (qx t p).row true⟩ }:Tm)=qx { t with g:=⟨t.g.cols,qci t.g.ls t.row true⟩ } p:=rfl
 unfold goOn
 rw[h,qj9]
 rfl
def qfg (u:Tm) (r w:Int):Tm :=
 if (qc3 u u.col ⟨Utf8.encode r,w,u.lk.fg,u.lk.bg,u.lk.fl⟩).last < (qc3 u u.col ⟨Utf8.encode r,w,u.lk.fg,u.lk.bg,u.lk.fl⟩).col+w then { qc3 u u.col ⟨Utf8.encode r,w,u.lk.fg,u.lk.bg,u.lk.fl⟩ with col:=(qc3 u u.col ⟨Utf8.encode r,w,u.lk.fg,u.lk.bg,u.lk.fl⟩).last,late:=(qc3 u u.col ⟨Utf8.encode r,w,u.lk.fg,u.lk.bg,u.lk.fl⟩).wr } else { qc3 u u.col ⟨Utf8.encode r,w,u.lk.fg,u.lk.bg,u.lk.fl⟩ with col:=(qc3 u u.col ⟨Utf8.encode r,w,u.lk.fg,u.lk.bg,u.lk.fl⟩).col+w }
def insFirst (t:Tm) (w:Int):Tm:=if t.ins=true then { t with g:=⟨t.g.cols,qbr t.g.ls t.row t.col w t.lk⟩ } else t
theorem qhl (t:Tm) (r w:Int):printEnd t r w=qfg (insFirst t w) r w:=rfl
theorem putEnd_pa (t:Tm) (p:Pa) (r w:Int):qfg (qx t p) r w=qx (qfg t r w) p:=by unfold qfg;rw[qy];rfl
theorem insFirst_pa (t:Tm) (p:Pa) (w:Int):insFirst (qx t p) w=qx (insFirst t w) p:=by unfold insFirst;rw[qy];rfl
theorem qkt (t:Tm) (p:Pa) (r w:Int):printEnd (qx t p) r w=qx (printEnd t r w) p:=by rw[qhl,qhl,insFirst_pa,putEnd_pa]
def qfh (u:Tm) (r:Int):Tm:=if qg r=2∧u.col=u.last then (if u.g.cols=1∨u.wr=false then u else printEnd (goOn u) r 2) else printEnd u r (qg r)
def onFirst (t:Tm):Tm:=if t.late=true then goOn t else t
theorem qih (t:Tm) (r:Int):qfj t r=if qg r < 0 then t else if qg r=0 then qhp t r else qfh (onFirst t) r:=rfl
theorem printMid_pa (t:Tm) (p:Pa) (r:Int):qfh (qx t p) r=qx (qfh t r) p:=by
 unfold qfh
 rw[goOn_pa,qkt,qkt,qy,qy]
 rfl
theorem onFirst_pa (t:Tm) (p:Pa):onFirst (qx t p)=qx (onFirst t) p:=by
 unfold onFirst
 rw[goOn_pa,qy]
 rfl
theorem print_pa (t:Tm) (p:Pa) (r:Int):qfj (qx t p) r=qx (qfj t r) p:=by
 rw[qih,qih,mark_pa,onFirst_pa,printMid_pa,qy,qy]
theorem exec_pa (t:Tm) (p:Pa) (c:Int):qhq (qx t p) c=qx (qhq t c) p:=by
 unfold qhq
 rw[qj9,qy,qy,qy,qy]
 rfl
theorem qlp (t:Tm) (p:Pa):qco (qx t p)=qx (qco t) p:=rfl
theorem home_pa (t:Tm) (p:Pa):qis (qx t p)=qx (qis t) p:=by unfold qis;rw[qy];rfl
theorem esc_pa (t:Tm) (p:Pa) (d:Dn):escT (qx t p) d=qx (escT t d) p:=by
 unfold escT
 rw[qj9,goUp_pa,qlp,qy,qy,qy,qy,qy,qy,qy]
 rfl
theorem moves_pa (t:Tm) (p:Pa) (d:Dn):qdk (qx t p) d=qx (qdk t d) p:=by
 unfold qdk
 simp only
 rw[qy,qy,qy,qy,qy,qy]
 rfl
theorem part_pa (t:Tm) (p:Pa) (n:Int):qit (qx t p) n=qx (qit t n) p:=by
 unfold qit
 rw[qy,qy,qy]
 rfl
theorem clearN_pa (t:Tm) (p:Pa) (n:Int):∀ k,clearN (qx t p) n k=qx (clearN t n k) p
 | 0=>rfl
 | k+1=>by
  unfold clearN
  rw[clearN_pa t p n k,qy]
  rfl
theorem clearE_pa (t:Tm) (p:Pa) (d:Dn) (n:Int):clearE (qx t p) d n=qx (clearE t d n) p:=by
 have h:({ qx t p with late:=false }:Tm)=qx { t with late:=false } p:=rfl
 unfold clearE
 rw[h,clearN_pa,qy,← part_pa,qy]
 rfl
theorem clear_pa (t:Tm) (p:Pa) (d:Dn):qgy (qx t p) d=qx (qgy t d) p:=by
 have h:({ qx t p with bls:=[] }:Tm)=qx { t with bls:=[] } p:=rfl
 unfold qgy
 rw[h,clearE_pa,clearE_pa,qy]
theorem cells_pa (t:Tm) (p:Pa) (d:Dn):qgz (qx t p) d=qx (qgz t d) p:=by
 unfold qgz
 simp only
 rw[qy,qy]
 rfl
theorem lines_pa (t:Tm) (p:Pa) (d:Dn):qez (qx t p) d=qx (qez t d) p:=by
 unfold qez
 simp only
 rw[qy,qy,qy,qy]
 rfl
theorem region_pa (t:Tm) (p:Pa) (d:Dn):qg0 (qx t p) d=qx (qg0 t d) p:=by
 unfold qg0
 simp only
 rw[qy,← home_pa]
 rfl
theorem qlq (on:Bool) (p:Pa):∀ (l:List Int) (t:Tm),insMode (qx t p) on l=qx (insMode t on l) p
 | [],_=>rfl
 | n :: l,t=>by
  unfold insMode
  rw[← qlq on p l,qy]
  rfl
theorem csi_pa (t:Tm) (p:Pa) (d:Dn):qa4 (qx t p) d=qx (qa4 t d) p:=by
 unfold qa4
 rw[moves_pa,clear_pa,cells_pa,lines_pa,region_pa,qlp,qlq]
 repeat rw[qy]
 rfl
theorem other_pa (t:Tm) (p:Pa) (on:Bool):qhs (qx t p) on=qx (qhs t on) p:=by
 unfold qhs
 rw[qy,qy]
 rfl
theorem mode_pa (t:Tm) (p:Pa) (on:Bool) (n:Int):qdv (qx t p) on n=qx (qdv t on n) p:=by
 unfold qdv
 rw[other_pa,qy,qy,qy,qy,← home_pa]
 rfl
theorem modes_pa (on:Bool) (p:Pa):∀ (l:List Int) (t:Tm),l.foldl (fun t n=>qdv t on n) (qx t p)=qx (l.foldl (fun t n=>qdv t on n) t) p
 | [],_=>rfl
 | n :: l,t=>by
  rw[List.foldl_cons,List.foldl_cons,mode_pa,modes_pa on p l]
theorem osc_pa (t:Tm) (p:Pa) (s:ByteArray):oscT (qx t p) s=qx (oscT t s) p:=by unfold oscT;rw[qy];rfl
theorem do_pa (t:Tm) (p:Pa) (d:Dn):doT (qx t p) d=qx (doT t d) p:=by
 unfold doT
 rw[print_pa,exec_pa,esc_pa,osc_pa,csi_pa,modes_pa]
 repeat rw[qy]
theorem dos_pa (p:Pa):∀ (l:List Dn) (t:Tm),l.foldl doT (qx t p)=qx (l.foldl doT t) p
 | [],_=>rfl
 | d :: l,t=>by rw[List.foldl_cons,List.foldl_cons,do_pa,dos_pa p l]
theorem feed_set (t:Tm) (s:List Int):qiu t s=qx ((qa1 t.pa s).2.foldl doT t) (qa1 t.pa s).1:=dos_pa _ _ _
theorem b0_right:qq b0C=true:=by decide +kernel
theorem okR_b0:∀ k,okR (List.replicate k b0C)=true
 | 0=>rfl
 | k+1=>by
  rw[List.replicate_succ]
  exact qf1 (t:=[b0C]) (.inl ⟨b0C,rfl,rfl,b0_right⟩) (okR_b0 k)
theorem okR_fill {C:Nat} {l:List Ce} (h:okR l=true):okR (qcz C l)=true:=ql9 h (okR_b0 _)
def qj8 (l:List Int):Prop:=∀ r∈l,qak r=true∧(160≤r∨(32≤r∧r < 127))
def sentB (l:List Int):List Int:=l.flatMap fun r=>qaf (Utf8.encode r)
theorem qlo {n m:Int} (h0:0≤n) (h1:n≤m):qbg n m=n:=by
 unfold qbg
 rw[if_neg (by omega),if_neg (by omega)]
def cR (r:Int):Ce:=⟨Utf8.encode r,1,0,0,0⟩
def curL (C:Nat) (cur:List Ce):Ln:=⟨qcz C cur,false⟩
def qgf (C:Nat) (done:List Ln) (cur:List Ce):List Ln:=done ++ [curL C cur]
def stL (C R K:Nat) (done:List Ln) (cur:List Ce):Tm :=
 { newT C R K with
  g:=⟨C,(qgf C done cur).drop (done.length+1 - R) ++ List.replicate (R - (done.length+1)) (qbe C .no)⟩
  bls:=qah K (done.take (done.length+1 - R))
  row:=((done.length - (done.length+1 - R):Nat):Int)
  col:=if cur.length=C then (C:Int) - 1 else (cur.length:Int)
  late:=decide (cur.length=C) }
theorem bare_is (C:Nat):curL C []=qbe C .no:=by
 unfold curL qcz qbe
 rw[List.nil_append,List.length_nil,Nat.sub_zero]
 rfl
theorem new_st {C R K:Nat} (hC:1≤C) (hR:1≤R):newT C R K=stL C R K [] []:=by
 have h0:¬ (([]:List Ce).length=C):=by simp;omega
 have e1:([]:List Ln).length+1 - R=0:=by simp;omega
 unfold stL
 rw[if_neg h0,decide_eq_false h0,e1]
 have e2:(qgf C [] []).drop 0 ++ List.replicate (R - (([]:List Ln).length+1)) (qbe C .no)=List.replicate R (qbe C .no):=by
  unfold qgf
  rw[bare_is,List.drop_zero,List.nil_append]
  show qbe C .no :: List.replicate (R - 1) (qbe C .no)=_
  rw[← List.replicate_succ,Nat.sub_add_cancel hR]
 have e3:qah K (([]:List Ln).take 0)=[]:=by unfold qah;simp
 rw[e2,e3]
 unfold newT qf8
 rw[Int.toNat_natCast,Int.toNat_natCast]
 rfl
theorem set_tot {done bs:List Ln} {a X:Ln} {q:Nat} (hq:q≤done.length):((done ++ [a]).drop q ++ bs).set (done.length - q) X=(done ++ [X]).drop q ++ bs:=by
 rw[List.drop_append_of_le_length hq,List.drop_append_of_le_length hq,List.append_assoc,List.append_assoc]
 have hl:(done.drop q).length=done.length - q:=List.length_drop
 rw[← hl,List.set_append_right _ _ (Nat.le_refl _),Nat.sub_self]
 rfl
theorem at_tot {done bs:List Ln} {a:Ln} {q:Nat} (hq:q≤done.length):((done ++ [a]).drop q ++ bs)[done.length - q]?=some a:=by
 rw[List.drop_append_of_le_length hq,List.append_assoc]
 have hl:(done.drop q).length=done.length - q:=List.length_drop
 rw[← hl,List.getElem?_append_right (Nat.le_refl _),Nat.sub_self]
 rfl
theorem fill_put {C:Nat} {cur:List Ce} (h:cur.length < C) (c:Ce):(qcz C cur).set cur.length c=qcz C (cur ++ [c]):=by
 unfold qcz
 rw[List.set_append_right _ _ (Nat.le_refl _),Nat.sub_self,List.length_append,List.length_singleton]
 obtain⟨k,hk⟩:∃ k,C - cur.length=k+1:=⟨C - cur.length - 1,by omega⟩
 rw[hk,show C - (cur.length+1)=k by omega,List.replicate_succ,List.set_cons_zero,List.append_assoc]
 rfl
def onesR (cur:List Ce):Prop:=∀ c∈cur,qq c=true∧c.wd=1
theorem onesR_ok:∀ {l:List Ce},onesR l→okR l=true
 | [],_=>rfl
 | c :: r,h=>qf1 (t:=[c]) (.inl ⟨c,rfl,(h c (by simp)).2,(h c (by simp)).1⟩) (onesR_ok (l:=r) fun x hx=>h x (by simp[hx]))
theorem cR_right {r:Int} (h:qg r=1):qq (cR r)=true:=by
 have:=qes (r:=r) (by omega) qep
 rw[h] at this
 exact this
theorem mend_ok {l:List Ce} (h:okR l=true):qac 1 l=l:=mend_fits (cols:=l.length) (by rw[okR_fits];exact h)
theorem gone_le (done:List Ln) {R:Nat} (hR:1≤R):done.length+1 - R≤done.length:=by omega
theorem put_st {C R K:Nat} (hR:1≤R) {done:List Ln} {cur:List Ce} (hlt:cur.length < C) (ho:onesR cur) {r:Int} (hw:qg r=1):printEnd (stL C R K done cur) r 1=stL C R K done (cur ++ [cR r]):=by
 have hg:=gone_le done hR
 have hrow:qo (stL C R K done cur).g.ls (stL C R K done cur).row=curL C cur:=by
  unfold qo
  show ((((qgf C done cur).drop (done.length+1 - R) ++ _)[(((done.length - (done.length+1 - R):Nat):Int)).toNat]?).getD _)=_
  rw[Int.toNat_natCast]
  unfold qgf
  rw[at_tot hg]
  rfl
 have hne:¬ cur.length=C:=by omega
 have hcol:(stL C R K done cur).col=(cur.length:Int):=if_neg hne
 have hcl:(cur ++ [cR r]).length=cur.length+1:=by rw[List.length_append,List.length_singleton]
 have hok:okR (qcz C (cur ++ [cR r]))=true:=okR_fill (ql9 (onesR_ok ho) (qf1 (t:=[cR r]) (.inl ⟨cR r,rfl,rfl,cR_right hw⟩) rfl))
 have hput:putT (stL C R K done cur).g.ls (stL C R K done cur).row (stL C R K done cur).col (cR r)=(qgf C done (cur ++ [cR r])).drop (done.length+1 - R) ++ List.replicate (R - (done.length+1)) (qbe C .no):=by
  unfold putT
  rw[hrow,hcol,Int.toNat_natCast]
  have hp:qga (curL C cur).cs cur.length (cR r)=qcz C (cur ++ [cR r]):=by
   unfold qga
   rw[if_neg (by show ¬ (1:Int)=2;decide)]
   exact fill_put hlt _
  rw[hp,mend_ok hok]
  show ((qgf C done cur).drop (done.length+1 - R) ++ _).set (((done.length - (done.length+1 - R):Nat):Int)).toNat (curL C (cur ++ [cR r]))=_
  rw[Int.toNat_natCast]
  exact set_tot hg
 have hins:insFirst (stL C R K done cur) 1=stL C R K done cur:=by
  unfold insFirst
  exact if_neg (by show ¬ false=true;decide)
 rw[qhl,hins]
 have hpm:qc3 (stL C R K done cur) (stL C R K done cur).col ⟨Utf8.encode r,1,(stL C R K done cur).lk.fg,(stL C R K done cur).lk.bg,(stL C R K done cur).lk.fl⟩={ stL C R K done cur with g:=⟨C,(qgf C done (cur ++ [cR r])).drop (done.length+1 - R) ++ List.replicate (R - (done.length+1)) (qbe C .no)⟩ }:=by
  rw[← hput]
  rfl
 unfold qfg
 rw[hpm]
 show (if (C:Int) - 1 < (stL C R K done cur).col+1 then _ else _)=_
 rw[hcol]
 by_cases hf:cur.length+1=C
 ·rw[if_pos (by omega)]
  unfold stL
  rw[hcl,if_pos hf,decide_eq_true hf]
  rfl
 ·rw[if_neg (by omega)]
  unfold stL
  rw[hcl,if_neg hf,decide_eq_false hf,decide_eq_false hne]
  show _=({ newT C R K with g:=_,bls:=_,row:=_,col:=((cur.length+1:Nat):Int),late:=false }:Tm)
  rw[if_neg hne]
  rfl
theorem on_st {C R K:Nat} (hC:1≤C) (hR:1≤R) {done:List Ln} {cur:List Ce} (hlen:cur.length=C):goOn (stL C R K done cur)=stL C R K (done ++ [⟨cur,true⟩]) []:=by
 have hg:=gone_le done hR
 have hfill:qcz C cur=cur:=by unfold qcz;rw[hlen,Nat.sub_self,List.replicate_zero,List.append_nil]
 have hrow:qo (stL C R K done cur).g.ls (stL C R K done cur).row=curL C cur:=by
  unfold qo
  show ((((qgf C done cur).drop (done.length+1 - R) ++ _)[(((done.length - (done.length+1 - R):Nat):Int)).toNat]?).getD _)=_
  rw[Int.toNat_natCast]
  unfold qgf
  rw[at_tot hg]
  rfl
 have hsoft:qci (stL C R K done cur).g.ls (stL C R K done cur).row true=(done ++ [(⟨cur,true⟩:Ln)]).drop (done.length+1 - R) ++ List.replicate (R - (done.length+1)) (qbe C .no):=by
  unfold qci
  rw[hrow]
  show ((qgf C done cur).drop (done.length+1 - R) ++ _).set (((done.length - (done.length+1 - R):Nat):Int)).toNat (⟨qcz C cur,true⟩:Ln)=_
  rw[hfill,Int.toNat_natCast]
  exact set_tot hg
 have h0:¬ (([]:List Ce).length=C):=by simp;omega
 have hdl:(done ++ [(⟨cur,true⟩:Ln)]).length=done.length+1:=by rw[List.length_append,List.length_singleton]
 obtain⟨L1,hL1⟩:∃ L1,(done ++ [(⟨cur,true⟩:Ln)]).drop (done.length+1 - R) ++ List.replicate (R - (done.length+1)) (qbe C .no)=L1:=⟨_,rfl⟩
 have hgo:goOn (stL C R K done cur)={ goDown { stL C R K done cur with g:=⟨C,L1⟩ } with col:=0 }:=by
  rw[← hL1,← hsoft]
  rfl
 have hn1:L1.length=if R≤done.length+1 then R else R:=by
  rw[← hL1,List.length_append,List.length_drop,hdl,List.length_replicate]
  split <;> omega
 rw[ite_self] at hn1
 rw[hgo]
 have hro:({ stL C R K done cur with g:=⟨C,L1⟩ }:Tm).row=((done.length - (done.length+1 - R):Nat):Int):=rfl
 have hbo:({ stL C R K done cur with g:=⟨C,L1⟩ }:Tm).bot=(R:Int) - 1:=rfl
 have hrs:({ stL C R K done cur with g:=⟨C,L1⟩ }:Tm).rows=(L1.length:Int):=rfl
 unfold goDown
 by_cases hb:R≤done.length+1
 ·rw[if_pos (by rw[hro,hbo];omega)]
  have hrep:R - (done.length+1)=0:=by omega
  rw[hrep,List.replicate_zero,List.append_nil] at hL1
  subst hL1
  have hll:((done ++ [(⟨cur,true⟩:Ln)]).drop (done.length+1 - R)).length=R:=by rw[List.length_drop,hdl];omega
  have hm:qgh 0 ((R:Int) - 1) 1=1:=by unfold qgh;omega
  have hup:upT ((done ++ [(⟨cur,true⟩:Ln)]).drop (done.length+1 - R)) C 0 ((R:Int) - 1) 1 .no=(qgf C (done ++ [⟨cur,true⟩]) []).drop (done.length+1+1 - R):=by
   unfold upT scrL
   rw[hm]
   generalize hls2:(done ++ [(⟨cur,true⟩:Ln)]).drop (done.length+1 - R)=ls at hll
   have hd:(qgf C (done ++ [⟨cur,true⟩]) []).drop (done.length+1+1 - R)=ls.drop 1 ++ [qbe C .no]:=by
    unfold qgf
    rw[bare_is,List.drop_append_of_le_length (by rw[hdl];omega),← hls2,List.drop_drop]
    congr 2
    omega
   rw[hd]
   have e1:(0:Int).toNat=0:=rfl
   have e2:((R:Int) - 1).toNat+1 - 1=R - 1:=by omega
   rw[e1,e2,List.take_zero,List.nil_append,Nat.zero_add,Int.toNat_natCast]
   have e3:(ls.drop 1).length=R - 1:=by rw[List.length_drop,hll]
   have e4:(ls.drop 1).take (R - 1)=ls.drop 1:=List.take_of_length_le (by omega)
   have e5:(ls.drop 1).drop (R - 1)=[]:=List.drop_eq_nil_of_le (by omega)
   rw[e4,e5,List.append_nil]
   rfl
  have hbls:qah K (qah K (done.take (done.length+1 - R)) ++ ((((done ++ [(⟨cur,true⟩:Ln)]).drop (done.length+1 - R)).drop (0:Int).toNat).take 1))=qah K ((done ++ [(⟨cur,true⟩:Ln)]).take (done.length+1+1 - R)):=by
   rw[lastN_parts]
   congr 1
   have e:done.take (done.length+1 - R)=(done ++ [(⟨cur,true⟩:Ln)]).take (done.length+1 - R):=by rw[List.take_append_of_le_length hg]
   rw[e]
   show (done ++ [(⟨cur,true⟩:Ln)]).take (done.length+1 - R) ++ ((done ++ [(⟨cur,true⟩:Ln)]).drop (done.length+1 - R)).take 1=_
   rw[show done.length+1+1 - R=(done.length+1 - R)+1 by omega,List.take_add]
  unfold upM stL
  rw[if_neg h0,decide_eq_false h0,hdl]
  have hrep2:R - (done.length+1+1)=0:=by omega
  rw[hrep2,List.replicate_zero,List.append_nil,← hup,← hbls]
  have hrw:((done.length+1 - (done.length+1+1 - R):Nat):Int)=((done.length - (done.length+1 - R):Nat):Int):=by omega
  rw[hrw]
  show _=({ newT C R K with g:=⟨(C:Int),upT _ (C:Int) 0 ((R:Int) - 1) 1 .no⟩,bls:=_,row:=_,col:=0,late:=false }:Tm)
  rw[← hm]
  rfl
 ·rw[if_neg (by rw[hro,hbo];omega),if_pos (by rw[hro,hrs,hn1];omega)]
  have hg0:done.length+1 - R=0:=by omega
  have hg1:done.length+1+1 - R=0:=by omega
  have hls:(done ++ [(⟨cur,true⟩:Ln)]).drop (done.length+1 - R) ++ List.replicate (R - (done.length+1)) (qbe C .no)=(qgf C (done ++ [⟨cur,true⟩]) []).drop (done.length+1+1 - R) ++ List.replicate (R - (done.length+1+1)) (qbe C .no):=by
   rw[hg0,hg1,List.drop_zero,List.drop_zero]
   unfold qgf
   obtain⟨k,hk⟩:∃ k,R - (done.length+1)=k+1:=⟨R - (done.length+1) - 1,by omega⟩
   rw[bare_is,hk,show R - (done.length+1+1)=k by omega,List.replicate_succ,List.append_assoc (done ++ [(⟨cur,true⟩:Ln)])]
   rfl
  rw[hL1] at hls
  rw[hls]
  have hbl:done.take (done.length+1 - R)=(done ++ [(⟨cur,true⟩:Ln)]).take (done.length+1+1 - R):=by rw[hg0,hg1,List.take_zero,List.take_zero]
  unfold stL
  rw[if_neg h0,decide_eq_false h0,hdl,hbl]
  have hrw:((done.length+1 - (done.length+1+1 - R):Nat):Int)=((done.length - (done.length+1 - R):Nat):Int)+1:=by omega
  rw[hrw]
  rfl
end Go.Proofs.YtpdaekmbpafenaaGreatDoor
