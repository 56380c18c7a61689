
import Derived.Test.YtpdaekmbpafenaaGreatDoorTermNQ
import Derived.Test.YtpdaekmbpafenaaGreatDoorUtfCQ
import Derived.Test.YtpdaekmbpafenaaGreatDoorIRowQ
import Derived.Test.YtpdaekmbpafenaaGreatDoorLtRowQ
import Derived.Test.YtpdaekmbpafenaaGreatDoorCellHQ
import Derived.Test.YtpdaekmbpafenaaGreatDoorBackPQ
import Derived.Test.YtpdaekmbpafenaaGreatDoorGridOQ
namespace Go.Proofs.YtpdaekmbpafenaaGreatDoor
open Go.RowKit
theorem num_pos (d:Dn) (i:Nat) {s:Int} (h:1≤s):1≤qgb d i s:=by
 unfold qgb
 split
 ·split <;> omega
 ·exact h
theorem qgh {r:Int} (h:1≤qk r) {a:At} (ha:qad a=true):qae ⟨Utf8.encode r,qk r,a.fg,a.bg,a.fl⟩=true:=by
 have hz:=qi0 (qbd (r:=r) (by omega))
 unfold qae
 rw[Bool.and_eq_true]
 refine⟨ha,?_⟩
 simp only
 rw[if_neg (by omega),parts_0 h]
 exact decide_eq_true ⟨by simp only;omega,rfl⟩
theorem RightT.put {t:Tm} (h:RightT t) (col:Int) {c:Ce} (hc:qae c=true):RightT (qdd t col c) :=
 h.setG (rg_put h.g h.row0 h.row1 col hc) rfl (by show (putT _ _ _ _).length=_;unfold putT;rw[List.length_set])
theorem RightT.mark {t:Tm} (h:RightT t) (r:Int):RightT (qf0 t r):=by
 unfold qf0
 split
 ·exact h
 ·split
  ·rename_i hc
   exact h.put _ hc.2
  ·exact h
theorem RightT.soft {t:Tm} (h:RightT t) {row:Int} (h0:0≤row) (h1:row < t.g.ls.length) (s:Bool):RightT { t with g:=⟨t.g.cols,qcf t.g.ls row s⟩ } :=
 h.setG (rg_soft h.g h0 h1 s) rfl (by show (qcf _ _ _).length=_;unfold qcf;rw[List.length_set])
theorem RightT.erase {t:Tm} (h:RightT t) {row fr tt:Int} (h0:0≤row) (h1:row < t.g.ls.length) (hf:0≤fr) (ht:fr≤tt) (hc:tt≤t.g.cols):RightT (qc5 t row fr tt) :=
 h.setG (qmn h.g h0 h1 hf ht hc h.lk) rfl (by show (qfe _ _ _ _ _).length=_;unfold qfe;rw[List.length_set])
theorem qg6 (t:Tm) (row fr tt:Int):(qc5 t row fr tt).g.ls.length=t.g.ls.length:=by show (qfe _ _ _ _ _).length=_;unfold qfe;rw[List.length_set]
theorem RightT.hard {t:Tm} (h:RightT t) {row:Int} (h0:0≤row) (h1:row < t.g.ls.length):RightT (qjz t row):=h.soft h0 h1 false
theorem RightT.wipe {t:Tm} (h:RightT t) {row fr tt:Int} (h0:0≤row) (h1:row < t.g.ls.length) (hf:0≤fr) (ht:fr≤tt) (hc:tt≤t.g.cols):RightT (qjz (qc5 t row fr tt) row) :=
 (h.erase h0 h1 hf ht hc).hard h0 (by rw[qg6];exact h1)
theorem RightT.goOn {t:Tm} (h:RightT t):RightT (goOn t)∧(goOn t).late=false∧(goOn t).g.cols=t.g.cols∧(goOn t).wr=t.wr∧(goOn t).lk=t.lk∧(goOn t).col=0:=by
 have h1:=(h.soft h.row0 h.row1 true).goDown
 have hl:=qld { t with g:=⟨t.g.cols,qcf t.g.ls t.row true⟩ }
 have hc:=qif { t with g:=⟨t.g.cols,qcf t.g.ls t.row true⟩ }
 have hb:=qd h.g
 refine⟨h1.setCol hl (Int.le_refl 0) (by rw[hc.1];show 0 < t.g.cols;omega),hl,hc.1,hc.2.1,hc.2.2,rfl⟩
theorem RightT.printEnd {t:Tm} (h:RightT t) (hl:t.late=false) {r:Int} (hw:1≤qk r):RightT (printEnd t r (qk r)):=by
 have key:∀ u:Tm,RightT u→u.late=false→RightT (if (qdd u u.col ⟨Utf8.encode r,qk r,u.lk.fg,u.lk.bg,u.lk.fl⟩).last < (qdd u u.col ⟨Utf8.encode r,qk r,u.lk.fg,u.lk.bg,u.lk.fl⟩).col+qk r then { qdd u u.col ⟨Utf8.encode r,qk r,u.lk.fg,u.lk.bg,u.lk.fl⟩ with col:=(qdd u u.col ⟨Utf8.encode r,qk r,u.lk.fg,u.lk.bg,u.lk.fl⟩).last,late:=(qdd u u.col ⟨Utf8.encode r,qk r,u.lk.fg,u.lk.bg,u.lk.fl⟩).wr } else { qdd u u.col ⟨Utf8.encode r,qk r,u.lk.fg,u.lk.bg,u.lk.fl⟩ with col:=(qdd u u.col ⟨Utf8.encode r,qk r,u.lk.fg,u.lk.bg,u.lk.fl⟩).col+qk r }):=fun u hu hul=>by
  have hv:=hu.put u.col (qgh hw hu.lk)
  have hvl:(qdd u u.col ⟨Utf8.encode r,qk r,u.lk.fg,u.lk.bg,u.lk.fl⟩).late=false:=hul
  generalize qdd u u.col ⟨Utf8.encode r,qk r,u.lk.fg,u.lk.bg,u.lk.fl⟩=v at hv hvl ⊢
  have hb:=qd hv.g
  have hlast:v.last=v.g.cols - 1:=rfl
  have:=hv.col0
  split
  ·exact⟨hv.g,hv.row0,hv.row1,by show 0≤v.last;omega,by show v.last < v.g.cols;omega,fun hh=>⟨hh,rfl⟩,hv.main1,hv.main0,hv.top0,hv.bot1,hv.tb,hv.svr,hv.svc,hv.svl,hv.lk,hv.pa,hv.bk,hv.ti⟩
  ·exact hv.setCol hvl (by omega) (by omega)
 unfold Go.Proofs.YtpdaekmbpafenaaGreatDoor.printEnd
 simp only
 split
 ·exact key _ (h.setG (qi2 h.g h.row0 h.row1 h.col1 h.lk) rfl (by show (qbe _ _ _ _ _).length=_;unfold qbe;rw[List.length_set])) hl
 ·exact key _ h hl
theorem RightT.print {t:Tm} (h:RightT t) (r:Int):RightT (qf1 t r):=by
 unfold qf1
 by_cases h0:qk r < 0
 ·rw[if_pos h0];exact h
 rw[if_neg h0]
 by_cases h1:qk r=0
 ·rw[if_pos h1];exact h.mark r
 rw[if_neg h1]
 have key:∀ u:Tm,RightT u→u.late=false→RightT (if qk r=2∧u.col=u.last then (if u.g.cols=1∨u.wr=false then u else Go.Proofs.YtpdaekmbpafenaaGreatDoor.printEnd (Go.Proofs.YtpdaekmbpafenaaGreatDoor.goOn u) r 2) else Go.Proofs.YtpdaekmbpafenaaGreatDoor.printEnd u r (qk r)):=fun u hu hul=>by
  by_cases h2:qk r=2∧u.col=u.last
  ·rw[if_pos h2]
   split
   ·exact hu
   ·have ho:=hu.goOn
    have:=ho.1.printEnd ho.2.1 (r:=r) (by omega)
    rwa [h2.1] at this
  ·rw[if_neg h2]
   exact hu.printEnd hul (by omega)
 simp only
 by_cases hl:t.late=true
 ·rw[if_pos hl];exact key _ h.goOn.1 h.goOn.2.1
 ·rw[if_neg hl];exact key t h (by simpa using hl)
theorem RightT.exec {t:Tm} (h:RightT t) (c:Int):RightT (qg7 t c):=by
 unfold qg7
 split
 ·exact h.move _ _
 ·split
  ·exact h.move _ _
  ·split
   ·exact h.goDown
   ·split
    ·exact h.move _ _
    ·exact h
theorem qi1:qad At.no=true:=by decide
theorem valid_nil:qcl ⟨#[]⟩=true:=by decide +kernel
theorem RightT.fresh {t:Tm} (h:RightT t):RightT { newT t.g.cols t.rows t.bmax with bls:=t.bls,pa:=t.pa }:=by
 obtain⟨b1,b2,b3,b4⟩:=qd h.g
 have hr:t.rows=t.g.ls.length:=rfl
 have hn:(newG t.g.cols t.rows .no).ls.length=t.g.ls.length:=by
  show (List.replicate t.rows.toNat _).length=_
  rw[List.length_replicate,hr]
  omega
 refine⟨rg_new ⟨b1,b2⟩ (by omega) qi1,Int.le_refl 0,?_,Int.le_refl 0,?_,(fun hh=>by cases hh),(fun hh=>by cases hh),fun _=>rfl,Int.le_refl 0,?_,?_,⟨Int.le_refl 0,by show (0:Int)≤79;decide⟩,⟨Int.le_refl 0,by show (0:Int)≤79;decide⟩,qi1,qi1,h.pa,h.bk,valid_nil,Nat.zero_le _⟩
 ·show (0:Int) < (newG t.g.cols t.rows .no).ls.length
  rw[hn];omega
 ·show (0:Int) < t.g.cols
  omega
 ·show t.rows - 1 < (newG t.g.cols t.rows .no).ls.length
  rw[hn];omega
 ·show (0:Int) < t.rows - 1∨((newG t.g.cols t.rows .no).ls.length=1∧(0:Int)=0∧t.rows - 1=0)
  rw[hn]
  omega
theorem RightT.esc {t:Tm} (h:RightT t) (d:Dn):RightT (escT t d):=by
 obtain⟨b1,_⟩:=qd h.g
 unfold escT
 split
 ·exact h
 split
 ·exact h.save
 split
 ·exact h.restore
 split
 ·exact h.goDown
 split
 ·exact h.goDown.setCol (qld t) (Int.le_refl 0) (by rw[(qif t).1];omega)
 split
 ·exact h.goUp
 split
 ·exact h.fresh
 ·exact h
theorem RightT.moves {t:Tm} (h:RightT t) (d:Dn):RightT (qc4 t d):=by
 unfold qc4
 simp only
 split
 ·exact h.move _ _
 split
 ·exact h.move _ _
 split
 ·exact h.move _ _
 split
 ·exact h.move _ _
 split
 ·exact h.move _ _
 split
 ·exact h.move _ _
 ·exact h.move _ _
theorem RightT.part {t:Tm} (h:RightT t) (p:Int):RightT (qgj t p):=by
 have:=h.col0;have:=h.col1
 unfold qgj
 split
 ·exact h.wipe h.row0 h.row1 h.col0 (by omega) (Int.le_refl _)
 split
 ·exact h.wipe h.row0 h.row1 (Int.le_refl 0) (by omega) (Int.le_refl _)
 split
 ·exact h.wipe h.row0 h.row1 (Int.le_refl 0) (by omega) (by omega)
 ·exact h.erase h.row0 h.row1 (Int.le_refl 0) (by omega) (by omega)
theorem RightT.clearN {t:Tm} (h:RightT t) (p:Int):∀ k,k≤t.g.ls.length→RightT (clearN t p k)∧(clearN t p k).g.ls.length=t.g.ls.length∧(clearN t p k).g.cols=t.g.cols
 | 0,_=>⟨h,rfl,rfl⟩
 | k+1,hk=>by
  obtain⟨i1,i2,i3⟩:=RightT.clearN h p k (by omega)
  have:=h.col0;have:=h.col1
  unfold Go.Proofs.YtpdaekmbpafenaaGreatDoor.clearN
  split
  ·refine⟨i1.wipe (by omega) (by rw[i2];omega) (Int.le_refl 0) (by omega) (by rw[i3];exact Int.le_refl _),?_,i3⟩
   show (qcf _ _ _).length=_
   unfold qcf
   rw[List.length_set,qg6,i2]
  ·exact⟨i1,i2,i3⟩
theorem back_none {mx:Int} {ls:List Ln} (h:qep mx ls=true):qep mx []=true:=by
 unfold qep at h ⊢
 simp only[Bool.and_eq_true,decide_eq_true_eq] at h ⊢
 exact⟨h.1,by have:=h.1;simp;omega,rfl⟩
theorem RightT.noBack {t:Tm} (h:RightT t):RightT { t with bls:=[] } :=
 ⟨h.g,h.row0,h.row1,h.col0,h.col1,h.late,h.main1,h.main0,h.top0,h.bot1,h.tb,h.svr,h.svc,h.svl,h.lk,h.pa,back_none h.bk,h.ti⟩
theorem RightT.clearE {t:Tm} (h:RightT t) (d:Dn) (p:Int):RightT (clearE t d p):=by
 unfold Go.Proofs.YtpdaekmbpafenaaGreatDoor.clearE
 split
 ·exact h
 ·refine RightT.part ?_ _
  split
  ·exact(h.noLate.clearN _ _ (Nat.le_refl _)).1
  ·exact h.noLate
theorem RightT.clear {t:Tm} (h:RightT t) (d:Dn):RightT (qfd t d):=by
 unfold qfd
 split
 ·exact h.noBack.clearE _ _
 ·exact h.clearE _ _
theorem minI_le (a b:Int):qfm a b≤a∧qfm a b≤b∧(qfm a b=a∨qfm a b=b):=by
 unfold qfm
 split <;> omega
theorem RightT.cells {t:Tm} (h:RightT t) (d:Dn):RightT (qf3 t d):=by
 have hn:=num_pos d 0 (s:=1) (by omega)
 have:=h.col0;have:=h.col1
 have hm:=minI_le t.g.cols (t.col+qgb d 0 1)
 unfold qf3
 simp only
 split
 ·exact h.noLate.erase h.row0 h.row1 h.col0 (by show t.col≤qfm t.g.cols (t.col+qgb d 0 1);omega) hm.1
 split
 ·exact h.noLate.setG (qi2 h.g h.row0 h.row1 h.col1 h.lk) rfl (by show (qbe _ _ _ _ _).length=_;unfold qbe;rw[List.length_set])
 ·exact h.noLate.setG (rg_delete h.g h.row0 h.row1 h.lk) rfl (by show (qc6 _ _ _ _ _).length=_;unfold qc6;rw[List.length_set])
theorem RightT.lines {t:Tm} (h:RightT t) (d:Dn):RightT (qed t d):=by
 unfold qed
 simp only
 split
 ·exact h.up true h.top0 h.tob
 split
 ·exact h.down h.top0 h.tob
 split
 ·exact h
 rename_i hr
 have hr':t.top≤t.row∧t.row≤t.bot:=Classical.not_not.1 hr
 split
 ·exact(h.down h.row0 hr'.2).move _ _
 ·exact(h.up false h.row0 hr'.2).move _ _
theorem RightT.region {t:Tm} (h:RightT t) (d:Dn):RightT (qfn t d):=by
 have hn:=num_pos d 0 (s:=1) (by omega)
 have hr:t.rows=t.g.ls.length:=rfl
 have hm:=minI_le t.rows (qgb d 1 t.rows)
 unfold qfn
 simp only
 split
 ·exact h
 rename_i hb
 refine RightT.home ⟨h.g,h.row0,h.row1,h.col0,h.col1,h.late,h.main1,h.main0,?_,?_,.inl ?_,h.svr,h.svc,h.svl,h.lk,h.pa,h.bk,h.ti⟩
 ·show 0≤qgb d 0 1 - 1
  omega
 ·show qfm t.rows (qgb d 1 t.rows) - 1 < (t.g.ls.length:Int)
  omega
 ·show qgb d 0 1 - 1 < qfm t.rows (qgb d 1 t.rows) - 1
  omega
theorem RightT.insM {t:Tm} (h:RightT t) (b:Bool):RightT { t with ins:=b } :=
 ⟨h.g,h.row0,h.row1,h.col0,h.col1,h.late,h.main1,h.main0,h.top0,h.bot1,h.tb,h.svr,h.svc,h.svl,h.lk,h.pa,h.bk,h.ti⟩
theorem RightT.insMode (on:Bool):∀ (l:List Int) {t:Tm},RightT t→RightT (insMode t on l)
 | [],_,h=>h
 | n :: l,t,h=>by
  unfold Go.Proofs.YtpdaekmbpafenaaGreatDoor.insMode
  refine RightT.insMode on l ?_
  split
  ·exact h.insM on
  ·exact h
theorem RightT.other {t:Tm} (h:RightT t) (on:Bool):RightT (qee t on):=by
 obtain⟨b1,b2,b3,b4⟩:=qd h.g
 have hr:t.rows=t.g.ls.length:=rfl
 have hn:(newG t.g.cols t.rows .no).ls.length=t.g.ls.length:=by
  show (List.replicate t.rows.toNat _).length=_
  rw[List.length_replicate,hr]
  omega
 unfold qee
 split
 ·have hs:=h.save
  refine⟨rg_new ⟨b1,b2⟩ (by omega) qi1,h.row0,?_,h.col0,h.col1,(fun hh=>by cases hh),fun _=>⟨h.g,rfl,hn.symm⟩,(fun hh=>by cases hh),h.top0,?_,?_,hs.svr,hs.svc,hs.svl,h.lk,h.pa,h.bk,h.ti⟩
  ·show t.row < (newG t.g.cols t.rows .no).ls.length
   rw[hn];exact h.row1
  ·show t.bot < (newG t.g.cols t.rows .no).ls.length
   rw[hn];exact h.bot1
  ·show t.top < t.bot∨((newG t.g.cols t.rows .no).ls.length=1∧t.top=0∧t.bot=0)
   rw[hn];exact h.tb
 split
 ·rename_i hh
  obtain⟨m1,m2,m3⟩:=h.main1 hh.2
  have hg:=h.setG m1 m2 m3
  refine RightT.restore ⟨hg.g,hg.row0,hg.row1,hg.col0,hg.col1,hg.late,(fun hh=>by cases hh),fun _=>rfl,hg.top0,hg.bot1,hg.tb,hg.svr,hg.svc,hg.svl,hg.lk,hg.pa,hg.bk,hg.ti⟩
 ·exact h
theorem RightT.mode {t:Tm} (h:RightT t) (on:Bool) (n:Int):RightT (qcq t on n):=by
 unfold qcq
 split
 ·exact(h.look h.lk on).home
 split
 ·refine⟨h.g,h.row0,h.row1,h.col0,h.col1,fun hh=>?_,h.main1,h.main0,h.top0,h.bot1,h.tb,h.svr,h.svc,h.svl,h.lk,h.pa,h.bk,h.ti⟩
  have hh':(t.late && on)=true:=hh
  rw[Bool.and_eq_true] at hh'
  exact⟨hh'.2,(h.late hh'.1).2⟩
 split
 ·exact⟨h.g,h.row0,h.row1,h.col0,h.col1,h.late,h.main1,h.main0,h.top0,h.bot1,h.tb,h.svr,h.svc,h.svl,h.lk,h.pa,h.bk,h.ti⟩
 split
 ·exact h.other on
 ·exact h
theorem RightT.osc {t:Tm} (h:RightT t) (s:ByteArray):RightT (oscT t s):=by
 unfold oscT
 split
 ·rename_i hs
  refine⟨h.g,h.row0,h.row1,h.col0,h.col1,h.late,h.main1,h.main0,h.top0,h.bot1,h.tb,h.svr,h.svc,h.svl,h.lk,h.pa,h.bk,hs.2.2.2.2,?_⟩
  show (s.extract 2 s.size).size≤32
  rw[qj]
  omega
 ·exact h
theorem RightT.csi {t:Tm} (h:RightT t) (d:Dn):RightT (qa0 t d):=by
 unfold qa0
 split
 ·exact h.moves d
 split
 ·exact h.clear d
 split
 ·exact h.cells d
 split
 ·exact h.lines d
 split
 ·exact h.look (changeG_look h.lk _) t.og
 split
 ·exact h.region d
 split
 ·exact h.save
 split
 ·exact h.restore
 split
 ·exact RightT.insMode _ _ h
 ·exact h
theorem qgi (on:Bool):∀ (l:List Int) {t:Tm},RightT t→RightT (l.foldl (fun t n=>qcq t on n) t)
 | [],_,h=>h
 | n :: l,_,h=>qgi on l (h.mode on n)
theorem RightT.do {t:Tm} (h:RightT t) (d:Dn):RightT (doT t d):=by
 unfold doT
 split
 ·exact h.print _
 split
 ·exact h.exec _
 split
 ·exact h.esc d
 split
 ·exact h.osc _
 split
 ·exact h
 split
 ·exact h.csi d
 split
 ·exact qgi _ _ h
 ·exact h
theorem dos_right:∀ (l:List Dn) {t:Tm},RightT t→RightT (l.foldl doT t)
 | [],_,h=>h
 | d :: l,_,h=>dos_right l (h.do d)
theorem RightT.feed {t:Tm} (h:RightT t) (s:List Int):RightT (qe7 t s):=by
 unfold qe7
 refine dos_right _ ⟨h.g,h.row0,h.row1,h.col0,h.col1,h.late,h.main1,h.main0,h.top0,h.bot1,h.tb,h.svr,h.svc,h.svl,h.lk,?_,h.bk,h.ti⟩
 exact(qct _).2 (qf5 s _ ((qct _).1 h.pa))
def qaa (t:Tm) (p:Pa):Tm:={ t with pa:=p }
theorem qab {c:Prop} [Decidable c] (a b:Tm) (p:Pa):qaa (if c then a else b) p=if c then qaa a p else qaa b p:=by split <;> rfl
theorem qkz (t:Tm) (p:Pa):goDown (qaa t p)=qaa (goDown t) p:=by unfold goDown;rw[qab,qab];rfl
theorem goUp_pa (t:Tm) (p:Pa):goUp (qaa t p)=qaa (goUp t) p:=by unfold goUp;rw[qab,qab];rfl
theorem mark_pa (t:Tm) (p:Pa) (r:Int):qf0 (qaa t p) r=qaa (qf0 t r) p:=by unfold qf0;rw[qab,qab];rfl
theorem goOn_pa (t:Tm) (p:Pa):goOn (qaa t p)=qaa (goOn t) p:=by
 have h:({ qaa t p with g:=⟨(qaa t p).g.cols,qcf (qaa t p).g.ls (qaa t p).row true⟩ }:Tm)=qaa { t with g:=⟨t.g.cols,qcf t.g.ls t.row true⟩ } p:=rfl
 unfold goOn
 rw[h,qkz]
 rfl
def qec (u:Tm) (r w:Int):Tm :=
 if (qdd u u.col ⟨Utf8.encode r,w,u.lk.fg,u.lk.bg,u.lk.fl⟩).last < (qdd u u.col ⟨Utf8.encode r,w,u.lk.fg,u.lk.bg,u.lk.fl⟩).col+w then { qdd u u.col ⟨Utf8.encode r,w,u.lk.fg,u.lk.bg,u.lk.fl⟩ with col:=(qdd u u.col ⟨Utf8.encode r,w,u.lk.fg,u.lk.bg,u.lk.fl⟩).last,late:=(qdd u u.col ⟨Utf8.encode r,w,u.lk.fg,u.lk.bg,u.lk.fl⟩).wr } else { qdd u u.col ⟨Utf8.encode r,w,u.lk.fg,u.lk.bg,u.lk.fl⟩ with col:=(qdd u u.col ⟨Utf8.encode r,w,u.lk.fg,u.lk.bg,u.lk.fl⟩).col+w }
def insFirst (t:Tm) (w:Int):Tm:=if t.ins=true then { t with g:=⟨t.g.cols,qbe t.g.ls t.row t.col w t.lk⟩ } else t
theorem qgg (t:Tm) (r w:Int):printEnd t r w=qec (insFirst t w) r w:=rfl
theorem putEnd_pa (t:Tm) (p:Pa) (r w:Int):qec (qaa t p) r w=qaa (qec t r w) p:=by unfold qec;rw[qab];rfl
theorem insFirst_pa (t:Tm) (p:Pa) (w:Int):insFirst (qaa t p) w=qaa (insFirst t w) p:=by unfold insFirst;rw[qab];rfl
theorem qlc (t:Tm) (p:Pa) (r w:Int):printEnd (qaa t p) r w=qaa (printEnd t r w) p:=by rw[qgg,qgg,insFirst_pa,putEnd_pa]
def qdu (u:Tm) (r:Int):Tm:=if qk r=2∧u.col=u.last then (if u.g.cols=1∨u.wr=false then u else printEnd (goOn u) r 2) else printEnd u r (qk r)
def onFirst (t:Tm):Tm:=if t.late=true then goOn t else t
theorem qg5 (t:Tm) (r:Int):qf1 t r=if qk r < 0 then t else if qk r=0 then qf0 t r else qdu (onFirst t) r:=rfl
theorem printMid_pa (t:Tm) (p:Pa) (r:Int):qdu (qaa t p) r=qaa (qdu t r) p:=by
 unfold qdu
 rw[goOn_pa,qlc,qlc,qab,qab]
 rfl
theorem onFirst_pa (t:Tm) (p:Pa):onFirst (qaa t p)=qaa (onFirst t) p:=by
 unfold onFirst
 rw[goOn_pa,qab]
 rfl
theorem print_pa (t:Tm) (p:Pa) (r:Int):qf1 (qaa t p) r=qaa (qf1 t r) p:=by
 rw[qg5,qg5,mark_pa,onFirst_pa,printMid_pa,qab,qab]
theorem exec_pa (t:Tm) (p:Pa) (c:Int):qg7 (qaa t p) c=qaa (qg7 t c) p:=by
 unfold qg7
 rw[qkz,qab,qab,qab,qab]
 rfl
theorem qml (t:Tm) (p:Pa):qbk (qaa t p)=qaa (qbk t) p:=rfl
theorem home_pa (t:Tm) (p:Pa):qh1 (qaa t p)=qaa (qh1 t) p:=by unfold qh1;rw[qab];rfl
theorem esc_pa (t:Tm) (p:Pa) (d:Dn):escT (qaa t p) d=qaa (escT t d) p:=by
 unfold escT
 rw[qkz,goUp_pa,qml,qab,qab,qab,qab,qab,qab,qab]
 rfl
theorem moves_pa (t:Tm) (p:Pa) (d:Dn):qc4 (qaa t p) d=qaa (qc4 t d) p:=by
 unfold qc4
 simp only
 rw[qab,qab,qab,qab,qab,qab]
 rfl
theorem part_pa (t:Tm) (p:Pa) (n:Int):qgj (qaa t p) n=qaa (qgj t n) p:=by
 unfold qgj
 rw[qab,qab,qab]
 rfl
theorem clearN_pa (t:Tm) (p:Pa) (n:Int):∀ k,clearN (qaa t p) n k=qaa (clearN t n k) p
 | 0=>rfl
 | k+1=>by
  unfold clearN
  rw[clearN_pa t p n k,qab]
  rfl
theorem clearE_pa (t:Tm) (p:Pa) (d:Dn) (n:Int):clearE (qaa t p) d n=qaa (clearE t d n) p:=by
 have h:({ qaa t p with late:=false }:Tm)=qaa { t with late:=false } p:=rfl
 unfold clearE
 rw[h,clearN_pa,qab,← part_pa,qab]
 rfl
theorem clear_pa (t:Tm) (p:Pa) (d:Dn):qfd (qaa t p) d=qaa (qfd t d) p:=by
 have h:({ qaa t p with bls:=[] }:Tm)=qaa { t with bls:=[] } p:=rfl
 unfold qfd
 rw[h,clearE_pa,clearE_pa,qab]
theorem cells_pa (t:Tm) (p:Pa) (d:Dn):qf3 (qaa t p) d=qaa (qf3 t d) p:=by
 unfold qf3
 simp only
 rw[qab,qab]
 rfl
theorem lines_pa (t:Tm) (p:Pa) (d:Dn):qed (qaa t p) d=qaa (qed t d) p:=by
 unfold qed
 simp only
 rw[qab,qab,qab,qab]
 rfl
theorem region_pa (t:Tm) (p:Pa) (d:Dn):qfn (qaa t p) d=qaa (qfn t d) p:=by
 unfold qfn
 simp only
 rw[qab,← home_pa]
 rfl
theorem qmm (on:Bool) (p:Pa):∀ (l:List Int) (t:Tm),insMode (qaa t p) on l=qaa (insMode t on l) p
 | [],_=>rfl
 | n :: l,t=>by
  unfold insMode
  rw[← qmm on p l,qab]
  rfl
theorem csi_pa (t:Tm) (p:Pa) (d:Dn):qa0 (qaa t p) d=qaa (qa0 t d) p:=by
 unfold qa0
 rw[moves_pa,clear_pa,cells_pa,lines_pa,region_pa,qml,qmm]
 repeat rw[qab]
 rfl
theorem other_pa (t:Tm) (p:Pa) (on:Bool):qee (qaa t p) on=qaa (qee t on) p:=by
 unfold qee
 rw[qab,qab]
 rfl
theorem mode_pa (t:Tm) (p:Pa) (on:Bool) (n:Int):qcq (qaa t p) on n=qaa (qcq t on n) p:=by
 unfold qcq
 rw[other_pa,qab,qab,qab,qab,← home_pa]
 rfl
theorem modes_pa (on:Bool) (p:Pa):∀ (l:List Int) (t:Tm),l.foldl (fun t n=>qcq t on n) (qaa t p)=qaa (l.foldl (fun t n=>qcq t on n) t) p
 | [],_=>rfl
 | n :: l,t=>by
  rw[List.foldl_cons,List.foldl_cons,mode_pa,modes_pa on p l]
theorem osc_pa (t:Tm) (p:Pa) (s:ByteArray):oscT (qaa t p) s=qaa (oscT t s) p:=by unfold oscT;rw[qab];rfl
theorem do_pa (t:Tm) (p:Pa) (d:Dn):doT (qaa t p) d=qaa (doT t d) p:=by
 unfold doT
 rw[print_pa,exec_pa,esc_pa,osc_pa,csi_pa,modes_pa]
 repeat rw[qab]
theorem dos_pa (p:Pa):∀ (l:List Dn) (t:Tm),l.foldl doT (qaa t p)=qaa (l.foldl doT t) p
 | [],_=>rfl
 | d :: l,t=>by rw[List.foldl_cons,List.foldl_cons,do_pa,dos_pa p l]
theorem feed_set (t:Tm) (s:List Int):qe7 t s=qaa ((qaj t.pa s).2.foldl doT t) (qaj t.pa s).1:=dos_pa _ _ _
def qar (t:Tm):Int×Nat×Int:=(t.g.cols,t.g.ls.length,t.bmax)
theorem qgt {t u:Tm} (h1:u.g.cols=t.g.cols) (h2:u.g.ls.length=t.g.ls.length) (h3:u.bmax=t.bmax):qar u=qar t:=by unfold qar;rw[h1,h2,h3]
theorem qn {c:Prop} [Decidable c] {a b:Tm} {x:Int×Nat×Int} (ha:c→qar a=x) (hb:¬ c→qar b=x):qar (if c then a else b)=x:=by
 by_cases h:c
 ·rw[if_pos h];exact ha h
 ·rw[if_neg h];exact hb h
theorem up_dim {t:Tm} (h:RightT t) {top n:Int} (kept:Bool) (h0:0≤top) (h1:top≤t.bot):qar (upM t top n kept)=qar t:=qgt rfl (rg_up (num:=n) h.g h0 h1 h.bot1 h.lk).2 rfl
theorem qmi {t:Tm} (h:RightT t) {top n:Int} (h0:0≤top) (h1:top≤t.bot):qar (qh0 t top n)=qar t:=qgt rfl (qlw (num:=n) h.g h0 h1 h.bot1 h.lk).2 rfl
theorem qhp {t:Tm} (h:RightT t):qar (goDown t)=qar t:=by
 unfold goDown
 exact qn (fun _=>up_dim h.noLate true h.top0 h.tob) fun _=>qn (fun _=>rfl) fun _=>rfl
theorem goUp_dim {t:Tm} (h:RightT t):qar (goUp t)=qar t:=by
 unfold goUp
 exact qn (fun _=>qmi h.noLate h.top0 h.tob) fun _=>qn (fun _=>rfl) fun _=>rfl
theorem put_dim (t:Tm) (col:Int) (c:Ce):qar (qdd t col c)=qar t:=qgt rfl (by show (putT _ _ _ _).length=_;unfold putT;rw[List.length_set]) rfl
theorem soft_dim (t:Tm) (row:Int) (s:Bool):qar { t with g:=⟨t.g.cols,qcf t.g.ls row s⟩ }=qar t:=qgt rfl (by show (qcf _ _ _).length=_;unfold qcf;rw[List.length_set]) rfl
theorem qmj (t:Tm) (row col n:Int) (a:At):qar { t with g:=⟨t.g.cols,qbe t.g.ls row col n a⟩ }=qar t:=qgt rfl (by show (qbe _ _ _ _ _).length=_;unfold qbe;rw[List.length_set]) rfl
theorem delete_dim (t:Tm) (row col n:Int) (a:At):qar { t with g:=⟨t.g.cols,qc6 t.g.ls row col n a⟩ }=qar t:=qgt rfl (by show (qc6 _ _ _ _ _).length=_;unfold qc6;rw[List.length_set]) rfl
theorem qky (t:Tm) (row fr tt:Int):qar (qc5 t row fr tt)=qar t:=qgt rfl (qg6 t row fr tt) rfl
theorem hard_dim (t:Tm) (row:Int):qar (qjz t row)=qar t:=soft_dim t row false
theorem qjx (t:Tm) (row fr tt:Int):qar (qjz (qc5 t row fr tt) row)=qar t:=(hard_dim _ _).trans (qky _ _ _ _)
theorem mark_dim (t:Tm) (r:Int):qar (qf0 t r)=qar t:=by
 unfold qf0
 exact qn (fun _=>rfl) fun _=>qn (fun _=>put_dim _ _ _) fun _=>rfl
theorem goOn_dim {t:Tm} (h:RightT t):qar (goOn t)=qar t:=(qhp (h.soft h.row0 h.row1 true)).trans (soft_dim t t.row true)
theorem insFirst_dim (t:Tm) (w:Int):qar (insFirst t w)=qar t:=by
 unfold insFirst
 exact qn (fun _=>qmj _ _ _ _ _) fun _=>rfl
theorem putEnd_dim (t:Tm) (r w:Int):qar (qec t r w)=qar t:=by
 unfold qec
 exact qn (fun _=>put_dim _ _ _) fun _=>put_dim _ _ _
theorem qjy (t:Tm) (r w:Int):qar (printEnd t r w)=qar t:=by rw[qgg,putEnd_dim,insFirst_dim]
theorem printMid_dim {t:Tm} (h:RightT t) (r:Int):qar (qdu t r)=qar t:=by
 unfold qdu
 exact qn (fun _=>qn (fun _=>rfl) fun _=>(qjy _ _ _).trans (goOn_dim h)) fun _=>qjy _ _ _
theorem qni {t:Tm} (h:RightT t):RightT (onFirst t):=by
 unfold onFirst
 split
 ·exact h.goOn.1
 ·exact h
theorem print_dim {t:Tm} (h:RightT t) (r:Int):qar (qf1 t r)=qar t:=by
 rw[qg5]
 exact qn (fun _=>rfl) fun _=>qn (fun _=>mark_dim _ _) fun _=>(printMid_dim (qni h) r).trans (by unfold onFirst;exact qn (fun _=>goOn_dim h) fun _=>rfl)
theorem exec_dim {t:Tm} (h:RightT t) (c:Int):qar (qg7 t c)=qar t:=by
 unfold qg7
 exact qn (fun _=>rfl) fun _=>qn (fun _=>rfl) fun _=>qn (fun _=>qhp h) fun _=>qn (fun _=>rfl) fun _=>rfl
theorem newG_len (t:Tm) (a:At):(newG t.g.cols t.rows a).ls.length=t.g.ls.length:=by
 show (List.replicate t.rows.toNat _).length=_
 rw[List.length_replicate]
 show ((t.g.ls.length:Nat):Int).toNat=_
 omega
theorem home_dim (t:Tm):qar (qh1 t)=qar t:=by
 unfold qh1
 exact qn (fun _=>rfl) fun _=>rfl
theorem esc_dim {t:Tm} (h:RightT t) (d:Dn):qar (escT t d)=qar t:=by
 unfold escT
 exact qn (fun _=>rfl) fun _=>qn (fun _=>rfl) fun _=>qn (fun _=>rfl) fun _=>qn (fun _=>qhp h) fun _=>qn (fun _=>qhp h) fun _=>qn (fun _=>goUp_dim h) fun _=>qn (fun _=>qgt rfl (newG_len t _) rfl) fun _=>rfl
theorem moves_dim (t:Tm) (d:Dn):qar (qc4 t d)=qar t:=by
 unfold qc4
 exact qn (fun _=>rfl) fun _=>qn (fun _=>rfl) fun _=>qn (fun _=>rfl) fun _=>qn (fun _=>rfl) fun _=>qn (fun _=>rfl) fun _=>qn (fun _=>rfl) fun _=>rfl
theorem part_dim (t:Tm) (p:Int):qar (qgj t p)=qar t:=by
 unfold qgj
 exact qn (fun _=>qjx _ _ _ _) fun _=>qn (fun _=>qjx _ _ _ _) fun _=>qn (fun _=>qjx _ _ _ _) fun _=>qky _ _ _ _
theorem qjj (t:Tm) (p:Int):∀ k,qar (clearN t p k)=qar t
 | 0=>rfl
 | k+1=>by
  unfold clearN
  exact qn (fun _=>(qjx _ _ _ _).trans (qjj t p k)) fun _=>qjj t p k
theorem qmk (t:Tm) (d:Dn) (p:Int):qar (clearE t d p)=qar t:=by
 unfold clearE
 exact qn (fun _=>rfl) fun _=>(part_dim _ _).trans (qn (fun _=>qjj _ _ _) fun _=>rfl)
theorem clear_dim (t:Tm) (d:Dn):qar (qfd t d)=qar t:=by
 unfold qfd
 exact qn (fun _=>qmk _ _ _) fun _=>qmk _ _ _
theorem cells_dim (t:Tm) (d:Dn):qar (qf3 t d)=qar t:=by
 unfold qf3
 exact qn (fun _=>qky _ _ _ _) fun _=>qn (fun _=>qmj _ _ _ _ _) fun _=>delete_dim _ _ _ _ _
theorem lines_dim {t:Tm} (h:RightT t) (d:Dn):qar (qed t d)=qar t:=by
 unfold qed
 exact qn (fun _=>up_dim h true h.top0 h.tob) fun _=>qn (fun _=>qmi h h.top0 h.tob) fun _=>qn (fun _=>rfl) fun hr =>
  qn (fun _=>qmi h h.row0 (Classical.not_not.1 hr).2) fun _=>up_dim h false h.row0 (Classical.not_not.1 hr).2
theorem region_dim (t:Tm) (d:Dn):qar (qfn t d)=qar t:=by
 unfold qfn
 exact qn (fun _=>rfl) fun _=>home_dim _
theorem qlb (on:Bool):∀ (l:List Int) (t:Tm),qar (insMode t on l)=qar t
 | [],_=>rfl
 | n :: l,t=>by
  unfold insMode
  exact(qlb on l _).trans (qn (fun _=>rfl) fun _=>rfl)
theorem csi_dim {t:Tm} (h:RightT t) (d:Dn):qar (qa0 t d)=qar t:=by
 unfold qa0
 exact qn (fun _=>moves_dim _ _) fun _=>qn (fun _=>clear_dim _ _) fun _=>qn (fun _=>cells_dim _ _) fun _=>qn (fun _=>lines_dim h _) fun _=>qn (fun _=>rfl) fun _=>qn (fun _=>region_dim _ _) fun _=>qn (fun _=>rfl) fun _=>qn (fun _=>rfl) fun _=>qn (fun _=>qlb _ _ _) fun _=>rfl
theorem other_dim {t:Tm} (h:RightT t) (on:Bool):qar (qee t on)=qar t:=by
 unfold qee
 exact qn (fun _=>qgt rfl (newG_len t _) rfl) fun _=>qn (fun hh=>qgt (h.main1 hh.2).2.1 (h.main1 hh.2).2.2 rfl) fun _=>rfl
theorem mode_dim {t:Tm} (h:RightT t) (on:Bool) (n:Int):qar (qcq t on n)=qar t:=by
 unfold qcq
 exact qn (fun _=>home_dim _) fun _=>qn (fun _=>rfl) fun _=>qn (fun _=>rfl) fun _=>qn (fun _=>other_dim h on) fun _=>rfl
theorem modes_dim (on:Bool):∀ (l:List Int) {t:Tm},RightT t→qar (l.foldl (fun t n=>qcq t on n) t)=qar t
 | [],_,_=>rfl
 | n :: l,_,h=>(modes_dim on l (h.mode on n)).trans (mode_dim h on n)
theorem osc_dim (t:Tm) (s:ByteArray):qar (oscT t s)=qar t:=by
 unfold oscT
 exact qn (fun _=>rfl) fun _=>rfl
theorem do_dim {t:Tm} (h:RightT t) (d:Dn):qar (doT t d)=qar t:=by
 unfold doT
 exact qn (fun _=>print_dim h _) fun _=>qn (fun _=>exec_dim h _) fun _=>qn (fun _=>esc_dim h _) fun _=>qn (fun _=>osc_dim _ _) fun _=>qn (fun _=>rfl) fun _=>qn (fun _=>csi_dim h _) fun _=>qn (fun _=>modes_dim _ _ h) fun _=>rfl
theorem dos_dim:∀ (l:List Dn) {t:Tm},RightT t→qar (l.foldl doT t)=qar t
 | [],_,_=>rfl
 | d :: l,_,h=>(dos_dim l (h.do d)).trans (do_dim h d)
def qbb (t:Tm):Sv×Gd×Bool×List Ln:=(t.sv,t.main,t.alt,if t.alt=true then t.bls else [])
theorem qbt {c:Prop} [Decidable c] {a b:Tm} {x:Sv×Gd×Bool×List Ln} (ha:c→qbb a=x) (hb:¬ c→qbb b=x):qbb (if c then a else b)=x:=by
 by_cases h:c
 ·rw[if_pos h];exact ha h
 ·rw[if_neg h];exact hb h
theorem up_side (t:Tm) (top n:Int) (kept:Bool):qbb (upM t top n kept)=qbb t:=by
 cases h:t.alt
 ·unfold qbb
  show (t.sv,t.main,t.alt,if t.alt=true then _ else [])=(t.sv,t.main,t.alt,if t.alt=true then _ else [])
  rw[h]
  rfl
 ·have e : upM t top n kept = { t with g := ⟨t.g.cols, upT t.g.ls t.g.cols top t.bot n t.lk⟩ } := by
   unfold upM
   rw[h,if_neg (by simp)]
  rw[e]
  rfl
theorem goDown_side (t:Tm):qbb (goDown t)=qbb t:=by
 unfold goDown
 exact qbt (fun _=>up_side _ _ _ _) fun _=>qbt (fun _=>rfl) fun _=>rfl
theorem mark_side (t:Tm) (r:Int):qbb (qf0 t r)=qbb t:=by
 unfold qf0
 exact qbt (fun _=>rfl) fun _=>qbt (fun _=>rfl) fun _=>rfl
theorem goOn_side (t:Tm):qbb (goOn t)=qbb t:=goDown_side { t with g:=⟨t.g.cols,qcf t.g.ls t.row true⟩ }
theorem qng (t:Tm) (w:Int):qbb (insFirst t w)=qbb t:=by
 unfold insFirst
 exact qbt (fun _=>rfl) fun _=>rfl
theorem putEnd_side (t:Tm) (r w:Int):qbb (qec t r w)=qbb t:=by
 unfold qec
 exact qbt (fun _=>rfl) fun _=>rfl
theorem qi8 (t:Tm) (r w:Int):qbb (printEnd t r w)=qbb t:=by rw[qgg,putEnd_side,qng]
theorem qnh (t:Tm) (r:Int):qbb (qdu t r)=qbb t:=by
 unfold qdu
 exact qbt (fun _=>qbt (fun _=>rfl) fun _=>(qi8 _ _ _).trans (goOn_side _)) fun _=>qi8 _ _ _
theorem print_side (t:Tm) (r:Int):qbb (qf1 t r)=qbb t:=by
 rw[qg5]
 exact qbt (fun _=>rfl) fun _=>qbt (fun _=>mark_side _ _) fun _=>(qnh _ _).trans (by unfold onFirst;exact qbt (fun _=>goOn_side _) fun _=>rfl)
theorem qid:∀ (l:List Int) (t:Tm),qbb ((l.map qbv).foldl doT t)=qbb t
 | [],_=>rfl
 | r :: l,t=>by
  rw[List.map_cons,List.foldl_cons,qid l]
  exact print_side t r
theorem part_side (t:Tm) (p:Int):qbb (qgj t p)=qbb t:=by
 unfold qgj
 exact qbt (fun _=>rfl) fun _=>qbt (fun _=>rfl) fun _=>qbt (fun _=>rfl) fun _=>rfl
theorem qie (t:Tm) (p:Int):∀ k,qbb (clearN t p k)=qbb t
 | 0=>rfl
 | k+1=>by
  unfold clearN
  exact qbt (fun _=>qie t p k) fun _=>qie t p k
theorem clearE_side (t:Tm) (d:Dn) (p:Int):qbb (clearE t d p)=qbb t:=by
 unfold clearE
 exact qbt (fun _=>rfl) fun _=>(part_side _ _).trans (qbt (fun _=>qie _ _ _) fun _=>rfl)
def d7:Dn:=dEsc 0 55
def d8:Dn:=dEsc 0 56
def dOther (c:Int):Dn:=⟨4,0,c,63,[1049],0,nilB⟩
def d2J:Dn:=⟨4,0,74,0,[2],0,nilB⟩
theorem feed_7:qaj (.to 0) [27,55]=(.to 0,[d7]):=by rfl
theorem feed_8:qaj (.to 0) [27,56]=(.to 0,[d8]):=by rfl
theorem feed_h:qaj (.to 0) [27,91,63,49,48,52,57,104]=(.to 0,[dOther 104]):=by rfl
theorem feed_l:qaj (.to 0) [27,91,50,74,27,91,63,49,48,52,57,108]=(.to 0,[d2J,dOther 108]):=by rfl
def qfu (l:List Int):Prop:=∀ r∈l,qam r=true∧(160≤r∨(32≤r∧r < 127))
def qg4 (l:List Int):List Int:=l.flatMap fun r=>qt (Utf8.encode r)
theorem feed_save {l:List Int} (h:qfu l):qaj (.to 0) ([27,55] ++ qg4 l ++ [27,56])=(.to 0,[d7] ++ l.map qbv ++ [d8]):=by
 rw[qdf,qdf,feed_7]
 simp only
 unfold qg4
 rw[qht l h]
 simp only
 rw[feed_8]
theorem feed_other {l:List Int} (h:qfu l):qaj (.to 0) ([27,91,63,49,48,52,57,104] ++ qg4 l ++ [27,91,50,74,27,91,63,49,48,52,57,108])=(.to 0,[dOther 104] ++ l.map qbv ++ [d2J,dOther 108]):=by
 rw[qdf,qdf,feed_h]
 simp only
 unfold qg4
 rw[qht l h]
 simp only
 rw[feed_l]
theorem qev {n m:Int} (h0:0≤n) (h1:n≤m):qa8 n m=n:=by
 unfold qa8
 rw[if_neg (by omega),if_neg (by omega)]
theorem side_sv {t u:Tm} (h:qbb u=qbb t):u.sv=t.sv:=congrArg Prod.fst h
theorem side_main {t u:Tm} (h:qbb u=qbb t):u.main=t.main:=congrArg (fun x=>x.2.1) h
theorem side_alt {t u:Tm} (h:qbb u=qbb t):u.alt=t.alt:=congrArg (fun x=>x.2.2.1) h
theorem side_bls {t u:Tm} (h:qbb u=qbb t) (ha:t.alt=true):u.bls=t.bls:=by
 have h1:=side_alt h
 have h2:(if u.alt=true then u.bls else [])=if t.alt=true then t.bls else []:=congrArg (fun x=>x.2.2.2) h
 rwa [h1,if_pos ha,if_pos ha] at h2
theorem saves {t : Tm} (h : RightT t) (hp : t.pa = .to 0) {l : List Int} (hl : qfu l) :
  (qe7 t ([27,55] ++ qg4 l ++ [27,56])).row=t.row∧(qe7 t ([27,55] ++ qg4 l ++ [27,56])).col=t.col∧(qe7 t ([27,55] ++ qg4 l ++ [27,56])).lk=t.lk∧(qe7 t ([27,55] ++ qg4 l ++ [27,56])).late=false∧(qe7 t ([27,55] ++ qg4 l ++ [27,56])).sv.row=t.row:=by
 have h7:=h.save
 have e:qe7 t ([27,55] ++ qg4 l ++ [27,56])=qaa (qbk ((l.map qbv).foldl doT (qf2 t))) (.to 0):=by
  rw[feed_set,hp,feed_save hl,List.foldl_append,List.foldl_append]
  rfl
 have hs:=side_sv (qid l (qf2 t))
 have hd:=dos_dim (l.map qbv) h7
 rw[e]
 generalize (l.map qbv).foldl doT (qf2 t)=u at hs hd ⊢
 have hc:u.g.cols=t.g.cols:=congrArg Prod.fst hd
 have hn:u.g.ls.length=t.g.ls.length:=congrArg (fun x=>x.2.1) hd
 have hr:(qbk u).row=qa8 u.sv.row (u.g.ls.length - 1):=rfl
 have hcl:(qbk u).col=qa8 u.sv.col (u.g.cols - 1):=rfl
 have h0:=h.row0;have h1:=h.row1;have h2:=h.col0;have h3:=h.col1
 refine⟨?_,?_,?_,rfl,?_⟩
 ·show (qbk u).row=t.row
  rw[hr,hs,hn]
  exact qev h0 (by show t.row≤(t.g.ls.length:Int) - 1;omega)
 ·show (qbk u).col=t.col
  rw[hcl,hs,hc]
  exact qev h2 (by show t.col≤t.g.cols - 1;omega)
 ·show u.sv.lk=t.lk
  rw[hs]
  rfl
 ·show u.sv.row=t.row
  rw[hs]
  rfl
theorem others {t : Tm} (h : RightT t) (hp : t.pa = .to 0) (ha : t.alt = false) {l : List Int} (hl : qfu l) (X : Tm) (hX : qe7 t ([27, 91, 63, 49, 48, 52, 57, 104] ++ qg4 l ++ [27, 91, 50, 74, 27, 91, 63, 49, 48, 52, 57, 108]) = X) :
  X.alt=false∧X.g=t.g∧X.bls=t.bls∧X.row=t.row∧X.col=t.col:=by
 obtain⟨u0,hu0⟩:∃ u0,qee t true=u0:=⟨_,rfl⟩
 have e:X=qaa (qcq (qa0 ((l.map qbv).foldl doT u0) d2J) false 1049) (.to 0):=by
  rw[← hX,feed_set,hp,feed_other hl,List.foldl_append,List.foldl_append,← hu0]
  rfl
 have hu:u0={ qf2 t with main:=t.g,g:=newG t.g.cols t.rows .no,alt:=true,late:=false }:=by
  rw[← hu0]
  unfold qee
  rw[if_pos ⟨rfl,ha⟩]
 have h1:=qid l u0
 generalize (l.map qbv).foldl doT u0=u1 at h1 e
 have e3:qa0 u1 d2J=clearE u1 d2J (qgb d2J 0 0):=by
  unfold qa0
  rw[if_neg (by decide),if_pos (by decide)]
  unfold qfd
  rw[if_neg (by decide)]
 have h2:qbb (qa0 u1 d2J)=qbb u1:=by rw[e3];exact clearE_side _ _ _
 generalize qa0 u1 d2J=u2 at h2 e
 have h3:=h2.trans h1
 have halt:u2.alt=true:=by rw[side_alt h3,hu]
 have hmain:u2.main=t.g:=by rw[side_main h3,hu]
 have hsv:u2.sv=⟨t.row,t.col,t.lk,t.og⟩:=by rw[side_sv h3,hu];rfl
 have hbls:u2.bls=t.bls:=by rw[side_bls h3 (by rw[hu]),hu];rfl
 have e2:qcq u2 false 1049=qbk { u2 with g:=u2.main,main:=⟨0,[]⟩,alt:=false }:=by
  have:qcq u2 false 1049=qee u2 false:=rfl
  rw[this]
  unfold qee
  rw[if_neg (by simp),if_pos ⟨rfl,halt⟩]
 rw[e,e2]
 have r0:=h.row0;have r1:=h.row1;have c0:=h.col0;have c1:=h.col1
 refine⟨rfl,hmain,hbls,?_,?_⟩
 ·show qa8 u2.sv.row ((u2.main.ls.length:Int) - 1)=t.row
  rw[hsv,hmain]
  exact qev r0 (by show t.row≤_;omega)
 ·show qa8 u2.sv.col (u2.main.cols - 1)=t.col
  rw[hsv,hmain]
  exact qev c0 (by show t.col≤_;omega)
theorem width_sent {r:Int} (h:0≤qk r):qam r=true∧(160≤r∨(32≤r∧r < 127)):=by
 refine⟨qbd h,?_⟩
 unfold qk at h
 split at h
 ·omega
 ·rename_i hh
  omega
theorem widths_sent {l:List Int} (h:∀ r∈l,0≤qk r):qfu l:=fun r hr=>width_sent (h r hr)
theorem first_n4 {s:ByteArray} (h:(qi s).e=0):(qi s).n.toNat≤4∧(qi s).n.toNat≤s.size:=by
 refine⟨?_,(qg1 s).2.1⟩
 rcases qby s with ⟨r,_,h1,_,_⟩ | h1
 ·rw[h1]
  show ((sizeOf r:Nat):Int).toNat≤4
  rw[Int.toNat_natCast]
  unfold sizeOf
  split
  ·omega
  ·split
   ·omega
   ·split <;> omega
 ·exfalso
  rcases h1 with ⟨h1,_⟩ | ⟨n,h1,_⟩
  ·rw[h1] at h;cases h
  ·rw[h1] at h;cases h
theorem qmh:∀ (f:Nat) (s:ByteArray) (m k:Nat),qa4 f s m=some k→s.size≤4 * f
 | 0,s,m,k,h=>by
  unfold qa4 at h
  split at h
  ·omega
  ·cases h
 | f+1,s,m,k,h=>by
  unfold qa4 at h
  split at h
  ·omega
  ·split at h
   ·rename_i he
    have h4:=first_n4 he.1
    have:=qmh f _ _ _ h
    rw[qj] at this
    omega
   ·cases h
theorem qdc {c:Ce} (h:qae c=true):c.tx.size≤12:=by
 unfold qae at h
 rw[Bool.and_eq_true] at h
 have h:=h.2
 by_cases h0:c.tx.size=0
 ·omega
 ·rw[if_neg h0,decide_eq_true_iff] at h
  have h1:=h.1
  unfold qa7 at h1
  split at h1
  ·rename_i he
   have h4:=first_n4 he.1
   split at h1
   ·rename_i k hk
    have:=qmh _ _ _ _ hk
    rw[qj] at this
    omega
   ·simp at h1
  ·simp at h1
theorem rg_size {g:Gd} (h:qo g=true):∀ l∈g.ls,l.cs.length≤80∧∀ c∈l.cs,c.tx.size≤12:=fun l hl=>by
 have hf:=fits_iff.1 (rg_at h hl)
 have hb:=qd h
 exact⟨by omega,fun c hc=>qdc (rights_iff.1 hf.2.1 c hc)⟩
theorem rg_sm {g:Gd} (h:qo g=true) {lv:List (Ln×Value)} (hm:lv.map Prod.fst=g.ls):Sm lv:=by
 have hb:=qd h
 have hl:lv.length=g.ls.length:=by rw[← hm,List.length_map]
 refine⟨by omega,fun e he=>?_⟩
 obtain⟨h1,h2⟩:=rg_size h e.1 (by rw[← hm];exact List.mem_map.2 ⟨e,he,rfl⟩)
 exact⟨by omega,fun c hc=>by have:=h2 c hc;omega⟩
theorem qjw {cols:Int} {lv:List (Ln×Value)}:qbj cols lv=qo ⟨cols,lv.map Prod.fst⟩:=by
 unfold qbj qo qbo qen
 rw[Bool.and_assoc]
 congr 2
 ·rw[List.length_map]
  congr 1
  simp only[eq_iff_iff]
  omega
 ·rw[List.all_map]
  rfl
def Tm.cells (t:Tm) (vg vm vp vb:Value):Array Value:=#[.int .i64 t.g.cols,vg,.bool t.alt,.int .i64 t.main.cols,vm,.int .i64 t.row,.int .i64 t.col,.bool t.late,.int .i64 t.lk.fg,.int .i64 t.lk.bg,.int .i64 t.lk.fl,.int .i64 t.top,.int .i64 t.bot,.int .i64 t.sv.row,.int .i64 t.sv.col,.int .i64 t.sv.lk.fg,.int .i64 t.sv.lk.bg,.int .i64 t.sv.lk.fl,.bool t.sv.og,.bool t.og,.bool t.wr,.bool t.ins,.bool t.hd,.int .i64 t.pa.st,.int .i64 t.pa.priv,vp,.int .i64 t.pa.inter,.string t.pa.osc,.string t.pa.pend,.int .i64 t.bmax,vb,.string t.title]
structure TmIn (W:World) (t:Tm) (vg vm vp vb:Value) (lg lm lb:List (Ln×Value)):Prop where
 g:LR W vg lg
 gc:CesOf W lg
 gm:lg.map Prod.fst=t.g.ls
 m:LR W vm lm
 mc:CesOf W lm
 mm:lm.map Prod.fst=t.main.ls
 b:LR W vb lb
 bc:CesOf W lb
 bm:lb.map Prod.fst=t.bls
 p:IRow W vp t.pa.params
theorem TmIn.below {W W':World} {t:Tm} {vg vm vp vb:Value} {lg lm lb:List (Ln×Value)} (h:TmIn W t vg vm vp vb lg lm lb) (hb:Below W.heap.size W W'):TmIn W' t vg vm vp vb lg lm lb :=
 ⟨h.g.below hb,h.gc.below hb,h.gm,h.m.below hb,h.mc.below hb,h.mm,h.b.below hb,h.bc.below hb,h.bm,h.p.below hb⟩
theorem keptB_G (lv:List (Ln×Value)):qdp lv=qhz (lv.map Prod.fst):=by
 unfold qdp qhz
 rw[List.all_map]
 rfl
theorem backB_G (mx:Int) (lv:List (Ln×Value)):qdt mx lv=qep mx (lv.map Prod.fst):=by
 unfold qdt qep
 rw[keptB_G,List.length_map]
set_option maxHeartbeats 4000000
set_option maxRecDepth 100000
def qce (t:Tm) (n:Nat):Bool:=!(decide (t.row < 0)) && (!(decide ((n:Int)≤t.row)) && (!(decide (t.col < 0)) && (!(decide (t.g.cols≤t.col)) && (!t.late || (t.wr && decide (t.col=t.g.cols - 1))))))
def qbz (t:Tm) (n:Nat):Bool:=if n=1 then decide (t.top=0) && decide (t.bot=0) else decide (0≤t.top) && (decide (t.top < t.bot) && decide (t.bot < (n:Int)))
def qd0 (s:Sv):Bool:=decide (0≤s.row) && (decide (s.row≤79) && (decide (0≤s.col) && (decide (s.col≤79) && qad s.lk)))
theorem tm_place (t : Tm) (A : Option Addr) (n c : Nat) (vm vp vb : Value) (W : World) (h1 : 1 ≤ t.g.cols ∧ t.g.cols ≤ 80) (h2 : n ≤ 50) :
  Calls Tryz.prog 42 #[.agg (t.cells (.slice A n c) vm vp vb)] W fun e w'=>e=.returned (.bool (qce t n))∧Below W.heap.size W w':=by
 unfold Tm.cells
 have hn:(n:Int)≤50:=by omega
 by_cases c1:t.row < 0
 ·have dc1:decide (t.row < 0)=true:=decide_eq_true c1
  have HE:Hid (qce t n=false):=by unfold Hid qce;simp[dc1]
  go_enter Tryz.func42,Tryz.ntmps42
  go_wp2
  go_ret
  exact⟨qe HE.out.symm,qa _ _⟩
 ·have dc1:decide (t.row < 0)=false:=decide_eq_false c1
  by_cases c2:(n:Int)≤t.row
  ·have dc2:decide ((n:Int)≤t.row)=true:=decide_eq_true c2
   have HE:Hid (qce t n=false):=by unfold Hid qce;simp[dc1,dc2]
   go_enter Tryz.func42,Tryz.ntmps42
   go_wp2
   go_ret
   exact⟨qe HE.out.symm,qa _ _⟩
  ·have dc2:decide ((n:Int)≤t.row)=false:=decide_eq_false c2
   by_cases c3:t.col < 0
   ·have dc3:decide (t.col < 0)=true:=decide_eq_true c3
    have HE:Hid (qce t n=false):=by unfold Hid qce;simp[dc1,dc2,dc3]
    go_enter Tryz.func42,Tryz.ntmps42
    go_wp2
    go_ret
    exact⟨qe HE.out.symm,qa _ _⟩
   ·have dc3:decide (t.col < 0)=false:=decide_eq_false c3
    by_cases c4:t.g.cols≤t.col
    ·have dc4:decide (t.g.cols≤t.col)=true:=decide_eq_true c4
     have HE:Hid (qce t n=false):=by unfold Hid qce;simp[dc1,dc2,dc3,dc4]
     go_enter Tryz.func42,Tryz.ntmps42
     go_wp2
     go_ret
     exact⟨qe HE.out.symm,qa _ _⟩
    ·have dc4:decide (t.g.cols≤t.col)=false:=decide_eq_false c4
     cases hl:t.late
     ·have HE:Hid (qce t n=true):=by unfold Hid qce;simp[dc1,dc2,dc3,dc4,hl]
      go_enter Tryz.func42,Tryz.ntmps42
      go_wp2
      go_ret
      exact⟨qe HE.out.symm,qa _ _⟩
     ·cases hw:t.wr
      ·have HE:Hid (qce t n=false):=by unfold Hid qce;simp[dc1,dc2,dc3,dc4,hl,hw]
       go_enter Tryz.func42,Tryz.ntmps42
       go_wp2
       go_ret
       exact⟨qe HE.out.symm,qa _ _⟩
      ·by_cases c9:t.col=t.g.cols - 1
       ·have d9:decide (t.col=t.g.cols - 1)=true:=decide_eq_true c9
        have e9:(t.col == t.g.cols - 1)=true:=by simp[c9]
        have HE:Hid (qce t n=true):=by unfold Hid qce;simp[dc1,dc2,hl,hw,c9] <;> omega
        go_enter Tryz.func42,Tryz.ntmps42
        go_wp2
        go_ret
        exact⟨qe HE.out.symm,qa _ _⟩
       ·have d9:decide (t.col=t.g.cols - 1)=false:=decide_eq_false c9
        have e9:(t.col == t.g.cols - 1)=false:=by simp[c9]
        have HE:Hid (qce t n=false):=by unfold Hid qce;simp[dc1,dc2,dc3,dc4,hl,hw,c9]
        go_enter Tryz.func42,Tryz.ntmps42
        go_wp2
        go_ret
        exact⟨qe HE.out.symm,qa _ _⟩
theorem tm_region (t : Tm) (A : Option Addr) (n c : Nat) (vm vp vb : Value) (W : World) :
  Calls Tryz.prog 43 #[.agg (t.cells (.slice A n c) vm vp vb)] W fun e w'=>e=.returned (.bool (qbz t n))∧Below W.heap.size W w':=by
 unfold Tm.cells
 by_cases c1:n=1
 ·have d1:((n:Int) == 1)=true:=by simp[c1]
  have d1b:(n:Int)=1:=by omega
  by_cases c2:t.top=0
  ·have dc2:decide (t.top=0)=true:=decide_eq_true c2
   have ec20:(t.top == (0:Int))=true:=by simp[c2]
   by_cases c3:t.bot=0
   ·have dc3:decide (t.bot=0)=true:=decide_eq_true c3
    have ec30:(t.bot == (0:Int))=true:=by simp[c3]
    have HE:Hid (qbz t n=true):=by unfold Hid qbz;simp[c1,dc2,dc3]
    go_enter Tryz.func43,Tryz.ntmps43
    go_wp2
    go_ret
    exact⟨qe HE.out.symm,qa _ _⟩
   ·have dc3:decide (t.bot=0)=false:=decide_eq_false c3
    have ec30:(t.bot == (0:Int))=false:=by simp[c3]
    have HE:Hid (qbz t n=false):=by unfold Hid qbz;simp[c1,dc2,dc3]
    go_enter Tryz.func43,Tryz.ntmps43
    go_wp2
    go_ret
    exact⟨qe HE.out.symm,qa _ _⟩
  ·have dc2:decide (t.top=0)=false:=decide_eq_false c2
   have ec20:(t.top == (0:Int))=false:=by simp[c2]
   have HE:Hid (qbz t n=false):=by unfold Hid qbz;simp[c1,dc2]
   go_enter Tryz.func43,Tryz.ntmps43
   go_wp2
   go_ret
   exact⟨qe HE.out.symm,qa _ _⟩
 ·have d1:((n:Int) == 1)=false:=by simp;omega
  have d1b:¬ (n:Int)=1:=by omega
  by_cases c2:0≤t.top
  ·have dc2:decide (0≤t.top)=true:=decide_eq_true c2
   by_cases c3:t.top < t.bot
   ·have dc3:decide (t.top < t.bot)=true:=decide_eq_true c3
    by_cases c4:t.bot < (n:Int)
    ·have dc4:decide (t.bot < (n:Int))=true:=decide_eq_true c4
     have HE:Hid (qbz t n=true):=by unfold Hid qbz;simp[c1,dc2,dc3,dc4]
     go_enter Tryz.func43,Tryz.ntmps43
     go_wp2
     go_ret
     exact⟨qe HE.out.symm,qa _ _⟩
    ·have dc4:decide (t.bot < (n:Int))=false:=decide_eq_false c4
     have HE:Hid (qbz t n=false):=by unfold Hid qbz;simp[c1,dc2,dc3,dc4]
     go_enter Tryz.func43,Tryz.ntmps43
     go_wp2
     go_ret
     exact⟨qe HE.out.symm,qa _ _⟩
   ·have dc3:decide (t.top < t.bot)=false:=decide_eq_false c3
    have HE:Hid (qbz t n=false):=by unfold Hid qbz;simp[c1,dc2,dc3]
    go_enter Tryz.func43,Tryz.ntmps43
    go_wp2
    go_ret
    exact⟨qe HE.out.symm,qa _ _⟩
  ·have dc2:decide (0≤t.top)=false:=decide_eq_false c2
   have HE:Hid (qbz t n=false):=by unfold Hid qbz;simp[c1,dc2]
   go_enter Tryz.func43,Tryz.ntmps43
   go_wp2
   go_ret
   exact⟨qe HE.out.symm,qa _ _⟩
theorem tm_saved (s : Sv) (W : World) :
  Calls Tryz.prog 44 #[.agg #[.int .i64 s.row,.int .i64 s.col,.int .i64 s.lk.fg,.int .i64 s.lk.bg,.int .i64 s.lk.fl,.bool s.og]] W fun e w'=>e=.returned (.bool (qd0 s))∧Below W.heap.size W w':=by
 have HB:=hid (qa W (.cells #[.int .i64 s.row,.int .i64 s.col,.int .i64 s.lk.fg,.int .i64 s.lk.bg,.int .i64 s.lk.fl,.bool s.og] 28))
 have HL:=hid (fun W'=>show Calls Tryz.prog 45 #[.agg #[.int .i64 s.lk.fg,.int .i64 s.lk.bg,.int .i64 s.lk.fl]] W' _ from qc1 s.lk W')
 by_cases c1:0≤s.row
 ·have dc1:decide (0≤s.row)=true:=decide_eq_true c1
  by_cases c2:s.row≤79
  ·have dc2:decide (s.row≤79)=true:=decide_eq_true c2
   by_cases c3:0≤s.col
   ·have dc3:decide (0≤s.col)=true:=decide_eq_true c3
    by_cases c4:s.col≤79
    ·have dc4:decide (s.col≤79)=true:=decide_eq_true c4
     have HE:Hid (qd0 s=qad s.lk):=by unfold Hid qd0;simp[dc1,dc2,dc3,dc4]
     go_enter Tryz.func44,Tryz.ntmps44
     go_wp2_with ((with_reducible refine(HL.out _).mono ?_);rintro e w2 ⟨rfl,hb2⟩)
     go_ret
     exact⟨qe HE.out.symm,HB.out.trans (hb2.mono HB.out.size)⟩
    ·have dc4:decide (s.col≤79)=false:=decide_eq_false c4
     have HE:Hid (qd0 s=false):=by unfold Hid qd0;simp[dc1,dc2,dc3,dc4]
     go_enter Tryz.func44,Tryz.ntmps44
     go_wp2
     go_ret
     exact⟨qe HE.out.symm,qa _ _⟩
   ·have dc3:decide (0≤s.col)=false:=decide_eq_false c3
    have HE:Hid (qd0 s=false):=by unfold Hid qd0;simp[dc1,dc2,dc3]
    go_enter Tryz.func44,Tryz.ntmps44
    go_wp2
    go_ret
    exact⟨qe HE.out.symm,qa _ _⟩
  ·have dc2:decide (s.row≤79)=false:=decide_eq_false c2
   have HE:Hid (qd0 s=false):=by unfold Hid qd0;simp[dc1,dc2]
   go_enter Tryz.func44,Tryz.ntmps44
   go_wp2
   go_ret
   exact⟨qe HE.out.symm,qa _ _⟩
 ·have dc1:decide (0≤s.row)=false:=decide_eq_false c1
  have HE:Hid (qd0 s=false):=by unfold Hid qd0;simp[dc1]
  go_enter Tryz.func44,Tryz.ntmps44
  go_wp2
  go_ret
  exact⟨qe HE.out.symm,qa _ _⟩
end Go.Proofs.YtpdaekmbpafenaaGreatDoor
