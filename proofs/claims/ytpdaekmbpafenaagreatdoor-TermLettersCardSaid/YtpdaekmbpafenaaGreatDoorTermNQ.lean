
import Derived.Test.YtpdaekmbpafenaaGreatDoorGridUpQ
import Derived.Test.YtpdaekmbpafenaaGreatDoorGridRmQ
import Derived.Test.YtpdaekmbpafenaaGreatDoorGridMnQ
import Derived.Test.YtpdaekmbpafenaaGreatDoorGridRbQ
import Derived.Test.YtpdaekmbpafenaaGreatDoorBackPQ
import Derived.Test.YtpdaekmbpafenaaGreatDoorUtfCQ
import Derived.Test.YtpdaekmbpafenaaGreatDoorParseTQ
namespace Go.Proofs.YtpdaekmbpafenaaGreatDoor
open Go.RowKit
theorem qji {α:Type} {l:List α} {i:Nat} {a x:α} (h:x∈l.set i a):x∈l∨x=a:=List.mem_or_eq_of_mem_set h
theorem putL_mem {l:List Ce} {q:Nat} {c x:Ce} (h:x∈qga l q c):x∈l∨x=c∨x=rhC c.at:=by
 unfold qga at h
 split at h
 ·rcases qji h with h | h
  ·rcases qji h with h | h
   ·exact .inl h
   ·exact .inr (.inl h)
  ·exact .inr (.inr h)
 ·rcases qji h with h | h
  ·exact .inl h
  ·exact .inr (.inl h)
theorem qi4 {l:List Ce} {o n:Nat} {a:At} {x:Ce} (h:x∈qa2 l o n a):x∈l∨x=qd0 a:=by
 unfold qa2 at h
 rw[List.mem_append,List.mem_append] at h
 rcases h with h | h | h
 ·exact .inl (List.mem_of_mem_take h)
 ·exact .inr (List.eq_of_mem_replicate h)
 ·exact .inl (List.mem_of_mem_drop h)
theorem qi5:∀ (m l:List Ce) (k:Nat) {x:Ce},x∈putAll l k m→x∈l∨x∈m
 | [],_,_,_,h=>.inl h
 | e :: m,l,k,x,h=>by
  rcases qi5 m _ _ h with h | h
  ·rcases qji h with h | h
   ·exact .inl h
   ·exact .inr (by rw[h];exact List.mem_cons_self)
  ·exact .inr (List.mem_cons_of_mem _ h)
theorem insL_mem {l:List Ce} {k n:Nat} {a:At} {x:Ce} (h:x∈qgc l k n a):x∈l∨x=qd0 a:=by
 unfold qgc at h
 rcases qi4 h with h | h
 ·rcases qi5 _ _ _ h with h | h
  ·exact .inl h
  ·exact .inl (List.mem_of_mem_drop (List.mem_of_mem_take h))
 ·exact .inr h
theorem delL_mem {l:List Ce} {k n:Nat} {a:At} {x:Ce} (h:x∈qfw l k n a):x∈l∨x=qd0 a:=by
 unfold qfw at h
 rcases qi4 h with h | h
 ·rcases qi5 _ _ _ h with h | h
  ·exact .inl h
  ·exact .inl (List.mem_of_mem_drop (List.mem_of_mem_take h))
 ·exact .inr h
theorem scr_len {ls:List Ln} {f m i cols:Nat} {a:At} (h:f+m≤ls.length):(scrL ls f m i cols a).length=ls.length:=by
 unfold scrL
 simp only[List.length_append,List.length_take,List.length_drop,List.length_replicate]
 omega
theorem scr_mem {ls:List Ln} {f m i cols:Nat} {a:At} {x:Ln} (h:x∈scrL ls f m i cols a):x∈ls∨x=qbe cols a:=by
 unfold scrL at h
 have hl:∀ y∈ls.take f ++ ls.drop (f+m),y∈ls:=fun y hy=>(List.mem_append.1 hy).elim List.mem_of_mem_take List.mem_of_mem_drop
 rw[List.mem_append,List.mem_append] at h
 rcases h with (h | h) | h
 ·exact .inl (hl x (List.mem_of_mem_take h))
 ·exact .inr (List.eq_of_mem_replicate h)
 ·exact .inl (hl x (List.mem_of_mem_drop h))
structure Sv where
  row:Int
  col:Int
  lk:At
  og:Bool
structure Tm where
  g:Gd
  alt:Bool
  main:Gd
  row:Int
  col:Int
  late:Bool
  lk:At
  top:Int
  bot:Int
  sv:Sv
  og:Bool
  wr:Bool
  ins:Bool
  hd:Bool
  pa:Pa
  bmax:Int
  bls:List Ln
  title:ByteArray
def At.no:At:=⟨0,0,0⟩
def Pa.no:Pa:=⟨0,0,[],0,⟨#[]⟩,⟨#[]⟩⟩
def Tm.rows (t:Tm):Int:=t.g.ls.length
def Tm.last (t:Tm):Int:=t.g.cols - 1
def qgg (ls:List Ln):Bool:=ls.all fun l=>decide (1≤(l.cs.length:Int)∧(l.cs.length:Int)≤80) && qbv l.cs.length l.cs
def qdu (mx:Int) (ls:List Ln):Bool:=decide (0≤mx∧mx≤40) && (decide ((ls.length:Int)≤mx) && qgg ls)
def rightT (t:Tm):Bool :=
  qm t.g && decide (0≤t.row∧t.row < t.rows) && decide (0≤t.col∧t.col < t.g.cols) && (!t.late || (t.wr && decide (t.col=t.last))) &&
  (if t.alt=true then qm t.main && decide (t.main.cols=t.g.cols) && decide (t.main.ls.length=t.g.ls.length) else decide (t.main.cols=0) && t.main.ls.isEmpty) &&
  decide (0≤t.top∧t.bot < t.rows) && decide (t.top < t.bot∨(t.rows=1∧t.top=0∧t.bot=0)) &&
  decide (0≤t.sv.row∧t.sv.row≤79) && decide (0≤t.sv.col∧t.sv.col≤79) && qab t.sv.lk && qab t.lk && qap t.pa && qdu t.bmax t.bls && qce t.title && decide (t.title.size≤32)
def qf8 (cols rows:Int) (a:At):Gd:=⟨cols,List.replicate rows.toNat (qbe cols.toNat a)⟩
def newT (cols rows keep:Int):Tm:=⟨qf8 cols rows .no,false,⟨0,[]⟩,0,0,false,.no,0,rows - 1,⟨0,0,.no,false⟩,false,true,false,false,.no,keep,[],⟨#[]⟩⟩
def qbg (n m:Int):Int:=if n < 0 then 0 else if m < n then m else n
def qe4 (a b:Int):Int:=if b < a then b else a
def qas (t:Tm) (row col:Int):Tm:={ t with late:=false,row:=qbg row (t.rows - 1),col:=qbg col t.last }
def upM (t:Tm) (top n:Int) (kept:Bool):Tm :=
  { t with g := ⟨t.g.cols, upT t.g.ls t.g.cols top t.bot n t.lk⟩,
           bls:=if (kept && !t.alt && decide (top=0))=true then qah t.bmax.toNat (t.bls ++ (t.g.ls.drop top.toNat).take (qgh top t.bot n)) else t.bls }
def qhn (t:Tm) (top n:Int):Tm:={ t with g:=⟨t.g.cols,qjj t.g.ls t.g.cols top t.bot n t.lk⟩ }
def goDown (t:Tm):Tm :=
  if t.row=t.bot then upM { t with late:=false } t.top 1 true else if t.row < t.rows - 1 then { t with late:=false,row:=t.row+1 } else { t with late:=false }
def goUp (t:Tm):Tm :=
  if t.row=t.top then qhn { t with late:=false } t.top 1 else if 0 < t.row then { t with late:=false,row:=t.row - 1 } else { t with late:=false }
def cellAt (t:Tm) (col:Int):Ce:=((qo t.g.ls t.row).cs[col.toNat]?).getD Ce.zero
def qc3 (t:Tm) (col:Int) (c:Ce):Tm:={ t with g:=⟨t.g.cols,putT t.g.ls t.row col c⟩ }
def qho (t:Tm):Int:=if t.late=true then t.col else t.col - 1
def qka (t:Tm):Int:=if (cellAt t (qho t)).wd=0 then qho t - 1 else qho t
def qav (c:Ce) (r:Int):Ce:=⟨c.tx ++ Utf8.encode r,c.wd,c.fg,c.bg,c.fl⟩
def qhp (t:Tm) (r:Int):Tm :=
  if qho t < 0 then t
  else if (cellAt t (qka t)).tx.size≠0∧qq (qav (cellAt t (qka t)) r)=true then qc3 t (qka t) (qav (cellAt t (qka t)) r) else t
def goOn (t:Tm):Tm:={ goDown { t with g:=⟨t.g.cols,qci t.g.ls t.row true⟩ } with col:=0 }
def printEnd (t:Tm) (r:Int) (w:Int):Tm :=
  let u:=if t.ins=true then { t with g:=⟨t.g.cols,qbr t.g.ls t.row t.col w t.lk⟩ } else t
  let v:=qc3 u u.col ⟨Utf8.encode r,w,u.lk.fg,u.lk.bg,u.lk.fl⟩
  if v.last < v.col+w then { v with col:=v.last,late:=v.wr } else { v with col:=v.col+w }
def qfj (t:Tm) (r:Int):Tm :=
  if qg r < 0 then t
  else if qg r=0 then qhp t r
  else
    let u:=if t.late=true then goOn t else t
    if qg r=2∧u.col=u.last then (if u.g.cols=1∨u.wr=false then u else printEnd (goOn u) r 2) else printEnd u r (qg r)
def qhq (t:Tm) (c:Int):Tm :=
  if c=8 then qas t t.row (t.col - 1) else if c=9 then qas t t.row (8 * (t.col / 8)+8) else if c=10∨c=11∨c=12 then goDown t else if c=13 then qas t t.row 0 else t
def qhr (t:Tm):Tm:={ t with sv:=⟨t.row,t.col,t.lk,t.og⟩ }
def qco (t:Tm):Tm:=qas { t with lk:=t.sv.lk,og:=t.sv.og } t.sv.row t.sv.col
def qis (t:Tm):Tm:=if t.og=true then qas t t.top 0 else qas t 0 0
def escT (t:Tm) (d:Dn):Tm :=
  if d.inter≠0 then t
  else if d.code=55 then qhr t else if d.code=56 then qco t else if d.code=68 then goDown t else if d.code=69 then { goDown t with col:=0 } else if d.code=77 then goUp t
  else if d.code=99 then { newT t.g.cols t.rows t.bmax with bls:=t.bls,pa:=t.pa } else t
def qf9 (d:Dn) (i:Nat) (some_:Int):Int:=match d.params[i]? with | some n=>if 0 < n then n else some_ | none=>some_
def rowT (t:Tm) (n:Int):Int:=if t.og=true then qe4 t.bot (t.top+n - 1) else n - 1
def qdk (t:Tm) (d:Dn):Tm :=
  let n:=qf9 d 0 1
  let col:=if d.code=69∨d.code=70 then 0 else t.col
  if d.code=65∨d.code=70 then qas t (if t.top≤t.row∧t.row - n < t.top then t.top else t.row - n) col
  else if d.code=66∨d.code=69 then qas t (if t.row≤t.bot∧t.bot < t.row+n then t.bot else t.row+n) col
  else if d.code=67 then qas t t.row (t.col+n)
  else if d.code=68 then qas t t.row (t.col - n)
  else if d.code=71 then qas t t.row (n - 1)
  else if d.code=100 then qas t (rowT t n) t.col
  else qas t (rowT t n) (qf9 d 1 1 - 1)
def qdl (t:Tm) (row fr tt:Int):Tm:={ t with g:=⟨t.g.cols,qe0 t.g.ls row fr tt t.lk⟩ }
def hardM (t:Tm) (row:Int):Tm:={ t with g:=⟨t.g.cols,qci t.g.ls row false⟩ }
def qit (t:Tm) (p:Int):Tm :=
  if p=0 then hardM (qdl t t.row t.col t.g.cols) t.row else if p=2 then hardM (qdl t t.row 0 t.g.cols) t.row
  else if t.col=t.last then hardM (qdl t t.row 0 (t.col+1)) t.row else qdl t t.row 0 (t.col+1)
def clearN (t:Tm) (p:Int):Nat→Tm
  | 0=>t
  | k+1=>if (p=2∧t.row≠k)∨(p=0∧t.row < k)∨(p=1∧(k:Int) < t.row) then hardM (qdl (clearN t p k) k 0 t.g.cols) k else clearN t p k
def clearE (u:Tm) (d:Dn) (p:Int):Tm:=if 2 < p then u else qit (if d.code=74 then clearN { u with late:=false } p u.g.ls.length else { u with late:=false }) p
def qgy (t:Tm) (d:Dn):Tm:=if d.code=74∧qf9 d 0 0=3 then clearE { t with bls:=[] } d (qf9 d 0 0) else clearE t d (qf9 d 0 0)
def qgz (t:Tm) (d:Dn):Tm :=
  let n:=qf9 d 0 1
  let u:={ t with late:=false }
  if d.code=88 then qdl u u.row u.col (qe4 u.g.cols (u.col+n))
  else if d.code=64 then { u with g:=⟨u.g.cols,qbr u.g.ls u.row u.col n u.lk⟩ } else { u with g:=⟨u.g.cols,qd6 u.g.ls u.row u.col n u.lk⟩ }
def qez (t:Tm) (d:Dn):Tm :=
  let n:=qf9 d 0 1
  if d.code=83 then upM t t.top n true else if d.code=84 then qhn t t.top n
  else if ¬ (t.top≤t.row∧t.row≤t.bot) then t
  else if d.code=76 then qas (qhn t t.row n) t.row 0 else qas (upM t t.row n false) t.row 0
def qg0 (t:Tm) (d:Dn):Tm :=
  let top:=qf9 d 0 1 - 1
  let bot:=qe4 t.rows (qf9 d 1 t.rows) - 1
  if bot≤top then t else qis { t with top:=top,bot:=bot }
def insMode (t:Tm) (on:Bool):List Int→Tm
  | []=>t
  | n :: l=>insMode (if n=4 then { t with ins:=on } else t) on l
def qa4 (t:Tm) (d:Dn):Tm :=
  if d.code=65∨d.code=66∨d.code=67∨d.code=68∨d.code=69∨d.code=70∨d.code=71∨d.code=100∨d.code=72∨d.code=102 then qdk t d
  else if d.code=74∨d.code=75 then qgy t d
  else if d.code=88∨d.code=64∨d.code=80 then qgz t d
  else if d.code=76∨d.code=77∨d.code=83∨d.code=84 then qez t d
  else if d.code=109 then { t with lk:=qe6 t.lk d.params }
  else if d.code=114 then qg0 t d
  else if d.code=115 then qhr t
  else if d.code=117 then qco t
  else if d.code=104∨d.code=108 then insMode t (decide (d.code=104)) d.params
  else t
def qhs (t:Tm) (on:Bool):Tm :=
  if on=true∧t.alt=false then { qhr t with main:=t.g,g:=qf8 t.g.cols t.rows .no,alt:=true,late:=false }
  else if on=false∧t.alt=true then qco { t with g:=t.main,main:=⟨0,[]⟩,alt:=false }
  else t
def qdv (t:Tm) (on:Bool) (n:Int):Tm :=
  if n=6 then qis { t with og:=on }
  else if n=7 then { t with wr:=on,late:=t.late && on }
  else if n=25 then { t with hd:=!on }
  else if n=47∨n=1047∨n=1049 then qhs t on
  else t
def oscT (t:Tm) (s:ByteArray):Tm :=
  if 2≤s.size∧s.size≤34∧(qb s 0=48∨qb s 0=50)∧qb s 1=59∧qce (s.extract 2 s.size)=true then { t with title:=s.extract 2 s.size } else t
def doT (t:Tm) (d:Dn):Tm :=
  if d.kind=1 then qfj t d.rune
  else if d.kind=2 then qhq t d.code
  else if d.kind=3 then escT t d
  else if d.kind=5 then oscT t d.text
  else if d.inter≠0 then t
  else if d.priv=0 then qa4 t d
  else if d.priv=63∧(d.code=104∨d.code=108) then d.params.foldl (fun t n=>qdv t (decide (d.code=104)) n) t
  else t
def qiu (t:Tm) (s:List Int):Tm:=(qa1 t.pa s).2.foldl doT { t with pa:=(qa1 t.pa s).1 }
structure RightT (t:Tm):Prop where
  g:qm t.g=true
  row0:0≤t.row
  row1:t.row < t.g.ls.length
  col0:0≤t.col
  col1:t.col < t.g.cols
  late:t.late=true→t.wr=true∧t.col=t.g.cols - 1
  main1:t.alt=true→qm t.main=true∧t.main.cols=t.g.cols∧t.main.ls.length=t.g.ls.length
  main0:t.alt=false→t.main=⟨0,[]⟩
  top0:0≤t.top
  bot1:t.bot < t.g.ls.length
  tb:t.top < t.bot∨(t.g.ls.length=1∧t.top=0∧t.bot=0)
  svr:0≤t.sv.row∧t.sv.row≤79
  svc:0≤t.sv.col∧t.sv.col≤79
  svl:qab t.sv.lk=true
  lk:qab t.lk=true
  pa:qap t.pa=true
  bk:qdu t.bmax t.bls=true
  ti:qce t.title=true∧t.title.size≤32
theorem rightT_iff {t:Tm}:rightT t=true↔RightT t:=by
  unfold rightT Tm.rows Tm.last
  simp only[Bool.and_eq_true,decide_eq_true_eq,Bool.or_eq_true,Bool.not_eq_true']
  constructor
  · rintro⟨⟨⟨⟨⟨⟨⟨⟨⟨⟨⟨⟨⟨⟨h1,h2⟩,h3⟩,h4⟩,h5⟩,h6⟩,h7⟩,h8⟩,h9⟩,h10⟩,h11⟩,h12⟩,h13⟩,h14⟩,h15⟩
    refine⟨h1,h2.1,h2.2,h3.1,h3.2,fun hl=>?_,fun ha=>?_,fun ha=>?_,h6.1,h6.2,?_,h8,h9,h10,h11,h12,h13,h14,h15⟩
    · rcases h4 with h | h
      · rw[h] at hl;cases hl
      · exact h
    · rw[if_pos ha] at h5
      simp only[Bool.and_eq_true,decide_eq_true_eq] at h5
      exact⟨h5.1.1,h5.1.2,h5.2⟩
    · rw[if_neg (by rw[ha];decide)] at h5
      simp only[Bool.and_eq_true,decide_eq_true_eq,List.isEmpty_iff] at h5
      cases hm:t.main with
      | mk c l=>rw[hm] at h5;simp only at h5;rw[h5.1,h5.2]
    · rcases h7 with h | h
      · exact .inl h
      · exact .inr ⟨by omega,h.2⟩
  · intro h
    refine⟨⟨⟨⟨⟨⟨⟨⟨⟨⟨⟨⟨⟨⟨h.g,h.row0,h.row1⟩,h.col0,h.col1⟩,?_⟩,?_⟩,h.top0,h.bot1⟩,?_⟩,h.svr⟩,h.svc⟩,h.svl⟩,h.lk⟩,h.pa⟩,h.bk⟩,h.ti.1⟩,h.ti.2⟩
    · cases hl:t.late
      · exact .inl rfl
      · exact .inr (h.late hl)
    · cases ha:t.alt
      · rw[if_neg (by decide),h.main0 ha];rfl
      · rw[if_pos rfl]
        simp only[Bool.and_eq_true,decide_eq_true_eq]
        obtain⟨p,q,r⟩:=h.main1 ha
        exact⟨⟨p,q⟩,r⟩
    · rcases h.tb with h' | h'
      · exact .inl h'
      · exact .inr ⟨by omega,h'.2⟩
theorem qd {g:Gd} (h:qm g=true):1≤g.cols∧g.cols≤80∧1≤g.ls.length∧g.ls.length≤50:=by
  obtain⟨h1,h2,_⟩:=rightG_iff.1 h
  exact⟨h1.1,h1.2,h2.1,h2.2⟩
theorem rg_at {g:Gd} (h:qm g=true) {l:Ln} (hl:l∈g.ls):qbv g.cols l.cs=true:=(rightG_iff.1 h).2.2 l hl
theorem rg_set {g:Gd} (h:qm g=true) (r:Nat) {l:Ln} (hf:qbv g.cols l.cs=true):qm ⟨g.cols,g.ls.set r l⟩=true:=by
  obtain⟨h1,h2,h3⟩:=rightG_iff.1 h
  refine rightG_iff.2 ⟨h1,by rw[List.length_set];exact h2,fun x hx=>?_⟩
  rcases qji hx with hx | rfl
  · exact h3 x hx
  · exact hf
theorem qeh {g:Gd} (h:qm g=true) {row:Int} (h0:0≤row) (h1:row < g.ls.length):qo g.ls row∈g.ls∧qbv g.cols (qo g.ls row).cs=true:=by
  have hx:g.ls[row.toNat]?=some g.ls[row.toNat]:=List.getElem?_eq_getElem (by omega)
  have e:qo g.ls row=g.ls[row.toNat]:=by unfold qo;rw[hx];rfl
  rw[e]
  exact⟨List.getElem_mem _,rg_at h (List.getElem_mem _)⟩
theorem qld {g:Gd} (h:qm g=true) {row:Int} (h0:0≤row) (h1:row < g.ls.length) {X:List Ce} {s:Bool} (hX:X.length=(qo g.ls row).cs.length) (hr:∀ c∈X,qq c=true):qm ⟨g.cols,g.ls.set row.toNat ⟨qac 1 X,s⟩⟩=true:=by
  have hf:=(qeh h h0 h1).2
  have hl:=(fits_iff.1 hf).1
  refine rg_set h _ ?_
  have:=fits_mend (l:=X) (rights_iff.2 hr)
  rwa [hX,hl] at this
theorem qb4 {g:Gd} (h:qm g=true) {row:Int} (h0:0≤row) (h1:row < g.ls.length):∀ c∈(qo g.ls row).cs,qq c=true:=rights_iff.1 (fits_iff.1 (qeh h h0 h1).2).2.1
theorem qfi {g:Gd} (h:qm g=true) {row:Int} (h0:0≤row) (h1:row < g.ls.length):((qo g.ls row).cs.length:Int)=g.cols:=(fits_iff.1 (qeh h h0 h1).2).1
theorem rg_put {g:Gd} (h:qm g=true) {row:Int} (h0:0≤row) (h1:row < g.ls.length) (col:Int) {c:Ce} (hc:qq c=true):qm ⟨g.cols,putT g.ls row col c⟩=true:=by
  unfold putT
  refine qld h h0 h1 (qhu _ _ _) fun x hx=>?_
  rcases putL_mem hx with hx | rfl | rfl
  · exact qb4 h h0 h1 x hx
  · exact hc
  · exact right_rh (ql0 hc)
theorem rg_soft {g:Gd} (h:qm g=true) {row:Int} (h0:0≤row) (h1:row < g.ls.length) (s:Bool):qm ⟨g.cols,qci g.ls row s⟩=true:=by
  unfold qci
  exact rg_set h _ (qeh h h0 h1).2
theorem qlr {g:Gd} (h:qm g=true) {row fr tt:Int} {a:At} (h0:0≤row) (h1:row < g.ls.length) (hf:0≤fr) (ht:fr≤tt) (htc:tt≤g.cols) (ha:qab a=true):qm ⟨g.cols,qe0 g.ls row fr tt a⟩=true:=by
  have hl:=qfi h h0 h1
  unfold qe0
  refine qld h h0 h1 (qai _ (by omega)) fun x hx=>?_
  rcases qi4 hx with hx | rfl
  · exact qb4 h h0 h1 x hx
  · exact qgk ha
theorem qij {g:Gd} (h:qm g=true) {row col num:Int} {a:At} (h0:0≤row) (h1:row < g.ls.length) (hc:col < g.cols) (ha:qab a=true):qm ⟨g.cols,qbr g.ls row col num a⟩=true:=by
  have hl:=qfi h h0 h1
  have hp:=(qd h).1
  unfold qbr
  refine qld h h0 h1 (by unfold qgc;rw[qai _ (by rw[qw];omega),qw]) fun x hx=>?_
  rcases insL_mem hx with hx | rfl
  · exact qb4 h h0 h1 x hx
  · exact qgk ha
theorem rg_delete {g:Gd} (h:qm g=true) {row col num:Int} {a:At} (h0:0≤row) (h1:row < g.ls.length) (ha:qab a=true):qm ⟨g.cols,qd6 g.ls row col num a⟩=true:=by
  unfold qd6
  refine qld h h0 h1 (by unfold qfw;rw[qai _ (by rw[qw];omega),qw]) fun x hx=>?_
  rcases delL_mem hx with hx | rfl
  · exact qb4 h h0 h1 x hx
  · exact qgk ha
theorem rg_scr {g:Gd} (h:qm g=true) {f m i:Nat} {a:At} (hf:f+m≤g.ls.length) (ha:qab a=true):qm ⟨g.cols,scrL g.ls f m i g.cols.toNat a⟩=true∧(scrL g.ls f m i g.cols.toNat a).length=g.ls.length:=by
  obtain⟨h1,h2,h3⟩:=rightG_iff.1 h
  have hl:=scr_len (cols:=g.cols.toNat) (i:=i) (a:=a) hf
  refine⟨rightG_iff.2 ⟨h1,by rw[hl];exact h2,fun x hx=>?_⟩,hl⟩
  rcases scr_mem hx with hx | rfl
  · exact h3 x hx
  · have:=fits_bare ha g.cols.toNat
    rwa [Int.toNat_of_nonneg (by omega)] at this
theorem rg_up {g:Gd} (h:qm g=true) {top bot num:Int} {a:At} (h0:0≤top) (h1:top≤bot) (h2:bot < g.ls.length) (ha:qab a=true):qm ⟨g.cols,upT g.ls g.cols top bot num a⟩=true∧(upT g.ls g.cols top bot num a).length=g.ls.length:=by
  unfold upT qgh
  exact rg_scr h (by omega) ha
theorem rg_down {g:Gd} (h:qm g=true) {top bot num:Int} {a:At} (h0:0≤top) (h1:top≤bot) (h2:bot < g.ls.length) (ha:qab a=true):qm ⟨g.cols,qjj g.ls g.cols top bot num a⟩=true∧(qjj g.ls g.cols top bot num a).length=g.ls.length:=by
  unfold qjj qgh
  exact rg_scr h (by omega) ha
theorem rg_new {C R:Int} {a:At} (hC:1≤C∧C≤80) (hR:1≤R∧R≤50) (ha:qab a=true):qm (qf8 C R a)=true:=by
  unfold qf8
  refine rightG_iff.2 ⟨hC,by simp only[List.length_replicate];omega,fun l hl=>?_⟩
  rw[List.eq_of_mem_replicate hl]
  have:=fits_bare ha C.toNat
  rwa [Int.toNat_of_nonneg (by omega)] at this
theorem RightT.setG {t:Tm} (h:RightT t) {g:Gd} (hg:qm g=true) (hc:g.cols=t.g.cols) (hl:g.ls.length=t.g.ls.length):RightT { t with g:=g } :=
  ⟨hg,h.row0,by show t.row < g.ls.length;rw[hl];exact h.row1,h.col0,by show t.col < g.cols;rw[hc];exact h.col1,fun hh=>by show t.wr=true∧t.col=g.cols - 1;rw[hc];exact h.late hh,
   fun hh=>by show qm t.main=true∧t.main.cols=g.cols∧t.main.ls.length=g.ls.length;rw[hc,hl];exact h.main1 hh,h.main0,h.top0,by show t.bot < g.ls.length;rw[hl];exact h.bot1,
   by show t.top < t.bot∨(g.ls.length=1∧t.top=0∧t.bot=0);rw[hl];exact h.tb,h.svr,h.svc,h.svl,h.lk,h.pa,h.bk,h.ti⟩
theorem clamp_in {n m:Int} (h:0≤m):0≤qbg n m∧qbg n m≤m:=by
  unfold qbg
  split
  · omega
  · split <;> omega
theorem RightT.move {t:Tm} (h:RightT t) (row col:Int):RightT (qas t row col):=by
  obtain⟨b1,b2,b3,b4⟩:=qd h.g
  have c1:=clamp_in (n:=row) (m:=t.rows - 1) (by unfold Tm.rows;omega)
  have c2:=clamp_in (n:=col) (m:=t.last) (by unfold Tm.last;omega)
  refine⟨h.g,c1.1,?_,c2.1,?_,(fun hh=>by cases hh),h.main1,h.main0,h.top0,h.bot1,h.tb,h.svr,h.svc,h.svl,h.lk,h.pa,h.bk,h.ti⟩
  · show qbg row (t.rows - 1) < t.g.ls.length
    have:t.rows=t.g.ls.length:=rfl
    omega
  · show qbg col t.last < t.g.cols
    have:t.last=t.g.cols - 1:=rfl
    omega
theorem RightT.noLate {t:Tm} (h:RightT t):RightT { t with late:=false } :=
  ⟨h.g,h.row0,h.row1,h.col0,h.col1,(fun hh=>by cases hh),h.main1,h.main0,h.top0,h.bot1,h.tb,h.svr,h.svc,h.svl,h.lk,h.pa,h.bk,h.ti⟩
theorem RightT.save {t:Tm} (h:RightT t):RightT (qhr t):=by
  obtain⟨b1,b2,b3,b4⟩:=qd h.g
  have:=h.row0;have:=h.row1;have:=h.col0;have:=h.col1
  exact⟨h.g,h.row0,h.row1,h.col0,h.col1,h.late,h.main1,h.main0,h.top0,h.bot1,h.tb,⟨h.row0,by show t.row≤79;omega⟩,⟨h.col0,by show t.col≤79;omega⟩,h.lk,h.lk,h.pa,h.bk,h.ti⟩
theorem RightT.look {t:Tm} (h:RightT t) {a:At} (ha:qab a=true) (og:Bool):RightT { t with lk:=a,og:=og } :=
  ⟨h.g,h.row0,h.row1,h.col0,h.col1,h.late,h.main1,h.main0,h.top0,h.bot1,h.tb,h.svr,h.svc,h.svl,ha,h.pa,h.bk,h.ti⟩
theorem RightT.restore {t:Tm} (h:RightT t):RightT (qco t):=(h.look h.svl t.sv.og).move _ _
theorem RightT.home {t:Tm} (h:RightT t):RightT (qis t):=by
  unfold qis
  split
  · exact h.move _ _
  · exact h.move _ _
theorem kept_append {a b:List Ln}:qgg (a ++ b)=(qgg a && qgg b):=List.all_append
theorem rg_kept {g:Gd} (h:qm g=true) {ls:List Ln} (hs:∀ l∈ls,l∈g.ls):qgg ls=true:=by
  obtain⟨b1,b2,_⟩:=qd h
  unfold qgg
  rw[List.all_eq_true]
  intro l hl
  have hf:=rg_at h (hs l hl)
  have hn:=(fits_iff.1 hf).1
  rw[Bool.and_eq_true,hn]
  exact⟨decide_eq_true ⟨b1,b2⟩,hf⟩
theorem back_more {mx:Int} {a b:List Ln} (h:qdu mx a=true) (hb:qgg b=true):qdu mx (qah mx.toNat (a ++ b))=true:=by
  unfold qdu at h ⊢
  simp only[Bool.and_eq_true,decide_eq_true_eq] at h ⊢
  refine⟨h.1,by unfold qah;rw[List.length_drop];have:=h.1;omega,?_⟩
  have h2:qgg (a ++ b)=true:=by rw[kept_append,h.2.2,hb];rfl
  unfold qgg at h2 ⊢
  rw[List.all_eq_true] at h2 ⊢
  exact fun l hl=>h2 l (List.mem_of_mem_drop hl)
theorem RightT.up {t:Tm} (h:RightT t) {top n:Int} (kept:Bool) (h0:0≤top) (h1:top≤t.bot):RightT (upM t top n kept):=by
  obtain⟨u1,u2⟩:=rg_up (num:=n) h.g h0 h1 h.bot1 h.lk
  have hh:=h.setG u1 rfl u2
  unfold upM
  refine⟨hh.g,hh.row0,hh.row1,hh.col0,hh.col1,hh.late,hh.main1,hh.main0,hh.top0,hh.bot1,hh.tb,hh.svr,hh.svc,hh.svl,hh.lk,hh.pa,?_,hh.ti⟩
  show qdu t.bmax (if _ then _ else _)=true
  split
  · exact back_more h.bk (rg_kept h.g fun l hl=>List.mem_of_mem_drop (List.mem_of_mem_take hl))
  · exact h.bk
theorem RightT.down {t:Tm} (h:RightT t) {top n:Int} (h0:0≤top) (h1:top≤t.bot):RightT (qhn t top n):=by
  obtain⟨u1,u2⟩:=rg_down (num:=n) h.g h0 h1 h.bot1 h.lk
  exact h.setG u1 rfl u2
theorem RightT.tob {t:Tm} (h:RightT t):t.top≤t.bot:=by rcases h.tb with h | h <;> omega
theorem RightT.setRow {t:Tm} (h:RightT t) {row:Int} (h0:0≤row) (h1:row < t.g.ls.length):RightT { t with late:=false,row:=row } :=
  ⟨h.g,h0,h1,h.col0,h.col1,(fun hh=>by cases hh),h.main1,h.main0,h.top0,h.bot1,h.tb,h.svr,h.svc,h.svl,h.lk,h.pa,h.bk,h.ti⟩
theorem RightT.goDown {t:Tm} (h:RightT t):RightT (goDown t):=by
  unfold Go.Proofs.YtpdaekmbpafenaaGreatDoor.goDown
  have hr:t.rows=t.g.ls.length:=rfl
  have:=h.row0
  split
  · exact h.noLate.up true h.top0 h.tob
  · split
    · exact h.setRow (by omega) (by omega)
    · exact h.noLate
theorem RightT.goUp {t:Tm} (h:RightT t):RightT (goUp t):=by
  unfold Go.Proofs.YtpdaekmbpafenaaGreatDoor.goUp
  have:=h.row1
  split
  · exact h.noLate.down h.top0 h.tob
  · split
    · exact h.setRow (by omega) (by omega)
    · exact h.noLate
theorem RightT.setCol {t:Tm} (h:RightT t) (hl:t.late=false) {col:Int} (h0:0≤col) (h1:col < t.g.cols):RightT { t with col:=col } :=
  ⟨h.g,h.row0,h.row1,h0,h1,(fun hh=>by rw[show t.late=true from hh] at hl;cases hl),h.main1,h.main0,h.top0,h.bot1,h.tb,h.svr,h.svc,h.svl,h.lk,h.pa,h.bk,h.ti⟩
theorem qku (t:Tm):(goDown t).late=false:=by
  unfold goDown
  split
  · rfl
  · split <;> rfl
theorem qhm (t:Tm):(goDown t).g.cols=t.g.cols∧(goDown t).wr=t.wr∧(goDown t).lk=t.lk:=by
  unfold goDown
  split
  · exact⟨rfl,rfl,rfl⟩
  · split <;> exact⟨rfl,rfl,rfl⟩
end Go.Proofs.YtpdaekmbpafenaaGreatDoor
