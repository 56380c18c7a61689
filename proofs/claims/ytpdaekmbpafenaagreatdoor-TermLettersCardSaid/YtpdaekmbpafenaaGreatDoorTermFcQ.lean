
import Derived.Test.YtpdaekmbpafenaaGreatDoorTermRjQ
import Derived.Test.YtpdaekmbpafenaaGreatDoorParseWeQ
import Derived.Test.YtpdaekmbpafenaaGreatDoorTermCaQ
import Derived.Test.YtpdaekmbpafenaaGreatDoorTermTpQ
import Derived.Test.YtpdaekmbpafenaaGreatDoorTermWQ
import Derived.Test.YtpdaekmbpafenaaGreatDoorHeldIQ
import Derived.Test.YtpdaekmbpafenaaGreatDoorTermOfQ
namespace Go.Proofs.YtpdaekmbpafenaaGreatDoor
open Go.RowKit
set_option maxRecDepth 100000
theorem lr_off {W:World} {b:Nat} {v:Value} {l:List (Ln×Value)} (h:LR W v l) (hb:W.heap.size≤b) (hn:l≠[]):qcq b v:=by
 obtain⟨A,c,rfl,_,hl⟩:=h
 obtain⟨g,o,rfl,hg,_⟩:=hl hn
 intro A' n' c' e
 cases e
 show g≠b
 omega
theorem ce_off {W:World} {b:Nat} {v:Value} {l:List Ce} (h:CeRow W v l) (hb:W.heap.size≤b) (hn:l≠[]):qcq b v:=by
 obtain⟨A,c,rfl,_,hl⟩:=h
 obtain⟨g,o,rfl,hg,_⟩:=hl hn
 intro A' n' c' e
 cases e
 show g≠b
 omega
theorem ir_off {W:World} {b:Nat} {v:Value} {l:List Int} (h:IRow W v l) (hb:W.heap.size≤b) (hn:l≠[]):qcq b v:=by
 obtain⟨A,c,rfl,hl⟩:=h
 obtain⟨ad,rfl,hg,_⟩:=hl hn
 intro A' n' c' e
 cases e
 omega
theorem Fresh.off {n b:Nat} {v:Value} {l:List Int} (h:Fresh n v l) (hb:b < n) (hn:l≠[]):qcq b v:=by
 intro A k c e
 have:=h hn A k c e
 omega
theorem DRow.but {W W':World} {b n:Nat} {v:Value} {l:List (Dn×Value)} (h:DRow W v l) (hv:FreshD n v) (hl:∀ e∈l,Fresh n e.2 e.1.params) (hbn:b < n) (hb:But b W W'):DRow W' v l:=by
 obtain⟨A,c,rfl,hr⟩:=h
 refine⟨A,c,rfl,fun hn=>?_⟩
 obtain⟨g,rfl,hg,hc⟩:=hr hn
 have hgn:n≤g:=hv ⟨g,0,none⟩ _ _ rfl
 have hz:W.heap.size≤W'.heap.size:=hb.size
 refine⟨g,rfl,by omega,fun j e he=>?_⟩
 obtain⟨h1,h2,h3⟩:=hc j e he
 refine⟨fun i u hu=>?_,h2.but hb (fun hn2=>(hl e (List.mem_of_getElem? he)).off hbn hn2),h3⟩
 rw[hb.cell (p:=⟨g,j * 7+i,none⟩) hg (by show g≠b;omega)]
 exact h1 i u hu
theorem DRow.under {W W':World} {v:Value} {l:List (Dn×Value)} (h:DRow W v l) (hb:Below W.heap.size W W'):DRow W' v l:=by
 obtain⟨A,c,rfl,hr⟩:=h
 refine⟨A,c,rfl,fun hn=>?_⟩
 obtain⟨g,rfl,hg,hc⟩:=hr hn
 refine⟨g,rfl,Nat.lt_of_lt_of_le hg hb.size,fun j e he=>?_⟩
 obtain⟨h1,h2,h3⟩:=hc j e he
 exact⟨fun i u hu=>(hb.cell (p:=⟨g,j * 7+i,none⟩) hg).trans (h1 i u hu),h2.below hb,h3⟩
theorem DRow.held {W W1 W':World} {b:Nat} {v:Value} {l:List (Dn×Value)} (h:DRow W v l) (h1:Below W.heap.size W W1) (hz:W.heap.size≤b) (hb:But b W1 W'):DRow W' v l:=by
 obtain⟨A,c,rfl,hr⟩:=h
 refine⟨A,c,rfl,fun hn=>?_⟩
 obtain⟨g,rfl,hg,hc⟩:=hr hn
 have hz1:W.heap.size≤W1.heap.size:=h1.size
 have hz2:W1.heap.size≤W'.heap.size:=hb.size
 refine⟨g,rfl,by omega,fun j e he=>?_⟩
 obtain⟨h2,h3,h4⟩:=hc j e he
 refine⟨fun i u hu=>?_,(h3.below h1).but hb (fun hn2=>ir_off h3 hz hn2),h4⟩
 rw[hb.cell (p:=⟨g,j * 7+i,none⟩) (by show g < W1.heap.size;omega) (by show g≠b;omega)]
 exact(h1.cell (p:=⟨g,j * 7+i,none⟩) hg).trans (h2 i u hu)
theorem DRow.at {W : World} {A : Option Addr} {n c k : Nat} {l : List (Dn × Value)} {d : Dn} {v : Value} (h : DRow W (.slice A n c) l) (hk : l[k]? = some (d, v)) :
  ∃ g,A=some ⟨g,0,none⟩∧g < W.heap.size∧(W.cell? ⟨g,k * 7,none⟩=some (.int .i64 d.kind)∧W.cell? ⟨g,k * 7+1,none⟩=some (.int .i32 d.rune)∧W.cell? ⟨g,k * 7+2,none⟩=some (.int .i64 d.code)∧W.cell? ⟨g,k * 7+3,none⟩=some (.int .i64 d.priv) ∧
  W.cell? ⟨g,k * 7+4,none⟩=some v∧W.cell? ⟨g,k * 7+5,none⟩=some (.int .i64 d.inter)∧W.cell? ⟨g,k * 7+6,none⟩=some (.string d.text))∧IRow W v d.params:=by
 obtain⟨A',c',e,hr⟩:=h
 cases e
 obtain⟨g,rfl,hg,hc⟩:=hr (fun e=>by rw[e] at hk;cases hk)
 obtain⟨h1,h2,_⟩:=hc k _ hk
 exact⟨g,rfl,hg,dcells h1,h2⟩
theorem Box.spared {W W':World} {g b:Nat} {t:TypeId} {cs:Array Value} (h:Box W g t cs) (hb:But b W W') (hne:g≠b):Box W' g t cs :=
 (hb.block g h.lt (fun e=>hne (Option.some.inj e))).trans h
theorem qh6:∀ (l:List Dn) {t:Tm},(∀ d∈l,SentD d)→RightT t→RightT (l.foldl qhj t)
 | [],_,_,h=>h
 | d :: l,t,hs,h=>by
  rw[List.foldl_cons]
  refine qh6 l (fun e he=>hs e (List.mem_cons_of_mem _ he)) ?_
  rw[takeT_doT (hs d List.mem_cons_self)]
  exact h.do d
theorem TmX.outOf {b r0 : Nat} {W W' : World} {t : Tm} {vg vm vp vb : Value} {lg lm lb : List (Ln × Value)} (hx : TmX b W t vg vm vp vb lg lm lb) (hr : RightT t)
  (hz:Box W r0 35 #[.int .i64 0,.slice none 0 0,.bool false,.int .i64 0,.slice none 0 0,.int .i64 0,.int .i64 0,.bool false,.int .i64 0,.int .i64 0,.int .i64 0,.int .i64 0,.int .i64 0,.int .i64 0,.int .i64 0,.int .i64 0,.int .i64 0,.int .i64 0,.bool false,.bool false,.bool false,.bool false,.bool false,.int .i64 0,.int .i64 0,.slice none 0 0,.int .i64 0,.string ⟨#[]⟩,.string ⟨#[]⟩,.int .i64 0,.slice none 0 0,.string ⟨#[]⟩]) (hpo:t.pa.params≠[]→qcq r0 vp) (hb:But r0 W W'):TmIn W' t vg vm vp vb lg lm lb:=by
 have hg:=qdg hr.g hx.g.mp
 have hm:∀ e∈lm,e.1.cs≠[]:=by
  cases ha:t.alt
  ·have h0:=hr.main0 ha
   have h1:=hx.m.mp
   rw[h0] at h1
   have h2:lm=[]:=List.map_eq_nil_iff.1 h1
   intro e he
   rw[h2] at he
   cases he
  ·exact(qdg (hr.main1 ha).1 hx.m.mp).2
 have hk:=(qiq hr.bk hx.k.mp).2
 exact⟨hx.g.lr.but hb (fun hn=>qgx hz hx.g.lr hx.g.ces hg.2 hn),fun e he=>(hx.g.ces e he).but hb (fun hn=>qdz hz (hx.g.ces e he) hn),hx.g.mp,
  hx.m.lr.but hb (fun hn=>qgx hz hx.m.lr hx.m.ces hm hn),fun e he=>(hx.m.ces e he).but hb (fun hn=>qdz hz (hx.m.ces e he) hn),hx.m.mp,
  hx.k.lr.but hb (fun hn=>qgx hz hx.k.lr hx.k.ces hk hn),fun e he=>(hx.k.ces e he).but hb (fun hn=>qdz hz (hx.k.ces e he) hn),hx.k.mp,
  hx.p.1.but hb hpo⟩
theorem fold_step {l:List Dn} {t:Tm} {k:Nat} {d:Dn} (h:l[k]?=some d):(l.take (k+1)).foldl qhj t=qhj ((l.take k).foldl qhj t) d:=by
 rw[List.take_add_one,h,List.foldl_append]
 rfl
theorem tat_new {t : Tm} {vg vm vp vb mv : Value} {lg lm lb : List (Ln × Value)} {W0 W : World} (hin : TmIn W t vg vm vp vb lg lm lb) (hty : Typed W vp t.pa.params) (hm : MP W0 mv) (hb : Below W0.heap.size W0 W) (hT : Tab W0) (hW : TabW W0) :
  TAt MP W.heap.size mv t (W.alloc (.cells (t.all vg vm vp vb mv) 89)):=by
 have hbl:=qa W (.cells (t.all vg vm vp vb mv) 89)
 have hm2:∃ m,mv=.map (some m):=by obtain⟨m,_,h,_⟩:=hm;exact⟨m,h⟩
 refine⟨⟨W0,hb.trans (hbl.mono hb.size),hb.size,hT,hW,hm2,hm⟩,vg,vm,vp,vb,lg,lm,lb,Box.new W 89 _,?_⟩
 have hn:=Nat.le_refl W.heap.size
 exact⟨⟨hin.g.below hbl,hin.gc.below hbl,hin.gm,fun h=>lr_off hin.g hn h,fun e he h=>ce_off (hin.gc e he) hn h⟩,
  ⟨hin.m.below hbl,hin.mc.below hbl,hin.mm,fun h=>lr_off hin.m hn h,fun e he h=>ce_off (hin.mc e he) hn h⟩,
  ⟨hin.b.below hbl,hin.bc.below hbl,hin.bm,fun h=>lr_off hin.b hn h,fun e he h=>ce_off (hin.bc e he) hn h⟩,
  PRow.below ⟨hin.p,hty⟩ hbl,fun h=>ir_off hin.p hn h⟩
theorem yields_box {P : Program} {ops : Array Oper} {S : World → Prop} {op : Oper} {a : Act} (hw : Region.wanted op (yielded ops a.tmps) = true) (ty : TypeId) (x : Operand) (ho : op.op = .load ty x) (b : Nat) (hx : a.eval x = .pointer (some ⟨b, 0, none⟩))
  {t:TypeId} {cs:Array Value} (hS:∀ w,S w→Box w b t cs) (d:TypeDesc) (hu:P.underlying ty=some d) (hd:d.isRow=true) (hi:(P.info? ty).map (·.size)=some cs.size):YieldsIf P ops S op (.agg cs) a:=by
 have:=yieldsIf_load_mid (P:=P) (ops:=ops) (S:=S) hw ty x ho b 0 hx cs.toList d (fun w hw' j v hv=>by rw[Nat.zero_add,(hS w hw').cell];simpa using hv) hu hd (by simpa using hi)
 simpa using this
theorem yields_build {P : Program} {ops : Array Oper} {S : World → Prop} {op : Oper} {a : Act} (hw : Region.wanted op (yielded ops a.tmps) = true) (ty : TypeId) (x y : Operand) (ho : op.op = .build ty #[(0, x), (1, y)]) (v u : Value) (hx : a.eval x = v) (hy : a.eval y = u)
  (cells:Array Value) (h:P.built ty [(0,v),(1,u)]=some cells):YieldsIf P ops S op (.agg cells) a:=.inl ⟨hw,fun w _=>by
 have hb:=run_build (P:=P) w ty #[(0,v),(1,u)] cells h
 unfold execOp
 simp only[ho]
 simp[hx,hy,hb]⟩
theorem built_term (t:Tm) (vg vm vp vb:Value) (m:Nat):Tryz.prog.built 89 [(0,.agg (t.cells vg vm vp vb)),(1,.map (some m))]=some (t.all vg vm vp vb (.map (some m))):=by kernel_rfl
set_option maxHeartbeats 4000000
set_option maxRecDepth 100000
def FdYes (W:World) (t:Tm) (e:Ending) (w':World):Prop :=
 ∃ vg vm vp vb lg lm lb,e=.returned (.tuple #[.agg (t.cells vg vm vp vb),.int .i64 0])∧TmIn w' t vg vm vp vb lg lm lb∧Typed w' vp t.pa.params∧Below W.heap.size W w'
theorem fd_yes (t : Tm) (pA : Option Addr) (pc : Nat) (vg vm vb : Value) (lg lm lb : List (Ln × Value)) (s : ByteArray) (W : World)
  (hin:TmIn W t vg vm (.slice pA t.pa.params.length pc) vb lg lm lb) (hr:RightT t) (hsl:s.size≤100000) (hT:Tab W) (hW:TabW W)
  (HP:Hid (∀ W':World,Below W.heap.size W W'→Calls Tryz.prog 38 #[.agg #[.int .i64 t.pa.st,.int .i64 t.pa.priv,(.slice pA t.pa.params.length pc),.int .i64 t.pa.inter,.string t.pa.osc,.string t.pa.pend],.string s] W' (FeedFr W' (qa1 t.pa (qaf s)))))
  (HR:Hid (∀ W':World,Below W.heap.size W W'→Calls Tryz.prog 14 #[.agg (t.cells vg vm (.slice pA t.pa.params.length pc) vb)] W' fun e w'=>e=.returned (.bool true)∧Below W'.heap.size W' w')) :
  Calls Tryz.prog 13 #[.agg (t.cells vg vm (.slice pA t.pa.params.length pc) vb),.string s] W (FdYes W (qiu t (qaf s))):=by
 have HSD:=hid (qms (qaf s) t.pa ((qds t.pa).1 hr.pa) (bytes_255 s))
 unfold qiu
 have HNB:=hid (show (qa1 t.pa (qaf s)).2.length≤1000000 by have h1:=qmq (qaf s) t.pa;rw[qgd] at h1;omega)
 clear hsl
 have HPA:=hid (show RightT { t with pa:=(qa1 t.pa (qaf s)).1 } from ⟨hr.g,hr.row0,hr.row1,hr.col0,hr.col1,hr.late,hr.main1,hr.main0,hr.top0,hr.bot1,hr.tb,hr.svr,hr.svc,hr.svl,hr.lk,(qds _).2 (qha (qaf s) t.pa ((qds t.pa).1 hr.pa)),hr.bk,hr.ti⟩)
 generalize qa1 t.pa (qaf s)=r at *
 obtain⟨tF,hTF⟩:∃ tF,r.2.foldl doT { t with pa:=r.1 }=tF:=⟨_,rfl⟩
 rw[hTF]
 have HTF:=hid hTF
 clear hTF
 obtain⟨pn,hpn⟩:∃ pn,t.pa.params.length=pn:=⟨_,rfl⟩
 rw[hpn] at hin HP HR ⊢
 obtain⟨TL,hTL⟩:∃ TL,t.cells vg vm (.slice pA pn pc) vb=TL:=⟨_,rfl⟩
 have hs:TL.size=32:=by rw[← hTL];rfl
 have t23:TL[23]?=some (.int .i64 t.pa.st):=by rw[← hTL];rfl
 have t24:TL[24]?=some (.int .i64 t.pa.priv):=by rw[← hTL];rfl
 have t25:TL[25]?=some ((.slice pA pn pc)):=by rw[← hTL];rfl
 have t26:TL[26]?=some (.int .i64 t.pa.inter):=by rw[← hTL];rfl
 have t27:TL[27]?=some (.string t.pa.osc):=by rw[← hTL];rfl
 have t28:TL[28]?=some (.string t.pa.pend):=by rw[← hTL];rfl
 rw[hTL] at HR ⊢
 have HTL:=hid hTL
 have HIN:=hid hin
 have HT:=hid hT
 have HW:=hid hW
 have HRT:=hid hr
 clear hTL hin hT hW hpn hr
 have hb1:=qa W (.cells TL 35)
 have hb2:=hb1.alloc (by simp) (.cells #[.int .i64 0,.slice none 0 0,.bool false,.int .i64 0,.slice none 0 0,.int .i64 0,.int .i64 0,.bool false,.int .i64 0,.int .i64 0,.int .i64 0,.int .i64 0,.int .i64 0,.int .i64 0,.int .i64 0,.int .i64 0,.int .i64 0,.int .i64 0,.bool false,.bool false,.bool false,.bool false,.bool false,.int .i64 0,.int .i64 0,.slice none 0 0,.int .i64 0,.string ⟨#[]⟩,.string ⟨#[]⟩,.int .i64 0,.slice none 0 0,.string ⟨#[]⟩] 35)
 have hx0:=(Box.new W 35 TL).alloc (.cells #[.int .i64 0,.slice none 0 0,.bool false,.int .i64 0,.slice none 0 0,.int .i64 0,.int .i64 0,.bool false,.int .i64 0,.int .i64 0,.int .i64 0,.int .i64 0,.int .i64 0,.int .i64 0,.int .i64 0,.int .i64 0,.int .i64 0,.int .i64 0,.bool false,.bool false,.bool false,.bool false,.bool false,.int .i64 0,.int .i64 0,.slice none 0 0,.int .i64 0,.string ⟨#[]⟩,.string ⟨#[]⟩,.int .i64 0,.slice none 0 0,.string ⟨#[]⟩] 35)
 have hx1:=Box.new (W.alloc (.cells TL 35)) 35 #[.int .i64 0,.slice none 0 0,.bool false,.int .i64 0,.slice none 0 0,.int .i64 0,.int .i64 0,.bool false,.int .i64 0,.int .i64 0,.int .i64 0,.int .i64 0,.int .i64 0,.int .i64 0,.int .i64 0,.int .i64 0,.int .i64 0,.int .i64 0,.bool false,.bool false,.bool false,.bool false,.bool false,.int .i64 0,.int .i64 0,.slice none 0 0,.int .i64 0,.string ⟨#[]⟩,.string ⟨#[]⟩,.int .i64 0,.slice none 0 0,.string ⟨#[]⟩]
 rw[World.size_alloc] at hx1
 have HS:=hid (show (Tryz.prog.info? 35).map (·.size)=some TL.size by rw[hs];kernel_rfl)
 have q23:((W.alloc (.cells TL 35)).alloc (.cells #[.int .i64 0,.slice none 0 0,.bool false,.int .i64 0,.slice none 0 0,.int .i64 0,.int .i64 0,.bool false,.int .i64 0,.int .i64 0,.int .i64 0,.int .i64 0,.int .i64 0,.int .i64 0,.int .i64 0,.int .i64 0,.int .i64 0,.int .i64 0,.bool false,.bool false,.bool false,.bool false,.bool false,.int .i64 0,.int .i64 0,.slice none 0 0,.int .i64 0,.string ⟨#[]⟩,.string ⟨#[]⟩,.int .i64 0,.slice none 0 0,.string ⟨#[]⟩] 35)).cell? ⟨W.heap.size,23,none⟩=some (.int .i64 t.pa.st):=(hx0.cell 23).trans t23
 have q24:((W.alloc (.cells TL 35)).alloc (.cells #[.int .i64 0,.slice none 0 0,.bool false,.int .i64 0,.slice none 0 0,.int .i64 0,.int .i64 0,.bool false,.int .i64 0,.int .i64 0,.int .i64 0,.int .i64 0,.int .i64 0,.int .i64 0,.int .i64 0,.int .i64 0,.int .i64 0,.int .i64 0,.bool false,.bool false,.bool false,.bool false,.bool false,.int .i64 0,.int .i64 0,.slice none 0 0,.int .i64 0,.string ⟨#[]⟩,.string ⟨#[]⟩,.int .i64 0,.slice none 0 0,.string ⟨#[]⟩] 35)).cell? ⟨W.heap.size,24,none⟩=some (.int .i64 t.pa.priv):=(hx0.cell 24).trans t24
 have q25:((W.alloc (.cells TL 35)).alloc (.cells #[.int .i64 0,.slice none 0 0,.bool false,.int .i64 0,.slice none 0 0,.int .i64 0,.int .i64 0,.bool false,.int .i64 0,.int .i64 0,.int .i64 0,.int .i64 0,.int .i64 0,.int .i64 0,.int .i64 0,.int .i64 0,.int .i64 0,.int .i64 0,.bool false,.bool false,.bool false,.bool false,.bool false,.int .i64 0,.int .i64 0,.slice none 0 0,.int .i64 0,.string ⟨#[]⟩,.string ⟨#[]⟩,.int .i64 0,.slice none 0 0,.string ⟨#[]⟩] 35)).cell? ⟨W.heap.size,25,none⟩=some ((.slice pA pn pc)):=(hx0.cell 25).trans t25
 have q26:((W.alloc (.cells TL 35)).alloc (.cells #[.int .i64 0,.slice none 0 0,.bool false,.int .i64 0,.slice none 0 0,.int .i64 0,.int .i64 0,.bool false,.int .i64 0,.int .i64 0,.int .i64 0,.int .i64 0,.int .i64 0,.int .i64 0,.int .i64 0,.int .i64 0,.int .i64 0,.int .i64 0,.bool false,.bool false,.bool false,.bool false,.bool false,.int .i64 0,.int .i64 0,.slice none 0 0,.int .i64 0,.string ⟨#[]⟩,.string ⟨#[]⟩,.int .i64 0,.slice none 0 0,.string ⟨#[]⟩] 35)).cell? ⟨W.heap.size,26,none⟩=some (.int .i64 t.pa.inter):=(hx0.cell 26).trans t26
 have q27:((W.alloc (.cells TL 35)).alloc (.cells #[.int .i64 0,.slice none 0 0,.bool false,.int .i64 0,.slice none 0 0,.int .i64 0,.int .i64 0,.bool false,.int .i64 0,.int .i64 0,.int .i64 0,.int .i64 0,.int .i64 0,.int .i64 0,.int .i64 0,.int .i64 0,.int .i64 0,.int .i64 0,.bool false,.bool false,.bool false,.bool false,.bool false,.int .i64 0,.int .i64 0,.slice none 0 0,.int .i64 0,.string ⟨#[]⟩,.string ⟨#[]⟩,.int .i64 0,.slice none 0 0,.string ⟨#[]⟩] 35)).cell? ⟨W.heap.size,27,none⟩=some (.string t.pa.osc):=(hx0.cell 27).trans t27
 have q28:((W.alloc (.cells TL 35)).alloc (.cells #[.int .i64 0,.slice none 0 0,.bool false,.int .i64 0,.slice none 0 0,.int .i64 0,.int .i64 0,.bool false,.int .i64 0,.int .i64 0,.int .i64 0,.int .i64 0,.int .i64 0,.int .i64 0,.int .i64 0,.int .i64 0,.int .i64 0,.int .i64 0,.bool false,.bool false,.bool false,.bool false,.bool false,.int .i64 0,.int .i64 0,.slice none 0 0,.int .i64 0,.string ⟨#[]⟩,.string ⟨#[]⟩,.int .i64 0,.slice none 0 0,.string ⟨#[]⟩] 35)).cell? ⟨W.heap.size,28,none⟩=some (.string t.pa.pend):=(hx0.cell 28).trans t28
 have HB2:=hid hb2
 have HX0:=hid hx0
 have HX1:=hid hx1
 have HC:=hid (HP.out _ hb2)
 have HZ:=hid hs
 have hwz:((W.alloc (.cells TL 35)).alloc (.cells #[.int .i64 0,.slice none 0 0,.bool false,.int .i64 0,.slice none 0 0,.int .i64 0,.int .i64 0,.bool false,.int .i64 0,.int .i64 0,.int .i64 0,.int .i64 0,.int .i64 0,.int .i64 0,.int .i64 0,.int .i64 0,.int .i64 0,.int .i64 0,.bool false,.bool false,.bool false,.bool false,.bool false,.int .i64 0,.int .i64 0,.slice none 0 0,.int .i64 0,.string ⟨#[]⟩,.string ⟨#[]⟩,.int .i64 0,.slice none 0 0,.string ⟨#[]⟩] 35)).heap.size=W.heap.size+2:=by simp
 clear HP hb1 hb2 hx0 hx1 t23 t24 t25 t26 t27 t28 hs
 go_enter Tryz.func13,Tryz.ntmps13
 go_upto_region 2 with (first
  | ((with_reducible refine HC.out.mono ?_);rintro e w1 ⟨v,A,c,lv,rfl,hlc,hv,hd,hlv,hb1,hcap,hf1,hf2,hf3,hty⟩;have HB3:=hid (HB2.out.trans (hb1.mono HB2.out.size));have HX2:=hid (HX1.out.below hb1 HX1.out.lt);have HY2:=hid (HX0.out.below hb1 HX0.out.lt);have hz1:W.heap.size+2≤w1.heap.size:=(by have:=hb1.size;rw[hwz] at this;exact this);clear hb1;rw[hwz] at hf1 hf2 hf3;obtain⟨vA,vc,hvs,hv2⟩:=id hv;subst hvs;clear hv2;have HV:=hid hv;have HTY:=hid hty;clear hty;have HD:=hid hd;have HLV:=hid hlv;have HF:=hid (And.intro hcap (And.intro hf1 (And.intro hf2 hf3)));clear hv hd hlv hcap hf1 hf2 hf3 hlc;obtain⟨n,hn⟩:∃ n,lv.length=n:=⟨_,rfl⟩;rw[hn] at HD HF;have HN:=hid hn;obtain⟨⟨p1,p2,p3,p4,p5,p6⟩,ds⟩:=r;unfold Pa.cells;dsimp only at *;rw[hn];clear hn;obtain⟨vn,hvn⟩:∃ vn,p3.length=vn:=⟨_,rfl⟩;rw[hvn] at HV HF HTY;have HVN:=hid hvn;rw[hvn];clear hvn))
 clear q23 q24 q25 q26 q27 q28 HX1 HX0 HB2 HC hwz
 have hP2:=Box.new w1 31 #[.int .i64 p1,.int .i64 p2,.slice vA vn vc,.int .i64 p4,.string p5,.string p6]
 have hbl:=qa w1 (.cells #[.int .i64 p1,.int .i64 p2,.slice vA vn vc,.int .i64 p4,.string p5,.string p6] 31)
 have HY3:=hid (HY2.out.alloc (.cells #[.int .i64 p1,.int .i64 p2,.slice vA vn vc,.int .i64 p4,.string p5,.string p6] 31))
 have HB4:=hid (HB3.out.alloc HB3.out.size (.cells #[.int .i64 p1,.int .i64 p2,.slice vA vn vc,.int .i64 p4,.string p5,.string p6] 31))
 have HV3:=hid (PRow.below ⟨HV.out,HTY.out⟩ hbl)
 have HD3:=hid (HD.out.under hbl)
 obtain⟨ZC,hzc,hres⟩:∃ ZC:Array Value,ZC=#[.int .i64 0,.slice none 0 0,.bool false,.int .i64 0,.slice none 0 0,.int .i64 0,.int .i64 0,.bool false,.int .i64 0,.int .i64 0,.int .i64 0,.int .i64 0,.int .i64 0,.int .i64 0,.int .i64 0,.int .i64 0,.int .i64 0,.int .i64 0,.bool false,.bool false,.bool false,.bool false,.bool false,.int .i64 0,.int .i64 0,.slice none 0 0,.int .i64 0,.string ⟨#[]⟩,.string ⟨#[]⟩,.int .i64 0,.slice none 0 0,.string ⟨#[]⟩]∧Box w1 (W.heap.size+1) 35 ZC:=⟨_,rfl,HX2.out⟩
 have HR2:=hid (hres.alloc (.cells #[.int .i64 p1,.int .i64 p2,.slice vA vn vc,.int .i64 p4,.string p5,.string p6] 31))
 have HZC:=hid hzc
 clear HX2 HB3 HY2 hbl HV HTY HD hres hzc
 generalize w1.alloc (.cells #[.int .i64 p1,.int .i64 p2,.slice vA vn vc,.int .i64 p4,.string p5,.string p6] 31)=w2 at *
 have HP2:=hid hP2
 have HC:=hid (HR.out _ HB4.out)
 have hne:¬ w1.heap.size=W.heap.size:=by omega
 have hne2:¬ W.heap.size=w1.heap.size:=by omega
 clear HR hP2 hz1
 go_upto_region 4 with (first
  | (refine qk (by rfl) 35 (.tmp 2) rfl W.heap.size rfl HY3.out _ Tryz.underlying35 (by kernel_rfl) HS.out ?_)
  | ((with_reducible refine HC.out.mono ?_);rintro e w3 ⟨rfl,hb3⟩;have hp4:=HP2.out.below hb3 HP2.out.lt;have HY4:=hid (HY3.out.below hb3 HY3.out.lt);have HB5:=hid (HB4.out.trans (hb3.mono HB4.out.size));have HV4:=hid (HV3.out.below hb3);have HD4:=hid (HD3.out.under hb3);have HR3:=hid (HR2.out.below hb3 HR2.out.lt);clear hb3))
 clear HC HY3 HB4 HP2 HV3 HD3
 have hb6:=((((((HB5.out.setCell (p:=⟨W.heap.size,23,none⟩) (Nat.le_refl _) (.int .i64 p1)).setCell (p:=⟨W.heap.size,24,none⟩) (Nat.le_refl _) (.int .i64 p2)).setCell (p:=⟨W.heap.size,25,none⟩) (Nat.le_refl _) (.slice vA vn vc)).setCell (p:=⟨W.heap.size,26,none⟩) (Nat.le_refl _) (.int .i64 p4)).setCell (p:=⟨W.heap.size,27,none⟩) (Nat.le_refl _) (.string p5)).setCell (p:=⟨W.heap.size,28,none⟩) (Nat.le_refl _) (.string p6))
 have hx6:=((((((HY4.out.set (i:=23) (.int .i64 p1)).set (i:=24) (.int .i64 p2)).set (i:=25) (.slice vA vn vc)).set (i:=26) (.int .i64 p4)).set (i:=27) (.string p5)).set (i:=28) (.string p6))
 have hu6:=(((((((But.refl W.heap.size w3).set (i:=23) (.int .i64 p1)).set (i:=24) (.int .i64 p2)).set (i:=25) (.slice vA vn vc)).set (i:=26) (.int .i64 p4)).set (i:=27) (.string p5)).set (i:=28) (.string p6))
 have HB6:=hid (show Below W.heap.size W (qew w3 W.heap.size 23 [.int .i64 p1,.int .i64 p2,.slice vA vn vc,.int .i64 p4,.string p5,.string p6]) from hb6)
 have HX6:=hid (show Box (qew w3 W.heap.size 23 [.int .i64 p1,.int .i64 p2,.slice vA vn vc,.int .i64 p4,.string p5,.string p6]) W.heap.size 35 _ from hx6)
 have HU6:=hid (show But W.heap.size w3 (qew w3 W.heap.size 23 [.int .i64 p1,.int .i64 p2,.slice vA vn vc,.int .i64 p4,.string p5,.string p6]) from hu6)
 have hsz:23+([.int .i64 p1,.int .i64 p2,.slice vA vn vc,.int .i64 p4,.string p5,.string p6]:List Value).length≤TL.size:=by rw[HZ.out];exact Nat.le_of_ble_eq_true rfl
 have HSZ:=hid hsz
 clear hb6 hx6 hu6 hsz
 have c0:w3.cell? ⟨w1.heap.size,0,none⟩=some (.int .i64 p1):=hp4.cell 0
 have c1:w3.cell? ⟨w1.heap.size,1,none⟩=some (.int .i64 p2):=hp4.cell 1
 have c2:w3.cell? ⟨w1.heap.size,2,none⟩=some (.slice vA vn vc):=hp4.cell 2
 have c3:w3.cell? ⟨w1.heap.size,3,none⟩=some (.int .i64 p4):=hp4.cell 3
 have c4:w3.cell? ⟨w1.heap.size,4,none⟩=some (.string p5):=hp4.cell 4
 have c5:w3.cell? ⟨w1.heap.size,5,none⟩=some (.string p6):=hp4.cell 5
 clear hp4
 go_upto_region 5 with (first
  | (refine wpList_plain (by rfl) fun K hK=>qhc 31 _ _ rfl W.heap.size 23 [.int .i64 p1,.int .i64 p2,.slice vA vn vc,.int .i64 p4,.string p5,.string p6] rfl rfl HY4.out HSZ.out (by kernel_rfl) (by simp[Value.oneCell']) (hK _ _ ?_)))
 clear c0 c1 c2 c3 c4 c5
 have hin4:=HIN.out.below HB6.out
 have hv6:=HV4.out.but HU6.out (HF.out.2.1.off (Nat.lt_succ_of_lt (Nat.lt_succ_self _)))
 have HR4:=hid (HR3.out.spared HU6.out (Nat.succ_ne_self _))
 have hd6:=HD4.out.but HF.out.2.2.2 HF.out.2.2.1 (Nat.lt_succ_of_lt (Nat.lt_succ_self _)) HU6.out
 generalize qew w3 W.heap.size 23 [.int .i64 p1,.int .i64 p2,.slice vA vn vc,.int .i64 p4,.string p5,.string p6]=w4 at *
 clear HR2 HR3 HU6 HB5 HV4 HD4 HY4 HSZ
 have hT4:=HT.out.below HB6.out
 have hW4:=HW.out.below HB6.out
 obtain⟨t2,ht2⟩:∃ t2:Tm,{ t with pa:=⟨p1,p2,p3,p4,p5,p6⟩ }=t2:=⟨_,rfl⟩
 have hx2:((((((TL.setIfInBounds 23 (.int .i64 p1)).setIfInBounds 24 (.int .i64 p2)).setIfInBounds 25 (.slice vA vn vc)).setIfInBounds 26 (.int .i64 p4)).setIfInBounds 27 (.string p5)).setIfInBounds 28 (.string p6))=t2.cells vg vm (.slice vA vn vc) vb:=by rw[← ht2,← HTL.out];rfl
 have HX7:=hid HX6.out
 rw[hx2] at HX7
 have hi2:TmIn w4 t2 vg vm (.slice vA vn vc) vb lg lm lb:=by
  rw[← ht2]
  exact⟨hin4.g,hin4.gc,hin4.gm,hin4.m,hin4.mc,hin4.mm,hin4.b,hin4.bc,hin4.bm,hv6.1⟩
 have hp2:RightT t2:=by rw[← ht2];exact HPA.out
 have htf:ds.foldl doT t2=tF:=by rw[← ht2];exact HTF.out
 have hz2:(t2.cells vg vm (.slice vA vn vc) vb).size=32:=rfl
 obtain⟨TM,hTM⟩:∃ TM,t2.cells vg vm (.slice vA vn vc) vb=TM:=⟨_,rfl⟩
 have HBT:=fun m=>built_term t2 vg vm (.slice vA vn vc) vb m
 rw[hTM] at HX7 hz2 HBT
 have HS2:=hid (show (Tryz.prog.info? 35).map (·.size)=some TM.size by rw[hz2];kernel_rfl)
 have HTM:=hid hTM
 have HI2:=hid hi2
 have hty6:Typed w4 (.slice vA vn vc) t2.pa.params:=by rw[← ht2];exact hv6.2
 have HTY6:=hid hty6
 have HRT2:=hid hp2
 have HTF2:=hid htf
 have HD7:=hid hd6
 have HT4:=hid hT4
 have HW4:=hid hW4
 have HBT:=hid HBT
 clear hty6 hTM hi2 hp2 htf hd6 hT4 hW4 hz2 hx2 ht2 hin4 hv6 HX6 HIN HPA HTL HS HZ HT HW HTF HRT
 have hS0:Box w4.drew W.heap.size 35 TM:=HX7.out
 refine qh (fun _ w'=>Box w' W.heap.size 35 TM) (by kernel_rfl) ?_
 refine qar (i:=0) (v:=.agg TM) 30 rfl rfl (by kernel_rfl) (by kernel_rfl) (by kernel_rfl) (by kernel_rfl) (fun _ _ _ h=>h) (yields_box (by rfl) 35 (.tmp 2) rfl W.heap.size rfl (fun _ h=>h) _ Tryz.underlying35 (by kernel_rfl) HS2.out) hS0 ?_
 (try simp only[zT]);(try simp only[zA]);(try simp only[zS]);(try simp only[zZ])
 refine qz (k:=1) (by kernel_rfl) rfl (by rfl) (fun K hK=>?_)
 go_simp
 go_at_call 39
 refine(controls_any _).mono ?_
 rintro e w5 ⟨mv,rfl,hmp,hb5⟩
 dsimp only
 have hb5:Below w4.heap.size w4 w5:=(Below.refl _ w4).drew.trans hb5
 have hS5:=HX7.out.below hb5 HX7.out.lt
 obtain⟨m,hm⟩:∃ m,mv=.map (some m):=by obtain⟨m,_,h,_⟩:=hmp;exact⟨m,h⟩
 subst hm
 have HMP:=hid hmp
 have HB7:=hid (HB6.out.trans (hb5.mono HB6.out.size))
 have HI5:=hid (HI2.out.below hb5)
 have HTY5:=hid (HTY6.out.below hb5)
 have HD5:=hid (HD7.out.under hb5)
 have HT5:=hid (HT4.out.below hb5)
 have HW5:=hid (HW4.out.below hb5)
 have HR5:=hid (HR4.out.below hb5 HR4.out.lt)
 clear hmp hb5 HTY6 HR4 HI2 HD7 HT4 HW4 HX7 HB6
 refine hK _ _ hS5 ?_
 clear hK K hS0
 (try simp only[zT]);(try simp only[zA]);(try simp only[zS]);(try simp only[zZ])
 refine qar (i:=2) (v:=.agg (t2.all vg vm (.slice vA vn vc) vb (.map (some m)))) 32 rfl rfl (by kernel_rfl) (by kernel_rfl) (by kernel_rfl) (by kernel_rfl) (fun _ _ _ h=>h) (yields_build (by rfl) 89 (.tmp 30) (.tmp 31) rfl (.agg TM) (.map (some m)) rfl rfl _ (HBT.out m)) hS5 ?_
 (try simp only[zT]);(try simp only[zA]);(try simp only[zS]);(try simp only[zZ])
 have HTA:=hid (tat_new HI5.out HTY5.out HMP.out (Below.refl _ w5) HT5.out HW5.out)
 have HBN:=hid (HB7.out.alloc HB7.out.size (.cells (t2.all vg vm (.slice vA vn vc) vb (.map (some m))) 89))
 have HD8:=hid (fun (W':World) (h:But w5.heap.size (w5.alloc (.cells (t2.all vg vm (.slice vA vn vc) vb (.map (some m))) 89)) W')=>HD5.out.held (qa w5 _) (Nat.le_refl _) h)
 have HOF:=hid (show ∀ (k:Nat) (d:Dn) (v:Value),lv[k]?=some (d,v)→d.params≠[]→qcq w5.heap.size v from fun k d v hk hn=>by
  obtain⟨_,_,_,_,hp⟩:=HD5.out.at hk
  exact ir_off hp (Nat.le_refl _) hn)
 have HR6:=hid (HR5.out.alloc (.cells (t2.all vg vm (.slice vA vn vc) vb (.map (some m))) 89))
 have hne5:¬ W.heap.size+1=w5.heap.size:=Nat.ne_of_lt HR5.out.lt
 have HLE:=hid (show W.heap.size≤w5.heap.size from HB7.out.size)
 have hS6:=hS5.alloc (.cells (t2.all vg vm (.slice vA vn vc) vb (.map (some m))) 89)
 have hsz5:w5.heap.size < (w5.alloc (.cells (t2.all vg vm (.slice vA vn vc) vb (.map (some m))) 89)).heap.size:=by simp
 obtain⟨TA,hTA⟩:∃ TA,t2.all vg vm (.slice vA vn vc) vb (.map (some m))=TA:=⟨_,rfl⟩
 rw[hTA] at HTA HBN HD8 HR6 hS6 hsz5 ⊢
 clear hTA HTY5 HR5 HD5 HMP HI5 HT5 HW5 HS2
 refine qz (k:=3) (by kernel_rfl) rfl (by rfl) (fun K hK=>?_)
 go_simp
 refine hK _ _ hS6 ?_
 clear hK K
 refine tC 4 hS6 ?_
 refine qal (by kernel_rfl) ?_ _
 clear hS5 hS6 hb5
 generalize w5.alloc (.cells TA 89)=w6 at *
 obtain⟨b,hbq⟩:∃ b,w5.heap.size=b:=⟨_,rfl⟩
 rw[hbq] at HTA HD8 HOF hsz5 hne5 HLE ⊢
 clear hbq HB7
 have HNE:=hid hne5
 have HBS:=hid hsz5
 clear hne5 hsz5
 go_wp2
 go_loopw [36] (fun i wr=>∃ k:Nat,k≤n∧i=.int .i64 k∧TAt MP b (.map (some m)) ((ds.take k).foldl qhj t2) wr∧But b w6 wr) (fun i _=>n - (intOf i).toNat)
 case atStart=>exact⟨0,Nat.zero_le _,rfl,HTA.out,But.refl _ _⟩
 case round =>
  obtain⟨k,hk,rfl,hta,hbt⟩:=hrel
  by_cases hlt:k < n
  ·have hkl:k < lv.length:=by rw[HN.out];exact hlt
   obtain⟨⟨d,v⟩,hkv⟩:∃ e,lv[k]?=some e:=⟨_,List.getElem?_eq_getElem hkl⟩
   have hds:ds[k]?=some d:=by rw[← HLV.out,List.getElem?_map,hkv];rfl
   have hmem:d∈ds:=List.mem_of_getElem? hds
   have hml:(d,v)∈lv:=List.mem_of_getElem? hkv
   obtain⟨hsd,hok⟩:=HSD.out d hmem
   have hn6:n≤1000000:=by have h1:=HNB.out;have h2:=HN.out;rw[← HLV.out,List.length_map] at h1;omega
   have hrk:=qh6 (ds.take k) (fun e he=>(HSD.out e (List.mem_of_mem_take he)).1) HRT2.out
   obtain⟨g,rfl,hg,⟨c0,c1,c2,c3,c4,c5,c6⟩,hpd⟩:=(HD8.out wr hbt).at hkv
   have hof:=HOF.out k d v hkv
   have hcp:=HF.out.1 _ hml
   have hst:=fold_step (t:=t2) hds
   have htk:=tk_any (hta.alloc (.cells (d.cells v) 91)) hrk d v (hpd.below (qa _ _)) ⟨hof,hcp⟩ hok.1 hok.w1 hok.w2 hsd.text
   have hbk:=hbt.trans (But.of_below (b:=b) (qa wr (.cells (d.cells v) 91)))
   rw[← hst] at htk
   obtain⟨vA2,vc2,hvs,_⟩:=id hpd
   subst hvs
   unfold Dn.cells at htk hbk
   have HTK:=hid htk
   have HBK:=hid hbk
   clear htk hbk hst hcp hof hpd hrk hsd hok hml hmem hds hkv hta hbt
   go_wp2_with (go_at_call 40;refine HTK.out.mono ?_;rintro e w8 ⟨rfl,h8,hb8⟩;have H8:=hid h8;have HB8:=hid (HBK.out.trans hb8);clear h8 hb8)
   go_roundw
   case rel=>exact⟨k+1,by omega,by go_num,H8.out,HB8.out⟩
   case measure=>simp[intOf];omega
  ·obtain rfl:k=n:=by omega
   have hdl:ds.length≤k:=by have h2:=HN.out;rw[← HLV.out,List.length_map];omega
   have hfd:=qmt ds t2 (fun d hd=>(HSD.out d hd).1)
   have hrF:RightT tF:=by
    rw[← HTF2.out,← hfd]
    exact qh6 ds (fun d hd=>(HSD.out d hd).1) HRT2.out
   rw[List.take_of_length_le hdl,hfd,HTF2.out] at hta
   obtain⟨_,vg',vm',vp',vb',lg',lm',lb',hbox,hx⟩:=hta
   have hz6:=HR6.out.spared hbt HNE.out
   rw[HZC.out] at hz6
   have hpo:tF.pa.params≠[]→qcq (W.heap.size+1) vp':=hx.p.2.off hz6 (by decide)
   have hbw:=HBN.out.trans ((hbt.below (Nat.le_of_lt HBS.out)).mono HLE.out)
   obtain⟨gA,gc,hgs,_⟩:=hx.g.spell
   obtain⟨mA,mc,hms,_⟩:=hx.m.spell
   obtain⟨kA,kc,hks,_⟩:=hx.k.spell
   obtain⟨qA,qc,hqs,_⟩:=hx.p.1
   obtain⟨CL,hCL⟩:∃ CL,(tF.cells vg' vm' vp' vb').toList=CL:=⟨_,rfl⟩
   have hl1:(tF.all vg' vm' vp' vb' (.map (some m))).toList.take CL.length=CL:=by rw[← hCL];rfl
   have hln:CL.length=32:=by rw[← hCL];rfl
   have h1c:∀ v∈CL,v.oneCell'=true:=by
    rw[← hCL,hgs,hms,hks,hqs]
    simp[Tm.cells,Value.oneCell']
   have hca:CL.toArray=tF.cells vg' vm' vp' vb':=by rw[← hCL,Array.toArray_toList]
   have HTI:=hid (hx.outOf hrF hz6 hpo (qdb wr (W.heap.size+1) CL.toArray))
   have HTY:=hid (PRow.but hx.p (qdb wr (W.heap.size+1) CL.toArray) hpo).2
   have HBF:=hid (qb6 hbw (Nat.le_succ _) CL.toArray)
   have hxf:=hz6.setRow CL.toArray
   have HXF:=hid hxf
   have HZ6:=hid hz6
   have HBX:=hid hbox
   have HL1:=hid hl1
   have HI:=hid (show (Tryz.prog.info? 35).map (·.size)=some CL.length by rw[hln];kernel_rfl)
   have HI2:=hid (show (Tryz.prog.info? 35).map (·.size)=some CL.toArray.size by rw[List.size_toArray,hln];kernel_rfl)
   have H1C:=hid h1c
   have HLN:=hid (show CL.length≤(#[.int .i64 0,.slice none 0 0,.bool false,.int .i64 0,.slice none 0 0,.int .i64 0,.int .i64 0,.bool false,.int .i64 0,.int .i64 0,.int .i64 0,.int .i64 0,.int .i64 0,.int .i64 0,.int .i64 0,.int .i64 0,.int .i64 0,.int .i64 0,.bool false,.bool false,.bool false,.bool false,.bool false,.int .i64 0,.int .i64 0,.slice none 0 0,.int .i64 0,.string ⟨#[]⟩,.string ⟨#[]⟩,.int .i64 0,.slice none 0 0,.string ⟨#[]⟩]:Array Value).size by rw[hln];exact Nat.le_refl _)
   have HDR:=hid (show CL ++ (#[.int .i64 0,.slice none 0 0,.bool false,.int .i64 0,.slice none 0 0,.int .i64 0,.int .i64 0,.bool false,.int .i64 0,.int .i64 0,.int .i64 0,.int .i64 0,.int .i64 0,.int .i64 0,.int .i64 0,.int .i64 0,.int .i64 0,.int .i64 0,.bool false,.bool false,.bool false,.bool false,.bool false,.int .i64 0,.int .i64 0,.slice none 0 0,.int .i64 0,.string ⟨#[]⟩,.string ⟨#[]⟩,.int .i64 0,.slice none 0 0,.string ⟨#[]⟩]:Array Value).toList.drop CL.length=CL by rw[hln];exact List.append_nil _)
   have HCA:=hid hca
   clear hdl hfd hrF hx hbox hz6 hpo hbw hgs hms hks hqs hCL hl1 hln h1c hca hxf hbt HD8 HF HR6 HTA HBN HNB HSD HOF
   go_wp2_with (first
    | (refine qhi rfl 35 (.tmp 46) rfl b rfl CL HBX.out HL1.out _ Tryz.underlying35 (by kernel_rfl) HI.out ?_)
    | (refine qbj rfl 35 (.tmp 4) (.tmp 47) rfl (W.heap.size+1) CL rfl rfl HZ6.out HLN.out HI.out H1C.out ?_;rw[HDR.out]))
   exact bodyPost_ret (v:=.tuple #[.agg CL.toArray,.int .i64 0]) (qf4 (t:=35) (i:=4) (j:=5) (a:=⟨W.heap.size+1,0,none⟩) (by kernel_rfl) rfl rfl (HXF.out.loadVar Tryz.underlying35 rfl HI2.out)) rfl ⟨vg',vm',vp',vb',lg',lm',lb',by rw[HCA.out],HTI.out,HTY.out,HBF.out⟩
end Go.Proofs.YtpdaekmbpafenaaGreatDoor
