
import Derived.Test.YtpdaekmbpafenaaGreatDoorTermCaQ
import Derived.Test.YtpdaekmbpafenaaGreatDoorTermEsQ
import Derived.Test.YtpdaekmbpafenaaGreatDoorTermRhQ
import Derived.Test.YtpdaekmbpafenaaGreatDoorTermWrQ
namespace Go.Proofs.YtpdaekmbpafenaaGreatDoor
set_option maxHeartbeats 2000000
set_option maxRecDepth 100000
open Go.RowKit
section
variable {b:Nat} {mv:Value} {t:Tm} {W:World}
def qhj (t:Tm) (d:Dn):Tm :=
 if d.inter≠0 then t
 else if d.kind=1 then qfj t d.rune else if d.kind=2 then qhq t d.code else if d.kind=3 then escC t d.code else if d.kind=4 then doC t d
 else if d.kind=5 then entT t d.text else t
theorem tk_print (h : TAt MP b mv t W) (hr : RightT t) (d : Dn) (v : Value) (e0 : d.inter = 0) (e1 : d.kind = 1) :
  Calls Tryz.prog 40 #[.pointer (some ⟨b,0,none⟩),.agg (d.cells v)] W (qu MP b mv W (qfj t d.rune)):=by
 have hba:=qa W (.cells (d.cells v) 91)
 have h1:=h.below hba
 have HC:=hid (print_any' h1 hr.well d.rune)
 have HB:=hid (But.of_below (b:=b) hba)
 have hbx:=Box.new W 91 (d.cells v)
 have k5:=hbx.cell 5
 have k0:=hbx.cell 0
 rw[show (d.cells v)[5]?=some (.int .i64 d.inter) from rfl,e0] at k5
 rw[show (d.cells v)[0]?=some (.int .i64 d.kind) from rfl,e1] at k0
 have k1:=hbx.cell 1
 rw[show (d.cells v)[1]?=some (.int .i32 d.rune) from rfl] at k1
 have hql:=hbx.lt
 clear hbx
 clear h h1 hr hba e0 e1
 go_enter Tryz.func40,Tryz.ntmps40
 go_upto_region 1 with fail
 generalize W.alloc (.cells (d.cells v) 91)=W1 at *
 generalize W.heap.size=q at *
 go_wp2_with ((with_reducible refine HC.out.mono ?_);rintro e wn ⟨rfl,h5,h6⟩)
 go_end0
 exact⟨rfl,h5,HB.out.trans h6⟩
theorem tk_exec (h : TAt MP b mv t W) (hr : RightT t) (d : Dn) (v : Value) (e0 : d.inter = 0) (e1 : d.kind = 2) :
  Calls Tryz.prog 40 #[.pointer (some ⟨b,0,none⟩),.agg (d.cells v)] W (qu MP b mv W (qhq t d.code)):=by
 have hba:=qa W (.cells (d.cells v) 91)
 have h1:=h.below hba
 have HC:=hid (texec_any h1 hr.well d.code)
 have HB:=hid (But.of_below (b:=b) hba)
 have hbx:=Box.new W 91 (d.cells v)
 have k5:=hbx.cell 5
 have k0:=hbx.cell 0
 rw[show (d.cells v)[5]?=some (.int .i64 d.inter) from rfl,e0] at k5
 rw[show (d.cells v)[0]?=some (.int .i64 d.kind) from rfl,e1] at k0
 have k2:=hbx.cell 2
 rw[show (d.cells v)[2]?=some (.int .i64 d.code) from rfl] at k2
 have hql:=hbx.lt
 clear hbx
 clear h h1 hr hba e0 e1
 go_enter Tryz.func40,Tryz.ntmps40
 go_upto_region 1 with fail
 generalize W.alloc (.cells (d.cells v) 91)=W1 at *
 generalize W.heap.size=q at *
 go_wp2_with ((with_reducible refine HC.out.mono ?_);rintro e wn ⟨rfl,h5,h6⟩)
 go_end0
 exact⟨rfl,h5,HB.out.trans h6⟩
theorem tk_esc (h : TAt MP b mv t W) (hr : RightT t) (d : Dn) (v : Value) (e0 : d.inter = 0) (e1 : d.kind = 3) :
  Calls Tryz.prog 40 #[.pointer (some ⟨b,0,none⟩),.agg (d.cells v)] W (qu MP b mv W (escC t d.code)):=by
 have hba:=qa W (.cells (d.cells v) 91)
 have h1:=h.below hba
 have HC:=hid (escape_any h1 hr hr.well d.code)
 have HB:=hid (But.of_below (b:=b) hba)
 have hbx:=Box.new W 91 (d.cells v)
 have k5:=hbx.cell 5
 have k0:=hbx.cell 0
 rw[show (d.cells v)[5]?=some (.int .i64 d.inter) from rfl,e0] at k5
 rw[show (d.cells v)[0]?=some (.int .i64 d.kind) from rfl,e1] at k0
 have k2:=hbx.cell 2
 rw[show (d.cells v)[2]?=some (.int .i64 d.code) from rfl] at k2
 have hql:=hbx.lt
 clear hbx
 clear h h1 hr hba e0 e1
 go_enter Tryz.func40,Tryz.ntmps40
 go_upto_region 1 with fail
 generalize W.alloc (.cells (d.cells v) 91)=W1 at *
 generalize W.heap.size=q at *
 go_wp2_with ((with_reducible refine HC.out.mono ?_);rintro e wn ⟨rfl,h5,h6⟩)
 go_end0
 exact⟨rfl,h5,HB.out.trans h6⟩
theorem tk_osc (h : TAt MP b mv t W) (d : Dn) (v : Value) (hs : d.text.size ≤ 1000000) (e0 : d.inter = 0) (e1 : d.kind = 5) :
  Calls Tryz.prog 40 #[.pointer (some ⟨b,0,none⟩),.agg (d.cells v)] W (qu MP b mv W (entT t d.text)):=by
 have hba:=qa W (.cells (d.cells v) 91)
 have h1:=h.below hba
 have HC:=hid (entitle_any h1 d.text hs)
 have HB:=hid (But.of_below (b:=b) hba)
 have hbx:=Box.new W 91 (d.cells v)
 have k5:=hbx.cell 5
 have k0:=hbx.cell 0
 rw[show (d.cells v)[5]?=some (.int .i64 d.inter) from rfl,e0] at k5
 rw[show (d.cells v)[0]?=some (.int .i64 d.kind) from rfl,e1] at k0
 have k6:=hbx.cell 6
 rw[show (d.cells v)[6]?=some (.string d.text) from rfl] at k6
 have hql:=hbx.lt
 clear hbx
 clear h h1 hba hs e0 e1
 go_enter Tryz.func40,Tryz.ntmps40
 go_upto_region 1 with fail
 generalize W.alloc (.cells (d.cells v) 91)=W1 at *
 generalize W.heap.size=q at *
 go_wp2_with ((with_reducible refine HC.out.mono ?_);rintro e wn ⟨rfl,h5,h6⟩)
 go_end0
 exact⟨rfl,h5,HB.out.trans h6⟩
theorem tk_csi (h : TAt MP b mv t W) (hr : RightT t) (d : Dn) (v : Value) (hp : IRow W v d.params) (hof : (d.params ≠ [] → qcq b v) ∧ qgv v) (hl : ParsOk d.params) (w1 : (Lit.int .i64 d.priv).wf = true) (w2 : (Lit.int .i64 d.code).wf = true) (e0 : d.inter = 0) (e1 : d.kind = 4) :
  Calls Tryz.prog 40 #[.pointer (some ⟨b,0,none⟩),.agg (d.cells v)] W (qu MP b mv W (doC t d)):=by
 have hba:=qa W (.cells (d.cells v) 91)
 have h1:=h.below hba
 have HC:=hid (control_any h1 hr d v (hp.below hba) hof hl w1 w2)
 have HB:=hid (But.of_below (b:=b) hba)
 have hbx:=Box.new W 91 (d.cells v)
 have k5:=hbx.cell 5
 have k0:=hbx.cell 0
 rw[show (d.cells v)[5]?=some (.int .i64 d.inter) from rfl,e0] at k5
 rw[show (d.cells v)[0]?=some (.int .i64 d.kind) from rfl,e1] at k0
 have k1:=hbx.cell 1
 rw[show (d.cells v)[1]?=some (.int .i32 d.rune) from rfl] at k1
 have k2:=hbx.cell 2
 rw[show (d.cells v)[2]?=some (.int .i64 d.code) from rfl] at k2
 have k3:=hbx.cell 3
 rw[show (d.cells v)[3]?=some (.int .i64 d.priv) from rfl] at k3
 have k4:=hbx.cell 4
 rw[show (d.cells v)[4]?=some (v) from rfl] at k4
 have k6:=hbx.cell 6
 rw[show (d.cells v)[6]?=some (.string d.text) from rfl] at k6
 have hql:=hbx.lt
 have hlit:d.cells v=#[.int .i64 4,.int .i32 d.rune,.int .i64 d.code,.int .i64 d.priv,v,.int .i64 0,.string d.text]:=by unfold Dn.cells;rw[e1,e0]
 have HC2:Hid (Calls Tryz.prog 106 #[.pointer (some ⟨b,0,none⟩),.agg #[.int .i64 4,.int .i32 d.rune,.int .i64 d.code,.int .i64 d.priv,v,.int .i64 0,.string d.text]] (W.alloc (.cells (d.cells v) 91)) (qu MP b mv (W.alloc (.cells (d.cells v) 91)) (doC t d))):=by rw[← hlit];exact HC
 clear HC hbx hlit
 clear h h1 hr hba hp hof hl w1 w2 e0 e1
 go_enter Tryz.func40,Tryz.ntmps40
 go_upto_region 1 with fail
 generalize W.alloc (.cells (d.cells v) 91)=W1 at *
 generalize W.heap.size=q at *
 go_wp2_with ((with_reducible refine HC2.out.mono ?_);rintro e wn ⟨rfl,h5,h6⟩)
 go_end0
 exact⟨rfl,h5,HB.out.trans h6⟩
theorem tk_inter (h : TAt MP b mv t W) (d : Dn) (v : Value) (e0 : ¬ d.inter = 0) :
  Calls Tryz.prog 40 #[.pointer (some ⟨b,0,none⟩),.agg (d.cells v)] W (qu MP b mv W t):=by
 have hba:=qa W (.cells (d.cells v) 91)
 have HT:=hid (h.below hba)
 have HB:=hid (But.of_below (b:=b) hba)
 have hbx:=Box.new W 91 (d.cells v)
 have k5:=hbx.cell 5
 have k0:=hbx.cell 0
 rw[show (d.cells v)[5]?=some (.int .i64 d.inter) from rfl] at k5
 rw[show (d.cells v)[0]?=some (.int .i64 d.kind) from rfl] at k0
 have hql:=hbx.lt
 have n0:(d.inter == 0)=false:=by simpa using e0
 clear h hba hbx
 go_enter Tryz.func40,Tryz.ntmps40
 go_upto_region 1 with fail
 generalize W.alloc (.cells (d.cells v) 91)=W1 at *
 generalize W.heap.size=q at *
 go_wp2
 exact bodyPost_ret (v:=.tuple #[]) (by simp[results,Tryz.results40,go_sem]) rfl ⟨rfl,HT.out,HB.out⟩
theorem tk_other (h : TAt MP b mv t W) (d : Dn) (v : Value) (e0 : d.inter = 0) (q1 : ¬ d.kind = 1) (q2 : ¬ d.kind = 2) (q3 : ¬ d.kind = 3) (q4 : ¬ d.kind = 4) (q5 : ¬ d.kind = 5) :
  Calls Tryz.prog 40 #[.pointer (some ⟨b,0,none⟩),.agg (d.cells v)] W (qu MP b mv W t):=by
 have hba:=qa W (.cells (d.cells v) 91)
 have HT:=hid (h.below hba)
 have HB:=hid (But.of_below (b:=b) hba)
 have hbx:=Box.new W 91 (d.cells v)
 have k5:=hbx.cell 5
 have k0:=hbx.cell 0
 rw[show (d.cells v)[5]?=some (.int .i64 d.inter) from rfl] at k5
 rw[show (d.cells v)[0]?=some (.int .i64 d.kind) from rfl] at k0
 have hql:=hbx.lt
 rw[e0] at k5
 have n1:(d.kind == 1)=false:=by simpa using q1
 have n2:(d.kind == 2)=false:=by simpa using q2
 have n3:(d.kind == 3)=false:=by simpa using q3
 have n4:(d.kind == 4)=false:=by simpa using q4
 have n5:(d.kind == 5)=false:=by simpa using q5
 clear h hba hbx
 go_enter Tryz.func40,Tryz.ntmps40
 go_upto_region 1 with fail
 generalize W.alloc (.cells (d.cells v) 91)=W1 at *
 generalize W.heap.size=q at *
 go_wp2
 go_end0
 exact⟨rfl,HT.out,HB.out⟩
theorem tk_any (h : TAt MP b mv t W) (hr : RightT t) (d : Dn) (v : Value) (hp : IRow W v d.params) (hof : (d.params ≠ [] → qcq b v) ∧ qgv v) (hl : ParsOk d.params)
  (w1:(Lit.int .i64 d.priv).wf=true) (w2:(Lit.int .i64 d.code).wf=true) (hs:d.text.size≤1000000) :
  Calls Tryz.prog 40 #[.pointer (some ⟨b,0,none⟩),.agg (d.cells v)] W (qu MP b mv W (qhj t d)):=by
 unfold qhj
 by_cases e0:d.inter=0
 ·rw[if_neg (by simp[e0])]
  by_cases q1:d.kind=1
  ·rw[if_pos q1];exact tk_print h hr d v e0 q1
  rw[if_neg q1]
  by_cases q2:d.kind=2
  ·rw[if_pos q2];exact tk_exec h hr d v e0 q2
  rw[if_neg q2]
  by_cases q3:d.kind=3
  ·rw[if_pos q3];exact tk_esc h hr d v e0 q3
  rw[if_neg q3]
  by_cases q4:d.kind=4
  ·rw[if_pos q4];exact tk_csi h hr d v hp hof hl w1 w2 e0 q4
  rw[if_neg q4]
  by_cases q5:d.kind=5
  ·rw[if_pos q5];exact tk_osc h d v hs e0 q5
  rw[if_neg q5]
  exact tk_other h d v e0 q1 q2 q3 q4 q5
 ·rw[if_pos e0];exact tk_inter h d v e0
end
theorem pre_ttl {s:ByteArray} {x:UInt8}:pre s ⟨#[x,59]⟩=true↔2≤s.size∧qb s 0=(x.toNat:Int)∧qb s 1=59:=by
 have e2:(⟨#[x,59]⟩:ByteArray).size=2:=rfl
 have b0:qb ⟨#[x,59]⟩ 0=(x.toNat:Int):=rfl
 have b1:qb ⟨#[x,59]⟩ 1=59:=rfl
 refine⟨fun h=>?_,fun ⟨h1,h2,h3⟩=>?_⟩
 ·have h0:=pre_byte h (i:=0) (by omega)
  have h1:=pre_byte h (i:=1) (by omega)
  rw[b0] at h0
  rw[b1] at h1
  exact⟨by omega,h0.1,h1.1⟩
 ·unfold pre
  rw[decide_eq_true_iff]
  refine⟨by omega,?_⟩
  apply qdx
  ·rw[ql];omega
  ·intro i hi
   rw[ql] at hi
   rw[qa9 _ _ _ _ (by omega),Nat.zero_add]
   rcases (by omega:i=0∨i=1) with rfl | rfl
   ·rw[b0];exact h2
   ·rw[b1];exact h3
theorem entT_osc (t:Tm) (s:ByteArray):entT t s=oscT t s:=by
 have p0:pre s ⟨#[48,59]⟩=true↔2≤s.size∧qb s 0=48∧qb s 1=59:=pre_ttl
 have p2:pre s ⟨#[50,59]⟩=true↔2≤s.size∧qb s 0=50∧qb s 1=59:=pre_ttl
 have b0:pre s ⟨#[48,59]⟩=true→behind s ⟨#[48,59]⟩=s.extract 2 s.size:=fun h=>by unfold behind;rw[if_pos h];rfl
 have b2:pre s ⟨#[50,59]⟩=true→behind s ⟨#[50,59]⟩=s.extract 2 s.size:=fun h=>by unfold behind;rw[if_pos h];rfl
 have hz:(s.extract 2 s.size).size=s.size - 2:=by rw[ql];omega
 have ht:qea (s.extract 2 s.size)=true↔s.size≤34∧qce (s.extract 2 s.size)=true:=by
  unfold qea
  rw[Bool.and_eq_true,decide_eq_true_iff,hz]
  exact⟨fun h=>⟨by omega,h.2⟩,fun h=>⟨by omega,h.2⟩⟩
 unfold entT oscT
 by_cases h0:pre s ⟨#[48,59]⟩=true
 ·rw[if_pos h0,b0 h0]
  have q:=p0.1 h0
  by_cases hb:qea (s.extract 2 s.size)=true
  ·rw[if_pos hb,if_pos ⟨q.1,(ht.1 hb).1,.inl q.2.1,q.2.2,(ht.1 hb).2⟩]
  ·rw[if_neg hb,if_neg (fun h=>hb (ht.2 ⟨h.2.1,h.2.2.2.2⟩))]
 ·rw[if_neg h0]
  by_cases h2:pre s ⟨#[50,59]⟩=true
  ·rw[if_pos h2,b2 h2]
   have q:=p2.1 h2
   by_cases hb:qea (s.extract 2 s.size)=true
   ·rw[if_pos hb,if_pos ⟨q.1,(ht.1 hb).1,.inr q.2.1,q.2.2,(ht.1 hb).2⟩]
   ·rw[if_neg hb,if_neg (fun h=>hb (ht.2 ⟨h.2.1,h.2.2.2.2⟩))]
  ·rw[if_neg h2,if_neg]
   rintro⟨g1,_,g3 | g3,g4,_⟩
   ·exact h0 (p0.2 ⟨g1,g3,g4⟩)
   ·exact h2 (p2.2 ⟨g1,g3,g4⟩)
def SentD (d:Dn):Prop:=(∃ r,d=qb8 r)∨(∃ c,d=qeg c)∨(∃ t:ByteArray,t.size≤64∧d=dOsc t)∨(∃ i c,d=dEsc i c)∨(∃ p c,d=dCsi p c)
theorem takeT_doT {d:Dn} (h:SentD d) (t:Tm):qhj t d=doT t d:=by
 rcases h with ⟨r,rfl⟩ | ⟨c,rfl⟩ | ⟨s,_,rfl⟩ | ⟨i,c,rfl⟩ | ⟨p,c,rfl⟩
 ·rfl
 ·rfl
 ·exact entT_osc t s
 ·by_cases hi:i=0
  ·subst hi
   exact(escT_c (d:=dEsc 0 c) rfl).symm
  ·have e:doT t (dEsc i c)=escT t (dEsc i c):=rfl
   rw[e]
   unfold qhj escT
   rw[if_pos (show (dEsc i c).inter≠0 from hi),if_pos (show (dEsc i c).inter≠0 from hi)]
 ·by_cases hi:p.inter=0
  ·unfold qhj doT doC
   rw[if_neg (show ¬ (dCsi p c).inter≠0 from fun h=>h hi),if_neg (show ¬ (dCsi p c).inter≠0 from fun h=>h hi)]
   rfl
  ·unfold qhj doT
   rw[if_pos (show (dCsi p c).inter≠0 from hi),if_pos (show (dCsi p c).inter≠0 from hi)]
   rfl
theorem qbf:∀ d∈([]:List Dn),SentD d:=fun _ h=>nomatch h
theorem qer {d:Dn} (h:SentD d):∀ e∈[d],SentD e:=fun e he=>by rw[List.mem_singleton] at he;exact he ▸ h
theorem sent_last (p:Pa) (c:Int):∀ d∈(qc1 p c).2,SentD d:=by
 unfold qc1
 split
 ·exact qer (.inr (.inr (.inr (.inr ⟨p,c,rfl⟩))))
 ·split <;> exact qbf
theorem sent_csi (p:Pa) (c:Int):∀ d∈(qgu p c).2,SentD d:=by
 unfold qgu
 split
 ·exact qbf
 ·split
  ·split <;> exact qbf
  ·split
   ·exact qbf
   ·split
    ·exact qbf
    ·exact sent_last p c
theorem sent_esc (p:Pa) (c:Int):∀ d∈(qe9 p c).2,SentD d:=by
 unfold qe9
 repeat' split
 all_goals first | exact qbf | exact qer (.inr (.inr (.inr (.inl ⟨_,_,rfl⟩))))
theorem sent_osc (p:Pa) (c:Int) (h:p.osc.size≤64):∀ d∈(oscP p c).2,SentD d:=by
 unfold oscP
 repeat' split
 all_goals first | exact qbf | exact qer (.inr (.inr (.inl ⟨_,h,rfl⟩)))
theorem sent_high (p:Pa) (c:Int):∀ d∈(qh4 p c).2,SentD d:=by
 unfold qh4
 split
 ·exact qbf
 ·exact qer (.inl ⟨_,rfl⟩)
theorem qch {P:Prop} [Decidable P] {a b:Pa×List Dn} (ha:∀ d∈a.2,SentD d) (hb:∀ d∈b.2,SentD d):∀ d∈(if P then a else b).2,SentD d:=by
 by_cases h:P
 ·rw[if_pos h];exact ha
 ·rw[if_neg h];exact hb
theorem qmr {P:Prop} [Decidable P] {a b:List Dn} (ha:∀ d∈a,SentD d) (hb:∀ d∈b,SentD d):∀ d∈(if P then a else b),SentD d:=by
 by_cases h:P
 ·rw[if_pos h];exact ha
 ·rw[if_neg h];exact hb
theorem sent_one (p:Pa) (c:Int) (h:p.osc.size≤64):∀ d∈(oneP p c).2,SentD d:=by
 unfold oneP
 have x:∀ c,SentD (qeg c):=fun c=>.inr (.inl ⟨_,rfl⟩)
 have o:SentD (dOsc p.osc):=.inr (.inr (.inl ⟨_,h,rfl⟩))
 refine qch (qmr qbf (qer (x c))) ?_
 refine qch (qmr (qer o) qbf) ?_
 refine qch (sent_osc p c h) ?_
 refine qch qbf ?_
 refine qch (qer (x c)) ?_
 refine qch (qch (sent_high p c) (qmr (qer (.inl ⟨_,rfl⟩)) qbf)) ?_
 refine qch (sent_esc p c) ?_
 refine qch (sent_csi p c) ?_
 refine qch (sent_last p c) ?_
 exact qch (qch qbf qbf) (qch qbf qbf)
theorem sent_take (p:Pa) (c:Int) (h:p.osc.size≤64):∀ d∈(qc6 p c).2,SentD d:=by
 unfold qc6
 split
 ·exact sent_one p c h
 split
 ·exact qbf
 split
 ·dsimp only;split
  ·exact qer (.inl ⟨_,rfl⟩)
  ·exact qbf
 split
 ·intro d hd
  rcases List.mem_cons.1 hd with rfl | hd
  ·exact .inl ⟨_,rfl⟩
  ·exact sent_one { p with pend:=nilB } c h d hd
 ·exact qer (.inl ⟨_,rfl⟩)
theorem right_osc64 {p:Pa} (h:qan p):p.osc.size≤64:=by
 have e:nilB.size=0:=rfl
 rcases h with h | h | h | h | h | h
 ·rw[h.2.2.2.2.1];omega
 ·rw[h.2.2.2.2.1];omega
 ·rw[h.2.2.2.2.1];omega
 ·rw[h.2.1.2.2.2.1];omega
 ·rw[h.2.1.2.2.2.1];omega
 ·exact h.2.2.2.2.1
def OkD (d:Dn):Prop:=ParsOk d.params∧(0≤d.priv∧d.priv≤63)∧(0≤d.code∧d.code≤255)
def qip (p:Pa):Prop:=ParsOk p.params∧0≤p.priv∧p.priv≤63
theorem parts_right {p:Pa} (h:qan p):qip p:=by
 have e:ParsOk []:=⟨Nat.zero_le _,fun _ h=>nomatch h⟩
 have q:∀ {p:Pa},parR p→qip p:=fun h=>⟨⟨by have:=h.2.1;omega,h.1⟩,by have:=h.2.2.1;omega⟩
 have z:∀ {p:Pa},p.priv=0→p.params=[]→qip p:=fun h1 h2=>⟨h2 ▸ e,by omega,by omega⟩
 rcases h with h | h | h | h | h | h
 ·exact z h.2.1 h.2.2.1
 ·exact z h.2.1 h.2.2.1
 ·exact z h.2.1 h.2.2.1
 ·exact q h.2.1
 ·exact q h.2.1
 ·exact z h.2.1 h.2.2.1
theorem qlk {d:Dn} (h:d.params=[]) (h2:d.priv=0) (h3:0≤d.code∧d.code≤255):OkD d:=by
 refine⟨?_,by omega,h3⟩
 rw[h]
 exact⟨Nat.zero_le _,fun _ h=>nomatch h⟩
theorem qbk:∀ d∈([]:List Dn),OkD d:=fun _ h=>nomatch h
theorem ok_in {d:Dn} (h:OkD d):∀ e∈[d],OkD e:=fun e he=>by rw[List.mem_singleton] at he;exact he ▸ h
theorem qax {P:Prop} [Decidable P] {a b:Pa×List Dn} (ha:∀ d∈a.2,OkD d) (hb:∀ d∈b.2,OkD d):∀ d∈(if P then a else b).2,OkD d:=by
 by_cases h:P
 ·rw[if_pos h];exact ha
 ·rw[if_neg h];exact hb
theorem ok_itl {P:Prop} [Decidable P] {a b:List Dn} (ha:∀ d∈a,OkD d) (hb:∀ d∈b,OkD d):∀ d∈(if P then a else b),OkD d:=by
 by_cases h:P
 ·rw[if_pos h];exact ha
 ·rw[if_neg h];exact hb
theorem qib (r:Int):∀ d∈[qb8 r],OkD d:=ok_in (qlk rfl rfl ⟨(show (0:Int)≤0 by decide),(show (0:Int)≤255 by decide)⟩)
theorem ok_osc (t:ByteArray):∀ d∈[dOsc t],OkD d:=ok_in (qlk rfl rfl ⟨(show (0:Int)≤0 by decide),(show (0:Int)≤255 by decide)⟩)
theorem ok_last {p:Pa} {c:Int} (h:qip p) (hc:0≤c∧c≤255):∀ d∈(qc1 p c).2,OkD d:=by
 unfold qc1
 exact qax (ok_in ⟨h.1,h.2,hc⟩) (qax qbk qbk)
theorem ok_one {p:Pa} {c:Int} (h:qip p) (hc:0≤c∧c≤255):∀ d∈(oneP p c).2,OkD d:=by
 have x:∀ d∈[qeg c],OkD d:=ok_in (qlk rfl rfl hc)
 have he:∀ i,∀ d∈[dEsc i c],OkD d:=fun i=>ok_in (qlk rfl rfl hc)
 unfold oneP
 refine qax (ok_itl qbk x) ?_
 refine qax (ok_itl (ok_osc _) qbk) ?_
 refine qax (by unfold oscP;exact qax (ok_osc _) (qax qbk qbk)) ?_
 refine qax qbk ?_
 refine qax x ?_
 refine qax (qax (by unfold qh4;exact qax qbk (qib _)) (ok_itl (qib _) qbk)) ?_
 refine qax (by unfold qe9;exact qax (qax qbk qbk) (qax qbk (qax qbk (qax qbk (qax (he _) (qax qbk qbk)))))) ?_
 refine qax (by unfold qgu;exact qax qbk (qax (qax qbk qbk) (qax qbk (qax qbk (ok_last h hc))))) ?_
 refine qax (ok_last h hc) ?_
 exact qax (qax qbk qbk) (qax qbk qbk)
theorem ok_take {p:Pa} {c:Int} (h:qip p) (hc:0≤c∧c≤255):∀ d∈(qc6 p c).2,OkD d:=by
 unfold qc6
 refine qax (ok_one h hc) ?_
 refine qax qbk ?_
 refine qax (ok_itl (qib _) qbk) ?_
 refine qax (fun d hd=>?_) (qib _)
 rcases List.mem_cons.1 hd with rfl | hd
 ·exact qib _ _ (List.mem_singleton.2 rfl)
 ·exact ok_one (p:={ p with pend:=nilB }) h hc d hd
theorem qms:∀ (s:List Int) (p:Pa),qan p→(∀ c∈s,0≤c∧c≤255)→∀ d∈(qa1 p s).2,SentD d∧OkD d
 | [],_,_,_=>fun _ h=>nomatch h
 | c :: s,p,h,hs=>fun d hd=>by
  rcases List.mem_append.1 hd with hd | hd
  ·exact⟨sent_take p c (right_osc64 h) d hd,ok_take (parts_right h) (hs c (List.mem_cons_self ..)) d hd⟩
  ·exact qms s _ (qmh h) (fun x hx=>hs x (List.mem_cons_of_mem _ hx)) d hd
theorem bytes_255 (s:ByteArray):∀ c∈qaf s,0≤c∧c≤255:=by
 intro c hc
 unfold qaf at hc
 obtain⟨b,_,rfl⟩:=List.mem_map.1 hc
 have:=b.toNat_lt
 omega
theorem SentD.text {d:Dn} (h:SentD d):d.text.size≤1000000:=by
 have e:nilB.size=0:=rfl
 rcases h with ⟨r,rfl⟩ | ⟨c,rfl⟩ | ⟨s,hs,rfl⟩ | ⟨i,c,rfl⟩ | ⟨p,c,rfl⟩
 ·show nilB.size≤_;omega
 ·show nilB.size≤_;omega
 ·show s.size≤_;omega
 ·show nilB.size≤_;omega
 ·show nilB.size≤_;omega
theorem wf_small {n:Int} (h:0≤n∧n≤255):(Lit.int .i64 n).wf=true:=by
 simp[Lit.wf,IntKind.min,IntKind.max,IntKind.signed,IntKind.bits]
 omega
theorem OkD.w1 {d:Dn} (h:OkD d):(Lit.int .i64 d.priv).wf=true:=wf_small ⟨h.2.1.1,by have:=h.2.1.2;omega⟩
theorem OkD.w2 {d:Dn} (h:OkD d):(Lit.int .i64 d.code).wf=true:=wf_small h.2.2
theorem qmt:∀ (l:List Dn) (t:Tm),(∀ d∈l,SentD d)→l.foldl qhj t=l.foldl doT t
 | [],_,_=>rfl
 | d :: l,t,h=>by
  rw[List.foldl_cons,List.foldl_cons,takeT_doT (h d (List.mem_cons_self ..)),qmt l _ fun e he=>h e (List.mem_cons_of_mem _ he)]
end Go.Proofs.YtpdaekmbpafenaaGreatDoor
