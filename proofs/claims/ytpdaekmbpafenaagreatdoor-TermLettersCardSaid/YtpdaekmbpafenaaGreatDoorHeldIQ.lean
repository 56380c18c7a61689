
import Derived.Test.YtpdaekmbpafenaaGreatDoorIRowQ
import Derived.OrdersHeld
import Derived.StillTail
namespace Go.Proofs.YtpdaekmbpafenaaGreatDoor
open Go.RowKit
section
variable {P:Program} {ops:Array Oper} {Q:Exit→Act→World→Prop} {md:Region.Mode} {S:Array Bool→World→Prop}
def qat (P:Program) (md:Region.Mode) (ops:Array Oper) (Q:Exit→Act→World→Prop) (S:Array Bool→World→Prop):Nat→Array Bool→Act→World→Prop
 | 0,listed,a,w=>Region.ready md ops listed=[]∧Q .normal a w
 | fuel+1,listed,a,w =>
  (Region.ready md ops listed=[]→Q .normal a w) ∧
  ∀ i∈Region.ready md ops listed,wpOp P ops Q i (fun a' w'=>S (listed.setIfInBounds i true) w'∧qat P md ops Q S fuel (listed.setIfInBounds i true) a' w') a w
theorem ql4:∀ (fuel:Nat) (listed:Array Bool) (a:Act) (w:World),qat P md ops Q S fuel listed a w→wpAny P md ops Q fuel listed a w
 | 0,_,_,_,h=>h
 | fuel+1,_,_,_,h=>⟨h.1,fun i hi=>wpOp_mono (fun a' w' h'=>ql4 fuel _ a' w' h'.2) (h.2 i hi)⟩
def ClosedL (md:Region.Mode) (ops:Array Oper) (listed:Array Bool):Prop :=
 ∀ j oj,ops[j]?=some oj→listed.getD j false=true→∀ e∈oj.after,Region.binds md e=true→listed.getD e.on false=true
def qcp (md:Region.Mode) (ops:Array Oper) (listed:Array Bool):Bool :=
 (List.range ops.size).all fun j=>match ops[j]? with
  | none=>true
  | some oj=>!(listed.getD j false) || oj.after.all fun e=>!(Region.binds md e) || listed.getD e.on false
theorem qd4 {listed:Array Bool} (h:qcp md ops listed=true):ClosedL md ops listed:=by
 intro j oj hj hl e he hb
 have hlt:=(Array.getElem?_eq_some_iff.1 hj).1
 have h1:=List.all_eq_true.1 h j (List.mem_range.2 hlt)
 simp only[hj,hl,Bool.not_true,Bool.false_or] at h1
 have h2:=Array.all_eq_true'.1 h1 e he
 simpa [hb] using h2
theorem ClosedL.set {listed:Array Bool} (c:ClosedL md ops listed) {i:Nat} (hi:i∈Region.ready md ops listed):ClosedL md ops (listed.setIfInBounds i true):=by
 obtain⟨_,oi,hoi,hall⟩:=mem_ready.1 hi
 intro j oj hj hl e he hb
 by_cases hij:i=j
 ·subst hij
  have:oj=oi:=Option.some.inj (hj.symm.trans hoi)
  subst this
  exact getD_set_true (hall e he hb)
 ·rw[getD_set_ne false hij] at hl
  exact getD_set_true (c j oj hj hl e he hb)
theorem ClosedL.not_yet {listed:Array Bool} (c:ClosedL md ops listed) {st i:Nat} (hw:Region.waitsFor md ops st i=true) (h:listed.getD i true=false):listed.getD st false=false:=by
 obtain⟨oj,hoj,e,he,hb,hon⟩:=Region.waitsFor_spec hw
 cases hs:listed.getD st false
 ·rfl
 ·have:=c st oj hoj hs e he hb
  rw[hon,getD_both h] at this
  cases this
theorem qd5 {i : Nat} {oi : Oper} {v : Value} (S0 : World → Prop) (hi : ops[i]? = some oi) (hsel : ∀ (j : Nat) (o : Oper) cs b, ops[j]? = some o → o.op ≠ .select cs b)
  (hQ:∀ c a w,Q (.panic c) (a.put oi.dst v) w→Q (.panic c) a w) (hS0:∀ L w,ClosedL md ops L→L.getD i true=false→S L w→S0 w) (hSi:∀ L w,S (L.setIfInBounds i true) w↔S L w) :
  ∀ (fuel:Nat) (listed:Array Bool) (a:Act) (w:World),ClosedL md ops listed →
   (∀ j oj,ops[j]?=some oj→j≠i→listed.getD j true=false→(∀ e∈oj.after,Region.binds md e=true→e.on≠i)→oi.apart ops oj=true) →
   i∈Region.ready md ops listed→YieldsIf P ops S0 oi v a→S listed w →
   qat P md ops Q S fuel (listed.setIfInBounds i true) (a.put oi.dst v) w→qat P md ops Q S (fuel+1) listed a w:=by
 intro fuel
 induction fuel with
 | zero =>
  intro listed a w hcl _ hr hy hS H
  refine⟨fun h=>(by rw[h] at hr;cases hr),fun j hj=>?_⟩
  by_cases hji:j=i
  ·subst hji;exact hy.wpOp hi (hS0 _ _ hcl (mem_ready.1 hr).1 hS) ⟨(hSi _ _).2 hS,H⟩
  ·have:=ready_mono hj hji
   rw[H.1] at this
   cases this
 | succ fuel ih =>
  intro listed a w hcl hfree hr hy hS H
  refine⟨fun h=>(by rw[h] at hr;cases hr),fun j hj=>?_⟩
  by_cases hji:j=i
  ·subst hji;exact hy.wpOp hi (hS0 _ _ hcl (mem_ready.1 hr).1 hS) ⟨(hSi _ _).2 hS,H⟩
  ·have h1:=H.2 j (ready_mono hj hji)
   obtain⟨hjun,oj,hoj,hall⟩:=mem_ready.1 hj
   have hnot:∀ e∈oj.after,Region.binds md e=true→e.on≠i:=fun e he hb heq=>by
    have h1:=hall e he hb
    have h0:=(mem_ready.1 hr).1
    rw[heq,getD_both h0] at h1
    cases h1
   have h2:=wpOp_putIf hoj (hfree j oj hoj hji hjun hnot) (fun cs b=>hsel i oi cs b hi) (fun cs b=>hsel j oj cs b hoj) hQ hy h1
   have hfree' : ∀ k ok, ops[k]? = some ok → k ≠ i → (listed.setIfInBounds j true).getD k true = false →
     (∀ e∈ok.after,Region.binds md e=true→e.on≠i)→oi.apart ops ok=true:=fun k ok hk hki hun hno=>by
    refine hfree k ok hk hki ?_ hno
    by_cases hjk:j=k
    ·subst hjk;exact hjun
    ·rw[getD_set_ne true hjk] at hun;exact hun
   refine wpOp_mono (fun a' w' h3=>?_) h2
   obtain⟨hy',hs',hrest⟩:=h3
   rw[Array.setIfInBounds_comm _ _ (Ne.symm hji)] at hs' hrest
   have hs2:=(hSi _ _).1 hs'
   exact⟨hs2,ih (listed.setIfInBounds j true) a' w' (hcl.set hj) hfree' (ready_mono hr (Ne.symm hji)) hy' hs2 hrest⟩
def qee (s1 s2:Nat) (S1 S2:World→Prop) (listed:Array Bool) (w:World):Prop:=(listed.getD s1 false=false→S1 w)∧(listed.getD s2 false=false→S2 w)
theorem twoS_set {s1 s2 i:Nat} {S1 S2:World→Prop} (h1:i≠s1) (h2:i≠s2) (L:Array Bool) (w:World):qee s1 s2 S1 S2 (L.setIfInBounds i true) w↔qee s1 s2 S1 S2 L w:=by
 unfold qee
 rw[getD_set_ne false h1,getD_set_ne false h2]
variable {s1 s2:Nat} {S1 S2:World→Prop}
theorem takeS {i : Nat} {oi : Oper} {v : Value} {fuel : Nat} {listed : Array Bool} {a : Act} {w : World} (d : Tmp) (hi : ops[i]? = some oi) (hd : oi.dst = some d)
  (hs:Region.noSelect ops=true) (hf:Region.free md ops listed i=true) (hr:(Region.ready md ops listed).contains i=true) (hc:qcp md ops listed=true) (n1:i≠s1) (n2:i≠s2)
  (hQ:∀ c a w,Q (.panic c) (a.put (some d) v) w→Q (.panic c) a w) (hy:YieldsIf P ops (fun _=>True) oi v a) (hS:qee s1 s2 S1 S2 listed w)
  (h:qat P md ops Q (qee s1 s2 S1 S2) fuel (listed.setIfInBounds i true) (a.put (some d) v) w):qat P md ops Q (qee s1 s2 S1 S2) (fuel+1) listed a w:=by
 rw[← hd] at hQ h
 exact qd5 (fun _=>True) hi (Region.noSelect_spec hs) hQ (fun _ _ _ _ _=>trivial) (twoS_set n1 n2) fuel listed a w (qd4 hc) (Region.free_spec hi hf) (by simpa using hr) hy hS h
theorem takeS1 {i : Nat} {oi : Oper} {v : Value} {fuel : Nat} {listed : Array Bool} {a : Act} {w : World} (d : Tmp) (hi : ops[i]? = some oi) (hd : oi.dst = some d)
  (hs:Region.noSelect ops=true) (hf:Region.free md ops listed i=true) (hr:(Region.ready md ops listed).contains i=true) (hc:qcp md ops listed=true) (n1:i≠s1) (n2:i≠s2) (hw:Region.waitsFor md ops s1 i=true)
  (hQ:∀ c a w,Q (.panic c) (a.put (some d) v) w→Q (.panic c) a w) (hy:YieldsIf P ops S1 oi v a) (hS:qee s1 s2 S1 S2 listed w)
  (h:qat P md ops Q (qee s1 s2 S1 S2) fuel (listed.setIfInBounds i true) (a.put (some d) v) w):qat P md ops Q (qee s1 s2 S1 S2) (fuel+1) listed a w:=by
 rw[← hd] at hQ h
 exact qd5 S1 hi (Region.noSelect_spec hs) hQ (fun _ _ c hn h=>h.1 (c.not_yet hw hn)) (twoS_set n1 n2) fuel listed a w (qd4 hc) (Region.free_spec hi hf) (by simpa using hr) hy hS h
theorem qz {k : Nat} {o : Oper} {fuel : Nat} {listed : Array Bool} {a : Act} {w : World} (hr : Region.ready md ops listed = [k]) (ho : ops[k]? = some o) (hw : Region.wanted o (yielded ops a.tmps) = true)
  (h:∀ K:Act→World→Prop,(∀ a' w',S (listed.setIfInBounds k true) w'→qat P md ops Q S fuel (listed.setIfInBounds k true) a' w'→K a' w')→Oper.wp P o a w K Q) :
  qat P md ops Q S (fuel+1) listed a w:=by
 refine⟨fun h0=>(by rw[hr] at h0;cases h0),fun i hi=>?_⟩
 rw[hr] at hi
 have hik:i=k:=by simpa using hi
 subst hik
 unfold wpOp
 simp only[ho,hw,if_true]
 exact .inl (h _ (fun _ _ h1 h2=>⟨h1,h2⟩))
theorem qal {listed:Array Bool} {a:Act} {w:World} (hr:Region.ready md ops listed=[]) (h:Q .normal a w):∀ fuel,qat P md ops Q S fuel listed a w
 | 0=>⟨hr,h⟩
 | _+1=>⟨fun _=>h,by rw[hr];simp⟩
theorem qh {id : Nat} {a : Act} {w : World} (S : Array Bool → World → Prop) (hm : P.follows .mixedOrders = true)
  (h:qat P .any ops Q S ops.size (Array.replicate ops.size false) a w.drew):(Code.region id ops true).wp P Q a w :=
 wp_region_any hm (ql4 _ _ _ _ h)
end
theorem zT {a:Act} {d:Tmp} {v:Value}:a.put (some d) v={ a with tmps:=a.tmps.setIfInBounds d v }:=rfl
theorem zA {α:Type} (l:List α) (i:Nat) (a:α):l.toArray.setIfInBounds i a=(l.set i a).toArray:=List.setIfInBounds_toArray ..
theorem zZ {α:Type} {a b:α} {l:List α}:(a :: l).set 0 b=b :: l:=List.set_cons_zero
theorem zS {α:Type} {a b:α} {l:List α} {n:Nat}:(a :: l).set (n+1) b=a :: l.set n b:=List.set_cons_succ
theorem tS {P : Program} {ops : Array Oper} {Q : Exit → Act → World → Prop} {md : Region.Mode} (i : Nat) {oi : Oper} {v : Value} {d : Tmp} {fuel : Nat} {listed : Array Bool} {a a' : Act} {w : World} {s1 s2 : Nat} {S1 S2 : World → Prop} (hS : qee s1 s2 S1 S2 listed w) (h : qat P md ops Q (qee s1 s2 S1 S2) fuel (listed.setIfInBounds i true) a' w)
    (hi:ops[i]?=some oi:=by exact rfl) (hd:oi.dst=some d:=by exact rfl) (hs:Region.noSelect ops=true:=by kernel_rfl) (hf:Region.free md ops listed i=true:=by kernel_rfl) (hr:(Region.ready md ops listed).contains i=true:=by kernel_rfl) (hc:qcp md ops listed=true:=by kernel_rfl) (n1:i≠s1:=by decide) (n2:i≠s2:=by decide) (hw:Region.wanted oi (yielded ops a.tmps)=true:=by rfl) (hy:∀ w',True→(execOp a.eval oi).run P w'=.ok (.value v) w':=by intro w' hw';go_simp;try with_reducible rfl)
    (ha:a.put (some d) v=a':=by (try simp only[zT,zA,zZ,zS]);exact rfl) (hQ:∀ c a w,Q (.panic c) (a.put (some d) v) w→Q (.panic c) a w:=by exact fun _ _ _ h=>h):qat P md ops Q (qee s1 s2 S1 S2) (fuel+1) listed a w:=by
  subst ha
  exact takeS d hi hd hs hf hr hc n1 n2 hQ (Or.inl ⟨hw,hy⟩) hS h
section
variable {P:Program} {ops:Array Oper} {Q:Exit→Act→World→Prop} {md:Region.Mode} {S:Array Bool→World→Prop}
theorem qio {k1 k2 : Nat} {o1 o2 : Oper} {fuel : Nat} {listed : Array Bool} {a : Act} {w : World} (hr : Region.ready md ops listed = [k1, k2]) (ho1 : ops[k1]? = some o1) (ho2 : ops[k2]? = some o2) (hw1 : Region.wanted o1 (yielded ops a.tmps) = true) (hw2 : Region.wanted o2 (yielded ops a.tmps) = true)
  (h1:∀ K:Act→World→Prop,(∀ a' w',S (listed.setIfInBounds k1 true) w'→qat P md ops Q S fuel (listed.setIfInBounds k1 true) a' w'→K a' w')→Oper.wp P o1 a w K Q)
  (h2:∀ K:Act→World→Prop,(∀ a' w',S (listed.setIfInBounds k2 true) w'→qat P md ops Q S fuel (listed.setIfInBounds k2 true) a' w'→K a' w')→Oper.wp P o2 a w K Q) :
  qat P md ops Q S (fuel+1) listed a w:=by
 refine⟨fun h0=>(by rw[hr] at h0;cases h0),fun i hi=>?_⟩
 rw[hr] at hi
 simp only[List.mem_cons,List.not_mem_nil,or_false] at hi
 rcases hi with rfl | rfl
 ·unfold wpOp
  simp only[ho1,hw1,if_true]
  exact .inl (h1 _ (fun _ _ h1 h2=>⟨h1,h2⟩))
 ·unfold wpOp
  simp only[ho2,hw2,if_true]
  exact .inl (h2 _ (fun _ _ h1 h2=>⟨h1,h2⟩))
theorem qar {i : Nat} {oi : Oper} {v : Value} {fuel : Nat} {listed : Array Bool} {a : Act} {w : World} {S0 : World → Prop} (d : Tmp) (hi : ops[i]? = some oi) (hd : oi.dst = some d)
  (hs:Region.noSelect ops=true) (hf:Region.free md ops listed i=true) (hr:(Region.ready md ops listed).contains i=true) (hc:qcp md ops listed=true)
  (hQ:∀ c a w,Q (.panic c) (a.put (some d) v) w→Q (.panic c) a w) (hy:YieldsIf P ops S0 oi v a) (hS:S0 w)
  (h:qat P md ops Q (fun _=>S0) fuel (listed.setIfInBounds i true) (a.put (some d) v) w):qat P md ops Q (fun _=>S0) (fuel+1) listed a w:=by
 rw[← hd] at hQ h
 exact qd5 S0 hi (Region.noSelect_spec hs) hQ (fun _ _ _ _ h=>h) (fun _ _=>Iff.rfl) fuel listed a w (qd4 hc) (Region.free_spec hi hf) (by simpa using hr) hy hS h
end
theorem tC {P : Program} {ops : Array Oper} {Q : Exit → Act → World → Prop} {md : Region.Mode} (i : Nat) {oi : Oper} {v : Value} {d : Tmp} {fuel : Nat} {listed : Array Bool} {a a' : Act} {w : World} {S0 : World → Prop} (hS : S0 w) (h : qat P md ops Q (fun _ => S0) fuel (listed.setIfInBounds i true) a' w)
    (hi:ops[i]?=some oi:=by exact rfl) (hd:oi.dst=some d:=by exact rfl) (hs:Region.noSelect ops=true:=by kernel_rfl) (hf:Region.free md ops listed i=true:=by kernel_rfl) (hr:(Region.ready md ops listed).contains i=true:=by kernel_rfl) (hc:qcp md ops listed=true:=by kernel_rfl) (hw:Region.wanted oi (yielded ops a.tmps)=true:=by rfl) (hy:∀ w',S0 w'→(execOp a.eval oi).run P w'=.ok (.value v) w':=by intro w' hw';go_simp;try with_reducible rfl)
    (ha:a.put (some d) v=a':=by (try simp only[zT,zA,zZ,zS]);exact rfl) (hQ:∀ c a w,Q (.panic c) (a.put (some d) v) w→Q (.panic c) a w:=by exact fun _ _ _ h=>h):qat P md ops Q (fun _=>S0) (fuel+1) listed a w:=by
  subst ha
  exact qar d hi hd hs hf hr hc hQ (Or.inl ⟨hw,hy⟩) hS h
theorem uC {P : Program} {ops : Array Oper} {Q : Exit → Act → World → Prop} {md : Region.Mode} (i : Nat) {oi : Oper} {d : Tmp} {fuel : Nat} {listed : Array Bool} {a a' : Act} {w : World} {S0 : World → Prop} (hS : S0 w) (h : qat P md ops Q (fun _ => S0) fuel (listed.setIfInBounds i true) a' w)
    (hi:ops[i]?=some oi:=by exact rfl) (hd:oi.dst=some d:=by exact rfl) (hs:Region.noSelect ops=true:=by kernel_rfl) (hf:Region.free md ops listed i=true:=by kernel_rfl) (hr:(Region.ready md ops listed).contains i=true:=by kernel_rfl) (hc:qcp md ops listed=true:=by kernel_rfl) (hw:Region.wanted oi (yielded ops a.tmps)=false:=by rfl)
    (ha:a.put (some d) undef=a':=by (try simp only[zT,zA,zZ,zS]);exact rfl) (hQ:∀ c a w,Q (.panic c) (a.put (some d) undef) w→Q (.panic c) a w:=by exact fun _ _ _ h=>h):qat P md ops Q (fun _=>S0) (fuel+1) listed a w:=by
  subst ha
  exact qar d hi hd hs hf hr hc hQ (Or.inr ⟨hw,rfl⟩) hS h
section
variable {P:Program} {ops:Array Oper} {Q:Exit→Act→World→Prop} {md:Region.Mode}
def qkp (md:Region.Mode) (ops:Array Oper) (i:Nat):Nat→Nat→Bool
 | 0,_=>false
 | f+1,k=>match ops[k]? with
  | none=>false
  | some o=>o.after.any fun e=>Region.binds md e && (e.on == i || qkp md ops i f e.on)
theorem ClosedL.not_yetG {listed:Array Bool} (c:ClosedL md ops listed) {i:Nat} (h:listed.getD i true=false):∀ (f k:Nat),qkp md ops i f k=true→listed.getD k false=false
 | 0,_,hw=>by simp[qkp] at hw
 | f+1,k,hw=>by
  unfold qkp at hw
  cases hk:ops[k]? with
  | none=>rw[hk] at hw;cases hw
  | some o =>
   rw[hk] at hw
   simp only at hw
   rw[Array.any_eq_true'] at hw
   obtain⟨e,he,h2⟩:=hw
   rw[Bool.and_eq_true,Bool.or_eq_true] at h2
   cases hs:listed.getD k false
   ·rfl
   ·have h3:=c k o hk hs e he h2.1
    rcases h2.2 with h4 | h4
    ·have h5:e.on=i:=by simpa using h4
     rw[h5,getD_both h] at h3
     cases h3
    ·rw[c.not_yetG h f e.on h4] at h3
     cases h3
def qcy (k:Nat) (S1:World→Prop) (listed:Array Bool) (w:World):Prop:=listed.getD k false=false→S1 w
theorem oneS_set {k i:Nat} {S1:World→Prop} (h1:i≠k) (L:Array Bool) (w:World):qcy k S1 (L.setIfInBounds i true) w↔qcy k S1 L w:=by
 unfold qcy
 rw[getD_set_ne false h1]
variable {k:Nat} {S1:World→Prop}
theorem takeG {i : Nat} {oi : Oper} {v : Value} {fuel : Nat} {listed : Array Bool} {a : Act} {w : World} (d : Tmp) (hi : ops[i]? = some oi) (hd : oi.dst = some d)
  (hs:Region.noSelect ops=true) (hf:Region.free md ops listed i=true) (hr:(Region.ready md ops listed).contains i=true) (hc:qcp md ops listed=true) (n1:i≠k) (hw:qkp md ops i ops.size k=true)
  (hQ:∀ c a w,Q (.panic c) (a.put (some d) v) w→Q (.panic c) a w) (hy:YieldsIf P ops S1 oi v a) (hS:qcy k S1 listed w)
  (h:qat P md ops Q (qcy k S1) fuel (listed.setIfInBounds i true) (a.put (some d) v) w):qat P md ops Q (qcy k S1) (fuel+1) listed a w:=by
 rw[← hd] at hQ h
 exact qd5 S1 hi (Region.noSelect_spec hs) hQ (fun _ _ c hn h=>h (c.not_yetG hn _ _ hw)) (oneS_set n1) fuel listed a w (qd4 hc) (Region.free_spec hi hf) (by simpa using hr) hy hS h
theorem takeN {i : Nat} {oi : Oper} {v : Value} {fuel : Nat} {listed : Array Bool} {a : Act} {w : World} (d : Tmp) (hi : ops[i]? = some oi) (hd : oi.dst = some d)
  (hs:Region.noSelect ops=true) (hf:Region.free md ops listed i=true) (hr:(Region.ready md ops listed).contains i=true) (hc:qcp md ops listed=true) (n1:i≠k)
  (hQ:∀ c a w,Q (.panic c) (a.put (some d) v) w→Q (.panic c) a w) (hy:YieldsIf P ops (fun _=>True) oi v a) (hS:qcy k S1 listed w)
  (h:qat P md ops Q (qcy k S1) fuel (listed.setIfInBounds i true) (a.put (some d) v) w):qat P md ops Q (qcy k S1) (fuel+1) listed a w:=by
 rw[← hd] at hQ h
 exact qd5 (fun _=>True) hi (Region.noSelect_spec hs) hQ (fun _ _ _ _ _=>trivial) (oneS_set n1) fuel listed a w (qd4 hc) (Region.free_spec hi hf) (by simpa using hr) hy hS h
end
theorem tN {P : Program} {ops : Array Oper} {Q : Exit → Act → World → Prop} {md : Region.Mode} (i : Nat) {oi : Oper} {v : Value} {d : Tmp} {fuel : Nat} {listed : Array Bool} {a a' : Act} {w : World} {k : Nat} {S1 : World → Prop} (hS : qcy k S1 listed w) (h : qat P md ops Q (qcy k S1) fuel (listed.setIfInBounds i true) a' w)
    (hi:ops[i]?=some oi:=by exact rfl) (hd:oi.dst=some d:=by exact rfl) (hs:Region.noSelect ops=true:=by kernel_rfl) (hf:Region.free md ops listed i=true:=by kernel_rfl) (hr:(Region.ready md ops listed).contains i=true:=by kernel_rfl) (hc:qcp md ops listed=true:=by kernel_rfl) (n1:i≠k:=by decide) (hw:Region.wanted oi (yielded ops a.tmps)=true:=by rfl) (hy:∀ w',True→(execOp a.eval oi).run P w'=.ok (.value v) w':=by intro w' hw';go_simp;try with_reducible rfl)
    (ha:a.put (some d) v=a':=by (try simp only[zT,zA,zZ,zS]);exact rfl) (hQ:∀ c a w,Q (.panic c) (a.put (some d) v) w→Q (.panic c) a w:=by exact fun _ _ _ h=>h):qat P md ops Q (qcy k S1) (fuel+1) listed a w:=by
  subst ha
  exact takeN d hi hd hs hf hr hc n1 hQ (Or.inl ⟨hw,hy⟩) hS h
theorem uN {P : Program} {ops : Array Oper} {Q : Exit → Act → World → Prop} {md : Region.Mode} (i : Nat) {oi : Oper} {d : Tmp} {fuel : Nat} {listed : Array Bool} {a a' : Act} {w : World} {k : Nat} {S1 : World → Prop} (hS : qcy k S1 listed w) (h : qat P md ops Q (qcy k S1) fuel (listed.setIfInBounds i true) a' w)
    (hi:ops[i]?=some oi:=by exact rfl) (hd:oi.dst=some d:=by exact rfl) (hs:Region.noSelect ops=true:=by kernel_rfl) (hf:Region.free md ops listed i=true:=by kernel_rfl) (hr:(Region.ready md ops listed).contains i=true:=by kernel_rfl) (hc:qcp md ops listed=true:=by kernel_rfl) (n1:i≠k:=by decide) (hw:Region.wanted oi (yielded ops a.tmps)=false:=by rfl)
    (ha:a.put (some d) undef=a':=by (try simp only[zT,zA,zZ,zS]);exact rfl) (hQ:∀ c a w,Q (.panic c) (a.put (some d) undef) w→Q (.panic c) a w:=by exact fun _ _ _ h=>h):qat P md ops Q (qcy k S1) (fuel+1) listed a w:=by
  subst ha
  exact takeN d hi hd hs hf hr hc n1 hQ (Or.inr ⟨hw,rfl⟩) hS h
theorem tG {P : Program} {ops : Array Oper} {Q : Exit → Act → World → Prop} {md : Region.Mode} (i : Nat) {oi : Oper} {v : Value} {d : Tmp} {fuel : Nat} {listed : Array Bool} {a a' : Act} {w : World} {k : Nat} {S1 : World → Prop} (hS : qcy k S1 listed w) (h : qat P md ops Q (qcy k S1) fuel (listed.setIfInBounds i true) a' w)
    (hi:ops[i]?=some oi:=by exact rfl) (hd:oi.dst=some d:=by exact rfl) (hs:Region.noSelect ops=true:=by kernel_rfl) (hf:Region.free md ops listed i=true:=by kernel_rfl) (hr:(Region.ready md ops listed).contains i=true:=by kernel_rfl) (hc:qcp md ops listed=true:=by kernel_rfl) (n1:i≠k:=by decide) (nw:qkp md ops i ops.size k=true:=by kernel_rfl) (hw:Region.wanted oi (yielded ops a.tmps)=true:=by rfl) (hy:∀ w',S1 w'→(execOp a.eval oi).run P w'=.ok (.value v) w':=by intro w' hw';go_simp;try with_reducible rfl)
    (ha:a.put (some d) v=a':=by (try simp only[zT,zA,zZ,zS]);exact rfl) (hQ:∀ c a w,Q (.panic c) (a.put (some d) v) w→Q (.panic c) a w:=by exact fun _ _ _ h=>h):qat P md ops Q (qcy k S1) (fuel+1) listed a w:=by
  subst ha
  exact takeG d hi hd hs hf hr hc n1 nw hQ (Or.inl ⟨hw,hy⟩) hS h
section
variable {P:Program} {ops:Array Oper} {Q:Exit→Act→World→Prop} {md:Region.Mode} {S:Array Bool→World→Prop}
def LeftIs (L:Array Bool) (l:List Nat):Prop:=l.Nodup∧∀ j,L.getD j true=false↔j∈l
theorem LeftIs.ready {L:Array Bool} {l:List Nat} (h:LeftIs L l) {i:Nat} (hi:i∈Region.ready md ops L):i∈l:=by
 unfold Region.ready at hi
 rw[List.mem_filter,Bool.and_eq_true] at hi
 have h2:=hi.2.1
 exact(h.2 i).1 (by simpa using h2)
theorem LeftIs.set {L:Array Bool} {l:List Nat} (h:LeftIs L l) {i:Nat} (hi:i∈l):LeftIs (L.setIfInBounds i true) (l.erase i):=by
 refine⟨h.1.erase i,fun j=>?_⟩
 rw[h.1.mem_erase_iff,← h.2 j]
 by_cases e:j=i
 ·subst e
  have hx:(L.setIfInBounds j true).getD j true=true:=by
   simp only[Array.getD_eq_getD_getElem?,Array.getElem?_setIfInBounds]
   split
   ·split <;> rfl
   ·rename_i hne;exact absurd trivial hne
  rw[hx]
  simp
 ·rw[getD_set_ne true (fun x=>e x.symm)]
  exact⟨fun h=>⟨e,h⟩,fun h=>h.2⟩
theorem LeftIs.of {L:Array Bool} {l:List Nat} (hl:l.Nodup) (hm:∀ j∈l,L.getD j true=false) (ha:∀ j,j < L.size→L.getD j true=false→j∈l):LeftIs L l:=by
 refine⟨hl,fun j=>⟨fun h=>ha j ?_ h,hm j⟩⟩
 by_cases hj:j < L.size
 ·exact hj
 ·exfalso
  rw[Array.getD_eq_getD_getElem?,Array.getElem?_eq_none (by omega)] at h
  cases h
def partB (md:Region.Mode) (ops:Array Oper) (ins tail:List Nat):Bool :=
 (ins.all fun i=>match ops[i]? with
  | none=>false
  | some o=>o.after.all fun e=>!Region.binds md e || (!ins.contains e.on && !tail.contains e.on && decide (e.on < ops.size))) &&
 tail.all fun i=>match ops[i]? with
  | none=>false
  | some o=>ins.all fun j=>o.after.any fun e=>Region.binds md e && e.on == j
theorem LeftIs.part {L : Array Bool} {ins tail left : List Nat} (hB : partB md ops ins tail = true) (h : LeftIs L (left ++ tail)) (hs : ∀ j ∈ left, j ∈ ins) (hne : left ≠ []) (hz : L.size = ops.size) :
  Region.ready md ops L≠[]∧∀ i∈Region.ready md ops L,i∈left:=by
 unfold partB at hB
 rw[Bool.and_eq_true,List.all_eq_true,List.all_eq_true] at hB
 obtain⟨b1,b2⟩:=hB
 obtain⟨i0,hi0⟩:=List.exists_mem_of_ne_nil _ hne
 refine⟨fun hr=>?_,fun i hi=>?_⟩
 ·have hx : i0 ∈ Region.ready md ops L := by
   rw[mem_ready]
   refine⟨(h.2 i0).2 (List.mem_append_left _ hi0),?_⟩
   have hb:=b1 i0 (hs i0 hi0)
   cases ho:ops[i0]? with
   | none=>rw[ho] at hb;cases hb
   | some o =>
    rw[ho] at hb
    refine⟨o,rfl,fun e he hbi=>?_⟩
    have h3:=Array.all_eq_true_iff_forall_mem.1 hb e he
    simp only[hbi,Bool.not_true,Bool.false_or,Bool.and_eq_true,Bool.not_eq_true',decide_eq_true_eq,List.contains_eq_mem,decide_eq_false_iff_not] at h3
    obtain⟨⟨n1,n2⟩,n3⟩:=h3
    have hl:L.getD e.on true≠false:=fun hf=>by
     rcases List.mem_append.1 ((h.2 e.on).1 hf) with hm | hm
     ·exact n1 (hs _ hm)
     ·exact n2 hm
    rw[Array.getD_eq_getD_getElem?,Array.getElem?_eq_getElem (by omega)] at hl ⊢
    simpa using hl
  rw[hr] at hx
  cases hx
 ·rcases List.mem_append.1 (h.ready hi) with hm | hm
  ·exact hm
  ·exfalso
   rw[mem_ready] at hi
   obtain⟨_,o,ho,he⟩:=hi
   have hb:=b2 i hm
   rw[ho] at hb
   have h4:=List.all_eq_true.1 hb i0 (hs i0 hi0)
   rw[Array.any_eq_true'] at h4
   obtain⟨e,he1,he2⟩:=h4
   rw[Bool.and_eq_true] at he2
   have h5:=he e he1 he2.1
   have h6:e.on=i0:=by simpa using he2.2
   rw[h6] at h5
   have h7:=(h.2 i0).2 (List.mem_append_left _ hi0)
   rw[getD_both h7] at h5
   cases h5
theorem walkP {g : Nat} {a0 : Act} {ins tail : List Nat} {J : List Nat → World → Prop} (hB : partB md ops ins tail = true) (hS : ∀ left w, J left w → ∀ L, S L w)
  (h0:∀ L w,LeftIs L tail→L.size=ops.size→J [] w→qat P md ops Q S g L a0 w)
  (hstep:∀ left w i,(∀ j∈left,j∈ins)→i∈left→J left w→∃ o,ops[i]?=some o∧Region.wanted o (yielded ops a0.tmps)=true∧∀ K:Act→World→Prop,(∀ w',J (left.erase i) w'→K a0 w')→Oper.wp P o a0 w K Q) :
  ∀ (n:Nat) (left:List Nat) (L:Array Bool) (w:World),left.length=n→LeftIs L (left ++ tail)→(∀ j∈left,j∈ins)→L.size=ops.size→J left w→qat P md ops Q S (g+n) L a0 w
 | 0,left,L,w,hn,hl,_,hz,hj=>by
  have e:=List.length_eq_zero_iff.1 hn
  subst e
  exact h0 L w hl hz hj
 | n+1,left,L,w,hn,hl,hi,hz,hj=>by
  obtain⟨hne,hk⟩:=hl.part hB hi (by intro e;subst e;cases hn) hz
  refine⟨fun h=>absurd h hne,fun i hr=>?_⟩
  have hil:=hk i hr
  obtain⟨o,ho,hw,hK⟩:=hstep left w i hi hil hj
  unfold wpOp
  simp only[ho,hw,if_true]
  refine .inl (hK _ fun w' hj'=>⟨hS _ _ hj' _,walkP hB hS h0 hstep n (left.erase i) _ w' ?_ ?_ ?_ ?_ hj'⟩)
  ·rw[List.length_erase_of_mem hil];omega
  ·have:=hl.set (List.mem_append_left _ hil)
   rwa [List.erase_append_left _ hil] at this
  ·exact fun j hj=>hi j (List.mem_of_mem_erase hj)
  ·simp[hz]
theorem wp_insert {o : Oper} {a : Act} {w W2 : World} {K : Act → World → Prop} (mt : TypeId) (m k x : Operand) (ho : o.op = .insert mt m k x) (hd : o.dst = none)
  (hrun:(Instr.mapUpdate mt (a.eval m) (a.eval k) (a.eval x)).run P w=.ok () W2) (hK:K a W2):Oper.wp P o a w K Q:=by
 unfold Oper.wp
 simp[execOp,ho,hrun,Result.andThen]
 show K (a.put o.dst undef) W2
 rw[hd]
 exact hK
end
end Go.Proofs.YtpdaekmbpafenaaGreatDoor
