
import Derived.Test.YtpdaekmbpafenaaGreatDoorTermAQ
import Derived.Maps.OwnSet
import Derived.Maps.Views
import Derived.DeepKeys5
import Derived.Test.YtpdaekmbpafenaaGreatDoorHeldIQ
import Derived.Test.YtpdaekmbpafenaaGreatDoorTermOfQ
import Derived.Test.YtpdaekmbpafenaaGreatDoorLtRowQ
namespace Go.Proofs.YtpdaekmbpafenaaGreatDoor
open Go.RowKit Go.Maps
theorem types_n:Tryz.prog.types.size=234:=by kernel_rfl
theorem lawSeq:Keyed Tryz.prog 128:=Keyed.of_law (deep_law_gate (by kernel_rfl) (by rw[types_n];decide) (by rw[types_n];decide) (by kernel_rfl) (by kernel_rfl))
theorem lits_int (d:Nat) (n:Int) (hn:(Lit.int .i64 n).wf=true):Tryz.prog.keyLits (d+1) 3 [.int .i64 n]=some [.int .i64 n]:=by
 have h3:Tryz.prog.underlying 3=some (.int .i64):=Tryz.underlying3
 unfold Program.keyLits
 rw[h3]
 exact if_pos ⟨rfl,hn⟩
theorem lits_seq (d:Nat) (p c:Int) (hp:(Lit.int .i64 p).wf=true) (hc:(Lit.int .i64 c).wf=true):Tryz.prog.keyLits (d+2) 128 [.int .i64 p,.int .i64 c]=some [.int .i64 p,.int .i64 c]:=by
 have h2:Tryz.prog.cellsOf 128=2:=by kernel_rfl
 have h4:Tryz.prog.cellsOf 3=1:=by kernel_rfl
 have e1:=lits_int d p hp
 have e2:=lits_int d c hc
 unfold Program.keyLits
 rw[Tryz.underlying128]
 simp[h2,h4,e1,e2]
def kS (p c:Int):Lit:=.string (keyBytes [.int .i64 p,.int .i64 c])
theorem qj0 (p c:Int) (hp:(Lit.int .i64 p).wf=true) (hc:(Lit.int .i64 c).wf=true):keyOf Tryz.prog 128 (.agg #[.int .i64 p,.int .i64 c])=some (kS p c):=by
 have h1:Tryz.prog.keyType 128=true:=by kernel_rfl
 have h2:Tryz.prog.cellsOf 128=2:=by kernel_rfl
 have h5:=lits_seq 233 p c hp hc
 unfold keyOf
 rw[Tryz.underlying128]
 rw[types_n]
 have hf:(Value.agg #[.int .i64 p,.int .i64 c]).formed Tryz.prog 128=true:=by
  simp[Value.formed,h2]
 simp only[h1,hf,Bool.and_self,if_true]
 rw[show (Value.agg #[.int .i64 p,.int .i64 c]).cells.toList=[.int .i64 p,.int .i64 c] from rfl,h5]
 rfl
def qfr (v:Value):Option (DataW Unit×List MemPlace) :=
 match v with
 | .func (.func n) f c=>if f=#[]∧c=#[] then some (.lit (.int .i64 n),[]) else none
 | .nilFunc=>some (.lit (.bool false),[])
 | _=>none
theorem fnElem_fn {v:Value} {n:Nat} {ps:List MemPlace} (h:qfr v=some (.lit (.int .i64 n),ps)):v=.func (.func n) #[] #[]:=by
 unfold qfr at h
 split at h
 ·split at h
  ·rename_i h2
   obtain⟨rfl,rfl⟩:=h2
   simp only[Option.some.injEq,Prod.mk.injEq,DataW.lit.injEq,Lit.int.injEq,true_and] at h
   have:=h.1
   have e:=Int.ofNat.inj this
   rw[e]
  ·cases h
 ·cases h
 ·cases h
theorem fnElem_nil {v:Value} {ps:List MemPlace} (h:qfr v=some (.lit (.bool false),ps)):v=.nilFunc:=by
 unfold qfr at h
 split at h
 ·split at h
  ·cases h
  ·cases h
 ·rfl
 ·cases h
theorem kS_inj {p c p' c':Int} (hp:(Lit.int .i64 p).wf=true) (hc:(Lit.int .i64 c).wf=true) (hp':(Lit.int .i64 p').wf=true) (hc':(Lit.int .i64 c').wf=true) (h:kS p c=kS p' c'):p=p'∧c=c':=by
 have h1:=qj0 p c hp hc
 have h2:=qj0 p' c' hp' hc'
 rw[← h] at h2
 have h3:=lawSeq.inj h1 h2
 simp only[Value.agg.injEq,Array.mk.injEq,List.cons.injEq,Value.int.injEq,true_and,and_true] at h3
 exact h3
def ctlD:List (Int×Int×Nat)→DataW Unit
 | []=>.map []
 | r :: l=>(ctlD l).put (kS r.1 r.2.1) (.lit (.int .i64 r.2.2))
def qhd (l:List (Int×Int×Nat)) (p c:Int):Option Nat:=(l.find? (fun r=>decide (r.1=p∧r.2.1=c))).map (·.2.2)
def ctlOk (l:List (Int×Int×Nat)):Prop:=∀ r∈l,(Lit.int .i64 r.1).wf=true∧(Lit.int .i64 r.2.1).wf=true
theorem ctlD_at : ∀ (l : List (Int × Int × Nat)), ctlOk l → IsMap (ctlD l) ∧ ∀ (p c : Int), (Lit.int .i64 p).wf = true → (Lit.int .i64 c).wf = true →
  (ctlD l).atKey (kS p c) (.lit (.bool false))=(match qhd l p c with | some n=>.lit (.int .i64 n) | none=>.lit (.bool false))∧Maps.has (ctlD l) (kS p c)=(qhd l p c).isSome
 | [],_=>⟨⟨[],rfl⟩,fun _ _ _ _=>⟨rfl,rfl⟩⟩
 | r :: l,h=>by
  obtain⟨h1,h2⟩:=ctlD_at l (fun x hx=>h x (List.mem_cons_of_mem _ hx))
  obtain⟨w1,w2⟩:=h r (List.mem_cons_self ..)
  refine⟨h1.put _ _,fun p c hp hc=>?_⟩
  by_cases hq:r.1=p∧r.2.1=c
  ·have e:kS p c=kS r.1 r.2.1:=by rw[hq.1,hq.2]
   have hf:qhd (r :: l) p c=some r.2.2:=by unfold qhd;rw[List.find?_cons_of_pos (by simpa using hq)];rfl
   have hk:WideAt.IsKeyLit (kS r.1 r.2.1):=lawSeq.key (qj0 r.1 r.2.1 w1 w2)
   rw[hf,e]
   exact⟨atKey_put_same h1 hk _ _,has_put_same h1 hk _⟩
  ·have hf:qhd (r :: l) p c=qhd l p c:=by unfold qhd;rw[List.find?_cons_of_neg (by simpa using hq)]
   have hne:kS p c≠kS r.1 r.2.1:=fun e=>hq (by obtain⟨a,b⟩:=kS_inj hp hc w1 w2 e;exact⟨a.symm,b.symm⟩)
   rw[hf]
   have h3:=h2 p c hp hc
   exact⟨(atKey_put_other hne _ _).trans h3.1,(has_put_other hne _).trans h3.2⟩
def ctlL:List (Int×Int×Nat):=[(63,108,102),(63,104,101),(0,117,100),(0,115,99),(0,114,98),(0,108,97),(0,104,96),(0,109,95),(0,84,94),(0,83,93),(0,77,92),(0,76,91),(0,80,90),(0,64,89),(0,88,88),(0,75,87),(0,74,86),(0,100,85),(0,102,84),(0,72,84),(0,71,83),(0,70,82),(0,69,81),(0,68,80),(0,67,79),(0,66,78),(0,65,77)]
theorem ctlL_ok:ctlOk ctlL:=by
 intro r hr
 have:ctlL.all (fun r=>(Lit.int .i64 r.1).wf && (Lit.int .i64 r.2.1).wf)=true:=by decide
 have h:=List.all_eq_true.1 this r hr
 simpa using h
theorem find_perm {α:Type} {P:α→Bool} {l m:List α} (h:l.Perm m) (hu:∀ x∈m,∀ y∈m,P x=true→P y=true→x=y):l.find? P=m.find? P:=by
 cases hm:m.find? P with
 | none =>
  rw[List.find?_eq_none] at hm ⊢
  exact fun x hx=>hm x (h.mem_iff.1 hx)
 | some y =>
  have y1:=List.mem_of_find?_eq_some hm
  have y2:=List.find?_some hm
  cases hl:l.find? P with
  | none=>exact absurd y2 (List.find?_eq_none.1 hl y (h.mem_iff.2 y1))
  | some x=>rw[hu x (h.mem_iff.1 (List.mem_of_find?_eq_some hl)) y y1 (List.find?_some hl) y2]
theorem ctlL_one:∀ x∈ctlL,∀ y∈ctlL,x.1=y.1→x.2.1=y.2.1→x=y:=by decide +kernel
theorem ctlF_perm {l:List (Int×Int×Nat)} (h:l.Perm ctlL) (p c:Int):qhd l p c=qhd ctlL p c:=by
 unfold qhd
 rw[find_perm h fun x hx y hy h1 h2=>by
  have e1:=of_decide_eq_true h1
  have e2:=of_decide_eq_true h2
  exact ctlL_one x hx y hy (e1.1.trans e2.1.symm) (e1.2.trans e2.2.symm)]
def MP (W:World) (mv:Value):Prop:=∃ m l,mv=.map (some m)∧l.Perm ctlL∧W.ownsMap Tryz.prog 128 qfr m 27 (ctlD l)
def fnV (p c:Int):Value:=match qhd ctlL p c with | some n=>.func (.func n) #[] #[] | none=>.nilFunc
section
variable {b:Nat} {mv:Value} {t:Tm} {W:World}
theorem look_any (h : TAt MP b mv t W) (p c : Int) (hp : (Lit.int .i64 p).wf = true) (hc : (Lit.int .i64 c).wf = true) {w : World} (hb : Below W.heap.size W w) :
  (Instr.lookup 86 mv (.agg #[.int .i64 p,.int .i64 c]) true).run Tryz.prog w=.ok (.tuple #[fnV p c,.bool (qhd ctlL p c).isSome]) w:=by
 obtain⟨⟨W0,h1,h2,_,_,_,m,l,rfl,hl,hm⟩,_⟩:=h
 have hlt:=hm.lt
 obtain⟨es,clock,hbk,F,hs,hD⟩:=hm
 have hW:w.ownsMap Tryz.prog 128 qfr m 27 (ctlD l):=⟨es,clock,((hb.block m (Nat.lt_of_lt_of_le hlt h1.size)).trans (h1.block m hlt)).trans hbk,F,hs,hD⟩
 have hz:(zeroValue 129).run Tryz.prog w=.ok .nilFunc w:=by kernel_rfl
 obtain⟨v,ps,hr,hv⟩:=hW.look_ok lawSeq Tryz.underlying86 hz (zd:=.lit (.bool false)) (zp:=[]) rfl (qj0 p c hp hc)
 obtain⟨e1,e2⟩:=(ctlD_at l fun r hr=>ctlL_ok r (hl.mem_iff.1 hr)).2 p c hp hc
 rw[ctlF_perm hl] at e1 e2
 rw[e2] at hr
 rw[e1] at hv
 have e3:v=fnV p c:=by
  unfold fnV
  cases hx:qhd ctlL p c with
  | none=>rw[hx] at hv;exact fnElem_nil hv
  | some n=>rw[hx] at hv;exact fnElem_fn hv
 rw[e3] at hr
 exact hr
end
theorem fnElem_of (n:Nat):qfr (.func (.func n) #[] #[])=some (.lit (.int .i64 n),[]):=by
 unfold qfr
 simp
theorem ins_seq {W : World} {m n : Nat} {l : List (Int × Int × Nat)} (hown : W.ownsMap Tryz.prog 128 qfr m n (ctlD l)) (p c : Int) (f : Nat) (hn : n < 100) (hp : (Lit.int .i64 p).wf = true) (hc : (Lit.int .i64 c).wf = true) :
  ∃ W',(Instr.mapUpdate 86 (.map (some m)) (.agg #[.int .i64 p,.int .i64 c]) (.func (.func f) #[] #[])).run Tryz.prog W=.ok () W'∧W'.ownsMap Tryz.prog 128 qfr m (n+1) (ctlD ((p,c,f) :: l))∧W.grownBy W' (some m) :=
 hown.update lawSeq Tryz.underlying86 (by unfold maxLen;omega) (qj0 p c hp hc) (fnElem_of f)
def PutI (m:Nat) (w0:World) (ent:Nat→Int×Int×Nat) (left:List Nat) (w:World):Prop :=
 ∃ l,(left.map ent ++ l).Perm ctlL∧w.ownsMap Tryz.prog 128 qfr m l.length (ctlD l)∧Below w0.heap.size w0 w
theorem PutI.done {m:Nat} {w0 w:World} {ent:Nat→Int×Int×Nat} (h:PutI m w0 ent [] w):MP w (.map (some m))∧Below w0.heap.size w0 w:=by
 obtain⟨l,h1,h2,h3⟩:=h
 have hl:l.Perm ctlL:=h1
 rw[hl.length_eq] at h2
 exact⟨⟨m,l,rfl,hl,h2⟩,h3⟩
theorem PutI.step {m : Nat} {w0 w : World} {ent : Nat → Int × Int × Nat} {left : List Nat} (h : PutI m w0 ent left w) (hm : w0.heap.size ≤ m) {i : Nat} (hi : i ∈ left) :
  ∃ W',(Instr.mapUpdate 86 (.map (some m)) (.agg #[.int .i64 (ent i).1,.int .i64 (ent i).2.1]) (.func (.func (ent i).2.2) #[] #[])).run Tryz.prog w=.ok () W'∧PutI m w0 ent (left.erase i) W':=by
 obtain⟨l,h1,h2,h3⟩:=h
 have hin:ent i∈ctlL:=h1.mem_iff.1 (List.mem_append_left _ (List.mem_map_of_mem hi))
 obtain⟨k1,k2⟩:=ctlL_ok _ hin
 have hlen:(left.map ent ++ l).length=ctlL.length:=h1.length_eq
 rw[List.length_append,show ctlL.length=27 from rfl] at hlen
 obtain⟨W',r,o,g⟩:=ins_seq h2 (ent i).1 (ent i).2.1 (ent i).2.2 (by omega) k1 k2
 refine⟨W',r,ent i :: l,?_,o,h3.grown g h3.size fun k hk=>by cases hk;exact hm⟩
 refine List.Perm.trans ?_ h1
 have e1:left.Perm (i :: left.erase i):=List.perm_cons_erase hi
 have e2:(left.map ent).Perm (ent i :: (left.erase i).map ent):=e1.map ent
 refine List.Perm.trans ?_ (e2.append_right l).symm
 exact List.perm_middle
set_option maxHeartbeats 4000000
set_option maxRecDepth 100000
def putsL:List Nat:=[2,4,6,8,10,12,14,16,18,20,22,24,26,28,30,32,34,36,38,40,42,44,46,48,50,52,54]
def entC (i:Nat):Int×Int×Nat :=
 match i with
 | 2=>(0,65,77)
 | 4=>(0,66,78)
 | 6=>(0,67,79)
 | 8=>(0,68,80)
 | 10=>(0,69,81)
 | 12=>(0,70,82)
 | 14=>(0,71,83)
 | 16=>(0,72,84)
 | 18=>(0,102,84)
 | 20=>(0,100,85)
 | 22=>(0,74,86)
 | 24=>(0,75,87)
 | 26=>(0,88,88)
 | 28=>(0,64,89)
 | 30=>(0,80,90)
 | 32=>(0,76,91)
 | 34=>(0,77,92)
 | 36=>(0,83,93)
 | 38=>(0,84,94)
 | 40=>(0,109,95)
 | 42=>(0,104,96)
 | 44=>(0,108,97)
 | 46=>(0,114,98)
 | 48=>(0,115,99)
 | 50=>(0,117,100)
 | 52=>(63,104,101)
 | 54=>(63,108,102)
 | _=>(0,0,0)
theorem putsL_all:(putsL.map entC).Perm ctlL:=by decide +kernel
theorem left_lits {L:Array Bool} (h:LeftIs L [55,56]) (hz:L.size=57):L=(Array.replicate 55 true ++ #[false,false]):=by
 apply Array.ext
 ·rw[hz];rfl
 ·intro j h1 h2
  have h3:=h.2 j
  rw[Array.getD_eq_getD_getElem?,Array.getElem?_eq_getElem h1] at h3
  simp only[Option.getD_some,List.mem_cons,List.not_mem_nil,or_false] at h3
  rw[Array.getElem_append]
  split
  ·rename_i h4
   have h5:j < 55:=by simpa using h4
   rw[Array.getElem_replicate]
   cases hx:L[j]
   ·have:=h3.1 hx;omega
   ·rfl
  ·rename_i h4
   have h5:¬ j < 55:=by simpa using h4
   rw[h3.2 (by omega)]
   rcases (by omega:j=55∨j=56) with rfl | rfl <;> rfl
theorem controls_any (W:World):Calls Tryz.prog 39 #[] W fun e w'=>∃ mv,e=.returned mv∧MP w' mv∧Below W.heap.size W w':=by
 have hmm:=@run_makeMap Tryz.prog
 go_enter Tryz.func39,Tryz.ntmps39
 go_upto_region 1 with fail
 have hS0:Below W.heap.size W W.drew:=qf W 1
 refine qh (fun _ w'=>Below W.heap.size W w') (by kernel_rfl) ?_
 refine tC 1 hS0 ?_
 refine tC 3 hS0 ?_
 refine tC 5 hS0 ?_
 refine tC 7 hS0 ?_
 refine tC 9 hS0 ?_
 refine tC 11 hS0 ?_
 refine tC 13 hS0 ?_
 refine tC 15 hS0 ?_
 refine tC 17 hS0 ?_
 refine tC 19 hS0 ?_
 refine tC 21 hS0 ?_
 refine tC 23 hS0 ?_
 refine tC 25 hS0 ?_
 refine tC 27 hS0 ?_
 refine tC 29 hS0 ?_
 refine tC 31 hS0 ?_
 refine tC 33 hS0 ?_
 refine tC 35 hS0 ?_
 refine tC 37 hS0 ?_
 refine tC 39 hS0 ?_
 refine tC 41 hS0 ?_
 refine tC 43 hS0 ?_
 refine tC 45 hS0 ?_
 refine tC 47 hS0 ?_
 refine tC 49 hS0 ?_
 refine tC 51 hS0 ?_
 refine tC 53 hS0 ?_
 refine qz (k:=0) (by kernel_rfl) rfl (by rfl) (fun K hK=>?_)
 go_simp
 have hb:Below W.heap.size W (W.alloc (.map #[] 0)).drew:=((qf W 1).trans ((qa W.drew (.map #[] 0)).mono (Nat.le_refl _)):Below W.heap.size W (W.drew.alloc (.map #[] 0)))
 have hP:PutI W.heap.size W entC putsL (W.alloc (.map #[] 0)).drew:=⟨[],(by rw[List.append_nil];exact putsL_all),(World.ownsMap_made _ _ _ _:(W.drew.alloc (.map #[] 0)).ownsMap _ _ _ _ _ _),hb⟩
 refine hK _ _ hb ?_
 clear hK K hS0
 (try simp only[zT]);(try simp only[zA]);(try simp only[zS]);(try simp only[zZ])
 generalize (W.alloc (.map #[] 0)).drew=w1 at *
 refine walkP (g:=2) (ins:=putsL) (tail:=[55,56]) (J:=fun left w=>PutI W.heap.size W entC left w) (by kernel_rfl) ?_ ?_ ?_ 27 putsL _ _ rfl ?_ (fun _ h=>h) rfl hP
 ·rintro left w ⟨_,_,_,h⟩ L;exact h
 ·intro L w h1 hz h4
  have e2:=left_lits h1 hz
  subst e2
  obtain⟨d1,hS0⟩:=h4.done
  clear h1 h4 hP hb hz
  refine qar (i:=55) (v:=.map (some W.heap.size)) 29 rfl rfl (by kernel_rfl) (by kernel_rfl) (by kernel_rfl) (by kernel_rfl) (fun _ _ _ h=>h) (Or.inl ⟨by rfl,fun w' hw'=>?hy55⟩) hS0 ?rest55
  case hy55=>go_simp;try with_reducible rfl
  (try simp only[zT]);(try simp only[zA]);(try simp only[zS]);(try simp only[zZ])
  refine qar (i:=56) (v:=.map (some W.heap.size)) 0 rfl rfl (by kernel_rfl) (by kernel_rfl) (by kernel_rfl) (by kernel_rfl) (fun _ _ _ h=>h) (Or.inl ⟨by rfl,fun w' hw'=>?hy56⟩) hS0 ?rest56
  case hy56=>go_simp;try with_reducible rfl
  try simp only[Act.put,List.setIfInBounds_toArray,List.set_cons_zero]
  refine qal (by kernel_rfl) ?_ _
  go_wp2
  go_ret
  exact⟨_,rfl,d1,hS0⟩
 ·intro left w i h2 hil h4
  obtain⟨W2,hrun,hP2⟩:=h4.step (Nat.le_refl _) hil
  have hip:=h2 i hil
  clear h2 h4 hil hP hb hmm
  unfold putsL at hip
  simp only[List.mem_cons,List.not_mem_nil,or_false] at hip
  rcases hip with rfl | rfl | rfl | rfl | rfl | rfl | rfl | rfl | rfl | rfl | rfl | rfl | rfl | rfl | rfl | rfl | rfl | rfl | rfl | rfl | rfl | rfl | rfl | rfl | rfl | rfl | rfl
  all_goals exact⟨_,rfl,by rfl,fun K hK=>wp_insert _ _ _ _ rfl rfl hrun (hK _ hP2)⟩
 ·exact LeftIs.of (by decide) (by decide +kernel) (by decide +kernel)
set_option maxHeartbeats 2000000
set_option maxRecDepth 100000
section
variable {b:Nat} {mv:Value} {t:Tm} {W:World}
theorem TAt.c_map {M:World→Value→Prop} (h:TAt M b mv t W):W.cell? ⟨b,32,none⟩=some mv∧W.frozen? ⟨b,32,none⟩=false:=by
 obtain⟨_,_,_,_,_,_,_,_,hb,_⟩:=h;exact⟨hb.cell 32,hb.free 32⟩
theorem qt {g : Tm → List Int → Tm} {fi : Nat} {p c : Int} (hd : DoesR fi g) (h : TAt MP b mv t W) (hr : RightT t) (d : Dn) (v : Value) (hp : IRow W v d.params) (hof : (d.params ≠ [] → qcq b v) ∧ qgv v) (hl : ParsOk d.params)
  (e1:d.priv=p) (e2:d.code=c) (hK:∀ (args:Array Value) (W:World),Sem.run Tryz.prog (callFunc fi args) W=.ok (.enter fi args) W:=by intro _ _;kernel_rfl) (w1:(Lit.int .i64 p).wf=true:=by decide) (w2:(Lit.int .i64 c).wf=true:=by decide)
  (f1:fnV p c=.func (.func fi) #[] #[]:=by rfl) (f2:(qhd ctlL p c).isSome=true:=by rfl) :
  Calls Tryz.prog 106 #[.pointer (some ⟨b,0,none⟩),.agg (d.cells v)] W (qu MP b mv W (g t d.params)):=by
 have hba:=qa W (.cells (d.cells v) 91)
 have h1:=h.below hba
 have HC:=hid (hd MP b mv t _ v d.params h1.drew hr (hp.below ⟨hba.os,hba.tape,hba.output,hba.size,hba.block⟩) hof hl)
 have HL:=hid (fun (w:World) (hb:Below (W.alloc (.cells (d.cells v) 91)).heap.size (W.alloc (.cells (d.cells v) 91)) w)=>look_any h1 p c w1 w2 hb)
 rw[f1,f2] at HL
 have HB:=hid (But.of_below (b:=b) hba)
 have hbx:=Box.new W 91 (d.cells v)
 have k3:=hbx.cell 3
 have k2:=hbx.cell 2
 have k4:=hbx.cell 4
 rw[show (d.cells v)[3]?=some (.int .i64 d.priv) from rfl,e1] at k3
 rw[show (d.cells v)[2]?=some (.int .i64 d.code) from rfl,e2] at k2
 rw[show (d.cells v)[4]?=some v from rfl] at k4
 have km:=h1.c_map.1
 have hql:=hbx.lt
 have hlt:=h1.lt
 clear h h1 hr hp hof hl hbx hba e1 e2 hd w1 w2 f1 f2
 go_enter Tryz.func106,Tryz.ntmps106
 go_upto_region 1 with fail
 generalize W.alloc (.cells (d.cells v) 91)=W1 at *
 generalize W.heap.size=q at *
 have hS0:Below W1.heap.size W1 _:=qf _ 1
 refine qh (fun _ w'=>Below W1.heap.size W1 w') (by kernel_rfl) ?_
 refine tC 0 hS0 ?_
 refine tC 1 hS0 ?_
 refine tC 2 hS0 ?_
 refine tC 3 hS0 ?_ (hy:=fun w' hw'=>by obtain⟨hc,hf⟩:=qag hw';have hlk:=HL.out _ hw';go_simp;try with_reducible rfl)
 refine tC 4 hS0 ?_
 refine tC 5 hS0 ?_ (hy:=fun w' hw'=>by obtain⟨hc,hf⟩:=qag hw';have hlk:=HL.out _ hw';go_simp;try with_reducible rfl)
 refine tC 6 hS0 ?_
 refine tC 7 hS0 ?_ (hy:=fun w' hw'=>by obtain⟨hc,hf⟩:=qag hw';have hlk:=HL.out _ hw';go_simp;try with_reducible rfl)
 refine tC 8 hS0 ?_
 refine tC 9 hS0 ?_ (hy:=fun w' hw'=>by obtain⟨hc,hf⟩:=qag hw';have hlk:=HL.out _ hw';go_simp;try with_reducible rfl)
 refine tC 10 hS0 ?_
 refine tC 11 hS0 ?_
 refine tC 12 hS0 ?_
 refine tC 13 hS0 ?_
 refine tC 14 hS0 ?_
 refine qal (by kernel_rfl) ?_ _
 go_wp2_with ((with_reducible refine HC.out.mono ?_);rintro e wn ⟨rfl,h5,h6⟩)
 go_end0
 exact⟨rfl,h5,HB.out.drew.trans h6⟩
theorem control_no (h : TAt MP b mv t W) (d : Dn) (v : Value) (w1 : (Lit.int .i64 d.priv).wf = true) (w2 : (Lit.int .i64 d.code).wf = true) (hno : qhd ctlL d.priv d.code = none) :
  Calls Tryz.prog 106 #[.pointer (some ⟨b,0,none⟩),.agg (d.cells v)] W (qu MP b mv W t):=by
 have hba:=qa W (.cells (d.cells v) 91)
 have h1:=h.below hba
 have HL:=hid (fun (w:World) (hb:Below (W.alloc (.cells (d.cells v) 91)).heap.size (W.alloc (.cells (d.cells v) 91)) w)=>look_any h1 d.priv d.code w1 w2 hb)
 rw[show fnV d.priv d.code=.nilFunc by unfold fnV;rw[hno],show (qhd ctlL d.priv d.code).isSome=false by rw[hno];rfl] at HL
 have HB:=hid (But.of_below (b:=b) hba)
 have HT:=hid h1
 have hbx:=Box.new W 91 (d.cells v)
 have k3:=hbx.cell 3
 have k2:=hbx.cell 2
 rw[show (d.cells v)[3]?=some (.int .i64 d.priv) from rfl] at k3
 rw[show (d.cells v)[2]?=some (.int .i64 d.code) from rfl] at k2
 have km:=h1.c_map.1
 have hql:=hbx.lt
 have hlt:=h1.lt
 clear h h1 hbx hba hno w1 w2
 go_enter Tryz.func106,Tryz.ntmps106
 go_upto_region 1 with fail
 generalize W.alloc (.cells (d.cells v) 91)=W1 at *
 generalize W.heap.size=q at *
 have hS0:Below W1.heap.size W1 _:=qf _ 1
 refine qh (fun _ w'=>Below W1.heap.size W1 w') (by kernel_rfl) ?_
 refine tC 0 hS0 ?_
 refine tC 1 hS0 ?_
 refine tC 2 hS0 ?_
 refine tC 3 hS0 ?_ (hy:=fun w' hw'=>by obtain⟨hc,hf⟩:=qag hw';have hlk:=HL.out _ hw';go_simp;try with_reducible rfl)
 refine tC 4 hS0 ?_
 refine tC 5 hS0 ?_ (hy:=fun w' hw'=>by obtain⟨hc,hf⟩:=qag hw';have hlk:=HL.out _ hw';go_simp;try with_reducible rfl)
 refine tC 6 hS0 ?_
 refine tC 7 hS0 ?_ (hy:=fun w' hw'=>by obtain⟨hc,hf⟩:=qag hw';have hlk:=HL.out _ hw';go_simp;try with_reducible rfl)
 refine tC 8 hS0 ?_
 refine tC 9 hS0 ?_ (hy:=fun w' hw'=>by obtain⟨hc,hf⟩:=qag hw';have hlk:=HL.out _ hw';go_simp;try with_reducible rfl)
 refine tC 10 hS0 ?_
 refine tC 11 hS0 ?_
 refine tC 12 hS0 ?_
 refine tC 13 hS0 ?_
 refine tC 14 hS0 ?_
 refine qal (by kernel_rfl) ?_ _
 go_wp2
 go_end0
 exact⟨rfl,HT.out.drew,HB.out.drew⟩
end
section
variable {t:Tm} {d:Dn}
theorem cs_65 (hl:ParsOk d.params) (e:d.code=65):qas t (qh7 t (orI (qp d.params 0) 1)) t.col=qa4 t d:=by
 unfold qa4 qdk qh7;simp[e,qcm hl]
theorem cs_66 (hl:ParsOk d.params) (e:d.code=66):qas t (qh8 t (orI (qp d.params 0) 1)) t.col=qa4 t d:=by
 unfold qa4 qdk qh8;simp[e,qcm hl]
theorem cs_67 (hl:ParsOk d.params) (e:d.code=67):qas t t.row (t.col+(orI (qp d.params 0) 1))=qa4 t d:=by
 unfold qa4 qdk;simp[e,qcm hl]
theorem cs_68 (hl:ParsOk d.params) (e:d.code=68):qas t t.row (t.col - (orI (qp d.params 0) 1))=qa4 t d:=by
 unfold qa4 qdk;simp[e,qcm hl]
theorem cs_69 (hl:ParsOk d.params) (e:d.code=69):qas t (qh8 t (orI (qp d.params 0) 1)) 0=qa4 t d:=by
 unfold qa4 qdk qh8;simp[e,qcm hl]
theorem cs_70 (hl:ParsOk d.params) (e:d.code=70):qas t (qh7 t (orI (qp d.params 0) 1)) 0=qa4 t d:=by
 unfold qa4 qdk qh7;simp[e,qcm hl]
theorem cs_71 (hl:ParsOk d.params) (e:d.code=71):qas t t.row ((orI (qp d.params 0) 1) - 1)=qa4 t d:=by
 unfold qa4 qdk;simp[e,qcm hl]
theorem cs_72 (hl:ParsOk d.params) (e:d.code=72):qas t (rowT t (orI (qp d.params 0) 1)) (orI (qp d.params 1) 1 - 1)=qa4 t d:=by
 unfold qa4 qdk;simp[e,qcm hl]
theorem cs_102 (hl:ParsOk d.params) (e:d.code=102):qas t (rowT t (orI (qp d.params 0) 1)) (orI (qp d.params 1) 1 - 1)=qa4 t d:=by
 unfold qa4 qdk;simp[e,qcm hl]
theorem cs_100 (hl:ParsOk d.params) (e:d.code=100):qas t (rowT t (orI (qp d.params 0) 1)) t.col=qa4 t d:=by
 unfold qa4 qdk;simp[e,qcm hl]
theorem cs_88 (hl:ParsOk d.params) (e:d.code=88):{ qdl t t.row t.col (qe4 t.g.cols (t.col+(orI (qp d.params 0) 1))) with late:=false }=qa4 t d:=by
 unfold qa4 qgz;simp[e,qcm hl,qdl]
theorem cs_64 (hl:ParsOk d.params) (e:d.code=64):{ t with g:=⟨t.g.cols,qbr t.g.ls t.row t.col (orI (qp d.params 0) 1) t.lk⟩,late:=false }=qa4 t d:=by
 unfold qa4 qgz;simp[e,qcm hl]
theorem cs_80 (hl:ParsOk d.params) (e:d.code=80):{ t with g:=⟨t.g.cols,qd6 t.g.ls t.row t.col (orI (qp d.params 0) 1) t.lk⟩,late:=false }=qa4 t d:=by
 unfold qa4 qgz;simp[e,qcm hl]
theorem cs_83 (hl:ParsOk d.params) (e:d.code=83):upM t t.top (orI (qp d.params 0) 1) true=qa4 t d:=by
 unfold qa4 qez;simp[e,qcm hl]
theorem cs_84 (hl:ParsOk d.params) (e:d.code=84):qhn t t.top (orI (qp d.params 0) 1)=qa4 t d:=by
 unfold qa4 qez;simp[e,qcm hl]
theorem cs_76 (hl:ParsOk d.params) (e:d.code=76):(if t.top≤t.row∧t.row≤t.bot then qas (qhn t t.row (orI (qp d.params 0) 1)) t.row 0 else t)=qa4 t d:=by
 by_cases h:t.top≤t.row∧t.row≤t.bot
 ·unfold qa4 qez;simp[e,qcm hl,h]
 ·unfold qa4 qez;rw[if_neg h];simp[e,h]
theorem cs_77 (hl:ParsOk d.params) (e:d.code=77):(if t.top≤t.row∧t.row≤t.bot then qas (upM t t.row (orI (qp d.params 0) 1) false) t.row 0 else t)=qa4 t d:=by
 by_cases h:t.top≤t.row∧t.row≤t.bot
 ·unfold qa4 qez;simp[e,qcm hl,h]
 ·unfold qa4 qez;rw[if_neg h];simp[e,h]
theorem cs_109 (e:d.code=109):{ t with lk:=qe6 t.lk d.params }=qa4 t d:=by
 unfold qa4;simp[e]
theorem cs_114 (hl:ParsOk d.params) (e:d.code=114):regP t d.params=qa4 t d:=by
 unfold qa4 qg0 regP
 simp only[e,qcm hl]
 by_cases h:orI (qp d.params 0) 1 - 1 < qe4 t.rows (orI (qp d.params 1) t.rows) - 1
 ·rw[if_pos h];simp[show ¬ (qe4 t.rows (orI (qp d.params 1) t.rows) - 1≤orI (qp d.params 0) 1 - 1) by omega]
 ·rw[if_neg h];simp[show (qe4 t.rows (orI (qp d.params 1) t.rows) - 1≤orI (qp d.params 0) 1 - 1) by omega]
theorem cs_115 (e:d.code=115):qhr t=qa4 t d:=by
 unfold qa4;simp[e]
theorem cs_117 (e:d.code=117):qco t=qa4 t d:=by
 unfold qa4;simp[e]
theorem cs_104 (e:d.code=104):insMode t true d.params=qa4 t d:=by
 unfold qa4;simp[e]
theorem cs_108 (e:d.code=108):insMode t false d.params=qa4 t d:=by
 unfold qa4;simp[e]
theorem part_line (v:Tm) (p:Int) (hp:p=0∨p=1∨p=2):qf5 v p=qit { v with late:=false } p:=by
 have n1:¬ (1:Int)=0:=by decide
 have n2:¬ (1:Int)=2:=by decide
 have n3:¬ (2:Int)=0:=by decide
 have n4:¬ (2:Int)=1:=by decide
 rcases hp with rfl | rfl | rfl
 ·unfold qf5 qit qdy
  rw[if_pos rfl,if_pos rfl,if_pos rfl]
  rfl
 ·unfold qf5 qit qdy
  rw[if_neg n1,if_pos rfl,if_neg n1,if_neg n2]
  by_cases h:v.col=v.last
  ·have h2:v.col+1=v.g.cols:=by unfold Tm.last at h;omega
   rw[if_pos h2,if_pos (show ({ v with late:=false }:Tm).col=({ v with late:=false }:Tm).last from h)]
   rfl
  ·have h2:¬ v.col+1=v.g.cols:=by unfold Tm.last at h;omega
   rw[if_neg h2,if_neg (show ¬ ({ v with late:=false }:Tm).col=({ v with late:=false }:Tm).last from h)]
   rfl
 ·unfold qf5 qit qdy
  rw[if_neg n3,if_neg n4,if_pos rfl,if_neg n3,if_pos rfl,if_pos rfl]
  rfl
theorem line_none (v:Tm) (p:Int) (hp:2 < p):qf5 v p=v:=by
 unfold qf5
 rw[if_neg (by omega),if_neg (by omega),if_neg (by omega)]
theorem scr_none (t:Tm) (p:Int) (hp:2 < p):∀ k,qb1 t p k=t
 | 0=>rfl
 | k+1=>by
  unfold qb1
  rw[if_neg (by unfold qhe;omega)]
  exact scr_none t p hp k
theorem scr_clear (t:Tm) (p:Int) (hp:p=0∨p=1∨p=2):∀ k,clearN { t with late:=false } p k={ qb1 t p k with late:=false }∧(qb1 t p k).g.cols=t.g.cols
 | 0=>⟨rfl,rfl⟩
 | k+1=>by
  obtain⟨i1,i2⟩:=scr_clear t p hp k
  unfold clearN qb1
  rw[i1]
  by_cases h:qhe t p k
  ·have h2 : (p = 2 ∧ ({ t with late := false } : Tm).row ≠ k) ∨ (p = 0 ∧ ({ t with late := false } : Tm).row < k) ∨ (p = 1 ∧ (k : Int) < ({ t with late := false } : Tm).row) := by
    show (p=2∧t.row≠k)∨(p=0∧t.row < k)∨(p=1∧(k:Int) < t.row)
    unfold qhe at h
    omega
   rw[if_pos h2,if_pos h]
   unfold qdy
   rw[if_pos i2.symm]
   exact⟨rfl,i2⟩
  ·have h2 : ¬ ((p = 2 ∧ ({ t with late := false } : Tm).row ≠ k) ∨ (p = 0 ∧ ({ t with late := false } : Tm).row < k) ∨ (p = 1 ∧ (k : Int) < ({ t with late := false } : Tm).row)) := by
    show ¬ ((p=2∧t.row≠k)∨(p=0∧t.row < k)∨(p=1∧(k:Int) < t.row))
    unfold qhe at h
    omega
   rw[if_neg h2,if_neg h]
   exact⟨rfl,i2⟩
theorem cs_75 (hl:ParsOk d.params) (e:d.code=75):qf5 t (qp d.params 0)=qa4 t d:=by
 have h0:=(hl.at 0).1
 have hx:qa4 t d=clearE t d (qp d.params 0):=by
  unfold qa4 qgy
  simp[e,num_zero hl]
 rw[hx]
 unfold clearE
 by_cases h:2 < qp d.params 0
 ·rw[if_pos h,line_none _ _ h]
 ·rw[if_neg h,if_neg (by omega),part_line _ _ (by omega)]
theorem cs_74 (hl:ParsOk d.params) (e:d.code=74):qll t (qp d.params 0)=qa4 t d:=by
 have h0:=(hl.at 0).1
 have hx:qa4 t d=qgy t d:=by
  unfold qa4
  simp[e]
 rw[hx]
 unfold qgy qll
 rw[num_zero hl]
 by_cases h3:qp d.params 0=3
 ·rw[if_pos h3,if_pos ⟨e,h3⟩]
  unfold clearE
  rw[if_pos (by omega)]
 ·rw[if_neg h3,if_neg (fun h=>h3 h.2)]
  unfold clearE
  by_cases h:2 < qp d.params 0
  ·rw[if_pos h,line_none _ _ h,scr_none _ _ h]
  ·rw[if_neg h,if_pos e,part_line _ _ (by omega),(scr_clear t _ (by omega) _).1]
end
section
variable {b:Nat} {mv:Value} {t:Tm} {W:World} {d:Dn}
def doC (t:Tm) (d:Dn):Tm :=
 if d.priv=0 then qa4 t d
 else if d.priv=63∧(d.code=104∨d.code=108) then d.params.foldl (fun t n=>qdv t (decide (d.code=104)) n) t
 else t
theorem qcs (h:d.priv=0):qa4 t d=doC t d:=by unfold doC;rw[if_pos h]
theorem doC_h (h:d.priv=63) (h2:d.code=104):qeb t true d.params=doC t d:=by
 unfold doC qeb
 rw[if_neg (by omega),if_pos ⟨h,.inl h2⟩,h2]
 rfl
theorem doC_l (h:d.priv=63) (h2:d.code=108):qeb t false d.params=doC t d:=by
 unfold doC qeb
 rw[if_neg (by omega),if_pos ⟨h,.inr h2⟩,h2]
 rfl
theorem ctl_none (hq:∀ r∈ctlL,¬ (d.priv=r.1∧d.code=r.2.1)):qhd ctlL d.priv d.code=none:=by
 unfold qhd
 rw[List.find?_eq_none.2 (fun r hr=>by
  have:=hq r hr
  simp only[decide_eq_true_eq]
  exact fun h=>this ⟨h.1.symm,h.2.symm⟩)]
 rfl
theorem qcb {t' t'':Tm} {e:FuncId} {args:Array Value} (h:Calls Tryz.prog e args W (qu MP b mv W t')) (he:t'=t''):Calls Tryz.prog e args W (qu MP b mv W t''):=he ▸ h
theorem control_any (h : TAt MP b mv t W) (hr : RightT t) (d : Dn) (v : Value) (hp : IRow W v d.params) (hof : (d.params ≠ [] → qcq b v) ∧ qgv v) (hl : ParsOk d.params)
  (w1:(Lit.int .i64 d.priv).wf=true) (w2:(Lit.int .i64 d.code).wf=true) :
  Calls Tryz.prog 106 #[.pointer (some ⟨b,0,none⟩),.agg (d.cells v)] W (qu MP b mv W (doC t d)):=by
 by_cases q0:d.priv=0∧d.code=65
 ·exact qcb (qt up_does.right h hr d v hp hof hl q0.1 q0.2) ((cs_65 hl q0.2).trans (qcs q0.1))
 by_cases q1:d.priv=0∧d.code=66
 ·exact qcb (qt down_does.right h hr d v hp hof hl q1.1 q1.2) ((cs_66 hl q1.2).trans (qcs q1.1))
 by_cases q2:d.priv=0∧d.code=67
 ·exact qcb (qt right_does.right h hr d v hp hof hl q2.1 q2.2) ((cs_67 hl q2.2).trans (qcs q2.1))
 by_cases q3:d.priv=0∧d.code=68
 ·exact qcb (qt left_does.right h hr d v hp hof hl q3.1 q3.2) ((cs_68 hl q3.2).trans (qcs q3.1))
 by_cases q4:d.priv=0∧d.code=69
 ·exact qcb (qt nextLine_does.right h hr d v hp hof hl q4.1 q4.2) ((cs_69 hl q4.2).trans (qcs q4.1))
 by_cases q5:d.priv=0∧d.code=70
 ·exact qcb (qt lineAhead_does.right h hr d v hp hof hl q5.1 q5.2) ((cs_70 hl q5.2).trans (qcs q5.1))
 by_cases q6:d.priv=0∧d.code=71
 ·exact qcb (qt toCol_does.right h hr d v hp hof hl q6.1 q6.2) ((cs_71 hl q6.2).trans (qcs q6.1))
 by_cases q7:d.priv=0∧d.code=72
 ·exact qcb (qt toPlace_does.right h hr d v hp hof hl q7.1 q7.2) ((cs_72 hl q7.2).trans (qcs q7.1))
 by_cases q8:d.priv=0∧d.code=102
 ·exact qcb (qt toPlace_does.right h hr d v hp hof hl q8.1 q8.2) ((cs_102 hl q8.2).trans (qcs q8.1))
 by_cases q9:d.priv=0∧d.code=100
 ·exact qcb (qt toRow_does.right h hr d v hp hof hl q9.1 q9.2) ((cs_100 hl q9.2).trans (qcs q9.1))
 by_cases q10:d.priv=0∧d.code=74
 ·exact qcb (qt eraseScreen_does.right h hr d v hp hof hl q10.1 q10.2) ((cs_74 hl q10.2).trans (qcs q10.1))
 by_cases q11:d.priv=0∧d.code=75
 ·exact qcb (qt eraseLine_does.right h hr d v hp hof hl q11.1 q11.2) ((cs_75 hl q11.2).trans (qcs q11.1))
 by_cases q12:d.priv=0∧d.code=88
 ·exact qcb (qt eraseCells_does.right h hr d v hp hof hl q12.1 q12.2) ((cs_88 hl q12.2).trans (qcs q12.1))
 by_cases q13:d.priv=0∧d.code=64
 ·exact qcb (qt insertCells_does.right h hr d v hp hof hl q13.1 q13.2) ((cs_64 hl q13.2).trans (qcs q13.1))
 by_cases q14:d.priv=0∧d.code=80
 ·exact qcb (qt deleteCells_does.right h hr d v hp hof hl q14.1 q14.2) ((cs_80 hl q14.2).trans (qcs q14.1))
 by_cases q15:d.priv=0∧d.code=76
 ·exact qcb (qt insertLines_does.right h hr d v hp hof hl q15.1 q15.2) ((cs_76 hl q15.2).trans (qcs q15.1))
 by_cases q16:d.priv=0∧d.code=77
 ·exact qcb (qt deleteLines_does.right h hr d v hp hof hl q16.1 q16.2) ((cs_77 hl q16.2).trans (qcs q16.1))
 by_cases q17:d.priv=0∧d.code=83
 ·exact qcb (qt regionUp_does.right h hr d v hp hof hl q17.1 q17.2) ((cs_83 hl q17.2).trans (qcs q17.1))
 by_cases q18:d.priv=0∧d.code=84
 ·exact qcb (qt regionDown_does.right h hr d v hp hof hl q18.1 q18.2) ((cs_84 hl q18.2).trans (qcs q18.1))
 by_cases q19:d.priv=0∧d.code=109
 ·exact qcb (qt changeLook_does.right h hr d v hp hof hl q19.1 q19.2) ((cs_109 q19.2).trans (qcs q19.1))
 by_cases q20:d.priv=0∧d.code=104
 ·exact qcb (qt setModes_does.right h hr d v hp hof hl q20.1 q20.2) ((cs_104 q20.2).trans (qcs q20.1))
 by_cases q21:d.priv=0∧d.code=108
 ·exact qcb (qt clearModes_does.right h hr d v hp hof hl q21.1 q21.2) ((cs_108 q21.2).trans (qcs q21.1))
 by_cases q22:d.priv=0∧d.code=114
 ·exact qcb (qt setRegion_does.right h hr d v hp hof hl q22.1 q22.2) ((cs_114 hl q22.2).trans (qcs q22.1))
 by_cases q23:d.priv=0∧d.code=115
 ·exact qcb (qt saveAll_does.right h hr d v hp hof hl q23.1 q23.2) ((cs_115 q23.2).trans (qcs q23.1))
 by_cases q24:d.priv=0∧d.code=117
 ·exact qcb (qt restoreAll_does.right h hr d v hp hof hl q24.1 q24.2) ((cs_117 q24.2).trans (qcs q24.1))
 by_cases q25:d.priv=63∧d.code=104
 ·exact qcb (qt qlc h hr d v hp hof hl q25.1 q25.2) (doC_h q25.1 q25.2)
 by_cases q26:d.priv=63∧d.code=108
 ·exact qcb (qt qj1 h hr d v hp hof hl q26.1 q26.2) (doC_l q26.1 q26.2)
 have hno:qhd ctlL d.priv d.code=none:=ctl_none (fun r hr=>by
  simp only[ctlL,List.mem_cons,List.not_mem_nil,or_false] at hr
  rcases hr with rfl | rfl | rfl | rfl | rfl | rfl | rfl | rfl | rfl | rfl | rfl | rfl | rfl | rfl | rfl | rfl | rfl | rfl | rfl | rfl | rfl | rfl | rfl | rfl | rfl | rfl | rfl
  ·exact q26
  ·exact q25
  ·exact q24
  ·exact q23
  ·exact q22
  ·exact q21
  ·exact q20
  ·exact q19
  ·exact q18
  ·exact q17
  ·exact q16
  ·exact q15
  ·exact q14
  ·exact q13
  ·exact q12
  ·exact q11
  ·exact q10
  ·exact q9
  ·exact q8
  ·exact q7
  ·exact q6
  ·exact q5
  ·exact q4
  ·exact q3
  ·exact q2
  ·exact q1
  ·exact q0)
 have hm:t=doC t d:=by
  unfold doC
  by_cases hz:d.priv=0
  ·rw[if_pos hz]
   unfold qa4
   rw[if_neg (by omega),if_neg (by omega),if_neg (by omega),if_neg (by omega),if_neg (by omega),if_neg (by omega),if_neg (by omega),if_neg (by omega),if_neg (by omega)]
  ·rw[if_neg hz,if_neg (by omega)]
 exact qcb (control_no h d v w1 w2 hno) hm
end
end Go.Proofs.YtpdaekmbpafenaaGreatDoor
