
import Derived.Test.YtpdaekmbpafenaaGreatDoorGridRbQ
import Derived.Test.YtpdaekmbpafenaaGreatDoorGridRmQ
import Derived.Test.YtpdaekmbpafenaaGreatDoorGridMnQ
import Derived.Test.YtpdaekmbpafenaaGreatDoorGridOQ
import Derived.Deep.DeepCutAuto
import Derived.Deep.RegionWith
namespace Go.Proofs.YtpdaekmbpafenaaGreatDoor
open Go.RowKit
def qh1 (e:Ln×Value):Bool:=decide (1≤(e.1.cs.length:Int)∧(e.1.cs.length:Int)≤80) && qbv e.1.cs.length e.1.cs
def qdj (lv:List (Ln×Value)):Bool:=lv.all qh1
theorem keptB_stop {lv:List (Ln×Value)} (h:qdj (lv.take lv.length)=true):qdj lv=true:=by rwa [List.take_length] at h
theorem keptB_step {lv:List (Ln×Value)} {k:Nat} {e:Ln×Value} (h:qdj (lv.take k)=true) (he:lv[k]?=some e) (hf:qh1 e=true):qdj (lv.take (k+1))=true:=by
 obtain⟨hk,rfl⟩:=List.getElem?_eq_some_iff.1 he
 rw[List.take_succ_eq_append_getElem hk]
 unfold qdj at *
 rw[List.all_append,h]
 simp[hf]
theorem ql6 {lv:List (Ln×Value)} {k:Nat} {e:Ln×Value} (he:lv[k]?=some e) (hf:qh1 e=false):qdj lv=false:=by
 unfold qdj
 rw[List.all_eq_false]
 exact⟨e,List.mem_of_getElem? he,by rw[hf];simp⟩
theorem keptE_lo {cs:List Ce} {soft:Bool} {u:Value} (h:(cs.length:Int) < 1):qh1 (⟨cs,soft⟩,u)=false:=by
 unfold qh1
 rw[decide_eq_false (by show ¬ (1≤(cs.length:Int)∧(cs.length:Int)≤80);omega),Bool.false_and]
theorem keptE_hi {cs:List Ce} {soft:Bool} {u:Value} (h:80 < (cs.length:Int)):qh1 (⟨cs,soft⟩,u)=false:=by
 unfold qh1
 rw[decide_eq_false (by show ¬ (1≤(cs.length:Int)∧(cs.length:Int)≤80);omega),Bool.false_and]
theorem keptE_mid {cs:List Ce} {soft:Bool} {u:Value} (h1:1≤(cs.length:Int)) (h2:(cs.length:Int)≤80):qh1 (⟨cs,soft⟩,u)=qbv cs.length cs:=by
 unfold qh1
 rw[decide_eq_true (by show 1≤(cs.length:Int)∧(cs.length:Int)≤80;omega),Bool.true_and]
def qdn (mx:Int) (lv:List (Ln×Value)):Bool:=decide (0≤mx∧mx≤40) && (decide ((lv.length:Int)≤mx) && qdj lv)
theorem backB_iff {mx:Int} {lv:List (Ln×Value)}:qdn mx lv=true↔(0≤mx∧mx≤40)∧(lv.length:Int)≤mx∧qdj lv=true:=by
 unfold qdn
 rw[Bool.and_eq_true,Bool.and_eq_true,decide_eq_true_iff,decide_eq_true_iff]
section
variable {α:Type}
def qah (n:Nat) (l:List α):List α:=l.drop (l.length - n)
theorem qd7 (n:Nat) (l:List α):(qah n l).length=min n l.length:=by
 unfold qah
 rw[List.length_drop]
 omega
theorem lastN_all {n:Nat} {l:List α} (h:l.length≤n):qah n l=l:=by
 unfold qah
 rw[show l.length - n=0 by omega,List.drop_zero]
theorem qki {n:Nat} {l:List α} {e:α} (h:e∈qah n l):e∈l:=List.mem_of_mem_drop h
theorem ql7 {a b:List α} {n:Nat} (h:b.length≤n):qah n (a ++ b)=qah (n - b.length) a ++ b:=by
 unfold qah
 rw[List.length_append,List.drop_append,show a.length+b.length - n=a.length - (n - b.length) by omega,show a.length - (n - b.length) - a.length=0 by omega,List.drop_zero]
theorem ql8 {a b:List α} {n:Nat} (h:n≤b.length):qah n (a ++ b)=qah n b:=by
 unfold qah
 rw[List.length_append,List.drop_append,List.drop_of_length_le (by omega),List.nil_append]
 congr 1
 omega
theorem push_last (a b:List α) (n:Nat):qah (n - (qah n b).length) a ++ qah n b=qah n (a ++ b):=by
 rw[qd7]
 by_cases h:b.length≤n
 ·rw[ql7 h,lastN_all h,Nat.min_eq_right h]
 ·rw[ql8 (by omega),Nat.min_eq_left (by omega),Nat.sub_self]
  have:qah 0 a=[]:=List.length_eq_zero_iff.1 (by rw[qd7];omega)
  rw[this,List.nil_append]
theorem lastN_lastN (m n:Nat) (l:List α):qah m (qah n l)=qah (min m n) l:=by
 unfold qah
 rw[List.drop_drop,List.length_drop]
 congr 1
 omega
theorem lastN_parts (a b:List α) (n:Nat):qah n (qah n a ++ b)=qah n (a ++ b):=by
 by_cases h:b.length≤n
 ·rw[ql7 h,ql7 h,lastN_lastN,Nat.min_eq_left (by omega)]
 ·rw[ql8 (by omega),ql8 (by omega)]
end
theorem ces_sub {W:World} {a b:List (Ln×Value)} (h:CesOf W b) (hs:∀ e∈a,e∈b):CesOf W a:=fun e he=>h e (hs e he)
def b0C:Ce:=⟨⟨#[]⟩,1,0,0,0⟩
theorem snoc_ind {α:Type} {P:List α→Prop} (h0:P []) (h1:∀ l c,P l→P (l ++ [c])) (l:List α):P l:=by
 rw[← List.reverse_reverse l]
 induction l.reverse with
 | nil=>exact h0
 | cons c r ih=>rw[List.reverse_cons];exact h1 _ _ ih
def okR (l:List Ce):Bool:=qa6 l && qa3 1 l
theorem okR_iff {l:List Ce}:okR l=true↔qa6 l=true∧qa3 1 l=true:=by unfold okR;rw[Bool.and_eq_true]
theorem okR_fits (l:List Ce):qbv l.length l=okR l:=by unfold qbv okR;rw[decide_eq_true rfl,Bool.true_and]
theorem right_wd {c:Ce} (h:qq c=true):c.wd=0∨c.wd=1∨c.wd=2:=by
 unfold qq at h
 rw[Bool.and_eq_true] at h
 have h:=h.2
 by_cases h0:c.tx.size=0
 ·rw[if_pos h0] at h
  have:=of_decide_eq_true h
  omega
 ·rw[if_neg h0] at h
  have:=of_decide_eq_true h
  have h2:(qaz c.tx).1≤2:=by
   unfold qaz
   split
   ·split
    ·exact widthI_le _
    ·simp
   ·simp
  omega
theorem whole_p {p q:Int} (hp:p≠2) (hq:q≠2):∀ l,qa3 p l=qa3 q l
 | []=>rfl
 | c :: r=>by
  rw[qa3,qa3]
  congr 2
  unfold hf
  split
  ·rfl
  ·split
   ·rw[decide_eq_true hp,decide_eq_true hq]
   ·rfl
theorem okR_cons {c:Ce} {r:List Ce} (h:okR (c :: r)=true):qq c=true∧((c.wd=1∧okR r=true)∨(c.wd=2∧∃ d q,r=d :: q∧d.wd=0∧qq d=true∧okR q=true)):=by
 obtain⟨h1,h2⟩:=okR_iff.1 h
 have hc:qq c=true∧qa6 r=true:=by
  have h1':(qq c && qa6 r)=true:=h1
  rwa [Bool.and_eq_true] at h1'
 rw[qa3,Bool.and_eq_true] at h2
 refine⟨hc.1,?_⟩
 rcases right_wd hc.1 with hw | hw | hw
 ·have:=h2.1
  unfold hf at this
  simp[hw] at this
 ·refine .inl ⟨hw,okR_iff.2 ⟨hc.2,?_⟩⟩
  have:=h2.2
  rwa [hw] at this
 ·refine .inr ⟨hw,?_⟩
  cases r with
  | nil=>have:=h2.1;unfold hf at this;simp[hw] at this
  | cons d q =>
   have hd:d.wd=0:=by have:=h2.1;unfold hf at this;simpa [hw] using this
   have hr:qq d=true∧qa6 q=true:=by
    have h1':(qq d && qa6 q)=true:=hc.2
    rwa [Bool.and_eq_true] at h1'
   have h3:=h2.2
   rw[hw,qa3,Bool.and_eq_true] at h3
   refine⟨d,q,rfl,hd,hr.1,okR_iff.2 ⟨hr.2,?_⟩⟩
   rw[← h3.2,hd]
   exact whole_p (by decide) (by decide) q
def segs:List Ce→List (List Ce)
 | []=>[]
 | [c]=>[[c]]
 | c :: d :: r=>if c.wd=2 then [c,d] :: segs r else [c] :: segs (d :: r)
theorem segs_one {c:Ce} {r:List Ce} (h:c.wd=1):segs (c :: r)=[c] :: segs r:=by
 cases r with
 | nil=>rfl
 | cons d q=>rw[segs,if_neg (by omega)]
theorem segs_two {c d:Ce} {r:List Ce} (h:c.wd=2):segs (c :: d :: r)=[c,d] :: segs r:=by rw[segs,if_pos h]
def segOk (t:List Ce):Prop:=(∃ c,t=[c]∧c.wd=1∧qq c=true)∨(∃ c d,t=[c,d]∧c.wd=2∧d.wd=0∧qq c=true∧qq d=true)
theorem segOk.len {t:List Ce} (h:segOk t):t.length=1∨t.length=2:=by
 rcases h with ⟨c,rfl,_⟩ | ⟨c,d,rfl,_⟩ <;> simp
theorem segs_step {l:List Ce} (h:okR l=true) (hn:l≠[]):∃ t r,segOk t∧l=t ++ r∧segs l=t :: segs r∧okR r=true∧(∃ c q,l=c :: q∧c.wd=(t.length:Int)):=by
 cases l with
 | nil=>exact absurd rfl hn
 | cons c r =>
  obtain⟨hc,⟨hw,hr⟩ | ⟨hw,d,q,rfl,hd,hrd,hq⟩⟩:=okR_cons h
  ·exact⟨[c],r,.inl ⟨c,rfl,hw,hc⟩,rfl,segs_one hw,hr,c,r,rfl,by rw[hw];rfl⟩
  ·exact⟨[c,d],q,.inr ⟨c,d,rfl,hw,hd,hc,hrd⟩,rfl,segs_two hw,hq,c,d :: q,rfl,by rw[hw];rfl⟩
theorem okR_ind {P:List Ce→Prop} (h0:P []) (h1:∀ t r,segOk t→okR r=true→P r→P (t ++ r)):∀ (n:Nat) (l:List Ce),l.length≤n→okR l=true→P l
 | 0,l,hn,_=>by
  have:l=[]:=List.length_eq_zero_iff.1 (by omega)
  rw[this];exact h0
 | n+1,l,hn,h=>by
  by_cases hl:l=[]
  ·rw[hl];exact h0
  ·obtain⟨t,r,ht,rfl,_,hr,_⟩:=segs_step h hl
   have:=ht.len
   rw[List.length_append] at hn
   exact h1 t r ht hr (okR_ind h0 h1 n r (by omega) hr)
theorem qf1 {t r:List Ce} (h:segOk t) (hr:okR r=true):okR (t ++ r)=true:=by
 obtain⟨h1,h2⟩:=okR_iff.1 hr
 rcases h with ⟨c,rfl,hw,hc⟩ | ⟨c,d,rfl,hw,hd,hc,hrd⟩
 ·refine okR_iff.2 ⟨?_,?_⟩
  ·show (qq c && qa6 r)=true
   rw[hc,h1];rfl
  ·show (!hf 1 c r && qa3 c.wd r)=true
   rw[hf_one _ _ _ hw,hw,h2];rfl
 ·refine okR_iff.2 ⟨?_,?_⟩
  ·show (qq c && (qq d && qa6 r))=true
   rw[hc,hrd,h1];rfl
  ·show (!hf 1 c (d :: r) && (!hf c.wd d r && qa3 d.wd r))=true
   rw[hw,hd,whole_p (p:=0) (q:=1) (by decide) (by decide),h2]
   simp[hf,hw,hd]
theorem ql9 {a b:List Ce} (ha:okR a=true) (hb:okR b=true):okR (a ++ b)=true :=
 okR_ind (P:=fun a=>okR (a ++ b)=true) hb (fun t r ht _ ih=>by rw[List.append_assoc];exact qf1 ht ih) a.length a (Nat.le_refl _) ha
def qcz (cols:Nat) (l:List Ce):List Ce:=l ++ List.replicate (cols - l.length) b0C
set_option maxHeartbeats 1000000
set_option maxRecDepth 100000
theorem qk4 (v : Value) (lv : List (Ln × Value)) (W : World) (hr : LR W v lv) (hc : CesOf W lv) (hs : Sm lv) (hT : Tab W) (hW : TabW W) :
  Calls Tryz.prog 114 #[v] W fun e w'=>e=.returned (.bool (qdj lv))∧Below W.heap.size W w':=by
 obtain⟨A,c0,rfl⟩:=hr.spell
 obtain⟨n,hnl⟩:∃ n,lv.length=n:=⟨_,rfl⟩
 have HL:=hid hnl
 rw[hnl]
 obtain⟨hs1,hs2⟩:=hs
 rw[hnl] at hs1
 clear hnl
 go_enter Tryz.func114,Tryz.ntmps114
 go_wp2
 go_loopw [8] (fun i wr=>∃ k:Nat,k≤n∧i=.int .i64 k∧Below W.heap.size W wr∧qdj (lv.take k)=true) (fun i _=>n - (intOf i).toNat)
 case atStart=>exact⟨0,by omega,rfl,Below.refl _ _,rfl⟩
 case round =>
  obtain⟨k,hk,rfl,hbl,hrel'⟩:=hrel
  have HREL:=hid hrel'
  clear hrel'
  by_cases hlt:k < n
  ·have hki:(k:Int) < n:=by omega
   have hkl:k < lv.length:=by rw[HL.out];exact hlt
   have hx:=List.getElem?_eq_getElem hkl
   obtain⟨z1,z2⟩:=hs2 lv[k] (List.getElem_mem _)
   have hce:=hc lv[k] (List.getElem_mem _)
   obtain⟨A',c',hA',_,hcell⟩:=hr.below hbl
   cases hA'
   obtain⟨g,o,rfl,hg,hcell⟩:=hcell (by intro e;subst e;simp at hkl)
   obtain⟨p0,p1⟩:=hcell k _ hx
   generalize lv[k]=x at *
   obtain⟨⟨cs,soft⟩,cv⟩:=x
   simp only at *
   have hbl1:=hbl.alloc hbl.size (.cells #[cv,.bool soft] 55)
   have hF:=pFits_any cs.length cv cs soft (wr.alloc (.cells #[cv,.bool soft] 55)) (hce.below hbl1) z2 (by omega) (hT.below hbl1) (hW.below hbl1)
   obtain⟨cA,cc,rfl⟩:=hce.spell
   have hbx:=Box.new wr 55 #[.slice cA cs.length cc,.bool soft]
   have HBL1:=hid hbl1
   have HX:=hid hx
   obtain⟨⟨a0,a1⟩,af0,af1⟩:=hbx.two
   have hlo:=fun h=>ql6 HX.out (keptE_lo (cs:=cs) (soft:=soft) (u:=.slice cA cs.length cc) h)
   have hhi:=fun h=>ql6 HX.out (keptE_hi (cs:=cs) (soft:=soft) (u:=.slice cA cs.length cc) h)
   have hmi:=fun h1 h2=>keptE_mid (cs:=cs) (soft:=soft) (u:=.slice cA cs.length cc) h1 h2
   generalize hm:cs.length=m at *
   clear hbl1 hbx hx hcell hce hc hs2 hm
   have h3:(m:Int) < 1∨(1≤(m:Int)∧80 < (m:Int))∨(1≤(m:Int)∧(m:Int)≤80):=by omega
   rcases h3 with h | ⟨h,h'⟩ | ⟨h,h'⟩
   ·have HE:=hid (hlo h)
    clear hlo hhi hmi hF
    go_wp2
    go_ret
    exact⟨qe HE.out.symm,HBL1.out⟩
   ·have HE:=hid (hhi h')
    clear hlo hhi hmi hF
    go_wp2
    go_ret
    exact⟨qe HE.out.symm,HBL1.out⟩
   ·have hmid:=hmi h h'
    cases h1:qbv m cs
    ·rw[h1] at hF hmid
     have HE:=hid (ql6 HX.out hmid)
     clear h1 hmid hlo hhi hmi
     go_wp2_with (with_reducible refine hF.mono ?_;rintro e w2 ⟨rfl,hb2⟩)
     go_ret
     exact⟨qe HE.out.symm,HBL1.out.trans (hb2.mono HBL1.out.size)⟩
    ·rw[h1] at hF hmid
     have HE:=hid (keptB_step HREL.out HX.out hmid)
     clear h1 hmid hlo hhi hmi
     go_wp2_with (with_reducible refine hF.mono ?_;rintro e w2 ⟨rfl,hb2⟩)
     go_roundw
     case rel=>exact⟨k+1,by omega,by go_num,HBL1.out.trans (hb2.mono HBL1.out.size),HE.out⟩
     case measure=>simp[intOf];omega
  ·have hkm:k=n:=by omega
   subst hkm
   have HE:Hid (qdj lv=true):=by
    have h:=HREL.out
    rw[← HL.out] at h
    exact keptB_stop h
   go_wp2
   go_ret
   exact⟨qe HE.out.symm,hbl⟩
theorem qjb (mx : Int) (v : Value) (lv : List (Ln × Value)) (W : World) (hr : LR W v lv) (hc : CesOf W lv) (hs : Sm lv) (hT : Tab W) (hW : TabW W) :
  Calls Tryz.prog 47 #[.agg #[.int .i64 mx,v]] W fun e w'=>e=.returned (.bool (qdn mx lv))∧Below W.heap.size W w':=by
 have hbel:Below W.heap.size W (W.alloc (.cells #[.int .i64 mx,v] 33)):=qa _ _
 have hk:=qk4 v lv _ (hr.below hbel) (hc.below hbel) hs (hT.below hbel) (hW.below hbel)
 obtain⟨A,c0,rfl⟩:=hr.spell
 have hB:qdn mx lv=(decide (0≤mx∧mx≤40) && (decide ((lv.length:Int)≤mx) && qdj lv)):=rfl
 have HB:=hid hB
 have HK:=hid hk
 have HBL:=hid hbel
 obtain⟨n,hn⟩:∃ n,lv.length=n:=⟨_,rfl⟩
 rw[hn] at HB HK HBL ⊢
 generalize hbb:qdj lv=R at *
 clear hB hk hbel hr hc hs hn hbb
 have h4:mx < 0∨(0≤mx∧40 < mx)∨((0≤mx∧mx≤40)∧mx < n)∨((0≤mx∧mx≤40)∧(n:Int)≤mx):=by omega
 rcases h4 with h | ⟨h,h'⟩ | ⟨⟨h,h'⟩,h2⟩ | ⟨⟨h,h'⟩,h2⟩
 ·have HE:Hid (qdn mx lv=false):=by unfold Hid;rw[HB.out,decide_eq_false (p:=0≤mx∧mx≤40) (by omega),Bool.false_and]
  have hd:decide (0≤mx)=false:=decide_eq_false (by omega)
  go_enter Tryz.func47,Tryz.ntmps47
  go_wp2
  go_ret
  exact⟨qe HE.out.symm,HBL.out⟩
 ·have HE:Hid (qdn mx lv=false):=by unfold Hid;rw[HB.out,decide_eq_false (p:=0≤mx∧mx≤40) (by omega),Bool.false_and]
  have hd:decide (mx≤40)=false:=decide_eq_false (by omega)
  go_enter Tryz.func47,Tryz.ntmps47
  go_wp2
  go_ret
  exact⟨qe HE.out.symm,HBL.out⟩
 ·have HE:Hid (qdn mx lv=false):=by unfold Hid;rw[HB.out,decide_eq_false (p:=(n:Int)≤mx) (by omega),Bool.false_and,Bool.and_false]
  have hd:decide ((n:Int)≤mx)=false:=decide_eq_false (by omega)
  go_enter Tryz.func47,Tryz.ntmps47
  go_wp2
  go_ret
  exact⟨qe HE.out.symm,HBL.out⟩
 ·have HE:Hid (qdn mx lv=R):=by unfold Hid;rw[HB.out,decide_eq_true (p:=0≤mx∧mx≤40) (by omega),decide_eq_true (p:=(n:Int)≤mx) h2];rfl
  go_enter Tryz.func47,Tryz.ntmps47
  go_wp2_with (with_reducible refine HK.out.mono ?_;rintro e w2 ⟨rfl,hb⟩)
  go_ret
  exact⟨qe HE.out.symm,HBL.out.trans (hb.mono HBL.out.size)⟩
set_option maxHeartbeats 1000000
set_option maxRecDepth 100000
theorem qie (w:World):(Go.sizeOf (Tryz.prog.elem 22)).run Tryz.prog w=.ok 2 w:=by kernel_rfl
theorem LR.part {W : World} {A : Option Addr} {n c : Nat} {lv : List (Ln × Value)} (hr : LR W (.slice A n c) lv) (hl : lv.length = n) (l h m : Nat) (hlh : l ≤ h) (hhn : h ≤ n) (hm : h ≤ m) :
  ∃ A',sliced A l h m 2=.slice A' (h - l) (m - l)∧LR W (.slice A' (h - l) (m - l)) ((lv.drop l).take (h - l)):=by
 refine⟨_,rfl,?_⟩
 have hlen:((lv.drop l).take (h - l)).length=h - l:=by rw[List.length_take,List.length_drop];omega
 obtain⟨A',c',e,hc,hcell⟩:=hr
 cases e
 refine⟨_,_,by rw[hlen],by rw[hlen];omega,fun hne=>?_⟩
 have hpos:0 < h - l:=by rw[← hlen];exact List.length_pos_iff.2 hne
 obtain⟨g,o,rfl,hg,hcell⟩:=hcell (List.length_pos_iff.1 (by omega))
 refine⟨g,o+l * 2,?_,hg,fun j e he=>?_⟩
 ·rw[if_neg (by omega)]
  show some ((⟨g,o,none⟩:Addr).add (l * 2))=_
  rw[qc4]
 ·rw[List.getElem?_take] at he
  split at he
  ·rw[List.getElem?_drop] at he
   have:=hcell (l+j) e he
   rwa [show o+l * 2+j * 2=o+(l+j) * 2 by omega]
  ·cases he
theorem slice_ln_lhm {W : World} {A : Option Addr} {n c : Nat} {lv : List (Ln × Value)} (hr : LR W (.slice A n c) lv) (hl : lv.length = n) (l h m : Nat) (hlh : l ≤ h) (hhn : h ≤ n) (hm : h ≤ m) (hmc : m ≤ c) :
  ∃ A',(∀ w,(Instr.sliceAt 22 (.slice A n c) (some (.int .i64 l)) (some (.int .i64 h)) (some (.int .i64 m))).run Tryz.prog w=.ok (.slice A' (h - l) (m - l)) w)∧LR W (.slice A' (h - l) (m - l)) ((lv.drop l).take (h - l)):=by
 obtain⟨A',h1,h2⟩:=hr.part hl l h m hlh hhn hm
 refine⟨A',fun w=>?_,h2⟩
 rw[run_sliceAt_slice w _ _ _ _ _ Tryz.underlying22,run_slice_lhm w 22 A n c Tryz.underlying22 .i64 .i64 .i64 l h m (by omega) (by omega) (by omega) (by omega),qie]
 simp only[Result.andThen,Int.toNat_natCast]
 rw[h1]
theorem slice_ln_hm {W : World} {A : Option Addr} {n c : Nat} {lv : List (Ln × Value)} (hr : LR W (.slice A n c) lv) (hl : lv.length = n) (h m : Nat) (hhn : h ≤ n) (hm : h ≤ m) (hmc : m ≤ c) :
  ∃ A',(∀ w,(Instr.sliceAt 22 (.slice A n c) none (some (.int .i64 h)) (some (.int .i64 m))).run Tryz.prog w=.ok (.slice A' h m) w)∧LR W (.slice A' h m) (lv.take h):=by
 obtain⟨A',h1,h2⟩:=hr.part hl 0 h m (Nat.zero_le _) hhn hm
 rw[Nat.sub_zero,Nat.sub_zero,List.drop_zero] at h2
 refine⟨A',fun w=>?_,h2⟩
 rw[run_sliceAt_slice w _ _ _ _ _ Tryz.underlying22,run_slice_hm w 22 A n c Tryz.underlying22 .i64 .i64 h m (by omega) (by omega) (by omega),qie]
 simp only[Result.andThen,Int.toNat_natCast]
 rw[h1];rfl
theorem slice_ln_h {W : World} {A : Option Addr} {n c : Nat} {lv : List (Ln × Value)} (hr : LR W (.slice A n c) lv) (hl : lv.length = n) (h : Nat) (hhn : h ≤ n) :
  ∃ A',(∀ w,(Instr.sliceAt 22 (.slice A n c) none (some (.int .i64 h)) none).run Tryz.prog w=.ok (.slice A' h c) w)∧LR W (.slice A' h c) (lv.take h):=by
 have hc:n≤c:=by obtain⟨A',c',e,h,_⟩:=hr;cases e;rw[← hl];exact h
 obtain⟨A',h1,h2⟩:=hr.part hl 0 h c (Nat.zero_le _) hhn (by omega)
 rw[Nat.sub_zero,Nat.sub_zero,List.drop_zero] at h2
 refine⟨A',fun w=>?_,h2⟩
 rw[run_sliceAt_slice w _ _ _ _ _ Tryz.underlying22,run_slice_h w 22 A n c Tryz.underlying22 .i64 h (by omega) (by omega),qie]
 simp only[Result.andThen,Int.toNat_natCast]
 rw[h1];rfl
theorem slice_ln_l {W : World} {A : Option Addr} {n c : Nat} {lv : List (Ln × Value)} (hr : LR W (.slice A n c) lv) (hl : lv.length = n) (l : Nat) (hln : l ≤ n) :
  ∃ A',(∀ w,(Instr.sliceAt 22 (.slice A n c) (some (.int .i64 l)) none none).run Tryz.prog w=.ok (.slice A' (n - l) (c - l)) w)∧LR W (.slice A' (n - l) (c - l)) (lv.drop l):=by
 have hc:n≤c:=by obtain⟨A',c',e,h,_⟩:=hr;cases e;rw[← hl];exact h
 obtain⟨A',h1,h2⟩:=hr.part hl l n c hln (Nat.le_refl _) hc
 rw[List.take_of_length_le (by rw[List.length_drop,hl];exact Nat.le_refl _)] at h2
 refine⟨A',fun w=>?_,h2⟩
 rw[run_sliceAt_slice w _ _ _ _ _ Tryz.underlying22,run_slice_l w 22 A n c Tryz.underlying22 .i64 l (by omega) (by omega),qie]
 simp only[Result.andThen,Int.toNat_natCast]
 rw[h1]
def BCut (W0 W:World) (lv:List (Ln×Value)) (m:Nat) (e:Ending) (w':World):Prop :=
 ∃ A1 k1 A2 k2,e=.returned (.tuple #[.slice A1 k1 k1,.slice A2 k2 k2])∧k1=lv.length - m∧k2=min m lv.length∧LR W0 (.slice A1 k1 k1) (lv.take (lv.length - m))∧LR W0 (.slice A2 k2 k2) (qah m lv)∧Below W.heap.size W w'
theorem bcut_any (v : Value) (lv : List (Ln × Value)) (q : Int) (W0 W : World) (hr : LR W0 v lv) (hq : 0 ≤ q) (hq2 : q ≤ 9223372036854775807) (hn1 : lv.length ≤ 1000) :
  Calls Tryz.prog 123 #[v,.int .i64 q] W (BCut W0 W lv q.toNat):=by
 obtain⟨m,rfl⟩:∃ m:Nat,q=m:=⟨q.toNat,by omega⟩
 rw[Int.toNat_natCast]
 have hc0:∃ A c,v=.slice A lv.length c∧lv.length≤c:=by obtain⟨A,c,e,h,_⟩:=hr;exact⟨A,c,e,h⟩
 obtain⟨A,c,rfl,hc⟩:=hc0
 obtain⟨n,hn⟩:∃ n,lv.length=n:=⟨_,rfl⟩
 rw[hn] at hr hc hn1 ⊢
 have hL:Hid (qah m lv=(lv.drop (n - m)).take (n - (n - m))):=by
  unfold Hid qah
  rw[hn,List.take_of_length_le (by rw[List.length_drop,hn];exact Nat.le_refl _)]
 obtain⟨f,hf⟩:∃ f,n - m=f:=⟨_,rfl⟩
 have hfn:f≤n:=by omega
 obtain⟨A1,h1,r1⟩:=slice_ln_hm hr hn f f hfn (Nat.le_refl _) (by omega)
 obtain⟨A2,h2,r2⟩:=slice_ln_lhm hr hn f n n hfn (Nat.le_refl _) (Nat.le_refl _) hc
 rw[hf] at hL
 have HF:=hid hf
 have HN:=hid hn
 have R1:=hid r1
 have R2:=hid r2
 clear r1 r2 hr hn hf
 have hq3:Hid ((m:Int)≤9223372036854775807):=hq2
 go_enter Tryz.func123,Tryz.ntmps123
 go_upto_region 2 with fail
 go_cut [7] (fun v wx=>v=.int .i64 f∧W=wx)
 case first =>
  have h3:=HF.out
  by_cases hmn:m≤n
  ·have e:((n:Int) - (m:Int))=(f:Int):=by omega
   have E:=hid e
   have hb:0≤(n:Int) - (m:Int):=by omega
   clear e h3 HF
   by_cases hz:(n:Int) - (m:Int)=0
   ·have hb2:(n:Int) - (m:Int)≤0:=by omega
    have E2:Hid ((f:Int)=0):=by have:=E.out;unfold Hid;omega
    clear hz
    go_wp2_with fail
    go_meet
    exact⟨by rw[E2.out],rfl⟩
   ·have hb2:0 < (n:Int) - (m:Int):=by omega
    clear hz
    go_wp2_with fail
    go_meet
    exact⟨by rw[E.out],rfl⟩
  ·have E2:Hid ((f:Int)=0):=by unfold Hid;omega
   have hb2:(n:Int) - (m:Int)≤0:=by omega
   have hb3:-9223372036854775807≤(n:Int) - (m:Int):=by have:=hq3.out;omega
   have hb4:=hq3.out
   clear h3 HF
   go_wp2_with fail
   go_meet
   exact⟨by rw[E2.out],rfl⟩
 case rest =>
  obtain⟨rfl,rfl⟩:=hcut
  go_wp2_with fail
  go_quiet (fail)
  go_wp2
  go_ret2
  refine⟨_,_,_,_,rfl,by rw[HN.out,HF.out],by rw[HN.out,← HF.out];omega,?_,?_,qf _ _⟩
  ·rw[HN.out,HF.out];exact R1.out
  ·rw[hL.out];exact R2.out
set_option maxHeartbeats 1000000
set_option maxRecDepth 100000
theorem qjd {ops : Array Oper} {rest : List Oper} {o : Oper} {a : Act} {w : World} {Q : Exit → Act → World → Prop} (hw : Region.wanted o (yielded ops a.tmps) = true) (s x : Operand)
  (ho:o.op=.call { callee:=.builtin .append,args:=#[s,x],argTypes:=#[22,22] }) (A:Option Addr) (k:Nat) (xv:Value) (l m:List (Ln×Value))
  (hs:a.eval s=.slice A k k) (hk:l.length=k) (hl:LR w (.slice A k k) l) (hxe:a.eval x=xv) (hx:LR w xv m) (hm:CesOf w m) (hb:k+m.length≤1000000)
  (h:∀ v' w',((v'=.slice A k k∧m=[]∧w=w')∨(OwnL w' w.heap.size v' (l ++ m)∧Below w.heap.size w w'))→wpList Tryz.prog ops Q rest (a.put o.dst v') w'):wpList Tryz.prog ops Q (o :: rest) a w:=by
 simp only[wpList,hw,if_true]
 left
 unfold Oper.wp
 by_cases hmn:m=[]
 ·subst hmn
  obtain⟨B,c,rfl⟩:=hx.spell
  simp[execOp,ho,resolve,invoke,builtin,hs,hxe,qbz w o.type A B k k 0 c rfl (Nat.le_refl _),Result.andThen]
  exact h _ _ (.inl ⟨rfl,rfl,rfl⟩)
 ·have hpos:0 < m.length:=List.length_pos_iff.2 hmn
  obtain⟨v',w',hrun,h2,h3⟩:=qcj w A k k xv l m hl hk hx hm (by omega) (Nat.le_refl _) hb
  simp[execOp,ho,resolve,invoke,builtin,hs,hxe,hrun,Result.andThen]
  exact h v' w' (.inr ⟨h2,h3⟩)
def LQ (W w':World) (v:Value) (l:List (Ln×Value)):Prop:=LR W v l∨LSl w' W.heap.size v l
theorem LSl.spell' {W:World} {base:Nat} {v:Value} {l:List (Ln×Value)} (h:LSl W base v l):∃ A c,v=.slice A l.length c:=h.row.spell
theorem LQ.spell {W w':World} {v:Value} {l:List (Ln×Value)} (h:LQ W w' v l):∃ A c,v=.slice A l.length c:=h.elim LR.spell LSl.spell'
theorem LQ.set {W w':World} {b i:Nat} {t:TypeId} {cs:Array Value} {v:Value} {l:List (Ln×Value)} (h:LQ W w' v l) (hb:Box w' b t cs) (ht:t≠55) (u:Value):LQ W (w'.setCell ⟨b,i,none⟩ u) v l :=
 h.elim .inl (fun h=>.inr (h.set hb ht u))
theorem LQ.row {W w':World} {v:Value} {l:List (Ln×Value)} (h:LQ W w' v l) (hb:Below W.heap.size W w'):LR w' v l:=h.elim (fun h=>h.below hb) LSl.row
def BOut (W:World) (mx:Int) (ok:Bool) (tgt:List (Ln×Value)) (e:Ending) (w':World):Prop :=
 ∃ xc A k c xn,e=.returned (.tuple #[.agg #[.int .i64 xc,.slice A k c],.int .i64 xn])∧Below W.heap.size W w' ∧
  ((ok=true∧xc=mx∧xn=0∧LR w' (.slice A k c) tgt)∨(ok=false∧xc=0∧(.slice A k c:Value)=.slice none 0 0∧xn=1))
theorem BOut.no {W w':World} {mx:Int} {tgt:List (Ln×Value)} {e:Ending} (h:e=.returned (.tuple #[.agg #[.int .i64 0,.slice none 0 0],.int .i64 1])) (hb:Below W.heap.size W w'):BOut W mx false tgt e w' :=
 ⟨0,none,0,0,1,h,hb,.inr ⟨rfl,rfl,rfl,rfl⟩⟩
theorem lq_full {W w w' : World} {A : Option Addr} {k : Nat} {v' : Value} {l m : List (Ln × Value)} (hl : LR W (.slice A k k) l) (hW : Below W.heap.size W w) (h : (v' = .slice A k k ∧ m = [] ∧ w = w') ∨ (OwnL w' w.heap.size v' (l ++ m) ∧ Below w.heap.size w w')) :
  LQ W w' v' (l ++ m)∧Below w.heap.size w w':=by
 rcases h with ⟨rfl,rfl,rfl⟩ | ⟨h1,h2⟩
 ·exact⟨.inl (by rw[List.append_nil];exact hl),Below.refl _ _⟩
 ·refine⟨.inr ?_,h2⟩
  rcases h1.lsl with h | ⟨g,cap,h3,h4,h5⟩
  ·exact .inl h
  ·exact .inr ⟨g,cap,h3,Nat.le_trans hW.size h4,h5⟩
theorem push_any (mx : Int) (v u : Value) (lv ll : List (Ln × Value)) (W : World) (hr : LR W v lv) (hc : CesOf W lv) (hs : Sm lv) (hr2 : LR W u ll) (hc2 : CesOf W ll) (hs2 : Sm ll) (hT : Tab W) (hW : TabW W) :
  Calls Tryz.prog 58 #[.agg #[.int .i64 mx,v],u] W (BOut W mx (qdn mx lv && qdj ll) (qah mx.toNat (lv ++ ll))):=by
 have hR:=fun W' (hb:Below W.heap.size W W')=>qjb mx v lv W' (hr.below hb) (hc.below hb) hs (hT.below hb) (hW.below hb)
 have hK:=fun W' (hb:Below W.heap.size W W')=>qk4 u ll W' (hr2.below hb) (hc2.below hb) hs2 (hT.below hb) (hW.below hb)
 have hC1:=fun q W' h0 h1=>bcut_any u ll q W W' hr2 h0 h1 hs2.1
 have hC2:=fun q W' h0 h1=>bcut_any v lv q W W' hr h0 h1 hs.1
 have hfin:∀ m:Nat,mx=m→qah (m - min m ll.length) lv ++ qah m ll=qah mx.toNat (lv ++ ll):=by
  rintro m rfl
  rw[Int.toNat_natCast,← push_last,qd7]
 have hsz:=hs.1
 have hsz2:=hs2.1
 have hsp:=hr.spell
 obtain⟨A,c,rfl⟩:=hsp
 have hsp:=hr2.spell
 obtain⟨B,d,rfl⟩:=hsp
 have hbk:=fun h=>backB_iff.1 (show qdn mx lv=true from h)
 have b0:=((Bxs.nil W).alloc 33 #[.int .i64 mx,.slice A lv.length c]).alloc 33 #[.int .i64 0,.slice none 0 0]
 simp only[World.size_alloc,List.nil_append,List.cons_append] at b0
 have h0:Below W.heap.size W ((W.alloc (.cells #[.int .i64 mx,.slice A lv.length c] 33)).alloc (.cells #[.int .i64 0,.slice none 0 0] 33)):=(qa _ _).alloc (by simp) _
 obtain⟨n,hn⟩:∃ n,lv.length=n:=⟨_,rfl⟩
 obtain⟨m,hm⟩:∃ m,ll.length=m:=⟨_,rfl⟩
 rw[hn] at hR hC2 b0 h0 ⊢
 rw[hm] at hK hC1 ⊢
 have HN:=hid hn
 have HM:=hid hm
 have HR:=hid hR
 have HK:=hid hK
 have HC1:=hid hC1
 have HC2:=hid hC2
 have HF:=hid hfin
 have HBK:=hid hbk
 have HL:=hid hr
 have HL2:=hid hr2
 have HCE:=hid hc
 have HCE2:=hid hc2
 have BX0:=hid b0
 have H0:=hid h0
 have HSZ:=hid hsz
 have HSZ2:=hid hsz2
 generalize hRv:qdn mx lv=R at *
 generalize hKv:qdj ll=K at *
 have HRV:=hid hRv
 clear hR hK hC1 hC2 hfin b0 h0 hr hc hs hr2 hc2 hs2 hT hW hn hm hsz hsz2 hbk hRv hKv
 cases R
 ·rw[Bool.false_and]
  go_enter Tryz.func58,Tryz.ntmps58
  go_upto_region 1 with fail
  generalize ((W.alloc (.cells #[.int .i64 mx,.slice A n c] 33)).alloc (.cells #[.int .i64 0,.slice none 0 0] 33))=w0 at *
  obtain⟨⟨k0,k1⟩,f0,f1⟩:=(BX0.out.get 0 rfl).two
  obtain⟨⟨r0,r1⟩,g0,g1⟩:=(BX0.out.get 1 rfl).two
  go_wp2_with fail
  with_reducible refine(HR.out w0 H0.out).mono ?_
  rintro e w1 ⟨rfl,hb⟩
  dsimp only
  clear k0 k1 f0 f1 r0 r1 g0 g1
  have H1:=hid (H0.out.trans (hb.mono H0.out.size))
  obtain⟨⟨r0,r1⟩,g0,g1⟩:=((BX0.out.below hb).get 1 rfl).two
  clear hb
  go_wp2
  refine bodyPost_ret (v:=.tuple #[.agg #[.int .i64 0,.slice none 0 0],.int .i64 1]) (by simp[results,Tryz.results58,go_sem,r0,r1]) rfl (BOut.no rfl ?_)
  exact(H1.out.setCell (p:=⟨W.heap.size+1,0,none⟩) (by show W.heap.size≤W.heap.size+1;omega) _).setCell (p:=⟨W.heap.size+1,1,none⟩) (by show W.heap.size≤W.heap.size+1;omega) _
 ·rw[Bool.true_and]
  have hbk:=HBK.out rfl
  obtain⟨M,rfl⟩:∃ M:Nat,mx=M:=⟨mx.toNat,by omega⟩
  have hM:M≤40:=by omega
  have hM':(M:Int)≤9223372036854775807:=by omega
  have HFF:=hid (HF.out M rfl)
  clear hbk HF HRV HBK
  cases K
  ·go_enter Tryz.func58,Tryz.ntmps58
   go_upto_region 1 with fail
   generalize ((W.alloc (.cells #[.int .i64 (M:Int),.slice A n c] 33)).alloc (.cells #[.int .i64 0,.slice none 0 0] 33))=w0 at *
   obtain⟨⟨k0,k1⟩,f0,f1⟩:=(BX0.out.get 0 rfl).two
   obtain⟨⟨r0,r1⟩,g0,g1⟩:=(BX0.out.get 1 rfl).two
   go_wp2_with fail
   with_reducible refine(HR.out w0 H0.out).mono ?_
   rintro e w1 ⟨rfl,hb⟩
   dsimp only
   clear k0 k1 f0 f1 r0 r1 g0 g1
   have H1:=hid (H0.out.trans (hb.mono H0.out.size))
   have BX1:=hid (BX0.out.below hb)
   clear hb
   obtain⟨⟨k0,k1⟩,f0,f1⟩:=(BX1.out.get 0 rfl).two
   obtain⟨⟨r0,r1⟩,g0,g1⟩:=(BX1.out.get 1 rfl).two
   go_wp2_with fail
   with_reducible refine(HK.out w1 H1.out).mono ?_
   rintro e w2 ⟨rfl,hb⟩
   dsimp only
   clear k0 k1 f0 f1 r0 r1 g0 g1
   have H2:=hid (H1.out.trans (hb.mono H1.out.size))
   obtain⟨⟨r0,r1⟩,g0,g1⟩:=((BX1.out.below hb).get 1 rfl).two
   clear hb
   go_wp2
   refine bodyPost_ret (v:=.tuple #[.agg #[.int .i64 0,.slice none 0 0],.int .i64 1]) (by simp[results,Tryz.results58,go_sem,r0,r1]) rfl (BOut.no rfl ?_)
   exact(H2.out.setCell (p:=⟨W.heap.size+1,0,none⟩) (by show W.heap.size≤W.heap.size+1;omega) _).setCell (p:=⟨W.heap.size+1,1,none⟩) (by show W.heap.size≤W.heap.size+1;omega) _
  ·go_enter Tryz.func58,Tryz.ntmps58
   go_upto_region 1 with fail
   generalize ((W.alloc (.cells #[.int .i64 (M:Int),.slice A n c] 33)).alloc (.cells #[.int .i64 0,.slice none 0 0] 33))=w0 at *
   obtain⟨⟨k0,k1⟩,f0,f1⟩:=(BX0.out.get 0 rfl).two
   obtain⟨⟨r0,r1⟩,g0,g1⟩:=(BX0.out.get 1 rfl).two
   go_wp2_with fail
   with_reducible refine(HR.out w0 H0.out).mono ?_
   rintro e w1 ⟨rfl,hb⟩
   dsimp only
   clear k0 k1 f0 f1 r0 r1 g0 g1
   have H1:=hid (H0.out.trans (hb.mono H0.out.size))
   have BX1:=hid (BX0.out.below hb)
   clear hb
   obtain⟨⟨k0,k1⟩,f0,f1⟩:=(BX1.out.get 0 rfl).two
   obtain⟨⟨r0,r1⟩,g0,g1⟩:=(BX1.out.get 1 rfl).two
   go_wp2_with fail
   with_reducible refine(HK.out w1 H1.out).mono ?_
   rintro e w2 ⟨rfl,hb⟩
   dsimp only
   clear k0 k1 f0 f1 r0 r1 g0 g1
   have H2:=hid (H1.out.trans (hb.mono H1.out.size))
   have BX2:=hid (BX1.out.below hb)
   clear hb
   obtain⟨⟨k0,k1⟩,f0,f1⟩:=(BX2.out.get 0 rfl).two
   obtain⟨⟨r0,r1⟩,g0,g1⟩:=(BX2.out.get 1 rfl).two
   have hcall:=HC1.out M w2 (by omega) hM'
   rw[Int.toNat_natCast] at hcall
   have HCALL:=hid hcall
   clear hcall
   go_wp2_with fail
   with_reducible refine HCALL.out.mono ?_
   rintro e w3 ⟨A1,k1',A2,k2',rfl,hk1,hk2,hl1,hl2,hb⟩
   dsimp only
   clear k0 k1 f0 f1 r0 r1 g0 g1 HCALL hl1 hk1
   have H3:=hid (H2.out.trans (hb.mono H2.out.size))
   have BX3:=hid (BX2.out.below hb)
   have HK2:=hid hk2
   have HLC:=hid hl2
   clear hb hl2
   obtain⟨⟨k0,k1⟩,f0,f1⟩:=(BX3.out.get 0 rfl).two
   obtain⟨⟨r0,r1⟩,g0,g1⟩:=(BX3.out.get 1 rfl).two
   have hge:k2'≤M:=by rw[hk2];omega
   have hge2:(0:Int)≤(M:Int) - (k2':Int):=by omega
   have hle2:(M:Int) - (k2':Int)≤40:=by omega
   have hcall:=HC2.out ((M:Int) - (k2':Int)) w3 hge2 (by omega)
   rw[show ((M:Int) - (k2':Int)).toNat=M - k2' by omega] at hcall
   have HCALL:=hid hcall
   clear hcall hk2
   go_wp2_with fail
   with_reducible refine HCALL.out.mono ?_
   rintro e w4 ⟨A3,k3,A4,k4,rfl,hk3,hk4,hl3,hl4,hb⟩
   dsimp only
   clear k0 k1 f0 f1 r0 r1 g0 g1 HCALL hl3 hk3
   have H4:=hid (H3.out.trans (hb.mono H3.out.size))
   have BX4:=hid (BX3.out.below hb)
   have HK4:=hid hk4
   have HLS:=hid hl4
   clear hb hl4 hk4
   obtain⟨⟨k0,k1⟩,f0,f1⟩:=(BX4.out.get 0 rfl).two
   obtain⟨⟨r0,r1⟩,g0,g1⟩:=(BX4.out.get 1 rfl).two
   have hll4:=HLS.out.below H4.out
   have hlc4:=HLC.out.below H4.out
   have hcc4:=ces_sub (HCE2.out.below H4.out) (fun e (he:e∈qah M ll)=>qki he)
   have hlen4:(qah (M - k2') lv).length=k4:=by rw[qd7,HK4.out]
   have HLL4:=hid hll4
   have HLC4:=hid hlc4
   have HCC4:=hid hcc4
   have HLEN4:=hid hlen4
   have hbd:k4+(qah M ll).length≤1000000:=by rw[qd7,HK4.out];have:=HSZ.out;have:=HSZ2.out;omega
   have HBD:=hid hbd
   clear hll4 hlc4 hcc4 hlen4 hbd
   go_wp2_with (at_builtin;refine qjd rfl _ _ rfl A4 k4 _ (qah (M - k2') lv) (qah M ll) rfl HLEN4.out HLL4.out rfl HLC4.out HCC4.out HBD.out ?_;intro v5 w5 h5;have h6:=lq_full HLS.out H4.out h5;have HQ:=hid h6.1;have HB:=hid h6.2;clear h5 h6;obtain⟨A5,c5,hv5⟩:=HQ.out.spell;generalize (qah (M - k2') lv ++ qah M ll).length=n5 at hv5;subst hv5;clear k0 k1 f0 f1 r0 r1 g0 g1;have HBX:=hid (BX4.out.below HB.out);obtain⟨⟨k0,k1⟩,f0,f1⟩:=(HBX.out.get 0 rfl).two;obtain⟨⟨r0,r1⟩,g0,g1⟩:=(HBX.out.get 1 rfl).two;have hne:¬ W.heap.size+1=W.heap.size:=(by omega);have hne2:¬ W.heap.size=W.heap.size+1:=(by omega))
   refine bodyPost_ret (v:=.tuple #[.agg #[.int .i64 M,.slice A5 n5 c5],.int .i64 0]) (by simp[results,Tryz.results58,go_sem,r0,r1]) rfl ?_
   have q0:Box w5 W.heap.size 33 #[.int .i64 M,.slice A n c]:=HBX.out.get 0 rfl
   have q1:Box w5 (W.heap.size+1) 33 #[.int .i64 0,.slice none 0 0]:=HBX.out.get 1 rfl
   have e2:=q1.other (i:=1) (b':=W.heap.size) (by omega) (.slice A5 n5 c5)
   have hq:=((HQ.out.set q0 (by decide) (i:=1) (.slice A5 n5 c5)).set e2 (by decide) (i:=0) (.int .i64 M)).set (e2.set _) (by decide) (i:=1) (.slice A5 n5 c5)
   have hbb:=(((H4.out.trans (HB.out.mono H4.out.size)).setCell (p:=⟨W.heap.size,1,none⟩) (Nat.le_refl _) (.slice A5 n5 c5)).setCell (p:=⟨W.heap.size+1,0,none⟩) (by show W.heap.size≤W.heap.size+1;omega) (.int .i64 M)).setCell (p:=⟨W.heap.size+1,1,none⟩) (by show W.heap.size≤W.heap.size+1;omega) (.slice A5 n5 c5)
   have hfi:=HFF.out
   rw[← HK2.out,Int.toNat_natCast] at hfi
   rw[hfi] at hq
   exact⟨_,_,_,_,_,rfl,hbb,.inl ⟨rfl,rfl,rfl,hq.row hbb⟩⟩
end Go.Proofs.YtpdaekmbpafenaaGreatDoor
