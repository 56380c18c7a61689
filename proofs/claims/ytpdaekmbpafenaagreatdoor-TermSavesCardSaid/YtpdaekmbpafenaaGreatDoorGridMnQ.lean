
import Derived.Test.YtpdaekmbpafenaaGreatDoorGridSoftQ
import Derived.Laws.MakeOwn
import Derived.Deep.RegionLaw
import Derived.Deep.DeepCutAuto
import Derived.Deep.RegionWith
import Derived.Deep.AppendSrc
import Derived.StillTailTactics
import Derived.Test.YtpdaekmbpafenaaGreatDoorHeldIQ
import Derived.Test.YtpdaekmbpafenaaGreatDoorCellHQ
namespace Go.Proofs.YtpdaekmbpafenaaGreatDoor
set_option maxHeartbeats 1000000
set_option maxRecDepth 100000
open Go.RowKit
theorem made_at {z:Array Value} {n q:Nat} (h:q < n) {u:Value} (hu:z[q % z.size]?=some u):(madeCells z n)[q]?=some u:=by
 unfold madeCells
 obtain⟨h1,h2⟩:=Array.getElem?_eq_some_iff.1 hu
 simp only[Array.getElem?_map,Array.getElem?_range,h,if_true,Option.map_some]
 rw[getElem!_pos z _ h1,h2]
def zLn:Ln×Value:=(⟨[],false⟩,.slice none 0 0)
def lnM (n:Nat):Array Value:=madeCells #[.slice none 0 0,.bool false] (n * 2)
def ceM (n:Nat):Array Value:=madeCells Ce.zero.cells (n * 5)
theorem mk_lines (n:Nat) (hn:n≤1000) (W:World):(Instr.makeSlice 22 (.int .i64 (n:Int)) (.int .i64 (n:Int))).run Tryz.prog W=.ok (.slice (some ⟨W.heap.size,0,none⟩) n n) (W.alloc (.cells (lnM n) 55)):=by
 obtain⟨i0,hi,hz0,hz1,hz2⟩:=info_parts qiy
 have h:=run_make (P:=Tryz.prog) W 22 55 i0 _ Tryz.underlying22 hi hz0 .i64 .i64 (n:Int) (n:Int) (by omega) (by omega) (by rw[hz2];omega) (by omega)
 rw[hz1] at h
 simp only[Int.toNat_natCast] at h
 exact h
theorem mk_cells (n:Nat) (hn:n≤1000) (W:World):(Instr.makeSlice 53 (.int .i64 (n:Int)) (.int .i64 (n:Int))).run Tryz.prog W=.ok (.slice (some ⟨W.heap.size,0,none⟩) n n) (W.alloc (.cells (ceM n) 57)):=by
 obtain⟨i0,hi,hz0,hz1,hz2⟩:=info_parts ce_info
 have h:=run_make (P:=Tryz.prog) W 53 57 i0 _ Tryz.underlying53 hi hz0 .i64 .i64 (n:Int) (n:Int) (by omega) (by omega) (by rw[hz2];omega) (by omega)
 rw[hz1] at h
 simp only[Int.toNat_natCast] at h
 exact h
theorem lnM_box (n:Nat) (W:World):LBox (W.alloc (.cells (lnM n) 55)) W.heap.size (List.replicate n zLn) n:=by
 refine⟨_,Box.new W _ _,by unfold lnM;rw[size_madeCells],by simp,fun j e hj=>?_⟩
 rw[List.getElem?_replicate] at hj
 split at hj
 ·cases hj
  refine⟨made_at (by omega) ?_,made_at (by omega) ?_⟩
  ·show (#[Value.slice none 0 0,.bool false]:Array Value)[j * 2 % 2]?=_
   rw[show j * 2 % 2=0 by omega];rfl
  ·show (#[Value.slice none 0 0,.bool false]:Array Value)[(j * 2+1) % 2]?=_
   rw[show (j * 2+1) % 2=1 by omega];rfl
 ·cases hj
theorem ceM_box (n:Nat) (W:World):CBox (W.alloc (.cells (ceM n) 57)) W.heap.size (List.replicate n Ce.zero) n:=by
 refine⟨_,Box.new W _ _,by unfold ceM;rw[size_madeCells],by simp,fun j e hj i u hu=>?_⟩
 rw[List.getElem?_replicate] at hj
 split at hj
 ·cases hj
  have hi:i < 5:=by have:=(Array.getElem?_eq_some_iff.1 hu).1;simpa [Ce.cells,Ce.zero] using this
  refine made_at (by omega) ?_
  show Ce.zero.cells[(j * 5+i) % 5]?=_
  rw[show (j * 5+i) % 5=i by omega]
  exact hu
 ·cases hj
theorem LBox.set1 {W : World} {g cap : Nat} {l : List (Ln × Value)} (h : LBox W g l cap) {k : Nat} {e : Ln × Value} (hk : l[k]? = some e) (v : Value) (cs : List Ce) :
  LBox (W.setCell ⟨g,k * 2,none⟩ v) g (l.set k (⟨cs,e.1.soft⟩,v)) cap:=by
 obtain⟨cur,hb,hs,hl,hc⟩:=h
 have hkl:=(List.getElem?_eq_some_iff.1 hk).1
 refine⟨_,hb.set (i:=k * 2) _,by simp[hs],by rw[List.length_set];exact hl,?_⟩
 intro j e' hj
 simp only[Array.getElem?_setIfInBounds]
 by_cases hjk:j=k
 ·subst hjk
  rw[List.getElem?_set_self hkl] at hj
  cases hj
  refine⟨?_,?_⟩
  ·rw[if_pos rfl,if_pos (by omega)]
  ·rw[if_neg (by omega)]
   exact(hc j e hk).2
 ·rw[List.getElem?_set_ne (Ne.symm hjk)] at hj
  have:=hc j e' hj
  refine⟨?_,?_⟩
  ·rw[if_neg (by omega)];exact this.1
  ·rw[if_neg (by omega)];exact this.2
theorem LBox.drew {W:World} {g cap:Nat} {l:List (Ln×Value)} (h:LBox W g l cap):LBox W.drew g l cap:=h
theorem erase_all (n:Nat) (a:At):qa6 (List.replicate n Ce.zero) 0 n a=List.replicate n (qe5 a):=by
 unfold qa6
 simp
def qe4 (cols:Nat) (a:At):Ln:=⟨List.replicate cols (qe5 a),false⟩
def BlRel (base gL rows cols k:Nat) (a:At) (wr:World):Prop :=
 ∃ done:List (Ln×Value),done.map Prod.fst=List.replicate k (qe4 cols a)∧LBox wr gL (done ++ List.replicate (rows - k) zLn) rows∧∀ x∈done,CSl wr base x.2 x.1.cs
theorem bl_step {base gL rows cols k : Nat} {a : At} {W W' W'' : World} (h : BlRel base gL rows cols k a W) (hk : k < rows) (hb : base ≤ W.heap.size) (hg : gL < W.heap.size)
  (h1:W'=(W.alloc (.cells (ceM cols) 57)).setCell ⟨gL,k * 2,none⟩ (.slice (some ⟨W.heap.size,0,none⟩) cols cols)) (h2:CBox W'' W.heap.size (List.replicate cols (qe5 a)) cols) (h3:Only W.heap.size W'.drew W''):BlRel base gL rows cols (k+1) a W'':=by
 obtain⟨done,hd,hl,hc⟩:=h
 have hdl:done.length=k:=by have:=congrArg List.length hd;simpa using this
 have hz:(done ++ List.replicate (rows - k) zLn)[k]?=some zLn:=by
  rw[List.getElem?_append_right (by omega),List.getElem?_replicate,if_pos (by omega)]
 have hl1:=hl.below (qa W (.cells (ceM cols) 57)) hg
 have hl2:=hl1.set1 hz (.slice (some ⟨W.heap.size,0,none⟩) cols cols) (List.replicate cols (qe5 a))
 have e:(done ++ List.replicate (rows - k) zLn).set k (⟨List.replicate cols (qe5 a),zLn.1.soft⟩,.slice (some ⟨W.heap.size,0,none⟩) cols cols)=(done ++ [(qe4 cols a,.slice (some ⟨W.heap.size,0,none⟩) cols cols)]) ++ List.replicate (rows - (k+1)) zLn:=by
  rw[← hdl,List.set_append_right (h:=Nat.le_refl _),show rows - done.length=rows - (done.length+1)+1 by omega,List.replicate_succ]
  simp[qe4,zLn]
 rw[e,← h1] at hl2
 refine⟨done ++ [(qe4 cols a,.slice (some ⟨W.heap.size,0,none⟩) cols cols)],?_,hl2.drew.only h3 (by omega),?_⟩
 ·rw[List.map_append,hd,List.replicate_succ']
  rfl
 ·intro x hx
  rw[List.mem_append,List.mem_singleton] at hx
  rcases hx with hx | rfl
  ·rcases hc x hx with h | ⟨g,cap,h4,h5,h6⟩
   ·exact .inl h
   ·refine .inr ⟨g,cap,h4,h5,?_⟩
    have h7:=h6.below (qa W (.cells (ceM cols) 57)) h6.lt
    obtain⟨cur,hcb,hrest⟩:=h7
    obtain⟨curL,hlb,_⟩:=hl1
    have hne:g≠gL:=by
     rintro rfl
     have q1:_=_:=hcb
     have q2:_=_:=hlb
     rw[q1] at q2
     cases q2
    have h8:CBox W' g x.1.cs cap:=by rw[h1];exact⟨cur,hcb.other hne _,hrest⟩
    exact h8.drew.only h3 (by have:=h6.lt;omega)
  ·exact .inr ⟨W.heap.size,cols,by simp[qe4],hb,by simpa [qe4] using h2⟩
def BlPost (W:World) (rows cols:Nat) (a:At) (e:Ending) (w':World):Prop :=
 ∃ v lv,e=.returned v∧lv.map Prod.fst=List.replicate rows (qe4 cols a)∧LSl w' W.heap.size v lv∧(∀ x∈lv,CSl w' W.heap.size x.2 x.1.cs)∧Below W.heap.size W w'
theorem qfv (rows cols : Nat) (a : At) (W : World) (hr : rows ≤ 1000) (hc : cols ≤ 1000) :
  Calls Tryz.prog 54 #[.int .i64 rows,.int .i64 cols,a.agg] W (BlPost W rows cols a):=by
 have hmL:=mk_lines rows hr
 have hmC:=mk_cells cols hc
 have hbx:=(Box.new W 26 a.cells).alloc (.cells (lnM rows) 55)
 have hlb:=lnM_box rows (W.alloc (.cells a.cells 26))
 rw[World.size_alloc] at hlb
 have hbel:Below W.heap.size W ((W.alloc (.cells a.cells 26)).alloc (.cells (lnM rows) 55)):=(qa _ _).alloc (by simp) _
 have her:=fun (w:World) (g:Nat) (h:CBox w g (List.replicate cols Ce.zero) cols)=>qdw g 0 cols cols cols _ a w h (by simp) (by simp;omega)
 have hsz:((W.alloc (.cells a.cells 26)).alloc (.cells (lnM rows) 55)).heap.size=W.heap.size+1+1:=by simp
 obtain⟨fg,bg,fl⟩:=a
 unfold At.agg at her ⊢
 unfold At.cells at hbx hlb hbel hsz
 simp only[erase_all,Nat.zero_mul] at her
 simp only at hbx hlb hbel hsz ⊢
 have HBX:=hid hbx
 have HLB:=hid hlb
 have HBL:=hid hbel
 have HER:=hid her
 have HSZ:=hid hsz
 clear hbx hlb hbel her hsz
 go_enter Tryz.func54,Tryz.ntmps54
 go_wp2
 go_loopw [13] (fun i wr=>∃ k:Nat,k≤rows∧i=.int .i64 k∧Box wr W.heap.size 26 #[.int .i64 fg,.int .i64 bg,.int .i64 fl]∧BlRel W.heap.size (W.heap.size+1) rows cols k ⟨fg,bg,fl⟩ wr∧W.heap.size+1+1≤wr.heap.size∧Below W.heap.size W wr) (fun i _=>rows - (intOf i).toNat)
 case atStart=>exact⟨0,by omega,rfl,HBX.out,⟨[],rfl,by simpa using HLB.out,by simp⟩,by rw[HSZ.out];exact Nat.le_refl _,HBL.out⟩
 case round =>
  obtain⟨k,hk,rfl,hbA,hrl,hzr,hbr⟩:=hrel
  by_cases hlt:k < rows
  ·have hki:(k:Int) < rows:=by omega
   obtain⟨⟨a0,a1,a2⟩,af0,af1,af2⟩:=hbA.three
   have hrl':=hrl
   obtain⟨done,hd,hl,hcs⟩:=hrl'
   have hdl:done.length=k:=by have:=congrArg List.length hd;simpa using this
   obtain⟨⟨q0,q1⟩,r0,r1⟩:=hl.two (j:=k) (e:=zLn) (by rw[List.getElem?_append_right (by omega),List.getElem?_replicate,if_pos (by omega)])
   unfold zLn at q0 q1
   simp only at q0 q1
   have hcb:CBox ((wr.alloc (.cells (ceM cols) 57)).setCell ⟨W.heap.size+1,k * 2,none⟩ (.slice (some ⟨wr.heap.size,0,none⟩) cols cols)).drew wr.heap.size (List.replicate cols Ce.zero) cols :=
    ((ceM_box cols wr).only (Only.set (Only.refl (W.heap.size+1) _) (i:=k * 2) (.slice (some ⟨wr.heap.size,0,none⟩) cols cols)) (by omega)).drew
   have hz:(done ++ List.replicate (rows - k) zLn)[k]?=some zLn:=by rw[List.getElem?_append_right (by omega),List.getElem?_replicate,if_pos (by omega)]
   have hl1:=hl.below (qa wr (.cells (ceM cols) 57)) (by omega)
   have hl2:=hl1.set1 hz (.slice (some ⟨wr.heap.size,0,none⟩) cols cols) (List.replicate cols (qe5 ⟨fg,bg,fl⟩))
   have hA1:=((hbA.alloc (.cells (ceM cols) 57)).other (b':=W.heap.size+1) (i:=k * 2) (by omega) (.slice (some ⟨wr.heap.size,0,none⟩) cols cols))
   have hzs:((wr.alloc (.cells (ceM cols) 57)).setCell ⟨W.heap.size+1,k * 2,none⟩ (.slice (some ⟨wr.heap.size,0,none⟩) cols cols)).heap.size=wr.heap.size+1:=by rw[qfy,World.size_alloc]
   have hcall:=HER.out _ _ hcb
   have HL2:=hid hl2
   have HA1:=hid hA1
   have HZS:=hid hzs
   have hblen:k < (done ++ List.replicate (rows - k) zLn).length:=by simp;omega
   have HH:=hid ((List.getElem?_set_self (a:=((⟨List.replicate cols (qe5 ⟨fg,bg,fl⟩),zLn.1.soft⟩:Ln),(Value.slice (some ⟨wr.heap.size,0,none⟩) cols cols))) hblen))
   clear hl1 hl2 hA1 hz hblen hzs
   have HRL:=hid hrl
   have HCALL:=hid hcall
   have HBR:=hid hbr
   have HBA:=hid hbA
   clear hrl hcall hcb hbr hl hcs hd hdl hbA
   have hne1:¬ wr.heap.size=W.heap.size:=by omega
   have hne2:¬ wr.heap.size=W.heap.size+1:=by omega
   have hlt2:W.heap.size+1 < wr.heap.size:=by omega
   go_upto_region 6 with fail
   obtain⟨W1,hW1⟩:∃ W1,(wr.alloc (.cells (ceM cols) 57)).setCell ⟨W.heap.size+1,k * 2,none⟩ (.slice (some ⟨wr.heap.size,0,none⟩) cols cols)=W1:=⟨_,rfl⟩
   rw[hW1] at HCALL HL2 HA1 HZS
   rw[← World.setCell_alloc_past (w:=wr) (.cells (ceM cols) 57) (W.heap.size+1) (k * 2) _ hlt2,hW1]
   have HW1:=hid hW1
   clear hW1 a0 a1 a2 af0 af1 af2 q0 q1 r0 r1
   obtain⟨⟨a0,a1,a2⟩,af0,af1,af2⟩:=HA1.out.three
   obtain⟨⟨q0,q1⟩,r0,r1⟩:=HL2.out.two HH.out
   simp only at q0
   go_wp2_with fail
   go_still_tail 6,(by kernel_rfl)
   change wpList _ _ _ _ _ W1.drew
   go_wp2_with fail
   with_reducible refine HCALL.out.mono ?_
   rintro e w2 ⟨rfl,hc2,ho2⟩
   dsimp only
   have hst:=bl_step HRL.out hlt (by omega) (by omega) HW1.out.symm hc2 ho2
   have hbA2:Box w2 W.heap.size 26 #[.int .i64 fg,.int .i64 bg,.int .i64 fl]:=HA1.out.drew.only ho2 (by omega)
   have hzz:W.heap.size+1+1≤w2.heap.size:=by have:=ho2.size;have:=HZS.out;rw[show W1.drew.heap.size=W1.heap.size from rfl] at *;omega
   have hbb:Below W.heap.size W w2:=(HW1.out ▸ (HBR.out.alloc HBR.out.size _).setCell (p:=⟨W.heap.size+1,k * 2,none⟩) (by show W.heap.size≤W.heap.size+1;omega) _:Below W.heap.size W W1).drew.trans (ho2.below (by show W.heap.size≤W1.heap.size;have:=HZS.out;omega) (by omega))
   have HST:=hid hst
   have HA2:=hid hbA2
   have HBB:=hid hbb
   clear hst hbA2 hbb hc2 ho2 a0 a1 a2 af0 af1 af2 q0 q1 r0 r1
   go_wp2
   go_roundw
   case rel=>exact⟨k+1,by omega,by go_num,HA2.out,HST.out,hzz,HBB.out⟩
   case measure=>simp[intOf];omega
  ·have hkm:k=rows:=by omega
   subst hkm
   have HRL:=hid hrl
   clear hrl hmL hmC
   go_wp2
   go_ret
   obtain⟨done,hd,hl,hcs⟩:=HRL.out
   rw[Nat.sub_self,List.replicate_zero,List.append_nil] at hl
   have hdl:done.length=k:=by have:=congrArg List.length hd;simpa using this
   exact⟨_,done,rfl,hd,.inr ⟨W.heap.size+1,k,by rw[hdl];rfl,by omega,hl⟩,hcs,hbr⟩
set_option maxHeartbeats 1000000
set_option maxRecDepth 100000
theorem hf_one (p:Int) (c:Ce) (r:List Ce) (h:c.wd=1):hf p c r=false:=by
 unfold hf
 rw[if_neg (by omega),if_neg (by omega)]
theorem ql6:∀ (l:List Ce) (p:Int),(∀ c∈l,c.wd=1)→qb7 p l=true
 | [],_,_=>rfl
 | c :: r,p,h=>by
  unfold qb7
  rw[hf_one p c r (h c (by simp)),ql6 r _ (fun x hx=>h x (by simp[hx]))];rfl
theorem fits_bare {a:At} (h:qad a=true) (n:Nat):qb6 n (List.replicate n (qe5 a))=true:=by
 refine fits_iff.2 ⟨by simp,rights_iff.2 ?_,ql6 _ _ ?_⟩
 ·intro c hc
  rw[(List.mem_replicate.1 hc).2]
  exact qgz h
 ·intro c hc
  rw[(List.mem_replicate.1 hc).2]
  rfl
def NewPost (W:World) (rows cols:Nat) (e:Ending) (w':World):Prop :=
 ∃ v lv,e=.returned (.tuple #[.agg #[.int .i64 cols,v],.int .i64 0])∧lv.map Prod.fst=List.replicate rows (qe4 cols ⟨0,0,0⟩)∧LSl w' W.heap.size v lv∧(∀ x∈lv,CSl w' W.heap.size x.2 x.1.cs)∧Below W.heap.size W w'
theorem new_yes (cols rows:Nat) (W:World) (h:qbo cols rows=true):Calls Tryz.prog 23 #[.int .i64 cols,.int .i64 rows] W (NewPost W rows cols):=by
 have hz:=h
 unfold qbo at hz
 rw[Bool.and_eq_true,decide_eq_true_iff,decide_eq_true_iff] at hz
 have hsz:=fun W=>size_any cols rows W
 rw[h] at hsz
 have hbl:=qfv rows cols ⟨0,0,0⟩ (W.alloc (.cells #[.int .i64 0,.slice none 0 0] 24)) (by omega) (by omega)
 have hbx:=Box.new W 24 #[.int .i64 0,.slice none 0 0]
 unfold At.agg at hbl
 have HB:=hid hbl
 have HX:=hid hbx
 clear hbl hbx h hz
 go_enter Tryz.func23,Tryz.ntmps23
 go_wp2_with fail
 with_reducible refine(hsz _).mono ?_
 rintro e w2 ⟨rfl,rfl⟩
 dsimp only
 go_wp2_with fail
 with_reducible refine HB.out.mono ?_
 rintro e w2 ⟨v,lv,rfl,hm,hl,hc,hb⟩
 dsimp only
 have bx:=HX.out.below hb (by simp)
 obtain⟨A5,c5,hs5⟩:=hl.spell
 subst hs5
 obtain⟨⟨k0,k1⟩,f0,f1⟩:=bx.two
 have HM:=hid hm
 have HL:=hid hl
 have HC:=hid hc
 have HBX:=hid bx
 have HBB:=hid (Below.behind hb)
 clear hm hl hc bx hb
 go_wp2
 refine bodyPost_ret (v:=.tuple #[.agg #[.int .i64 cols,.slice A5 lv.length c5],.int .i64 0]) (by simp[results,Tryz.results23,go_sem,k0,k1]) rfl ⟨_,lv,rfl,HM.out,?_,?_,?_⟩
 ·exact((HL.out.set HBX.out (by decide) (i:=0) _).set (HBX.out.set _) (by decide) (i:=1) _).mono (by simp)
 ·exact fun x hx=>(((HC.out x hx).set HBX.out (by decide) (i:=0) _).set (HBX.out.set _) (by decide) (i:=1) _).mono (by simp)
 ·exact(HBB.out.setCell (p:=⟨W.heap.size,0,none⟩) (Nat.le_refl _) _).setCell (p:=⟨W.heap.size,1,none⟩) (Nat.le_refl _) _
def cutC (c:Ce):Ce:=⟨c.tx.extract 0 20,c.wd,c.fg,c.bg,c.fl⟩
def qh6 (l:List Ce):List Ce:=(l.take 82).map cutC
theorem cutC_size (c:Ce):(cutC c).tx.size≤20:=by
 unfold cutC
 simp only
 rw[qj]
 omega
theorem lineG_length (l:List Ce):(qh6 l).length=min 82 l.length:=by
 unfold qh6
 rw[List.length_map,List.length_take]
theorem cutC_short {tx:ByteArray} (h:tx.size≤20):tx.extract 0 20=tx:=by
 apply qcz
 ·rw[qj];omega
 ·intro i hi
  rw[qj] at hi
  rw[qas _ _ _ _ (by omega),Nat.zero_add]
theorem take_cut {l:List Ce} {k:Nat} {c:Ce} (h:l[k]?=some c):(l.take (k+1)).map cutC=(l.take k).map cutC ++ [cutC c]:=by
 obtain⟨hk,rfl⟩:=List.getElem?_eq_some_iff.1 h
 rw[List.take_succ_eq_append_getElem hk,List.map_append]
 rfl
theorem ce_lit (W:World) (e:Ce):CeRow (W.alloc (.cells e.cells 57)) (.slice (some ⟨W.heap.size,0,none⟩) 1 1) [e]:=by
 refine⟨_,_,rfl,Nat.le_refl _,fun _=>⟨W.heap.size,0,rfl,by simp,fun j x hj i u hu=>?_⟩⟩
 have hb:=Box.new W 57 e.cells
 cases j with
 | zero =>
  simp at hj
  subst hj
  rw[show 0+0 * 5+i=i by omega,hb.cell]
  exact hu
 | succ j=>simp at hj
def cutN (l:Ln):Ln:=⟨qh6 l.cs,l.soft⟩
theorem take_cutN {l:List Ln} {k:Nat} {c:Ln} (h:l[k]?=some c):(l.take (k+1)).map cutN=(l.take k).map cutN ++ [cutN c]:=by
 obtain⟨hk,rfl⟩:=List.getElem?_eq_some_iff.1 h
 rw[List.take_succ_eq_append_getElem hk,List.map_append]
 rfl
theorem ln_lit (W:World) (e:Ln×Value):LR (W.alloc (.cells #[e.2,.bool e.1.soft] 55)) (.slice (some ⟨W.heap.size,0,none⟩) 1 1) [e]:=by
 refine⟨_,_,rfl,Nat.le_refl _,fun _=>⟨W.heap.size,0,rfl,by simp,fun j x hj=>?_⟩⟩
 have hb:=Box.new W 55 #[e.2,.bool e.1.soft]
 cases j with
 | zero =>
  simp at hj
  subst hj
  exact⟨hb.cell 0,hb.cell 1⟩
 | succ j=>simp at hj
theorem CSl.grown {W W':World} {base base':Nat} {v v':Value} {l:List Ce} {lv:List (Ln×Value)} (h:CSl W base v l) (ho:OwnL W base' v' lv) (hg:W.grownBy W' v'.ownBlock):CSl W' base v l:=by
 rcases h with h | ⟨g,cap,rfl,h1,cur,hb,h2⟩
 ·exact .inl h
 ·exact .inr ⟨g,cap,rfl,h1,cur,hb.grown hg (ho.not_box hb (by decide)),h2⟩
set_option maxRecDepth 100000
theorem LR.flat {W:World} {A:Option Addr} {k c:Nat} {l:List (Ln×Value)} (h:LR W (.slice A k c) l) (hl:l.length=k):(l=[]∨∃ a,A=some a∧∀ j u,(qr l)[j]?=some u→W.cell? (a.add j)=some u):=by
 obtain⟨A',c',e,_,hc⟩:=h
 cases e
 by_cases hn:l=[]
 ·exact .inl hn
 ·obtain⟨g,o,rfl,_,hc⟩:=hc hn
  refine .inr ⟨_,rfl,fun j u hu=>?_⟩
  obtain⟨e,h1,h2⟩:=qgx l j u hu
  rw[qca]
  have:=hc (j / 2) e h1
  rcases h2 with ⟨h3,rfl⟩ | ⟨h3,rfl⟩
  ·have:=this.1
   rwa [show o+j / 2 * 2=o+j by omega] at this
  ·have:=this.2
   rwa [show o+j / 2 * 2+1=o+j by omega] at this
theorem qdz (w : World) (A : Option Addr) (k cap : Nat) (vx : Value) (l m : List (Ln × Value)) (hl : LR w (.slice A k cap) l) (hk : l.length = k) (hx : LR w vx m) (hm : CesOf w m) (hroom : cap < k + m.length) (hkc : k ≤ cap) (hb : k + m.length ≤ 1000000) :
  ∃ v' w',(∀ ty,(Builtin.append_ #[22,22] ty #[.slice A k cap,vx]).run Tryz.prog w=.ok v' w')∧OwnL w' w.heap.size v' (l ++ m)∧Below w.heap.size w w':=by
 obtain⟨i0,hi,hz0,hz1,hz2⟩:=info_parts qiy
 obtain⟨B,cx,rfl⟩:=hx.spell
 have hmne:m≠[]:=by intro e;rw[e] at hroom;simp at hroom;omega
 obtain⟨a,rfl,hcells⟩:∃ a,B=some a∧∀ j u,(qr m)[j]?=some u→w.cell? (a.add j)=some u:=by
  rcases hx.flat rfl with h | h
  ·exact absurd h hmne
  ·exact h
 have hold:(Builtin.firstCells i0.size k (.slice A k cap)).run Tryz.prog w.drew=.ok (qr l).toArray w.drew:=by
  rw[hz1]
  rcases hl.flat hk with h | ⟨b,rfl,hc⟩
  ·subst h
   simp at hk
   subst hk
   cases A with
   | none=>exact run_firstCells_none w.drew 2 0 0 cap
   | some b=>exact run_firstCells_some w.drew 2 0 b 0 cap [] (by simp) (by simp)
  ·exact run_firstCells_some w.drew 2 k b k cap (qr l) (by rw[qac,hk]) (fun j u hu=>hc j u hu)
 have hsrc:Src Tryz.prog i0.size 22 (.slice (some a) m.length cx) m.length (qr m) w:=by
  rw[hz1]
  exact Src.ofSlice w Tryz.underlying22 a m.length cx (qr m) (qac m) hcells (qft hm)
 refine⟨_,_,fun ty=>run_append_grow_src w _ _ ty _ i0 _ Tryz.underlying22 hi hz0 A k cap (qr l) hold _ m.length (qr m) hsrc hroom (by omega) (by rw[hz2];exact growslice_fits hroom (by omega)),?_,?_⟩
 ·have hge:=grownCap_ge w (k+m.length) cap 55
  have hcm:grownCap w (k+m.length) cap 55≤maxLen:=grownCap_le_maxLen w (k+m.length) cap 55 (by unfold maxLen;omega)
  have hfl:(qr l ++ qr m).length=(k+m.length) * 2:=by rw[List.length_append,qac,qac,hk];omega
  unfold OwnL
  rw[List.length_append,hk,qcr]
  refine⟨hfl,.inr ⟨w.heap.size,_,_,rfl,Nat.le_refl _,heap_alloc_new w.drew _,hge,hcm,?_,?_⟩⟩
  ·rw[Array.size_append,size_zeroCells,List.size_toArray,hfl,show (Value.agg #[Value.slice none 0 0,Value.bool false]).cells.size=2 from rfl,← Nat.add_mul]
   congr 1
   omega
  ·rw[Array.toList_append,List.toList_toArray,← hfl]
   exact List.take_left
 ·exact(Below.refl _ _).drew.alloc (Nat.le_refl _) _
theorem qb4 (w:World) (ty:TypeId) (A B:Option Addr) (k cap n c:Nat) (hn:n=0) (hk:k≤cap):(Builtin.append_ #[22,22] ty #[.slice A k cap,.slice B n c]).run Tryz.prog w=.ok (.slice A k cap) w:=by
 subst hn
 obtain⟨i0,hi,hz0,hz1,hz2⟩:=info_parts qiy
 have ht:=Tryz.underlying22
 have hl:∀ (x:Addr),(loadCells x 0).run Tryz.prog w=.ok #[] w:=fun x=>by simpa using run_loadCells_list (P:=Tryz.prog) w x [] (by simp)
 cases A <;> cases B <;> simp[Builtin.append_,run_underlying ht,typeInfo,hi,Builtin.lenOf,Builtin.firstCells,hk,storeCells,hl]
set_option maxHeartbeats 2000000
set_option maxRecDepth 100000
theorem LR.sub {W:World} {g o n c:Nat} {l:List (Ln×Value)} (h:LR W (.slice (some ⟨g,o,none⟩) n c) l) (hl:l.length=n) (k m cap:Nat) (hm:k+m≤n) (hc:m≤cap):LR W (.slice (some ⟨g,o+k * 2,none⟩) m cap) ((l.drop k).take m):=by
 obtain⟨A',c',e,_,hcell⟩:=h
 cases e
 have hlen:((l.drop k).take m).length=m:=by rw[List.length_take,List.length_drop];omega
 refine⟨_,_,by rw[hlen],by rw[hlen];exact hc,fun hn=>?_⟩
 have hm0:0 < m:=by rw[← hlen];exact List.length_pos_iff.2 hn
 obtain⟨g',o',e',hg,hcell⟩:=hcell (List.length_pos_iff.1 (by omega))
 cases e'
 refine⟨g,o+k * 2,rfl,hg,fun j e he=>?_⟩
 rw[List.getElem?_take] at he
 split at he
 ·rw[List.getElem?_drop] at he
  have:=hcell (k+j) e he
  rwa [show o+k * 2+j * 2=o+(k+j) * 2 by omega]
 ·cases he
theorem qb2 {o : Oper} {a : Act} {w : World} {K : Act → World → Prop} {Q : Exit → Act → World → Prop} (s x : Operand)
  (ho:o.op=.call { callee:=.builtin .append,args:=#[s,x],argTypes:=#[22,22] }) (v u:Value) (hs:a.eval s=v) (hx:a.eval x=u) {v':Value} {w':World}
  (hr:∀ ty,(Builtin.append_ #[22,22] ty #[v,u]).run Tryz.prog w=.ok v' w') (h:K (a.put o.dst v') w'):Oper.wp Tryz.prog o a w K Q:=by
 unfold Oper.wp
 simp[execOp,ho,resolve,invoke,builtin,hs,hx,hr o.type,Result.andThen]
 exact h
def CutPost (W:World) (A:Option Addr) (lv:List (Ln×Value)) (f t:Nat) (e:Ending) (w':World):Prop :=
 ∃ gone left,e=.returned (.tuple #[gone,left])∧LR W gone ((lv.drop f).take (t - f))∧Below W.heap.size W w' ∧
  (OwnL w' W.heap.size left (lv.take f ++ lv.drop t)∨(left=.slice A f f∧t=lv.length))
theorem cutLines_mid (g o n c : Nat) (lv : List (Ln × Value)) (f t : Nat) (W : World) (hr : LR W (.slice (some ⟨g, o, none⟩) n c) lv) (hn : lv.length = n) (hc : CesOf W lv) (hft : f ≤ t) (htn : t ≤ n) (hn1 : n ≤ 1000) (h : t < n) :
  Calls Tryz.prog 231 #[.slice (some ⟨g,o,none⟩) n c,.int .i64 f,.int .i64 t] W (CutPost W (some ⟨g,o,none⟩) lv f t):=by
 have hnc:n≤c:=by obtain⟨A',c',e,h,_⟩:=hr;cases e;rw[← hn];exact h
 have hd:Below W.heap.size W W.drew:=(Below.refl _ _).drew
 have hgone:LR W (.slice (some ⟨g,o+f * 2,none⟩) (t - f) (t - f)) ((lv.drop f).take (t - f)):=hr.sub hn f (t - f) (t - f) (by omega) (Nat.le_refl _)
 have hi1:(f:Int)≤t:=by omega
 have hi2:(t:Int)≤c:=by omega
 have hi3:(t:Int)≤n:=by omega
 have hi4:(f:Int)≤c:=by omega
 have hfirst:LR W (.slice (some ⟨g,o,none⟩) f f) (lv.take f):=by
  have:=hr.sub hn 0 f f (by omega) (Nat.le_refl _)
  simpa using this
 have hlf:(lv.take f).length=f:=by rw[List.length_take];omega
 have HGONE:=hid hgone
 have hct:¬ c=t:=by omega
 have hcf:¬ c=f:=by omega
 have hrest:LR W (.slice (some ⟨g,o+t * 2,none⟩) (n - t) (c - t)) (lv.drop t):=by
  have h2:=hr.sub hn t (n - t) (c - t) (by omega) (by omega)
  rwa [List.take_of_length_le (by rw[List.length_drop,hn];exact Nat.le_refl _)] at h2
 obtain⟨v',w',hrun,hown,hb⟩:=qdz W.drew (some ⟨g,o,none⟩) f f _ (lv.take f) (lv.drop t) (hfirst.below hd) hlf (hrest.below hd) (fun e he=>hc.below hd e (List.mem_of_mem_drop he)) (by rw[List.length_drop,hn];omega) (Nat.le_refl _) (by rw[List.length_drop,hn];omega)
 obtain⟨A',c',rfl⟩:=hown.spell
 generalize (lv.take f ++ lv.drop t).length=m at hrun hown
 have HRUN:=hid hrun
 have HOWN:=hid hown
 have HB:=hid hb
 clear hrun hown hb hrest hlf hfirst hgone hc hn hr
 by_cases htf:f=t
 ·subst htf
  go_enter Tryz.func231,Tryz.ntmps231
  go_wp2_with fail
  refine qh (qeo 13 14 (fun _=>True) (fun _=>True)) (by kernel_rfl) ?_
  have hS:∀ L,qeo 13 14 (fun _:World=>True) (fun _=>True) L (World.drew W):=fun L=>⟨fun _=>trivial,fun _=>trivial⟩
  refine tS 0 (hS _) ?_
  refine tS 1 (hS _) ?_
  refine tS 2 (hS _) ?_
  refine tS 3 (hS _) ?_
  refine tS 4 (hS _) ?_
  refine tS 5 (hS _) ?_
  refine tS 6 (hS _) ?_
  refine tS 7 (hS _) ?_
  refine tS 8 (hS _) ?_
  refine tS 9 (hS _) ?_
  refine tS 10 (hS _) ?_
  refine tS 11 (hS _) ?_
  clear hS
  refine qy (k:=12) (by kernel_rfl) rfl (by rfl) (fun K hK=>?_)
  refine qb2 (.tmp 16) (.tmp 19) rfl _ _ rfl rfl HRUN.out ?_
  refine hK _ _ ⟨fun _=>trivial,fun _=>trivial⟩ ?_
  clear hK K
  simp only[Act.put,List.setIfInBounds_toArray]
  refine qy (k:=13) (by kernel_rfl) rfl (by rfl) (fun K hK=>?_)
  go_simp
  refine hK _ _ ⟨fun _=>trivial,fun _=>trivial⟩ ?_
  clear hK K
  refine qy (k:=14) (by kernel_rfl) rfl (by rfl) (fun K hK=>?_)
  go_simp
  refine hK _ _ ⟨fun _=>trivial,fun _=>trivial⟩ ?_
  clear hK K
  refine qao (by kernel_rfl) ?_ _
  go_wp2_with fail
  go_ret2
  exact⟨_,_,rfl,by rw[Nat.sub_self,List.take_zero];exact LR.nil _ _ _,hd.trans HB.out,.inl HOWN.out⟩
 ·have htf2:¬ t=f:=fun e=>htf e.symm
  go_enter Tryz.func231,Tryz.ntmps231
  go_wp2_with fail
  refine qh (qeo 13 14 (fun _=>True) (fun _=>True)) (by kernel_rfl) ?_
  have hS:∀ L,qeo 13 14 (fun _:World=>True) (fun _=>True) L (World.drew W):=fun L=>⟨fun _=>trivial,fun _=>trivial⟩
  refine tS 0 (hS _) ?_
  refine tS 1 (hS _) ?_
  refine tS 2 (hS _) ?_
  refine tS 3 (hS _) ?_
  refine tS 4 (hS _) ?_
  refine tS 5 (hS _) ?_
  refine tS 6 (hS _) ?_
  refine tS 7 (hS _) ?_
  refine tS 8 (hS _) ?_
  refine tS 9 (hS _) ?_
  refine tS 10 (hS _) ?_
  refine tS 11 (hS _) ?_
  clear hS
  refine qy (k:=12) (by kernel_rfl) rfl (by rfl) (fun K hK=>?_)
  refine qb2 (.tmp 16) (.tmp 19) rfl _ _ rfl rfl HRUN.out ?_
  refine hK _ _ ⟨fun _=>trivial,fun _=>trivial⟩ ?_
  clear hK K
  simp only[Act.put,List.setIfInBounds_toArray]
  refine qy (k:=13) (by kernel_rfl) rfl (by rfl) (fun K hK=>?_)
  go_simp
  refine hK _ _ ⟨fun _=>trivial,fun _=>trivial⟩ ?_
  clear hK K
  refine qy (k:=14) (by kernel_rfl) rfl (by rfl) (fun K hK=>?_)
  go_simp
  refine hK _ _ ⟨fun _=>trivial,fun _=>trivial⟩ ?_
  clear hK K
  refine qao (by kernel_rfl) ?_ _
  go_wp2_with fail
  go_ret2
  exact⟨_,_,rfl,HGONE.out,hd.trans HB.out,.inl HOWN.out⟩
theorem cutLines_end (g o n c : Nat) (lv : List (Ln × Value)) (f : Nat) (W : World) (hr : LR W (.slice (some ⟨g, o, none⟩) n c) lv) (hn : lv.length = n) (hft : f ≤ n) (hn1 : n ≤ 1000) :
  Calls Tryz.prog 231 #[.slice (some ⟨g,o,none⟩) n c,.int .i64 f,.int .i64 n] W (CutPost W (some ⟨g,o,none⟩) lv f n):=by
 have hnc:n≤c:=by obtain⟨A',c',e,h,_⟩:=hr;cases e;rw[← hn];exact h
 have hd:Below W.heap.size W W.drew:=(Below.refl _ _).drew
 have hgone:LR W (.slice (some ⟨g,o+f * 2,none⟩) (n - f) (n - f)) ((lv.drop f).take (n - f)):=hr.sub hn f (n - f) (n - f) (by omega) (Nat.le_refl _)
 have HGONE:=hid hgone
 have HN:=hid hn
 clear hgone hr hn
 rcases Nat.lt_or_ge f n with hfn | hfn
 ·have hnf:¬ n=f:=by omega
  have hcf:¬ c=f:=by omega
  by_cases hcn:c=n
  ·subst hcn
   have hi1:(f:Int)≤c:=by omega
   go_enter Tryz.func231,Tryz.ntmps231
   go_wp2_with fail
   refine qh (qeo 13 14 (fun _=>True) (fun _=>True)) (by kernel_rfl) ?_
   have hS:∀ L,qeo 13 14 (fun _:World=>True) (fun _=>True) L (World.drew W):=fun L=>⟨fun _=>trivial,fun _=>trivial⟩
   refine tS 0 (hS _) ?_
   refine tS 1 (hS _) ?_
   refine tS 2 (hS _) ?_
   refine tS 3 (hS _) ?_
   refine tS 4 (hS _) ?_
   refine tS 5 (hS _) ?_
   refine tS 6 (hS _) ?_
   refine tS 7 (hS _) ?_
   refine tS 8 (hS _) ?_
   refine tS 9 (hS _) ?_
   refine tS 10 (hS _) ?_
   refine tS 11 (hS _) ?_
   clear hS
   refine qy (k:=12) (by kernel_rfl) rfl (by rfl) (fun K hK=>?_)
   refine qb2 (.tmp 16) (.tmp 19) rfl _ _ rfl rfl (fun ty=>qb4 _ ty _ _ _ _ _ _ rfl (Nat.le_refl _)) ?_
   refine hK _ _ ⟨fun _=>trivial,fun _=>trivial⟩ ?_
   clear hK K
   simp only[Act.put,List.setIfInBounds_toArray]
   refine qy (k:=13) (by kernel_rfl) rfl (by rfl) (fun K hK=>?_)
   go_simp
   refine hK _ _ ⟨fun _=>trivial,fun _=>trivial⟩ ?_
   clear hK K
   refine qy (k:=14) (by kernel_rfl) rfl (by rfl) (fun K hK=>?_)
   go_simp
   refine hK _ _ ⟨fun _=>trivial,fun _=>trivial⟩ ?_
   clear hK K
   refine qao (by kernel_rfl) ?_ _
   go_wp2_with fail
   go_ret2
   exact⟨_,_,rfl,HGONE.out,hd,.inr ⟨rfl,HN.out.symm⟩⟩
  ·have hi1:(f:Int)≤n:=by omega
   have hi2:(n:Int)≤c:=by omega
   have hi3:(f:Int)≤c:=by omega
   go_enter Tryz.func231,Tryz.ntmps231
   go_wp2_with fail
   refine qh (qeo 13 14 (fun _=>True) (fun _=>True)) (by kernel_rfl) ?_
   have hS:∀ L,qeo 13 14 (fun _:World=>True) (fun _=>True) L (World.drew W):=fun L=>⟨fun _=>trivial,fun _=>trivial⟩
   refine tS 0 (hS _) ?_
   refine tS 1 (hS _) ?_
   refine tS 2 (hS _) ?_
   refine tS 3 (hS _) ?_
   refine tS 4 (hS _) ?_
   refine tS 5 (hS _) ?_
   refine tS 6 (hS _) ?_
   refine tS 7 (hS _) ?_
   refine tS 8 (hS _) ?_
   refine tS 9 (hS _) ?_
   refine tS 10 (hS _) ?_
   refine tS 11 (hS _) ?_
   clear hS
   refine qy (k:=12) (by kernel_rfl) rfl (by rfl) (fun K hK=>?_)
   refine qb2 (.tmp 16) (.tmp 19) rfl _ _ rfl rfl (fun ty=>qb4 _ ty _ _ _ _ _ _ rfl (Nat.le_refl _)) ?_
   refine hK _ _ ⟨fun _=>trivial,fun _=>trivial⟩ ?_
   clear hK K
   simp only[Act.put,List.setIfInBounds_toArray]
   refine qy (k:=13) (by kernel_rfl) rfl (by rfl) (fun K hK=>?_)
   go_simp
   refine hK _ _ ⟨fun _=>trivial,fun _=>trivial⟩ ?_
   clear hK K
   refine qy (k:=14) (by kernel_rfl) rfl (by rfl) (fun K hK=>?_)
   go_simp
   refine hK _ _ ⟨fun _=>trivial,fun _=>trivial⟩ ?_
   clear hK K
   refine qao (by kernel_rfl) ?_ _
   go_wp2_with fail
   go_ret2
   exact⟨_,_,rfl,HGONE.out,hd,.inr ⟨rfl,HN.out.symm⟩⟩
 ·obtain rfl:n=f:=by omega
  by_cases hcn:c=n
  ·subst hcn
   go_enter Tryz.func231,Tryz.ntmps231
   go_wp2_with fail
   refine qh (qeo 13 14 (fun _=>True) (fun _=>True)) (by kernel_rfl) ?_
   have hS:∀ L,qeo 13 14 (fun _:World=>True) (fun _=>True) L (World.drew W):=fun L=>⟨fun _=>trivial,fun _=>trivial⟩
   refine tS 0 (hS _) ?_
   refine tS 1 (hS _) ?_
   refine tS 2 (hS _) ?_
   refine tS 3 (hS _) ?_
   refine tS 4 (hS _) ?_
   refine tS 5 (hS _) ?_
   refine tS 6 (hS _) ?_
   refine tS 7 (hS _) ?_
   refine tS 8 (hS _) ?_
   refine tS 9 (hS _) ?_
   refine tS 10 (hS _) ?_
   refine tS 11 (hS _) ?_
   clear hS
   refine qy (k:=12) (by kernel_rfl) rfl (by rfl) (fun K hK=>?_)
   refine qb2 (.tmp 16) (.tmp 19) rfl _ _ rfl rfl (fun ty=>qb4 _ ty _ _ _ _ _ _ rfl (Nat.le_refl _)) ?_
   refine hK _ _ ⟨fun _=>trivial,fun _=>trivial⟩ ?_
   clear hK K
   simp only[Act.put,List.setIfInBounds_toArray]
   refine qy (k:=13) (by kernel_rfl) rfl (by rfl) (fun K hK=>?_)
   go_simp
   refine hK _ _ ⟨fun _=>trivial,fun _=>trivial⟩ ?_
   clear hK K
   refine qy (k:=14) (by kernel_rfl) rfl (by rfl) (fun K hK=>?_)
   go_simp
   refine hK _ _ ⟨fun _=>trivial,fun _=>trivial⟩ ?_
   clear hK K
   refine qao (by kernel_rfl) ?_ _
   go_wp2_with fail
   go_ret2
   exact⟨_,_,rfl,by rw[Nat.sub_self,List.take_zero];exact LR.nil _ _ _,hd,.inr ⟨rfl,HN.out.symm⟩⟩
  ·have hi2:(n:Int)≤c:=by omega
   go_enter Tryz.func231,Tryz.ntmps231
   go_wp2_with fail
   refine qh (qeo 13 14 (fun _=>True) (fun _=>True)) (by kernel_rfl) ?_
   have hS:∀ L,qeo 13 14 (fun _:World=>True) (fun _=>True) L (World.drew W):=fun L=>⟨fun _=>trivial,fun _=>trivial⟩
   refine tS 0 (hS _) ?_
   refine tS 1 (hS _) ?_
   refine tS 2 (hS _) ?_
   refine tS 3 (hS _) ?_
   refine tS 4 (hS _) ?_
   refine tS 5 (hS _) ?_
   refine tS 6 (hS _) ?_
   refine tS 7 (hS _) ?_
   refine tS 8 (hS _) ?_
   refine tS 9 (hS _) ?_
   refine tS 10 (hS _) ?_
   refine tS 11 (hS _) ?_
   clear hS
   refine qy (k:=12) (by kernel_rfl) rfl (by rfl) (fun K hK=>?_)
   refine qb2 (.tmp 16) (.tmp 19) rfl _ _ rfl rfl (fun ty=>qb4 _ ty _ _ _ _ _ _ rfl (Nat.le_refl _)) ?_
   refine hK _ _ ⟨fun _=>trivial,fun _=>trivial⟩ ?_
   clear hK K
   simp only[Act.put,List.setIfInBounds_toArray]
   refine qy (k:=13) (by kernel_rfl) rfl (by rfl) (fun K hK=>?_)
   go_simp
   refine hK _ _ ⟨fun _=>trivial,fun _=>trivial⟩ ?_
   clear hK K
   refine qy (k:=14) (by kernel_rfl) rfl (by rfl) (fun K hK=>?_)
   go_simp
   refine hK _ _ ⟨fun _=>trivial,fun _=>trivial⟩ ?_
   clear hK K
   refine qao (by kernel_rfl) ?_ _
   go_wp2_with fail
   go_ret2
   exact⟨_,_,rfl,by rw[Nat.sub_self,List.take_zero];exact LR.nil _ _ _,hd,.inr ⟨rfl,HN.out.symm⟩⟩
theorem qj3 (g o n c : Nat) (lv : List (Ln × Value)) (f t : Nat) (W : World) (hr : LR W (.slice (some ⟨g, o, none⟩) n c) lv) (hn : lv.length = n) (hc : CesOf W lv) (hft : f ≤ t) (htn : t ≤ n) (hn1 : n ≤ 1000) :
  Calls Tryz.prog 231 #[.slice (some ⟨g,o,none⟩) n c,.int .i64 f,.int .i64 t] W (CutPost W (some ⟨g,o,none⟩) lv f t):=by
 rcases Nat.lt_or_ge t n with h | h
 ·exact cutLines_mid g o n c lv f t W hr hn hc hft htn hn1 h
 ·obtain rfl:n=t:=by omega
  exact cutLines_end g o n c lv f W hr hn hft hn1
end Go.Proofs.YtpdaekmbpafenaaGreatDoor
