
import Derived.Test.YtpdaekmbpafenaaGreatDoorGridSoftQ
import Derived.Laws.MakeOwn
import Derived.Test.YtpdaekmbpafenaaGreatDoorCellZQ
import Derived.Deep.DeepCutAuto
import Derived.Deep.RegionWith
namespace Go.Proofs.YtpdaekmbpafenaaGreatDoor
set_option maxHeartbeats 1000000
set_option maxRecDepth 100000
open Go.RowKit
theorem made_at {z:Array Value} {n q:Nat} (h:q < n) {u:Value} (hu:z[q % z.size]?=some u):(madeCells z n)[q]?=some u:=by
 unfold madeCells
 obtain⟨h1,h2⟩:=Array.getElem?_eq_some_iff.1 hu
 simp only[Array.getElem?_map,Array.getElem?_range,h,if_true,Option.map_some]
 rw[getElem!_pos z _ h1,h2]
def zLn:Ln×Value:=(⟨[],false⟩,.slice none 0 0)
def lnM (n:Nat):Array Value:=madeCells #[.slice none 0 0,.bool false] (n * 2)
def ceM (n:Nat):Array Value:=madeCells Ce.zero.cells (n * 5)
theorem mk_lines (n:Nat) (hn:n≤1000) (W:World):(Instr.makeSlice 22 (.int .i64 (n:Int)) (.int .i64 (n:Int))).run Tryz.prog W=.ok (.slice (some ⟨W.heap.size,0,none⟩) n n) (W.alloc (.cells (lnM n) 55)):=by
 obtain⟨i0,hi,hz0,hz1,hz2⟩:=info_parts qik
 have h:=run_make (P:=Tryz.prog) W 22 55 i0 _ Tryz.underlying22 hi hz0 .i64 .i64 (n:Int) (n:Int) (by omega) (by omega) (by rw[hz2];omega) (by omega)
 rw[hz1] at h
 simp only[Int.toNat_natCast] at h
 exact h
theorem mk_cells (n:Nat) (hn:n≤1000) (W:World):(Instr.makeSlice 53 (.int .i64 (n:Int)) (.int .i64 (n:Int))).run Tryz.prog W=.ok (.slice (some ⟨W.heap.size,0,none⟩) n n) (W.alloc (.cells (ceM n) 57)):=by
 obtain⟨i0,hi,hz0,hz1,hz2⟩:=info_parts ce_info
 have h:=run_make (P:=Tryz.prog) W 53 57 i0 _ Tryz.underlying53 hi hz0 .i64 .i64 (n:Int) (n:Int) (by omega) (by omega) (by rw[hz2];omega) (by omega)
 rw[hz1] at h
 simp only[Int.toNat_natCast] at h
 exact h
theorem lnM_box (n:Nat) (W:World):LBox (W.alloc (.cells (lnM n) 55)) W.heap.size (List.replicate n zLn) n:=by
 refine⟨_,Box.new W _ _,by unfold lnM;rw[size_madeCells],by simp,fun j e hj=>?_⟩
 rw[List.getElem?_replicate] at hj
 split at hj
 ·cases hj
  refine⟨made_at (by omega) ?_,made_at (by omega) ?_⟩
  ·show (#[Value.slice none 0 0,.bool false]:Array Value)[j * 2 % 2]?=_
   rw[show j * 2 % 2=0 by omega];rfl
  ·show (#[Value.slice none 0 0,.bool false]:Array Value)[(j * 2+1) % 2]?=_
   rw[show (j * 2+1) % 2=1 by omega];rfl
 ·cases hj
theorem ceM_box (n:Nat) (W:World):CBox (W.alloc (.cells (ceM n) 57)) W.heap.size (List.replicate n Ce.zero) n:=by
 refine⟨_,Box.new W _ _,by unfold ceM;rw[size_madeCells],by simp,fun j e hj i u hu=>?_⟩
 rw[List.getElem?_replicate] at hj
 split at hj
 ·cases hj
  have hi:i < 5:=by have:=(Array.getElem?_eq_some_iff.1 hu).1;simpa [Ce.cells,Ce.zero] using this
  refine made_at (by omega) ?_
  show Ce.zero.cells[(j * 5+i) % 5]?=_
  rw[show (j * 5+i) % 5=i by omega]
  exact hu
 ·cases hj
theorem LBox.set1 {W : World} {g cap : Nat} {l : List (Ln × Value)} (h : LBox W g l cap) {k : Nat} {e : Ln × Value} (hk : l[k]? = some e) (v : Value) (cs : List Ce) :
  LBox (W.setCell ⟨g,k * 2,none⟩ v) g (l.set k (⟨cs,e.1.soft⟩,v)) cap:=by
 obtain⟨cur,hb,hs,hl,hc⟩:=h
 have hkl:=(List.getElem?_eq_some_iff.1 hk).1
 refine⟨_,hb.set (i:=k * 2) _,by simp[hs],by rw[List.length_set];exact hl,?_⟩
 intro j e' hj
 simp only[Array.getElem?_setIfInBounds]
 by_cases hjk:j=k
 ·subst hjk
  rw[List.getElem?_set_self hkl] at hj
  cases hj
  refine⟨?_,?_⟩
  ·rw[if_pos rfl,if_pos (by omega)]
  ·rw[if_neg (by omega)]
   exact(hc j e hk).2
 ·rw[List.getElem?_set_ne (Ne.symm hjk)] at hj
  have:=hc j e' hj
  refine⟨?_,?_⟩
  ·rw[if_neg (by omega)];exact this.1
  ·rw[if_neg (by omega)];exact this.2
theorem LBox.drew {W:World} {g cap:Nat} {l:List (Ln×Value)} (h:LBox W g l cap):LBox W.drew g l cap:=h
theorem erase_all (n:Nat) (a:At):qa2 (List.replicate n Ce.zero) 0 n a=List.replicate n (qd0 a):=by
 unfold qa2
 simp
def qbe (cols:Nat) (a:At):Ln:=⟨List.replicate cols (qd0 a),false⟩
def BlRel (base gL rows cols k:Nat) (a:At) (wr:World):Prop :=
 ∃ done:List (Ln×Value),done.map Prod.fst=List.replicate k (qbe cols a)∧LBox wr gL (done ++ List.replicate (rows - k) zLn) rows∧∀ x∈done,CSl wr base x.2 x.1.cs
theorem bl_step {base gL rows cols k : Nat} {a : At} {W W' W'' : World} (h : BlRel base gL rows cols k a W) (hk : k < rows) (hb : base ≤ W.heap.size) (hg : gL < W.heap.size)
  (h1:W'=(W.alloc (.cells (ceM cols) 57)).setCell ⟨gL,k * 2,none⟩ (.slice (some ⟨W.heap.size,0,none⟩) cols cols)) (h2:CBox W'' W.heap.size (List.replicate cols (qd0 a)) cols) (h3:Only W.heap.size W'.drew W''):BlRel base gL rows cols (k+1) a W'':=by
 obtain⟨done,hd,hl,hc⟩:=h
 have hdl:done.length=k:=by have:=congrArg List.length hd;simpa using this
 have hz:(done ++ List.replicate (rows - k) zLn)[k]?=some zLn:=by
  rw[List.getElem?_append_right (by omega),List.getElem?_replicate,if_pos (by omega)]
 have hl1:=hl.below (qa W (.cells (ceM cols) 57)) hg
 have hl2:=hl1.set1 hz (.slice (some ⟨W.heap.size,0,none⟩) cols cols) (List.replicate cols (qd0 a))
 have e:(done ++ List.replicate (rows - k) zLn).set k (⟨List.replicate cols (qd0 a),zLn.1.soft⟩,.slice (some ⟨W.heap.size,0,none⟩) cols cols)=(done ++ [(qbe cols a,.slice (some ⟨W.heap.size,0,none⟩) cols cols)]) ++ List.replicate (rows - (k+1)) zLn:=by
  rw[← hdl,List.set_append_right (h:=Nat.le_refl _),show rows - done.length=rows - (done.length+1)+1 by omega,List.replicate_succ]
  simp[qbe,zLn]
 rw[e,← h1] at hl2
 refine⟨done ++ [(qbe cols a,.slice (some ⟨W.heap.size,0,none⟩) cols cols)],?_,hl2.drew.only h3 (by omega),?_⟩
 ·rw[List.map_append,hd,List.replicate_succ']
  rfl
 ·intro x hx
  rw[List.mem_append,List.mem_singleton] at hx
  rcases hx with hx | rfl
  ·rcases hc x hx with h | ⟨g,cap,h4,h5,h6⟩
   ·exact .inl h
   ·refine .inr ⟨g,cap,h4,h5,?_⟩
    have h7:=h6.below (qa W (.cells (ceM cols) 57)) h6.lt
    obtain⟨cur,hcb,hrest⟩:=h7
    obtain⟨curL,hlb,_⟩:=hl1
    have hne:g≠gL:=by
     rintro rfl
     have q1:_=_:=hcb
     have q2:_=_:=hlb
     rw[q1] at q2
     cases q2
    have h8:CBox W' g x.1.cs cap:=by rw[h1];exact⟨cur,hcb.other hne _,hrest⟩
    exact h8.drew.only h3 (by have:=h6.lt;omega)
  ·exact .inr ⟨W.heap.size,cols,by simp[qbe],hb,by simpa [qbe] using h2⟩
def BlPost (W:World) (rows cols:Nat) (a:At) (e:Ending) (w':World):Prop :=
 ∃ v lv,e=.returned v∧lv.map Prod.fst=List.replicate rows (qbe cols a)∧LSl w' W.heap.size v lv∧(∀ x∈lv,CSl w' W.heap.size x.2 x.1.cs)∧Below W.heap.size W w'
theorem qfk (rows cols : Nat) (a : At) (W : World) (hr : rows ≤ 1000) (hc : cols ≤ 1000) :
  Calls Tryz.prog 54 #[.int .i64 rows,.int .i64 cols,a.agg] W (BlPost W rows cols a):=by
 have hmL:=mk_lines rows hr
 have hmC:=mk_cells cols hc
 have hbx:=(Box.new W 26 a.cells).alloc (.cells (lnM rows) 55)
 have hlb:=lnM_box rows (W.alloc (.cells a.cells 26))
 rw[World.size_alloc] at hlb
 have hbel:Below W.heap.size W ((W.alloc (.cells a.cells 26)).alloc (.cells (lnM rows) 55)):=(qa _ _).alloc (by simp) _
 have her:=fun (w:World) (g:Nat) (h:CBox w g (List.replicate cols Ce.zero) cols)=>qdo g 0 cols cols cols _ a w h (by simp) (by simp;omega)
 have hsz:((W.alloc (.cells a.cells 26)).alloc (.cells (lnM rows) 55)).heap.size=W.heap.size+1+1:=by simp
 obtain⟨fg,bg,fl⟩:=a
 unfold At.agg at her ⊢
 unfold At.cells at hbx hlb hbel hsz
 simp only[erase_all,Nat.zero_mul] at her
 simp only at hbx hlb hbel hsz ⊢
 have HBX:=hid hbx
 have HLB:=hid hlb
 have HBL:=hid hbel
 have HER:=hid her
 have HSZ:=hid hsz
 clear hbx hlb hbel her hsz
 go_enter Tryz.func54,Tryz.ntmps54
 go_wp2
 go_loopw [13] (fun i wr=>∃ k:Nat,k≤rows∧i=.int .i64 k∧Box wr W.heap.size 26 #[.int .i64 fg,.int .i64 bg,.int .i64 fl]∧BlRel W.heap.size (W.heap.size+1) rows cols k ⟨fg,bg,fl⟩ wr∧W.heap.size+1+1≤wr.heap.size∧Below W.heap.size W wr) (fun i _=>rows - (intOf i).toNat)
 case atStart=>exact⟨0,by omega,rfl,HBX.out,⟨[],rfl,by simpa using HLB.out,by simp⟩,by rw[HSZ.out];exact Nat.le_refl _,HBL.out⟩
 case round =>
  obtain⟨k,hk,rfl,hbA,hrl,hzr,hbr⟩:=hrel
  by_cases hlt:k < rows
  ·have hki:(k:Int) < rows:=by omega
   obtain⟨⟨a0,a1,a2⟩,af0,af1,af2⟩:=hbA.three
   have hrl':=hrl
   obtain⟨done,hd,hl,hcs⟩:=hrl'
   have hdl:done.length=k:=by have:=congrArg List.length hd;simpa using this
   obtain⟨⟨q0,q1⟩,r0,r1⟩:=hl.two (j:=k) (e:=zLn) (by rw[List.getElem?_append_right (by omega),List.getElem?_replicate,if_pos (by omega)])
   unfold zLn at q0 q1
   simp only at q0 q1
   have hcb:CBox ((wr.alloc (.cells (ceM cols) 57)).setCell ⟨W.heap.size+1,k * 2,none⟩ (.slice (some ⟨wr.heap.size,0,none⟩) cols cols)).drew wr.heap.size (List.replicate cols Ce.zero) cols :=
    ((ceM_box cols wr).only (Only.set (Only.refl (W.heap.size+1) _) (i:=k * 2) (.slice (some ⟨wr.heap.size,0,none⟩) cols cols)) (by omega)).drew
   have hz:(done ++ List.replicate (rows - k) zLn)[k]?=some zLn:=by rw[List.getElem?_append_right (by omega),List.getElem?_replicate,if_pos (by omega)]
   have hl1:=hl.below (qa wr (.cells (ceM cols) 57)) (by omega)
   have hl2:=hl1.set1 hz (.slice (some ⟨wr.heap.size,0,none⟩) cols cols) (List.replicate cols (qd0 ⟨fg,bg,fl⟩))
   have hA1:=((hbA.alloc (.cells (ceM cols) 57)).other (b':=W.heap.size+1) (i:=k * 2) (by omega) (.slice (some ⟨wr.heap.size,0,none⟩) cols cols))
   have hzs:((wr.alloc (.cells (ceM cols) 57)).setCell ⟨W.heap.size+1,k * 2,none⟩ (.slice (some ⟨wr.heap.size,0,none⟩) cols cols)).heap.size=wr.heap.size+1:=by rw[qfn,World.size_alloc]
   have hcall:=HER.out _ _ hcb
   have HL2:=hid hl2
   have HA1:=hid hA1
   have HZS:=hid hzs
   have hblen:k < (done ++ List.replicate (rows - k) zLn).length:=by simp;omega
   have HH:=hid ((List.getElem?_set_self (a:=((⟨List.replicate cols (qd0 ⟨fg,bg,fl⟩),zLn.1.soft⟩:Ln),(Value.slice (some ⟨wr.heap.size,0,none⟩) cols cols))) hblen))
   clear hl1 hl2 hA1 hz hblen hzs
   have HRL:=hid hrl
   have HCALL:=hid hcall
   have HBR:=hid hbr
   have HBA:=hid hbA
   clear hrl hcall hcb hbr hl hcs hd hdl hbA
   have hne1:¬ wr.heap.size=W.heap.size:=by omega
   have hne2:¬ wr.heap.size=W.heap.size+1:=by omega
   have hlt2:W.heap.size+1 < wr.heap.size:=by omega
   go_upto_region 6 with fail
   obtain⟨W1,hW1⟩:∃ W1,(wr.alloc (.cells (ceM cols) 57)).setCell ⟨W.heap.size+1,k * 2,none⟩ (.slice (some ⟨wr.heap.size,0,none⟩) cols cols)=W1:=⟨_,rfl⟩
   rw[hW1] at HCALL HL2 HA1 HZS
   rw[← World.setCell_alloc_past (w:=wr) (.cells (ceM cols) 57) (W.heap.size+1) (k * 2) _ hlt2,hW1]
   have HW1:=hid hW1
   clear hW1 a0 a1 a2 af0 af1 af2 q0 q1 r0 r1
   obtain⟨⟨a0,a1,a2⟩,af0,af1,af2⟩:=HA1.out.three
   obtain⟨⟨q0,q1⟩,r0,r1⟩:=HL2.out.two HH.out
   simp only at q0
   go_wp2_with fail
   go_still_tail 6,(by kernel_rfl)
   change wpList _ _ _ _ _ W1.drew
   go_wp2_with fail
   with_reducible refine HCALL.out.mono ?_
   rintro e w2 ⟨rfl,hc2,ho2⟩
   dsimp only
   have hst:=bl_step HRL.out hlt (by omega) (by omega) HW1.out.symm hc2 ho2
   have hbA2:Box w2 W.heap.size 26 #[.int .i64 fg,.int .i64 bg,.int .i64 fl]:=HA1.out.drew.only ho2 (by omega)
   have hzz:W.heap.size+1+1≤w2.heap.size:=by have:=ho2.size;have:=HZS.out;rw[show W1.drew.heap.size=W1.heap.size from rfl] at *;omega
   have hbb:Below W.heap.size W w2:=(HW1.out ▸ (HBR.out.alloc HBR.out.size _).setCell (p:=⟨W.heap.size+1,k * 2,none⟩) (by show W.heap.size≤W.heap.size+1;omega) _:Below W.heap.size W W1).drew.trans (ho2.below (by show W.heap.size≤W1.heap.size;have:=HZS.out;omega) (by omega))
   have HST:=hid hst
   have HA2:=hid hbA2
   have HBB:=hid hbb
   clear hst hbA2 hbb hc2 ho2 a0 a1 a2 af0 af1 af2 q0 q1 r0 r1
   go_wp2
   go_roundw
   case rel=>exact⟨k+1,by omega,by go_num,HA2.out,HST.out,hzz,HBB.out⟩
   case measure=>simp[intOf];omega
  ·have hkm:k=rows:=by omega
   subst hkm
   have HRL:=hid hrl
   clear hrl hmL hmC
   go_wp2
   go_ret
   obtain⟨done,hd,hl,hcs⟩:=HRL.out
   rw[Nat.sub_self,List.replicate_zero,List.append_nil] at hl
   have hdl:done.length=k:=by have:=congrArg List.length hd;simpa using this
   exact⟨_,done,rfl,hd,.inr ⟨W.heap.size+1,k,by rw[hdl];rfl,by omega,hl⟩,hcs,hbr⟩
set_option maxHeartbeats 1000000
set_option maxRecDepth 100000
theorem hf_one (p:Int) (c:Ce) (r:List Ce) (h:c.wd=1):hf p c r=false:=by
 unfold hf
 rw[if_neg (by omega),if_neg (by omega)]
theorem qlv:∀ (l:List Ce) (p:Int),(∀ c∈l,c.wd=1)→qa3 p l=true
 | [],_,_=>rfl
 | c :: r,p,h=>by
  unfold qa3
  rw[hf_one p c r (h c (by simp)),qlv r _ (fun x hx=>h x (by simp[hx]))];rfl
theorem fits_bare {a:At} (h:qab a=true) (n:Nat):qbv n (List.replicate n (qd0 a))=true:=by
 refine fits_iff.2 ⟨by simp,rights_iff.2 ?_,qlv _ _ ?_⟩
 ·intro c hc
  rw[(List.mem_replicate.1 hc).2]
  exact qgk h
 ·intro c hc
  rw[(List.mem_replicate.1 hc).2]
  rfl
def NewPost (W:World) (rows cols:Nat) (e:Ending) (w':World):Prop :=
 ∃ v lv,e=.returned (.tuple #[.agg #[.int .i64 cols,v],.int .i64 0])∧lv.map Prod.fst=List.replicate rows (qbe cols ⟨0,0,0⟩)∧LSl w' W.heap.size v lv∧(∀ x∈lv,CSl w' W.heap.size x.2 x.1.cs)∧Below W.heap.size W w'
theorem new_yes (cols rows:Nat) (W:World) (h:qbl cols rows=true):Calls Tryz.prog 23 #[.int .i64 cols,.int .i64 rows] W (NewPost W rows cols):=by
 have hz:=h
 unfold qbl at hz
 rw[Bool.and_eq_true,decide_eq_true_iff,decide_eq_true_iff] at hz
 have hsz:=fun W=>size_any cols rows W
 rw[h] at hsz
 have hbl:=qfk rows cols ⟨0,0,0⟩ (W.alloc (.cells #[.int .i64 0,.slice none 0 0] 24)) (by omega) (by omega)
 have hbx:=Box.new W 24 #[.int .i64 0,.slice none 0 0]
 unfold At.agg at hbl
 have HB:=hid hbl
 have HX:=hid hbx
 clear hbl hbx h hz
 go_enter Tryz.func23,Tryz.ntmps23
 go_wp2_with fail
 with_reducible refine(hsz _).mono ?_
 rintro e w2 ⟨rfl,rfl⟩
 dsimp only
 go_wp2_with fail
 with_reducible refine HB.out.mono ?_
 rintro e w2 ⟨v,lv,rfl,hm,hl,hc,hb⟩
 dsimp only
 have bx:=HX.out.below hb (by simp)
 obtain⟨A5,c5,hs5⟩:=hl.spell
 subst hs5
 obtain⟨⟨k0,k1⟩,f0,f1⟩:=bx.two
 have HM:=hid hm
 have HL:=hid hl
 have HC:=hid hc
 have HBX:=hid bx
 have HBB:=hid (Below.behind hb)
 clear hm hl hc bx hb
 go_wp2
 refine bodyPost_ret (v:=.tuple #[.agg #[.int .i64 cols,.slice A5 lv.length c5],.int .i64 0]) (by simp[results,Tryz.results23,go_sem,k0,k1]) rfl ⟨_,lv,rfl,HM.out,?_,?_,?_⟩
 ·exact((HL.out.set HBX.out (by decide) (i:=0) _).set (HBX.out.set _) (by decide) (i:=1) _).mono (by simp)
 ·exact fun x hx=>(((HC.out x hx).set HBX.out (by decide) (i:=0) _).set (HBX.out.set _) (by decide) (i:=1) _).mono (by simp)
 ·exact(HBB.out.setCell (p:=⟨W.heap.size,0,none⟩) (Nat.le_refl _) _).setCell (p:=⟨W.heap.size,1,none⟩) (Nat.le_refl _) _
theorem ce_lit (W:World) (e:Ce):CeRow (W.alloc (.cells e.cells 57)) (.slice (some ⟨W.heap.size,0,none⟩) 1 1) [e]:=by
 refine⟨_,_,rfl,Nat.le_refl _,fun _=>⟨W.heap.size,0,rfl,by simp,fun j x hj i u hu=>?_⟩⟩
 have hb:=Box.new W 57 e.cells
 cases j with
 | zero =>
  simp at hj
  subst hj
  rw[show 0+0 * 5+i=i by omega,hb.cell]
  exact hu
 | succ j=>simp at hj
end Go.Proofs.YtpdaekmbpafenaaGreatDoor
