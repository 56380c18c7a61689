
import Derived.Test.YtpdaekmbpafenaaGreatDoorGridOQ
import Derived.StillTailTactics
import Derived.IntWalk
namespace Go.Proofs.YtpdaekmbpafenaaGreatDoor
set_option maxHeartbeats 1000000
set_option maxRecDepth 100000
open Go.RowKit
theorem CSl.some {W:World} {base:Nat} {v:Value} {l:List Ce} (h:CSl W base v l) (hl:l≠[]):∃ g cap,v=.slice (some ⟨g,0,none⟩) l.length cap∧base≤g∧CBox W g l cap:=by
 rcases h with ⟨e,_⟩ | h
 ·exact absurd e hl
 ·exact h
def qga (l:List Ce) (col:Nat) (c:Ce):List Ce:=if c.wd=2 then (l.set col c).set (col+1) (rhC c.at) else l.set col c
theorem put_chg (B : Nat) (w : World) (cs : List Ce) (soft : Bool) (col : Nat) (c : Ce) (bc bq : Nat) (h1 : bc < B) (h2 : bq < B) (hbc : Box w bc 57 c.cells) (hbq : Box w bq 3 #[.int .i64 col])
  (hc:col < cs.length) (hw:c.wd=2→col+1 < cs.length) (hn:cs.length≤1000) :
  Chg 246 #[.pointer (some ⟨bc,0,none⟩),.pointer (some ⟨bq,0,none⟩)] B w cs (qga cs col c) soft soft:=by
 refine⟨fun _ _=>by kernel_rfl,fun W b v hbel hB hbox hcs=>?_⟩
 obtain⟨g,cap,rfl,hg,hcb⟩:=hcs.some (by intro e;rw[e] at hc;simp at hc)
 have kc:=hbc.below hbel h1
 have kq:=hbq.below hbel h2
 obtain⟨tx,wd,fg,bg,fl⟩:=c
 unfold Ce.cells at kc
 simp only at kc hw
 obtain⟨⟨a0,a1,a2,a3,a4⟩,_⟩:=kc.five
 have b0:=kq.cell 0
 obtain⟨⟨c0,c1⟩,d0,d1⟩:=hbox.two
 obtain⟨old,ho,⟨e0,e1,e2,e3,e4⟩,f0,f1,f2,f3,f4⟩:=hcb.five hc (q:=col * 5) rfl
 have hci:(col:Int) < cs.length:=by omega
 have hgb:¬ g=b:=by omega
 have hs1:CBox (set5 W g (col * 5) ⟨tx,wd,fg,bg,fl⟩).drew g (cs.set col ⟨tx,wd,fg,bg,fl⟩) cap:=(hcb.set5 hc ⟨tx,wd,fg,bg,fl⟩).drew
 have ho1:Only g W (set5 W g (col * 5) ⟨tx,wd,fg,bg,fl⟩).drew:=(Only.set5 (Only.refl g W) _).drew
 show Calls _ _ #[.pointer (some ⟨b,0,none⟩),.pointer (some ⟨bc,0,none⟩),.pointer (some ⟨bq,0,none⟩)] _ _
 have hlt:=hbox.lt
 by_cases h2':wd=2
 ·subst h2'
  have hp:qga cs col ⟨tx,2,fg,bg,fl⟩=(cs.set col ⟨tx,2,fg,bg,fl⟩).set (col+1) (rhC ⟨fg,bg,fl⟩):=by unfold qga;rw[if_pos rfl];rfl
  unfold rhC at hp
  simp only at hp
  have hw2:=hw rfl
  have hkc1:=kc.only ho1 (by omega)
  have hkq1:=kq.only ho1 (by omega)
  have hbx1:=hbox.only ho1 (by omega)
  have hwi:(col:Int)+1 < cs.length:=by omega
  have hl2:(cs.set col ⟨tx,2,fg,bg,fl⟩).length=cs.length:=List.length_set
  generalize hc2:cs.set col ⟨tx,2,fg,bg,fl⟩=cs2 at *
  have HS1:=hid hs1
  have HO1:=hid ho1
  have HP:=hid hp
  have HK1:=hid hkc1
  have HK2:=hid hkq1
  obtain⟨n,hnl⟩:∃ n,cs.length=n:=⟨_,rfl⟩
  rw[hnl] at c0 hc hci hwi hw2 hl2 hbx1 hn
  have HNL:=hid hnl
  have HL2:=hid hl2
  have HK3:=hid hbx1
  clear hcs hbox
  clear hs1 ho1 hp hl2 hkc1 hkq1 hbx1 ho hnl hc2 hw
  go_enter Tryz.func246,Tryz.ntmps246
  go_wp2_with fail
  go_still_tail 7,(by kernel_rfl)
  change wpList _ _ _ _ _ W.drew
  go_upto_region 2 with fail
  change Code.wp _ _ _ _ (set5 W g (col * 5) ⟨tx,2,fg,bg,fl⟩).drew
  generalize (set5 W g (col * 5) ⟨tx,2,fg,bg,fl⟩).drew=W1 at *
  clear a0 a1 a2 a3 a4 b0 c0 c1 d0 d1 e0 e1 e2 e3 e4 f0 f1 f2 f3 f4 kc kq hcb
  obtain⟨⟨a0,a1,a2,a3,a4⟩,_⟩:=HK1.out.five
  have b0:=HK2.out.cell 0
  obtain⟨⟨c0,c1⟩,d0,d1⟩:=HK3.out.two
  obtain⟨old2,_,⟨e0,e1,e2,e3,e4⟩,f0,f1,f2,f3,f4⟩:=HS1.out.five (k:=col+1) (by rw[HL2.out];exact hw2) (q:=(col+1) * 5) rfl
  have hx0:(0:Int)≤(col:Int)+1:=by omega
  have hx1:((col:Int)+1).toNat=col+1:=by omega
  have hx2:IntKind.i64.wrap ((col:Int)+1)=(col:Int)+1:=IntWalk.i64_in _ (by omega)
  go_wp2_with fail
  go_still_tail 10,(by kernel_rfl)
  change wpList _ _ _ _ _ W1.drew
  go_wp2
  have h5:=(HS1.out.set5 (k:=col+1) (by rw[HL2.out];exact hw2) (rhC ⟨fg,bg,fl⟩)).drew
  have o5:=(HO1.out.set5 (o:=(col+1) * 5) (rhC ⟨fg,bg,fl⟩)).drew
  have o6:=((Only.refl g W1).set5 (o:=(col+1) * 5) (rhC ⟨fg,bg,fl⟩)).drew
  unfold rhC at h5 o5 o6
  simp only at h5 o5 o6
  have HH5:=hid h5
  have HO5:=hid o5
  have HO6:=hid o6
  clear h5 o5 o6
  go_end0
  refine⟨rfl,⟨_,HK3.out.only HO6.out (by omega),.inr ⟨g,cap,?_,hg,?_⟩⟩,HO5.out.below (by omega) (by omega)⟩
  ·rw[HP.out,List.length_set,HL2.out]
  ·rw[HP.out];exact HH5.out
 ·have hp:qga cs col ⟨tx,wd,fg,bg,fl⟩=cs.set col ⟨tx,wd,fg,bg,fl⟩:=by unfold qga;rw[if_neg h2']
  have q2:(wd == 2)=false:=by simp[h2']
  have HS1:=hid hs1
  have HO1:=hid ho1
  have HP:=hid hp
  have HK3:=hid hbox
  obtain⟨n,hnl⟩:∃ n,cs.length=n:=⟨_,rfl⟩
  have HNL:=hid hnl
  rw[hnl] at c0 hc hci
  clear hs1 ho1 hp ho hnl hw hcb h2' hcs hbox
  go_enter Tryz.func246,Tryz.ntmps246
  go_wp2_with fail
  go_still_tail 7,(by kernel_rfl)
  change wpList _ _ _ _ _ W.drew
  go_wp2
  go_end0
  refine⟨rfl,⟨_,HK3.out.only HO1.out (by omega),.inr ⟨g,cap,?_,hg,?_⟩⟩,HO1.out.below (by omega) (by omega)⟩
  ·rw[HP.out,List.length_set,HNL.out]
  ·rw[HP.out];exact HS1.out
set_option maxHeartbeats 1000000
set_option maxRecDepth 100000
theorem soft_chg (B : Nat) (w : World) (cs : List Ce) (soft soft' : Bool) (bs : Nat) (h1 : bs < B) (hbs : Box w bs 4 #[.bool soft']) :
  Chg 242 #[.pointer (some ⟨bs,0,none⟩)] B w cs cs soft soft':=by
 refine⟨fun _ _=>by kernel_rfl,fun W b v hbel hB hbox hcs=>?_⟩
 obtain⟨A,c,rfl⟩:=hcs.spell
 have kc:=hbs.below hbel h1
 have a0:=kc.cell 0
 obtain⟨⟨c0,c1⟩,d0,d1⟩:=hbox.two
 have HX:=hid hbox
 have HC:=hid hcs
 clear hbox hcs
 show Calls _ _ #[.pointer (some ⟨b,0,none⟩),.pointer (some ⟨bs,0,none⟩)] _ _
 go_enter Tryz.func242,Tryz.ntmps242
 go_wp2
 go_end0
 exact⟨rfl,⟨_,HX.out.set (i:=1) _,HC.out.set HX.out (by decide) _⟩,(Below.refl b W).setCell (Nat.le_refl _) _⟩
theorem erase_chg (B : Nat) (w : World) (cs : List Ce) (soft : Bool) (o n : Nat) (a : At) (bf bt ba : Nat) (h1 : bf < B) (h2 : bt < B) (h3 : ba < B) (hbf : Box w bf 3 #[.int .i64 o]) (hbt : Box w bt 3 #[.int .i64 ((o + n : Nat) : Int)]) (hba : Box w ba 26 a.cells)
  (hc:o+n≤cs.length) (hn:cs.length≤1000) (hpos:0 < cs.length) :
  Chg 226 #[.pointer (some ⟨bf,0,none⟩),.pointer (some ⟨bt,0,none⟩),.pointer (some ⟨ba,0,none⟩)] B w cs (qa2 cs o n a) soft soft:=by
 refine⟨fun _ _=>by kernel_rfl,fun W b v hbel hB hbox hcs=>?_⟩
 have kf:=(hbf.below hbel h1).cell 0
 have kt:=(hbt.below hbel h2).cell 0
 have ka:=hba.below hbel h3
 obtain⟨fg,bg,fl⟩:=a
 unfold At.cells at ka
 simp only at ka
 obtain⟨⟨a0,a1,a2⟩,_⟩:=ka.three
 obtain⟨⟨c0,c1⟩,d0,d1⟩:=hbox.two
 show Calls _ _ #[.pointer (some ⟨b,0,none⟩),.pointer (some ⟨bf,0,none⟩),.pointer (some ⟨bt,0,none⟩),.pointer (some ⟨ba,0,none⟩)] _ _
 have HX:=hid hbox
 have hlt:=hbox.lt
 obtain⟨g,cap,rfl,hg,hcb⟩:=hcs.some (by intro e;rw[e] at hpos;simp at hpos)
 have hcap:cs.length≤cap:=by obtain⟨_,_,_,h,_⟩:=hcb;exact h
 obtain⟨q,hq⟩:∃ q,o+n=q:=⟨_,rfl⟩
 rw[hq] at kt hc
 have hi1:(0:Int)≤(q:Int):=by omega
 have hi2:(o:Int)≤(q:Int):=by omega
 have hi3:(q:Int)≤cap:=by omega
 have hqn:q - o=n:=by omega
 have HQN:=hid hqn
 have her:∀ c,Calls Tryz.prog 116 #[.slice (if cap=o then some ⟨g,0,none⟩ else some ⟨g,o * 5,none⟩) (q - o) c,At.agg ⟨fg,bg,fl⟩] W.drew (ErPost W.drew g cap (qa2 cs o n ⟨fg,bg,fl⟩)):=by
  intro c
  rw[hqn]
  by_cases hn0:n=0
  ·subst hn0
   rw[qlw]
   exact(qlx _ c ⟨fg,bg,fl⟩ W.drew).mono fun _ _ ⟨he,hb⟩=>⟨he,hcb.drew.below hb hcb.lt,Only.of_below hb⟩
  ·rw[if_neg (by omega)]
   exact qdo g o n c cap cs ⟨fg,bg,fl⟩ W.drew hcb.drew (by omega) (by omega)
 unfold At.agg at her
 simp only at her
 have hgb:¬ g=b:=by omega
 have hln:(qa2 cs o n ⟨fg,bg,fl⟩).length=cs.length:=qai _ (by omega)
 obtain⟨m,hm⟩:∃ m,cs.length=m:=⟨_,rfl⟩
 rw[hm] at c0 hc hcap hln
 have HM:=hid hm
 have HLN:=hid hln
 clear hm hln hq hqn hcs hbox ka
 by_cases hne:cap=o
 ·rw[if_pos hne] at her
  have HER:=hid her
  clear her
  subst hne
  go_enter Tryz.func226,Tryz.ntmps226
  go_wp2_with fail
  go_still_tail 8,(by kernel_rfl)
  change wpList _ _ _ _ _ W.drew
  go_wp2_with fail
  with_reducible refine(HER.out _).mono ?_
  rintro e w2 ⟨rfl,h2,h3⟩
  dsimp only
  have H2:=hid h2
  clear h2
  go_wp2
  go_end0
  exact⟨rfl,⟨_,HX.out.drew.only h3 (by omega),.inr ⟨g,cap,by rw[HLN.out,HM.out],hg,H2.out⟩⟩,(Below.refl b W).drew.trans (h3.below (by show b≤W.heap.size;omega) (by omega))⟩
 ·rw[if_neg hne] at her
  have HER:=hid her
  clear her
  go_enter Tryz.func226,Tryz.ntmps226
  go_wp2_with fail
  go_still_tail 8,(by kernel_rfl)
  change wpList _ _ _ _ _ W.drew
  go_wp2_with fail
  with_reducible refine(HER.out _).mono ?_
  rintro e w2 ⟨rfl,h2,h3⟩
  dsimp only
  have H2:=hid h2
  clear h2
  go_wp2
  go_end0
  exact⟨rfl,⟨_,HX.out.drew.only h3 (by omega),.inr ⟨g,cap,by rw[HLN.out,HM.out],hg,H2.out⟩⟩,(Below.refl b W).drew.trans (h3.below (by show b≤W.heap.size;omega) (by omega))⟩
set_option maxHeartbeats 2000000
set_option maxRecDepth 100000
def GNo (W:World) (n:Int) (e:Ending) (w':World):Prop:=e=.returned (.tuple #[.agg #[.int .i64 0,.slice none 0 0],.int .i64 n])∧Below W.heap.size W w'
def GYes (W:World) (cols:Int) (lv:List (Ln×Value)) (ls:List Ln) (e:Ending) (w':World):Prop :=
 ∃ v lv',e=.returned (.tuple #[.agg #[.int .i64 cols,v],.int .i64 0])∧lv'.map Prod.fst=ls∧LSl w' W.heap.size v lv'∧NewOf w' W.heap.size lv lv'∧Below W.heap.size W w'
structure GIn (W:World) (v:Value) (lv:List (Ln×Value)):Prop where
 lr:LR W v lv
 ces:CesOf W lv
 sm:Sm lv
theorem GIn.below {W W':World} {v:Value} {lv:List (Ln×Value)} (h:GIn W v lv) (hb:Below W.heap.size W W'):GIn W' v lv:=⟨h.lr.below hb,h.ces.below hb,h.sm⟩
def qbd (cols:Int) (lv:List (Ln×Value)):Bool:=qbl cols lv.length && qed cols lv
theorem put_no (cols row col : Int) (v : Value) (lv : List (Ln × Value)) (c : Ce) (W : World) (hg : GIn W v lv) (htx : c.tx.size ≤ 1000) (hT : Tab W) (hW : TabW W) (hk : (qbd cols lv && (qcx row lv.length && (colB col cols && qq c))) = false) :
  Calls Tryz.prog 240 #[.agg #[.int .i64 cols,v],.int .i64 row,.int .i64 col,c.agg] W (GNo W 1):=by
 obtain⟨A,c0,rfl⟩:=hg.lr.spell
 have HG:=hid hg
 have HTT:=hid hT
 have HWW:=hid hW
 obtain⟨tx,wd,fg,bg,fl⟩:=c
 have HTX:=hid htx
 have b0:=((((Bxs.nil W).alloc 24 #[.int .i64 cols,.slice A lv.length c0]).alloc 3 #[.int .i64 col]).alloc 57 #[.string tx,.int .i64 wd,.int .i64 fg,.int .i64 bg,.int .i64 fl]).alloc 24 #[.int .i64 0,.slice none 0 0]
 simp only[World.size_alloc,List.nil_append,List.cons_append] at b0
 have h0:Below W.heap.size W ((((W.alloc (.cells #[.int .i64 cols,.slice A lv.length c0] 24)).alloc (.cells #[.int .i64 col] 3)).alloc (.cells #[.string tx,.int .i64 wd,.int .i64 fg,.int .i64 bg,.int .i64 fl] 57)).alloc (.cells #[.int .i64 0,.slice none 0 0] 24)):=(((qa _ _).alloc (by simp <;> omega) _).alloc (by simp <;> omega) _).alloc (by simp <;> omega) _
 have s0:W.heap.size+1+1+1+1≤((((W.alloc (.cells #[.int .i64 cols,.slice A lv.length c0] 24)).alloc (.cells #[.int .i64 col] 3)).alloc (.cells #[.string tx,.int .i64 wd,.int .i64 fg,.int .i64 bg,.int .i64 fl] 57)).alloc (.cells #[.int .i64 0,.slice none 0 0] 24)).heap.size:=by simp
 have BX0:=hid b0
 have H0:=hid h0
 have S0:=hid s0
 obtain⟨n,hn⟩:∃ n,lv.length=n:=⟨_,rfl⟩
 have HN:=hid hn
 obtain⟨m0,a0⟩:∃ m,qbd cols lv=m:=⟨_,rfl⟩
 obtain⟨m1,a1⟩:∃ m,qcx row lv.length=m:=⟨_,rfl⟩
 obtain⟨m2,a2⟩:∃ m,colB col cols=m:=⟨_,rfl⟩
 obtain⟨m3,a3⟩:∃ m,qq ⟨tx,wd,fg,bg,fl⟩=m:=⟨_,rfl⟩
 rw[a0,a1,a2,a3] at hk
 have HK:=hid hk
 unfold qbd at a0
 rw[hn] at a0 a1 b0 h0 s0 BX0 H0 S0 ⊢
 have A0:=hid a0
 have A1:=hid a1
 have A2:=hid a2
 have A3:=hid a3
 clear hg hT hW htx hn b0 h0 s0 a0 a1 a2 a3 hk
 show Calls _ _ #[.agg #[.int .i64 cols,.slice A n c0],.int .i64 row,.int .i64 col,.agg #[.string tx,.int .i64 wd,.int .i64 fg,.int .i64 bg,.int .i64 fl]] _ _
 go_enter Tryz.func240,Tryz.ntmps240
 go_upto_region 1 with fail
 generalize ((((W.alloc (.cells #[.int .i64 cols,.slice A n c0] 24)).alloc (.cells #[.int .i64 col] 3)).alloc (.cells #[.string tx,.int .i64 wd,.int .i64 fg,.int .i64 bg,.int .i64 fl] 57)).alloc (.cells #[.int .i64 0,.slice none 0 0] 24))=w0 at *
 obtain⟨⟨k0_0,k0_1⟩,f0_0,f0_1⟩:=(BX0.out.get 0 rfl).two
 have k1_0:=(BX0.out.get 1 rfl).cell 0
 have f1_0:=(BX0.out.get 1 rfl).free 0
 obtain⟨⟨k2_0,k2_1,k2_2,k2_3,k2_4⟩,f2_0,f2_1,f2_2,f2_3,f2_4⟩:=(BX0.out.get 2 rfl).five
 obtain⟨⟨k3_0,k3_1⟩,f3_0,f3_1⟩:=(BX0.out.get 3 rfl).two
 have hraw:=qa7 cols _ lv w0 (HG.out.below H0.out).lr (HG.out.below H0.out).ces HG.out.sm (HTT.out.below H0.out) (HWW.out.below H0.out)
 rw[HN.out] at hraw
 rw[show (qbl cols n && qed cols lv)=_ from A0.out] at hraw
 have hcall:=hraw
 have HCALL:=hid hcall
 clear hcall
 go_wp2_with fail
 with_reducible refine HCALL.out.mono ?_
 rintro e w1 ⟨rfl,hb⟩
 dsimp only
 have BX1:=hid (BX0.out.below hb)
 have H1:=hid (H0.out.trans (hb.mono H0.out.size))
 have S1:=hid (Nat.le_trans S0.out hb.size)
 clear hb HCALL
 clear k0_0 k0_1 k1_0 k2_0 k2_1 k2_2 k2_3 k2_4 k3_0 k3_1 f0_0 f0_1 f1_0 f2_0 f2_1 f2_2 f2_3 f2_4 f3_0 f3_1
 obtain⟨⟨k0_0,k0_1⟩,f0_0,f0_1⟩:=(BX1.out.get 0 rfl).two
 have k1_0:=(BX1.out.get 1 rfl).cell 0
 have f1_0:=(BX1.out.get 1 rfl).free 0
 obtain⟨⟨k2_0,k2_1,k2_2,k2_3,k2_4⟩,f2_0,f2_1,f2_2,f2_3,f2_4⟩:=(BX1.out.get 2 rfl).five
 obtain⟨⟨k3_0,k3_1⟩,f3_0,f3_1⟩:=(BX1.out.get 3 rfl).two
 clear hraw
 clear A0
 cases m0
 ·go_wp2
  refine bodyPost_ret (v:=.tuple #[.agg #[.int .i64 0,.slice none 0 0],.int .i64 1]) (by simp[results,Tryz.results240,go_sem,k3_0,k3_1]) rfl ⟨rfl,?_⟩
  exact(H1.out.setCell (p:=⟨W.heap.size+1+1+1,0,none⟩) (by show W.heap.size≤W.heap.size+1+1+1;omega) _).setCell (p:=⟨W.heap.size+1+1+1,1,none⟩) (by show W.heap.size≤W.heap.size+1+1+1;omega) _
 have hraw:=qbs cols row A n c0 w1
 rw[A1.out] at hraw
 have hcall:=hraw
 have HCALL:=hid hcall
 clear hcall
 go_wp2_with fail
 with_reducible refine HCALL.out.mono ?_
 rintro e w2 ⟨rfl,hb⟩
 dsimp only
 have BX2:=hid (BX1.out.below hb)
 have H2:=hid (H1.out.trans (hb.mono H1.out.size))
 have S2:=hid (Nat.le_trans S1.out hb.size)
 clear hb HCALL
 clear k0_0 k0_1 k1_0 k2_0 k2_1 k2_2 k2_3 k2_4 k3_0 k3_1 f0_0 f0_1 f1_0 f2_0 f2_1 f2_2 f2_3 f2_4 f3_0 f3_1
 obtain⟨⟨k0_0,k0_1⟩,f0_0,f0_1⟩:=(BX2.out.get 0 rfl).two
 have k1_0:=(BX2.out.get 1 rfl).cell 0
 have f1_0:=(BX2.out.get 1 rfl).free 0
 obtain⟨⟨k2_0,k2_1,k2_2,k2_3,k2_4⟩,f2_0,f2_1,f2_2,f2_3,f2_4⟩:=(BX2.out.get 2 rfl).five
 obtain⟨⟨k3_0,k3_1⟩,f3_0,f3_1⟩:=(BX2.out.get 3 rfl).two
 clear hraw
 clear A1
 cases m1
 ·go_wp2
  refine bodyPost_ret (v:=.tuple #[.agg #[.int .i64 0,.slice none 0 0],.int .i64 1]) (by simp[results,Tryz.results240,go_sem,k3_0,k3_1]) rfl ⟨rfl,?_⟩
  exact(H2.out.setCell (p:=⟨W.heap.size+1+1+1,0,none⟩) (by show W.heap.size≤W.heap.size+1+1+1;omega) _).setCell (p:=⟨W.heap.size+1+1+1,1,none⟩) (by show W.heap.size≤W.heap.size+1+1+1;omega) _
 have hraw:=qei cols col A n c0 w2
 rw[A2.out] at hraw
 have hcall:=hraw
 have HCALL:=hid hcall
 clear hcall
 go_wp2_with fail
 with_reducible refine HCALL.out.mono ?_
 rintro e w3 ⟨rfl,hb⟩
 dsimp only
 have BX3:=hid (BX2.out.below hb)
 have H3:=hid (H2.out.trans (hb.mono H2.out.size))
 have S3:=hid (Nat.le_trans S2.out hb.size)
 clear hb HCALL
 clear k0_0 k0_1 k1_0 k2_0 k2_1 k2_2 k2_3 k2_4 k3_0 k3_1 f0_0 f0_1 f1_0 f2_0 f2_1 f2_2 f2_3 f2_4 f3_0 f3_1
 obtain⟨⟨k0_0,k0_1⟩,f0_0,f0_1⟩:=(BX3.out.get 0 rfl).two
 have k1_0:=(BX3.out.get 1 rfl).cell 0
 have f1_0:=(BX3.out.get 1 rfl).free 0
 obtain⟨⟨k2_0,k2_1,k2_2,k2_3,k2_4⟩,f2_0,f2_1,f2_2,f2_3,f2_4⟩:=(BX3.out.get 2 rfl).five
 obtain⟨⟨k3_0,k3_1⟩,f3_0,f3_1⟩:=(BX3.out.get 3 rfl).two
 clear hraw
 clear A2
 cases m2
 ·go_wp2
  refine bodyPost_ret (v:=.tuple #[.agg #[.int .i64 0,.slice none 0 0],.int .i64 1]) (by simp[results,Tryz.results240,go_sem,k3_0,k3_1]) rfl ⟨rfl,?_⟩
  exact(H3.out.setCell (p:=⟨W.heap.size+1+1+1,0,none⟩) (by show W.heap.size≤W.heap.size+1+1+1;omega) _).setCell (p:=⟨W.heap.size+1+1+1,1,none⟩) (by show W.heap.size≤W.heap.size+1+1+1;omega) _
 have hm:m3=false:=HK.out
 subst hm
 have hraw:=qde ⟨tx,wd,fg,bg,fl⟩ w3 (Nat.le_trans HTX.out (by unfold maxLen;omega)) (HTT.out.below H3.out) (HWW.out.below H3.out)
 rw[A3.out] at hraw
 unfold Ce.agg Ce.cells at hraw
 simp only at hraw
 have hcall:=hraw
 have HCALL:=hid hcall
 clear hcall
 go_wp2_with fail
 with_reducible refine HCALL.out.mono ?_
 rintro e w4 ⟨rfl,hb⟩
 dsimp only
 have BX4:=hid (BX3.out.below hb)
 have H4:=hid (H3.out.trans (hb.mono H3.out.size))
 have S4:=hid (Nat.le_trans S3.out hb.size)
 clear hb HCALL
 clear k0_0 k0_1 k1_0 k2_0 k2_1 k2_2 k2_3 k2_4 k3_0 k3_1 f0_0 f0_1 f1_0 f2_0 f2_1 f2_2 f2_3 f2_4 f3_0 f3_1
 obtain⟨⟨k0_0,k0_1⟩,f0_0,f0_1⟩:=(BX4.out.get 0 rfl).two
 have k1_0:=(BX4.out.get 1 rfl).cell 0
 have f1_0:=(BX4.out.get 1 rfl).free 0
 obtain⟨⟨k2_0,k2_1,k2_2,k2_3,k2_4⟩,f2_0,f2_1,f2_2,f2_3,f2_4⟩:=(BX4.out.get 2 rfl).five
 obtain⟨⟨k3_0,k3_1⟩,f3_0,f3_1⟩:=(BX4.out.get 3 rfl).two
 clear hraw
 go_wp2
 refine bodyPost_ret (v:=.tuple #[.agg #[.int .i64 0,.slice none 0 0],.int .i64 1]) (by simp[results,Tryz.results240,go_sem,k3_0,k3_1]) rfl ⟨rfl,?_⟩
 exact(H4.out.setCell (p:=⟨W.heap.size+1+1+1,0,none⟩) (by show W.heap.size≤W.heap.size+1+1+1;omega) _).setCell (p:=⟨W.heap.size+1+1+1,1,none⟩) (by show W.heap.size≤W.heap.size+1+1+1;omega) _
theorem put_no4 (cols row col : Int) (v : Value) (lv : List (Ln × Value)) (c : Ce) (W : World) (hg : GIn W v lv) (htx : c.tx.size ≤ 1000) (hT : Tab W) (hW : TabW W) (a0 : qbd cols lv = true) (a1 : qcx row lv.length = true) (a2 : colB col cols = true) (a3 : qq c = true) (a4 : c.tx.size = 0) :
  Calls Tryz.prog 240 #[.agg #[.int .i64 cols,v],.int .i64 row,.int .i64 col,c.agg] W (GNo W 1):=by
 obtain⟨A,c0,rfl⟩:=hg.lr.spell
 have HG:=hid hg
 have HTT:=hid hT
 have HWW:=hid hW
 obtain⟨tx,wd,fg,bg,fl⟩:=c
 have HTX:=hid htx
 have b0:=((((Bxs.nil W).alloc 24 #[.int .i64 cols,.slice A lv.length c0]).alloc 3 #[.int .i64 col]).alloc 57 #[.string tx,.int .i64 wd,.int .i64 fg,.int .i64 bg,.int .i64 fl]).alloc 24 #[.int .i64 0,.slice none 0 0]
 simp only[World.size_alloc,List.nil_append,List.cons_append] at b0
 have h0:Below W.heap.size W ((((W.alloc (.cells #[.int .i64 cols,.slice A lv.length c0] 24)).alloc (.cells #[.int .i64 col] 3)).alloc (.cells #[.string tx,.int .i64 wd,.int .i64 fg,.int .i64 bg,.int .i64 fl] 57)).alloc (.cells #[.int .i64 0,.slice none 0 0] 24)):=(((qa _ _).alloc (by simp <;> omega) _).alloc (by simp <;> omega) _).alloc (by simp <;> omega) _
 have s0:W.heap.size+1+1+1+1≤((((W.alloc (.cells #[.int .i64 cols,.slice A lv.length c0] 24)).alloc (.cells #[.int .i64 col] 3)).alloc (.cells #[.string tx,.int .i64 wd,.int .i64 fg,.int .i64 bg,.int .i64 fl] 57)).alloc (.cells #[.int .i64 0,.slice none 0 0] 24)).heap.size:=by simp
 have BX0:=hid b0
 have H0:=hid h0
 have S0:=hid s0
 obtain⟨n,hn⟩:∃ n,lv.length=n:=⟨_,rfl⟩
 have HN:=hid hn
 unfold qbd at a0
 rw[hn] at a0 a1 b0 h0 s0 BX0 H0 S0 ⊢
 simp only at a4
 obtain rfl:=qaj a4
 have A0:=hid a0
 have A1:=hid a1
 have A2:=hid a2
 have A3:=hid a3
 clear hg hT hW htx hn b0 h0 s0 a0 a1 a2 a3 a4
 show Calls _ _ #[.agg #[.int .i64 cols,.slice A n c0],.int .i64 row,.int .i64 col,.agg #[.string ⟨#[]⟩,.int .i64 wd,.int .i64 fg,.int .i64 bg,.int .i64 fl]] _ _
 go_enter Tryz.func240,Tryz.ntmps240
 go_upto_region 1 with fail
 generalize ((((W.alloc (.cells #[.int .i64 cols,.slice A n c0] 24)).alloc (.cells #[.int .i64 col] 3)).alloc (.cells #[.string ⟨#[]⟩,.int .i64 wd,.int .i64 fg,.int .i64 bg,.int .i64 fl] 57)).alloc (.cells #[.int .i64 0,.slice none 0 0] 24))=w0 at *
 obtain⟨⟨k0_0,k0_1⟩,f0_0,f0_1⟩:=(BX0.out.get 0 rfl).two
 have k1_0:=(BX0.out.get 1 rfl).cell 0
 have f1_0:=(BX0.out.get 1 rfl).free 0
 obtain⟨⟨k2_0,k2_1,k2_2,k2_3,k2_4⟩,f2_0,f2_1,f2_2,f2_3,f2_4⟩:=(BX0.out.get 2 rfl).five
 obtain⟨⟨k3_0,k3_1⟩,f3_0,f3_1⟩:=(BX0.out.get 3 rfl).two
 have hraw:=qa7 cols _ lv w0 (HG.out.below H0.out).lr (HG.out.below H0.out).ces HG.out.sm (HTT.out.below H0.out) (HWW.out.below H0.out)
 rw[HN.out] at hraw
 rw[show (qbl cols n && qed cols lv)=_ from A0.out] at hraw
 have hcall:=hraw
 have HCALL:=hid hcall
 clear hcall
 go_wp2_with fail
 with_reducible refine HCALL.out.mono ?_
 rintro e w1 ⟨rfl,hb⟩
 dsimp only
 have BX1:=hid (BX0.out.below hb)
 have H1:=hid (H0.out.trans (hb.mono H0.out.size))
 have S1:=hid (Nat.le_trans S0.out hb.size)
 clear hb HCALL
 clear k0_0 k0_1 k1_0 k2_0 k2_1 k2_2 k2_3 k2_4 k3_0 k3_1 f0_0 f0_1 f1_0 f2_0 f2_1 f2_2 f2_3 f2_4 f3_0 f3_1
 obtain⟨⟨k0_0,k0_1⟩,f0_0,f0_1⟩:=(BX1.out.get 0 rfl).two
 have k1_0:=(BX1.out.get 1 rfl).cell 0
 have f1_0:=(BX1.out.get 1 rfl).free 0
 obtain⟨⟨k2_0,k2_1,k2_2,k2_3,k2_4⟩,f2_0,f2_1,f2_2,f2_3,f2_4⟩:=(BX1.out.get 2 rfl).five
 obtain⟨⟨k3_0,k3_1⟩,f3_0,f3_1⟩:=(BX1.out.get 3 rfl).two
 clear hraw
 have hraw:=qbs cols row A n c0 w1
 rw[A1.out] at hraw
 have hcall:=hraw
 have HCALL:=hid hcall
 clear hcall
 go_wp2_with fail
 with_reducible refine HCALL.out.mono ?_
 rintro e w2 ⟨rfl,hb⟩
 dsimp only
 have BX2:=hid (BX1.out.below hb)
 have H2:=hid (H1.out.trans (hb.mono H1.out.size))
 have S2:=hid (Nat.le_trans S1.out hb.size)
 clear hb HCALL
 clear k0_0 k0_1 k1_0 k2_0 k2_1 k2_2 k2_3 k2_4 k3_0 k3_1 f0_0 f0_1 f1_0 f2_0 f2_1 f2_2 f2_3 f2_4 f3_0 f3_1
 obtain⟨⟨k0_0,k0_1⟩,f0_0,f0_1⟩:=(BX2.out.get 0 rfl).two
 have k1_0:=(BX2.out.get 1 rfl).cell 0
 have f1_0:=(BX2.out.get 1 rfl).free 0
 obtain⟨⟨k2_0,k2_1,k2_2,k2_3,k2_4⟩,f2_0,f2_1,f2_2,f2_3,f2_4⟩:=(BX2.out.get 2 rfl).five
 obtain⟨⟨k3_0,k3_1⟩,f3_0,f3_1⟩:=(BX2.out.get 3 rfl).two
 clear hraw
 have hraw:=qei cols col A n c0 w2
 rw[A2.out] at hraw
 have hcall:=hraw
 have HCALL:=hid hcall
 clear hcall
 go_wp2_with fail
 with_reducible refine HCALL.out.mono ?_
 rintro e w3 ⟨rfl,hb⟩
 dsimp only
 have BX3:=hid (BX2.out.below hb)
 have H3:=hid (H2.out.trans (hb.mono H2.out.size))
 have S3:=hid (Nat.le_trans S2.out hb.size)
 clear hb HCALL
 clear k0_0 k0_1 k1_0 k2_0 k2_1 k2_2 k2_3 k2_4 k3_0 k3_1 f0_0 f0_1 f1_0 f2_0 f2_1 f2_2 f2_3 f2_4 f3_0 f3_1
 obtain⟨⟨k0_0,k0_1⟩,f0_0,f0_1⟩:=(BX3.out.get 0 rfl).two
 have k1_0:=(BX3.out.get 1 rfl).cell 0
 have f1_0:=(BX3.out.get 1 rfl).free 0
 obtain⟨⟨k2_0,k2_1,k2_2,k2_3,k2_4⟩,f2_0,f2_1,f2_2,f2_3,f2_4⟩:=(BX3.out.get 2 rfl).five
 obtain⟨⟨k3_0,k3_1⟩,f3_0,f3_1⟩:=(BX3.out.get 3 rfl).two
 clear hraw
 have hraw:=qde ⟨⟨#[]⟩,wd,fg,bg,fl⟩ w3 (Nat.le_trans HTX.out (by unfold maxLen;omega)) (HTT.out.below H3.out) (HWW.out.below H3.out)
 rw[A3.out] at hraw
 unfold Ce.agg Ce.cells at hraw
 simp only at hraw
 have hcall:=hraw
 have HCALL:=hid hcall
 clear hcall
 go_wp2_with fail
 with_reducible refine HCALL.out.mono ?_
 rintro e w4 ⟨rfl,hb⟩
 dsimp only
 have BX4:=hid (BX3.out.below hb)
 have H4:=hid (H3.out.trans (hb.mono H3.out.size))
 have S4:=hid (Nat.le_trans S3.out hb.size)
 clear hb HCALL
 clear k0_0 k0_1 k1_0 k2_0 k2_1 k2_2 k2_3 k2_4 k3_0 k3_1 f0_0 f0_1 f1_0 f2_0 f2_1 f2_2 f2_3 f2_4 f3_0 f3_1
 obtain⟨⟨k0_0,k0_1⟩,f0_0,f0_1⟩:=(BX4.out.get 0 rfl).two
 have k1_0:=(BX4.out.get 1 rfl).cell 0
 have f1_0:=(BX4.out.get 1 rfl).free 0
 obtain⟨⟨k2_0,k2_1,k2_2,k2_3,k2_4⟩,f2_0,f2_1,f2_2,f2_3,f2_4⟩:=(BX4.out.get 2 rfl).five
 obtain⟨⟨k3_0,k3_1⟩,f3_0,f3_1⟩:=(BX4.out.get 3 rfl).two
 clear hraw
 go_wp2
 refine bodyPost_ret (v:=.tuple #[.agg #[.int .i64 0,.slice none 0 0],.int .i64 1]) (by simp[results,Tryz.results240,go_sem,k3_0,k3_1]) rfl ⟨rfl,?_⟩
 exact(H4.out.setCell (p:=⟨W.heap.size+1+1+1,0,none⟩) (by show W.heap.size≤W.heap.size+1+1+1;omega) _).setCell (p:=⟨W.heap.size+1+1+1,1,none⟩) (by show W.heap.size≤W.heap.size+1+1+1;omega) _
theorem put_room (cols row col : Int) (v : Value) (lv : List (Ln × Value)) (c : Ce) (W : World) (hg : GIn W v lv) (htx : c.tx.size ≤ 1000) (hT : Tab W) (hW : TabW W) (a0 : qbd cols lv = true) (a1 : qcx row lv.length = true) (a2 : colB col cols = true) (a3 : qq c = true) (a4 : c.tx.size ≠ 0) (a5 : c.wd = 2) (a6 : col = cols - 1) (a7 : 1 ≤ cols ∧ cols ≤ 80) :
  Calls Tryz.prog 240 #[.agg #[.int .i64 cols,v],.int .i64 row,.int .i64 col,c.agg] W (GNo W 9):=by
 obtain⟨A,c0,rfl⟩:=hg.lr.spell
 have HG:=hid hg
 have HTT:=hid hT
 have HWW:=hid hW
 obtain⟨tx,wd,fg,bg,fl⟩:=c
 have HTX:=hid htx
 have b0:=((((Bxs.nil W).alloc 24 #[.int .i64 cols,.slice A lv.length c0]).alloc 3 #[.int .i64 col]).alloc 57 #[.string tx,.int .i64 wd,.int .i64 fg,.int .i64 bg,.int .i64 fl]).alloc 24 #[.int .i64 0,.slice none 0 0]
 simp only[World.size_alloc,List.nil_append,List.cons_append] at b0
 have h0:Below W.heap.size W ((((W.alloc (.cells #[.int .i64 cols,.slice A lv.length c0] 24)).alloc (.cells #[.int .i64 col] 3)).alloc (.cells #[.string tx,.int .i64 wd,.int .i64 fg,.int .i64 bg,.int .i64 fl] 57)).alloc (.cells #[.int .i64 0,.slice none 0 0] 24)):=(((qa _ _).alloc (by simp <;> omega) _).alloc (by simp <;> omega) _).alloc (by simp <;> omega) _
 have s0:W.heap.size+1+1+1+1≤((((W.alloc (.cells #[.int .i64 cols,.slice A lv.length c0] 24)).alloc (.cells #[.int .i64 col] 3)).alloc (.cells #[.string tx,.int .i64 wd,.int .i64 fg,.int .i64 bg,.int .i64 fl] 57)).alloc (.cells #[.int .i64 0,.slice none 0 0] 24)).heap.size:=by simp
 have BX0:=hid b0
 have H0:=hid h0
 have S0:=hid s0
 obtain⟨n,hn⟩:∃ n,lv.length=n:=⟨_,rfl⟩
 have HN:=hid hn
 unfold qbd at a0
 rw[hn] at a0 a1 b0 h0 s0 BX0 H0 S0 ⊢
 simp only at a4 a5
 subst a5
 subst a6
 have q4:=qcd a4
 have A0:=hid a0
 have A1:=hid a1
 have A2:=hid a2
 have A3:=hid a3
 obtain⟨a7,a8⟩:=a7
 clear hg hT hW htx hn b0 h0 s0 a0 a1 a2 a3 a4
 show Calls _ _ #[.agg #[.int .i64 cols,.slice A n c0],.int .i64 row,.int .i64 (cols - 1),.agg #[.string tx,.int .i64 2,.int .i64 fg,.int .i64 bg,.int .i64 fl]] _ _
 go_enter Tryz.func240,Tryz.ntmps240
 go_upto_region 1 with fail
 generalize ((((W.alloc (.cells #[.int .i64 cols,.slice A n c0] 24)).alloc (.cells #[.int .i64 (cols - 1)] 3)).alloc (.cells #[.string tx,.int .i64 2,.int .i64 fg,.int .i64 bg,.int .i64 fl] 57)).alloc (.cells #[.int .i64 0,.slice none 0 0] 24))=w0 at *
 obtain⟨⟨k0_0,k0_1⟩,f0_0,f0_1⟩:=(BX0.out.get 0 rfl).two
 have k1_0:=(BX0.out.get 1 rfl).cell 0
 have f1_0:=(BX0.out.get 1 rfl).free 0
 obtain⟨⟨k2_0,k2_1,k2_2,k2_3,k2_4⟩,f2_0,f2_1,f2_2,f2_3,f2_4⟩:=(BX0.out.get 2 rfl).five
 obtain⟨⟨k3_0,k3_1⟩,f3_0,f3_1⟩:=(BX0.out.get 3 rfl).two
 have hraw:=qa7 cols _ lv w0 (HG.out.below H0.out).lr (HG.out.below H0.out).ces HG.out.sm (HTT.out.below H0.out) (HWW.out.below H0.out)
 rw[HN.out] at hraw
 rw[show (qbl cols n && qed cols lv)=_ from A0.out] at hraw
 have hcall:=hraw
 have HCALL:=hid hcall
 clear hcall
 go_wp2_with fail
 with_reducible refine HCALL.out.mono ?_
 rintro e w1 ⟨rfl,hb⟩
 dsimp only
 have BX1:=hid (BX0.out.below hb)
 have H1:=hid (H0.out.trans (hb.mono H0.out.size))
 have S1:=hid (Nat.le_trans S0.out hb.size)
 clear hb HCALL
 clear k0_0 k0_1 k1_0 k2_0 k2_1 k2_2 k2_3 k2_4 k3_0 k3_1 f0_0 f0_1 f1_0 f2_0 f2_1 f2_2 f2_3 f2_4 f3_0 f3_1
 obtain⟨⟨k0_0,k0_1⟩,f0_0,f0_1⟩:=(BX1.out.get 0 rfl).two
 have k1_0:=(BX1.out.get 1 rfl).cell 0
 have f1_0:=(BX1.out.get 1 rfl).free 0
 obtain⟨⟨k2_0,k2_1,k2_2,k2_3,k2_4⟩,f2_0,f2_1,f2_2,f2_3,f2_4⟩:=(BX1.out.get 2 rfl).five
 obtain⟨⟨k3_0,k3_1⟩,f3_0,f3_1⟩:=(BX1.out.get 3 rfl).two
 clear hraw
 have hraw:=qbs cols row A n c0 w1
 rw[A1.out] at hraw
 have hcall:=hraw
 have HCALL:=hid hcall
 clear hcall
 go_wp2_with fail
 with_reducible refine HCALL.out.mono ?_
 rintro e w2 ⟨rfl,hb⟩
 dsimp only
 have BX2:=hid (BX1.out.below hb)
 have H2:=hid (H1.out.trans (hb.mono H1.out.size))
 have S2:=hid (Nat.le_trans S1.out hb.size)
 clear hb HCALL
 clear k0_0 k0_1 k1_0 k2_0 k2_1 k2_2 k2_3 k2_4 k3_0 k3_1 f0_0 f0_1 f1_0 f2_0 f2_1 f2_2 f2_3 f2_4 f3_0 f3_1
 obtain⟨⟨k0_0,k0_1⟩,f0_0,f0_1⟩:=(BX2.out.get 0 rfl).two
 have k1_0:=(BX2.out.get 1 rfl).cell 0
 have f1_0:=(BX2.out.get 1 rfl).free 0
 obtain⟨⟨k2_0,k2_1,k2_2,k2_3,k2_4⟩,f2_0,f2_1,f2_2,f2_3,f2_4⟩:=(BX2.out.get 2 rfl).five
 obtain⟨⟨k3_0,k3_1⟩,f3_0,f3_1⟩:=(BX2.out.get 3 rfl).two
 clear hraw
 have hraw:=qei cols (cols - 1) A n c0 w2
 rw[A2.out] at hraw
 have hcall:=hraw
 have HCALL:=hid hcall
 clear hcall
 go_wp2_with fail
 with_reducible refine HCALL.out.mono ?_
 rintro e w3 ⟨rfl,hb⟩
 dsimp only
 have BX3:=hid (BX2.out.below hb)
 have H3:=hid (H2.out.trans (hb.mono H2.out.size))
 have S3:=hid (Nat.le_trans S2.out hb.size)
 clear hb HCALL
 clear k0_0 k0_1 k1_0 k2_0 k2_1 k2_2 k2_3 k2_4 k3_0 k3_1 f0_0 f0_1 f1_0 f2_0 f2_1 f2_2 f2_3 f2_4 f3_0 f3_1
 obtain⟨⟨k0_0,k0_1⟩,f0_0,f0_1⟩:=(BX3.out.get 0 rfl).two
 have k1_0:=(BX3.out.get 1 rfl).cell 0
 have f1_0:=(BX3.out.get 1 rfl).free 0
 obtain⟨⟨k2_0,k2_1,k2_2,k2_3,k2_4⟩,f2_0,f2_1,f2_2,f2_3,f2_4⟩:=(BX3.out.get 2 rfl).five
 obtain⟨⟨k3_0,k3_1⟩,f3_0,f3_1⟩:=(BX3.out.get 3 rfl).two
 clear hraw
 have hraw:=qde ⟨tx,2,fg,bg,fl⟩ w3 (Nat.le_trans HTX.out (by unfold maxLen;omega)) (HTT.out.below H3.out) (HWW.out.below H3.out)
 rw[A3.out] at hraw
 unfold Ce.agg Ce.cells at hraw
 simp only at hraw
 have hcall:=hraw
 have HCALL:=hid hcall
 clear hcall
 go_wp2_with fail
 with_reducible refine HCALL.out.mono ?_
 rintro e w4 ⟨rfl,hb⟩
 dsimp only
 have BX4:=hid (BX3.out.below hb)
 have H4:=hid (H3.out.trans (hb.mono H3.out.size))
 have S4:=hid (Nat.le_trans S3.out hb.size)
 clear hb HCALL
 clear k0_0 k0_1 k1_0 k2_0 k2_1 k2_2 k2_3 k2_4 k3_0 k3_1 f0_0 f0_1 f1_0 f2_0 f2_1 f2_2 f2_3 f2_4 f3_0 f3_1
 obtain⟨⟨k0_0,k0_1⟩,f0_0,f0_1⟩:=(BX4.out.get 0 rfl).two
 have k1_0:=(BX4.out.get 1 rfl).cell 0
 have f1_0:=(BX4.out.get 1 rfl).free 0
 obtain⟨⟨k2_0,k2_1,k2_2,k2_3,k2_4⟩,f2_0,f2_1,f2_2,f2_3,f2_4⟩:=(BX4.out.get 2 rfl).five
 obtain⟨⟨k3_0,k3_1⟩,f3_0,f3_1⟩:=(BX4.out.get 3 rfl).two
 clear hraw
 go_wp2
 refine bodyPost_ret (v:=.tuple #[.agg #[.int .i64 0,.slice none 0 0],.int .i64 9]) (by simp[results,Tryz.results240,go_sem,k3_0,k3_1]) rfl ⟨rfl,?_⟩
 exact(H4.out.setCell (p:=⟨W.heap.size+1+1+1,0,none⟩) (by show W.heap.size≤W.heap.size+1+1+1;omega) _).setCell (p:=⟨W.heap.size+1+1+1,1,none⟩) (by show W.heap.size≤W.heap.size+1+1+1;omega) _
end Go.Proofs.YtpdaekmbpafenaaGreatDoor
