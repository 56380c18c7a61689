
import Derived.Test.YtpdaekmbpafenaaGreatDoorParseIQ
import Derived.Test.YtpdaekmbpafenaaGreatDoorUtfCQ
import Derived.Lib.ConvBytes
namespace Go.Proofs.YtpdaekmbpafenaaGreatDoor
set_option maxHeartbeats 2000000
set_option maxRecDepth 100000
open Go.RowKit
theorem short_spoilt {p:ByteArray} {c:Int} (hp:p.size≠0) (h:(qi p).e=2) (he:(qi (p ++ qs c)).e=4):qi (p ++ qs c)=⟨0,(p.size:Int),4⟩:=by
 have hz:=qn p (qs c)
 rw[qfp] at hz
 have hs:(p ++ qs c).size≠0:=by omega
 have e0:=qam p (qs c) 0 (by omega)
 have no0:¬ (⟨0,0,2⟩:Got).e=4:=by show ¬ (2:Int)=4;decide
 have no1:∀ a b,¬ (⟨a,b,0⟩:Got).e=4:=fun a b=>by show ¬ (0:Int)=4;decide
 have no2:∀ a b,¬ (⟨a,b,0⟩:Got).e=2:=fun a b=>by show ¬ (0:Int)=2;decide
 have no3:∀ a b,¬ (⟨a,b,4⟩:Got).e=2:=fun a b=>by show ¬ (4:Int)=2;decide
 have b0:=qbc p 0
 by_cases c1:qb p 0 < 128
 ·rw[qdq hp c1] at h;exact absurd h (no2 _ _)
 by_cases c2:qb p 0 < 194∨245≤qb p 0
 ·rw[qg6 hp (by omega)] at h;exact absurd h (no3 _ _)
 by_cases c3:qb p 0 < 224
 ·rw[qdr hp (by omega)] at h
  rw[qdr hs (by omega)] at he ⊢
  by_cases d1:1=p.size
  ·rw[if_neg (by omega)] at he ⊢
   split at he
   ·exact absurd he (no1 _ _)
   ·rename_i k;rw[if_neg k,← d1];rfl
  ·rw[if_neg d1] at h
   split at h
   ·exact absurd h (no2 _ _)
   ·exact absurd h (no3 _ _)
 by_cases c4:qb p 0 < 240
 ·rw[qcl hp (by omega)] at h
  rw[qcl hs (by omega)] at he ⊢
  by_cases d1:1=p.size
  ·rw[if_neg (by omega)] at he ⊢
   split at he
   ·rw[if_pos (by omega)] at he;exact absurd he no0
   ·rename_i k;rw[if_neg k,← d1];rfl
  ·rw[if_neg d1] at h
   by_cases g1:qb p 1 / 64=2∧((32≤(qb p 0 - 224) * 64+qb p 1 % 64∧(qb p 0 - 224) * 64+qb p 1 % 64≤863)∨896≤(qb p 0 - 224) * 64+qb p 1 % 64)
   ·rw[if_pos g1] at h
    by_cases d2:2=p.size
    ·rw[if_neg (by omega),e0,qam p (qs c) 1 (by omega),if_pos g1,if_neg (by omega)] at he ⊢
     split at he
     ·exact absurd he (no1 _ _)
     ·rename_i k;rw[if_neg k,← d2];rfl
    ·rw[if_neg d2] at h
     split at h
     ·exact absurd h (no2 _ _)
     ·exact absurd h (no3 _ _)
   ·rw[if_neg g1] at h
    exact absurd h (no3 _ _)
 ·rw[qc5 hp (by omega)] at h
  rw[qc5 hs (by omega)] at he ⊢
  by_cases d1:1=p.size
  ·rw[if_neg (by omega)] at he ⊢
   split at he
   ·rw[if_pos (by omega)] at he;exact absurd he no0
   ·rename_i k;rw[if_neg k,← d1];rfl
  ·rw[if_neg d1] at h
   by_cases g1:qb p 1 / 64=2∧16≤(qb p 0 - 240) * 64+qb p 1 % 64∧(qb p 0 - 240) * 64+qb p 1 % 64≤271
   ·rw[if_pos g1] at h
    by_cases d2:2=p.size
    ·rw[if_neg (by omega),e0,qam p (qs c) 1 (by omega),if_pos g1,if_neg (by omega)] at he ⊢
     split at he
     ·rw[if_pos (by omega)] at he;exact absurd he no0
     ·rename_i k;rw[if_neg k,← d2];rfl
    ·rw[if_neg d2] at h
     by_cases g2:qb p 2 / 64=2
     ·rw[if_pos g2] at h
      by_cases d3:3=p.size
      ·rw[if_neg (by omega),e0,qam p (qs c) 1 (by omega),if_pos g1,if_neg (by omega),qam p (qs c) 2 (by omega),if_pos g2,if_neg (by omega)] at he ⊢
       split at he
       ·exact absurd he (no1 _ _)
       ·rename_i k;rw[if_neg k,← d3];rfl
      ·rw[if_neg d3] at h
       split at h
       ·exact absurd h (no2 _ _)
       ·exact absurd h (no3 _ _)
     ·rw[if_neg g2] at h
      exact absurd h (no3 _ _)
   ·rw[if_neg g1] at h
    exact absurd h (no3 _ _)
theorem first_high {s:ByteArray} (h:128≤qb s 0) (he:(qi s).e=0):128≤(qi s).r:=by
 rcases qbt s with ⟨r,hr,e,_,hb⟩ | ⟨e,_⟩ | ⟨n,e,_⟩
 ·rw[e]
  show 128≤r
  have hz:=qcf r
  have h0:=hb 0 (by omega)
  by_cases hlt:r < 128
  ·have:=(qg4 hlt).2
   omega
  ·omega
 ·rw[e] at he;exact absurd he (by show ¬ (2:Int)=0;decide)
 ·rw[e] at he;exact absurd he (by show ¬ (4:Int)=0;decide)
theorem short_high {p:ByteArray} (hp:p.size≠0) (h:(qi p).e=2):128≤qb p 0:=by
 by_cases c1:qb p 0 < 128
 ·rw[qdq hp c1] at h;exact absurd h (by show ¬ (0:Int)=2;decide)
 ·omega
def TabB (B:Nat) (W:World):Prop:=Tab W∧1 < B
theorem TabB.below {B:Nat} {W W':World} (h:TabB B W) (hb:Below B W W'):TabB B W':=by
 obtain⟨⟨t,h⟩,hl⟩:=h
 exact⟨⟨t,(hb.block _ hl).trans h⟩,hl⟩
theorem qjp {W:World} {B:Nat} (e:TypeId) (s:ByteArray) (hb:B≤W.heap.size):Below B W (Lib.bytesWorld W e s):=by
 refine⟨?_,?_,?_,by rw[Lib.bytesWorld_size];omega,fun k hk=>Lib.bytesWorld_at_old W e s k (by omega)⟩
 all_goals simp only[Lib.bytesWorld,World.freeze];split <;> rfl
theorem qmb {B R : Nat} {W : World} {p : Pa} {l : List Dn} (h : Rd B R W p l) (hT : TabB B W) (b : Int) (hz : p.pend.size ≤ 3) (he : (qi (p.pend ++ qs b)).e = 2) :
  Calls Tryz.prog 145 #[.pointer (some ⟨R,0,none⟩),.int .u8 b] W (qae B R W { p with pend:=p.pend ++ qs b } l):=by
 have hR:=h.lt
 have hB:=h.base
 have hcv:=qgs W b
 have hc1:=hcv _ (.inl rfl)
 have hc2:=hcv _ (.inr rfl)
 have hw2:Below W.heap.size W (W.alloc (.cells #[.int .u8 b] 5)).drew:=(qa W _).drew
 have hz1:(qs b).size=1:=rfl
 have hF:=qdd (p.pend ++ qs b) (W.alloc (.cells #[.int .u8 b] 5)).drew (by rw[qn,hz1];unfold maxLen;omega) (hT.below (hw2.mono hB)).1
 obtain⟨g,hg⟩:∃ g,qi (p.pend ++ qs b)=g:=⟨_,rfl⟩
 rw[hg] at hF he
 obtain⟨r,n,e⟩:=g
 simp only at he
 subst he
 unfold Got.val at hF
 simp only at hF
 obtain⟨A,c,dA,m,dc,hbox,_⟩:=h.cells
 have c5:W.cell? ⟨R,5,none⟩=some (.string p.pend):=hbox.cell 5
 have f5:=hbox.free 5
 have HB:=hid hbox
 have HF:=hid hF
 have HW:=hid hw2
 have HS:=hid (fun w1 (hb1:Below W.heap.size W w1)=>qh2 h hb1 (p.pend ++ qs b))
 generalize qs b=bb at *
 have hsum:p.pend.size+bb.size≤9223372036854775807:=by omega
 clear h hT hbox hcv hF hw2 hg hz
 go_enter Tryz.func145,Tryz.ntmps145
 go_wp2
 go_region
 go_wp2_with (go_at_call 109;refine HF.out.mono ?_;rintro e w1 ⟨rfl,hb1⟩;have hb2:=HW.out.trans (hb1.mono HW.out.size);have bx1:=HB.out.below hb2 hR;have d5:w1.cell? ⟨R,5,none⟩=some (.string p.pend):=bx1.cell 5;have g5:=bx1.free 5;have HX:=hid (HS.out _ hb2);clear bx1)
 go_end0
 exact⟨rfl,HX.out⟩
set_option maxHeartbeats 2000000
set_option maxRecDepth 100000
theorem same_pend {p:Pa} (h:p.pend.size=0):{ p with pend:=nilB }=p:=by
 obtain⟨p1,p2,p3,p4,p5,p6⟩:=p
 have:p6=nilB:=qaj h
 rw[this]
theorem pend_print {B R : Nat} {W : World} {p : Pa} {l : List Dn} (h : Rd B R W p l) (hT : TabB B W) (hn : l.length ≤ 500000) (b : Int) (hz : p.pend.size ≤ 3) (he : (qi (p.pend ++ qs b)).e = 0) (hr : 160 ≤ (qi (p.pend ++ qs b)).r) :
  Calls Tryz.prog 145 #[.pointer (some ⟨R,0,none⟩),.int .u8 b] W (qae B R W { p with pend:=nilB } (l ++ [qb8 (qi (p.pend ++ qs b)).r])):=by
 have hR:=h.lt
 have hB:=h.base
 have hcv:=qgs W b
 have hc1:=hcv _ (.inl rfl)
 have hc2:=hcv _ (.inr rfl)
 have hw2:Below W.heap.size W (W.alloc (.cells #[.int .u8 b] 5)).drew:=(qa W _).drew
 have hz1:(qs b).size=1:=rfl
 have hF:=qdd (p.pend ++ qs b) (W.alloc (.cells #[.int .u8 b] 5)).drew (by rw[qn,hz1];unfold maxLen;omega) (hT.below (hw2.mono hB)).1
 obtain⟨g,hg⟩:∃ g,qi (p.pend ++ qs b)=g:=⟨_,rfl⟩
 rw[hg] at hF he hr ⊢
 obtain⟨r,n,e⟩:=g
 simp only at he hr ⊢
 subst he
 clear hg
 unfold Got.val at hF
 simp only at hF
 obtain⟨A,c,dA,m,dc,hbox,_⟩:=h.cells
 have c5:W.cell? ⟨R,5,none⟩=some (.string p.pend):=hbox.cell 5
 have f5:=hbox.free 5
 have HB:=hid hbox
 have HF:=hid hF
 have HW:=hid hw2
 have HN:=hid hn
 have HS:=hid (fun w1 (hb1:Below W.heap.size W w1)=>qh2 h hb1 nilB)
 have hnil:nilB=⟨#[]⟩:=rfl
 rw[hnil] at HS
 have HNIL:=hid hnil
 clear hnil hn
 have hwz:=qn p.pend (qs b)
 generalize qs b=bb at *
 have hsum:p.pend.size+bb.size≤9223372036854775807:=by omega
 clear h hT hbox hcv hF hw2
 go_enter Tryz.func145,Tryz.ntmps145
 go_wp2
 go_region
 go_wp2_with (first | (go_at_call 109;refine HF.out.mono ?_;rintro e w1 ⟨rfl,hb1⟩;have hb2:=HW.out.trans (hb1.mono HW.out.size);have bx1:=HB.out.below hb2 hR;have d5:w1.cell? ⟨R,5,none⟩=some (.string p.pend):=bx1.cell 5;have g5:=bx1.free 5;have HX:=hid (HS.out _ hb2);have HP:=hid (qin HX.out.1 HN.out r);clear bx1) | (go_at_call 189;refine HP.out.mono ?_;rintro e w3 ⟨rfl,h3,h4⟩;have H3:=hid h3;clear h3))
 go_end0
 rw[HNIL.out]
 exact⟨rfl,H3.out,HX.out.2.trans h4⟩
theorem pend_left {B R : Nat} {W : World} {p : Pa} {l : List Dn} (h : Rd B R W p l) (hT : TabB B W) (hn : l.length ≤ 500000) (b : Int) (hz : p.pend.size ≤ 3) (he : (qi (p.pend ++ qs b)).e = 0) (hr : (qi (p.pend ++ qs b)).r < 160) :
  Calls Tryz.prog 145 #[.pointer (some ⟨R,0,none⟩),.int .u8 b] W (qae B R W { p with pend:=nilB } l):=by
 have hR:=h.lt
 have hB:=h.base
 have hcv:=qgs W b
 have hc1:=hcv _ (.inl rfl)
 have hc2:=hcv _ (.inr rfl)
 have hw2:Below W.heap.size W (W.alloc (.cells #[.int .u8 b] 5)).drew:=(qa W _).drew
 have hz1:(qs b).size=1:=rfl
 have hF:=qdd (p.pend ++ qs b) (W.alloc (.cells #[.int .u8 b] 5)).drew (by rw[qn,hz1];unfold maxLen;omega) (hT.below (hw2.mono hB)).1
 obtain⟨g,hg⟩:∃ g,qi (p.pend ++ qs b)=g:=⟨_,rfl⟩
 rw[hg] at hF he hr
 obtain⟨r,n,e⟩:=g
 simp only at he hr
 subst he
 clear hg
 unfold Got.val at hF
 simp only at hF
 obtain⟨A,c,dA,m,dc,hbox,_⟩:=h.cells
 have c5:W.cell? ⟨R,5,none⟩=some (.string p.pend):=hbox.cell 5
 have f5:=hbox.free 5
 have HB:=hid hbox
 have HF:=hid hF
 have HW:=hid hw2
 have HN:=hid hn
 have HS:=hid (fun w1 (hb1:Below W.heap.size W w1)=>qh2 h hb1 nilB)
 have hnil:nilB=⟨#[]⟩:=rfl
 rw[hnil] at HS
 have HNIL:=hid hnil
 clear hnil hn
 have hwz:=qn p.pend (qs b)
 generalize qs b=bb at *
 have hsum:p.pend.size+bb.size≤9223372036854775807:=by omega
 clear h hT hbox hcv hF hw2
 go_enter Tryz.func145,Tryz.ntmps145
 go_wp2
 go_region
 go_wp2_with (go_at_call 109;refine HF.out.mono ?_;rintro e w1 ⟨rfl,hb1⟩;have hb2:=HW.out.trans (hb1.mono HW.out.size);have bx1:=HB.out.below hb2 hR;have d5:w1.cell? ⟨R,5,none⟩=some (.string p.pend):=bx1.cell 5;have g5:=bx1.free 5;have HX:=hid (HS.out _ hb2);clear bx1)
 go_end0
 rw[HNIL.out]
 exact⟨rfl,HX.out⟩
theorem pend_all {B R : Nat} {W : World} {p : Pa} {l : List Dn} (h : Rd B R W p l) (hT : TabB B W) (hn : l.length ≤ 500000) (b : Int) (hz : p.pend.size ≤ 3) (he : qi (p.pend ++ qs b) = ⟨0, ((p.pend ++ qs b).size : Int), 4⟩) :
  Calls Tryz.prog 145 #[.pointer (some ⟨R,0,none⟩),.int .u8 b] W (qae B R W { p with pend:=nilB } (l ++ [qb8 65533])):=by
 have hR:=h.lt
 have hB:=h.base
 have hcv:=qgs W b
 have hc1:=hcv _ (.inl rfl)
 have hc2:=hcv _ (.inr rfl)
 have hw2:Below W.heap.size W (W.alloc (.cells #[.int .u8 b] 5)).drew:=(qa W _).drew
 have hz1:(qs b).size=1:=rfl
 have hF:=qdd (p.pend ++ qs b) (W.alloc (.cells #[.int .u8 b] 5)).drew (by rw[qn,hz1];unfold maxLen;omega) (hT.below (hw2.mono hB)).1
 obtain⟨g,hg⟩:∃ g,qi (p.pend ++ qs b)=g:=⟨_,rfl⟩
 rw[he] at hg
 subst hg
 rw[he] at hF
 unfold Got.val at hF
 simp only at hF
 obtain⟨A,c,dA,m,dc,hbox,_⟩:=h.cells
 have c5:W.cell? ⟨R,5,none⟩=some (.string p.pend):=hbox.cell 5
 have f5:=hbox.free 5
 have HB:=hid hbox
 have HF:=hid hF
 have HW:=hid hw2
 have HN:=hid hn
 have HS:=hid (fun w1 (hb1:Below W.heap.size W w1)=>qh2 h hb1 nilB)
 have hnil:nilB=⟨#[]⟩:=rfl
 rw[hnil] at HS
 have HNIL:=hid hnil
 clear hnil hn
 have hwz:=qn p.pend (qs b)
 clear he
 generalize qs b=bb at *
 obtain⟨s,hs⟩:∃ s,p.pend ++ bb=s:=⟨_,rfl⟩
 rw[hs] at HF
 have hsum:p.pend.size+bb.size≤9223372036854775807:=by omega
 clear h hT hbox hcv hF hw2
 go_enter Tryz.func145,Tryz.ntmps145
 go_wp2
 go_region
 have hcv0:=fun W=>Lib.run_convert_string_bytes (P:=Tryz.prog) W 9 95 5 ByteArray.empty Tryz.underlying9 Tryz.underlying95 Tryz.underlying5
 have hes:ByteArray.empty.size=0:=rfl
 rw[hes] at hcv0
 clear hes
 go_wp2_with (first | (go_at_call 109;refine HF.out.mono ?_;rintro e w1 ⟨rfl,hb1⟩;have hb2:=HW.out.trans (hb1.mono HW.out.size);have bx1:=HB.out.below hb2 hR;have d5:w1.cell? ⟨R,5,none⟩=some (.string p.pend):=bx1.cell 5;have g5:=bx1.free 5;have HX:=hid (HS.out _ hb2);have HP:=hid (qin HX.out.1 HN.out 65533);clear bx1) | (go_at_call 189;refine HP.out.mono ?_;rintro e w3 ⟨rfl,h3,h4⟩;skip))
 have hB3:=h3.base
 have hb5:=qjp (W:=w3) 5 ByteArray.empty (Nat.le_refl _)
 have h5:=h3.below hb5
 have H5:=hid h5
 have hb6:=(HX.out.2.trans h4).trans (hb5.mono hB3)
 clear h3 h5 hb5 hcv0
 generalize Lib.bytesWorld w3 5 ByteArray.empty=w5 at *
 go_loopw [50] (fun i wr=>i=.int .i64 0∧wr=w5) (fun _ _=>0)
 case atStart=>exact⟨rfl,rfl⟩
 case round =>
  obtain⟨rfl,rfl⟩:=hrel
  go_wp2
  go_end0
  rw[HNIL.out]
  exact⟨rfl,H5.out,hb6⟩
theorem pend_more {B R : Nat} {W : World} {p : Pa} {l : List Dn} (h : Rd B R W p l) (hT : TabB B W) (hn : l.length ≤ 500000) (b : Int) (hz : p.pend.size ≤ 3) (he : qi (p.pend ++ qs b) = ⟨0, (p.pend.size : Int), 4⟩) {q : Pa} {l2 : List Dn} (hb : 0 ≤ b ∧ b ≤ 255) (ht : ∀ W1, Rd B R W1 { p with pend := nilB } (l ++ [qb8 65533]) → TabB B W1 → Calls Tryz.prog 76 #[.pointer (some ⟨R, 0, none⟩), .int .u8 b] W1 (qae B R W1 q l2)) :
  Calls Tryz.prog 145 #[.pointer (some ⟨R,0,none⟩),.int .u8 b] W (qae B R W q l2):=by
 have hR:=h.lt
 have hB:=h.base
 have hcv:=qgs W b
 have hc1:=hcv _ (.inl rfl)
 have hc2:=hcv _ (.inr rfl)
 have hw2:Below W.heap.size W (W.alloc (.cells #[.int .u8 b] 5)).drew:=(qa W _).drew
 have hz1:(qs b).size=1:=rfl
 have hF:=qdd (p.pend ++ qs b) (W.alloc (.cells #[.int .u8 b] 5)).drew (by rw[qn,hz1];unfold maxLen;omega) (hT.below (hw2.mono hB)).1
 obtain⟨g,hg⟩:∃ g,qi (p.pend ++ qs b)=g:=⟨_,rfl⟩
 rw[he] at hg
 subst hg
 rw[he] at hF
 have HT:=hid ht
 have HTB:=hid hT
 clear ht
 unfold Got.val at hF
 simp only at hF
 obtain⟨A,c,dA,m,dc,hbox,_⟩:=h.cells
 have c5:W.cell? ⟨R,5,none⟩=some (.string p.pend):=hbox.cell 5
 have f5:=hbox.free 5
 have HB:=hid hbox
 have HF:=hid hF
 have HW:=hid hw2
 have HN:=hid hn
 have HS:=hid (fun w1 (hb1:Below W.heap.size W w1)=>qh2 h hb1 nilB)
 have hnil:nilB=⟨#[]⟩:=rfl
 rw[hnil] at HS
 have HNIL:=hid hnil
 clear hnil hn
 have hwz:=qn p.pend (qs b)
 clear he
 have hbat:=qjs hb
 generalize qs b=bb at *
 obtain⟨k,hk⟩:∃ k,p.pend.size=k:=⟨_,rfl⟩
 obtain⟨s,hs⟩:∃ s,p.pend ++ bb=s:=⟨_,rfl⟩
 have hks:k≤s.size:=by rw[← hs];omega
 have hex:s.extract k s.size=bb:=by
  rw[← hs,← hk]
  apply qdx
  ·rw[ql,qn];omega
  ·intro i hi
   rw[ql,qn] at hi
   rw[qa9 _ _ _ _ (by rw[qn];omega),qd3 _ _ _ (by omega)]
 have hcv1:=fun W=>Lib.run_convert_string_bytes (P:=Tryz.prog) W 9 95 5 (s.extract k s.size) Tryz.underlying9 Tryz.underlying95 Tryz.underlying5
 have hez:(s.extract k s.size).size=1:=by rw[hex];exact hz1
 rw[hez] at hcv1
 have HCELL:=hid (fun W=>Lib.bytesWorld_cell W 5 (s.extract k s.size) 0 (by omega))
 have hd:((s.extract k s.size).data.toList.getD 0 0).toNat=b:=by
  rw[hex]
  have h0:0 < bb.size:=by omega
  rw[← qbh h0] at hbat
  have h1:bb.data.toList.getD 0 0=bb[0]:=by
   rw[List.getD_eq_getElem?_getD,Array.getElem?_toList]
   have:bb.data[0]?=some bb[0]:=Array.getElem?_eq_getElem h0
   rw[this]
   rfl
  rw[h1]
  exact hbat
 rw[hd] at HCELL
 rw[hs,hk] at HF
 have hkI:(k:Int)≤s.size:=by omega
 have hpz:p.pend.size≤3:=hz
 clear hd hex hez hbat hk
 have hsum:p.pend.size+bb.size≤9223372036854775807:=by omega
 clear h hT hbox hcv hF hw2
 go_enter Tryz.func145,Tryz.ntmps145
 go_wp2
 go_region
 go_wp2_with (first | (go_at_call 109;refine HF.out.mono ?_;rintro e w1 ⟨rfl,hb1⟩;have hb2:=HW.out.trans (hb1.mono HW.out.size);have bx1:=HB.out.below hb2 hR;have d5:w1.cell? ⟨R,5,none⟩=some (.string p.pend):=bx1.cell 5;have g5:=bx1.free 5;have HX:=hid (HS.out _ hb2);have HP:=hid (qin HX.out.1 HN.out 65533);clear bx1) | (go_at_call 189;refine HP.out.mono ?_;rintro e w3 ⟨rfl,h3,h4⟩;skip))
 have hB3:=h3.base
 have hb5:=qjp (W:=w3) 5 (s.extract k s.size) (Nat.le_refl _)
 have h5:=h3.below hb5
 have HC:=HCELL.out w3
 have HRD:=hid h5
 have HBE:=hid ((HX.out.2.trans h4).trans (hb5.mono hB3))
 have hsz5:w3.heap.size < (Lib.bytesWorld w3 5 (s.extract k s.size)).heap.size:=by rw[Lib.bytesWorld_size];omega
 clear h3 h5 hb5
 generalize Lib.bytesWorld w3 5 (s.extract k s.size)=w5 at *
 go_loopw [50] (fun i wr=>(i=.int .i64 0∧wr=w5)∨(i=.int .i64 1∧Rd B R wr q l2∧Below B W wr)) (fun i _=>1 - (intOf i).toNat)
 case atStart=>exact .inl ⟨rfl,rfl⟩
 case round =>
  rcases hrel with ⟨rfl,rfl⟩ | ⟨rfl,hr,hbr⟩
  ·have HT1:=hid (HT.out _ HRD.out (HTB.out.below HBE.out))
   clear hcv1
   go_wp2_with (go_at_call 76;refine HT1.out.mono ?_;rintro e w6 ⟨rfl,h6,h7⟩)
   go_roundw
   case rel=>exact .inr ⟨rfl,h6,HBE.out.trans h7⟩
   case measure=>simp[intOf]
  ·have HR:=hid hr
   clear hr hcv1
   go_wp2
   go_end0
   exact⟨rfl,HR.out,hbr⟩
set_option maxHeartbeats 2000000
set_option maxRecDepth 100000
theorem byte_first {b:Int} (h:128≤b∧b≤255):(qi (qs b)).e=2∨qi (qs b)=⟨0,1,4⟩:=by
 have hat:=qjs (c:=b) (by omega)
 have hz:=qfp b
 rcases qbt (qs b) with ⟨r,hr,e,hs,hb⟩ | ⟨e,_⟩ | ⟨n,e,h1,_,h3⟩
 ·have h4:=qcf r
  have h5:=hb 0 (by omega)
  by_cases hlt:r < 128
  ·have:=(qg4 hlt).2
   omega
  ·have:2≤sizeOf r:=by unfold sizeOf;rw[if_neg hlt];split <;> (try split) <;> omega
   omega
 ·exact .inl (by rw[e])
 ·obtain rfl:n=1:=by omega
  exact .inr e
theorem pend_with {p:Pa} {x:ByteArray} (h:p.pend.size=0):p.pend ++ x=x:=by
 rw[qaj h]
 exact qle x
theorem ground_any {B R : Nat} {W : World} {p : Pa} {l : List Dn} (h : Rd B R W p l) (hT : TabB B W) (hn : l.length ≤ 500000) (hs : p.st = 0) (hp : p.pend.size = 0) (b : Int) (hb : 0 ≤ b ∧ b ≤ 255) :
  Calls Tryz.prog 136 #[.pointer (some ⟨R,0,none⟩),.int .u8 b] W (qae B R W (qj p b).1 (l ++ (qj p b).2)):=by
 obtain⟨b0,b1⟩:=hb
 have hc:(b < 32)∨(32≤b∧b < 127)∨(b=127)∨(128≤b):=by omega
 rcases hc with hlt | ⟨g1,g2⟩ | rfl | g1
 ·refine qc0 (q:=p) (d:=[qeg b]) (by unfold qj;repeat (first | rw[if_pos (by omega)] | rw[if_neg (by omega)])) ?_
  have HX:=hid (qev h hn b ⟨b0,b1⟩)
  clear h hn
  go_enter Tryz.func136,Tryz.ntmps136
  go_wp2_with (go_at_call 146;refine HX.out.mono ?_;rintro e w1 ⟨rfl,h1,h2⟩;have H1:=hid h1;clear h1)
  go_end0
  exact⟨rfl,H1.out,h2⟩
 ·refine qc0 (q:=p) (d:=[qb8 b]) (by unfold qj;repeat (first | rw[if_pos (by omega)] | rw[if_neg (by omega)])) ?_
  have HX:=hid (qin h hn b)
  clear h hn
  go_enter Tryz.func136,Tryz.ntmps136
  go_wp2_with (go_at_call 189;refine HX.out.mono ?_;rintro e w1 ⟨rfl,h1,h2⟩;have H1:=hid h1;clear h1)
  go_end0
  exact⟨rfl,H1.out,h2⟩
 ·refine qv (q:=p) (by unfold qj;repeat (first | rw[if_pos (by omega)] | rw[if_neg (by omega)])) ?_
  have HX:=hid h
  clear h hn
  go_enter Tryz.func136,Tryz.ntmps136
  go_wp2
  go_end0
  exact⟨rfl,HX.out,Below.refl _ _⟩
 ·have hS:qj p b=qh4 p b:=by unfold qj;repeat (first | rw[if_pos (by omega)] | rw[if_neg (by omega)])
  have hpw:=pend_with (x:=qs b) hp
  rcases byte_first ⟨g1,b1⟩ with he | he
  ·refine qv (q:={ p with pend:=qs b }) (by rw[hS];unfold qh4;rw[if_pos he]) ?_
   have hx:=qmb h hT b (by omega) (by rw[hpw];exact he)
   rw[hpw] at hx
   have HX:=hid hx
   clear h hn hx hpw hS he
   go_enter Tryz.func136,Tryz.ntmps136
   go_wp2_with (go_at_call 145;refine HX.out.mono ?_;rintro e w1 ⟨rfl,h1,h2⟩;have H1:=hid h1;clear h1)
   go_end0
   exact⟨rfl,H1.out,h2⟩
  ·refine qc0 (q:=p) (d:=[qb8 65533]) (by rw[hS];unfold qh4;rw[if_neg (by rw[he];show ¬ (4:Int)=2;decide)]) ?_
   have hx:=pend_all h hT hn b (by omega) (by rw[hpw];exact he)
   rw[same_pend hp] at hx
   have HX:=hid hx
   clear h hn hx hpw hS he
   go_enter Tryz.func136,Tryz.ntmps136
   go_wp2_with (go_at_call 145;refine HX.out.mono ?_;rintro e w1 ⟨rfl,h1,h2⟩;have H1:=hid h1;clear h1)
   go_end0
   exact⟨rfl,H1.out,h2⟩
theorem qbw {p:Pa} (h:qan p):(0≤p.st∧p.st≤8)∧((∀ n∈p.params,0≤n∧n≤9999)∧p.params.length≤16)∧p.osc.size≤64:=by
 have hb:=qfa h
 refine⟨?_,⟨?_,hb.1⟩,hb.2.1⟩
 ·rcases h with h | h | h | h | h | h <;> (have:=h.1;omega)
 ·have hnil:p.params=[]→∀ n∈p.params,0≤n∧n≤9999:=fun e n hn=>by rw[e] at hn;cases hn
  rcases h with h | h | h | h | h | h
  ·exact hnil h.2.2.1
  ·exact hnil h.2.2.1
  ·exact hnil h.2.2.1
  ·exact h.2.1.1
  ·exact h.2.1.1
  ·exact hnil h.2.2.1
theorem take_ground {B R : Nat} {W : World} {p : Pa} {l : List Dn} (h : Rd B R W p l) (hT : TabB B W) (hn : l.length ≤ 500000) (hr : qan p) (hs : p.st = 0) (hp : p.pend.size = 0) (b : Int) (hb : 0 ≤ b ∧ b ≤ 255) (q24 : (b == 24) = false) (q26 : (b == 26) = false) (q27 : (b == 27) = false) :
  Calls Tryz.prog 76 #[.pointer (some ⟨R,0,none⟩),.int .u8 b] W (qae B R W (qj p b).1 (l ++ (qj p b).2)):=by
 obtain⟨b0,b1⟩:=hb
 obtain⟨_,k3,k6⟩:=qbw hr
 have hB:=h.base
 have hd:Rd B R W.drew p l:=h.below (Below.refl _ _).drew
 have hTd:TabB B W.drew:=hT.below (Below.refl _ _).drew
 have hx:=ground_any hd hTd hn hs hp b ⟨b0,b1⟩
 have hlo:=h.lt
 obtain⟨A,c,dA,m,dc,hbox,_⟩:=h.cells
 have c0:W.cell? ⟨R,0,none⟩=some (.int .i64 p.st):=hbox.cell 0
 have c5:W.cell? ⟨R,5,none⟩=some (.string p.pend):=hbox.cell 5
 have cs:W.cell? ⟨R,7,none⟩=some (.func (.func 136) #[.pointer (some ⟨R,0,none⟩)] #[]):=hbox.cell 7
 rw[hs] at c0
 rw[qaj hp] at c5
 have HX:=hid hx
 clear h hT hn hr hs hp hd hTd hx hbox k3 k6
 generalize qj p b=q at *
 go_enter Tryz.func76,Tryz.ntmps76
 go_wp2
 go_still_tail 11,(by kernel_rfl)
 change wpList _ _ _ _ _ W.drew
 go_wp2_with (go_at_call 136;refine HX.out.mono ?_;rintro e w1 ⟨rfl,h1,h2⟩;have H1:=hid h1;clear h1)
 go_end0
 exact⟨rfl,H1.out,(Below.refl B W).drew.trans h2⟩
theorem take_escaped {B R : Nat} {W : World} {p : Pa} {l : List Dn} (h : Rd B R W p l) (hT : TabB B W) (hn : l.length ≤ 500000) (hr : qan p) (hs : p.st = 1) (hp : p.pend.size = 0) (b : Int) (hb : 0 ≤ b ∧ b ≤ 255) (q24 : (b == 24) = false) (q26 : (b == 26) = false) (q27 : (b == 27) = false) :
  Calls Tryz.prog 76 #[.pointer (some ⟨R,0,none⟩),.int .u8 b] W (qae B R W (qj p b).1 (l ++ (qj p b).2)):=by
 obtain⟨b0,b1⟩:=hb
 obtain⟨_,k3,k6⟩:=qbw hr
 have hB:=h.base
 have hd:Rd B R W.drew p l:=h.below (Below.refl _ _).drew
 have hTd:TabB B W.drew:=hT.below (Below.refl _ _).drew
 have hx:=escaped_any hd hn hs b ⟨b0,b1⟩
 have hlo:=h.lt
 obtain⟨A,c,dA,m,dc,hbox,_⟩:=h.cells
 have c0:W.cell? ⟨R,0,none⟩=some (.int .i64 p.st):=hbox.cell 0
 have c5:W.cell? ⟨R,5,none⟩=some (.string p.pend):=hbox.cell 5
 have cs:W.cell? ⟨R,8,none⟩=some (.func (.func 137) #[.pointer (some ⟨R,0,none⟩)] #[]):=hbox.cell 8
 rw[hs] at c0
 rw[qaj hp] at c5
 have HX:=hid hx
 clear h hT hn hr hs hp hd hTd hx hbox k3 k6
 generalize qj p b=q at *
 go_enter Tryz.func76,Tryz.ntmps76
 go_wp2
 go_still_tail 11,(by kernel_rfl)
 change wpList _ _ _ _ _ W.drew
 go_wp2_with (go_at_call 137;refine HX.out.mono ?_;rintro e w1 ⟨rfl,h1,h2⟩;have H1:=hid h1;clear h1)
 go_end0
 exact⟨rfl,H1.out,(Below.refl B W).drew.trans h2⟩
theorem take_inter {B R : Nat} {W : World} {p : Pa} {l : List Dn} (h : Rd B R W p l) (hT : TabB B W) (hn : l.length ≤ 500000) (hr : qan p) (hs : p.st = 2) (hp : p.pend.size = 0) (b : Int) (hb : 0 ≤ b ∧ b ≤ 255) (q24 : (b == 24) = false) (q26 : (b == 26) = false) (q27 : (b == 27) = false) :
  Calls Tryz.prog 76 #[.pointer (some ⟨R,0,none⟩),.int .u8 b] W (qae B R W (qj p b).1 (l ++ (qj p b).2)):=by
 obtain⟨b0,b1⟩:=hb
 obtain⟨_,k3,k6⟩:=qbw hr
 have hB:=h.base
 have hd:Rd B R W.drew p l:=h.below (Below.refl _ _).drew
 have hTd:TabB B W.drew:=hT.below (Below.refl _ _).drew
 have hx:=inter_any hd hn hs b ⟨b0,b1⟩
 have hlo:=h.lt
 obtain⟨A,c,dA,m,dc,hbox,_⟩:=h.cells
 have c0:W.cell? ⟨R,0,none⟩=some (.int .i64 p.st):=hbox.cell 0
 have c5:W.cell? ⟨R,5,none⟩=some (.string p.pend):=hbox.cell 5
 have cs:W.cell? ⟨R,9,none⟩=some (.func (.func 138) #[.pointer (some ⟨R,0,none⟩)] #[]):=hbox.cell 9
 rw[hs] at c0
 rw[qaj hp] at c5
 have HX:=hid hx
 clear h hT hn hr hs hp hd hTd hx hbox k3 k6
 generalize qj p b=q at *
 go_enter Tryz.func76,Tryz.ntmps76
 go_wp2
 go_still_tail 11,(by kernel_rfl)
 change wpList _ _ _ _ _ W.drew
 go_wp2_with (go_at_call 138;refine HX.out.mono ?_;rintro e w1 ⟨rfl,h1,h2⟩;have H1:=hid h1;clear h1)
 go_end0
 exact⟨rfl,H1.out,(Below.refl B W).drew.trans h2⟩
theorem take_csi {B R : Nat} {W : World} {p : Pa} {l : List Dn} (h : Rd B R W p l) (hT : TabB B W) (hn : l.length ≤ 500000) (hr : qan p) (hs : p.st = 3) (hp : p.pend.size = 0) (b : Int) (hb : 0 ≤ b ∧ b ≤ 255) (q24 : (b == 24) = false) (q26 : (b == 26) = false) (q27 : (b == 27) = false) :
  Calls Tryz.prog 76 #[.pointer (some ⟨R,0,none⟩),.int .u8 b] W (qae B R W (qj p b).1 (l ++ (qj p b).2)):=by
 obtain⟨b0,b1⟩:=hb
 obtain⟨_,k3,k6⟩:=qbw hr
 have hB:=h.base
 have hd:Rd B R W.drew p l:=h.below (Below.refl _ _).drew
 have hTd:TabB B W.drew:=hT.below (Below.refl _ _).drew
 have hx:=csi_any hd hn hs k3.1 k3.2 b ⟨b0,b1⟩
 have hlo:=h.lt
 obtain⟨A,c,dA,m,dc,hbox,_⟩:=h.cells
 have c0:W.cell? ⟨R,0,none⟩=some (.int .i64 p.st):=hbox.cell 0
 have c5:W.cell? ⟨R,5,none⟩=some (.string p.pend):=hbox.cell 5
 have cs:W.cell? ⟨R,10,none⟩=some (.func (.func 139) #[.pointer (some ⟨R,0,none⟩)] #[]):=hbox.cell 10
 rw[hs] at c0
 rw[qaj hp] at c5
 have HX:=hid hx
 clear h hT hn hr hs hp hd hTd hx hbox k3 k6
 generalize qj p b=q at *
 go_enter Tryz.func76,Tryz.ntmps76
 go_wp2
 go_still_tail 11,(by kernel_rfl)
 change wpList _ _ _ _ _ W.drew
 go_wp2_with (go_at_call 139;refine HX.out.mono ?_;rintro e w1 ⟨rfl,h1,h2⟩;have H1:=hid h1;clear h1)
 go_end0
 exact⟨rfl,H1.out,(Below.refl B W).drew.trans h2⟩
theorem take_behind {B R : Nat} {W : World} {p : Pa} {l : List Dn} (h : Rd B R W p l) (hT : TabB B W) (hn : l.length ≤ 500000) (hr : qan p) (hs : p.st = 4) (hp : p.pend.size = 0) (b : Int) (hb : 0 ≤ b ∧ b ≤ 255) (q24 : (b == 24) = false) (q26 : (b == 26) = false) (q27 : (b == 27) = false) :
  Calls Tryz.prog 76 #[.pointer (some ⟨R,0,none⟩),.int .u8 b] W (qae B R W (qj p b).1 (l ++ (qj p b).2)):=by
 obtain⟨b0,b1⟩:=hb
 obtain⟨_,k3,k6⟩:=qbw hr
 have hB:=h.base
 have hd:Rd B R W.drew p l:=h.below (Below.refl _ _).drew
 have hTd:TabB B W.drew:=hT.below (Below.refl _ _).drew
 have hx:=behind_any hd hn hs k3.2 b ⟨b0,b1⟩
 have hlo:=h.lt
 obtain⟨A,c,dA,m,dc,hbox,_⟩:=h.cells
 have c0:W.cell? ⟨R,0,none⟩=some (.int .i64 p.st):=hbox.cell 0
 have c5:W.cell? ⟨R,5,none⟩=some (.string p.pend):=hbox.cell 5
 have cs:W.cell? ⟨R,11,none⟩=some (.func (.func 140) #[.pointer (some ⟨R,0,none⟩)] #[]):=hbox.cell 11
 rw[hs] at c0
 rw[qaj hp] at c5
 have HX:=hid hx
 clear h hT hn hr hs hp hd hTd hx hbox k3 k6
 generalize qj p b=q at *
 go_enter Tryz.func76,Tryz.ntmps76
 go_wp2
 go_still_tail 11,(by kernel_rfl)
 change wpList _ _ _ _ _ W.drew
 go_wp2_with (go_at_call 140;refine HX.out.mono ?_;rintro e w1 ⟨rfl,h1,h2⟩;have H1:=hid h1;clear h1)
 go_end0
 exact⟨rfl,H1.out,(Below.refl B W).drew.trans h2⟩
theorem take_skip {B R : Nat} {W : World} {p : Pa} {l : List Dn} (h : Rd B R W p l) (hT : TabB B W) (hn : l.length ≤ 500000) (hr : qan p) (hs : p.st = 5) (hp : p.pend.size = 0) (b : Int) (hb : 0 ≤ b ∧ b ≤ 255) (q24 : (b == 24) = false) (q26 : (b == 26) = false) (q27 : (b == 27) = false) :
  Calls Tryz.prog 76 #[.pointer (some ⟨R,0,none⟩),.int .u8 b] W (qae B R W (qj p b).1 (l ++ (qj p b).2)):=by
 obtain⟨b0,b1⟩:=hb
 obtain⟨_,k3,k6⟩:=qbw hr
 have hB:=h.base
 have hd:Rd B R W.drew p l:=h.below (Below.refl _ _).drew
 have hTd:TabB B W.drew:=hT.below (Below.refl _ _).drew
 have hx:=skip_any hd hn hs b ⟨b0,b1⟩
 have hlo:=h.lt
 obtain⟨A,c,dA,m,dc,hbox,_⟩:=h.cells
 have c0:W.cell? ⟨R,0,none⟩=some (.int .i64 p.st):=hbox.cell 0
 have c5:W.cell? ⟨R,5,none⟩=some (.string p.pend):=hbox.cell 5
 have cs:W.cell? ⟨R,12,none⟩=some (.func (.func 141) #[.pointer (some ⟨R,0,none⟩)] #[]):=hbox.cell 12
 rw[hs] at c0
 rw[qaj hp] at c5
 have HX:=hid hx
 clear h hT hn hr hs hp hd hTd hx hbox k3 k6
 generalize qj p b=q at *
 go_enter Tryz.func76,Tryz.ntmps76
 go_wp2
 go_still_tail 11,(by kernel_rfl)
 change wpList _ _ _ _ _ W.drew
 go_wp2_with (go_at_call 141;refine HX.out.mono ?_;rintro e w1 ⟨rfl,h1,h2⟩;have H1:=hid h1;clear h1)
 go_end0
 exact⟨rfl,H1.out,(Below.refl B W).drew.trans h2⟩
theorem take_osc {B R : Nat} {W : World} {p : Pa} {l : List Dn} (h : Rd B R W p l) (hT : TabB B W) (hn : l.length ≤ 500000) (hr : qan p) (hs : p.st = 6) (hp : p.pend.size = 0) (b : Int) (hb : 0 ≤ b ∧ b ≤ 255) (q24 : (b == 24) = false) (q26 : (b == 26) = false) (q27 : (b == 27) = false) :
  Calls Tryz.prog 76 #[.pointer (some ⟨R,0,none⟩),.int .u8 b] W (qae B R W (qj p b).1 (l ++ (qj p b).2)):=by
 obtain⟨b0,b1⟩:=hb
 obtain⟨_,k3,k6⟩:=qbw hr
 have hB:=h.base
 have hd:Rd B R W.drew p l:=h.below (Below.refl _ _).drew
 have hTd:TabB B W.drew:=hT.below (Below.refl _ _).drew
 have hx:=osc_any hd hn hs k6 b ⟨b0,b1⟩
 have hlo:=h.lt
 obtain⟨A,c,dA,m,dc,hbox,_⟩:=h.cells
 have c0:W.cell? ⟨R,0,none⟩=some (.int .i64 p.st):=hbox.cell 0
 have c5:W.cell? ⟨R,5,none⟩=some (.string p.pend):=hbox.cell 5
 have cs:W.cell? ⟨R,13,none⟩=some (.func (.func 142) #[.pointer (some ⟨R,0,none⟩)] #[]):=hbox.cell 13
 rw[hs] at c0
 rw[qaj hp] at c5
 have HX:=hid hx
 clear h hT hn hr hs hp hd hTd hx hbox k3 k6
 generalize qj p b=q at *
 go_enter Tryz.func76,Tryz.ntmps76
 go_wp2
 go_still_tail 11,(by kernel_rfl)
 change wpList _ _ _ _ _ W.drew
 go_wp2_with (go_at_call 142;refine HX.out.mono ?_;rintro e w1 ⟨rfl,h1,h2⟩;have H1:=hid h1;clear h1)
 go_end0
 exact⟨rfl,H1.out,(Below.refl B W).drew.trans h2⟩
theorem take_text {B R : Nat} {W : World} {p : Pa} {l : List Dn} (h : Rd B R W p l) (hT : TabB B W) (_ : l.length ≤ 500000) (hr : qan p) (hs : p.st = 7) (hp : p.pend.size = 0) (b : Int) (hb : 0 ≤ b ∧ b ≤ 255) (q24 : (b == 24) = false) (q26 : (b == 26) = false) (q27 : (b == 27) = false) :
  Calls Tryz.prog 76 #[.pointer (some ⟨R,0,none⟩),.int .u8 b] W (qae B R W (qj p b).1 (l ++ (qj p b).2)):=by
 obtain⟨b0,b1⟩:=hb
 obtain⟨_,k3,k6⟩:=qbw hr
 have hB:=h.base
 have hd:Rd B R W.drew p l:=h.below (Below.refl _ _).drew
 have hTd:TabB B W.drew:=hT.below (Below.refl _ _).drew
 have hx:=p_text_any hd hs b
 have hlo:=h.lt
 obtain⟨A,c,dA,m,dc,hbox,_⟩:=h.cells
 have c0:W.cell? ⟨R,0,none⟩=some (.int .i64 p.st):=hbox.cell 0
 have c5:W.cell? ⟨R,5,none⟩=some (.string p.pend):=hbox.cell 5
 have cs:W.cell? ⟨R,14,none⟩=some (.func (.func 143) #[.pointer (some ⟨R,0,none⟩)] #[]):=hbox.cell 14
 rw[hs] at c0
 rw[qaj hp] at c5
 have HX:=hid hx
 clear h hT hr hs hp hd hTd hx hbox k3 k6
 generalize qj p b=q at *
 go_enter Tryz.func76,Tryz.ntmps76
 go_wp2
 go_still_tail 11,(by kernel_rfl)
 change wpList _ _ _ _ _ W.drew
 go_wp2_with (go_at_call 143;refine HX.out.mono ?_;rintro e w1 ⟨rfl,h1,h2⟩;have H1:=hid h1;clear h1)
 go_end0
 exact⟨rfl,H1.out,(Below.refl B W).drew.trans h2⟩
theorem take_drop {B R : Nat} {W : World} {p : Pa} {l : List Dn} (h : Rd B R W p l) (hT : TabB B W) (hn : l.length ≤ 500000) (hr : qan p) (hs : p.st = 8) (hp : p.pend.size = 0) (b : Int) (hb : 0 ≤ b ∧ b ≤ 255) (q24 : (b == 24) = false) (q26 : (b == 26) = false) (q27 : (b == 27) = false) :
  Calls Tryz.prog 76 #[.pointer (some ⟨R,0,none⟩),.int .u8 b] W (qae B R W (qj p b).1 (l ++ (qj p b).2)):=by
 obtain⟨b0,b1⟩:=hb
 obtain⟨_,k3,k6⟩:=qbw hr
 have hB:=h.base
 have hd:Rd B R W.drew p l:=h.below (Below.refl _ _).drew
 have hTd:TabB B W.drew:=hT.below (Below.refl _ _).drew
 have hx:=drop_any hd hn hs b ⟨b0,b1⟩
 have hlo:=h.lt
 obtain⟨A,c,dA,m,dc,hbox,_⟩:=h.cells
 have c0:W.cell? ⟨R,0,none⟩=some (.int .i64 p.st):=hbox.cell 0
 have c5:W.cell? ⟨R,5,none⟩=some (.string p.pend):=hbox.cell 5
 have cs:W.cell? ⟨R,15,none⟩=some (.func (.func 144) #[.pointer (some ⟨R,0,none⟩)] #[]):=hbox.cell 15
 rw[hs] at c0
 rw[qaj hp] at c5
 have HX:=hid hx
 clear h hT hn hr hs hp hd hTd hx hbox k3 k6
 generalize qj p b=q at *
 go_enter Tryz.func76,Tryz.ntmps76
 go_wp2
 go_still_tail 11,(by kernel_rfl)
 change wpList _ _ _ _ _ W.drew
 go_wp2_with (go_at_call 144;refine HX.out.mono ?_;rintro e w1 ⟨rfl,h1,h2⟩;have H1:=hid h1;clear h1)
 go_end0
 exact⟨rfl,H1.out,(Below.refl B W).drew.trans h2⟩
set_option maxHeartbeats 2000000
set_option maxRecDepth 100000
theorem take_state {B R : Nat} {W : World} {p : Pa} {l : List Dn} (h : Rd B R W p l) (hT : TabB B W) (hn : l.length ≤ 500000) (hr : qan p) (hp : p.pend.size = 0) (b : Int) (hb : 0 ≤ b ∧ b ≤ 255) (q24 : (b == 24) = false) (q26 : (b == 26) = false) (q27 : (b == 27) = false) :
  Calls Tryz.prog 76 #[.pointer (some ⟨R,0,none⟩),.int .u8 b] W (qae B R W (qj p b).1 (l ++ (qj p b).2)):=by
 obtain⟨⟨k0,k8⟩,_⟩:=qbw hr
 have hc:p.st=0∨p.st=1∨p.st=2∨p.st=3∨p.st=4∨p.st=5∨p.st=6∨p.st=7∨p.st=8:=by omega
 rcases hc with hs | hs | hs | hs | hs | hs | hs | hs | hs
 ·exact take_ground h hT hn hr hs hp b hb q24 q26 q27
 ·exact take_escaped h hT hn hr hs hp b hb q24 q26 q27
 ·exact take_inter h hT hn hr hs hp b hb q24 q26 q27
 ·exact take_csi h hT hn hr hs hp b hb q24 q26 q27
 ·exact take_behind h hT hn hr hs hp b hb q24 q26 q27
 ·exact take_skip h hT hn hr hs hp b hb q24 q26 q27
 ·exact take_osc h hT hn hr hs hp b hb q24 q26 q27
 ·exact take_text h hT hn hr hs hp b hb q24 q26 q27
 ·exact take_drop h hT hn hr hs hp b hb q24 q26 q27
theorem take_cancel {B R : Nat} {W : World} {p : Pa} {l : List Dn} (h : Rd B R W p l) (hn : l.length ≤ 500000) (hp : p.pend.size = 0) (b : Int) (hb : b = 24 ∨ b = 26) :
  Calls Tryz.prog 76 #[.pointer (some ⟨R,0,none⟩),.int .u8 b] W (qae B R W (.to 0) (l ++ if p.st=6∨p.st=7 then [] else [qeg b])):=by
 have hlo:=h.lt
 obtain⟨A,c,dA,m,dc,hbox,_⟩:=h.cells
 have c0:W.cell? ⟨R,0,none⟩=some (.int .i64 p.st):=hbox.cell 0
 have c5:W.cell? ⟨R,5,none⟩=some (.string p.pend):=hbox.cell 5
 rw[qaj hp] at c5
 have HE0:=hid (qao h 0)
 have hx:=qev h hn b (by omega)
 have HX:=hid hx
 have hs:p.st=6∨p.st=7∨(p.st≠6∧p.st≠7):=by omega
 rcases hs with hs | hs | ⟨h6,h7⟩
 ·rw[if_pos (.inl hs),List.append_nil]
  rw[hs] at c0
  clear hx h hn hs hp hbox
  rcases hb with rfl | rfl
  all_goals
   go_enter Tryz.func76,Tryz.ntmps76
   go_wp2_with (go_at_call 147;refine HE0.out.mono ?_;rintro e w1 ⟨rfl,h1,h2⟩;have H1:=hid h1;clear h1)
   go_end0
   exact⟨rfl,H1.out,h2⟩
 ·rw[if_pos (.inr hs),List.append_nil]
  rw[hs] at c0
  clear hx h hn hs hp hbox
  rcases hb with rfl | rfl
  all_goals
   go_enter Tryz.func76,Tryz.ntmps76
   go_wp2_with (go_at_call 147;refine HE0.out.mono ?_;rintro e w1 ⟨rfl,h1,h2⟩;have H1:=hid h1;clear h1)
   go_end0
   exact⟨rfl,H1.out,h2⟩
 ·rw[if_neg (by omega)]
  have q6:(p.st != 6)=true:=by simp;omega
  have q7:(p.st != 7)=true:=by simp;omega
  clear hx h hn hp hbox
  rcases hb with rfl | rfl
  all_goals
   go_enter Tryz.func76,Tryz.ntmps76
   go_wp2_with (first | (go_at_call 146;refine HX.out.mono ?_;rintro e w1 ⟨rfl,h1,h2⟩;have HE:=hid (qao h1 0);clear h1) | (go_at_call 147;refine HE.out.mono ?_;rintro e w3 ⟨rfl,h3,h4⟩;have H3:=hid h3;clear h3))
   go_end0
   exact⟨rfl,H3.out,h2.trans h4⟩
theorem take_escape {B R : Nat} {W : World} {p : Pa} {l : List Dn} (h : Rd B R W p l) (hn : l.length ≤ 500000) (hp : p.pend.size = 0) :
  Calls Tryz.prog 76 #[.pointer (some ⟨R,0,none⟩),.int .u8 27] W (qae B R W (.to 1) (l ++ if p.st=6 then [dOsc p.osc] else [])):=by
 have hlo:=h.lt
 obtain⟨A,c,dA,m,dc,hbox,_⟩:=h.cells
 have c0:W.cell? ⟨R,0,none⟩=some (.int .i64 p.st):=hbox.cell 0
 have c5:W.cell? ⟨R,5,none⟩=some (.string p.pend):=hbox.cell 5
 rw[qaj hp] at c5
 have HE0:=hid (qao h 1)
 have hx:=qk1 h hn
 have HX:=hid hx
 by_cases hs:p.st=6
 ·rw[if_pos hs]
  rw[hs] at c0
  clear hx h hn hs hp hbox
  go_enter Tryz.func76,Tryz.ntmps76
  go_wp2_with (first | (go_at_call 148;refine HX.out.mono ?_;rintro e w1 ⟨rfl,h1,h2⟩;have HE:=hid (qao h1 1);clear h1) | (go_at_call 147;refine HE.out.mono ?_;rintro e w3 ⟨rfl,h3,h4⟩;have H3:=hid h3;clear h3))
  go_end0
  exact⟨rfl,H3.out,h2.trans h4⟩
 ·rw[if_neg hs,List.append_nil]
  have q6:(p.st == 6)=false:=by simp;omega
  clear hx h hn hs hp hbox
  go_enter Tryz.func76,Tryz.ntmps76
  go_wp2_with (go_at_call 147;refine HE0.out.mono ?_;rintro e w1 ⟨rfl,h1,h2⟩;have H1:=hid h1;clear h1)
  go_end0
  exact⟨rfl,H1.out,h2⟩
theorem qma {B R : Nat} {W : World} {p : Pa} {l : List Dn} (h : Rd B R W p l) (hT : TabB B W) (hn : l.length ≤ 500000) (hr : qan p) (hp : p.pend.size = 0) (b : Int) (hb : 0 ≤ b ∧ b ≤ 255) :
  Calls Tryz.prog 76 #[.pointer (some ⟨R,0,none⟩),.int .u8 b] W (qae B R W (oneP p b).1 (l ++ (oneP p b).2)):=by
 rw[qmc]
 by_cases h1:b=24∨b=26
 ·rw[if_pos h1]
  exact take_cancel h hn hp b h1
 ·rw[if_neg h1]
  by_cases h2:b=27
  ·rw[if_pos h2,h2]
   exact take_escape h hn hp
  ·rw[if_neg h2]
   exact take_state h hT hn hr hp b hb (by simp;omega) (by simp;omega) (by simp;omega)
theorem qg9 {B R : Nat} {W : World} {p q : Pa} {l l2 : List Dn} (h : Rd B R W p l) (hp : p.pend.size ≠ 0) (b : Int) (hx : Calls Tryz.prog 145 #[.pointer (some ⟨R, 0, none⟩), .int .u8 b] W (qae B R W q l2)) :
  Calls Tryz.prog 76 #[.pointer (some ⟨R,0,none⟩),.int .u8 b] W (qae B R W q l2):=by
 have hlo:=h.lt
 obtain⟨A,c,dA,m,dc,hbox,_⟩:=h.cells
 have c5:W.cell? ⟨R,5,none⟩=some (.string p.pend):=hbox.cell 5
 have hne:=qcd hp
 have HX:=hid hx
 generalize p.pend=pe at *
 clear hx h hp hbox
 go_enter Tryz.func76,Tryz.ntmps76
 go_wp2_with (go_at_call 145;refine HX.out.mono ?_;rintro e w1 ⟨rfl,h1,h2⟩;have H1:=hid h1;clear h1)
 go_end0
 exact⟨rfl,H1.out,h2⟩
theorem p_take_any {B R : Nat} {W : World} {p : Pa} {l : List Dn} (h : Rd B R W p l) (hT : TabB B W) (hn : l.length ≤ 400000) (hr : qan p) (b : Int) (hb : 0 ≤ b ∧ b ≤ 255) :
  Calls Tryz.prog 76 #[.pointer (some ⟨R,0,none⟩),.int .u8 b] W (qae B R W (qc6 p b).1 (l ++ (qc6 p b).2)):=by
 unfold qc6
 by_cases hp:p.pend.size=0
 ·rw[if_pos hp]
  exact qma h hT (by omega) hr hp b hb
 ·rw[if_neg hp]
  have hg:=qk2 hr hp
  have hz:=(qfa hr).2.2
  have hz0:qan { p with pend:=nilB }:=.inl ⟨hg.1,hg.2.1,hg.2.2.1,hg.2.2.2.1,hg.2.2.2.2.1,qkk⟩
  have hhigh:128≤qb (p.pend ++ qs b) 0:=by rw[qam _ _ _ (by omega)];exact short_high hp hg.2.2.2.2.2
  by_cases h2:(qi (p.pend ++ qs b)).e=2
  ·rw[if_pos h2]
   exact qg9 h hp b (qv rfl (qmb h hT b hz h2))
  ·rw[if_neg h2]
   by_cases h0:(qi (p.pend ++ qs b)).e=0
   ·rw[if_pos h0]
    have hr128:=first_high hhigh h0
    by_cases hr1:160≤(qi (p.pend ++ qs b)).r
    ·rw[if_pos (by omega)]
     exact qg9 h hp b (pend_print h hT (by omega) b hz h0 hr1)
    ·rw[if_neg (by omega)]
     exact qg9 h hp b (qv rfl (pend_left h hT (by omega) b hz h0 (by omega)))
   ·rw[if_neg h0]
    have h4:(qi (p.pend ++ qs b)).e=4:=by
     rcases qbt (p.pend ++ qs b) with ⟨r,_,e,_⟩ | ⟨e,_⟩ | ⟨n,e,_⟩
     ·rw[e] at h0;exact absurd rfl h0
     ·rw[e] at h2;exact absurd rfl h2
     ·rw[e]
    have hsp:=short_spoilt hp hg.2.2.2.2.2 h4
    have hwz:=qn p.pend (qs b)
    rw[qfp] at hwz
    rw[if_pos (by rw[hsp];show (p.pend.size:Int).toNat < _;omega)]
    refine qg9 h hp b (pend_more h hT (by omega) b hz hsp hb (fun W1 h1 hT1=>?_))
    have:=qma h1 hT1 (by rw[List.length_append,List.length_singleton];omega) hz0 rfl b hb
    rwa [List.append_assoc] at this
set_option maxHeartbeats 2000000
set_option maxRecDepth 100000
def betB (n:Int):Bool:=decide (32≤n∧n≤47)
def qgr (n:Int):Bool:=decide (n=0∨(60≤n∧n≤63))
def qef (l:List Int):Bool:=decide ((∀ n∈l,0≤n∧n≤9999)∧l.length≤16)
def qca (p:Pa):Bool:=decide (p.priv=0∧p.params=[]∧p.inter=0∧p.osc.size=0∧p.pend.size=0)
theorem qkz (n:Int) (w:World):Calls Tryz.prog 110 #[.int .i64 n] w fun e w'=>e=.returned (.bool (betB n))∧w=w':=by
 have hc:n < 32∨(32≤n∧n < 48)∨48≤n:=by omega
 rcases hc with h | ⟨h1,h2⟩ | h
 all_goals
  go_enter Tryz.func110,Tryz.ntmps110
  go_wp2
  go_ret
  exact⟨qe (by unfold betB;symm;first | (rw[decide_eq_true_eq];omega) | (rw[decide_eq_false_iff_not];omega) | exact decide_eq_decide.2 (by omega)),rfl⟩
theorem qk0 (n:Int) (w:World):Calls Tryz.prog 111 #[.int .i64 n] w fun e w'=>e=.returned (.bool (qgr n))∧w=w':=by
 have hc:n=0∨(n < 60∧n≠0)∨(60≤n∧n < 64)∨64≤n:=by omega
 rcases hc with rfl | ⟨h1,h2⟩ | ⟨h1,h2⟩ | h
 ·go_enter Tryz.func111,Tryz.ntmps111
  go_wp2
  go_ret
  exact⟨qe (by decide),rfl⟩
 all_goals
  have q:(n == 0)=false:=by simp;omega
  go_enter Tryz.func111,Tryz.ntmps111
  go_wp2
  go_ret
  exact⟨qe (by unfold qgr;symm;first | (rw[decide_eq_true_eq];omega) | (rw[decide_eq_false_iff_not];omega) | exact decide_eq_decide.2 (by omega)),rfl⟩
theorem pars_no {l:List Int} {k:Nat} {x:Int} (h:l[k]?=some x) (hx:x < 0∨9999 < x):qef l=false:=by
 unfold qef
 rw[decide_eq_false_iff_not]
 rintro⟨h1,_⟩
 have:=h1 x (List.mem_of_getElem? h)
 omega
theorem pars_any (v : Value) (l : List Int) (w : World) (h1 : IRow w v l) (n1 : l.length ≤ 1000000) :
  Calls Tryz.prog 112 #[v] w fun e w'=>e=.returned (.bool (qef l))∧w=w':=by
 obtain⟨A1,c1,rfl,hA1⟩:=h1
 obtain⟨m,hm⟩:∃ m,l.length=m:=⟨_,rfl⟩
 rw[hm]
 rw[hm] at n1
 have HM:=hid hm
 have HA:=hid hA1
 clear hm hA1
 go_enter Tryz.func112,Tryz.ntmps112
 go_wp2
 go_loop [7] (fun i=>∃ k:Nat,k≤m∧i=.int .i64 k∧(∀ j x,j < k→l[j]?=some x→0≤x∧x≤9999)) (fun i=>m - (intOf i).toNat)
 case atStart=>exact⟨0,by omega,rfl,fun j x h=>absurd h (by omega)⟩
 case round =>
  obtain⟨k,hk,rfl,hall⟩:=hrel
  have HL:=hid hall
  clear hall
  by_cases hlt:k < m
  ·have hk1:k < l.length:=by rw[HM.out];exact hlt
   obtain⟨ad,rfl,_,hc⟩:=HA.out (by intro e;rw[e] at hk1;simp at hk1)
   have hx:=List.getElem?_eq_getElem hk1
   obtain⟨x,hxx⟩:∃ x,l[k]=x:=⟨_,rfl⟩
   rw[hxx] at hx
   have hcell:=hc k x hx
   have HX:=hid hx
   clear hc hx hxx hk1
   have hki:(k:Int) < m:=by omega
   have hcs:x < 0∨9999 < x∨(0≤x∧x≤9999):=by omega
   rcases hcs with g | g | ⟨g1,g2⟩
   ·have hno:=pars_no HX.out (.inl g)
    have HN:=hid hno
    clear hno
    go_wp2
    go_ret
    exact⟨qe (by rw[HN.out]),rfl⟩
   ·have hno:=pars_no HX.out (.inr g)
    have HN:=hid hno
    clear hno
    have g0:0≤x:=by omega
    go_wp2
    go_ret
    exact⟨qe (by rw[HN.out]),rfl⟩
   ·go_wp2
    go_round
    case rel =>
     refine⟨k+1,by omega,by go_num,fun j y hj hy=>?_⟩
     by_cases e:j=k
     ·subst e
      rw[HX.out] at hy
      cases hy
      exact⟨g1,g2⟩
     ·exact HL.out j y (by omega) hy
    case measure=>simp[intOf];omega
  ·have hkm:k=m:=by omega
   subst hkm
   have hall:∀ n∈l,0≤n∧n≤9999:=by
    intro n hn
    obtain⟨j,hj,e⟩:=List.mem_iff_getElem.1 hn
    exact HL.out j n (by rw[← HM.out];exact hj) (by rw[List.getElem?_eq_getElem hj,e])
   by_cases h16:k≤16
   ·have HP:Hid (qef l=true):=by unfold Hid qef;rw[decide_eq_true_eq];exact⟨hall,by rw[HM.out];exact h16⟩
    clear hall
    have hi16:(k:Int)≤16:=by omega
    go_wp2
    go_ret
    exact⟨qe (by rw[HP.out]),rfl⟩
   ·have HP:Hid (qef l=false):=by unfold Hid qef;rw[decide_eq_false_iff_not];rintro⟨_,h⟩;rw[HM.out] at h;exact h16 h
    clear hall
    have hi16:¬ (k:Int)≤16:=by omega
    go_wp2
    go_ret
    exact⟨qe (by rw[HP.out]),rfl⟩
theorem qkj {W : World} {t : TypeId} {p q r s u v : Value} {b : Nat} (h : Box W b t #[p, q, r, s, u, v]) :
  (W.frozen? ⟨b,0,none⟩=false∧W.frozen? ⟨b,1,none⟩=false∧W.frozen? ⟨b,2,none⟩=false∧W.frozen? ⟨b,3,none⟩=false∧W.frozen? ⟨b,4,none⟩=false∧W.frozen? ⟨b,5,none⟩=false) :=
 ⟨h.free 0,h.free 1,h.free 2,h.free 3,h.free 4,h.free 5⟩
theorem qd8 (p : Pa) (A : Option Addr) (c : Nat) (w : World) :
  Calls Tryz.prog 113 #[.agg (p.cells (.slice A p.params.length c))] w fun e w'=>e=.returned (.bool (qca p))∧Below w.heap.size w w':=by
 obtain⟨p1,p2,p3,p4,p5,p6⟩:=p
 have hb:qca ⟨p1,p2,p3,p4,p5,p6⟩=(decide (p2=0) && (decide (p3.length=0) && (decide (p4=0) && (decide (p5.size=0) && decide (p6.size=0))))):=by
  unfold qca
  rw[Bool.eq_iff_iff]
  simp
 rw[hb]
 unfold Pa.cells
 simp only
 generalize p3.length=m at *
 clear hb
 by_cases e2:p2=0
 ·subst e2
  by_cases e3:m=0
  ·subst e3
   by_cases e4:p4=0
   ·subst e4
    by_cases e5:p5.size=0
    ·obtain rfl:=qaj e5
     by_cases e6:p6.size=0
     ·obtain rfl:=qaj e6
      go_enter Tryz.func113,Tryz.ntmps113
      go_wp2
      go_ret
      exact⟨qe (by decide),qa _ _⟩
     ·have q:=qcd e6
      have HD:Hid (decide (p6.size=0)=false):=hid (decide_eq_false e6)
      clear e6
      go_enter Tryz.func113,Tryz.ntmps113
      go_wp2
      go_ret
      exact⟨qe (by rw[HD.out];rfl),qa _ _⟩
    ·have q:=qcd e5
     have HD:Hid (decide (p5.size=0)=false):=hid (decide_eq_false e5)
     clear e5
     go_enter Tryz.func113,Tryz.ntmps113
     go_wp2
     go_ret
     exact⟨qe (by rw[HD.out];rfl),qa _ _⟩
   ·have q:(p4 == 0)=false:=by simp;omega
    have HD:Hid (decide (p4=0)=false):=hid (decide_eq_false e4)
    clear e4
    go_enter Tryz.func113,Tryz.ntmps113
    go_wp2
    go_ret
    exact⟨qe (by rw[HD.out];rfl),qa _ _⟩
  ·have q:((m:Int) == 0)=false:=by simp;omega
   have HD:Hid (decide (m=0)=false):=hid (decide_eq_false e3)
   clear e3
   go_enter Tryz.func113,Tryz.ntmps113
   go_wp2
   go_ret
   exact⟨qe (by rw[HD.out];rfl),qa _ _⟩
 ·have q:(p2 == 0)=false:=by simp;omega
  have HD:Hid (decide (p2=0)=false):=hid (decide_eq_false e2)
  clear e2
  go_enter Tryz.func113,Tryz.ntmps113
  go_wp2
  go_ret
  exact⟨qe (by rw[HD.out];rfl),qa _ _⟩
end Go.Proofs.YtpdaekmbpafenaaGreatDoor
