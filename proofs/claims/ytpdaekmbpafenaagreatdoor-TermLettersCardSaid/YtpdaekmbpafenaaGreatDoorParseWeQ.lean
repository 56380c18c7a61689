
import Derived.Test.YtpdaekmbpafenaaGreatDoorParseWcQ
import Derived.Test.YtpdaekmbpafenaaGreatDoorCellYaQ
import Derived.Test.YtpdaekmbpafenaaGreatDoorLtRowQ
namespace Go.Proofs.YtpdaekmbpafenaaGreatDoor
open Go.RowKit
theorem num_cap {W:World} {lo hi:Nat} {v:Value} {l:List Int} (h:NumO W lo hi v l):qgv v:=by
 rcases h with ⟨_,A,rfl⟩ | ⟨h,_⟩
 ·exact Nat.le_refl _
 ·rcases h.2 with ⟨rfl,h0⟩ | ⟨g,cap,cur,rfl,_,_,hc,_⟩
  ·exact Nat.le_refl _
  ·exact hc
set_option maxHeartbeats 4000000
set_option maxRecDepth 100000
def Fresh (n:Nat) (v:Value) (l:List Int):Prop:=l≠[]→∀ A k c,v=.slice (some A) k c→n≤A.block
def FreshD (n:Nat) (v:Value):Prop:=∀ A k c,v=.slice (some A) k c→n≤A.block
def FeedFr (W:World) (r:Pa×List Dn) (e:Ending) (w':World):Prop :=
 ∃ v A c lv,e=.returned (.tuple #[.agg (r.1.cells v),.slice A (List.length lv) c,.int .i64 0])∧lv.length≤c∧IRow w' v r.1.params∧DRow w' (.slice A (List.length lv) c) lv∧lv.map Prod.fst=r.2∧Below W.heap.size W w'∧(∀ e∈lv,qgv e.2)∧Fresh W.heap.size v r.1.params∧(∀ e∈lv,Fresh W.heap.size e.2 e.1.params)∧FreshD W.heap.size (.slice A (List.length lv) c)∧Typed w' v r.1.params
theorem num_fresh {W:World} {lo hi n:Nat} {v:Value} {l:List Int} (h:NumO W lo hi v l) (hn:n≤lo):Fresh n v l:=by
 intro hl A k c e
 obtain⟨g,c2,rfl,h1,_⟩:=h.row hl
 cases e
 exact Nat.le_trans hn h1
theorem num_typed {W:World} {lo hi:Nat} {v:Value} {l:List Int} (h:NumO W lo hi v l):Typed W v l:=by
 intro hl A k c e
 rcases h with ⟨h,_⟩ | ⟨h,_⟩
 ·exact absurd h hl
 ·rcases h.2 with ⟨rfl,_⟩ | ⟨g,cap,cur,rfl,_,hg,_⟩
  ·cases e
  ·cases e
   exact⟨cur,hg⟩
theorem feed_typed {P b:Nat} {wr W9:World} {v:Value} {l:List Int} {cs:Array Value} (hv:NumO wr P wr.heap.size v l) (bx:Box wr b 31 cs) (hg:wr.grownBy W9 (some b)):Typed W9 v l :=
 num_typed (hv.kept (Kept.other _ bx (by decide) hg))
theorem own_fresh {W:World} {B n:Nat} {v:Value} {l:List (Dn×Value)} (h:OwnD W B v l) (hn:n≤B):FreshD n v:=by
 intro A k c e
 rcases h.2 with ⟨e2,h0⟩ | ⟨g,cap,cur,e2,hb,_,hc,_⟩
 ·rw[e2] at e;cases e
 ·rw[e2] at e
  cases e
  exact Nat.le_trans hn hb
theorem feed_fresh (p : Pa) (v : Value) (s : ByteArray) (W : World) (hT : Tab W) (hr : IRow W v p.params) (hright : qan p) (hs : s.size ≤ 100000) :
  Calls Tryz.prog 38 #[.agg (p.cells v),.string s] W (FeedFr W (qa1 p (qaf s))):=by
 obtain⟨hb16,hb64,hb3⟩:=qfa hright
 have hR:=fun W1 (hb:Below W.heap.size W W1)=>qky p v W1 (hT.below hb) (hr.below hb) (by omega) (by omega)
 rw[(qds p).2 hright] at hR
 have hN:=fun W1 (hb:Below W.heap.size W W1)=>qm3 p v W1 (hr.below hb) (by omega) (by omega) (by omega)
 have HR:=hid hR
 have HN:=hid hN
 have HT:=hid hT
 obtain⟨A,c,rfl,_⟩:=hr
 have hb1:=qa W (.cells (p.cells (.slice A p.params.length c)) 31)
 have hb2:=hb1.alloc (by simp) (.cells #[.int .i64 0,.int .i64 0,.slice none 0 0,.int .i64 0,.string ⟨#[]⟩,.string ⟨#[]⟩] 31)
 have b0:=(Box.new W 31 (p.cells (.slice A p.params.length c))).alloc (.cells #[.int .i64 0,.int .i64 0,.slice none 0 0,.int .i64 0,.string ⟨#[]⟩,.string ⟨#[]⟩] 31)
 have bx:=Box.new (W.alloc (.cells (p.cells (.slice A p.params.length c)) 31)) 31 #[.int .i64 0,.int .i64 0,.slice none 0 0,.int .i64 0,.string ⟨#[]⟩,.string ⟨#[]⟩]
 rw[World.size_alloc] at bx
 have HB2:=hid hb2
 have B0:=hid b0
 have BX:=hid bx
 have HRI:=hid hright
 clear hR hN hT hb1 hb2 b0 bx hright hb16 hb64 hb3
 obtain⟨p1,p2,p3,p4,p5,p6⟩:=p
 unfold Pa.cells at *
 simp only at *
 generalize p3.length=m at *
 go_enter Tryz.func38,Tryz.ntmps38
 go_upto_block 0 with (first | (go_at_call 46;refine(HR.out _ HB2.out).mono ?_;rintro e w1 ⟨rfl,hb1⟩;have b1:=B0.out.below hb1 (by simp;omega);have c0:w1.cell? ⟨W.heap.size,0,none⟩=some (.int .i64 p1):=b1.cell 0;have c1:w1.cell? ⟨W.heap.size,1,none⟩=some (.int .i64 p2):=b1.cell 1;have c2:w1.cell? ⟨W.heap.size,2,none⟩=some (.slice A m c):=b1.cell 2;have c3:w1.cell? ⟨W.heap.size,3,none⟩=some (.int .i64 p4):=b1.cell 3;have c4:w1.cell? ⟨W.heap.size,4,none⟩=some (.string p5):=b1.cell 4;have c5:w1.cell? ⟨W.heap.size,5,none⟩=some (.string p6):=b1.cell 5;have BX1:=hid (BX.out.below hb1 (by simp));have hW1:=HB2.out.trans (hb1.mono HB2.out.size);clear b1))
 have hz1:W.heap.size+1 < w1.heap.size:=by have:=hb1.size;simp at this;omega
 refine(HN.out _ hW1).mono ?_
 rintro e w2 ⟨R,rfl,hrd,hb2⟩
 dsimp only
 have BX2:=hid (BX1.out.below hb2 hz1)
 have hTB:TabB w1.heap.size w2:=⟨HT.out.below (hW1.trans (hb2.mono hW1.size)),by have:=HT.out.lt;omega⟩
 have HTB:=hid hTB
 have HRD:=hid hrd
 have hW2:=hW1.trans (hb2.mono hW1.size)
 have HRT:=hid (qha · ⟨p1,p2,p3,p4,p5,p6⟩ HRI.out)
 clear hTB hrd HN HR HRI HB2 B0 BX BX1 c0 c1 c2 c3 c4 c5
 go_wp2
 go_loopw [17] (fun i wr=>∃ k:Nat,k≤s.size∧i=.int .i64 k∧Rd w1.heap.size R wr (qa1 ⟨p1,p2,p3,p4,p5,p6⟩ ((qaf s).take k)).1 (qa1 ⟨p1,p2,p3,p4,p5,p6⟩ ((qaf s).take k)).2∧Below w1.heap.size w2 wr) (fun i _=>s.size - (intOf i).toNat)
 case atStart=>exact⟨0,by omega,rfl,by rw[List.take_zero];exact HRD.out,Below.refl _ _⟩
 case round =>
  obtain⟨k,hk,rfl,hrd,hbr⟩:=hrel
  by_cases hlt:k < s.size
  ·have hl:=qmq ((qaf s).take k) ⟨p1,p2,p3,p4,p5,p6⟩
   have hl2:((qaf s).take k).length≤k:=List.length_take_le _ _
   have ht:=p_take_any hrd (HTB.out.below hbr) (by omega) (HRT.out _) (s[k].toNat:Int) (by have:=UInt8.toNat_lt s[k];omega)
   have hone:=qmj ⟨p1,p2,p3,p4,p5,p6⟩ ((qaf s).take k) (qb s k)
   rw[← qf3 hlt,← qbh hlt] at hone
   have HT2:=hid ht
   have HO:=hid hone
   clear ht hone hrd hl hl2
   go_wp2_with (go_at_call 76;refine HT2.out.mono ?_;rintro e w3 ⟨rfl,h3,hb3⟩;have H3:=hid h3;clear h3)
   go_roundw
   case rel=>exact⟨k+1,by omega,by go_num,by rw[HO.out];exact H3.out,hbr.trans hb3⟩
   case measure=>simp[intOf];omega
  ·obtain rfl:k=s.size:=by omega
   rw[List.take_of_length_le (by rw[qgd];omega)] at hrd
   obtain⟨v,lv,P,hlv,h1,h2,⟨dv,hBR,hbox,hown,hnum⟩,hv⟩:=hrd
   obtain⟨A',c',rfl⟩:=hv.spell
   obtain⟨dA,dc,rfl⟩:=hown.spell
   have bx:=BX2.out.below hbr hz1
   have hE:=fun (W9:World) (hg:wr.grownBy W9 (some (W.heap.size+1)))=>feed_end hown hnum hv bx hg
   have hWr:=hW2.trans (hbr.mono (by omega))
   have hne:¬ W.heap.size+1=R:=by omega
   have hne2:¬ R=W.heap.size+1:=by omega
   have d0:wr.cell? ⟨R,0,none⟩=some (.int .i64 (qa1 ⟨p1,p2,p3,p4,p5,p6⟩ (qaf s)).1.st):=hbox.cell 0
   have d1:wr.cell? ⟨R,1,none⟩=some (.int .i64 (qa1 ⟨p1,p2,p3,p4,p5,p6⟩ (qaf s)).1.priv):=hbox.cell 1
   have d2:wr.cell? ⟨R,2,none⟩=some (.slice A' (qa1 ⟨p1,p2,p3,p4,p5,p6⟩ (qaf s)).1.params.length c'):=hbox.cell 2
   have d3:wr.cell? ⟨R,3,none⟩=some (.int .i64 (qa1 ⟨p1,p2,p3,p4,p5,p6⟩ (qaf s)).1.inter):=hbox.cell 3
   have d4:wr.cell? ⟨R,4,none⟩=some (.string (qa1 ⟨p1,p2,p3,p4,p5,p6⟩ (qaf s)).1.osc):=hbox.cell 4
   have d5:wr.cell? ⟨R,5,none⟩=some (.string (qa1 ⟨p1,p2,p3,p4,p5,p6⟩ (qaf s)).1.pend):=hbox.cell 5
   have d6:wr.cell? ⟨R,6,none⟩=some (.slice dA lv.length dc):=hbox.cell 6
   have HBX:=hid bx
   have c0:wr.cell? ⟨W.heap.size+1,0,none⟩=some (.int .i64 0):=bx.cell 0
   have c1:wr.cell? ⟨W.heap.size+1,1,none⟩=some (.int .i64 0):=bx.cell 1
   have c2:wr.cell? ⟨W.heap.size+1,2,none⟩=some (.slice none 0 0):=bx.cell 2
   have c3:wr.cell? ⟨W.heap.size+1,3,none⟩=some (.int .i64 0):=bx.cell 3
   have c4:wr.cell? ⟨W.heap.size+1,4,none⟩=some (.string ⟨#[]⟩):=bx.cell 4
   have c5:wr.cell? ⟨W.heap.size+1,5,none⟩=some (.string ⟨#[]⟩):=bx.cell 5
   obtain⟨f0,f1,f2,f3,f4,f5⟩:=qkj bx
   have HE:=hid hE
   have HLV:=hid hlv
   have HCAP:=hid (own_cap hown)
   have HNC:=hid (fun e he=>num_cap (hnum e he).1)
   have hlo:W.heap.size≤w1.heap.size:=by omega
   have HF1:=hid (num_fresh hv (n:=W.heap.size) (by omega))
   have HF2:=hid (fun e he=>num_fresh (hnum e he).1 hlo)
   have HF3:=hid (own_fresh hown hlo)
   have HF4:=hid (fun (W9:World) (hg:wr.grownBy W9 (some (W.heap.size+1)))=>feed_typed hv bx hg)
   clear hbox hown hnum hv hE hlv bx
   generalize qa1 ⟨p1,p2,p3,p4,p5,p6⟩ (qaf s)=r at *
   obtain⟨⟨r1,r2,r3,r4,r5,r6⟩,l⟩:=r
   simp only at *
   generalize r3.length=n3 at *
   obtain⟨n4,h4⟩:∃ n4,lv.length=n4:=⟨_,rfl⟩
   have HQ4:=hid h4
   rw[h4] at d6
   rw[h4] at HE
   clear h4
   go_wp2
   go_region
   go_wp2
   refine bodyPost_ret (v:=.tuple #[.agg #[.int .i64 r1,.int .i64 r2,.slice A' n3 c',.int .i64 r4,.string r5,.string r6],.slice dA n4 dc,.int .i64 0]) (by simp[results,Tryz.results38,go_sem,c0,c1,c2,c3,c4,c5]) rfl ?_
   have hg:=(qad (i:=5) (qad (i:=4) (qad (i:=3) (qad (i:=2) (qad (i:=1) (qad (i:=0) (World.grownBy.refl wr (some (W.heap.size+1))) (.int .i64 r1)) (.int .i64 r2)) (.slice A' n3 c')) (.int .i64 r4)) (.string r5)) (.string r6)).trans (grown_drew1 _ _)
   obtain⟨e1,e2⟩:=HE.out _ hg
   have hq:=HQ4.out
   subst hq
   exact⟨_,_,_,lv,rfl,HCAP.out,e1,e2,HLV.out,hWr.grown hg hWr.size (fun k e=>by cases e;omega),fun e he=>HNC.out e he,HF1.out,fun e he=>HF2.out e he,HF3.out,HF4.out _ hg⟩
end Go.Proofs.YtpdaekmbpafenaaGreatDoor
