
import Derived.Test.YtpdaekmbpafenaaGreatDoorParsePQ
namespace Go.Proofs.YtpdaekmbpafenaaGreatDoor
set_option maxHeartbeats 2000000
set_option maxRecDepth 100000
open Go.RowKit
def qap (p:Pa):Bool :=
 if p.st=0 then (decide ((qi p.pend).e=2) && qca { p with pend:=nilB })
 else if p.st=4 then (betB p.inter && ((qgr p.priv && qef p.params) && qca ⟨p.st,0,[],0,p.osc,p.pend⟩))
 else if p.st=3 then ((qgr p.priv && qef p.params) && qca ⟨p.st,0,[],p.inter,p.osc,p.pend⟩)
 else if p.st=2 then (betB p.inter && qca { p with inter:=0 })
 else if p.st=6 then (decide (p.osc.size≤64) && qca { p with osc:=nilB })
 else if p.st=1∨p.st=5∨p.st=7∨p.st=8 then qca p
 else false
theorem nil_iff {s:ByteArray}:s=nilB↔s.size=0:=⟨fun h=>by rw[h];rfl,qaj⟩
theorem qds (p:Pa):qap p=true↔qan p:=by
 obtain⟨st,pr,ps,it,os,pe⟩:=p
 unfold qap qan zeroR parR qca betB qgr qef
 simp only[nil_iff]
 have hz:nilB.size=0:=rfl
 by_cases h0:st=0
 ·subst h0
  rw[if_pos rfl]
  simp[hz]
  constructor
  ·rintro⟨h1,h2,h3,h4,h5⟩;exact⟨h2,h3,h4,h5,h1⟩
  ·rintro⟨h2,h3,h4,h5,h1⟩;exact⟨h1,h2,h3,h4,h5⟩
 rw[if_neg h0]
 by_cases h4:st=4
 ·subst h4
  rw[if_pos rfl]
  simp
  constructor
  ·rintro⟨⟨h1,h2⟩,⟨h3,h4,h5⟩,h6,h7⟩;exact⟨⟨h4,h5,h3,h6,h7⟩,h1,h2⟩
  ·rintro⟨⟨h4,h5,h3,h6,h7⟩,h1,h2⟩;exact⟨⟨h1,h2⟩,⟨h3,h4,h5⟩,h6,h7⟩
 rw[if_neg h4]
 by_cases h3:st=3
 ·subst h3
  rw[if_pos rfl]
  simp
  constructor
  ·rintro⟨⟨h3,h4,h5⟩,h1,h6,h7⟩;exact⟨⟨h4,h5,h3,h6,h7⟩,h1⟩
  ·rintro⟨⟨h4,h5,h3,h6,h7⟩,h1⟩;exact⟨⟨h3,h4,h5⟩,h1,h6,h7⟩
 rw[if_neg h3]
 by_cases h2:st=2
 ·subst h2
  rw[if_pos rfl]
  simp
  constructor
  ·rintro⟨⟨h1,h2⟩,h3,h4,h5,h6⟩;exact⟨h3,h4,⟨h1,h2⟩,h5,h6⟩
  ·rintro⟨h3,h4,⟨h1,h2⟩,h5,h6⟩;exact⟨⟨h1,h2⟩,h3,h4,h5,h6⟩
 rw[if_neg h2]
 by_cases h6:st=6
 ·subst h6
  rw[if_pos rfl]
  simp[hz]
  constructor
  ·rintro⟨h1,h2,h3,h4,h5⟩;exact⟨h2,h3,h4,h1,h5⟩
  ·rintro⟨h2,h3,h4,h1,h5⟩;exact⟨h1,h2,h3,h4,h5⟩
 rw[if_neg h6]
 by_cases h1:st=1∨st=5∨st=7∨st=8
 ·rw[if_pos h1]
  simp only[h0,h4,h3,h2,h6,h1,false_and,true_and,or_false,false_or,decide_eq_true_eq]
 ·rw[if_neg h1]
  simp only[h0,h4,h3,h2,h6,h1,false_and,or_false,Bool.false_eq_true]
theorem right_s1 (p : Pa) (A : Option Addr) (c : Nat) (w : World) (hs : p.st = 1) :
  Calls Tryz.prog 46 #[.agg (p.cells (.slice A p.params.length c))] w fun e w'=>e=.returned (.bool (qap p))∧Below w.heap.size w w':=by
 have hb:=fun (q:Pa) (A:Option Addr) (c:Nat) W=>qd8 q A c W
 have HB:=hid hb
 clear hb
 obtain⟨p1,p2,p3,p4,p5,p6⟩:=p
 simp only at hs
 subst hs
 have HQ:Hid (qap ⟨1,p2,p3,p4,p5,p6⟩=qca ⟨1,p2,p3,p4,p5,p6⟩):=rfl
 have HBR:=hid (fun W=>HB.out ⟨1,p2,p3,p4,p5,p6⟩ A c W)
 unfold Pa.cells at *
 simp only at *
 clear HB
 rw[HQ.out]
 generalize qca _=r at *
 clear HQ
 generalize p3.length=m at *
 go_enter Tryz.func46,Tryz.ntmps46
 go_wp2_with (go_at_call 113;refine(HBR.out _).mono ?_;rintro e w3 ⟨rfl,hb3⟩)
 go_ret
 exact⟨rfl,Below.behind hb3⟩
theorem right_s5 (p : Pa) (A : Option Addr) (c : Nat) (w : World) (hs : p.st = 5) :
  Calls Tryz.prog 46 #[.agg (p.cells (.slice A p.params.length c))] w fun e w'=>e=.returned (.bool (qap p))∧Below w.heap.size w w':=by
 have hb:=fun (q:Pa) (A:Option Addr) (c:Nat) W=>qd8 q A c W
 have HB:=hid hb
 clear hb
 obtain⟨p1,p2,p3,p4,p5,p6⟩:=p
 simp only at hs
 subst hs
 have HQ:Hid (qap ⟨5,p2,p3,p4,p5,p6⟩=qca ⟨5,p2,p3,p4,p5,p6⟩):=rfl
 have HBR:=hid (fun W=>HB.out ⟨5,p2,p3,p4,p5,p6⟩ A c W)
 unfold Pa.cells at *
 simp only at *
 clear HB
 rw[HQ.out]
 generalize qca _=r at *
 clear HQ
 generalize p3.length=m at *
 go_enter Tryz.func46,Tryz.ntmps46
 go_wp2_with (go_at_call 113;refine(HBR.out _).mono ?_;rintro e w3 ⟨rfl,hb3⟩)
 go_ret
 exact⟨rfl,Below.behind hb3⟩
theorem right_s7 (p : Pa) (A : Option Addr) (c : Nat) (w : World) (hs : p.st = 7) :
  Calls Tryz.prog 46 #[.agg (p.cells (.slice A p.params.length c))] w fun e w'=>e=.returned (.bool (qap p))∧Below w.heap.size w w':=by
 have hb:=fun (q:Pa) (A:Option Addr) (c:Nat) W=>qd8 q A c W
 have HB:=hid hb
 clear hb
 obtain⟨p1,p2,p3,p4,p5,p6⟩:=p
 simp only at hs
 subst hs
 have HQ:Hid (qap ⟨7,p2,p3,p4,p5,p6⟩=qca ⟨7,p2,p3,p4,p5,p6⟩):=rfl
 have HBR:=hid (fun W=>HB.out ⟨7,p2,p3,p4,p5,p6⟩ A c W)
 unfold Pa.cells at *
 simp only at *
 clear HB
 rw[HQ.out]
 generalize qca _=r at *
 clear HQ
 generalize p3.length=m at *
 go_enter Tryz.func46,Tryz.ntmps46
 go_wp2_with (go_at_call 113;refine(HBR.out _).mono ?_;rintro e w3 ⟨rfl,hb3⟩)
 go_ret
 exact⟨rfl,Below.behind hb3⟩
theorem right_s8 (p : Pa) (A : Option Addr) (c : Nat) (w : World) (hs : p.st = 8) :
  Calls Tryz.prog 46 #[.agg (p.cells (.slice A p.params.length c))] w fun e w'=>e=.returned (.bool (qap p))∧Below w.heap.size w w':=by
 have hb:=fun (q:Pa) (A:Option Addr) (c:Nat) W=>qd8 q A c W
 have HB:=hid hb
 clear hb
 obtain⟨p1,p2,p3,p4,p5,p6⟩:=p
 simp only at hs
 subst hs
 have HQ:Hid (qap ⟨8,p2,p3,p4,p5,p6⟩=qca ⟨8,p2,p3,p4,p5,p6⟩):=rfl
 have HBR:=hid (fun W=>HB.out ⟨8,p2,p3,p4,p5,p6⟩ A c W)
 unfold Pa.cells at *
 simp only at *
 clear HB
 rw[HQ.out]
 generalize qca _=r at *
 clear HQ
 generalize p3.length=m at *
 go_enter Tryz.func46,Tryz.ntmps46
 go_wp2_with (go_at_call 113;refine(HBR.out _).mono ?_;rintro e w3 ⟨rfl,hb3⟩)
 go_ret
 exact⟨rfl,Below.behind hb3⟩
theorem right_s0 (p : Pa) (A : Option Addr) (c : Nat) (w : World) (hT : Tab w) (hz : p.pend.size ≤ 1000000) (hs : p.st = 0) :
  Calls Tryz.prog 46 #[.agg (p.cells (.slice A p.params.length c))] w fun e w'=>e=.returned (.bool (qap p))∧Below w.heap.size w w':=by
 have hb:=fun (q:Pa) (A:Option Addr) (c:Nat) W=>qd8 q A c W
 have HB:=hid hb
 clear hb
 obtain⟨p1,p2,p3,p4,p5,p6⟩:=p
 simp only at hs
 subst hs
 have hW:=qa w (.cells #[.int .i64 0,.int .i64 p2,.slice A p3.length c,.int .i64 p4,.string p5,.string p6] 31)
 have hF:=qdd p6 (w.alloc (.cells #[.int .i64 0,.int .i64 p2,.slice A p3.length c,.int .i64 p4,.string p5,.string p6] 31)) (by unfold maxLen;simp only at hz;omega) (hT.below hW)
 obtain⟨g,hg⟩:∃ g,qi p6=g:=⟨_,rfl⟩
 rw[hg] at hF
 obtain⟨r,n,e⟩:=g
 unfold Got.val at hF
 simp only at hF
 have hQ:qap ⟨0,p2,p3,p4,p5,p6⟩=(decide (e=2) && qca ⟨0,p2,p3,p4,p5,nilB⟩):=by
  show (decide ((qi p6).e=2) && _)=_
  rw[hg]
 have HBR:=hid (fun W=>HB.out ⟨0,p2,p3,p4,p5,nilB⟩ A c W)
 have HF:=hid hF
 unfold Pa.cells nilB at *
 simp only at *
 have hlt:w.heap.size < w.heap.size+1:=by omega
 clear HB hT hF hg hz
 by_cases he:e=2
 ·subst he
  rw[decide_eq_true rfl,Bool.true_and] at hQ
  have HQ:=hid hQ
  rw[HQ.out]
  clear hQ
  have bx:=Box.new w 31 #[.int .i64 0,.int .i64 p2,.slice A p3.length c,.int .i64 p4,.string p5,.string p6]
  have HX:=hid bx
  have HW:=hid hW
  clear bx hW
  generalize p3.length=m at *
  generalize qca _=r at *
  clear HQ
  go_enter Tryz.func46,Tryz.ntmps46
  go_wp2_with (first | (go_at_call 109;refine HF.out.mono ?_;rintro e w1 ⟨rfl,hb1⟩;have b1:=HX.out.below hb1 (by simp);have c0:w1.cell? ⟨w.heap.size,0,none⟩=_:=b1.cell 0;have c1:w1.cell? ⟨w.heap.size,1,none⟩=_:=b1.cell 1;have c2:w1.cell? ⟨w.heap.size,2,none⟩=_:=b1.cell 2;have c3:w1.cell? ⟨w.heap.size,3,none⟩=_:=b1.cell 3;have c4:w1.cell? ⟨w.heap.size,4,none⟩=_:=b1.cell 4;have c5:w1.cell? ⟨w.heap.size,5,none⟩=_:=b1.cell 5;obtain⟨f0,f1,f2,f3,f4,f5⟩:=qkj b1;clear b1;dsimp at c0 c1 c2 c3 c4 c5) | (go_at_call 113;refine(HBR.out _).mono ?_;rintro e w3 ⟨rfl,hb3⟩))
  go_ret
  exact⟨rfl,(HW.out.trans (hb1.mono HW.out.size)).setCell (Nat.le_refl _) _ |>.trans (hb3.mono (by have:=hb1.size;simp at this;simp[World.setCell];omega))⟩
 ·rw[decide_eq_false he,Bool.false_and] at hQ
  have HQ:=hid hQ
  rw[HQ.out]
  clear hQ HQ HBR
  have q:(e != 2)=true:=by simp;omega
  generalize p3.length=m at *
  go_enter Tryz.func46,Tryz.ntmps46
  go_wp2_with (go_at_call 109;refine HF.out.mono ?_;rintro e w1 ⟨rfl,hb1⟩)
  go_ret
  exact⟨rfl,hW.trans (hb1.mono hW.size)⟩
theorem right_s2 (p : Pa) (A : Option Addr) (c : Nat) (w : World) (hs : p.st = 2) :
  Calls Tryz.prog 46 #[.agg (p.cells (.slice A p.params.length c))] w fun e w'=>e=.returned (.bool (qap p))∧Below w.heap.size w w':=by
 have hb:=fun (q:Pa) (A:Option Addr) (c:Nat) W=>qd8 q A c W
 have HB:=hid hb
 clear hb
 obtain⟨p1,p2,p3,p4,p5,p6⟩:=p
 simp only at hs
 subst hs
 have hbt:=fun W=>qkz p4 W
 have HBR:=hid (fun W=>HB.out ⟨2,p2,p3,0,p5,p6⟩ A c W)
 unfold Pa.cells at *
 simp only at *
 clear HB
 cases hc:betB p4
 ·have hQ:qap ⟨2,p2,p3,p4,p5,p6⟩=false:=by show (betB p4 && _)=false;rw[hc];rfl
  rw[hc] at hbt
  rw[hQ]
  have HBT:=hid hbt
  clear hbt hQ hc HBR
  generalize p3.length=m at *
  go_enter Tryz.func46,Tryz.ntmps46
  go_wp2_with (go_at_call 110;refine(HBT.out _).mono ?_;rintro e w1 ⟨rfl,rfl⟩)
  go_ret
  exact⟨rfl,qa _ _⟩
 ·have hQ:qap ⟨2,p2,p3,p4,p5,p6⟩=qca ⟨2,p2,p3,0,p5,p6⟩:=by show (betB p4 && _)=_;rw[hc];rfl
  rw[hc] at hbt
  rw[hQ]
  have HBT:=hid hbt
  clear hbt hQ hc
  generalize p3.length=m at *
  generalize qca _=r at *
  go_enter Tryz.func46,Tryz.ntmps46
  go_wp2_with (first | (go_at_call 110;refine(HBT.out _).mono ?_;rintro e w1 ⟨rfl,rfl⟩) | (go_at_call 113;refine(HBR.out _).mono ?_;rintro e w3 ⟨rfl,hb3⟩))
  go_ret
  exact⟨rfl,Below.behind hb3⟩
theorem right_s6 (p : Pa) (A : Option Addr) (c : Nat) (w : World) (hs : p.st = 6) :
  Calls Tryz.prog 46 #[.agg (p.cells (.slice A p.params.length c))] w fun e w'=>e=.returned (.bool (qap p))∧Below w.heap.size w w':=by
 have hb:=fun (q:Pa) (A:Option Addr) (c:Nat) W=>qd8 q A c W
 have HB:=hid hb
 clear hb
 obtain⟨p1,p2,p3,p4,p5,p6⟩:=p
 simp only at hs
 subst hs
 have HBR:=hid (fun W=>HB.out ⟨6,p2,p3,p4,nilB,p6⟩ A c W)
 unfold Pa.cells nilB at *
 simp only at *
 clear HB
 by_cases hc:p5.size≤64
 ·have hQ:qap ⟨6,p2,p3,p4,p5,p6⟩=qca ⟨6,p2,p3,p4,⟨#[]⟩,p6⟩:=by show (decide (p5.size≤64) && _)=_;rw[decide_eq_true hc];rfl
  rw[hQ]
  have hi:¬ (64:Int) < p5.size:=by omega
  clear hQ hc
  generalize p3.length=m at *
  generalize qca _=r at *
  go_enter Tryz.func46,Tryz.ntmps46
  go_wp2_with (go_at_call 113;refine(HBR.out _).mono ?_;rintro e w3 ⟨rfl,hb3⟩)
  go_ret
  exact⟨rfl,Below.behind hb3⟩
 ·have hQ:qap ⟨6,p2,p3,p4,p5,p6⟩=false:=by show (decide (p5.size≤64) && _)=_;rw[decide_eq_false hc];rfl
  rw[hQ]
  have hi:(64:Int) < p5.size:=by omega
  clear hQ hc HBR
  generalize p3.length=m at *
  go_enter Tryz.func46,Tryz.ntmps46
  go_wp2
  go_ret
  exact⟨rfl,qa _ _⟩
theorem right_s3 (p : Pa) (A : Option Addr) (c : Nat) (w : World) (hr : IRow w (.slice A p.params.length c) p.params) (hn : p.params.length ≤ 1000000) (hs : p.st = 3) :
  Calls Tryz.prog 46 #[.agg (p.cells (.slice A p.params.length c))] w fun e w'=>e=.returned (.bool (qap p))∧Below w.heap.size w w':=by
 have hb:=fun (q:Pa) (A:Option Addr) (c:Nat) W=>qd8 q A c W
 have HB:=hid hb
 clear hb
 obtain⟨p1,p2,p3,p4,p5,p6⟩:=p
 simp only at hs
 subst hs
 have HBR:=hid (fun W=>HB.out ⟨3,0,[],p4,p5,p6⟩ none 0 W)
 unfold Pa.cells at *
 simp only[List.length_nil] at *
 clear HB
 have hpv:=fun W=>qk0 p2 W
 have hst:=fun W (hb:Below w.heap.size w W)=>pars_any (.slice A p3.length c) p3 W (hr.below hb) hn
 cases h1:qgr p2
 ·have hQ:qap ⟨3,p2,p3,p4,p5,p6⟩=false:=by show ((qgr p2 && qef p3) && _)=_;rw[h1];rfl
  rw[h1] at hpv
  rw[hQ]
  have HPT:=hid hpv
  clear hpv hst hQ h1 HBR hr hn
  generalize p3.length=m at *
  go_enter Tryz.func46,Tryz.ntmps46
  go_wp2_with (first | (go_at_call 111;refine(HPT.out _).mono ?_;rintro e w1 ⟨rfl,rfl⟩))
  go_ret
  exact⟨rfl,qa _ _⟩
 ·cases h2:qef p3
  ·have hQ:qap ⟨3,p2,p3,p4,p5,p6⟩=false:=by show ((qgr p2 && qef p3) && _)=_;rw[h1,h2];rfl
   rw[h1] at hpv
   rw[h2] at hst
   rw[hQ]
   have HPT:=hid hpv
   have HST:=hid hst
   clear hpv hst hQ h1 h2 HBR hr hn
   generalize p3.length=m at *
   go_enter Tryz.func46,Tryz.ntmps46
   go_wp2_with (first | (go_at_call 111;refine(HPT.out _).mono ?_;rintro e w1 ⟨rfl,rfl⟩) | (go_at_call 112;refine(HST.out _ (qa _ _)).mono ?_;rintro e w1 ⟨rfl,rfl⟩))
   go_ret
   exact⟨rfl,qa _ _⟩
  ·have hQ:qap ⟨3,p2,p3,p4,p5,p6⟩=qca ⟨3,0,[],p4,p5,p6⟩:=by show ((qgr p2 && qef p3) && _)=_;rw[h1,h2];rfl
   rw[h1] at hpv
   rw[h2] at hst
   rw[hQ]
   have HPT:=hid hpv
   have HST:=hid hst
   clear hpv hst hQ h1 h2 hr hn
   generalize p3.length=m at *
   generalize qca _=r at *
   go_enter Tryz.func46,Tryz.ntmps46
   go_wp2_with (first | (go_at_call 111;refine(HPT.out _).mono ?_;rintro e w1 ⟨rfl,rfl⟩) | (go_at_call 112;refine(HST.out _ (qa _ _)).mono ?_;rintro e w1 ⟨rfl,rfl⟩) | (go_at_call 113;refine(HBR.out _).mono ?_;rintro e w3 ⟨rfl,hb3⟩))
   go_ret
   exact⟨rfl,Below.behind hb3⟩
theorem right_s4 (p : Pa) (A : Option Addr) (c : Nat) (w : World) (hr : IRow w (.slice A p.params.length c) p.params) (hn : p.params.length ≤ 1000000) (hs : p.st = 4) :
  Calls Tryz.prog 46 #[.agg (p.cells (.slice A p.params.length c))] w fun e w'=>e=.returned (.bool (qap p))∧Below w.heap.size w w':=by
 have hb:=fun (q:Pa) (A:Option Addr) (c:Nat) W=>qd8 q A c W
 have HB:=hid hb
 clear hb
 obtain⟨p1,p2,p3,p4,p5,p6⟩:=p
 simp only at hs
 subst hs
 have HBR:=hid (fun W=>HB.out ⟨4,0,[],0,p5,p6⟩ none 0 W)
 unfold Pa.cells at *
 simp only[List.length_nil] at *
 clear HB
 have hbt:=fun W=>qkz p4 W
 cases hc:betB p4
 ·have hQ:qap ⟨4,p2,p3,p4,p5,p6⟩=false:=by show (betB p4 && _)=false;rw[hc];rfl
  rw[hc] at hbt
  rw[hQ]
  have HBT:=hid hbt
  clear hbt hQ hc HBR hr hn
  generalize p3.length=m at *
  go_enter Tryz.func46,Tryz.ntmps46
  go_wp2_with (go_at_call 110;refine(HBT.out _).mono ?_;rintro e w1 ⟨rfl,rfl⟩)
  go_ret
  exact⟨rfl,qa _ _⟩
 ·rw[hc] at hbt
  have HBT:=hid hbt
  clear hbt
  have hpv:=fun W=>qk0 p2 W
  have hst:=fun W (hb:Below w.heap.size w W)=>pars_any (.slice A p3.length c) p3 W (hr.below hb) hn
  cases h1:qgr p2
  ·have hQ:qap ⟨4,p2,p3,p4,p5,p6⟩=false:=by show (betB p4 && ((qgr p2 && qef p3) && _))=_;rw[hc];rw[h1];rfl
   rw[h1] at hpv
   rw[hQ]
   have HPT:=hid hpv
   clear hpv hst hQ h1 HBR hr hn hc
   generalize p3.length=m at *
   go_enter Tryz.func46,Tryz.ntmps46
   go_wp2_with (first | (go_at_call 110;refine(HBT.out _).mono ?_;rintro e w1 ⟨rfl,rfl⟩) | (go_at_call 111;refine(HPT.out _).mono ?_;rintro e w1 ⟨rfl,rfl⟩))
   go_ret
   exact⟨rfl,qa _ _⟩
  ·cases h2:qef p3
   ·have hQ:qap ⟨4,p2,p3,p4,p5,p6⟩=false:=by show (betB p4 && ((qgr p2 && qef p3) && _))=_;rw[hc];rw[h1,h2];rfl
    rw[h1] at hpv
    rw[h2] at hst
    rw[hQ]
    have HPT:=hid hpv
    have HST:=hid hst
    clear hpv hst hQ h1 h2 HBR hr hn hc
    generalize p3.length=m at *
    go_enter Tryz.func46,Tryz.ntmps46
    go_wp2_with (first | (go_at_call 110;refine(HBT.out _).mono ?_;rintro e w1 ⟨rfl,rfl⟩) | (go_at_call 111;refine(HPT.out _).mono ?_;rintro e w1 ⟨rfl,rfl⟩) | (go_at_call 112;refine(HST.out _ (qa _ _)).mono ?_;rintro e w1 ⟨rfl,rfl⟩))
    go_ret
    exact⟨rfl,qa _ _⟩
   ·have hQ:qap ⟨4,p2,p3,p4,p5,p6⟩=qca ⟨4,0,[],0,p5,p6⟩:=by show (betB p4 && ((qgr p2 && qef p3) && _))=_;rw[hc];rw[h1,h2];rfl
    rw[h1] at hpv
    rw[h2] at hst
    rw[hQ]
    have HPT:=hid hpv
    have HST:=hid hst
    clear hpv hst hQ h1 h2 hr hn hc
    generalize p3.length=m at *
    generalize qca _=r at *
    go_enter Tryz.func46,Tryz.ntmps46
    go_wp2_with (first | (go_at_call 110;refine(HBT.out _).mono ?_;rintro e w1 ⟨rfl,rfl⟩) | (go_at_call 111;refine(HPT.out _).mono ?_;rintro e w1 ⟨rfl,rfl⟩) | (go_at_call 112;refine(HST.out _ (qa _ _)).mono ?_;rintro e w1 ⟨rfl,rfl⟩) | (go_at_call 113;refine(HBR.out _).mono ?_;rintro e w3 ⟨rfl,hb3⟩))
    go_ret
    exact⟨rfl,Below.behind hb3⟩
theorem p_right_no (p : Pa) (A : Option Addr) (c : Nat) (w : World) (hs : p.st ≠ 0 ∧ p.st ≠ 4 ∧ p.st ≠ 3 ∧ p.st ≠ 2 ∧ p.st ≠ 6 ∧ p.st ≠ 1 ∧ p.st ≠ 5 ∧ p.st ≠ 7 ∧ p.st ≠ 8) :
  Calls Tryz.prog 46 #[.agg (p.cells (.slice A p.params.length c))] w fun e w'=>e=.returned (.bool (qap p))∧Below w.heap.size w w':=by
 obtain⟨p1,p2,p3,p4,p5,p6⟩:=p
 simp only at hs
 obtain⟨h0,h4,h3,h2,h6,h1,h5,h7,h8⟩:=hs
 have hQ:qap ⟨p1,p2,p3,p4,p5,p6⟩=false:=by
  unfold qap
  simp only
  rw[if_neg h0,if_neg h4,if_neg h3,if_neg h2,if_neg h6,if_neg (by omega)]
 rw[hQ]
 have q0:(p1 == 0)=false:=by simp;omega
 have q4:(p1 == 4)=false:=by simp;omega
 have q3:(p1 == 3)=false:=by simp;omega
 have q2:(p1 == 2)=false:=by simp;omega
 have q6:(p1 == 6)=false:=by simp;omega
 have q1:(p1 == 1)=false:=by simp;omega
 have q5:(p1 == 5)=false:=by simp;omega
 have q7:(p1 == 7)=false:=by simp;omega
 have q8:(p1 == 8)=false:=by simp;omega
 unfold Pa.cells
 simp only
 clear hQ h0 h4 h3 h2 h6 h1 h5 h7 h8
 generalize p3.length=m at *
 go_enter Tryz.func46,Tryz.ntmps46
 go_wp2
 go_ret
 exact⟨rfl,qa _ _⟩
theorem qky (p : Pa) (v : Value) (w : World) (hT : Tab w) (hr : IRow w v p.params) (hn : p.params.length ≤ 1000000) (hz : p.pend.size ≤ 1000000) :
  Calls Tryz.prog 46 #[.agg (p.cells v)] w fun e w'=>e=.returned (.bool (qap p))∧Below w.heap.size w w':=by
 have hr0:=hr
 obtain⟨A,c,rfl,_⟩:=hr0
 have hc:p.st=0∨p.st=1∨p.st=2∨p.st=3∨p.st=4∨p.st=5∨p.st=6∨p.st=7∨p.st=8∨(p.st≠0∧p.st≠4∧p.st≠3∧p.st≠2∧p.st≠6∧p.st≠1∧p.st≠5∧p.st≠7∧p.st≠8):=by omega
 rcases hc with h | h | h | h | h | h | h | h | h | h
 ·exact right_s0 p A c w hT hz h
 ·exact right_s1 p A c w h
 ·exact right_s2 p A c w h
 ·exact right_s3 p A c w hr hn h
 ·exact right_s4 p A c w hr hn h
 ·exact right_s5 p A c w h
 ·exact right_s6 p A c w h
 ·exact right_s7 p A c w h
 ·exact right_s8 p A c w h
 ·exact p_right_no p A c w h
end Go.Proofs.YtpdaekmbpafenaaGreatDoor
