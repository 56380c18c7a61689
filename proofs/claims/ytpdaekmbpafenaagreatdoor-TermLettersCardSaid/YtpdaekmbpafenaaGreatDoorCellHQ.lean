
import Derived.Test.YtpdaekmbpafenaaGreatDoorIRowQ
import Derived.Test.YtpdaekmbpafenaaGreatDoorLtRowQ
import Derived.Maps.OwnOps
import Derived.Maps.Views
import Derived.Deep.RegionWith
import Derived.DataElems
import Derived.Deep.DeepCutAuto
namespace Go.Proofs.YtpdaekmbpafenaaGreatDoor
set_option maxHeartbeats 1000000
set_option maxRecDepth 100000
open Go.RowKit Go.Maps
theorem qcv (a : At) (w : World) :
  Calls Tryz.prog 45 #[a.agg] w fun e w'=>e=.returned (.bool (qab a))∧Below w.heap.size w w':=by
 obtain⟨fg,bg,fl⟩:=a
 have hc:(0≤fg∧fg≤256∧0≤bg∧bg≤256∧0≤fl∧fl≤255)∨(fg < 0)∨(0≤fg∧256 < fg)∨(0≤fg∧fg≤256∧bg < 0)∨(0≤fg∧fg≤256∧0≤bg∧256 < bg)∨(0≤fg∧fg≤256∧0≤bg∧bg≤256∧fl < 0)∨(0≤fg∧fg≤256∧0≤bg∧bg≤256∧0≤fl∧255 < fl):=by omega
 unfold At.agg
 rcases hc with ⟨h1,h2,h3,h4,h5,h6⟩ | h1 | ⟨h1,h2⟩ | ⟨h1,h2,h3⟩ | ⟨h1,h2,h3,h4⟩ | ⟨h1,h2,h3,h4,h5⟩ | ⟨h1,h2,h3,h4,h5,h6⟩
 ·have HR:Hid (qab ⟨fg,bg,fl⟩=true):=by unfold Hid;rw[qd2];exact⟨⟨h1,h2⟩,⟨h3,h4⟩,h5,h6⟩
  go_enter Tryz.func45,Tryz.ntmps45
  go_wp2
  go_ret
  exact⟨qe (by rw[HR.out];first | done | (simp;done) | (simp;omega)),qa _ _⟩
 all_goals
  have HR:Hid (qab ⟨fg,bg,fl⟩=false):=by
   unfold Hid
   cases hb:qab ⟨fg,bg,fl⟩
   ·rfl
   ·rw[qd2] at hb;simp only at hb;omega
  go_enter Tryz.func45,Tryz.ntmps45
  go_wp2
  go_ret
  exact⟨qe (by rw[HR.out];first | done | (simp;done) | (simp;omega)),qa _ _⟩
theorem flagOf_any (n : Int) (w : World) :
  Calls Tryz.prog 234 #[.int .i64 n] w fun e w'=>e=.returned (.int .i64 (qbm n))∧w=w':=by
 have hc:n=1∨n=2∨n=3∨n=4∨n=5∨n=7∨n=8∨n=9∨(¬ n=1∧¬ n=2∧¬ n=3∧¬ n=4∧¬ n=5∧¬ n=7∧¬ n=8∧¬ n=9):=by omega
 rcases hc with rfl | rfl | rfl | rfl | rfl | rfl | rfl | rfl | ⟨h1,h2,h3,h4,h5,h6,h7,h8⟩
 case inr.inr.inr.inr.inr.inr.inr.inr =>
  have HR:Hid (qbm n=0):=by unfold Hid qbm;simp[h1,h2,h3,h4,h5,h6,h7,h8]
  have g1:(n == 1)=false:=by simp[h1]
  have g2:(n == 2)=false:=by simp[h2]
  have g3:(n == 3)=false:=by simp[h3]
  have g4:(n == 4)=false:=by simp[h4]
  have g5:(n == 5)=false:=by simp[h5]
  have g6:(n == 7)=false:=by simp[h6]
  have g7:(n == 8)=false:=by simp[h7]
  have g8:(n == 9)=false:=by simp[h8]
  clear h1 h2 h3 h4 h5 h6 h7 h8
  go_enter Tryz.func234,Tryz.ntmps234
  go_wp2
  go_ret
  exact⟨qaw HR.out.symm,rfl⟩
 all_goals
  go_enter Tryz.func234,Tryz.ntmps234
  go_wp2
  go_ret
  exact⟨rfl,rfl⟩
theorem lawInt:Keyed Tryz.prog 3:=int_keyed Tryz.underlying3
theorem zeroInt (w:World):(zeroValue 3).run Tryz.prog w=.ok (.int .i64 0) w:=by kernel_rfl
abbrev kz (n:Int):Lit:=.int .i64 n
abbrev dz (n:Int):DataW Unit:=.lit (.int .i64 n)
def clrD:DataW Unit:=(((((((DataW.map []).put (kz 22) (dz 3)).put (kz 23) (dz 4)).put (kz 24) (dz 8)).put (kz 25) (dz 16)).put (kz 27) (dz 32)).put (kz 28) (dz 64)).put (kz 29) (dz 128)
theorem clrD_at (n:Int):clrD.atKey (kz n) (dz 0)=dz (qfu n):=by
 have hc:n=22∨n=23∨n=24∨n=25∨n=27∨n=28∨n=29∨(¬ n=22∧¬ n=23∧¬ n=24∧¬ n=25∧¬ n=27∧¬ n=28∧¬ n=29):=by omega
 rcases hc with rfl | rfl | rfl | rfl | rfl | rfl | rfl | ⟨h1,h2,h3,h4,h5,h6,h7⟩
 case inr.inr.inr.inr.inr.inr.inr =>
  unfold clrD qfu
  rw[atKey_put_other (by simp[h7]),atKey_put_other (by simp[h6]),atKey_put_other (by simp[h5]),atKey_put_other (by simp[h4]),atKey_put_other (by simp[h3]),atKey_put_other (by simp[h2]),atKey_put_other (by simp[h1])]
  simp[h1,h2,h3,h4,h5,h6,h7]
  rfl
 all_goals rfl
theorem ins_ {W : World} {b n : Nat} {D : DataW Unit} (hown : W.ownsMap Tryz.prog 3 (plainElem Tryz.prog 3) b n D) (x v : Int) (hn : n < 100) (hwx : (Lit.int .i64 x).wf = true) (hwv : (Lit.int .i64 v).wf = true) :
  ∃ W',(Instr.mapUpdate 217 (.map (some b)) (.int .i64 x) (.int .i64 v)).run Tryz.prog W=.ok () W'∧W'.ownsMap Tryz.prog 3 (plainElem Tryz.prog 3) b (n+1) (D.put (kz x) (dz v))∧W.grownBy W' (some b) :=
 hown.update lawInt Tryz.underlying217 (by unfold maxLen;omega) (keyOf_int_mk Tryz.underlying3 hwx) (plainElem_int Tryz.underlying3 hwv)
theorem cleared_any (n : Int) (w : World) (hwf : (Lit.int .i64 n).wf = true) :
  Calls Tryz.prog 235 #[.int .i64 n] w fun e w'=>e=.returned (.int .i64 (qfu n))∧Below w.heap.size w w':=by
 have hmm:=@run_makeMap Tryz.prog
 have hkey:keyOf Tryz.prog 3 (.int .i64 n)=some (.int .i64 n):=keyOf_int_mk Tryz.underlying3 hwf
 have hbel:Below w.heap.size w (w.alloc (.map #[] 0)):=qa _ _
 have hown0:(w.alloc (.map #[] 0)).ownsMap Tryz.prog 3 (plainElem (H:=Unit) Tryz.prog 3) w.heap.size 0 (.map []):=World.ownsMap_made _ _ _ _
 obtain⟨w1,r1,o1,g1⟩:=ins_ hown0 22 3 (by decide) (by decide) (by decide)
 obtain⟨w2,r2,o2,g2⟩:=ins_ o1 23 4 (by decide) (by decide) (by decide)
 obtain⟨w3,r3,o3,g3⟩:=ins_ o2 24 8 (by decide) (by decide) (by decide)
 obtain⟨w4,r4,o4,g4⟩:=ins_ o3 25 16 (by decide) (by decide) (by decide)
 obtain⟨w5,r5,o5,g5⟩:=ins_ o4 27 32 (by decide) (by decide) (by decide)
 obtain⟨w6,r6,o6,g6⟩:=ins_ o5 28 64 (by decide) (by decide) (by decide)
 obtain⟨w7,r7,o7,g7⟩:=ins_ o6 29 128 (by decide) (by decide) (by decide)
 have b1:=hbel.grown g1 (by simp) (fun k hk=>by cases hk;exact Nat.le_refl _)
 have b2:=b1.grown g2 b1.size (fun k hk=>by cases hk;exact Nat.le_refl _)
 have b3:=b2.grown g3 b2.size (fun k hk=>by cases hk;exact Nat.le_refl _)
 have b4:=b3.grown g4 b3.size (fun k hk=>by cases hk;exact Nat.le_refl _)
 have b5:=b4.grown g5 b4.size (fun k hk=>by cases hk;exact Nat.le_refl _)
 have b6:=b5.grown g6 b5.size (fun k hk=>by cases hk;exact Nat.le_refl _)
 have b7:=b6.grown g7 b6.size (fun k hk=>by cases hk;exact Nat.le_refl _)
 obtain⟨c,r8,hat,_⟩:=o7.lookup_int lawInt Tryz.underlying217 Tryz.underlying3 (zeroInt _) hkey
 have hD:clrD.atKey (kz n) (dz 0)=.lit (.int .i64 c):=hat
 rw[clrD_at] at hD
 have hce:c=qfu n:=by cases hD;rfl
 have HC:=hid hce
 have HB:=hid b7
 clear hkey hbel hown0 hwf hat hD hce b1 b2 b3 b4 b5 b6 b7 g1 g2 g3 g4 g5 g6 g7 o1 o2 o3 o4 o5 o6 o7
 go_enter Tryz.func235,Tryz.ntmps235
 go_wp2
 go_ret
 exact⟨qaw HC.out,HB.out⟩
set_option maxHeartbeats 1000000
set_option maxRecDepth 100000
def qjm (a:Int) (b:Nat) (e:Ending):Prop:=e=.returned (.tuple #[.int .i64 a,.int .i64 (b:Nat)])
theorem qgn {p:Int×Nat} {a:Int} {b:Nat} (h:p=(a,b)) {x y:Int} (hx:x=a) (hy:y=b):qjm p.1 p.2 (.returned (.tuple #[.int .i64 x,.int .i64 y])):=by
 rw[h,hx,hy];rfl
theorem marks_step {s : ByteArray} {m : Nat} (h0 : s.size ≠ 0) (hm : m ≤ 2) :
  qay (2 - m) s m=if (qi s).e=0∧qg (qi s).r=0∧m≠2 then qay (2 - (m+1)) (s.extract (qi s).n.toNat s.size) (m+1) else none:=by
 have hc:m=0∨m=1∨m=2:=by omega
 rcases hc with rfl | rfl | rfl
 ·show qay 2 s 0=_
  conv=>lhs;rw[qay,if_neg h0]
  exact qhw (by simp)
 ·show qay 1 s 1=_
  conv=>lhs;rw[qay,if_neg h0]
  exact qhw (by simp)
 ·show qay 0 s 2=_
  conv=>lhs;rw[qay,if_neg h0]
  rw[if_neg (by simp)]
theorem marks_end {s:ByteArray} {m:Nat} (h0:s.size=0):qay (2 - m) s m=some m:=by
 cases 2 - m <;> rw[qay,if_pos h0]
theorem qkh (s : ByteArray) (w : World) (hs : s.size ≤ maxLen) (hT : Tab w) (hW : TabW w) :
  Calls Tryz.prog 237 #[.string s] w fun e w'=>qjm (qaz s).1 (qaz s).2 e∧Below w.heap.size w w':=by
 have hmax:=hs
 unfold maxLen at hs
 have hfi:=qdd s w hmax hT
 have hwd:=fun r W (hb:Below w.heap.size w W)=>qel r W (hT.below hb) (hW.below hb)
 have hnn:=qgm s
 have hP:qaz s=if (qi s).e=0∧1≤qg (qi s).r then
  match qay 2 (s.extract (qi s).n.toNat s.size) 0 with
  | some k=>(qg (qi s).r,k)
  | none=>(0,0)
  else (0,0):=rfl
 unfold Got.val at hfi
 generalize qi s=g at *
 obtain⟨r,gn,ge⟩:=g
 simp only at hfi hP hnn
 by_cases he:ge=0
 ·subst he
  have hw1:=fun W hb=>hwd r W hb
  by_cases hv:1≤qg r
  ·rw[if_pos ⟨rfl,hv⟩] at hP
   generalize qg r=V at *
   have HP:=hid hP
   have hg0:0≤gn:=hnn.1
   have hg1:gn≤(s.size:Int):=by omega
   have hv':¬ V < 1:=by omega
   obtain⟨s1,hs1⟩:∃ s1,s.extract gn.toNat s.size=s1:=⟨_,rfl⟩
   have hz1:s1.size≤s.size:=by rw[← hs1,ql];omega
   have HS1:=hid hs1
   clear hP hnn hv
   go_enter Tryz.func237,Tryz.ntmps237
   go_upto_region 6 with (first | (go_at_call 109;refine hfi.mono ?_;rintro e w2 ⟨rfl,hb⟩;have n2:=hb) | (go_at_call 171;refine(hw1 _ n2).mono ?_;rintro e w3 ⟨rfl,hb3⟩;have n2:=n2.trans (hb3.mono n2.size)))
   clear hfi hs1 hb hw1
   go_loopw [0,2,3] (fun tv vv mv wr=>∃ (x:ByteArray) (m:Nat),tv=.string x∧vv=.int .i64 V∧mv=.int .i64 m∧m≤2∧x.size≤s.size∧qay 2 s1 0=qay (2 - m) x m∧Below w.heap.size w wr) (fun tv _ _ _=>strLen tv)
   case atStart=>exact⟨s1,0,rfl,rfl,rfl,by omega,hz1,rfl,n2⟩
   case round =>
    clear n2 hz1
    obtain⟨x,m,rfl,rfl,rfl,hm,hxs,hmk,hbr⟩:=hrel
    have HM:=hid hmk
    clear hmk
    by_cases h0:x.size=0
    ·have HE:Hid (qaz s=(V,m)):=by unfold Hid;rw[HP.out,HS1.out,HM.out,marks_end h0]
     have hx:=qaj h0
     subst hx
     clear h0
     go_wp2
     go_ret2
     exact⟨qgn HE.out rfl rfl,hbr⟩
    ·have hne:=qcd h0
     have hst:=marks_step h0 hm
     have hf2:=qdd x wr (by unfold maxLen;omega) (hT.below hbr)
     have hn2:=qgm x
     unfold Got.val at hf2
     generalize qi x=g at *
     obtain⟨r2,gn2,ge2⟩:=g
     simp only at hst hf2 hn2
     have hw2:=fun W hb=>hwd r2 W hb
     clear hwd
     by_cases he2:ge2=0
     ·subst he2
      by_cases hv2:qg r2=0
      ·by_cases hm2:m=2
       ·rw[if_neg (fun h=>h.2.2 hm2)] at hst
        have HE:Hid (qaz s=(0,0)):=by unfold Hid;rw[HP.out,HS1.out,HM.out,hst]
        rw[hv2] at hw2
        subst hm2
        clear hst hn2
        go_wp2_with (first | (go_at_call 109;refine hf2.mono ?_;rintro e w4 ⟨rfl,hb4⟩;have n4:=hbr.trans (hb4.mono hbr.size)) | (go_at_call 171;refine(hw2 _ n4).mono ?_;rintro e w5 ⟨rfl,hb5⟩;have n4:=n4.trans (hb5.mono n4.size)))
        go_ret2
        exact⟨qgn HE.out rfl rfl,n4⟩
       ·rw[if_pos ⟨rfl,hv2,hm2⟩] at hst
        have hn3:1≤gn2.toNat:=hn2.2.2 rfl
        have hn4:(gn2.toNat:Int)=gn2:=Int.toNat_of_nonneg hn2.1
        have hn5:gn2≤(x.size:Int):=by omega
        have hn6:0≤gn2:=hn2.1
        have hme:((m:Int) == 2)=false:=by simp;omega
        have hm3:m≤1:=by omega
        obtain⟨x2,hx2⟩:∃ x2,x.extract gn2.toNat x.size=x2:=⟨_,rfl⟩
        have hz2:x2.size=x.size - gn2.toNat:=by rw[← hx2,ql];omega
        rw[hx2] at hst
        have HST:=hid hst
        have HZ:=hid hz2
        have HN:=hid hn4
        rw[hv2] at hw2
        clear hst hn2 hz2 hn4 hm2 hv2
        go_wp2_with (first | (go_at_call 109;refine hf2.mono ?_;rintro e w4 ⟨rfl,hb4⟩;have n4:=hbr.trans (hb4.mono hbr.size)) | (go_at_call 171;refine(hw2 _ n4).mono ?_;rintro e w5 ⟨rfl,hb5⟩;have n4:=n4.trans (hb5.mono n4.size)))
        go_roundw
        case rel=>exact⟨x2,m+1,rfl,rfl,by go_num,by omega,by have:=HZ.out;omega,HM.out.trans HST.out,n4⟩
        case measure=>have:=HZ.out;simp only[strLen];omega
      ·rw[if_neg (fun h=>hv2 h.2.1)] at hst
       have HE:Hid (qaz s=(0,0)):=by unfold Hid;rw[HP.out,HS1.out,HM.out,hst]
       generalize qg r2=V2 at *
       have hv3:(V2 != 0)=true:=by simp[hv2]
       clear hst hn2 hv2
       go_wp2_with (first | (go_at_call 109;refine hf2.mono ?_;rintro e w4 ⟨rfl,hb4⟩;have n4:=hbr.trans (hb4.mono hbr.size)) | (go_at_call 171;refine(hw2 _ n4).mono ?_;rintro e w5 ⟨rfl,hb5⟩;have n4:=n4.trans (hb5.mono n4.size)))
       go_ret2
       exact⟨qgn HE.out rfl rfl,n4⟩
     ·rw[if_neg (fun h=>he2 h.1)] at hst
      have HE:Hid (qaz s=(0,0)):=by unfold Hid;rw[HP.out,HS1.out,HM.out,hst]
      have he3:(ge2 != 0)=true:=by simp[he2]
      clear hst hn2 he2 hw2
      go_wp2_with (go_at_call 109;refine hf2.mono ?_;rintro e w4 ⟨rfl,hb4⟩;have n4:=hbr.trans (hb4.mono hbr.size))
      go_ret2
      exact⟨qgn HE.out rfl rfl,n4⟩
  ·rw[if_neg (fun h=>hv h.2)] at hP
   have HE:=hid hP
   have hv':qg r < 1:=by omega
   generalize qg r=V at *
   clear hP hnn hv
   go_enter Tryz.func237,Tryz.ntmps237
   go_wp2_with (first | (go_at_call 109;refine hfi.mono ?_;rintro e w2 ⟨rfl,hb⟩;have n2:=hb) | (go_at_call 171;refine(hw1 _ n2).mono ?_;rintro e w3 ⟨rfl,hb3⟩;have n2:=n2.trans (hb3.mono n2.size)))
   go_ret2
   exact⟨qgn HE.out rfl rfl,n2⟩
 ·rw[if_neg (fun h=>he h.1)] at hP
  have HE:=hid hP
  have he3:(ge != 0)=true:=by simp[he]
  clear hP hnn he hwd
  go_enter Tryz.func237,Tryz.ntmps237
  go_wp2_with (go_at_call 109;refine hfi.mono ?_;rintro e w2 ⟨rfl,hb⟩)
  go_ret2
  exact⟨qgn HE.out rfl rfl,hb⟩
set_option maxHeartbeats 1000000
set_option maxRecDepth 100000
theorem qde (c : Ce) (w : World) (hs : c.tx.size ≤ maxLen) (hT : Tab w) (hW : TabW w) :
  Calls Tryz.prog 216 #[c.agg] w fun e w'=>e=.returned (.bool (qq c))∧Below w.heap.size w w':=by
 obtain⟨tx,wd,fg,bg,fl⟩:=c
 have hlook:=qcv ⟨fg,bg,fl⟩
 have hpa:=fun W (hb:Below w.heap.size w W)=>qkh tx W hs (hT.below hb) (hW.below hb)
 have hR:qq ⟨tx,wd,fg,bg,fl⟩=(qab ⟨fg,bg,fl⟩ && (if tx.size=0 then decide (wd=0∨wd=1) else decide (0 < (qaz tx).1∧(qaz tx).1=wd))):=rfl
 have hbx:=Box.new w 57 #[.string tx,.int .i64 wd,.int .i64 fg,.int .i64 bg,.int .i64 fl]
 have hbel:Below w.heap.size w (w.alloc (.cells #[.string tx,.int .i64 wd,.int .i64 fg,.int .i64 bg,.int .i64 fl] 57)):=qa _ _
 have HBX:=hid hbx
 have HBL:=hid hbel
 unfold At.agg at hlook
 unfold qjm at hpa
 show Calls _ _ #[.agg #[.string tx,.int .i64 wd,.int .i64 fg,.int .i64 bg,.int .i64 fl]] _ _
 simp only at hlook
 clear hbx hbel
 cases hl:qab ⟨fg,bg,fl⟩
 ·rw[hl] at hlook hR
  rw[Bool.false_and] at hR
  have HR:=hid hR
  clear hR hpa hl
  go_enter Tryz.func216,Tryz.ntmps216
  go_wp2_with (go_at_call 45;refine(hlook _).mono ?_;rintro e w2 ⟨rfl,hb⟩)
  go_ret
  exact⟨qe HR.out.symm,HBL.out.trans (hb.mono (by simp))⟩
 ·rw[hl] at hlook hR
  rw[Bool.true_and] at hR
  clear hl
  by_cases h0:tx.size=0
  ·rw[if_pos h0] at hR
   have HR:=hid hR
   have hx:=qaj h0
   subst hx
   clear hR hpa h0 hs
   have hc:wd=0∨wd=1∨(¬ wd=0∧¬ wd=1):=by omega
   rcases hc with rfl | rfl | ⟨g0,g1⟩
   ·go_enter Tryz.func216,Tryz.ntmps216
    go_upto_region 3 with (go_at_call 45;refine(hlook _).mono ?_;rintro e w2 ⟨rfl,hb⟩)
    obtain⟨⟨c0,c1,c2,c3,c4⟩,f0,f1,f2,f3,f4⟩:=(HBX.out.below hb (by simp)).five
    go_wp2
    go_ret
    exact⟨qe (by rw[HR.out];simp),HBL.out.trans (hb.mono (by simp))⟩
   ·go_enter Tryz.func216,Tryz.ntmps216
    go_upto_region 3 with (go_at_call 45;refine(hlook _).mono ?_;rintro e w2 ⟨rfl,hb⟩)
    obtain⟨⟨c0,c1,c2,c3,c4⟩,f0,f1,f2,f3,f4⟩:=(HBX.out.below hb (by simp)).five
    go_wp2
    go_ret
    exact⟨qe (by rw[HR.out];simp),HBL.out.trans (hb.mono (by simp))⟩
   ·have HR2:Hid (decide (wd=0∨wd=1)=false):=by unfold Hid;exact decide_eq_false (by omega)
    have q0:(wd == 0)=false:=by simp[g0]
    have q1:(wd == 1)=false:=by simp[g1]
    clear g0 g1
    go_enter Tryz.func216,Tryz.ntmps216
    go_upto_region 3 with (go_at_call 45;refine(hlook _).mono ?_;rintro e w2 ⟨rfl,hb⟩)
    obtain⟨⟨c0,c1,c2,c3,c4⟩,f0,f1,f2,f3,f4⟩:=(HBX.out.below hb (by simp)).five
    go_wp2
    go_ret
    exact⟨qe (by rw[HR.out,HR2.out]),HBL.out.trans (hb.mono (by simp))⟩
  ·rw[if_neg h0] at hR
   have hne:=qcd h0
   generalize qaz tx=P at *
   obtain⟨p,k⟩:=P
   simp only at hR hpa
   have HR:=hid hR
   have hcs:(0 < p∧p=wd)∨(0 < p∧¬ p=wd)∨p≤0:=by omega
   clear hR h0 hs
   rcases hcs with ⟨g0,rfl⟩ | ⟨g0,g1⟩ | g0
   ·have HR2:Hid (decide (0 < p∧p=p)=true):=by unfold Hid;exact decide_eq_true ⟨g0,rfl⟩
    go_enter Tryz.func216,Tryz.ntmps216
    go_upto_region 3 with (go_at_call 45;refine(hlook _).mono ?_;rintro e w2 ⟨rfl,hb⟩)
    have d0:=HBX.out.below hb (by simp)
    have n2:=HBL.out.trans (hb.mono (by simp))
    obtain⟨⟨c0,c1,c2,c3,c4⟩,f0,f1,f2,f3,f4⟩:=d0.five
    go_upto_region 6 with (go_at_call 237;refine(hpa _ n2).mono ?_;rintro e w3 ⟨rfl,hb3⟩)
    clear c0 c1 c2 c3 c4 f0 f1 f2 f3 f4
    obtain⟨⟨c0,c1,c2,c3,c4⟩,f0,f1,f2,f3,f4⟩:=(d0.below hb3 d0.lt).five
    go_wp2
    go_ret
    exact⟨qe (by rw[HR.out,HR2.out]),n2.trans (hb3.mono n2.size)⟩
   ·have HR2:Hid (decide (0 < p∧p=wd)=false):=by unfold Hid;exact decide_eq_false (fun h=>g1 h.2)
    have q1:(p == wd)=false:=by simp[g1]
    clear g1
    go_enter Tryz.func216,Tryz.ntmps216
    go_upto_region 3 with (go_at_call 45;refine(hlook _).mono ?_;rintro e w2 ⟨rfl,hb⟩)
    have d0:=HBX.out.below hb (by simp)
    have n2:=HBL.out.trans (hb.mono (by simp))
    obtain⟨⟨c0,c1,c2,c3,c4⟩,f0,f1,f2,f3,f4⟩:=d0.five
    go_upto_region 6 with (go_at_call 237;refine(hpa _ n2).mono ?_;rintro e w3 ⟨rfl,hb3⟩)
    clear c0 c1 c2 c3 c4 f0 f1 f2 f3 f4
    obtain⟨⟨c0,c1,c2,c3,c4⟩,f0,f1,f2,f3,f4⟩:=(d0.below hb3 d0.lt).five
    go_wp2
    go_ret
    exact⟨qe (by rw[HR.out,HR2.out]),n2.trans (hb3.mono n2.size)⟩
   ·have HR2:Hid (decide (0 < p∧p=wd)=false):=by unfold Hid;exact decide_eq_false (fun h=>by omega)
    go_enter Tryz.func216,Tryz.ntmps216
    go_upto_region 3 with (go_at_call 45;refine(hlook _).mono ?_;rintro e w2 ⟨rfl,hb⟩)
    have d0:=HBX.out.below hb (by simp)
    have n2:=HBL.out.trans (hb.mono (by simp))
    obtain⟨⟨c0,c1,c2,c3,c4⟩,f0,f1,f2,f3,f4⟩:=d0.five
    go_upto_region 6 with (go_at_call 237;refine(hpa _ n2).mono ?_;rintro e w3 ⟨rfl,hb3⟩)
    clear c0 c1 c2 c3 c4 f0 f1 f2 f3 f4
    obtain⟨⟨c0,c1,c2,c3,c4⟩,f0,f1,f2,f3,f4⟩:=(d0.below hb3 d0.lt).five
    go_wp2
    go_ret
    exact⟨qe (by rw[HR.out,HR2.out]),n2.trans (hb3.mono n2.size)⟩
set_option maxHeartbeats 1000000
set_option maxRecDepth 100000
def CePost (c:Ce) (n:Int) (e:Ending):Prop:=e=.returned (.tuple #[c.agg,.int .i64 n])
theorem utext_yes (r : Int) (hr : qak r = true) (w : World) (hT : Tab w) :
  Calls Tryz.prog 238 #[.int .i32 r] w fun e w'=>e=.returned (.tuple #[.string (Utf8.encode r),.int .i64 0])∧Below w.heap.size w w':=by
 have hl:=ql2 r w hT
 rw[hr] at hl
 go_enter Tryz.func238,Tryz.ntmps238
 go_wp2_with (go_at_call 209;refine hl.mono ?_;rintro e w' ⟨rfl,hb⟩)
 go_ret2
 exact⟨rfl,hb⟩
theorem of_no (r : Int) (a : At) (w : World) (h : qg r < 1 ∨ qab a = false) (hT : Tab w) (hW : TabW w) :
  Calls Tryz.prog 214 #[.int .i32 r,a.agg] w fun e w'=>CePost Ce.zero 1 e∧Below w.heap.size w w':=by
 have hwd:=fun W (hb:Below w.heap.size w W)=>qel r W (hT.below hb) (hW.below hb)
 have hlook:=qcv a
 obtain⟨fg,bg,fl⟩:=a
 unfold At.agg at hlook ⊢
 simp only at hlook ⊢
 have hbx:=(Box.new w 26 #[.int .i64 fg,.int .i64 bg,.int .i64 fl]).alloc (.cells #[.string ⟨#[]⟩,.int .i64 0,.int .i64 0,.int .i64 0,.int .i64 0] 57)
 have hre:=Box.new (w.alloc (.cells #[.int .i64 fg,.int .i64 bg,.int .i64 fl] 26)) 57 #[.string ⟨#[]⟩,.int .i64 0,.int .i64 0,.int .i64 0,.int .i64 0]
 have hbel:Below w.heap.size w ((w.alloc (.cells #[.int .i64 fg,.int .i64 bg,.int .i64 fl] 26)).alloc (.cells #[.string ⟨#[]⟩,.int .i64 0,.int .i64 0,.int .i64 0,.int .i64 0] 57)):=(qa _ _).alloc (by simp) _
 rw[World.size_alloc] at hre
 have HX:=hid hbx
 have HE:=hid hre
 have HB:=hid hbel
 clear hbx hre hbel
 by_cases hv:qg r < 1
 ·generalize qg r=V at *
  clear h hlook
  go_enter Tryz.func214,Tryz.ntmps214
  go_upto_region 2 with (go_at_call 171;refine(hwd _ HB.out).mono ?_;rintro e w2 ⟨rfl,hb⟩)
  have n2:=HB.out.trans (hb.mono (by simp;omega))
  have d1:=HE.out.below hb (by simp)
  clear hb
  obtain⟨⟨c0,c1,c2,c3,c4⟩,f0,f1,f2,f3,f4⟩:=d1.five
  go_wp2
  refine bodyPost_ret (v:=.tuple #[Ce.zero.agg,.int .i64 1]) (by simp[results,Tryz.results214,go_sem,Ce.zero,Ce.agg,Ce.cells,c0,c1,c2,c3,c4]) rfl ⟨rfl,?_⟩
  repeat (first | exact n2 | refine Below.setCell ?_ (by simp) _)
 ·have hl : qab ⟨fg, bg, fl⟩ = false := by
   rcases h with h | h
   ·exact absurd h hv
   ·exact h
  rw[hl] at hlook
  have hv':1≤qg r:=by omega
  generalize qg r=V at *
  clear h hl hv
  go_enter Tryz.func214,Tryz.ntmps214
  go_upto_region 2 with (go_at_call 171;refine(hwd _ HB.out).mono ?_;rintro e w2 ⟨rfl,hb⟩)
  have n2:=HB.out.trans (hb.mono (by simp;omega))
  have d0:=HX.out.below hb (by simp;omega)
  have d1:=HE.out.below hb (by simp)
  clear hb
  obtain⟨⟨c0,c1,c2⟩,f0,f1,f2⟩:=d0.three
  go_upto_region 3 with (go_at_call 45;refine(hlook _).mono ?_;rintro e w3 ⟨rfl,hb3⟩)
  have n3:=n2.trans (hb3.mono n2.size)
  have d1:=d1.below hb3 d1.lt
  clear hb3 c0 c1 c2 f0 f1 f2
  obtain⟨⟨c0,c1,c2,c3,c4⟩,f0,f1,f2,f3,f4⟩:=d1.five
  go_wp2
  refine bodyPost_ret (v:=.tuple #[Ce.zero.agg,.int .i64 1]) (by simp[results,Tryz.results214,go_sem,Ce.zero,Ce.agg,Ce.cells,c0,c1,c2,c3,c4]) rfl ⟨rfl,?_⟩
  repeat (first | exact n3 | refine Below.setCell ?_ (by simp) _)
theorem of_yes (r : Int) (a : At) (w : World) (h1 : 1 ≤ qg r) (hl : qab a = true) (hT : Tab w) (hW : TabW w) :
  Calls Tryz.prog 214 #[.int .i32 r,a.agg] w fun e w'=>CePost ⟨Utf8.encode r,qg r,a.fg,a.bg,a.fl⟩ 0 e∧Below w.heap.size w w':=by
 have hwd:=fun W (hb:Below w.heap.size w W)=>qel r W (hT.below hb) (hW.below hb)
 have htx:=fun W (hb:Below w.heap.size w W)=>utext_yes r (qa8 (by omega)) W (hT.below hb)
 have hlook:=qcv a
 rw[hl] at hlook
 obtain⟨fg,bg,fl⟩:=a
 unfold At.agg at hlook ⊢
 simp only at hlook ⊢
 have hbx:=(Box.new w 26 #[.int .i64 fg,.int .i64 bg,.int .i64 fl]).alloc (.cells #[.string ⟨#[]⟩,.int .i64 0,.int .i64 0,.int .i64 0,.int .i64 0] 57)
 have hre:=Box.new (w.alloc (.cells #[.int .i64 fg,.int .i64 bg,.int .i64 fl] 26)) 57 #[.string ⟨#[]⟩,.int .i64 0,.int .i64 0,.int .i64 0,.int .i64 0]
 have hbel:Below w.heap.size w ((w.alloc (.cells #[.int .i64 fg,.int .i64 bg,.int .i64 fl] 26)).alloc (.cells #[.string ⟨#[]⟩,.int .i64 0,.int .i64 0,.int .i64 0,.int .i64 0] 57)):=(qa _ _).alloc (by simp) _
 rw[World.size_alloc] at hre
 have HX:=hid hbx
 have HE:=hid hre
 have HB:=hid hbel
 clear hbx hre hbel hl
 generalize qg r=V at *
 generalize Utf8.encode r=E at *
 go_enter Tryz.func214,Tryz.ntmps214
 go_upto_region 2 with (go_at_call 171;refine(hwd _ HB.out).mono ?_;rintro e w2 ⟨rfl,hb⟩)
 have n2:=HB.out.trans (hb.mono (by simp;omega))
 have d0:=HX.out.below hb (by simp;omega)
 have d1:=HE.out.below hb (by simp)
 clear hb
 obtain⟨⟨c0,c1,c2⟩,f0,f1,f2⟩:=d0.three
 go_upto_region 4 with (go_at_call 45;refine(hlook _).mono ?_;rintro e w3 ⟨rfl,hb3⟩)
 have n3:=n2.trans (hb3.mono n2.size)
 have d0:=d0.below hb3 d0.lt
 have d1:=d1.below hb3 d1.lt
 clear hb3 c0 c1 c2 f0 f1 f2
 go_upto_region 5 with (go_at_call 238;refine(htx _ n3).mono ?_;rintro e w4 ⟨rfl,hb4⟩)
 have n4:=n3.trans (hb4.mono n3.size)
 have d0:=d0.below hb4 d0.lt
 have d1:=d1.below hb4 d1.lt
 clear hb4
 obtain⟨⟨b0,b1,b2⟩,g0,g1,g2⟩:=d0.three
 obtain⟨⟨c0,c1,c2,c3,c4⟩,f0,f1,f2,f3,f4⟩:=d1.five
 go_wp2
 refine bodyPost_ret (v:=.tuple #[Ce.agg ⟨E,V,fg,bg,fl⟩,.int .i64 0]) (by simp[results,Tryz.results214,go_sem,Ce.agg,Ce.cells,c0,c1,c2,c3,c4]) rfl ⟨rfl,?_⟩
 repeat (first | exact n4 | refine Below.setCell ?_ (by simp) _)
theorem blank_any (a : At) (w : World) :
  Calls Tryz.prog 127 #[a.agg] w fun e w'=>e=.returned (Ce.agg ⟨⟨#[]⟩,1,0,a.bg,0⟩)∧Below w.heap.size w w':=by
 obtain⟨fg,bg,fl⟩:=a
 unfold At.agg
 go_enter Tryz.func127,Tryz.ntmps127
 go_wp2
 refine bodyPost_ret (v:=Ce.agg ⟨⟨#[]⟩,1,0,bg,0⟩) (by simp[results,Tryz.results127,go_sem,Ce.agg,Ce.cells]) rfl ⟨rfl,?_⟩
 exact(qa _ _).alloc (by simp) _
set_option maxHeartbeats 4000000
set_option maxRecDepth 100000
theorem mark_no (c : Ce) (r : Int) (w : World) (hs : c.tx.size ≤ 1000) (h : qq c = false ∨ c.tx.size = 0 ∨ qg r ≠ 0) (hT : Tab w) (hW : TabW w) :
  Calls Tryz.prog 211 #[c.agg,.int .i32 r] w fun e w'=>CePost Ce.zero 1 e∧Below w.heap.size w w':=by
 have hri:=fun W (hb:Below w.heap.size w W)=>qde c W (by unfold maxLen;omega) (hT.below hb) (hW.below hb)
 have hwd:=fun W (hb:Below w.heap.size w W)=>qel r W (hT.below hb) (hW.below hb)
 obtain⟨tx,wd,fg,bg,fl⟩:=c
 unfold Ce.agg Ce.cells at hri ⊢
 simp only at hri hs h ⊢
 have hbx:=(Box.new w 57 #[.string tx,.int .i64 wd,.int .i64 fg,.int .i64 bg,.int .i64 fl]).alloc (.cells #[.string ⟨#[]⟩,.int .i64 0,.int .i64 0,.int .i64 0,.int .i64 0] 57)
 have hre:=Box.new (w.alloc (.cells #[.string tx,.int .i64 wd,.int .i64 fg,.int .i64 bg,.int .i64 fl] 57)) 57 #[.string ⟨#[]⟩,.int .i64 0,.int .i64 0,.int .i64 0,.int .i64 0]
 have hbel:Below w.heap.size w ((w.alloc (.cells #[.string tx,.int .i64 wd,.int .i64 fg,.int .i64 bg,.int .i64 fl] 57)).alloc (.cells #[.string ⟨#[]⟩,.int .i64 0,.int .i64 0,.int .i64 0,.int .i64 0] 57)):=(qa _ _).alloc (by simp) _
 rw[World.size_alloc] at hre
 have HX:=hid hbx
 have HE:=hid hre
 have HB:=hid hbel
 clear hbx hre hbel
 cases hr:qq ⟨tx,wd,fg,bg,fl⟩
 ·rw[hr] at hri
  clear h hr hs hwd
  go_enter Tryz.func211,Tryz.ntmps211
  go_upto_region 2 with (go_at_call 216;refine(hri _ HB.out).mono ?_;rintro e w2 ⟨rfl,hb⟩;have n2:=HB.out.trans (hb.mono (by simp;omega));have d0:=HX.out.below hb (by simp;omega);have d1:=HE.out.below hb (by simp);obtain⟨⟨b0,b1,b2,b3,b4⟩,g0,g1,g2,g3,g4⟩:=d0.five)
  obtain⟨⟨c0,c1,c2,c3,c4⟩,f0,f1,f2,f3,f4⟩:=d1.five
  go_wp2
  refine bodyPost_ret (v:=.tuple #[Ce.zero.agg,.int .i64 1]) (by simp[results,Tryz.results211,go_sem,Ce.zero,Ce.agg,Ce.cells,c0,c1,c2,c3,c4]) rfl ⟨rfl,?_⟩
  repeat (first | exact n2 | refine Below.setCell ?_ (by simp) _)
 ·rw[hr] at hri h
  clear hr
  by_cases h0:tx.size=0
  ·have hx:=qaj h0
   subst hx
   clear h h0 hs hwd
   go_enter Tryz.func211,Tryz.ntmps211
   go_upto_region 2 with (go_at_call 216;refine(hri _ HB.out).mono ?_;rintro e w2 ⟨rfl,hb⟩;have n2:=HB.out.trans (hb.mono (by simp;omega));have d0:=HX.out.below hb (by simp;omega);have d1:=HE.out.below hb (by simp);obtain⟨⟨b0,b1,b2,b3,b4⟩,g0,g1,g2,g3,g4⟩:=d0.five)
   obtain⟨⟨c0,c1,c2,c3,c4⟩,f0,f1,f2,f3,f4⟩:=d1.five
   go_wp2
   refine bodyPost_ret (v:=.tuple #[Ce.zero.agg,.int .i64 1]) (by simp[results,Tryz.results211,go_sem,Ce.zero,Ce.agg,Ce.cells,c0,c1,c2,c3,c4]) rfl ⟨rfl,?_⟩
   repeat (first | exact n2 | refine Below.setCell ?_ (by simp) _)
  ·have hne:=qcd h0
   have hv:qg r≠0:=by
    rcases h with h | h | h
    ·exact absurd h (by simp)
    ·exact absurd h h0
    ·exact h
   generalize qg r=V at *
   have hv':(V != 0)=true:=by simp[hv]
   clear h h0 hs hv
   go_enter Tryz.func211,Tryz.ntmps211
   go_upto_region 2 with (first | (go_at_call 216;refine(hri _ HB.out).mono ?_;rintro e w2 ⟨rfl,hb⟩;have n2:=HB.out.trans (hb.mono (by simp;omega));have d0:=HX.out.below hb (by simp;omega);have d1:=HE.out.below hb (by simp);obtain⟨⟨b0,b1,b2,b3,b4⟩,g0,g1,g2,g3,g4⟩:=d0.five) | (go_at_call 171;refine(hwd _ n2).mono ?_;rintro e w3 ⟨rfl,hb3⟩;have n2:=n2.trans (hb3.mono n2.size);have d0:=d0.below hb3 d0.lt;have d1:=d1.below hb3 d1.lt))
   obtain⟨⟨c0,c1,c2,c3,c4⟩,f0,f1,f2,f3,f4⟩:=d1.five
   go_wp2
   refine bodyPost_ret (v:=.tuple #[Ce.zero.agg,.int .i64 1]) (by simp[results,Tryz.results211,go_sem,Ce.zero,Ce.agg,Ce.cells,c0,c1,c2,c3,c4]) rfl ⟨rfl,?_⟩
   repeat (first | exact n2 | refine Below.setCell ?_ (by simp) _)
theorem mark_full (c : Ce) (r : Int) (w : World) (hs : c.tx.size ≤ 1000) (hr : qq c = true) (h0 : c.tx.size ≠ 0) (hv : qg r = 0) (hp : (qaz c.tx).2 = 2) (hT : Tab w) (hW : TabW w) :
  Calls Tryz.prog 211 #[c.agg,.int .i32 r] w fun e w'=>CePost Ce.zero 7 e∧Below w.heap.size w w':=by
 have hri:=fun W (hb:Below w.heap.size w W)=>qde c W (by unfold maxLen;omega) (hT.below hb) (hW.below hb)
 have hwd:=fun W (hb:Below w.heap.size w W)=>qel r W (hT.below hb) (hW.below hb)
 rw[hr] at hri
 rw[hv] at hwd
 have hpa:=fun W (hb:Below w.heap.size w W)=>qkh c.tx W (by unfold maxLen;omega) (hT.below hb) (hW.below hb)
 unfold qjm at hpa
 obtain⟨tx,wd,fg,bg,fl⟩:=c
 unfold Ce.agg Ce.cells at hri ⊢
 simp only at hri hs h0 hp hpa ⊢
 have hbx:=(Box.new w 57 #[.string tx,.int .i64 wd,.int .i64 fg,.int .i64 bg,.int .i64 fl]).alloc (.cells #[.string ⟨#[]⟩,.int .i64 0,.int .i64 0,.int .i64 0,.int .i64 0] 57)
 have hre:=Box.new (w.alloc (.cells #[.string tx,.int .i64 wd,.int .i64 fg,.int .i64 bg,.int .i64 fl] 57)) 57 #[.string ⟨#[]⟩,.int .i64 0,.int .i64 0,.int .i64 0,.int .i64 0]
 have hbel:Below w.heap.size w ((w.alloc (.cells #[.string tx,.int .i64 wd,.int .i64 fg,.int .i64 bg,.int .i64 fl] 57)).alloc (.cells #[.string ⟨#[]⟩,.int .i64 0,.int .i64 0,.int .i64 0,.int .i64 0] 57)):=(qa _ _).alloc (by simp) _
 rw[World.size_alloc] at hre
 have HX:=hid hbx
 have HE:=hid hre
 have HB:=hid hbel
 clear hbx hre hbel
 have hne:=qcd h0
 generalize qaz tx=P at *
 obtain⟨pw,pk⟩:=P
 simp only at hpa hp
 clear h0 hr hv
 subst hp
 go_enter Tryz.func211,Tryz.ntmps211
 go_upto_region 3 with (first | (go_at_call 216;refine(hri _ HB.out).mono ?_;rintro e w2 ⟨rfl,hb⟩;have n2:=HB.out.trans (hb.mono (by simp;omega));have d0:=HX.out.below hb (by simp;omega);have d1:=HE.out.below hb (by simp);obtain⟨⟨b0,b1,b2,b3,b4⟩,g0,g1,g2,g3,g4⟩:=d0.five) | (go_at_call 171;refine(hwd _ n2).mono ?_;rintro e w3 ⟨rfl,hb3⟩;have n2:=n2.trans (hb3.mono n2.size);have d0:=d0.below hb3 d0.lt;have d1:=d1.below hb3 d1.lt))
 clear b0 b1 b2 b3 b4 g0 g1 g2 g3 g4
 obtain⟨⟨b0,b1,b2,b3,b4⟩,g0,g1,g2,g3,g4⟩:=d0.five
 go_upto_region 4 with (go_at_call 237;refine(hpa _ n2).mono ?_;rintro e w4 ⟨rfl,hb4⟩)
 have n2:=n2.trans (hb4.mono n2.size)
 have d0:=d0.below hb4 d0.lt
 have d1:=d1.below hb4 d1.lt
 clear hb4 b0 b1 b2 b3 b4 g0 g1 g2 g3 g4
 obtain⟨⟨c0,c1,c2,c3,c4⟩,f0,f1,f2,f3,f4⟩:=d1.five
 go_wp2
 refine bodyPost_ret (v:=.tuple #[Ce.zero.agg,.int .i64 7]) (by simp[results,Tryz.results211,go_sem,Ce.zero,Ce.agg,Ce.cells,c0,c1,c2,c3,c4]) rfl ⟨rfl,?_⟩
 repeat (first | exact n2 | refine Below.setCell ?_ (by simp) _)
theorem qj6 (c : Ce) (r : Int) (w : World) (hs : c.tx.size ≤ 1000) (hr : qq c = true) (h0 : c.tx.size ≠ 0) (hv : qg r = 0) (hp : (qaz c.tx).2 ≠ 2) (hT : Tab w) (hW : TabW w) :
  Calls Tryz.prog 211 #[c.agg,.int .i32 r] w fun e w'=>CePost ⟨c.tx ++ Utf8.encode r,c.wd,c.fg,c.bg,c.fl⟩ 0 e∧Below w.heap.size w w':=by
 have hri:=fun W (hb:Below w.heap.size w W)=>qde c W (by unfold maxLen;omega) (hT.below hb) (hW.below hb)
 have hwd:=fun W (hb:Below w.heap.size w W)=>qel r W (hT.below hb) (hW.below hb)
 have htx:=fun W (hb:Below w.heap.size w W)=>utext_yes r (qa8 (by omega)) W (hT.below hb)
 have hez:(Utf8.encode r).size≤4:=by rw[(qct (qa8 (by omega))).1];exact(qcf r).2
 rw[hr] at hri
 rw[hv] at hwd
 have hpa:=fun W (hb:Below w.heap.size w W)=>qkh c.tx W (by unfold maxLen;omega) (hT.below hb) (hW.below hb)
 unfold qjm at hpa
 obtain⟨tx,wd,fg,bg,fl⟩:=c
 unfold Ce.agg Ce.cells at hri ⊢
 simp only at hri hs h0 hp hpa ⊢
 have hbx:=(Box.new w 57 #[.string tx,.int .i64 wd,.int .i64 fg,.int .i64 bg,.int .i64 fl]).alloc (.cells #[.string ⟨#[]⟩,.int .i64 0,.int .i64 0,.int .i64 0,.int .i64 0] 57)
 have hre:=Box.new (w.alloc (.cells #[.string tx,.int .i64 wd,.int .i64 fg,.int .i64 bg,.int .i64 fl] 57)) 57 #[.string ⟨#[]⟩,.int .i64 0,.int .i64 0,.int .i64 0,.int .i64 0]
 have hbel:Below w.heap.size w ((w.alloc (.cells #[.string tx,.int .i64 wd,.int .i64 fg,.int .i64 bg,.int .i64 fl] 57)).alloc (.cells #[.string ⟨#[]⟩,.int .i64 0,.int .i64 0,.int .i64 0,.int .i64 0] 57)):=(qa _ _).alloc (by simp) _
 rw[World.size_alloc] at hre
 have HX:=hid hbx
 have HE:=hid hre
 have HB:=hid hbel
 clear hbx hre hbel
 have hne:=qcd h0
 generalize qaz tx=P at *
 obtain⟨pw,pk⟩:=P
 simp only at hpa hp
 clear h0 hr hv
 have hpk:((pk:Int) == 2)=false:=by simp;omega
 generalize Utf8.encode r=E at *
 have hcat:∀ W,(Op.stringOp .add tx E).run Tryz.prog W=.ok (.string (tx ++ E)) W:=fun W=>run_string_add W _ _ (by omega) (by omega)
 clear hp hez hs
 go_enter Tryz.func211,Tryz.ntmps211
 go_upto_region 3 with (first | (go_at_call 216;refine(hri _ HB.out).mono ?_;rintro e w2 ⟨rfl,hb⟩;have n2:=HB.out.trans (hb.mono (by simp;omega));have d0:=HX.out.below hb (by simp;omega);have d1:=HE.out.below hb (by simp);obtain⟨⟨b0,b1,b2,b3,b4⟩,g0,g1,g2,g3,g4⟩:=d0.five) | (go_at_call 171;refine(hwd _ n2).mono ?_;rintro e w3 ⟨rfl,hb3⟩;have n2:=n2.trans (hb3.mono n2.size);have d0:=d0.below hb3 d0.lt;have d1:=d1.below hb3 d1.lt))
 clear b0 b1 b2 b3 b4 g0 g1 g2 g3 g4
 obtain⟨⟨b0,b1,b2,b3,b4⟩,g0,g1,g2,g3,g4⟩:=d0.five
 go_upto_region 4 with (go_at_call 237;refine(hpa _ n2).mono ?_;rintro e w4 ⟨rfl,hb4⟩)
 have n2:=n2.trans (hb4.mono n2.size)
 have d0:=d0.below hb4 d0.lt
 have d1:=d1.below hb4 d1.lt
 clear hb4 b0 b1 b2 b3 b4 g0 g1 g2 g3 g4
 go_upto_region 7 with (go_at_call 238;refine(htx _ n2).mono ?_;rintro e w5 ⟨rfl,hb5⟩)
 have n2:=n2.trans (hb5.mono n2.size)
 have d0:=d0.below hb5 d0.lt
 have d1:=d1.below hb5 d1.lt
 clear hb5
 obtain⟨⟨b0,b1,b2,b3,b4⟩,g0,g1,g2,g3,g4⟩:=d0.five
 obtain⟨⟨c0,c1,c2,c3,c4⟩,f0,f1,f2,f3,f4⟩:=d1.five
 go_wp2
 refine bodyPost_ret (v:=.tuple #[Ce.agg ⟨tx ++ E,wd,fg,bg,fl⟩,.int .i64 0]) (by simp[results,Tryz.results211,go_sem,Ce.agg,Ce.cells,c0,c1,c2,c3,c4]) rfl ⟨rfl,?_⟩
 repeat (first | exact n2 | refine Below.setCell ?_ (by simp) _)
end Go.Proofs.YtpdaekmbpafenaaGreatDoor
