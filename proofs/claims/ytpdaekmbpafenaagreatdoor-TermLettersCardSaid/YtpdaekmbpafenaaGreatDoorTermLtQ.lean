
import Derived.Test.YtpdaekmbpafenaaGreatDoorTermLsQ
import Derived.Test.YtpdaekmbpafenaaGreatDoorHeldIQ
namespace Go.Proofs.YtpdaekmbpafenaaGreatDoor
set_option maxHeartbeats 24000000
set_option maxRecDepth 100000
open Go.RowKit
theorem tletters_any (c0 r0 k0 : Int) (v : Value) (l : List Int) (W : World) (hl : LtRow W v l) (hlm : l.length ≤ maxLen) (hT : Tab W) (hW : TabW W) :
  Calls Tryz.prog 5 #[.int .i64 c0,.int .i64 r0,.int .i64 k0,v] W fun e w'=>e=.returned (.bool true)∧Below W.heap.size W w':=by
 have hlm:(l.length:Int)≤9223372036854775807:=by unfold maxLen at hlm;omega
 obtain⟨C,hC1,hC2,hCw⟩:=mod12 c0
 obtain⟨R,hR1,hR2,hRw⟩:=mod5 r0
 obtain⟨K,hK1,hKw⟩:=mod41 k0
 have HCW:=hid hCw
 have HRW:=hid hRw
 have HKW:=hid hKw
 clear hCw hRw hKw
 obtain⟨AL,cl,rfl,hll⟩:=hl
 obtain⟨n,hn⟩:∃ n,l.length=n:=⟨_,rfl⟩
 rw[hn] at hlm ⊢
 have HLL:=hid hll
 have HN:=hid hn
 have HT:=hid hT
 have HW:=hid hW
 have HNW:=hid (qmv C R K W (by omega) (by omega) (by omega) hT hW)
 unfold NewTP at HNW
 have HCC:=hid (show 1≤C∧C≤12 from ⟨hC1,hC2⟩)
 have HRR:=hid (show 1≤R∧R≤5 from ⟨hR1,hR2⟩)
 have HKK:=hid hK1
 clear hC1 hC2 hR1 hR2 hK1 hll hn hT hW
 go_enter Tryz.func5,Tryz.ntmps5
 go_upto_region 2 with fail
 rw[HCW.out,HRW.out,HKW.out]
 clear HCW HRW HKW
 generalize (wrap64 (c0.tmod 12+12))=g1
 generalize (wrap64 (r0.tmod 5+5))=g2
 generalize (wrap64 (k0.tmod 41+41))=g3
 go_upto_region 3 with (first
  | ((with_reducible refine HNW.out.mono ?_);rintro e w1 ⟨A,kk,cc,lg,rfl,hl,hc,hm,hb1⟩;dsimp only;obtain⟨TX,hTX⟩:∃ TX,(newT C R K).cells (.slice A kk cc) (.slice none 0 0) (.slice none 0 0) (.slice none 0 0)=TX:=⟨_,rfl⟩;rw[hTX];have hi1:TmIn w1 (newT C R K) (.slice A kk cc) (.slice none 0 0) (.slice none 0 0) (.slice none 0 0) lg [] []:=⟨hl,hc,hm,LR.nil _ _ _,fun _ h=>(by cases h),rfl,LR.nil _ _ _,fun _ h=>(by cases h),rfl,IRow.nil _ _⟩;have hll:TX.toList.length=32:=(by rw[← hTX];rfl);have HLN:=hid (show TX.toList.length≤(#[.int .i64 0,.slice none 0 0,.bool false,.int .i64 0,.slice none 0 0,.int .i64 0,.int .i64 0,.bool false,.int .i64 0,.int .i64 0,.int .i64 0,.int .i64 0,.int .i64 0,.int .i64 0,.int .i64 0,.int .i64 0,.int .i64 0,.int .i64 0,.bool false,.bool false,.bool false,.bool false,.bool false,.int .i64 0,.int .i64 0,.slice none 0 0,.int .i64 0,.string ⟨#[]⟩,.string ⟨#[]⟩,.int .i64 0,.slice none 0 0,.string ⟨#[]⟩]:Array Value).size by rw[hll];exact Nat.le_refl _);have HDR:=hid (show (TX.toList ++ (#[.int .i64 0,.slice none 0 0,.bool false,.int .i64 0,.slice none 0 0,.int .i64 0,.int .i64 0,.bool false,.int .i64 0,.int .i64 0,.int .i64 0,.int .i64 0,.int .i64 0,.int .i64 0,.int .i64 0,.int .i64 0,.int .i64 0,.int .i64 0,.bool false,.bool false,.bool false,.bool false,.bool false,.int .i64 0,.int .i64 0,.slice none 0 0,.int .i64 0,.string ⟨#[]⟩,.string ⟨#[]⟩,.int .i64 0,.slice none 0 0,.string ⟨#[]⟩]:Array Value).toList.drop TX.toList.length).toArray=TX by rw[hll];simp);have HI:=hid (show (Tryz.prog.info? 35).map (·.size)=some TX.toList.length by rw[hll];kernel_rfl);have H1C:=hid (qkm hi1 hTX);have HBX:=hid (Box.new w1 35 #[.int .i64 0,.slice none 0 0,.bool false,.int .i64 0,.slice none 0 0,.int .i64 0,.int .i64 0,.bool false,.int .i64 0,.int .i64 0,.int .i64 0,.int .i64 0,.int .i64 0,.int .i64 0,.int .i64 0,.int .i64 0,.int .i64 0,.int .i64 0,.bool false,.bool false,.bool false,.bool false,.bool false,.int .i64 0,.int .i64 0,.slice none 0 0,.int .i64 0,.string ⟨#[]⟩,.string ⟨#[]⟩,.int .i64 0,.slice none 0 0,.string ⟨#[]⟩]);have hbs:=qb6 (qa w1 (.cells #[.int .i64 0,.slice none 0 0,.bool false,.int .i64 0,.slice none 0 0,.int .i64 0,.int .i64 0,.bool false,.int .i64 0,.int .i64 0,.int .i64 0,.int .i64 0,.int .i64 0,.int .i64 0,.int .i64 0,.int .i64 0,.int .i64 0,.int .i64 0,.bool false,.bool false,.bool false,.bool false,.bool false,.int .i64 0,.int .i64 0,.slice none 0 0,.int .i64 0,.string ⟨#[]⟩,.string ⟨#[]⟩,.int .i64 0,.slice none 0 0,.string ⟨#[]⟩] 35)) (Nat.le_refl _) TX;have HIX:=hid (hi1.below hbs);have HTX:=hid hTX;have HB1:=hid (hb1.trans (hbs.mono hb1.size));clear hll hTX hi1 hl hc hm hb1 hbs)
  | (refine qbj rfl 35 (.tmp 9) (.tmp 44) rfl w1.heap.size TX.toList rfl rfl HBX.out HLN.out HI.out H1C.out ?_;rw[HDR.out]))
 have HX1:=hid (HBX.out.setRow TX)
 clear HBX HLN HDR HI H1C HNW
 generalize (w1.alloc (.cells #[.int .i64 0,.slice none 0 0,.bool false,.int .i64 0,.slice none 0 0,.int .i64 0,.int .i64 0,.bool false,.int .i64 0,.int .i64 0,.int .i64 0,.int .i64 0,.int .i64 0,.int .i64 0,.int .i64 0,.int .i64 0,.int .i64 0,.int .i64 0,.bool false,.bool false,.bool false,.bool false,.bool false,.int .i64 0,.int .i64 0,.slice none 0 0,.int .i64 0,.string ⟨#[]⟩,.string ⟨#[]⟩,.int .i64 0,.slice none 0 0,.string ⟨#[]⟩] 35)).setRow w1.heap.size TX=W2 at *
 obtain⟨g,hg⟩:∃ g,w1.heap.size=g:=⟨_,rfl⟩
 rw[hg] at HX1 ⊢
 clear hg
 have HTT:=hid (HT.out.below HB1.out)
 have HWW:=hid (HW.out.below HB1.out)
 go_wp2_with fail
 go_loopw [11,12,48] (fun s sv i wr=>∃ k:Nat,k≤n∧i=.int .i64 k∧s=.string (qft (qc2 l k))∧OwnS wr W2.heap.size sv (encs (qc2 l k))∧Below W2.heap.size W2 wr) (fun _ _ i _=>n - (intOf i).toNat)
 case atStart=>exact⟨0,by omega,rfl,rfl,OwnS.nil _ _,Below.refl _ _⟩
 case round =>
  obtain⟨k,hk,rfl,rfl,hown,hbr⟩:=hrel
  have hwr:=HB1.out.trans (hbr.mono HB1.out.size)
  have hsz:=sentN_size l k
  have h60:=qjg l k
  obtain⟨SA,sc,rfl⟩:=hown.spell
  rw[qks] at hown ⊢
  by_cases hlt:k < n
  ·have hkl:k < l.length:=by rw[HN.out];exact hlt
   obtain⟨ad,rfl,hadb,hadc⟩:=HLL.out (by intro e;rw[e] at hkl;simp at hkl)
   have hxk:=List.getElem?_eq_getElem hkl
   obtain⟨z,hz⟩:∃ z,l[k]=z:=⟨_,rfl⟩
   rw[hz] at hxk
   have hcell:wr.cell? (ad.add k)=some (.int .i32 z):=(hwr.cell (p:=ad.add k) (by rw[qdf];exact hadb)).trans (hadc k z hxk)
   have HST:=hid (sentN_step hxk)
   have hisz:=fun W=>refIs_any z W
   have hwdz:=fun W=>refWidth_any z W
   obtain⟨T,hTq⟩:∃ T,qft (qc2 l k)=T:=⟨_,rfl⟩
   rw[hTq] at hsz ⊢
   have HTQ:=hid hTq
   obtain⟨L,hL⟩:∃ L,qc2 l k=L:=⟨_,rfl⟩
   rw[hL] at hown h60 HST HTQ ⊢
   obtain⟨q,hq⟩:∃ q,L.length=q:=⟨_,rfl⟩
   rw[hq] at hown h60 HST ⊢
   have HOWN:=hid hown
   have HLQ:=hid hq
   have HLS:=hid hL
   clear hTq hadc hxk hz hkl hown hq hL
   have hki:(k:Int) < n:=by omega
   by_cases h20:q < 60
   ·have h20i:(q:Int) < 60:=by omega
    cases hg:qak z
    ·have HS:Hid (qc2 l (k+1)=L):=by unfold Hid;rw[HST.out,if_neg (fun hh=>by have h2:=hh.2;unfold qir at h2;rw[hg] at h2;simp at h2)]
     rw[hg] at hisz
     have HIS:=hid hisz
     clear hisz hwdz hg HST
     go_wp2_with (first
      | (go_at_call 16;refine(HIS.out _).mono ?_;rintro e w4 ⟨rfl,rfl⟩))
     go_roundw
     case rel=>exact⟨k+1,by omega,by go_num,by rw[HS.out,HTQ.out],by rw[HS.out];exact HOWN.out,hbr⟩
     case measure=>simp[intOf];omega
    ·rw[hg] at hisz
     obtain⟨wz,hwz⟩:∃ wz,qg z=wz:=⟨_,rfl⟩
     rw[hwz] at hwdz
     have HIS:=hid hisz
     have HWD:=hid hwdz
     clear hisz hwdz
     by_cases hpos:wz=1
     ·have HS:Hid (qc2 l (k+1)=L ++ [z]):=by unfold Hid;rw[HST.out,if_pos ⟨h20,by unfold qir;rw[hg,hwz];simpa using hpos⟩]
      have hes:(Utf8.encode z).size≤4:=by have h1:=(qct hg).1;have h2:=qcf z;omega
      have HTX2:Hid (qft (qc2 l (k+1))=T ++ Utf8.encode z):=by unfold Hid;rw[HS.out,qmw,HTQ.out]
      have HEN:Hid (encs (qc2 l (k+1))=encs L ++ [Utf8.encode z]):=by unfold Hid;rw[HS.out,encs_snoc]
      have HRT:=hid (fun W=>qla hg W)
      have HRT2:=hid (fun W=>qla hg W)
      subst hpos
      clear hg hwz HST
      generalize Utf8.encode z=ez at *
      have hsum:T.size+ez.size≤9223372036854775807:=by omega
      go_upto_region 9 with (first
       | (go_at_call 16;refine(HIS.out _).mono ?_;rintro e w4 ⟨rfl,rfl⟩)
       | (go_at_call 17;refine(HWD.out _).mono ?_;rintro e w5 ⟨rfl,rfl⟩))
      go_wp2_with (first
       | (go_at_call 18;refine(HRT.out _).mono ?_;rintro e w6 ⟨rfl,hb6⟩;have hw6:=hbr.trans (hb6.mono hbr.size);have HO6:=hid (HOWN.out.kept hb6);clear hb6 HRT)
       | (go_at_call 18;refine(HRT2.out _).mono ?_;rintro e w7 ⟨rfl,hb7⟩;have hw7:=hw6.trans (hb7.mono hw6.size);have HO7:=hid ((HO6.out.kept hb7).kept (qa w7 (.cells #[.string ez] 9)));have HLI:=hid (slit_at (l:=[.string ez]) (Box.new w7 9 #[.string ez])))
       | (at_builtin;refine qjf rfl _ _ rfl W2.heap.size _ (encs L) rfl HO7.out [ez] ⟨_,0,none⟩ 1 1 rfl rfl HLI.out (by rw[qks,HLQ.out];omega) (by have:=hw7.size;simp;omega) ?_;intro v' w8 ho8 hg8;have hb8:=(hw7.alloc hw7.size (.cells #[.string ez] 9)).grown hg8 (by have:=hw7.size;simp;omega) (fun k e=>(World.ownsRow.lt HO7.out k e).1);have HO8:=hid ho8;clear ho8))
      go_roundw
      case rel=>exact⟨k+1,by omega,by go_num,by rw[HTX2.out],by rw[HEN.out];exact HO8.out,hb8⟩
      case measure=>simp[intOf];omega
     ·have HS:Hid (qc2 l (k+1)=L):=by unfold Hid;rw[HST.out,if_neg (fun hh=>by have h2:=hh.2;unfold qir at h2;rw[hwz] at h2;simp at h2;exact hpos h2.2)]
      clear hg hwz HST
      go_wp2_with (first
       | (go_at_call 16;refine(HIS.out _).mono ?_;rintro e w4 ⟨rfl,rfl⟩)
       | (go_at_call 17;refine(HWD.out _).mono ?_;rintro e w5 ⟨rfl,rfl⟩))
      go_roundw
      case rel=>exact⟨k+1,by omega,by go_num,by rw[HS.out,HTQ.out],by rw[HS.out];exact HOWN.out,hbr⟩
      case measure=>simp[intOf];omega
   ·have h20i:¬ (q:Int) < 60:=by omega
    have HS:Hid (qc2 l (k+1)=L):=by unfold Hid;rw[HST.out,if_neg (fun hh=>h20 hh.1)]
    clear hisz hwdz HST
    go_wp2
    go_roundw
    case rel=>exact⟨k+1,by omega,by go_num,by rw[HS.out,HTQ.out],by rw[HS.out];exact HOWN.out,hbr⟩
    case measure=>simp[intOf];omega
  ·obtain rfl:k=n:=by omega
   clear HLL
   have hok:=sentN_ok l k
   have hgw:∀ r∈qc2 l k,qg r=1:=fun r hr=>(qi3 l k r hr).2
   obtain⟨L,hL⟩:∃ L,qc2 l k=L:=⟨_,rfl⟩
   rw[hL] at hok hgw hsz h60 hown ⊢
   have hsr:SRow wr (.slice SA L.length sc) (encs L):=by
    obtain⟨A',c',e,h⟩:=hown.any
    exact⟨A',c',e,h⟩
   obtain⟨nn,hnn⟩:∃ nn,(qcn C (L.map cR)).1.length+1=nn:=⟨_,rfl⟩
   obtain⟨X,hX⟩:∃ X,qiu (newT C R K) (sentB L)=X:=⟨_,rfl⟩
   have hln:=letters_new HCC.out.1 HRR.out.1 hgw hok nn hnn.symm X hX
   have hn1:1≤nn:=by omega
   have hri:RightT (newT (C:Int) (R:Int) (K:Int)):=RightT.newT (by have:=HCC.out;omega) (by have:=HRR.out;omega) (by have:=HKK.out;omega)
   have HRX:=hid (show RightT X from hX ▸ hri.feed (sentB L))
   have hf:=qk3 (newT C R K) _ _ _ _ lg [] [] (qft L) wr (HIX.out.below hbr) hri (by omega) (HTT.out.below hbr) (HWW.out.below hbr)
   rw[show qaf (qft L)=sentB L from qk9 L,hX,HTX.out] at hf
   unfold FdYes at hf
   obtain⟨q,hq⟩:∃ q,L.length=q:=⟨_,rfl⟩
   rw[hq] at h60 hown hsr hln ⊢
   have HLN1:=hid hln
   have HN1:=hid hn1
   have HQ:=hid hq
   have HF:=hid hf
   have HSR:=hid hsr
   have HXG:=hid (HX1.out.below hbr HX1.out.lt)
   have HBW:=hid hwr
   have HSU:=hid (show (Tryz.prog.info? 35).map (·.size)=some TX.size by rw[← HTX.out];kernel_rfl)
   have HAL:=hid (fun (W':World) (h:Below W.heap.size W W')=>tmAlive W' (HT.out.below h) (HW.out.below h))
   clear hL hok hgw hnn hX hln hn1 hri hf hq hsr hsz hown hwr hbr hlt hlm HX1 HIX HTT HWW HTX HN HT HW HB1
   go_upto_region 12 with (first
    | (refine qk (by rfl) 35 (.tmp 9) rfl g rfl HXG.out _ Tryz.underlying35 (by kernel_rfl) HSU.out ?_)
    | ((with_reducible refine HF.out.mono ?_);rintro e w4 ⟨vg1,vm1,vp1,vb1,lg1,lm1,lb1,rfl,hi1,hty1,hb1⟩;dsimp only;obtain⟨TY,hTY⟩:∃ TY,X.cells vg1 vm1 vp1 vb1=TY:=⟨_,rfl⟩;rw[hTY];have hll:TY.toList.length=32:=(by rw[← hTY];rfl);have HLN:=hid (show TY.toList.length≤(#[.int .i64 0,.slice none 0 0,.bool false,.int .i64 0,.slice none 0 0,.int .i64 0,.int .i64 0,.bool false,.int .i64 0,.int .i64 0,.int .i64 0,.int .i64 0,.int .i64 0,.int .i64 0,.int .i64 0,.int .i64 0,.int .i64 0,.int .i64 0,.bool false,.bool false,.bool false,.bool false,.bool false,.int .i64 0,.int .i64 0,.slice none 0 0,.int .i64 0,.string ⟨#[]⟩,.string ⟨#[]⟩,.int .i64 0,.slice none 0 0,.string ⟨#[]⟩]:Array Value).size by rw[hll];exact Nat.le_refl _);have HDR:=hid (show (TY.toList ++ (#[.int .i64 0,.slice none 0 0,.bool false,.int .i64 0,.slice none 0 0,.int .i64 0,.int .i64 0,.bool false,.int .i64 0,.int .i64 0,.int .i64 0,.int .i64 0,.int .i64 0,.int .i64 0,.int .i64 0,.int .i64 0,.int .i64 0,.int .i64 0,.bool false,.bool false,.bool false,.bool false,.bool false,.int .i64 0,.int .i64 0,.slice none 0 0,.int .i64 0,.string ⟨#[]⟩,.string ⟨#[]⟩,.int .i64 0,.slice none 0 0,.string ⟨#[]⟩]:Array Value).toList.drop TY.toList.length).toArray=TY by rw[hll];simp);have HI:=hid (show (Tryz.prog.info? 35).map (·.size)=some TY.toList.length by rw[hll];kernel_rfl);have H1C:=hid (qkm hi1 hTY);have HBX:=hid (Box.new w4 35 #[.int .i64 0,.slice none 0 0,.bool false,.int .i64 0,.slice none 0 0,.int .i64 0,.int .i64 0,.bool false,.int .i64 0,.int .i64 0,.int .i64 0,.int .i64 0,.int .i64 0,.int .i64 0,.int .i64 0,.int .i64 0,.int .i64 0,.int .i64 0,.bool false,.bool false,.bool false,.bool false,.bool false,.int .i64 0,.int .i64 0,.slice none 0 0,.int .i64 0,.string ⟨#[]⟩,.string ⟨#[]⟩,.int .i64 0,.slice none 0 0,.string ⟨#[]⟩]);have hbs:=qb6 (qa w4 (.cells #[.int .i64 0,.slice none 0 0,.bool false,.int .i64 0,.slice none 0 0,.int .i64 0,.int .i64 0,.bool false,.int .i64 0,.int .i64 0,.int .i64 0,.int .i64 0,.int .i64 0,.int .i64 0,.int .i64 0,.int .i64 0,.int .i64 0,.int .i64 0,.bool false,.bool false,.bool false,.bool false,.bool false,.int .i64 0,.int .i64 0,.slice none 0 0,.int .i64 0,.string ⟨#[]⟩,.string ⟨#[]⟩,.int .i64 0,.slice none 0 0,.string ⟨#[]⟩] 35)) (Nat.le_refl _) TY;have HIY:=hid (hi1.below hbs);have HTY:=hid hTY;have HB1:=hid (hb1.trans (hbs.mono hb1.size));clear hll hTY hi1 hty1 hb1 hbs)
    | (refine qbj rfl 35 (.tmp 15) (.tmp 78) rfl w4.heap.size TY.toList rfl rfl HBX.out HLN.out HI.out H1C.out ?_;rw[HDR.out]))
   have HX5:=hid (HBX.out.setRow TY)
   have HB5:=hid (HBW.out.trans (HB1.out.mono HBW.out.size))
   have HSR5:=hid (HSR.out.below HB1.out)
   clear HBX HLN HDR HI H1C HF HSU HXG HBW HB1 HSR
   generalize (w4.alloc (.cells #[.int .i64 0,.slice none 0 0,.bool false,.int .i64 0,.slice none 0 0,.int .i64 0,.int .i64 0,.bool false,.int .i64 0,.int .i64 0,.int .i64 0,.int .i64 0,.int .i64 0,.int .i64 0,.int .i64 0,.int .i64 0,.int .i64 0,.int .i64 0,.bool false,.bool false,.bool false,.bool false,.bool false,.int .i64 0,.int .i64 0,.slice none 0 0,.int .i64 0,.string ⟨#[]⟩,.string ⟨#[]⟩,.int .i64 0,.slice none 0 0,.string ⟨#[]⟩] 35)).setRow w4.heap.size TY=w5 at *
   obtain⟨b,hb⟩:∃ b,w4.heap.size=b:=⟨_,rfl⟩
   rw[hb] at HX5 ⊢
   clear hb
   go_upto_region 14 with (first
    | ((with_reducible refine(HAL.out _ HB5.out).mono ?_);rintro e w6 ⟨rfl,hb6⟩;have HB6:=hid (HB5.out.trans (hb6.mono HB5.out.size));have HX6:=hid (HX5.out.below hb6 HX5.out.lt);have HIY6:=hid (HIY.out.below hb6);have HSR6:=hid (HSR5.out.below hb6);clear hb6))
   clear HAL HB5 HX5 HSR5 HIY
   have HQ60:=hid h60
   have HS6:=hid (show W.heap.size≤w6.heap.size from HB6.out.size)
   go_wp2_with fail
   go_loopw [17,18] (fun all i wr=>∃ m mc:Nat,i=.int .i64 (mc:Int)∧mc=m * C∧m≤61∧(m=0∨m=1∨(m - 1) * C < q)∧AllR w6 wr C (L.map cR) m all) (fun _ i _=>(q+C) - (intOf i).toNat)
   case atStart=>exact⟨0,0,rfl,by simp,by omega,.inl rfl,[],OwnL.nil _ _,rfl,by simp,Below.refl _ _⟩
   case round =>
    obtain⟨wo,rfl⟩:∃ wo:World,wo=wr:=⟨_,rfl⟩
    obtain⟨m,mc,rfl,hmc,hm,hmm,lvk,hown,hmap,hcs,hbr⟩:=hrel
    have hmcb:mc≤732:=by
     rw[hmc]
     exact Nat.mul_le_mul hm HCC.out.2
    have HMC:=hid hmc
    have HMM:=hid hmm
    have HMB:=hid hmcb
    have hww:wrap64 ((mc:Int)+C)=(mc:Int)+C:=by have:=HCC.out;unfold wrap64;omega
    clear hmc hmm
    obtain⟨oA,oc,rfl⟩:=hown.spell
    have hlo:lvk.length=m:=by have h:=congrArg List.length hmap;rwa [List.length_map,List.length_map,List.length_range] at h
    rw[hlo] at hown ⊢
    by_cases hgo:mc < q∨m=0
    ·have hallb:=hbr
     have HGO:=hid hgo
     go_upto_region 16 with fail
     go_cut [97] (fun cnd wx=>cnd=.bool true∧wo=wx)
     case first =>
      by_cases hq1:mc < q
      ·have hqi:(mc:Int) < q:=by omega
       go_wp2_with fail
       go_meet
       exact⟨rfl,rfl⟩
      ·have hqi:¬ (mc:Int) < q:=by omega
       have hqz:((mc:Int) == 0)=true:=by
        have h0:mc=0:=by rw[HMC.out,show m=0 by omega];exact Nat.zero_mul C
        rw[h0];rfl
       go_wp2_with fail
       go_meet
       exact⟨rfl,rfl⟩
     case rest =>
      obtain⟨rfl,rfl⟩:=hcut
      clear hgo
      have hsb:=HCC.out
      obtain⟨sf,hsf⟩:∃ sf:Bool,decide ((mc:Int)+C < q)=sf:=⟨_,rfl⟩
      have hsf2:qff C (L.map cR) m=⟨qcz C (((L.map cR).drop (m * C)).take C),sf⟩:=by
       unfold qff
       rw[← hsf,List.length_map,HQ.out,← HMC.out]
       congr 1
       exact decide_eq_decide.2 (by omega)
      have hsy:∀ p z,p < C→L[mc+p]?=some z→(qcz C (((L.map cR).drop (m * C)).take C))[p]?=some (cR z):=fun p z hp hz=>cell_yes hp (by rw[← HMC.out];exact hz)
      have hsn:∀ p,p < C→¬ mc+p < L.length→(qcz C (((L.map cR).drop (m * C)).take C))[p]?=some b0C:=fun p hp hz=>cell_no hp (by rw[← HMC.out];exact hz)
      have hsl:(qcz C (((L.map cR).drop (m * C)).take C)).length=C:=fill_len
      obtain⟨seg,hseg⟩:∃ seg,qcz C (((L.map cR).drop (m * C)).take C)=seg:=⟨_,rfl⟩
      rw[hseg] at hsf2 hsy hsn hsl
      have HSY:=hid hsy
      have HSN:=hid hsn
      have HSL:=hid hsl
      have HSF:=hid hsf2
      have HM:=hid hm
      have HOWN:=hid hown
      have HMAP:=hid hmap
      have HCS:=hid hcs
      have HLO:=hid hlo
      have HBR:=hid hbr
      have HBX:=hid (Box.new wo 55 #[.slice none 0 0,.bool sf])
      have HB0:=hid (qa wo (.cells #[.slice none 0 0,.bool sf] 55))
      have hs0:wo.heap.size+1≤(wo.alloc (.cells #[.slice none 0 0,.bool sf] 55)).heap.size:=by simp
      have HS0:=hid hs0
      clear hsf2 hsy hsn hsl hseg hm hown hmap hcs hlo hbr hs0
      go_upto_region 19 with fail
      clear hww
      generalize wo.alloc (.cells #[.slice none 0 0,.bool sf] 55)=w0 at *
      go_wp2_with fail
      go_loopw [109] (fun j wi=>∃ p:Nat,p≤C∧j=.int .i64 (p:Int)∧LnIn wo wi sf (seg.take p)) (fun j _=>C - (intOf j).toNat)
      case atStart=>exact⟨0,by omega,rfl,_,HBX.out,OwnC.nil _ _,HB0.out,HS0.out⟩
      case round =>
       obtain⟨p,hpC,rfl,iv,hbo,howi,hbi,hsz⟩:=hrel
       obtain⟨iA,ic,rfl⟩:=howi.spell
       have hli:(seg.take p).length=p:=by rw[List.length_take,HSL.out];omega
       rw[hli] at howi hbo
       by_cases hlt:p < C
       ·have hlti:(p:Int) < C:=by omega
        have hmcb:=HMB.out
        by_cases hyes:mc+p < q
        ·all_goals
          have hul:mc+p < L.length:=by rw[HQ.out];exact hyes
          have hz:=List.getElem?_eq_getElem hul
          obtain⟨z,hzz⟩:∃ z,L[mc+p]=z:=⟨_,rfl⟩
          rw[hzz] at hz
          have hsg:seg[p]?=some (cR z):=HSY.out p z hlt hz
          have hez:(encs L)[mc+p]?=some (Utf8.encode z):=by unfold encs;rw[List.getElem?_map,hz];rfl
          have hsr:=HSR6.out.below (hallb.trans (hbi.mono hallb.size))
          obtain⟨A',c',e,hsc⟩:=hsr
          obtain⟨gs,rfl,hgs,hsc⟩:=hsc (by intro e0;rw[e0] at hez;simp at hez)
          injection e with e1 e2 e3
          subst e1
          clear e2 e3
          have kz:=hsc (mc+p) _ hez
          unfold cR at hsg
          generalize Utf8.encode z=ez at *
          have hst:=take_snoc hsg
          have hq9:(mc:Int)+p < q:=by omega
          have hp12:p≤12:=by have:=HCC.out;omega
          have hu0:mc+p < q:=hyes
          clear hsc hez hsg hz hzz hul
          obtain⟨⟨k0,k1⟩,f0,f1⟩:=hbo.two
          have hne:¬ wo.heap.size=wr.heap.size:=by omega
          have hltb:wo.heap.size < wr.heap.size:=by omega
          have hltc:wo.heap.size≤wr.heap.size:=by omega
          have HLI:=hid hli
          have HOWI:=hid howi
          have HBO:=hid hbo
          have HBI:=hid hbi
          have HST:=hid hst
          have HPI:=hid hlti
          clear hli howi hbo hbi hst hyes hlt
          have hwl:Below wr.heap.size wr ((wr.alloc (.cells #[.string ez,.int .i64 1,.int .i64 0,.int .i64 0,.int .i64 0] 57)).alloc (.cells #[.string ez,.int .i64 1,.int .i64 0,.int .i64 0,.int .i64 0] 57)):=(qa _ _).alloc (by simp) _
          have hrow:=ce_lit (wr.alloc (.cells #[.string ez,.int .i64 1,.int .i64 0,.int .i64 0,.int .i64 0] 57)) (⟨ez,1,0,0,0⟩:Ce)
          rw[World.size_alloc] at hrow
          unfold Ce.cells at hrow
          simp only at hrow
          have HROW:=hid hrow
          have HWL:=hid hwl
          clear hrow hwl
          go_wp2_with (at_builtin;refine qek rfl _ _ rfl wo.heap.size _ _ _ [(⟨ez,1,0,0,0⟩:Ce)] rfl (HOWI.out.kept HWL.out) rfl HROW.out (by rw[HLI.out];have:=HCC.out;simp;omega) (by simp;omega) ?_;intro v' w' h1 h2;obtain⟨A',c',hv'⟩:=h1.spell;rw[List.length_append,HLI.out,List.length_singleton] at hv';subst hv';have H1:=hid h1;have H2:=hid h2;clear h1 h2;have hb7:=(HBO.out.below HWL.out HBO.out.lt).grown H2.out (OwnC.not_box (HOWI.out.kept HWL.out) (HBO.out.below HWL.out HBO.out.lt) (by decide));obtain⟨⟨m0,m1⟩,n0,n1⟩:=hb7.two;have HB7:=hid hb7;clear hb7)
          go_roundw
          case rel =>
           have hst:=HST.out
           refine⟨p+1,by omega,by go_num,_,HB7.out.set (i:=0) _,?_,?_,?_⟩
           ·rw[hst]
            exact H1.out.set HB7.out (by decide) _
           ·have hlt7:∀ z,(Value.slice iA p ic).ownBlock=some z→wo.heap.size≤z:=fun z hz=>(World.ownsRow.lt (HOWI.out.kept HWL.out) z hz).1
            exact(((HBI.out.trans (HWL.out.mono HBI.out.size)).trans ((Below.refl wo.heap.size _).grown H2.out (by have:=HBI.out.size;have:=HWL.out.size;omega) hlt7))).setCell (p:=⟨wo.heap.size,0,none⟩) (Nat.le_refl _) _
           ·have:=H2.out.size
            have:=HWL.out.size
            rw[qfn]
            omega
          case measure=>simp[intOf];omega
        ·all_goals
          have hsg:seg[p]?=some b0C:=HSN.out p hlt (by rw[HQ.out];exact hyes)
          unfold b0C at hsg
          have hst:=take_snoc hsg
          have hq9:¬ ((mc:Int)+p < q):=by omega
          have hp12:p≤12:=by have:=HCC.out;omega
          clear hsg
          obtain⟨⟨k0,k1⟩,f0,f1⟩:=hbo.two
          have hne:¬ wo.heap.size=wr.heap.size:=by omega
          have hltb:wo.heap.size < wr.heap.size:=by omega
          have hltc:wo.heap.size≤wr.heap.size:=by omega
          have HLI:=hid hli
          have HOWI:=hid howi
          have HBO:=hid hbo
          have HBI:=hid hbi
          have HST:=hid hst
          have HPI:=hid hlti
          clear hli howi hbo hbi hst hyes hlt
          have hwl:Below wr.heap.size wr ((wr.alloc (.cells #[.string ⟨#[]⟩,.int .i64 1,.int .i64 0,.int .i64 0,.int .i64 0] 57)).alloc (.cells #[.string ⟨#[]⟩,.int .i64 1,.int .i64 0,.int .i64 0,.int .i64 0] 57)):=(qa _ _).alloc (by simp) _
          have hrow:=ce_lit (wr.alloc (.cells #[.string ⟨#[]⟩,.int .i64 1,.int .i64 0,.int .i64 0,.int .i64 0] 57)) (⟨⟨#[]⟩,1,0,0,0⟩:Ce)
          rw[World.size_alloc] at hrow
          unfold Ce.cells at hrow
          simp only at hrow
          have HROW:=hid hrow
          have HWL:=hid hwl
          clear hrow hwl
          go_wp2_with (at_builtin;refine qek rfl _ _ rfl wo.heap.size _ _ _ [(⟨⟨#[]⟩,1,0,0,0⟩:Ce)] rfl (HOWI.out.kept HWL.out) rfl HROW.out (by rw[HLI.out];have:=HCC.out;simp;omega) (by simp;omega) ?_;intro v' w' h1 h2;obtain⟨A',c',hv'⟩:=h1.spell;rw[List.length_append,HLI.out,List.length_singleton] at hv';subst hv';have H1:=hid h1;have H2:=hid h2;clear h1 h2;have hb7:=(HBO.out.below HWL.out HBO.out.lt).grown H2.out (OwnC.not_box (HOWI.out.kept HWL.out) (HBO.out.below HWL.out HBO.out.lt) (by decide));obtain⟨⟨m0,m1⟩,n0,n1⟩:=hb7.two;have HB7:=hid hb7;clear hb7)
          go_roundw
          case rel =>
           have hst:=HST.out
           refine⟨p+1,by omega,by go_num,_,HB7.out.set (i:=0) _,?_,?_,?_⟩
           ·rw[hst]
            exact H1.out.set HB7.out (by decide) _
           ·have hlt7:∀ z,(Value.slice iA p ic).ownBlock=some z→wo.heap.size≤z:=fun z hz=>(World.ownsRow.lt (HOWI.out.kept HWL.out) z hz).1
            exact(((HBI.out.trans (HWL.out.mono HBI.out.size)).trans ((Below.refl wo.heap.size _).grown H2.out (by have:=HBI.out.size;have:=HWL.out.size;omega) hlt7))).setCell (p:=⟨wo.heap.size,0,none⟩) (Nat.le_refl _) _
           ·have:=H2.out.size
            have:=HWL.out.size
            rw[qfn]
            omega
          case measure=>simp[intOf];omega
       ·obtain rfl:p=C:=by omega
        rw[List.take_of_length_le (Nat.le_of_eq HSL.out)] at howi hli
        obtain⟨⟨k0,k1⟩,f0,f1⟩:=hbo.two
        have hc5:CSl wr wo.heap.size (.slice iA p ic) seg:=by
         have h:=howi.csl
         exact h
        have hlit:=ln_lit wr (⟨seg,sf⟩,.slice iA p ic)
        have hce5:CesOf (wr.alloc (.cells #[.slice iA p ic,.bool sf] 55)) [(⟨seg,sf⟩,.slice iA p ic)]:=by
         intro e he
         rw[List.mem_singleton] at he
         subst he
         exact hc5.row.below (qa _ _)
        have hown6:=HOWN.out.kept (hbi.trans ((qa wr (.cells #[.slice iA p ic,.bool sf] 55)).mono hbi.size))
        have HC5:=hid hc5
        have HLIT:Hid (LR (wr.alloc (.cells #[.slice iA p ic,.bool sf] 55)) (.slice (some ⟨wr.heap.size,0,none⟩) 1 1) [(⟨seg,sf⟩,.slice iA p ic)]):=hlit
        have HCE5:=hid hce5
        have HOWN6:=hid hown6
        have HBI:=hid hbi
        have hltc:wo.heap.size≤wr.heap.size:=by omega
        have HSZ:Hid (w6.heap.size≤wo.heap.size):=HBR.out.size
        have HM61:=hid HM.out
        clear hc5 hlit hce5 hown6 hbi howi hbo hli HBX HB0 HS0
        go_wp2_with (at_builtin;refine qej rfl _ _ rfl w6.heap.size _ _ lvk [(⟨seg,sf⟩,.slice iA p ic)] rfl HOWN6.out rfl HLIT.out HCE5.out (by rw[HLO.out];have:=HM61.out;simp;omega) (by simp;have:=HSZ.out;omega) ?_;intro v' w7 h1 h2;have H1:=hid h1;have H2:=hid h2;clear h1 h2)
        go_roundw
        case rel =>
         have hls:=ln_step (x:=⟨seg,sf⟩) HOWN.out HMAP.out HCS.out HBI.out HC5.out HSZ.out H2.out
         have hb6:=HBI.out.trans ((qa wr (.cells #[.slice iA p ic,.bool sf] 55)).mono HBI.out.size)
         have hlt7:∀ z,(Value.slice oA m oc).ownBlock=some z→w6.heap.size≤z:=fun z hz=>(World.ownsRow.lt HOWN6.out z hz).1
         refine⟨m+1,mc+p,by rw[Int.natCast_add],by rw[HMC.out,Nat.succ_mul],?_,.inr ?_,_,H1.out,?_,hls.2,(HBR.out.trans (hb6.mono HBR.out.size)).trans ((Below.refl w6.heap.size _).grown H2.out (Nat.le_trans HSZ.out hb6.size) hlt7)⟩
         ·have h1:=HGO.out
          have h2:=HCC.out
          have h3:=HQ60.out
          rcases h1 with h1 | h1
          ·have h4:m≤m * p:=Nat.le_mul_of_pos_right m (by omega)
           rw[← HMC.out] at h4
           omega
          ·omega
         ·rcases HGO.out with h1 | h1
          ·exact .inr (by rw[Nat.add_sub_cancel,← HMC.out];exact h1)
          ·exact .inl (by omega)
         ·rw[hls.1,lines_snoc,HSF.out]
        case measure =>
         have h1:mc < q+p:=by
          have h2:=HCC.out
          rcases HGO.out with h1 | h1
          ·omega
          ·rw[HMC.out,h1,Nat.zero_mul];omega
         simp[intOf];omega
    ·all_goals
      have hne:1≤m∧q≤mc:=by omega
      have hnum:m=nn:=lines_num HCC.out.1 (by rw[← HMC.out];exact hne.2) (HMM.out.resolve_left (by omega)) hne.1 HLN1.out.2.2.2.1 HLN1.out.2.2.2.2 HN1.out
      subst hnum
      have hqi:¬ (mc:Int) < q:=by omega
      have hqz:¬ (mc:Int)=0:=by
       have h1:=Nat.mul_le_mul hne.1 HCC.out.1
       rw[← HMC.out] at h1
       omega
      clear hww
      have hm61:m≤61:=hm
      have hR5:=HRR.out
      have hK5:=HKK.out
      have hrow:=hown.lsl.row
      have hoc:m≤oc:=by obtain⟨A',c',e,h,_⟩:=hrow;cases e;rw[hlo] at h;exact h
      obtain⟨gn,hgn⟩:∃ gn,m - R=gn:=⟨_,rfl⟩
      have hgm:gn≤m:=by omega
      have hgl:gn < m:=by have:=hne.1;omega
      obtain⟨kA,hs1,hr1⟩:=slice_ln_lh2 hrow hlo (gn - K) gn (by omega) hgm
      obtain⟨sA,hs2,hr2⟩:=slice_ln_l hrow hlo gn hgm
      have HR1:=hid hr1
      have HR2:=hid hr2
      have hces:CesOf wo lvk:=fun e he=>(hcs e he).row
      have HCES:=hid hces
      have HCS:=hid hcs
      have HBRO:=hid hbr
      have HMAP:=hid hmap
      have HLO:=hid hlo
      have HNE1:=hid hne.1
      have HGN:=hid hgn
      have HGM:=hid hgl
      have HS1:=hid hs1
      clear hgo hne hm hown hmap hcs hbr hrow hces hlo hr1 hr2 hgn hgl hs1
      go_upto_region 28 with fail
      clear hqi hqz
      go_cut [22] (fun a wx=>a=.int .i64 (gn:Int)∧wo=wx)
      case first =>
       clear hs2
       have hgn:=HGN.out
       rcases Nat.lt_trichotomy R m with h | h | h
       ·have h1:(0:Int) < (m:Int) - R:=by omega
        have h2:(R:Int) < m:=by omega
        have h3:(m:Int) - R=gn:=by omega
        clear hgn
        go_wp2_with fail
        go_meet
        exact⟨rfl,rfl⟩
       ·subst h
        obtain rfl:gn=0:=by omega
        clear hgn
        go_wp2_with fail
        go_meet
        exact⟨by simp,rfl⟩
       ·have h1:¬ (0:Int) < (m:Int) - R:=by omega
        have h2:(m:Int) - R < 0:=by omega
        have h4:(m:Int) < R:=by omega
        have h5:¬ (R:Int) < m:=by omega
        obtain rfl:gn=0:=by omega
        clear hgn
        go_wp2_with fail
        go_meet
        exact⟨by simp,rfl⟩
      case rest =>
       obtain⟨rfl,rfl⟩:=hcut
       clear hoc
       have hgK:gn≤61:=by omega
       go_upto_region 29 with fail
       go_cut [23] (fun a wx=>a=.slice kA (gn - (gn - K)) (oc - (gn - K))∧wo=wx)
       case first =>
        clear hs2
        rcases Nat.lt_trichotomy K gn with h | h | h
        ·have h1:(0:Int) < (gn:Int) - K:=by omega
         have h2:(K:Int) < gn:=by omega
         have hs1:=HS1.out
         rw[show ((gn - K:Nat):Int)=(gn:Int) - K by omega] at hs1
         go_wp2_with fail
         go_meet
         exact⟨rfl,rfl⟩
        ·have hs1:=HS1.out
         have h0:gn - K=0:=by omega
         rw[h0] at hs1
         have HZ0:=hid h0
         have hs1:∀ w,(Instr.sliceAt 22 (.slice oA m oc) (some (.int .i64 0)) (some (.int .i64 gn)) none).run Tryz.prog w=.ok (.slice kA gn oc) w:=hs1
         have h1:(gn:Int) - K=0:=by omega
         clear h h0
         go_wp2_with fail
         go_meet
         exact⟨by rw[HZ0.out];rfl,rfl⟩
        ·have hs1:=HS1.out
         have h0:gn - K=0:=by omega
         rw[h0] at hs1
         have HZ0:=hid h0
         have hs1:∀ w,(Instr.sliceAt 22 (.slice oA m oc) (some (.int .i64 0)) (some (.int .i64 gn)) none).run Tryz.prog w=.ok (.slice kA gn oc) w:=hs1
         have h1:¬ (0:Int) < (gn:Int) - K:=by omega
         have h2:(gn:Int) - K < 0:=by omega
         have h4:(gn:Int) < K:=by omega
         have h5:¬ (K:Int) < gn:=by omega
         clear h h0
         go_wp2_with fail
         go_meet
         exact⟨by rw[HZ0.out];rfl,rfl⟩
       case rest =>
        obtain⟨rfl,rfl⟩:=hcut
        skip
        have hp0:m - gn≤R:=by have:=HGN.out;omega
        have hdn:lvk.drop gn≠[]:=by
         intro e
         have:=congrArg List.length e
         rw[List.length_drop,HLO.out,List.length_nil] at this
         have:=HGM.out
         omega
        have hdl:(lvk.drop gn).length=m - gn:=by rw[List.length_drop,HLO.out]
        have HDN:=hid hdn
        have HDL:=hid hdl
        have HP0:=hid hp0
        have HBA:=hid (qa wo (.cells #[] 55))
        have hsza:(wo.alloc (.cells #[] 55)).heap.size=wo.heap.size+1:=by simp
        have HSZA:=hid hsza
        clear hdn hdl hp0 hsza
        go_upto_region 31 with (first
         | (at_builtin;refine qjh rfl _ _ rfl _ _ (lvk.drop gn) rfl rfl (HR2.out.below HBA.out) (fun e he=>(HCES.out e (List.mem_of_mem_drop he)).below HBA.out) HDN.out (by rw[HDL.out];omega) ?_;intro v' w8 h1 h2;have H1:=hid h1;have H2:=hid (HBA.out.trans (h2.mono HBA.out.size));have H3:=hid h2.size;clear h1 h2))
        clear hs2
        rw[HSZA.out] at H1 H3
        have HC8:=hid (show ∀ x∈lvk.drop gn,CSl w8 w6.heap.size x.2 x.1.cs from fun x hx=>(HCS.out x (List.mem_of_mem_drop hx)).below H2.out (Nat.le_refl _))
        obtain⟨p0,hp0⟩:∃ p0,m - gn=p0:=⟨_,rfl⟩
        rw[hp0] at HDL HP0
        have HPQ:=hid hp0
        clear hp0 HSZA HBA HDN HR2
        have HBARE:=hid (fun W'=>rBare_any C At.no W' (by have:=HCC.out;omega))
        unfold qmz At.agg At.no at HBARE
        go_loopw [24] (fun sh wi=>∃ (j:Nat) (lvs:List (Ln×Value)),OwnL wi (wo.heap.size+1) sh lvs∧lvs.map Prod.fst=(lvk.drop gn).map Prod.fst ++ List.replicate j (qbe C .no)∧p0+j≤R∧(∀ x∈lvs,CSl wi w6.heap.size x.2 x.1.cs)∧Below wo.heap.size wo wi∧w8.heap.size≤wi.heap.size) (fun sh _=>R - lenOf sh)
        case atStart=>exact⟨0,lvk.drop gn,H1.out,by simp,by have:=HP0.out;omega,HC8.out,H2.out,Nat.le_refl _⟩
        case round =>
         obtain⟨j,lvs,hown,hmap,hpj,hcs,hbr,hz8⟩:=hrel
         have hlen:lvs.length=p0+j:=by
          have h:=congrArg List.length hmap
          rw[List.length_map,List.length_append,List.length_map,List.length_replicate,HDL.out] at h
          exact h
         obtain⟨tA,tc,rfl⟩:=hown.spell
         rw[hlen] at hown ⊢
         obtain⟨t,ht⟩:∃ t,p0+j=t:=⟨_,rfl⟩
         rw[ht] at hown hlen hpj ⊢
         by_cases hlt:t < R
         ·all_goals
           have hlti:(t:Int) < R:=by omega
           have HOWN:=hid hown
           have HMP:=hid hmap
           have HCC2:=hid hcs
           have HBQ:=hid hbr
           have HLN:=hid hlen
           have HTQ:=hid ht
           have hR5:=HRR.out
           have hle:w6.heap.size≤wr.heap.size:=Nat.le_trans HBRO.out.size hbr.size
           have HLE:=hid hle
           have hle2:wo.heap.size+1≤wr.heap.size:=Nat.le_trans H3.out hz8
           have HZ8:=hid hz8
           have HLE2:=hid hle2
           clear hown hmap hcs hbr hlen ht hle hle2 hz8
           go_wp2_with (first
            | ((with_reducible refine(HBARE.out _).mono ?_);rintro e w9 ⟨bv,rfl,hc9,hb9⟩;dsimp only;have HC9:=hid hc9;have HB9:=hid hb9;obtain⟨bA,bc,hbv⟩:=hc9.spell;rw[List.length_replicate] at hbv;subst hbv;have HO9:=hid ((HOWN.out.kept hb9).kept (qa w9 (.cells #[.slice bA C bc,.bool false] 55)));have hlit:=ln_lit w9 (qbe C .no,.slice bA C bc);have HLIT:Hid (LR (w9.alloc (.cells #[.slice bA C bc,.bool false] 55)) (.slice (some ⟨w9.heap.size,0,none⟩) 1 1) [(qbe C .no,.slice bA C bc)]):=hlit;have hce9:CesOf (w9.alloc (.cells #[.slice bA C bc,.bool false] 55)) [(qbe C .no,.slice bA C bc)]:=(by intro e he;rw[List.mem_singleton] at he;subst he;exact hc9.row.below (qa _ _));have HCE9:=hid hce9;clear hc9 hb9 hlit hce9)
            | (at_builtin;refine qej rfl _ _ rfl (wo.heap.size+1) _ _ lvs [(qbe C .no,.slice bA C bc)] rfl HO9.out rfl HLIT.out HCE9.out (by rw[HLN.out];simp;omega) (by simp;have:=HLE2.out;have:=HB9.out.size;omega) ?_;intro v' w10 h1 h2;have H11:=hid h1;have H12:=hid h2;clear h1 h2))
           go_roundw
           case rel =>
            have hls:=ln_step2 (x:=qbe C .no) HOWN.out HMP.out HCC2.out HB9.out HC9.out HLE.out H12.out
            have hb6:=HB9.out.trans ((qa w9 (.cells #[.slice bA C bc,.bool false] 55)).mono HB9.out.size)
            have hlt7:∀ z,(Value.slice tA t tc).ownBlock=some z→wo.heap.size+1≤z:=fun z hz=>(World.ownsRow.lt HO9.out z hz).1
            refine⟨j+1,_,H11.out,?_,by have:=HTQ.out;omega,hls.2,?_,?_⟩
            ·rw[hls.1,List.append_assoc,List.replicate_succ']
            ·exact(HBQ.out.trans (hb6.mono HBQ.out.size)).trans ((Below.refl wo.heap.size _).grown H12.out (Nat.le_trans HBQ.out.size hb6.size) fun z hz=>Nat.le_trans (Nat.le_succ _) (hlt7 z hz))
            ·exact Nat.le_trans HZ8.out (Nat.le_trans hb6.size H12.out.size)
           case measure =>
            obtain⟨zA,zc,hz⟩:=H11.out.spell
            rw[hz,List.length_append,HLN.out]
            simp[lenOf]
            omega
         ·have hR5:=HRR.out
          have hti:¬ (t:Int) < R:=by omega
          have hls:lvs.map Prod.fst=X.g.ls:=by
           rw[hmap,List.map_drop,HMAP.out,HLN1.out.1,HGN.out]
           congr 2
           have:=HPQ.out;have:=HGN.out
           omega
          have hks:((lvk.drop (gn - K)).take (gn - (gn - K))).map Prod.fst=X.bls:=by
           rw[List.map_take,List.map_drop,HMAP.out,HLN1.out.2.1,HGN.out]
           unfold qah
           rw[List.length_take,List.length_map,List.length_range,Nat.min_eq_left (Nat.le_of_lt HGM.out),List.drop_take]
          have hiy:=HIY6.out.below (HBRO.out.trans (hbr.mono HBRO.out.size))
          have HSA:=hid (fun (W':World) (h:Below wr.heap.size wr W')=>same_any vg1 (.slice tA t tc) lg1 lvs W' (hiy.g.below h) (hown.lsl.row.below h) (hiy.gc.below h) (fun e he=>(hcs e he).row.below h) (by rw[hiy.gm,hls]) (Sz.of_map rfl (rg_sm HRX.out.g hiy.gm).szl))
          have HSB:=hid (fun (W':World) (h:Below wr.heap.size wr W')=>same_any vb1 (.slice kA (gn - (gn - K)) (oc - (gn - K))) lb1 ((lvk.drop (gn - K)).take (gn - (gn - K))) W' (hiy.b.below h) ((HR1.out.below hbr).below h) (hiy.bc.below h) (fun e he=>((HCES.out e (List.mem_of_mem_drop (List.mem_of_mem_take he))).below hbr).below h) (by rw[hiy.bm,hks]) (Sz.of_map rfl (qiq HRX.out.bk hiy.bm).1.szl))
          have HXW:=hid (HX6.out.below (HBRO.out.trans (hbr.mono HBRO.out.size)) HX6.out.lt)
          have HBW:=hid (HB6.out.trans ((HBRO.out.trans (hbr.mono HBRO.out.size)).mono HB6.out.size))
          have hlate:=HLN1.out.2.2.1
          clear hls hks hiy hown hmap hcs hbr hlen ht hz8
          have hC0:¬ (C:Int)=0:=by have:=HCC.out;omega
          have hC0n:¬ C=0:=by have:=HCC.out;omega
          go_upto_region 33 with fail
          by_cases hq0:q=0
          ·all_goals
            have hlf:X.late=false:=by
             cases hx:X.late
             ·rfl
             ·have:=(hlate.1 hx).1;omega
            have HLF:=hid hlf
            subst hq0
            clear hlf hlate
            have hS0:Below wr.heap.size wr wr.drew:=(Below.refl _ wr).drew
            refine qh (fun _ w'=>Below wr.heap.size wr w') (by kernel_rfl) ?_
            refine tC 0 hS0 ?_
            refine tC 1 hS0 ?_
            refine tC 2 hS0 ?_ (hy:=fun w' hw'=>by have a0:w'.cell? ⟨b,1,none⟩=some (vg1):=((HXW.out.below hw' HXW.out.lt).cell 1).trans (by rw[← HTY.out];rfl);go_simp;try with_reducible rfl)
            refine tC 3 hS0 ?_
            refine qz (k:=4) (by kernel_rfl) rfl (by rfl) (fun K hK=>?_)
            go_simp
            go_at_call 20
            refine(HSA.out _ hS0).mono ?_
            rintro e w9 ⟨rfl,hb⟩
            dsimp only
            have hS1:=hS0.trans (hb.mono hS0.size)
            refine hK _ _ hS1 ?_
            clear hK K
            (try simp only[zT]);(try simp only[zA]);(try simp only[zS]);(try simp only[zZ])
            clear hS0 hb
            have hS0:=hS1
            clear hS1
            refine tC 5 hS0 ?_
            refine tC 6 hS0 ?_
            refine tC 7 hS0 ?_
            refine tC 8 hS0 ?_ (hy:=fun w' hw'=>by have a0:w'.cell? ⟨b,30,none⟩=some (vb1):=((HXW.out.below hw' HXW.out.lt).cell 30).trans (by rw[← HTY.out];rfl);go_simp;try with_reducible rfl)
            refine tC 9 hS0 ?_
            refine qz (k:=10) (by kernel_rfl) rfl (by rfl) (fun K hK=>?_)
            go_simp
            go_at_call 20
            refine(HSB.out _ hS0).mono ?_
            rintro e w9 ⟨rfl,hb⟩
            dsimp only
            have hS1:=hS0.trans (hb.mono hS0.size)
            refine hK _ _ hS1 ?_
            clear hK K
            (try simp only[zT]);(try simp only[zA]);(try simp only[zS]);(try simp only[zZ])
            clear hS0 hb
            have hS0:=hS1
            clear hS1
            refine tC 11 hS0 ?_
            refine tC 12 hS0 ?_
            refine tC 13 hS0 ?_
            refine tC 14 hS0 ?_ (hy:=fun w' hw'=>by have a0:w'.cell? ⟨b,7,none⟩=some (.bool false):=((HXW.out.below hw' HXW.out.lt).cell 7).trans (by rw[← HTY.out];show some (Value.bool X.late)=_;rw[HLF.out]);go_simp;try with_reducible rfl)
            refine tC 15 hS0 ?_
            refine tC 16 hS0 ?_
            refine tC 17 hS0 ?_
            refine tC 18 hS0 ?_
            refine uC 19 hS0 ?_
            refine uC 20 hS0 ?_
            refine uC 21 hS0 ?_
            refine uC 22 hS0 ?_
            refine uC 23 hS0 ?_
            refine tC 24 hS0 ?_
            refine tC 25 hS0 ?_
            refine tC 26 hS0 ?_
            refine tC 27 hS0 ?_
            refine qal (by kernel_rfl) ?_ _
            go_wp2
            go_ret
            exact⟨rfl,HBW.out.trans (hS0.mono HBW.out.size)⟩
          ·all_goals
            have hqp:(0:Int) < q:=by omega
            have hqb:(decide ((0:Int) < q))=true:=decide_eq_true hqp
            have hqn:0 < q:=by omega
            have hqm:(decide (0 < q))=true:=decide_eq_true hqn
            have hml:(((q:Int).tmod C) == 0)=X.late:=by
             have hm:(q:Int).tmod C=((q % C:Nat):Int):=by rw[Int.tmod_eq_emod_of_nonneg (by omega)];rfl
             rw[hm]
             cases hx:X.late
             ·have h0:¬ q % C=0:=fun h=>by rw[hlate.2 ⟨by omega,h⟩] at hx;cases hx
              exact beq_eq_false_iff_ne.2 fun h=>h0 (Int.ofNat.inj h)
             ·have h0:=(hlate.1 hx).2
              rw[h0];rfl
            clear hlate hq0
            have hS0:Below wr.heap.size wr wr.drew:=(Below.refl _ wr).drew
            refine qh (fun _ w'=>Below wr.heap.size wr w') (by kernel_rfl) ?_
            refine tC 0 hS0 ?_
            refine tC 1 hS0 ?_
            refine tC 2 hS0 ?_ (hy:=fun w' hw'=>by have a0:w'.cell? ⟨b,1,none⟩=some (vg1):=((HXW.out.below hw' HXW.out.lt).cell 1).trans (by rw[← HTY.out];rfl);go_simp;try with_reducible rfl)
            refine tC 3 hS0 ?_
            refine qz (k:=4) (by kernel_rfl) rfl (by rfl) (fun K hK=>?_)
            go_simp
            go_at_call 20
            refine(HSA.out _ hS0).mono ?_
            rintro e w9 ⟨rfl,hb⟩
            dsimp only
            have hS1:=hS0.trans (hb.mono hS0.size)
            refine hK _ _ hS1 ?_
            clear hK K
            (try simp only[zT]);(try simp only[zA]);(try simp only[zS]);(try simp only[zZ])
            clear hS0 hb
            have hS0:=hS1
            clear hS1
            refine tC 5 hS0 ?_
            refine tC 6 hS0 ?_
            refine tC 7 hS0 ?_
            refine tC 8 hS0 ?_ (hy:=fun w' hw'=>by have a0:w'.cell? ⟨b,30,none⟩=some (vb1):=((HXW.out.below hw' HXW.out.lt).cell 30).trans (by rw[← HTY.out];rfl);go_simp;try with_reducible rfl)
            refine tC 9 hS0 ?_
            refine qz (k:=10) (by kernel_rfl) rfl (by rfl) (fun K hK=>?_)
            go_simp
            go_at_call 20
            refine(HSB.out _ hS0).mono ?_
            rintro e w9 ⟨rfl,hb⟩
            dsimp only
            have hS1:=hS0.trans (hb.mono hS0.size)
            refine hK _ _ hS1 ?_
            clear hK K
            (try simp only[zT]);(try simp only[zA]);(try simp only[zS]);(try simp only[zZ])
            clear hS0 hb
            have hS0:=hS1
            clear hS1
            refine tC 11 hS0 ?_
            refine tC 12 hS0 ?_
            refine tC 13 hS0 ?_
            refine tC 14 hS0 ?_ (hy:=fun w' hw'=>by have a0:w'.cell? ⟨b,7,none⟩=some (.bool X.late):=((HXW.out.below hw' HXW.out.lt).cell 7).trans (by rw[← HTY.out];rfl);go_simp;try with_reducible rfl)
            refine tC 15 hS0 ?_
            refine tC 16 hS0 ?_
            refine tC 17 hS0 ?_
            refine tC 18 hS0 ?_
            refine tC 19 hS0 ?_
            refine tC 20 hS0 ?_
            refine tC 21 hS0 ?_
            refine tC 22 hS0 ?_
            refine tC 23 hS0 ?_
            refine tC 24 hS0 ?_
            refine tC 25 hS0 ?_
            refine tC 26 hS0 ?_
            refine tC 27 hS0 ?_
            refine qal (by kernel_rfl) ?_ _
            go_wp2
            go_ret
            exact⟨rfl,HBW.out.trans (hS0.mono HBW.out.size)⟩
end Go.Proofs.YtpdaekmbpafenaaGreatDoor
