
import Derived.Test.YtpdaekmbpafenaaGreatDoorTermSoQ
import Derived.Test.YtpdaekmbpafenaaGreatDoorGridInsQ
namespace Go.Proofs.YtpdaekmbpafenaaGreatDoor
set_option maxHeartbeats 8000000
set_option maxRecDepth 100000
open Go.RowKit
def fewN (t:Tm):Tm:={ qem t with pa:=.to 0 }
theorem ql1 (t:Tm) (vg vm vp vb:Value):((((((t.cells vg vm vp vb).setIfInBounds 23 (.int .i64 0)).setIfInBounds 24 (.int .i64 0)).setIfInBounds 25 (.slice none 0 0)).setIfInBounds 26 (.int .i64 0)).setIfInBounds 27 (.string ⟨#[]⟩)).setIfInBounds 28 (.string ⟨#[]⟩)=({ t with pa:=.to 0 }:Tm).cells vg vm (.slice none 0 0) vb:=by
 unfold Tm.cells
 simp only[List.setIfInBounds_toArray,List.set_cons_zero,List.set_cons_succ]
 rfl
theorem TmZ.fresh {b:Nat} {W W':World} {t:Tm} {vg vm vp vb:Value} {lg lm lb:List (Ln×Value)} (h:TmZ b W (qem t) vg vm vp vb lg lm lb) (hb:But b W W'):TmZ b W' (fewN t) vg vm (.slice none 0 0) vb lg lm lb :=
 ⟨h.g.but hb,h.m.but hb,h.k.but hb,IRow.nil _ _,fun hn=>absurd rfl hn⟩
theorem ql2 (b:Nat):∀ (l:List Value) (i:Nat) (w:World),But b w (qbw w b i l)
 | [],_,w=>But.refl b w
 | v :: l,i,w=>((But.refl b w).set v).trans (ql2 b l (i+1) _)
theorem box_sets {b:Nat} {t:TypeId} {w:World} {TD:Array Value} (h:Box w b t TD):Box (qbw w b 23 [.int .i64 0,.int .i64 0,.slice none 0 0,.int .i64 0,.string ⟨#[]⟩,.string ⟨#[]⟩]) b t ((((((TD.setIfInBounds 23 (.int .i64 0)).setIfInBounds 24 (.int .i64 0)).setIfInBounds 25 (.slice none 0 0)).setIfInBounds 26 (.int .i64 0)).setIfInBounds 27 (.string ⟨#[]⟩)).setIfInBounds 28 (.string ⟨#[]⟩)) :=
 (((((h.set _).set _).set _).set _).set _).set _
theorem saves_any (t : Tm) (vg vm vb : Value) (pA : Option Addr) (pc : Nat) (lg lm lb : List (Ln × Value)) (v : Value) (l : List Int) (W : World) (hin : TmIn W t vg vm (.slice pA t.pa.params.length pc) vb lg lm lb) (hmx : TmMax t lg lm lb) (hpc : t.pa.params.length ≤ pc)
  (hl:LtRow W v l) (hlm:l.length≤maxLen) (hT:Tab W) (hW:TabW W) :
  Calls Tryz.prog 6 #[.agg (t.cells vg vm (.slice pA t.pa.params.length pc) vb),v] W fun e w'=>e=.returned (.bool true)∧Below W.heap.size W w':=by
 have hlm:=qgd hlm
 obtain⟨AL,cl,rfl,hll⟩:=hl
 obtain⟨n,hn⟩:∃ n,l.length=n:=⟨_,rfl⟩
 rw[hn] at hlm ⊢
 have HP:=hid hin.p
 obtain⟨TL,hTL⟩:∃ TL,t.cells vg vm (.slice pA t.pa.params.length pc) vb=TL:=⟨_,rfl⟩
 have hs:TL.size=32:=by rw[← hTL];rfl
 have hf:=tfew_any t vg vm vb pA pc lg lm lb (W.alloc (.cells TL 35)) (hin.below (qa _ _)) hmx hpc
 rw[hTL] at hf ⊢
 have HF:=hid hf
 have HLL:=hid hll
 have HN:=hid hn
 have HT:=hid hT
 have HW:=hid hW
 have HX0:=hid (Box.new W 35 TL)
 have HS:=hid (show (Tryz.prog.info? 35).map (·.size)=some TL.size by rw[hs];kernel_rfl)
 have HZS:=hid hs
 clear hTL hf hin hmx hpc hll hn hT hW hs
 go_enter Tryz.func6,Tryz.ntmps6
 go_upto_region 2 with (first
  | (refine qg (by rfl) 35 (.tmp 2) rfl W.heap.size rfl HX0.out _ Tryz.underlying35 (by kernel_rfl) HS.out ?_)
  | ((with_reducible refine HF.out.mono ?_);rintro e w1 ⟨ug,um,ub,kg,km,kb,rfl,r1,r2,r3,hb1⟩;dsimp only;obtain⟨TD,hTD⟩:∃ TD,(qem t).cells ug um (.slice pA (qem t).pa.params.length pc) ub=TD:=⟨_,rfl⟩;rw[hTD];have hll:TD.toList.length=32:=(by rw[← hTD];rfl);have HLN:=hid (show TD.toList.length≤TL.size by rw[hll,HZS.out];exact Nat.le_refl _);have HDR:=hid (show (TD.toList ++ TL.toList.drop TD.toList.length).toArray=TD by rw[hll,List.drop_of_length_le (by rw[Array.length_toList,HZS.out];exact Nat.le_refl _)];simp);have HI:=hid (show (Tryz.prog.info? 35).map (·.size)=some TD.toList.length by rw[hll];kernel_rfl);have H1C:=hid (few_cells r1 r2 r3 hTD);have HX1:=hid (HX0.out.below hb1 HX0.out.lt);have hfp:=few_put _ HP.out r1 r2 r3 hb1 TD;have HZ:=hid hfp.1;have HB:=hid hfp.2;have HTD:=hid hTD;clear hll hfp hTD r1 r2 r3 hb1 HX0)
  | (refine qag rfl 35 (.tmp 2) (.tmp 13) rfl W.heap.size TD.toList rfl rfl HX1.out HLN.out HI.out H1C.out ?_;rw[HDR.out];have HX2:=hid (HX1.out.setRow TD);clear HX1 HLN HI H1C HDR HF HS HP HZS;generalize w1.setRow W.heap.size TD=W2 at *))
 obtain⟨b,hb⟩:∃ b,W.heap.size=b:=⟨_,rfl⟩
 rw[hb] at HX2 HZ HB ⊢
 have HBQ:=hid hb
 clear hb
 go_wp2_with fail
 go_loopw [5,16] (fun s i wr=>∃ k:Nat,k≤n∧i=.int .i64 k∧s=.string (qgr (qdo l k))∧Below W2.heap.size W2 wr) (fun _ i _=>n - (intOf i).toNat)
 case atStart=>exact⟨0,by omega,rfl,rfl,Below.refl _ _⟩
 case round =>
  obtain⟨k,hk,rfl,rfl,hbr⟩:=hrel
  have hwr:=HB.out.trans (hbr.mono (Nat.le_trans (Nat.le_of_eq HBQ.out.symm) HB.out.size))
  have hsz:=sentS_size l k
  by_cases hlt:k < n
  ·have hkl:k < l.length:=by rw[HN.out];exact hlt
   obtain⟨ad,rfl,hadb,hadc⟩:=HLL.out (by intro e;rw[e] at hkl;simp at hkl)
   have hxk:=List.getElem?_eq_getElem hkl
   obtain⟨z,hz⟩:∃ z,l[k]=z:=⟨_,rfl⟩
   rw[hz] at hxk
   have hcell:wr.cell? (ad.add k)=some (.int .i32 z):=(hwr.cell (p:=ad.add k) (by rw[qc9,← HBQ.out];exact hadb)).trans (hadc k z hxk)
   have HST:=hid (sentS_step hxk)
   have hisz:=fun W=>refIs_any z W
   have hwdz:=fun W=>refWidth_any z W
   obtain⟨T,hTq⟩:∃ T,qgr (qdo l k)=T:=⟨_,rfl⟩
   rw[hTq] at hsz ⊢
   have HTQ:=hid hTq
   clear hTq hadc hxk hz hkl
   have hki:(k:Int) < n:=by omega
   by_cases h20:k < 20
   ·have h20i:(k:Int) < 20:=by omega
    cases hg:qam z
    ·have HS:Hid (qdo l (k+1)=qdo l k):=by unfold Hid;rw[HST.out,if_neg (fun hh=>by have h2:=hh.2;unfold goodS at h2;rw[hg] at h2;simp at h2)]
     rw[hg] at hisz
     have HIS:=hid hisz
     clear hisz hwdz hg HST
     go_wp2_with (first
      | (go_at_call 16;refine(HIS.out _).mono ?_;rintro e w4 ⟨rfl,rfl⟩))
     go_roundw
     case rel=>exact⟨k+1,by omega,by go_num,by rw[HS.out,HTQ.out],hbr⟩
     case measure=>simp[intOf];omega
    ·rw[hg] at hisz
     obtain⟨wz,hwz⟩:∃ wz,qk z=wz:=⟨_,rfl⟩
     rw[hwz] at hwdz
     have HIS:=hid hisz
     have HWD:=hid hwdz
     clear hisz hwdz
     by_cases hpos:0 < wz
     ·have HS:Hid (qdo l (k+1)=qdo l k ++ [z]):=by unfold Hid;rw[HST.out,if_pos ⟨h20,by unfold goodS;rw[hg,hwz];simpa using hpos⟩]
      have hes:(Utf8.encode z).size≤4:=by have h1:=(qc0 hg).1;have h2:=qcm z;omega
      have HTX:Hid (qgr (qdo l (k+1))=T ++ Utf8.encode z):=by unfold Hid;rw[HS.out,qnb,HTQ.out]
      have HRT:=hid (fun W=>refText_any hg W)
      clear hg hwz HST
      generalize Utf8.encode z=ez at *
      have hsum:T.size+ez.size≤9223372036854775807:=by omega
      go_wp2_with (first
       | (go_at_call 16;refine(HIS.out _).mono ?_;rintro e w4 ⟨rfl,rfl⟩)
       | (go_at_call 17;refine(HWD.out _).mono ?_;rintro e w5 ⟨rfl,rfl⟩)
       | (go_at_call 18;refine(HRT.out _).mono ?_;rintro e w6 ⟨rfl,hb6⟩;have hw6:=hbr.trans (hb6.mono hbr.size)))
      go_roundw
      case rel=>exact⟨k+1,by omega,by go_num,by rw[HTX.out],hw6⟩
      case measure=>simp[intOf];omega
     ·have HS:Hid (qdo l (k+1)=qdo l k):=by unfold Hid;rw[HST.out,if_neg (fun hh=>by have h2:=hh.2;unfold goodS at h2;rw[hwz] at h2;simp at h2;exact hpos h2.2)]
      clear hg hwz HST
      go_wp2_with (first
       | (go_at_call 16;refine(HIS.out _).mono ?_;rintro e w4 ⟨rfl,rfl⟩)
       | (go_at_call 17;refine(HWD.out _).mono ?_;rintro e w5 ⟨rfl,rfl⟩))
      go_roundw
      case rel=>exact⟨k+1,by omega,by go_num,by rw[HS.out,HTQ.out],hbr⟩
      case measure=>simp[intOf];omega
   ·have h20i:¬ (k:Int) < 20:=by omega
    have HS:Hid (qdo l (k+1)=qdo l k):=by unfold Hid;rw[HST.out,if_neg (fun hh=>h20 hh.1)]
    clear hisz hwdz HST
    go_wp2
    go_roundw
    case rel=>exact⟨k+1,by omega,by go_num,by rw[HS.out,HTQ.out],hbr⟩
    case measure=>simp[intOf];omega
  ·obtain rfl:k=n:=by omega
   clear HLL
   have hok:=sentS_ok l k
   obtain⟨L,hL⟩:∃ L,qdo l k=L:=⟨_,rfl⟩
   rw[hL] at hok hsz ⊢
   have HOK:=hid hok
   have HSZ:=hid hsz
   clear hL hok hsz HN hlm
   have hz1:=HZ.out.below hbr
   have hx1:=HX2.out.below hbr HX2.out.lt
   have hx2:=box_sets hx1
   have hz2:=hz1.fresh (ql2 b [.int .i64 0,.int .i64 0,.slice none 0 0,.int .i64 0,.string ⟨#[]⟩,.string ⟨#[]⟩] 23 wr)
   have hb2:Below b W (qbw wr b 23 [.int .i64 0,.int .i64 0,.slice none 0 0,.int .i64 0,.string ⟨#[]⟩,.string ⟨#[]⟩]):=hwr.trans ((ql2 b [.int .i64 0,.int .i64 0,.slice none 0 0,.int .i64 0,.string ⟨#[]⟩,.string ⟨#[]⟩] 23 wr).below (Nat.le_of_lt hx1.lt))
   rw[← HTD.out,ql1] at hx2
   have hsd:23+([.int .i64 0,.int .i64 0,.slice none 0 0,.int .i64 0,.string ⟨#[]⟩,.string ⟨#[]⟩]:List Value).length≤TD.size:=by rw[← HTD.out];exact Nat.le_of_ble_eq_true rfl
   have HX1:=hid hx1
   have HSD:=hid hsd
   have HX3:=hid hx2
   have HZ3:=hid hz2
   have HB3:=hid hb2
   clear HZ HX2 HB hz1 hx1 hx2 hz2 hb2 hbr hwr hsd
   go_upto_region 10 with (first
    | (refine wpList_plain (by rfl) fun K hK=>qej 31 _ _ rfl b 23 [.int .i64 0,.int .i64 0,.slice none 0 0,.int .i64 0,.string ⟨#[]⟩,.string ⟨#[]⟩] rfl rfl HX1.out HSD.out (by kernel_rfl) (by simp[Value.oneCell']) (hK _ _ ?_)))
   generalize qbw wr b 23 [.int .i64 0,.int .i64 0,.slice none 0 0,.int .i64 0,.string ⟨#[]⟩,.string ⟨#[]⟩]=W3 at *
   clear HX1 HSD HTD
   obtain⟨u,hu⟩:∃ u,fewN t=u:=⟨_,rfl⟩
   have hup:u.pa=.to 0:=by rw[← hu];rfl
   have hz3:=HZ3.out
   have sg:Sm kg:=cut_sm (m:=52) (ls:=t.g.ls) (by decide) hz3.g.mp
   have sm:Sm km:=cut_sm (m:=52) (ls:=t.main.ls) (by decide) hz3.m.mp
   have sb:Sm kb:=cut_sm (m:=42) (ls:=t.bls) (by decide) hz3.k.mp
   have sz:=(fewT_sizes t).2.2
   have sz:u.title.size≤1000000:=by rw[← hu];exact sz
   have hx3:Box W3 b 35 ((fewN t).cells ug um (.slice none 0 0) ub):=HX3.out
   rw[hu] at hz3 hx3
   have p1:u.pa.params.length≤1000000:=by rw[hup];exact Nat.zero_le _
   have p2:u.pa.pend.size≤1000000:=by rw[hup];exact Nat.zero_le _
   have hT3:=HT.out.below (HBQ.out ▸ HB3.out)
   have hW3:=HW.out.below (HBQ.out ▸ HB3.out)
   obtain⟨TT,hTT⟩:∃ TT,qgr L=TT:=⟨_,rfl⟩
   rw[hTT] at HSZ ⊢
   have hbs:qt (((⟨#[27,55]⟩:ByteArray) ++ TT) ++ ⟨#[27,56]⟩)=[27,55] ++ qg4 L ++ [27,56]:=by rw[qdv,qdv,← hTT,qix];rfl
   have hbo:qt (((⟨#[27,91,63,49,48,52,57,104]⟩:ByteArray) ++ TT) ++ ⟨#[27,91,50,74,27,91,63,49,48,52,57,108]⟩)=[27,91,63,49,48,52,57,104] ++ qg4 L ++ [27,91,50,74,27,91,63,49,48,52,57,108]:=by rw[qdv,qdv,← hTT,qix];rfl
   have hz80:=HSZ.out
   have q1:((⟨#[27,55]⟩:ByteArray) ++ TT).size=2+TT.size:=by rw[qm];rfl
   have q2:((⟨#[27,91,63,49,48,52,57,104]⟩:ByteArray) ++ TT).size=8+TT.size:=by rw[qm];rfl
   have z1:(((⟨#[27,55]⟩:ByteArray) ++ TT) ++ ⟨#[27,56]⟩).size≤100000:=by rw[qm,q1];show 2+TT.size+2≤_;omega
   have z2:(((⟨#[27,91,63,49,48,52,57,104]⟩:ByteArray) ++ TT) ++ ⟨#[27,91,50,74,27,91,63,49,48,52,57,108]⟩).size≤100000:=by rw[qm,q2];show 8+TT.size+12≤_;omega
   have HAL:=hid (fun (W':World) (h:Below b W W')=>tmAlive W' (HT.out.below (HBQ.out ▸ h)) (HW.out.below (HBQ.out ▸ h)))
   have HB3':=HB3
   obtain⟨TU,hTU⟩:∃ TU,u.cells ug um (.slice none 0 0) ub=TU:=⟨_,rfl⟩
   have hsu:TU.size=32:=by rw[← hTU];rfl
   rw[hTU] at hx3
   have HSU:=hid (show (Tryz.prog.info? 35).map (·.size)=some TU.size by rw[hsu];kernel_rfl)
   have HXU:=hid hx3
   have HTU:=hid hTU
   have HZU:=hid hz3
   have HOK2:=HOK
   have e1:(2:Int)+TT.size≤9223372036854775807:=by omega
   have e2:(8:Int)+TT.size≤9223372036854775807:=by omega
   clear HX3 HZ3 HOK hx3 hz3 hTU
   cases hr:qjk u
   ·as_aux_lemma =>
     have hf:=tm_feed_no u ug um (.slice none 0 0) ub kg km kb (((⟨#[27,55]⟩:ByteArray) ++ TT) ++ ⟨#[27,56]⟩) W3 HZU.out.tin hr sg sm sb p1 p2 sz z1 hT3 hW3
     have hrr:=fun (W':World) (h:Below W3.heap.size W3 W')=>qm7 u ug um (.slice none 0 0) ub kg km kb W' (HZU.out.tin.below h) sg sm sb p1 p2 sz (hT3.below h) (hW3.below h)
     rw[HTU.out] at hf hrr
     rw[hr] at hrr
     unfold FdNo at hf
     obtain⟨TZ,hTZ⟩:∃ TZ,(#[.int .i64 0,.slice none 0 0,.bool false,.int .i64 0,.slice none 0 0,.int .i64 0,.int .i64 0,.bool false,.int .i64 0,.int .i64 0,.int .i64 0,.int .i64 0,.int .i64 0,.int .i64 0,.int .i64 0,.int .i64 0,.int .i64 0,.int .i64 0,.bool false,.bool false,.bool false,.bool false,.bool false,.int .i64 0,.int .i64 0,.slice none 0 0,.int .i64 0,.string ⟨#[]⟩,.string ⟨#[]⟩,.int .i64 0,.slice none 0 0,.string ⟨#[]⟩]:Array Value)=TZ:=⟨_,rfl⟩
     simp only[hTZ] at hf
     have hll:TZ.toList.length=32:=(by rw[← hTZ];rfl)
     have HLN:=hid (show TZ.toList.length≤(#[.int .i64 0,.slice none 0 0,.bool false,.int .i64 0,.slice none 0 0,.int .i64 0,.int .i64 0,.bool false,.int .i64 0,.int .i64 0,.int .i64 0,.int .i64 0,.int .i64 0,.int .i64 0,.int .i64 0,.int .i64 0,.int .i64 0,.int .i64 0,.bool false,.bool false,.bool false,.bool false,.bool false,.int .i64 0,.int .i64 0,.slice none 0 0,.int .i64 0,.string ⟨#[]⟩,.string ⟨#[]⟩,.int .i64 0,.slice none 0 0,.string ⟨#[]⟩]:Array Value).size by rw[hll];exact Nat.le_refl _)
     have HDR:=hid (show (TZ.toList ++ (#[.int .i64 0,.slice none 0 0,.bool false,.int .i64 0,.slice none 0 0,.int .i64 0,.int .i64 0,.bool false,.int .i64 0,.int .i64 0,.int .i64 0,.int .i64 0,.int .i64 0,.int .i64 0,.int .i64 0,.int .i64 0,.int .i64 0,.int .i64 0,.bool false,.bool false,.bool false,.bool false,.bool false,.int .i64 0,.int .i64 0,.slice none 0 0,.int .i64 0,.string ⟨#[]⟩,.string ⟨#[]⟩,.int .i64 0,.slice none 0 0,.string ⟨#[]⟩]:Array Value).toList.drop TZ.toList.length).toArray=TZ by rw[hll];simp)
     have HI:=hid (show (Tryz.prog.info? 35).map (·.size)=some TZ.toList.length by rw[hll];kernel_rfl)
     have H1C:=hid (show ∀ v∈TZ.toList,v.oneCell'=true by rw[← hTZ];simp[Value.oneCell'])
     clear hll hTZ
     have HFN:=hid hf
     have HRR:=hid hrr
     clear hf hrr hr sg sm sb p1 p2 sz z1 z2 hT3 hW3 hbs hbo q1 q2 hup hu hTT HZU HTU hsu
     go_upto_region 11 with (first
      | (refine qg (by rfl) 35 (.tmp 2) rfl b rfl HXU.out _ Tryz.underlying35 (by kernel_rfl) HSU.out ?_)
      | ((with_reducible refine HFN.out.mono ?_);rintro e w4 ⟨rfl,hb4⟩;dsimp only;have HB4:=hid hb4;have HBX:=hid (Box.new w4 35 #[.int .i64 0,.slice none 0 0,.bool false,.int .i64 0,.slice none 0 0,.int .i64 0,.int .i64 0,.bool false,.int .i64 0,.int .i64 0,.int .i64 0,.int .i64 0,.int .i64 0,.int .i64 0,.int .i64 0,.int .i64 0,.int .i64 0,.int .i64 0,.bool false,.bool false,.bool false,.bool false,.bool false,.int .i64 0,.int .i64 0,.slice none 0 0,.int .i64 0,.string ⟨#[]⟩,.string ⟨#[]⟩,.int .i64 0,.slice none 0 0,.string ⟨#[]⟩]);clear hb4)
      | (refine qag rfl 35 (.tmp 8) (.tmp 45) rfl w4.heap.size TZ.toList rfl rfl HBX.out HLN.out HI.out H1C.out ?_;rw[HDR.out]))
     have HB5:=hid (HB4.out.trans ((qan (qa w4 (.cells #[.int .i64 0,.slice none 0 0,.bool false,.int .i64 0,.slice none 0 0,.int .i64 0,.int .i64 0,.bool false,.int .i64 0,.int .i64 0,.int .i64 0,.int .i64 0,.int .i64 0,.int .i64 0,.int .i64 0,.int .i64 0,.int .i64 0,.int .i64 0,.bool false,.bool false,.bool false,.bool false,.bool false,.int .i64 0,.int .i64 0,.slice none 0 0,.int .i64 0,.string ⟨#[]⟩,.string ⟨#[]⟩,.int .i64 0,.slice none 0 0,.string ⟨#[]⟩] 35)) (Nat.le_refl _) TZ).mono HB4.out.size))
     clear HBX HLN HDR HI H1C
     generalize (w4.alloc (.cells #[.int .i64 0,.slice none 0 0,.bool false,.int .i64 0,.slice none 0 0,.int .i64 0,.int .i64 0,.bool false,.int .i64 0,.int .i64 0,.int .i64 0,.int .i64 0,.int .i64 0,.int .i64 0,.int .i64 0,.int .i64 0,.int .i64 0,.int .i64 0,.bool false,.bool false,.bool false,.bool false,.bool false,.int .i64 0,.int .i64 0,.slice none 0 0,.int .i64 0,.string ⟨#[]⟩,.string ⟨#[]⟩,.int .i64 0,.slice none 0 0,.string ⟨#[]⟩] 35)).setRow w4.heap.size TZ=w5 at *
     have HW5:=hid (HB3.out.trans (HB5.out.mono (Nat.le_of_lt HXU.out.lt)))
     have HX5:=hid (HXU.out.below HB5.out HXU.out.lt)
     clear HB4 HFN HXU
     go_wp2_with (first
      | ((with_reducible refine(HAL.out _ HW5.out).mono ?_);rintro e w6 ⟨rfl,hb6⟩;have HB6:=hid (HB5.out.trans (hb6.mono HB5.out.size));have HX6:=hid (HX5.out.below hb6 HX5.out.lt);have HW6:=hid (HW5.out.trans (hb6.mono (Nat.le_of_lt HX5.out.lt)));clear hb6)
      | (refine qg (by rfl) 35 (.tmp 2) rfl b rfl HX6.out _ Tryz.underlying35 (by kernel_rfl) HSU.out ?_)
      | ((with_reducible refine(HRR.out _ HB6.out).mono ?_);rintro e w7 ⟨rfl,hb7⟩;have HW7:=hid (HW6.out.trans (hb7.mono (Nat.le_of_lt HX6.out.lt)));clear hb7))
     go_ret
     exact⟨rfl,HBQ.out ▸ HW7.out⟩
   ·as_aux_lemma =>
     have hf:=qit u ug um (.slice none 0 0) ub kg km kb (((⟨#[27,55]⟩:ByteArray) ++ TT) ++ ⟨#[27,56]⟩) W3 HZU.out.tin (rightT_iff.1 hr) z1 hT3 hW3
     have hf2:=fun (W':World) (h:Below W3.heap.size W3 W')=>qit u ug um (.slice none 0 0) ub kg km kb (((⟨#[27,91,63,49,48,52,57,104]⟩:ByteArray) ++ TT) ++ ⟨#[27,91,50,74,27,91,63,49,48,52,57,108]⟩) W' (HZU.out.tin.below h) (rightT_iff.1 hr) z2 (hT3.below h) (hW3.below h)
     have hsv:=saves (rightT_iff.1 hr) hup HOK2.out
     have hot:=fun ha=>others (rightT_iff.1 hr) hup ha HOK2.out _ rfl
     rw[← hbs] at hsv
     rw[← hbo] at hot
     obtain⟨X,hX⟩:∃ X,qe7 u (qt (((⟨#[27,55]⟩:ByteArray) ++ TT) ++ ⟨#[27,56]⟩))=X:=⟨_,rfl⟩
     obtain⟨Y,hY⟩:∃ Y,qe7 u (qt (((⟨#[27,91,63,49,48,52,57,104]⟩:ByteArray) ++ TT) ++ ⟨#[27,91,50,74,27,91,63,49,48,52,57,108]⟩))=Y:=⟨_,rfl⟩
     rw[hX] at hf hsv
     rw[hY] at hot
     simp only[hY] at hf2
     rw[HTU.out] at hf
     simp only[HTU.out] at hf2
     unfold FdYes at hf hf2
     have HF:=hid hf
     have HF2:=hid hf2
     have HSV:=hid hsv
     have HOT:=hid hot
     have HSG:=hid sg
     have HSB:=hid sb
     clear hf hf2 hr sm p1 p2 sz z1 z2 hT3 hW3 hbs hbo q1 q2 hup hu hTT hsu hX hY hsv hot sg sb
     go_upto_region 11 with (first
      | (refine qg (by rfl) 35 (.tmp 2) rfl b rfl HXU.out _ Tryz.underlying35 (by kernel_rfl) HSU.out ?_)
      | ((with_reducible refine HF.out.mono ?_);rintro e w4 ⟨vg1,vm1,vp1,vb1,lg1,lm1,lb1,rfl,hi1,hty1,hb1⟩;dsimp only;obtain⟨TX,hTX⟩:∃ TX,X.cells vg1 vm1 vp1 vb1=TX:=⟨_,rfl⟩;rw[hTX];have hll:TX.toList.length=32:=(by rw[← hTX];rfl);have HLN:=hid (show TX.toList.length≤(#[.int .i64 0,.slice none 0 0,.bool false,.int .i64 0,.slice none 0 0,.int .i64 0,.int .i64 0,.bool false,.int .i64 0,.int .i64 0,.int .i64 0,.int .i64 0,.int .i64 0,.int .i64 0,.int .i64 0,.int .i64 0,.int .i64 0,.int .i64 0,.bool false,.bool false,.bool false,.bool false,.bool false,.int .i64 0,.int .i64 0,.slice none 0 0,.int .i64 0,.string ⟨#[]⟩,.string ⟨#[]⟩,.int .i64 0,.slice none 0 0,.string ⟨#[]⟩]:Array Value).size by rw[hll];exact Nat.le_refl _);have HDR:=hid (show (TX.toList ++ (#[.int .i64 0,.slice none 0 0,.bool false,.int .i64 0,.slice none 0 0,.int .i64 0,.int .i64 0,.bool false,.int .i64 0,.int .i64 0,.int .i64 0,.int .i64 0,.int .i64 0,.int .i64 0,.int .i64 0,.int .i64 0,.int .i64 0,.int .i64 0,.bool false,.bool false,.bool false,.bool false,.bool false,.int .i64 0,.int .i64 0,.slice none 0 0,.int .i64 0,.string ⟨#[]⟩,.string ⟨#[]⟩,.int .i64 0,.slice none 0 0,.string ⟨#[]⟩]:Array Value).toList.drop TX.toList.length).toArray=TX by rw[hll];simp);have HI:=hid (show (Tryz.prog.info? 35).map (·.size)=some TX.toList.length by rw[hll];kernel_rfl);have H1C:=hid (qk7 hi1 hTX);have HBX:=hid (Box.new w4 35 #[.int .i64 0,.slice none 0 0,.bool false,.int .i64 0,.slice none 0 0,.int .i64 0,.int .i64 0,.bool false,.int .i64 0,.int .i64 0,.int .i64 0,.int .i64 0,.int .i64 0,.int .i64 0,.int .i64 0,.int .i64 0,.int .i64 0,.int .i64 0,.bool false,.bool false,.bool false,.bool false,.bool false,.int .i64 0,.int .i64 0,.slice none 0 0,.int .i64 0,.string ⟨#[]⟩,.string ⟨#[]⟩,.int .i64 0,.slice none 0 0,.string ⟨#[]⟩]);have HIX:=hid (hi1.below (qan (qa w4 (.cells #[.int .i64 0,.slice none 0 0,.bool false,.int .i64 0,.slice none 0 0,.int .i64 0,.int .i64 0,.bool false,.int .i64 0,.int .i64 0,.int .i64 0,.int .i64 0,.int .i64 0,.int .i64 0,.int .i64 0,.int .i64 0,.int .i64 0,.int .i64 0,.bool false,.bool false,.bool false,.bool false,.bool false,.int .i64 0,.int .i64 0,.slice none 0 0,.int .i64 0,.string ⟨#[]⟩,.string ⟨#[]⟩,.int .i64 0,.slice none 0 0,.string ⟨#[]⟩] 35)) (Nat.le_refl _) TX));have HTX:=hid hTX;have HB1:=hid (qan (qa w4 (.cells #[.int .i64 0,.slice none 0 0,.bool false,.int .i64 0,.slice none 0 0,.int .i64 0,.int .i64 0,.bool false,.int .i64 0,.int .i64 0,.int .i64 0,.int .i64 0,.int .i64 0,.int .i64 0,.int .i64 0,.int .i64 0,.int .i64 0,.int .i64 0,.bool false,.bool false,.bool false,.bool false,.bool false,.int .i64 0,.int .i64 0,.slice none 0 0,.int .i64 0,.string ⟨#[]⟩,.string ⟨#[]⟩,.int .i64 0,.slice none 0 0,.string ⟨#[]⟩] 35)) (Nat.le_refl _) TX);have HF1:=hid hb1;clear hll hTX hi1 hty1 hb1)
      | (refine qag rfl 35 (.tmp 8) (.tmp 45) rfl w4.heap.size TX.toList rfl rfl HBX.out HLN.out HI.out H1C.out ?_;rw[HDR.out]))
     have HX5:=hid (HBX.out.setRow TX)
     have HW5:=hid (HB3.out.trans ((HF1.out.trans (HB1.out.mono HF1.out.size)).mono (Nat.le_of_lt HXU.out.lt)))
     have HB5:=hid (HF1.out.trans (HB1.out.mono HF1.out.size))
     clear HBX HLN HDR HI H1C HF HF1 HB1
     generalize (w4.alloc (.cells #[.int .i64 0,.slice none 0 0,.bool false,.int .i64 0,.slice none 0 0,.int .i64 0,.int .i64 0,.bool false,.int .i64 0,.int .i64 0,.int .i64 0,.int .i64 0,.int .i64 0,.int .i64 0,.int .i64 0,.int .i64 0,.int .i64 0,.int .i64 0,.bool false,.bool false,.bool false,.bool false,.bool false,.int .i64 0,.int .i64 0,.slice none 0 0,.int .i64 0,.string ⟨#[]⟩,.string ⟨#[]⟩,.int .i64 0,.slice none 0 0,.string ⟨#[]⟩] 35)).setRow w4.heap.size TX=w5 at *
     obtain⟨g,hg⟩:∃ g,w4.heap.size=g:=⟨_,rfl⟩
     rw[hg] at HX5 ⊢
     clear hg
     have HXB5:=hid (HXU.out.below HB5.out HXU.out.lt)
     clear HXU
     have k5:w5.cell? ⟨g,5,none⟩=some (.int .i64 (u.row)):=(HX5.out.cell 5).trans (by rw[← HTX.out];show some (Value.int .i64 (X.row))=some (Value.int .i64 (u.row));rw[HSV.out.1])
     have k6:w5.cell? ⟨g,6,none⟩=some (.int .i64 (u.col)):=(HX5.out.cell 6).trans (by rw[← HTX.out];show some (Value.int .i64 (X.col))=some (Value.int .i64 (u.col));rw[HSV.out.2.1])
     have k7:w5.cell? ⟨g,7,none⟩=some (.bool (false)):=(HX5.out.cell 7).trans (by rw[← HTX.out];show some (Value.bool (X.late))=some (Value.bool (false));rw[HSV.out.2.2.2.1])
     have k8:w5.cell? ⟨g,8,none⟩=some (.int .i64 (u.lk.fg)):=(HX5.out.cell 8).trans (by rw[← HTX.out];show some (Value.int .i64 (X.lk.fg))=some (Value.int .i64 (u.lk.fg));rw[HSV.out.2.2.1])
     have k9:w5.cell? ⟨g,9,none⟩=some (.int .i64 (u.lk.bg)):=(HX5.out.cell 9).trans (by rw[← HTX.out];show some (Value.int .i64 (X.lk.bg))=some (Value.int .i64 (u.lk.bg));rw[HSV.out.2.2.1])
     have k10:w5.cell? ⟨g,10,none⟩=some (.int .i64 (u.lk.fl)):=(HX5.out.cell 10).trans (by rw[← HTX.out];show some (Value.int .i64 (X.lk.fl))=some (Value.int .i64 (u.lk.fl));rw[HSV.out.2.2.1])
     have k13:w5.cell? ⟨g,13,none⟩=some (.int .i64 (u.row)):=(HX5.out.cell 13).trans (by rw[← HTX.out];show some (Value.int .i64 (X.sv.row))=some (Value.int .i64 (u.row));rw[HSV.out.2.2.2.2])
     have c5:w5.cell? ⟨b,5,none⟩=some (.int .i64 u.row):=(HXB5.out.cell 5).trans (by rw[← HTU.out];rfl)
     have c6:w5.cell? ⟨b,6,none⟩=some (.int .i64 u.col):=(HXB5.out.cell 6).trans (by rw[← HTU.out];rfl)
     have c8:w5.cell? ⟨b,8,none⟩=some (.int .i64 u.lk.fg):=(HXB5.out.cell 8).trans (by rw[← HTU.out];rfl)
     have c9:w5.cell? ⟨b,9,none⟩=some (.int .i64 u.lk.bg):=(HXB5.out.cell 9).trans (by rw[← HTU.out];rfl)
     have c10:w5.cell? ⟨b,10,none⟩=some (.int .i64 u.lk.fl):=(HXB5.out.cell 10).trans (by rw[← HTU.out];rfl)
     have hna:=fun W'=>run_neqA u.lk.fg u.lk.bg u.lk.fl W'
     go_upto_region 15 with (first
      | ((with_reducible refine(HAL.out _ HW5.out).mono ?_);rintro e w6 ⟨rfl,hb6⟩;have HB6:=hid (HB5.out.trans (hb6.mono HB5.out.size));have HXB6:=hid (HXB5.out.below hb6 HXB5.out.lt);have HW6:=hid (HW5.out.trans (hb6.mono (Nat.le_of_lt HXB5.out.lt)));clear hb6))
     clear k5 k6 k7 k8 k9 k10 k13 c5 c6 c8 c9 c10 hna HAL HB5 HXB5 HW5 HIX HSV HTX HX5
     cases ha:u.alt
     ·have c2:w6.cell? ⟨b,2,none⟩=some (.bool false):=(HXB6.out.cell 2).trans (by rw[← HTU.out];show some (Value.bool u.alt)=_;rw[ha])
      go_upto_region 18 with (first
       | (refine qg (by rfl) 35 (.tmp 2) rfl b rfl HXB6.out _ Tryz.underlying35 (by kernel_rfl) HSU.out ?_)
       | ((with_reducible refine(HF2.out _ HB6.out).mono ?_);rintro e w7 ⟨vg2,vm2,vp2,vb2,lg2,lm2,lb2,rfl,hi1,hty1,hb1⟩;dsimp only;obtain⟨TY,hTY⟩:∃ TY,Y.cells vg2 vm2 vp2 vb2=TY:=⟨_,rfl⟩;rw[hTY];have hll:TY.toList.length=32:=(by rw[← hTY];rfl);have HLN:=hid (show TY.toList.length≤(#[.int .i64 0,.slice none 0 0,.bool false,.int .i64 0,.slice none 0 0,.int .i64 0,.int .i64 0,.bool false,.int .i64 0,.int .i64 0,.int .i64 0,.int .i64 0,.int .i64 0,.int .i64 0,.int .i64 0,.int .i64 0,.int .i64 0,.int .i64 0,.bool false,.bool false,.bool false,.bool false,.bool false,.int .i64 0,.int .i64 0,.slice none 0 0,.int .i64 0,.string ⟨#[]⟩,.string ⟨#[]⟩,.int .i64 0,.slice none 0 0,.string ⟨#[]⟩]:Array Value).size by rw[hll];exact Nat.le_refl _);have HDR:=hid (show (TY.toList ++ (#[.int .i64 0,.slice none 0 0,.bool false,.int .i64 0,.slice none 0 0,.int .i64 0,.int .i64 0,.bool false,.int .i64 0,.int .i64 0,.int .i64 0,.int .i64 0,.int .i64 0,.int .i64 0,.int .i64 0,.int .i64 0,.int .i64 0,.int .i64 0,.bool false,.bool false,.bool false,.bool false,.bool false,.int .i64 0,.int .i64 0,.slice none 0 0,.int .i64 0,.string ⟨#[]⟩,.string ⟨#[]⟩,.int .i64 0,.slice none 0 0,.string ⟨#[]⟩]:Array Value).toList.drop TY.toList.length).toArray=TY by rw[hll];simp);have HI:=hid (show (Tryz.prog.info? 35).map (·.size)=some TY.toList.length by rw[hll];kernel_rfl);have H1C:=hid (qk7 hi1 hTY);have HBY:=hid (Box.new w7 35 #[.int .i64 0,.slice none 0 0,.bool false,.int .i64 0,.slice none 0 0,.int .i64 0,.int .i64 0,.bool false,.int .i64 0,.int .i64 0,.int .i64 0,.int .i64 0,.int .i64 0,.int .i64 0,.int .i64 0,.int .i64 0,.int .i64 0,.int .i64 0,.bool false,.bool false,.bool false,.bool false,.bool false,.int .i64 0,.int .i64 0,.slice none 0 0,.int .i64 0,.string ⟨#[]⟩,.string ⟨#[]⟩,.int .i64 0,.slice none 0 0,.string ⟨#[]⟩]);have HIY:=hid (hi1.below (qan (qa w7 (.cells #[.int .i64 0,.slice none 0 0,.bool false,.int .i64 0,.slice none 0 0,.int .i64 0,.int .i64 0,.bool false,.int .i64 0,.int .i64 0,.int .i64 0,.int .i64 0,.int .i64 0,.int .i64 0,.int .i64 0,.int .i64 0,.int .i64 0,.int .i64 0,.bool false,.bool false,.bool false,.bool false,.bool false,.int .i64 0,.int .i64 0,.slice none 0 0,.int .i64 0,.string ⟨#[]⟩,.string ⟨#[]⟩,.int .i64 0,.slice none 0 0,.string ⟨#[]⟩] 35)) (Nat.le_refl _) TY));have HTY:=hid hTY;have HB1:=hid (qan (qa w7 (.cells #[.int .i64 0,.slice none 0 0,.bool false,.int .i64 0,.slice none 0 0,.int .i64 0,.int .i64 0,.bool false,.int .i64 0,.int .i64 0,.int .i64 0,.int .i64 0,.int .i64 0,.int .i64 0,.int .i64 0,.int .i64 0,.int .i64 0,.int .i64 0,.bool false,.bool false,.bool false,.bool false,.bool false,.int .i64 0,.int .i64 0,.slice none 0 0,.int .i64 0,.string ⟨#[]⟩,.string ⟨#[]⟩,.int .i64 0,.slice none 0 0,.string ⟨#[]⟩] 35)) (Nat.le_refl _) TY);have HF1:=hid hb1;clear hll hTY hi1 hty1 hb1)
       | (refine qag rfl 35 (.tmp 10) (.tmp 98) rfl w7.heap.size TY.toList rfl rfl HBY.out HLN.out HI.out H1C.out ?_;rw[HDR.out]))
      clear c2
      have HB8:=hid (HB6.out.trans ((HF1.out.trans (HB1.out.mono HF1.out.size)).mono HB6.out.size))
      have HW8:=hid (HW6.out.trans ((HF1.out.trans (HB1.out.mono HF1.out.size)).mono (Nat.le_of_lt HXB6.out.lt)))
      have HX8:=hid (HBY.out.setRow TY)
      have HXB8:=hid (HXB6.out.below (HF1.out.trans (HB1.out.mono HF1.out.size)) HXB6.out.lt)
      clear HBY HLN HDR HI H1C HF2 HF1 HB1 HXB6
      generalize (w7.alloc (.cells #[.int .i64 0,.slice none 0 0,.bool false,.int .i64 0,.slice none 0 0,.int .i64 0,.int .i64 0,.bool false,.int .i64 0,.int .i64 0,.int .i64 0,.int .i64 0,.int .i64 0,.int .i64 0,.int .i64 0,.int .i64 0,.int .i64 0,.int .i64 0,.bool false,.bool false,.bool false,.bool false,.bool false,.int .i64 0,.int .i64 0,.slice none 0 0,.int .i64 0,.string ⟨#[]⟩,.string ⟨#[]⟩,.int .i64 0,.slice none 0 0,.string ⟨#[]⟩] 35)).setRow w7.heap.size TY=w8 at *
      obtain⟨g2,hg2⟩:∃ g2,w7.heap.size=g2:=⟨_,rfl⟩
      rw[hg2] at HX8 ⊢
      clear hg2
      have hyg:lg2.map Prod.fst=kg.map Prod.fst:=by rw[HIY.out.gm,(HOT.out ha).2.1,HZU.out.g.mp]
      have hyb:lb2.map Prod.fst=kb.map Prod.fst:=by rw[HIY.out.bm,(HOT.out ha).2.2.1,HZU.out.k.mp]
      have hzu8:=HZU.out.tin.below HB8.out
      have HLK:=hid (like_any u.g.cols vg2 ug lg2 kg w8 HIY.out.g hzu8.g HIY.out.gc hzu8.gc hyg (Sz.of_map hyg HSG.out.szl))
      have HSA:=hid (fun (W':World) (h:Below w8.heap.size w8 W')=>same_any vb2 ub lb2 kb W' (HIY.out.b.below h) (hzu8.b.below h) (HIY.out.bc.below h) (hzu8.bc.below h) hyb (Sz.of_map hyb HSB.out.szl))
      clear hyg hyb hzu8
      have y0:w8.cell? ⟨g2,0,none⟩=some (.int .i64 (u.g.cols)):=(HX8.out.cell 0).trans (by rw[← HTY.out];show some (Value.int .i64 (Y.g.cols))=some (Value.int .i64 (u.g.cols));rw[(HOT.out ha).2.1])
      have y2:w8.cell? ⟨g2,2,none⟩=some (.bool (false)):=(HX8.out.cell 2).trans (by rw[← HTY.out];show some (Value.bool (Y.alt))=some (Value.bool (false));rw[(HOT.out ha).1])
      have y1:w8.cell? ⟨g2,1,none⟩=some (vg2):=(HX8.out.cell 1).trans (by rw[← HTY.out];rfl)
      have v0:w8.cell? ⟨b,0,none⟩=some (.int .i64 u.g.cols):=(HXB8.out.cell 0).trans (by rw[← HTU.out];rfl)
      have v1:w8.cell? ⟨b,1,none⟩=some (ug):=(HXB8.out.cell 1).trans (by rw[← HTU.out];rfl)
      go_wp2_with (first
       | ((with_reducible refine HLK.out.mono ?_);rintro e w9 ⟨rfl,hb9⟩;have HX9:=hid (HX8.out.below hb9 HX8.out.lt);have HXB9:=hid (HXB8.out.below hb9 HXB8.out.lt);have HB9:=hid hb9;have y30:w9.cell? ⟨g2,30,none⟩=some (vb2):=(HX9.out.cell 30).trans (by rw[← HTY.out];rfl);have v30:w9.cell? ⟨b,30,none⟩=some (ub):=(HXB9.out.cell 30).trans (by rw[← HTU.out];rfl);clear hb9)
       | ((with_reducible refine(HSA.out _ HB9.out).mono ?_);rintro e w10 ⟨rfl,hb10⟩;have HX10:=hid (HX9.out.below hb10 HX9.out.lt);have HXB10:=hid (HXB9.out.below hb10 HXB9.out.lt);have HB10:=hid (HB9.out.trans (hb10.mono HB9.out.size));have y5:w10.cell? ⟨g2,5,none⟩=some (.int .i64 (u.row)):=(HX10.out.cell 5).trans (by rw[← HTY.out];show some (Value.int .i64 (Y.row))=some (Value.int .i64 (u.row));rw[(HOT.out ha).2.2.2.1]);have y6:w10.cell? ⟨g2,6,none⟩=some (.int .i64 (u.col)):=(HX10.out.cell 6).trans (by rw[← HTY.out];show some (Value.int .i64 (Y.col))=some (Value.int .i64 (u.col));rw[(HOT.out ha).2.2.2.2]);have v5:w10.cell? ⟨b,5,none⟩=some (.int .i64 u.row):=(HXB10.out.cell 5).trans (by rw[← HTU.out];rfl);have v6:w10.cell? ⟨b,6,none⟩=some (.int .i64 u.col):=(HXB10.out.cell 6).trans (by rw[← HTU.out];rfl);clear hb10))
      go_ret
      exact⟨rfl,HBQ.out ▸ (HW8.out.trans (HB10.out.mono (Nat.le_of_lt HXB8.out.lt)))⟩
     ·have c2:w6.cell? ⟨b,2,none⟩=some (.bool true):=(HXB6.out.cell 2).trans (by rw[← HTU.out];show some (Value.bool u.alt)=_;rw[ha])
      go_wp2
      go_ret
      exact⟨rfl,HBQ.out ▸ HW6.out⟩
end Go.Proofs.YtpdaekmbpafenaaGreatDoor
