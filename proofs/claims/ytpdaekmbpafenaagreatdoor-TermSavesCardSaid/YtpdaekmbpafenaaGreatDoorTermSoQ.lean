
import Derived.Test.YtpdaekmbpafenaaGreatDoorTermFcQ
import Derived.Test.YtpdaekmbpafenaaGreatDoorTermOfQ
import Derived.Test.YtpdaekmbpafenaaGreatDoorTermFeQ
import Derived.Test.YtpdaekmbpafenaaGreatDoorTermRgQ
import Derived.Test.YtpdaekmbpafenaaGreatDoorParseLbQ
import Derived.Test.YtpdaekmbpafenaaGreatDoorLtRowQ
namespace Go.Proofs.YtpdaekmbpafenaaGreatDoor
open Go.RowKit
theorem qit (t : Tm) (vg vm vp vb : Value) (lg lm lb : List (Ln × Value)) (s : ByteArray) (W : World) (hin : TmIn W t vg vm vp vb lg lm lb) (hr : RightT t) (hsl : s.size ≤ 100000) (hT : Tab W) (hW : TabW W) :
  Calls Tryz.prog 13 #[.agg (t.cells vg vm vp vb),.string s] W (FdYes W (qe7 t (qt s))):=by
 obtain⟨pA,pc,hpv,_⟩:=id hin.p
 subst hpv
 have hpa:=(qct t.pa).1 hr.pa
 obtain⟨hb16,hb64,hb3⟩:=qeh hpa
 have hsg:Sm lg:=rg_sm hr.g hin.gm
 have hsm:Sm lm:=by
  cases ha:t.alt
  ·have h1:=hin.mm
   rw[hr.main0 ha] at h1
   rw[List.map_eq_nil_iff.1 h1]
   exact⟨Nat.zero_le _,fun _ h=>(by cases h)⟩
  ·exact rg_sm (hr.main1 ha).1 hin.mm
 have hsb:Sm lb:=(qkh hr.bk hin.bm).1
 refine fd_yes t pA pc vg vm vb lg lm lb s W hin hr hsl hT hW (hid fun W' hb=>?_) (hid fun W' hb=>?_)
 ·exact feed_fresh t.pa _ s W' (hT.below hb) (hin.p.below hb) hpa hsl
 ·have h:=qm7 t vg vm _ vb lg lm lb W' (hin.below hb) hsg hsm hsb (by omega) (by omega) (by have:=hr.ti.2;omega) (hT.below hb) (hW.below hb)
  rw[rightT_iff.2 hr] at h
  exact h
theorem tm_feed_no (t : Tm) (vg vm vp vb : Value) (lg lm lb : List (Ln × Value)) (s : ByteArray) (W : World) (hin : TmIn W t vg vm vp vb lg lm lb) (hno : qjk t = false) (sg : Sm lg) (sm : Sm lm) (sb : Sm lb) (hp : t.pa.params.length ≤ 1000000) (hz : t.pa.pend.size ≤ 1000000) (ht : t.title.size ≤ 1000000) (hsl : s.size ≤ 100000) (hT : Tab W) (hW : TabW W) :
  Calls Tryz.prog 13 #[.agg (t.cells vg vm vp vb),.string s] W (FdNo W):=by
 obtain⟨pA,pc,hpv,_⟩:=id hin.p
 subst hpv
 cases hq:qat t.pa
 ·exact fd_no0 t pA _ pc s _ W (hid fun W' hb=>p_feed_no t.pa _ s W' (hT.below hb) (hin.p.below hb) hp hz hq) rfl rfl rfl rfl rfl rfl
 ·refine fd_no1 t pA _ pc s _ _ rfl W (hid fun W' hb=>feed_caps t.pa _ s W' (hT.below hb) (hin.p.below hb) ((qct t.pa).1 hq) hsl) (hid fun W' hb=>?_) rfl rfl rfl rfl rfl rfl
  have h:=qm7 t vg vm _ vb lg lm lb W' (hin.below hb) sg sm sb hp hz ht (hT.below hb) (hW.below hb)
  rw[hno] at h
  exact h
set_option maxHeartbeats 4000000
set_option maxRecDepth 100000
def aliveS:ByteArray:=⟨#[97,98,99,100,101]⟩
def aliveT:Tm:=qe7 (newT 4 2 3) (qt aliveS)
theorem qk6:qjk (newT 4 2 3)=true:=by decide +kernel
theorem alive_facts:aliveT.g.ls.length=2∧(aliveT.g.ls.map (·.soft))[0]?=some true∧aliveT.row=1∧aliveT.col=1:=by decide +kernel
theorem qk7 {W:World} {t:Tm} {vg vm vp vb:Value} {lg lm lb:List (Ln×Value)} (h:TmIn W t vg vm vp vb lg lm lb) {TD:Array Value} (hd:t.cells vg vm vp vb=TD):∀ v∈TD.toList,v.oneCell'=true:=by
 obtain⟨A1,c1,rfl,_⟩:=h.g.spell
 obtain⟨A2,c2,rfl,_⟩:=h.m.spell
 obtain⟨A4,c4,rfl,_⟩:=h.b.spell
 obtain⟨A3,c3,rfl,_⟩:=id h.p
 rw[← hd]
 simp[Tm.cells,Value.oneCell']
theorem alive_row {W:World} {vg vm vp vb:Value} {lg lm lb:List (Ln×Value)} (h:TmIn W aliveT vg vm vp vb lg lm lb):∃ g o c,vg=.slice (some ⟨g,o,none⟩) 2 c∧W.cell? ⟨g,o+1,none⟩=some (.bool true):=by
 obtain⟨f1,f2,_⟩:=alive_facts
 have hn:lg.length=2:=by rw[← f1,← h.gm,List.length_map]
 obtain⟨A,c,rfl,_,hl⟩:=h.g
 obtain⟨g,o,rfl,_,hc⟩:=hl (fun e=>by rw[e] at hn;cases hn)
 obtain⟨e,he⟩:∃ e,lg[0]?=some e:=⟨_,List.getElem?_eq_getElem (by omega)⟩
 rw[← h.gm,List.map_map,List.getElem?_map,he] at f2
 have h2:=(hc 0 e he).2
 refine⟨g,o,c,by rw[hn],?_⟩
 rw[Nat.zero_mul,Nat.add_zero] at h2
 rw[h2]
 have h3:e.1.soft=true:=Option.some.inj f2
 rw[h3]
theorem tmAlive (W:World) (hT:Tab W) (hW:TabW W):Calls Tryz.prog 10 #[] W fun e w'=>e=.returned (.bool true)∧Below W.heap.size W w':=by
 have HN:=hid (new_term 4 2 3 W (by decide) (by decide) (by decide) hT hW)
 have HT:=hid hT
 have HW:=hid hW
 clear hT hW
 go_enter Tryz.func10,Tryz.ntmps10
 go_wp2_with fail
 with_reducible refine HN.out.mono ?_
 rintro e w1 ⟨A,k,c,lg,rfl,hl,hc,hm,hb1⟩
 dsimp only
 have hin:TmIn w1 (newT 4 2 3) (.slice A k c) (.slice none 0 0) (.slice none 0 0) (.slice none 0 0) lg [] []:=⟨hl,hc,hm,LR.nil _ _ _,fun _ h=>(by cases h),rfl,LR.nil _ _ _,fun _ h=>(by cases h),rfl,IRow.nil _ _⟩
 obtain⟨TC,hTC⟩:∃ TC,(newT 4 2 3).cells (.slice A k c) (.slice none 0 0) (.slice none 0 0) (.slice none 0 0)=TC:=⟨_,rfl⟩
 rw[hTC]
 have hs:TC.size=32:=by rw[← hTC];rfl
 have h1c:∀ v∈TC.toList,v.oneCell'=true:=by rw[← hTC];simp[Tm.cells,Value.oneCell']
 have HX1:=hid (Box.new w1 35 #[.int .i64 0,.slice none 0 0,.bool false,.int .i64 0,.slice none 0 0,.int .i64 0,.int .i64 0,.bool false,.int .i64 0,.int .i64 0,.int .i64 0,.int .i64 0,.int .i64 0,.int .i64 0,.int .i64 0,.int .i64 0,.int .i64 0,.int .i64 0,.bool false,.bool false,.bool false,.bool false,.bool false,.int .i64 0,.int .i64 0,.slice none 0 0,.int .i64 0,.string ⟨#[]⟩,.string ⟨#[]⟩,.int .i64 0,.slice none 0 0,.string ⟨#[]⟩])
 have hll:TC.toList.length=32:=by rw[Array.length_toList,hs]
 have HLN:=hid (show TC.toList.length≤(#[.int .i64 0,.slice none 0 0,.bool false,.int .i64 0,.slice none 0 0,.int .i64 0,.int .i64 0,.bool false,.int .i64 0,.int .i64 0,.int .i64 0,.int .i64 0,.int .i64 0,.int .i64 0,.int .i64 0,.int .i64 0,.int .i64 0,.int .i64 0,.bool false,.bool false,.bool false,.bool false,.bool false,.int .i64 0,.int .i64 0,.slice none 0 0,.int .i64 0,.string ⟨#[]⟩,.string ⟨#[]⟩,.int .i64 0,.slice none 0 0,.string ⟨#[]⟩]:Array Value).size by rw[hll];exact Nat.le_refl _)
 have HDR:=hid (show (TC.toList ++ (#[.int .i64 0,.slice none 0 0,.bool false,.int .i64 0,.slice none 0 0,.int .i64 0,.int .i64 0,.bool false,.int .i64 0,.int .i64 0,.int .i64 0,.int .i64 0,.int .i64 0,.int .i64 0,.int .i64 0,.int .i64 0,.int .i64 0,.int .i64 0,.bool false,.bool false,.bool false,.bool false,.bool false,.int .i64 0,.int .i64 0,.slice none 0 0,.int .i64 0,.string ⟨#[]⟩,.string ⟨#[]⟩,.int .i64 0,.slice none 0 0,.string ⟨#[]⟩]:Array Value).toList.drop TC.toList.length).toArray=TC by rw[hll];simp)
 have HI:=hid (show (Tryz.prog.info? 35).map (·.size)=some TC.toList.length by rw[hll];kernel_rfl)
 have HS:=hid (show (Tryz.prog.info? 35).map (·.size)=some TC.size by rw[hs];kernel_rfl)
 have H1C:=hid h1c
 have HX2:=hid (HX1.out.setRow TC)
 have HB2:=hid (qan (qa w1 (.cells #[.int .i64 0,.slice none 0 0,.bool false,.int .i64 0,.slice none 0 0,.int .i64 0,.int .i64 0,.bool false,.int .i64 0,.int .i64 0,.int .i64 0,.int .i64 0,.int .i64 0,.int .i64 0,.int .i64 0,.int .i64 0,.int .i64 0,.int .i64 0,.bool false,.bool false,.bool false,.bool false,.bool false,.int .i64 0,.int .i64 0,.slice none 0 0,.int .i64 0,.string ⟨#[]⟩,.string ⟨#[]⟩,.int .i64 0,.slice none 0 0,.string ⟨#[]⟩] 35)) (Nat.le_refl w1.heap.size) TC)
 have HB1:=hid hb1
 have HIN:=hid hin
 have HTC:=hid hTC
 have HZC:=hid hs
 clear hl hc hm hb1 hin hTC hs h1c hll HN
 go_upto_region 2 with (first
  | (refine qag rfl 35 (.tmp 1) (.tmp 6) rfl w1.heap.size TC.toList rfl rfl HX1.out HLN.out HI.out H1C.out ?_;rw[HDR.out]))
 clear HX1 HLN HI H1C HDR
 generalize (w1.alloc (.cells #[.int .i64 0,.slice none 0 0,.bool false,.int .i64 0,.slice none 0 0,.int .i64 0,.int .i64 0,.bool false,.int .i64 0,.int .i64 0,.int .i64 0,.int .i64 0,.int .i64 0,.int .i64 0,.int .i64 0,.int .i64 0,.int .i64 0,.int .i64 0,.bool false,.bool false,.bool false,.bool false,.bool false,.int .i64 0,.int .i64 0,.slice none 0 0,.int .i64 0,.string ⟨#[]⟩,.string ⟨#[]⟩,.int .i64 0,.slice none 0 0,.string ⟨#[]⟩] 35)).setRow w1.heap.size TC=w2 at *
 have HBW:=hid (HB1.out.trans (HB2.out.mono HB1.out.size))
 have HI2:=hid (HIN.out.below HB2.out)
 have hf:=qit (newT 4 2 3) _ _ _ _ lg [] [] aliveS w2 HI2.out (rightT_iff.1 qk6) (by decide) (HT.out.below HBW.out) (HW.out.below HBW.out)
 rw[HTC.out] at hf
 unfold aliveS at hf
 have HF:=hid hf
 clear hf HB2 HIN
 obtain⟨b,hbq⟩:∃ b,w1.heap.size=b:=⟨_,rfl⟩
 have HLE:=hid (show W.heap.size≤b from hbq ▸ HB1.out.size)
 rw[hbq] at HX2 ⊢
 clear hbq HB1
 go_wp2_with (first
  | (refine qg (by rfl) 35 (.tmp 1) rfl b rfl HX2.out _ Tryz.underlying35 (by kernel_rfl) HS.out ?_)
  | ((with_reducible refine HF.out.mono ?_);rintro e w3 ⟨vg,vm,vp,vb,lg2,lm2,lb2,rfl,hi3,hty,hb3⟩;dsimp only;rw[show qe7 (newT 4 2 3) (qt ⟨#[97,98,99,100,101]⟩)=aliveT from rfl] at hi3 hty ⊢;have HI3:=hid hi3;have HTY3:=hid hty;have HX3:=hid (HX2.out.below hb3 HX2.out.lt);have HN3:=hid (HI2.out.below hb3);have HB3:=hid (HBW.out.trans (hb3.mono HBW.out.size));clear hi3 hty hb3 HX2 HI2 HBW;obtain⟨TD,HTD⟩:∃ TD,Hid (aliveT.cells vg vm vp vb=TD):=⟨_,hid rfl⟩;rw[HTD.out];have hll:TD.toList.length=32:=(by rw[← HTD.out];rfl);have HLN:=hid (show TD.toList.length≤TC.size by rw[hll,HZC.out];exact Nat.le_refl _);have HDR:=hid (show (TD.toList ++ TC.toList.drop TD.toList.length).toArray=TD by rw[hll,List.drop_of_length_le (by rw[Array.length_toList,HZC.out];exact Nat.le_refl _)];simp);have HI:=hid (show (Tryz.prog.info? 35).map (·.size)=some TD.toList.length by rw[hll];kernel_rfl);have H1C:=hid (show ∀ v∈TD.toList,v.oneCell'=true from qk7 HI3.out HTD.out);clear hll)
  | (refine qag rfl 35 (.tmp 1) (.tmp 11) rfl b TD.toList rfl rfl HX3.out HLN.out HI.out H1C.out ?_;rw[HDR.out];have hx5:=HX3.out.setRow TD;have hsp:=HI3.out.spared HTY3.out ((rightT_iff.1 qk6).feed (qt aliveS)) HN3.out (rightT_iff.1 qk6) (HTC.out ▸ HX3.out) (qcu w3 b TD);have HB5:=hid (qan HB3.out HLE.out TD);clear HX3 HLN HI H1C HDR HTY3 HI3 HN3 HB3 HF;generalize w3.setRow b TD=w5 at *;obtain⟨g,o,gc,hvg,hsoft⟩:=alive_row hsp.1;have k1:w5.cell? ⟨b,1,none⟩=some (.slice (some ⟨g,o,none⟩) 2 gc):=((hx5.cell 1).trans (by rw[← HTD.out,hvg];rfl));have k5:w5.cell? ⟨b,5,none⟩=some (.int .i64 1):=((hx5.cell 5).trans (by rw[← HTD.out];rfl));have k6:w5.cell? ⟨b,6,none⟩=some (.int .i64 1):=((hx5.cell 6).trans (by rw[← HTD.out];rfl));clear hx5 hsp))
 go_ret
 exact⟨rfl,HB5.out⟩
theorem FewRow.grow {W w w':World} {b:Nat} {v:Value} {lv:List (Ln×Value)} {ls:List Ln} (h:FewRow W w v lv ls) (hb:b < W.heap.size) (hB:But b w w'):GRow b w' v lv ls:=by
 refine GRow.but (b:=b) ⟨h.2.1.row,fun e he=>(h.2.2 e he).row,h.1,fun _=>?_,fun e he _=>?_⟩ hB
 ·rcases h.2.1 with ⟨_,rfl⟩ | ⟨g,cap,rfl,hg,_⟩
  ·exact OffB.nil _ _ _
  ·rintro A n c e
   cases e
   show g≠b
   omega
 ·rcases h.2.2 e he with ⟨_,h0⟩ | ⟨g,cap,h0,hg,_⟩
  ·rw[h0]
   exact OffB.nil _ _ _
  ·rw[h0]
   rintro A n c e
   cases e
   show g≠b
   omega
structure TmZ (b:Nat) (W:World) (t:Tm) (vg vm vp vb:Value) (lg lm lb:List (Ln×Value)):Prop where
 g:GRow b W vg lg t.g.ls
 m:GRow b W vm lm t.main.ls
 k:GRow b W vb lb t.bls
 p:IRow W vp t.pa.params
 po:t.pa.params≠[]→OffB b vp
theorem TmZ.but {b:Nat} {W W':World} {t:Tm} {vg vm vp vb:Value} {lg lm lb:List (Ln×Value)} (h:TmZ b W t vg vm vp vb lg lm lb) (hb:But b W W'):TmZ b W' t vg vm vp vb lg lm lb :=
 ⟨h.g.but hb,h.m.but hb,h.k.but hb,h.p.but hb h.po,h.po⟩
theorem TmZ.below {b:Nat} {W W':World} {t:Tm} {vg vm vp vb:Value} {lg lm lb:List (Ln×Value)} (h:TmZ b W t vg vm vp vb lg lm lb) (hb:Below W.heap.size W W'):TmZ b W' t vg vm vp vb lg lm lb :=
 h.but (But.of_below hb)
theorem TmZ.tin {b:Nat} {W:World} {t:Tm} {vg vm vp vb:Value} {lg lm lb:List (Ln×Value)} (h:TmZ b W t vg vm vp vb lg lm lb):TmIn W t vg vm vp vb lg lm lb :=
 ⟨h.g.lr,h.g.ces,h.g.mp,h.m.lr,h.m.ces,h.m.mp,h.k.lr,h.k.ces,h.k.mp,h.p⟩
theorem IRow.t_take {W:World} {A:Option Addr} {c:Nat} {l:List Int} (h:IRow W (.slice A l.length c) l) (n:Nat):IRow W (.slice A (l.take n).length c) (l.take n):=by
 obtain⟨A',c',e,hl⟩:=h
 cases e
 refine⟨A,c,rfl,fun hn=>?_⟩
 obtain⟨ad,h1,h2,h3⟩:=hl (fun e=>hn (by rw[e];simp))
 refine⟨ad,h1,h2,fun j x hj=>h3 j x ?_⟩
 rw[List.getElem?_take] at hj
 split at hj
 ·exact hj
 ·cases hj
theorem few_put {W w1 : World} {t : Tm} {pA : Option Addr} {pc : Nat} {ug um ub : Value} {kg km kb : List (Ln × Value)} (o : Obj) (h0 : IRow W (.slice pA t.pa.params.length pc) t.pa.params) (r1 : FewRow (W.alloc o) w1 ug kg (qem t).g.ls)
  (r2:FewRow (W.alloc o) w1 um km (qem t).main.ls) (r3:FewRow (W.alloc o) w1 ub kb (qem t).bls) (hb:Below (W.alloc o).heap.size (W.alloc o) w1) (TD:Array Value) :
  TmZ W.heap.size (w1.setRow W.heap.size TD) (qem t) ug um (.slice pA (qem t).pa.params.length pc) ub kg km kb∧Below W.heap.size W (w1.setRow W.heap.size TD):=by
 have hlt:W.heap.size < (W.alloc o).heap.size:=by simp
 have hB:=qcu w1 W.heap.size TD
 have hbw:Below W.heap.size W (w1.setRow W.heap.size TD):=qan ((qa W o).trans (hb.mono (Nat.le_of_lt hlt))) (Nat.le_refl _) TD
 have ht:=h0.t_take 18
 refine⟨⟨r1.grow hlt hB,r2.grow hlt hB,r3.grow hlt hB,ht.below hbw,fun hn=>ir_off ht (Nat.le_refl _) hn⟩,hbw⟩
theorem few_cells {t : Tm} {W w : World} {pA : Option Addr} {pc : Nat} {ug um ub : Value} {kg km kb : List (Ln × Value)} (r1 : FewRow W w ug kg (qem t).g.ls) (r2 : FewRow W w um km (qem t).main.ls) (r3 : FewRow W w ub kb (qem t).bls)
  {n:Nat} {TD:Array Value} (hd:(qem t).cells ug um (.slice pA n pc) ub=TD):∀ v∈TD.toList,v.oneCell'=true:=by
 obtain⟨A1,n1,c1,rfl⟩:=r1.spell
 obtain⟨A2,n2,c2,rfl⟩:=r2.spell
 obtain⟨A3,n3,c3,rfl⟩:=r3.spell
 rw[← hd]
 simp[Tm.cells,Value.oneCell']
theorem cut_sm {ls:List Ln} {m:Nat} (hm:m≤52) {lv:List (Ln×Value)} (h:lv.map Prod.fst=qd5 ls m):Sm lv:=by
 have hl:lv.length≤52:=by
  have:=congrArg List.length h
  unfold qd5 at this
  rw[List.length_map,List.length_map,List.length_take] at this
  omega
 refine⟨by omega,fun e he=>?_⟩
 have hm':e.1∈qd5 ls m:=by rw[← h];exact List.mem_map.2 ⟨e,he,rfl⟩
 unfold qd5 at hm'
 obtain⟨x,_,hx⟩:=List.mem_map.1 hm'
 rw[← hx]
 unfold cutN
 refine⟨?_,fun c hc=>?_⟩
 ·have:=lineG_length x.cs
  show (qh6 x.cs).length≤_
  omega
 ·have hc':c∈qh6 x.cs:=hc
  unfold qh6 at hc'
  obtain⟨y,_,hy⟩:=List.mem_map.1 hc'
  have:=cutC_size y
  rw[← hy]
  omega
theorem fewT_sizes (t:Tm):(qem t).pa.params.length≤1000000∧(qem t).pa.pend.size≤1000000∧(qem t).title.size≤1000000:=by
 refine⟨?_,?_,?_⟩
 ·show (t.pa.params.take 18).length≤_
  rw[List.length_take];omega
 ·show (t.pa.pend.extract 0 6).size≤_
  rw[qj];omega
 ·show (t.title.extract 0 36).size≤_
  rw[qj];omega
def goodS (r:Int):Bool:=qam r && decide (0 < qk r)
def qdo (l:List Int) (k:Nat):List Int:=((l.take k).take 20).filter goodS
theorem sentS_step {l:List Int} {k:Nat} {x:Int} (h:l[k]?=some x):qdo l (k+1)=if k < 20∧goodS x=true then qdo l k ++ [x] else qdo l k:=by
 have hk:k < l.length:=(List.getElem?_eq_some_iff.1 h).1
 have ht:l.take (k+1)=l.take k ++ [x]:=by rw[List.take_add_one,h];rfl
 have hl:(l.take k).length=k:=by rw[List.length_take];omega
 unfold qdo
 rw[ht]
 by_cases h20:k < 20
 ·have e1:(l.take k ++ [x]).take 20=l.take k ++ [x]:=List.take_of_length_le (by simp;omega)
  have e2:(l.take k).take 20=l.take k:=List.take_of_length_le (by omega)
  rw[e1,e2,List.filter_append]
  by_cases hg:goodS x=true
  ·rw[if_pos ⟨h20,hg⟩];simp[hg]
  ·rw[if_neg (fun hh=>hg hh.2)];simp[hg]
 ·have e1:(l.take k ++ [x]).take 20=(l.take k).take 20:=by rw[List.take_append_of_le_length (by omega)]
  rw[e1,if_neg (fun hh=>h20 hh.1)]
theorem sentS_length (l:List Int) (k:Nat):(qdo l k).length≤20:=by
 unfold qdo
 refine Nat.le_trans (List.length_filter_le _ _) ?_
 rw[List.length_take];omega
theorem ql3 (l:List Int) (k:Nat):∀ r∈qdo l k,qam r=true∧0 < qk r:=by
 intro r hr
 have:=(List.mem_filter.1 hr).2
 unfold goodS at this
 simpa using this
theorem sentS_ok (l:List Int) (k:Nat):qfu (qdo l k):=widths_sent fun r hr=>Int.le_of_lt (ql3 l k r hr).2
theorem sentS_size (l:List Int) (k:Nat):(qgr (qdo l k)).size≤80:=by
 have h1:=qnc (qdo l k) fun r hr=>(ql3 l k r hr).1
 have h2:=sentS_length l k
 omega
theorem run_neqA (a b c:Int) (W:World):(binOp .neq 26 (.agg #[.int .i64 a,.int .i64 b,.int .i64 c]) (.agg #[.int .i64 a,.int .i64 b,.int .i64 c])).run Tryz.prog W=.ok (.bool false) W:=by
 rw[run_neq_struct,run_eqA]
 simp
end Go.Proofs.YtpdaekmbpafenaaGreatDoor
