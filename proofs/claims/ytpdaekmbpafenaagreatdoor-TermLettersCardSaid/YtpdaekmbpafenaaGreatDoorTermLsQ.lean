
import Derived.Test.YtpdaekmbpafenaaGreatDoorTermFcQ
import Derived.Test.YtpdaekmbpafenaaGreatDoorTermOfQ
import Derived.Test.YtpdaekmbpafenaaGreatDoorTermRgQ
import Derived.Test.YtpdaekmbpafenaaGreatDoorParseLbQ
import Derived.Test.YtpdaekmbpafenaaGreatDoorLtRowQ
import Derived.Test.YtpdaekmbpafenaaGreatDoorStrsQ
import Derived.Test.YtpdaekmbpafenaaGreatDoorGridRmQ
import Derived.Test.YtpdaekmbpafenaaGreatDoorGridRbQ
import Derived.Test.YtpdaekmbpafenaaGreatDoorBackPQ
namespace Go.Proofs.YtpdaekmbpafenaaGreatDoor
open Go.RowKit
theorem qk3 (t : Tm) (vg vm vp vb : Value) (lg lm lb : List (Ln × Value)) (s : ByteArray) (W : World) (hin : TmIn W t vg vm vp vb lg lm lb) (hr : RightT t) (hsl : s.size ≤ 100000) (hT : Tab W) (hW : TabW W) :
  Calls Tryz.prog 13 #[.agg (t.cells vg vm vp vb),.string s] W (FdYes W (qiu t (qaf s))):=by
 obtain⟨pA,pc,hpv,_⟩:=id hin.p
 subst hpv
 have hpa:=(qds t.pa).1 hr.pa
 obtain⟨hb16,hb64,hb3⟩:=qfa hpa
 have hsg:Sm lg:=rg_sm hr.g hin.gm
 have hsm:Sm lm:=by
  cases ha:t.alt
  ·have h1:=hin.mm
   rw[hr.main0 ha] at h1
   rw[List.map_eq_nil_iff.1 h1]
   exact⟨Nat.zero_le _,fun _ h=>(by cases h)⟩
  ·exact rg_sm (hr.main1 ha).1 hin.mm
 have hsb:Sm lb:=(qiq hr.bk hin.bm).1
 refine fd_yes t pA pc vg vm vb lg lm lb s W hin hr hsl hT hW (hid fun W' hb=>?_) (hid fun W' hb=>?_)
 ·exact feed_fresh t.pa _ s W' (hT.below hb) (hin.p.below hb) hpa hsl
 ·have h:=tm_right t vg vm _ vb lg lm lb W' (hin.below hb) hsg hsm hsb (by omega) (by omega) (by have:=hr.ti.2;omega) (hT.below hb) (hW.below hb)
  rw[rightT_iff.2 hr] at h
  exact h
set_option maxHeartbeats 4000000
set_option maxRecDepth 100000
def aliveS:ByteArray:=⟨#[97,98,99,100,101]⟩
def aliveT:Tm:=qiu (newT 4 2 3) (qaf aliveS)
theorem qkl:rightT (newT 4 2 3)=true:=by decide +kernel
theorem alive_facts:aliveT.g.ls.length=2∧(aliveT.g.ls.map (·.soft))[0]?=some true∧aliveT.row=1∧aliveT.col=1:=by decide +kernel
theorem qkm {W:World} {t:Tm} {vg vm vp vb:Value} {lg lm lb:List (Ln×Value)} (h:TmIn W t vg vm vp vb lg lm lb) {TD:Array Value} (hd:t.cells vg vm vp vb=TD):∀ v∈TD.toList,v.oneCell'=true:=by
 obtain⟨A1,c1,rfl,_⟩:=h.g.spell
 obtain⟨A2,c2,rfl,_⟩:=h.m.spell
 obtain⟨A4,c4,rfl,_⟩:=h.b.spell
 obtain⟨A3,c3,rfl,_⟩:=id h.p
 rw[← hd]
 simp[Tm.cells,Value.oneCell']
theorem alive_row {W:World} {vg vm vp vb:Value} {lg lm lb:List (Ln×Value)} (h:TmIn W aliveT vg vm vp vb lg lm lb):∃ g o c,vg=.slice (some ⟨g,o,none⟩) 2 c∧W.cell? ⟨g,o+1,none⟩=some (.bool true):=by
 obtain⟨f1,f2,_⟩:=alive_facts
 have hn:lg.length=2:=by rw[← f1,← h.gm,List.length_map]
 obtain⟨A,c,rfl,_,hl⟩:=h.g
 obtain⟨g,o,rfl,_,hc⟩:=hl (fun e=>by rw[e] at hn;cases hn)
 obtain⟨e,he⟩:∃ e,lg[0]?=some e:=⟨_,List.getElem?_eq_getElem (by omega)⟩
 rw[← h.gm,List.map_map,List.getElem?_map,he] at f2
 have h2:=(hc 0 e he).2
 refine⟨g,o,c,by rw[hn],?_⟩
 rw[Nat.zero_mul,Nat.add_zero] at h2
 rw[h2]
 have h3:e.1.soft=true:=Option.some.inj f2
 rw[h3]
theorem tmAlive (W:World) (hT:Tab W) (hW:TabW W):Calls Tryz.prog 10 #[] W fun e w'=>e=.returned (.bool true)∧Below W.heap.size W w':=by
 have HN:=hid (qmv 4 2 3 W (by decide) (by decide) (by decide) hT hW)
 have HT:=hid hT
 have HW:=hid hW
 clear hT hW
 go_enter Tryz.func10,Tryz.ntmps10
 go_wp2_with fail
 with_reducible refine HN.out.mono ?_
 rintro e w1 ⟨A,k,c,lg,rfl,hl,hc,hm,hb1⟩
 dsimp only
 have hin:TmIn w1 (newT 4 2 3) (.slice A k c) (.slice none 0 0) (.slice none 0 0) (.slice none 0 0) lg [] []:=⟨hl,hc,hm,LR.nil _ _ _,fun _ h=>(by cases h),rfl,LR.nil _ _ _,fun _ h=>(by cases h),rfl,IRow.nil _ _⟩
 obtain⟨TC,hTC⟩:∃ TC,(newT 4 2 3).cells (.slice A k c) (.slice none 0 0) (.slice none 0 0) (.slice none 0 0)=TC:=⟨_,rfl⟩
 rw[hTC]
 have hs:TC.size=32:=by rw[← hTC];rfl
 have h1c:∀ v∈TC.toList,v.oneCell'=true:=by rw[← hTC];simp[Tm.cells,Value.oneCell']
 have HX1:=hid (Box.new w1 35 #[.int .i64 0,.slice none 0 0,.bool false,.int .i64 0,.slice none 0 0,.int .i64 0,.int .i64 0,.bool false,.int .i64 0,.int .i64 0,.int .i64 0,.int .i64 0,.int .i64 0,.int .i64 0,.int .i64 0,.int .i64 0,.int .i64 0,.int .i64 0,.bool false,.bool false,.bool false,.bool false,.bool false,.int .i64 0,.int .i64 0,.slice none 0 0,.int .i64 0,.string ⟨#[]⟩,.string ⟨#[]⟩,.int .i64 0,.slice none 0 0,.string ⟨#[]⟩])
 have hll:TC.toList.length=32:=by rw[Array.length_toList,hs]
 have HLN:=hid (show TC.toList.length≤(#[.int .i64 0,.slice none 0 0,.bool false,.int .i64 0,.slice none 0 0,.int .i64 0,.int .i64 0,.bool false,.int .i64 0,.int .i64 0,.int .i64 0,.int .i64 0,.int .i64 0,.int .i64 0,.int .i64 0,.int .i64 0,.int .i64 0,.int .i64 0,.bool false,.bool false,.bool false,.bool false,.bool false,.int .i64 0,.int .i64 0,.slice none 0 0,.int .i64 0,.string ⟨#[]⟩,.string ⟨#[]⟩,.int .i64 0,.slice none 0 0,.string ⟨#[]⟩]:Array Value).size by rw[hll];exact Nat.le_refl _)
 have HDR:=hid (show (TC.toList ++ (#[.int .i64 0,.slice none 0 0,.bool false,.int .i64 0,.slice none 0 0,.int .i64 0,.int .i64 0,.bool false,.int .i64 0,.int .i64 0,.int .i64 0,.int .i64 0,.int .i64 0,.int .i64 0,.int .i64 0,.int .i64 0,.int .i64 0,.int .i64 0,.bool false,.bool false,.bool false,.bool false,.bool false,.int .i64 0,.int .i64 0,.slice none 0 0,.int .i64 0,.string ⟨#[]⟩,.string ⟨#[]⟩,.int .i64 0,.slice none 0 0,.string ⟨#[]⟩]:Array Value).toList.drop TC.toList.length).toArray=TC by rw[hll];simp)
 have HI:=hid (show (Tryz.prog.info? 35).map (·.size)=some TC.toList.length by rw[hll];kernel_rfl)
 have HS:=hid (show (Tryz.prog.info? 35).map (·.size)=some TC.size by rw[hs];kernel_rfl)
 have H1C:=hid h1c
 have HX2:=hid (HX1.out.setRow TC)
 have HB2:=hid (qb6 (qa w1 (.cells #[.int .i64 0,.slice none 0 0,.bool false,.int .i64 0,.slice none 0 0,.int .i64 0,.int .i64 0,.bool false,.int .i64 0,.int .i64 0,.int .i64 0,.int .i64 0,.int .i64 0,.int .i64 0,.int .i64 0,.int .i64 0,.int .i64 0,.int .i64 0,.bool false,.bool false,.bool false,.bool false,.bool false,.int .i64 0,.int .i64 0,.slice none 0 0,.int .i64 0,.string ⟨#[]⟩,.string ⟨#[]⟩,.int .i64 0,.slice none 0 0,.string ⟨#[]⟩] 35)) (Nat.le_refl w1.heap.size) TC)
 have HB1:=hid hb1
 have HIN:=hid hin
 have HTC:=hid hTC
 have HZC:=hid hs
 clear hl hc hm hb1 hin hTC hs h1c hll HN
 go_upto_region 2 with (first
  | (refine qbj rfl 35 (.tmp 1) (.tmp 6) rfl w1.heap.size TC.toList rfl rfl HX1.out HLN.out HI.out H1C.out ?_;rw[HDR.out]))
 clear HX1 HLN HI H1C HDR
 generalize (w1.alloc (.cells #[.int .i64 0,.slice none 0 0,.bool false,.int .i64 0,.slice none 0 0,.int .i64 0,.int .i64 0,.bool false,.int .i64 0,.int .i64 0,.int .i64 0,.int .i64 0,.int .i64 0,.int .i64 0,.int .i64 0,.int .i64 0,.int .i64 0,.int .i64 0,.bool false,.bool false,.bool false,.bool false,.bool false,.int .i64 0,.int .i64 0,.slice none 0 0,.int .i64 0,.string ⟨#[]⟩,.string ⟨#[]⟩,.int .i64 0,.slice none 0 0,.string ⟨#[]⟩] 35)).setRow w1.heap.size TC=w2 at *
 have HBW:=hid (HB1.out.trans (HB2.out.mono HB1.out.size))
 have HI2:=hid (HIN.out.below HB2.out)
 have hf:=qk3 (newT 4 2 3) _ _ _ _ lg [] [] aliveS w2 HI2.out (rightT_iff.1 qkl) (by decide) (HT.out.below HBW.out) (HW.out.below HBW.out)
 rw[HTC.out] at hf
 unfold aliveS at hf
 have HF:=hid hf
 clear hf HB2 HIN
 obtain⟨b,hbq⟩:∃ b,w1.heap.size=b:=⟨_,rfl⟩
 have HLE:=hid (show W.heap.size≤b from hbq ▸ HB1.out.size)
 rw[hbq] at HX2 ⊢
 clear hbq HB1
 go_wp2_with (first
  | (refine qk (by rfl) 35 (.tmp 1) rfl b rfl HX2.out _ Tryz.underlying35 (by kernel_rfl) HS.out ?_)
  | ((with_reducible refine HF.out.mono ?_);rintro e w3 ⟨vg,vm,vp,vb,lg2,lm2,lb2,rfl,hi3,hty,hb3⟩;dsimp only;rw[show qiu (newT 4 2 3) (qaf ⟨#[97,98,99,100,101]⟩)=aliveT from rfl] at hi3 hty ⊢;have HI3:=hid hi3;have HTY3:=hid hty;have HX3:=hid (HX2.out.below hb3 HX2.out.lt);have HN3:=hid (HI2.out.below hb3);have HB3:=hid (HBW.out.trans (hb3.mono HBW.out.size));clear hi3 hty hb3 HX2 HI2 HBW;obtain⟨TD,HTD⟩:∃ TD,Hid (aliveT.cells vg vm vp vb=TD):=⟨_,hid rfl⟩;rw[HTD.out];have hll:TD.toList.length=32:=(by rw[← HTD.out];rfl);have HLN:=hid (show TD.toList.length≤TC.size by rw[hll,HZC.out];exact Nat.le_refl _);have HDR:=hid (show (TD.toList ++ TC.toList.drop TD.toList.length).toArray=TD by rw[hll,List.drop_of_length_le (by rw[Array.length_toList,HZC.out];exact Nat.le_refl _)];simp);have HI:=hid (show (Tryz.prog.info? 35).map (·.size)=some TD.toList.length by rw[hll];kernel_rfl);have H1C:=hid (show ∀ v∈TD.toList,v.oneCell'=true from qkm HI3.out HTD.out);clear hll)
  | (refine qbj rfl 35 (.tmp 1) (.tmp 11) rfl b TD.toList rfl rfl HX3.out HLN.out HI.out H1C.out ?_;rw[HDR.out];have hx5:=HX3.out.setRow TD;have hsp:=HI3.out.spared HTY3.out ((rightT_iff.1 qkl).feed (qaf aliveS)) HN3.out (rightT_iff.1 qkl) (HTC.out ▸ HX3.out) (qdb w3 b TD);have HB5:=hid (qb6 HB3.out HLE.out TD);clear HX3 HLN HI H1C HDR HTY3 HI3 HN3 HB3 HF;generalize w3.setRow b TD=w5 at *;obtain⟨g,o,gc,hvg,hsoft⟩:=alive_row hsp.1;have k1:w5.cell? ⟨b,1,none⟩=some (.slice (some ⟨g,o,none⟩) 2 gc):=((hx5.cell 1).trans (by rw[← HTD.out,hvg];rfl));have k5:w5.cell? ⟨b,5,none⟩=some (.int .i64 1):=((hx5.cell 5).trans (by rw[← HTD.out];rfl));have k6:w5.cell? ⟨b,6,none⟩=some (.int .i64 1):=((hx5.cell 6).trans (by rw[← HTD.out];rfl));clear hx5 hsp))
 go_ret
 exact⟨rfl,HB5.out⟩
set_option maxRecDepth 100000
def SRow (W:World) (v:Value) (l:List ByteArray):Prop:=∃ A c,v=.slice A l.length c∧(l≠[]→∃ g,A=some ⟨g,0,none⟩∧g < W.heap.size∧∀ j x,l[j]?=some x→W.cell? ⟨g,j,none⟩=some (.string x))
theorem SRow.below {W W':World} {v:Value} {l:List ByteArray} (h:SRow W v l) (hb:Below W.heap.size W W'):SRow W' v l:=by
 obtain⟨A,c,e,h1⟩:=h
 refine⟨A,c,e,fun hn=>?_⟩
 obtain⟨g,h2,h3,h4⟩:=h1 hn
 exact⟨g,h2,Nat.lt_of_lt_of_le h3 hb.size,fun j x hx=>(hb.cell (p:=⟨g,j,none⟩) h3).trans (h4 j x hx)⟩
theorem mod_in (c:Int) (m:Nat) (h0:0 < m) (h1:m≤1000):∃ C:Nat,(wrap64 (c.tmod m+m)).tmod m=C∧C < m:=by
 have hb:-(m:Int) < c.tmod m∧c.tmod m < m:=by
  have:=Int.tmod_lt_of_pos c (b:=(m:Int)) (by omega)
  have h2:=Int.lt_tmod_of_pos c (b:=(m:Int)) (by omega)
  omega
 have hw:wrap64 (c.tmod m+m)=c.tmod m+m:=by unfold wrap64;omega
 have hn:0≤(c.tmod m+m).tmod m:=by rw[Int.tmod_eq_emod_of_nonneg (by omega)];exact Int.emod_nonneg _ (by omega)
 have hl:(c.tmod m+m).tmod m < m:=Int.tmod_lt_of_pos _ (by omega)
 refine⟨((c.tmod m+m).tmod m).toNat,?_,?_⟩
 ·rw[hw];omega
 ·omega
theorem mod12 (c:Int):∃ C:Nat,1≤C∧C≤12∧wrap64 (1+(wrap64 (c.tmod 12+12)).tmod 12)=(C:Int):=by
 obtain⟨C0,h,h1⟩:=mod_in c 12 (by decide) (by decide)
 refine⟨C0+1,by omega,by omega,?_⟩
 rw[show (wrap64 (c.tmod 12+12)).tmod 12=(C0:Int) from h]
 clear h
 unfold wrap64
 omega
theorem mod5 (c:Int):∃ C:Nat,1≤C∧C≤5∧wrap64 (1+(wrap64 (c.tmod 5+5)).tmod 5)=(C:Int):=by
 obtain⟨C0,h,h1⟩:=mod_in c 5 (by decide) (by decide)
 refine⟨C0+1,by omega,by omega,?_⟩
 rw[show (wrap64 (c.tmod 5+5)).tmod 5=(C0:Int) from h]
 clear h
 unfold wrap64
 omega
theorem mod41 (c:Int):∃ C:Nat,C≤40∧(wrap64 (c.tmod 41+41)).tmod 41=(C:Int):=by
 obtain⟨C0,h,h1⟩:=mod_in c 41 (by decide) (by decide)
 exact⟨C0,by omega,h⟩
def qir (r:Int):Bool:=qak r && decide (qg r=1)
def qc2 (l:List Int) (k:Nat):List Int:=((l.take k).filter qir).take 60
theorem sentN_step {l:List Int} {k:Nat} {x:Int} (h:l[k]?=some x):qc2 l (k+1)=if (qc2 l k).length < 60∧qir x=true then qc2 l k ++ [x] else qc2 l k:=by
 have ht:l.take (k+1)=l.take k ++ [x]:=by rw[List.take_add_one,h];rfl
 unfold qc2
 rw[ht,List.filter_append]
 generalize (l.take k).filter qir=F
 by_cases hg:qir x=true
 ·have e:[x].filter qir=[x]:=by simp[hg]
  rw[e]
  by_cases h60:F.length < 60
  ·rw[List.take_of_length_le (by omega:F.length≤60),List.take_of_length_le (by simp;omega),if_pos ⟨h60,hg⟩]
  ·rw[List.take_append_of_le_length (by omega),if_neg (fun hh=>by have:=hh.1;rw[List.length_take] at this;omega)]
 ·have e:[x].filter qir=[]:=by simp[hg]
  rw[e,List.append_nil,if_neg (fun hh=>hg hh.2)]
theorem qjg (l:List Int) (k:Nat):(qc2 l k).length≤60:=by unfold qc2;rw[List.length_take];omega
theorem qi3 (l:List Int) (k:Nat):∀ r∈qc2 l k,qak r=true∧qg r=1:=by
 intro r hr
 have:=(List.mem_filter.1 (List.mem_of_mem_take hr)).2
 unfold qir at this
 simpa using this
theorem sentN_ok (l:List Int) (k:Nat):qj8 (qc2 l k):=widths_sent fun r hr=>by rw[(qi3 l k r hr).2];decide
theorem sentN_size (l:List Int) (k:Nat):(qft (qc2 l k)).size≤240:=by
 have h1:=qmx (qc2 l k) fun r hr=>(qi3 l k r hr).1
 have h2:=qjg l k
 omega
def encs (l:List Int):List ByteArray:=l.map Utf8.encode
theorem qks (l:List Int):(encs l).length=l.length:=List.length_map _
theorem encs_snoc (l:List Int) (r:Int):encs (l ++ [r])=encs l ++ [Utf8.encode r]:=List.map_append
theorem cell_yes {C:Nat} {L:List Int} {m k:Nat} {z:Int} (hk:k < C) (h:L[m * C+k]?=some z):(qcz C (((L.map cR).drop (m * C)).take C))[k]?=some (cR z):=by
 have hl:m * C+k < L.length:=(List.getElem?_eq_some_iff.1 h).1
 unfold qcz
 rw[List.getElem?_append_left (by rw[List.length_take,List.length_drop,List.length_map];omega),List.getElem?_take,if_pos hk,List.getElem?_drop,List.getElem?_map,h]
 rfl
theorem cell_no {C:Nat} {L:List Int} {m k:Nat} (hk:k < C) (h:¬ m * C+k < L.length):(qcz C (((L.map cR).drop (m * C)).take C))[k]?=some b0C:=by
 have hl:(((L.map cR).drop (m * C)).take C).length≤k:=by rw[List.length_take,List.length_drop,List.length_map];omega
 unfold qcz
 rw[List.getElem?_append_right hl,List.getElem?_replicate,if_pos (by omega)]
theorem fill_len {C:Nat} {L:List Int} {m:Nat}:(qcz C (((L.map cR).drop (m * C)).take C)).length=C:=by
 unfold qcz
 rw[List.length_append,List.length_replicate,List.length_take,List.length_drop,List.length_map]
 omega
theorem lines_snoc (C:Nat) (cs:List Ce) (m:Nat):(List.range (m+1)).map (qff C cs)=(List.range m).map (qff C cs) ++ [qff C cs m]:=by rw[List.range_succ,List.map_append];rfl
theorem ln_step {W wr w5 w7 : World} {ls : List Ln} {x : Ln} {ov v5 : Value} {lvk : List (Ln × Value)} {lc : Array Value} (hown : OwnL wr W.heap.size ov lvk)
  (hm:lvk.map Prod.fst=ls) (hcs:∀ x∈lvk,CSl wr W.heap.size x.2 x.1.cs) (hb5:Below wr.heap.size wr w5) (hc5:CSl w5 wr.heap.size v5 x.cs) (hsz:W.heap.size≤wr.heap.size)
  (hg7:(w5.alloc (.cells lc 55)).grownBy w7 ov.ownBlock) :
  (lvk ++ [(x,v5)]).map Prod.fst=ls ++ [x]∧∀ y∈lvk ++ [(x,v5)],CSl w7 W.heap.size y.2 y.1.cs:=by
 have hb6:=hb5.trans ((qa w5 (.cells lc 55)).mono hb5.size)
 have own6:=hown.kept hb6
 refine⟨by rw[List.map_append,hm];rfl,fun y hy=>?_⟩
 rw[List.mem_append,List.mem_singleton] at hy
 rcases hy with hy | rfl
 ·exact((hcs y hy).below hb6 (Nat.le_refl _)).grown own6 hg7
 ·exact(((hc5.mono hsz).below (qa w5 (.cells lc 55)) (Nat.le_refl _)).grown own6 hg7:CSl _ _ v5 x.cs)
theorem ln_step2 {wr w5 w7 : World} {B D : Nat} {ls : List Ln} {x : Ln} {ov v5 : Value} {lvk : List (Ln × Value)} {lc : Array Value} (hown : OwnL wr B ov lvk)
  (hm:lvk.map Prod.fst=ls) (hcs:∀ x∈lvk,CSl wr D x.2 x.1.cs) (hb5:Below wr.heap.size wr w5) (hc5:CSl w5 wr.heap.size v5 x.cs) (hsz:D≤wr.heap.size)
  (hg7:(w5.alloc (.cells lc 55)).grownBy w7 ov.ownBlock) :
  (lvk ++ [(x,v5)]).map Prod.fst=ls ++ [x]∧∀ y∈lvk ++ [(x,v5)],CSl w7 D y.2 y.1.cs:=by
 have hb6:=hb5.trans ((qa w5 (.cells lc 55)).mono hb5.size)
 have own6:=hown.kept hb6
 refine⟨by rw[List.map_append,hm];rfl,fun y hy=>?_⟩
 rw[List.mem_append,List.mem_singleton] at hy
 rcases hy with hy | rfl
 ·exact((hcs y hy).below hb6 (Nat.le_refl _)).grown own6 hg7
 ·exact(((hc5.mono hsz).below (qa w5 (.cells lc 55)) (Nat.le_refl _)).grown own6 hg7:CSl _ _ v5 x.cs)
def lenOf:Value→Nat
 | .slice _ n _=>n
 | _=>0
theorem lines_num {C q m n:Nat} (_:1≤C) (h1:q≤m * C) (h2:m=1∨(m - 1) * C < q) (hm:1≤m) (h3:q≤n * C) (h4:n=1∨(n - 1) * C < q) (hn:1≤n):m=n:=by
 have key:∀ {a b:Nat},1≤b→q≤a * C→(b=1∨(b - 1) * C < q)→1≤a→b≤a:=fun {a b} hb ha hbb h1a=>by
  rcases hbb with rfl | hbb
  ·exact h1a
  ·have h5:(b - 1) * C < a * C:=by omega
   have h6:b - 1 < a:=Nat.lt_of_mul_lt_mul_right h5
   omega
 exact Nat.le_antisymm (key hm h3 h2 hn) (key hn h1 h4 hm)
theorem RightT.newT {C R K:Int} (hC:1≤C∧C≤80) (hR:1≤R∧R≤50) (hK:0≤K∧K≤40):RightT (newT C R K):=by
 have hn:(qf8 C R .no).ls.length=R.toNat:=by
  show (List.replicate R.toNat _).length=_
  rw[List.length_replicate]
 refine⟨rg_new hC hR qep,Int.le_refl 0,?_,Int.le_refl 0,?_,(fun hh=>by cases hh),(fun hh=>by cases hh),fun _=>rfl,Int.le_refl 0,?_,?_,⟨Int.le_refl 0,by show (0:Int)≤79;decide⟩,⟨Int.le_refl 0,by show (0:Int)≤79;decide⟩,qep,qep,by show qap Pa.no=true;decide +kernel,?_,⟨valid_nil,by show (0:Nat)≤32;decide⟩⟩
 ·show (0:Int) < (qf8 C R .no).ls.length
  rw[hn];omega
 ·show (0:Int) < C
  omega
 ·show R - 1 < (qf8 C R .no).ls.length
  rw[hn];omega
 ·show (0:Int) < R - 1∨((qf8 C R .no).ls.length=1∧(0:Int)=0∧R - 1=0)
  rw[hn]
  omega
 ·show qdu K []=true
  unfold qdu qgg
  simp
  omega
def AllR (W wr:World) (C:Nat) (cs:List Ce) (m:Nat) (v:Value):Prop:=∃ lv,OwnL wr W.heap.size v lv∧lv.map Prod.fst=(List.range m).map (qff C cs)∧(∀ x∈lv,CSl wr W.heap.size x.2 x.1.cs)∧Below W.heap.size W wr
def LnIn (wo wi:World) (sf:Bool) (cs:List Ce):Prop:=∃ ov,Box wi wo.heap.size 55 #[ov,.bool sf]∧OwnC wi wo.heap.size ov cs∧Below wo.heap.size wo wi∧wo.heap.size+1≤wi.heap.size
theorem take_snoc {seg:List Ce} {p:Nat} {c:Ce} (h:seg[p]?=some c):seg.take (p+1)=seg.take p ++ [c]:=by rw[List.take_add_one,h];rfl
theorem slice_ln_lh2 {W : World} {A : Option Addr} {n c : Nat} {lv : List (Ln × Value)} (hr : LR W (.slice A n c) lv) (hl : lv.length = n) (l h : Nat) (hlh : l ≤ h) (hhn : h ≤ n) :
  ∃ A',(∀ w,(Instr.sliceAt 22 (.slice A n c) (some (.int .i64 l)) (some (.int .i64 h)) none).run Tryz.prog w=.ok (.slice A' (h - l) (c - l)) w)∧LR W (.slice A' (h - l) (c - l)) ((lv.drop l).take (h - l)):=by
 have hc:n≤c:=by obtain⟨A',c',e,h,_⟩:=hr;cases e;rw[← hl];exact h
 obtain⟨A',h1,h2⟩:=hr.part hl l h c hlh hhn (by omega)
 refine⟨A',fun w=>?_,h2⟩
 rw[run_sliceAt_slice w _ _ _ _ _ Tryz.underlying22,run_slice_lh w 22 A n c Tryz.underlying22 .i64 .i64 l h (by omega) (by omega) (by omega),qie]
 simp only[Result.andThen,Int.toNat_natCast]
 rw[h1]
theorem qjh {ops : Array Oper} {rest : List Oper} {o : Oper} {a : Act} {w : World} {Q : Exit → Act → World → Prop} (hw : Region.wanted o (yielded ops a.tmps) = true) (s x : Operand)
  (ho:o.op=.call { callee:=.builtin .append,args:=#[s,x],argTypes:=#[22,22] }) (A:Option Addr) (xv:Value) (m:List (Ln×Value))
  (hs:a.eval s=.slice A 0 0) (hxe:a.eval x=xv) (hx:LR w xv m) (hm:CesOf w m) (hne:m≠[]) (hb:m.length≤1000000)
  (h:∀ v' w',OwnL w' w.heap.size v' m→Below w.heap.size w w'→wpList Tryz.prog ops Q rest (a.put o.dst v') w'):wpList Tryz.prog ops Q (o :: rest) a w:=by
 have hl:LR w (.slice A 0 0) []:=⟨A,0,rfl,Nat.le_refl _,fun hn=>absurd rfl hn⟩
 obtain⟨v',w',hrun,h2,h3⟩:=qcj w A 0 0 xv [] m hl rfl hx hm (by have:=List.length_pos_iff.2 hne;omega) (Nat.le_refl _) (by omega)
 simp only[wpList,hw,if_true]
 left
 unfold Oper.wp
 simp[execOp,ho,resolve,invoke,builtin,hs,hxe,hrun,Result.andThen]
 exact h v' w' h2 h3
end Go.Proofs.YtpdaekmbpafenaaGreatDoor
