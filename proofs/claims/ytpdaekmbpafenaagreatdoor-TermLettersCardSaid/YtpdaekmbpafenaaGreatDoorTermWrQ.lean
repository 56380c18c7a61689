
import Derived.Test.YtpdaekmbpafenaaGreatDoorTermMkQ
import Derived.Test.YtpdaekmbpafenaaGreatDoorCellHQ
import Derived.Test.YtpdaekmbpafenaaGreatDoorUtfCQ
namespace Go.Proofs.YtpdaekmbpafenaaGreatDoor
set_option maxHeartbeats 4000000
set_option maxRecDepth 100000
open Go.RowKit
section
variable {M:World→Value→Prop} {b:Nat} {mv:Value} {t:Tm} {W:World}
theorem WellT.goOn {t:Tm} (h:WellT t):WellT (goOn t)∧(goOn t).g.cols=t.g.cols∧(goOn t).col=0∧(goOn t).wr=t.wr∧(goOn t).lk=t.lk:=by
 have hw:=(h.soft h.row0 h.row1 true).pDown
 have hd:=qhm { t with g:=⟨t.g.cols,qci t.g.ls t.row true⟩ }
 refine⟨?_,hd.1,rfl,hd.2.1,hd.2.2⟩
 have hp:=h.col0
 unfold Go.Proofs.YtpdaekmbpafenaaGreatDoor.goOn
 rw[qjc]
 exact⟨hw.g,hw.row0,hw.row1,Int.le_refl 0,by show 0 < (Go.Proofs.YtpdaekmbpafenaaGreatDoor.pDown _).g.cols;have:=(qd hw.g).1;omega,hw.top0,hw.tb,hw.bot1,hw.lk,hw.bk⟩
theorem WellT.onFirst {t:Tm} (h:WellT t):WellT (onFirst t)∧(onFirst t).g.cols=t.g.cols:=by
 unfold Go.Proofs.YtpdaekmbpafenaaGreatDoor.onFirst
 split
 ·exact⟨h.goOn.1,h.goOn.2.1⟩
 ·exact⟨h,rfl⟩
theorem WellT.insFirst {t:Tm} (h:WellT t) (w:Int):WellT (insFirst t w)∧(insFirst t w).g.cols=t.g.cols∧(insFirst t w).col=t.col∧(insFirst t w).wr=t.wr∧(insFirst t w).lk=t.lk:=by
 unfold Go.Proofs.YtpdaekmbpafenaaGreatDoor.insFirst
 split
 ·have hl:(qbr t.g.ls t.row t.col w t.lk).length=t.g.ls.length:=by unfold qbr;rw[List.length_set]
  exact⟨h.grid (qij h.g h.row0 h.row1 h.col1 h.lk) hl,rfl,rfl,rfl,rfl⟩
 ·exact⟨h,rfl,rfl,rfl,rfl⟩
structure PutD (v x p:Tm) (w:Int):Prop where
 is_:x=if p.last < p.col+w then { p with col:=p.last,late:=p.wr } else { p with col:=p.col+w }
 col:p.col=v.col
 cols:p.g.cols=v.g.cols
def ofC (r w:Int) (a:At):Ce:=⟨Utf8.encode r,w,a.fg,a.bg,a.fl⟩
theorem write_stop (h : TAt M b mv t W) (hr : WellT t) (r : Int) (hst : (onFirst t).col = (onFirst t).last ∧ ((onFirst t).g.cols = 1 ∨ (onFirst t).wr = false)) :
  Calls Tryz.prog 173 #[.pointer (some ⟨b,0,none⟩),.int .i32 r,.int .i64 2] W (qu M b mv W (onFirst t)):=by
 have k7:=h.c_late.1
 have HT:=hid h
 have HR:=hid hr
 clear h hr
 go_enter Tryz.func173,Tryz.ntmps173
 go_upto_if 12 with fail
 go_cut [] (fun wx=>TAt M b mv (onFirst t) wx∧But b W wx)
 case first =>
  cases hl:t.late
  ·rw[hl] at k7
   have HE:=hid (show onFirst t=t by unfold onFirst;rw[hl];rfl)
   have HT':=hid HT.out
   clear hl
   go_wp2_with fail
   go_meet
   exact⟨by rw[HE.out];exact HT'.out,But.refl b W⟩
  ·rw[hl] at k7
   have HE:=hid (show onFirst t=goOn t by unfold onFirst;rw[hl];rfl)
   have HC:=hid (qig HT.out HR.out)
   clear hl
   go_wp2_with ((with_reducible refine HC.out.mono ?_);rintro e wn ⟨rfl,h5,h6⟩)
   go_meet
   exact⟨by rw[HE.out];exact h5,h6⟩
 case rest =>
  obtain⟨hT1,hB1⟩:=hcut
  have hu:=HR.out.onFirst
  generalize onFirst t=u at *
  clear k7
  have HU:=hid hu.1
  have hcl:u.col=u.g.cols - 1:=hst.1
  have hbd:=qd hu.1.g
  have hc1:u.g.cols≤80:=hbd.2.1
  have hc2:1≤u.g.cols:=hbd.1
  have HST:=hid hst.2
  clear hst hu hbd
  go_upto_region 2 with fail
  go_cut [26] (fun v wx=>v=.bool true∧TAt M b mv u wx∧But b W wx)
  case first =>
   have hS0:TAt M b mv u _∧But b W _:=⟨hT1.drew,hB1.drew⟩
   clear hT1 hB1
   refine qh (fun _ w'=>TAt M b mv u w'∧But b W w') (by kernel_rfl) ?_
   refine tC 0 hS0 ?_
   refine tC 1 hS0 ?_
   refine tC 2 hS0 ?_
   refine tC 3 hS0 ?_
   refine tC 4 hS0 ?_
   refine tC 5 hS0 ?_
   refine tC 6 hS0 ?_
   refine tC 7 hS0 ?_ (hy:=fun w' hw'=>by have k6:=hw'.1.c_col.1;have k0:=hw'.1.c_cols.1;go_simp;try with_reducible rfl)
   refine tC 8 hS0 ?_
   refine qz (k:=9) (by kernel_rfl) rfl (by rfl) (fun K hK=>?_)
   go_simp
   go_at_call 196
   refine(qbx hS0.1 HU.out.g).mono ?_
   rintro e9 w9 ⟨rfl,hw9⟩
   dsimp only
   have hS1:=hw9 ▸ hS0
   refine hK _ _ hS1 ?_
   clear hK K
   (try simp only[zT]);(try simp only[zA]);(try simp only[zS]);(try simp only[zZ])
   clear hS0 hw9
   have hS0:=hS1
   clear hS1
   refine tC 10 hS0 ?_
   refine tC 11 hS0 ?_
   refine qal (by kernel_rfl) ?_ _
   go_wp2_with fail
   go_meet
   exact⟨by simp,hS0.1,hS0.2⟩
  case rest =>
   obtain⟨rfl,hT2,hB2⟩:=hcut
   have k0:=hT2.c_cols.1
   have k20:=hT2.c_wr.1
   have HT2:=hid hT2
   clear hT2
   by_cases h1:u.g.cols=1
   ·rw[h1] at k0
    go_wp2
    go_end0
    exact⟨rfl,HT2.out,hB2⟩
   ·have hne:(u.g.cols == 1)=false:=by simpa using h1
    have hwr:=HST.out.resolve_left h1
    rw[hwr] at k20
    clear hwr h1
    go_wp2
    go_end0
    exact⟨rfl,HT2.out,hB2⟩
theorem write_1 (h : TAt M b mv t W) (hr : WellT t) (r : Int) (hv : qg r = 1) (hq : True) :
  Calls Tryz.prog 173 #[.pointer (some ⟨b,0,none⟩),.int .i32 r,.int .i64 1] W (qu M b mv W (printEnd (onFirst t) r 1)):=by
 have k7:=h.c_late.1
 have HT:=hid h
 have HR:=hid hr
 clear h hr
 go_enter Tryz.func173,Tryz.ntmps173
 go_upto_if 12 with fail
 go_cut [] (fun wx=>TAt M b mv (onFirst t) wx∧But b W wx)
 case first =>
  cases hl:t.late
  ·rw[hl] at k7
   have HE:=hid (show onFirst t=t by unfold onFirst;rw[hl];rfl)
   have HT':=hid HT.out
   clear hl
   go_wp2_with fail
   go_meet
   exact⟨by rw[HE.out];exact HT'.out,But.refl b W⟩
  ·rw[hl] at k7
   have HE:=hid (show onFirst t=goOn t by unfold onFirst;rw[hl];rfl)
   have HC:=hid (qig HT.out HR.out)
   clear hl
   go_wp2_with ((with_reducible refine HC.out.mono ?_);rintro e wn ⟨rfl,h5,h6⟩)
   go_meet
   exact⟨by rw[HE.out];exact h5,h6⟩
 case rest =>
  obtain⟨hT1,hB1⟩:=hcut
  have hu:=HR.out.onFirst
  generalize onFirst t=u at *
  clear k7
  have HU:=hid hu.1
  have hbd:=qd hu.1.g
  have hc1:u.g.cols≤80:=hbd.2.1
  have hc2:1≤u.g.cols:=hbd.1
  have HQ:=hid hq
  have HV:=hid hv
  clear hq hu hbd hv
  go_upto_region 2 with fail
  go_cut [26] (fun v wx=>v=.bool false∧TAt M b mv u wx∧But b W wx)
  case first =>
   have hS0:TAt M b mv u _∧But b W _:=⟨hT1.drew,hB1.drew⟩
   clear hT1 hB1
   refine qh (fun _ w'=>TAt M b mv u w'∧But b W w') (by kernel_rfl) ?_
   refine tC 0 hS0 ?_
   refine tC 1 hS0 ?_
   refine tC 2 hS0 ?_
   refine uC 3 hS0 ?_
   refine uC 4 hS0 ?_
   refine uC 5 hS0 ?_
   refine uC 6 hS0 ?_
   refine uC 7 hS0 ?_
   refine uC 8 hS0 ?_
   refine uC 9 hS0 ?_
   refine uC 10 hS0 ?_
   refine tC 11 hS0 ?_
   refine qal (by kernel_rfl) ?_ _
   go_wp2_with fail
   go_meet
   exact⟨rfl,hS0.1,hS0.2⟩
  case rest =>
   obtain⟨rfl,hT2,hB2⟩:=hcut
   have HU2:=HU
   have hnw:¬ ((1:Int)=2∧u.col=u.g.cols - 1):=fun hh=>by omega
   have hT3:=hT2
   have hB4:=hB2
   have hd1:=hc1
   clear hT2 hB2 hc1 hc2
   have HNW:=hid hnw
   have k21:=hT3.c_ins.1
   have HT3:=hid hT3
   have HB4:=hid hB4
   clear hnw hT3 hB4
   go_upto_if 48 with fail
   go_cut [] (fun wx=>TAt M b mv (insFirst u 1) wx∧But b W wx)
   case first =>
    cases hi:u.ins
    ·rw[hi] at k21
     have HE:=hid (show insFirst u 1=u by unfold insFirst;rw[hi];rfl)
     clear hi
     go_wp2_with fail
     go_meet
     exact⟨by rw[HE.out];exact HT3.out,HB4.out⟩
    ·rw[hi] at k21
     have HE:=hid (show insFirst u 1={ u with g:=⟨u.g.cols,qbr u.g.ls u.row u.col 1 u.lk⟩ } by unfold insFirst;rw[hi];rfl)
     clear hi
     have HC:=hid (qhh 1 HT3.out HU2.out.g HU2.out.row0 HU2.out.row1 HU2.out.col0 HU2.out.col1 (by omega) HU2.out.lk)
     go_wp2_with ((with_reducible refine HC.out.mono ?_);rintro e wn ⟨rfl,h5,h6⟩)
     go_meet
     exact⟨by rw[HE.out];exact h5,HB4.out.trans h6⟩
   case rest =>
    obtain⟨hT5,hB5⟩:=hcut
    have hi5:=HU2.out.insFirst 1
    have HPE:=hid (show printEnd u r 1=qfg (insFirst u 1) r 1 from rfl)
    generalize insFirst u 1=v at *
    obtain⟨hw5,e1,e2,e3,e4⟩:=hi5
    have hxr:=qes (r:=r) (by rw[HV.out];omega) hw5.lk
    rw[HV.out] at hxr
    have hnp:¬ ((1:Int)=2∧v.col=v.g.cols - 1):=by rw[e2,e1];exact HNW.out
    have htx:(Utf8.encode r).size≠0:=qim (qa8 (r:=r) (by rw[HV.out];omega))
    have HOF:=hid (of_yes r v.lk wc (by rw[HV.out];omega) hw5.lk hT5.tab hT5.tabW)
    rw[HV.out] at HOF
    unfold At.agg at HOF
    have hcol:0≤v.col∧v.col≤80:=by have:=hw5.col0;have:=hw5.col1;have:=qd hw5.g;omega
    have hvc:1≤v.g.cols∧v.g.cols≤80:=by have:=qd hw5.g;omega
    have k8:=hT5.c_fg.1
    have k9:=hT5.c_bg.1
    have k10:=hT5.c_fl.1
    have hlt5:=hT5.lt
    have HT5:=hid hT5
    have HW5:=hid hw5
    have HXR:=hid hxr
    have HNP:=hid hnp
    have HTX:=hid htx
    clear hT5 hw5 e1 e2 e3 e4 hxr hnp htx HNW HT3 k21
    go_wp2_with fail
    with_reducible refine HOF.out.mono ?_
    rintro e w6 ⟨he,hb6⟩
    have he':e=.returned (.tuple #[.agg #[.string (Utf8.encode r),.int .i64 1,.int .i64 v.lk.fg,.int .i64 v.lk.bg,.int .i64 v.lk.fl],.int .i64 0]):=he
    subst he'
    dsimp only
    have hT6:=(HT5.out.below hb6).alloc (.cells #[.string (Utf8.encode r),.int .i64 1,.int .i64 v.lk.fg,.int .i64 v.lk.bg,.int .i64 v.lk.fl] 57)
    have hB6:=hB5.trans ((But.of_below hb6).trans (But.of_below (qa w6 (.cells #[.string (Utf8.encode r),.int .i64 1,.int .i64 v.lk.fg,.int .i64 v.lk.bg,.int .i64 v.lk.fl] 57))))
    have hbx:=Box.new w6 57 #[.string (Utf8.encode r),.int .i64 1,.int .i64 v.lk.fg,.int .i64 v.lk.bg,.int .i64 v.lk.fl]
    clear he hb6 k8 k9 k10 hlt5 hB5
    go_upto_region 9 with fail
    generalize hw7:w6.alloc (.cells #[.string (Utf8.encode r),.int .i64 1,.int .i64 v.lk.fg,.int .i64 v.lk.bg,.int .i64 v.lk.fl] 57)=w7 at *
    clear hw7
    obtain⟨⟨c0,c1,c2,c3,c4⟩,_⟩:=hbx.five
    have k6:=hT6.c_col.1
    have HC:=hid (qhg v.col (ofC r 1 v.lk) hT6.drew HW5.out.g HW5.out.row0 HW5.out.row1 HW5.out.col0 HW5.out.col1 HXR.out HTX.out HNP.out)
    unfold ofC at HC
    simp only at HC
    have HB6:=hid hB6
    clear hT6 hB6 hbx
    go_wp2_with fail
    go_still_tail 7,(by kernel_rfl)
    change wpList _ _ _ _ _ w7.drew
    go_wp2_with fail
    with_reducible refine HC.out.mono ?_
    rintro e w8 ⟨rfl,hT8,hB8⟩
    dsimp only
    clear c0 c1 c2 c3 c4 k6
    have HRGP:=hid (show qm (qc3 v v.col (ofC r 1 v.lk)).g=true from rg_put HW5.out.g HW5.out.row0 HW5.out.row1 v.col HXR.out)
    unfold ofC at HRGP
    have hB9:=(HB6.out.trans (But.refl b w7).drew).trans hB8
    have hpd:PutD v (qfg v r 1) (qc3 v v.col (ofC r 1 v.lk)) 1:=⟨rfl,rfl,rfl⟩
    unfold ofC at hpd
    generalize qc3 v v.col ⟨Utf8.encode r,1,v.lk.fg,v.lk.bg,v.lk.fl⟩=p at *
    have hpc:p.col=v.col:=hpd.col
    have hpg:p.g.cols=v.g.cols:=hpd.cols
    have hrgp:qm p.g=true:=HRGP.out
    have k6:=hT8.c_col.1
    have f6:=hT8.c_col.2
    have hp0:0≤p.col∧p.col≤80:=by omega
    have hs:=hT8.s_col (p.col+1)
    have hbs:=hB9.set (i:=6) (.int .i64 (p.col+1))
    have HPD:=hid hpd.is_
    have hpc2:1≤p.g.cols∧p.g.cols≤80:=by omega
    have HRG:=hid hrgp
    clear hT8 hB9 hB8 hpd hpc hpg hrgp hcol hvc
    go_upto_region 11 with fail
    generalize hwq:w8.setCell ⟨b,6,none⟩ (.int .i64 (p.col+1))=wq at *
    clear hwq k6 f6
    go_cut [89] (fun x wx=>x=.bool (decide (p.g.cols - 1 < p.col+1))∧TAt M b mv { p with col:=p.col+1 } wx∧But b W wx)
    case first =>
     have hS0:TAt M b mv { p with col:=p.col+1 } _∧But b W _:=⟨hs.drew,hbs.drew⟩
     refine qh (fun _ w'=>TAt M b mv { p with col:=p.col+1 } w'∧But b W w') (by kernel_rfl) ?_
     refine tC 0 hS0 ?_
     refine tC 1 hS0 ?_
     refine tC 2 hS0 ?_
     refine tC 3 hS0 ?_
     refine tC 4 hS0 ?_ (hy:=fun w' hw'=>by have k6:=hw'.1.c_col.1;go_simp;try with_reducible rfl)
     refine tC 5 hS0 ?_
     refine qz (k:=6) (by kernel_rfl) rfl (by rfl) (fun K hK=>?_)
     go_simp
     go_at_call 196
     refine(qbx hS0.1 HRG.out).mono ?_
     rintro e9 w9 ⟨rfl,hw9⟩
     dsimp only
     have hS1:=hw9 ▸ hS0
     refine hK _ _ hS1 ?_
     clear hK K
     (try simp only[zT]);(try simp only[zA]);(try simp only[zS]);(try simp only[zZ])
     clear hS0 hw9
     have hS0:=hS1
     clear hS1
     refine tC 7 hS0 ?_
     refine qal (by kernel_rfl) ?_ _
     go_wp2_with fail
     go_meet
     exact⟨rfl,hS0.1,hS0.2⟩
    case rest =>
     obtain⟨rfl,hT11,hB11⟩:=hcut
     have HT11:=hid hT11
     have HB11:=hid hB11
     clear hT11 hB11 hs hbs
     by_cases hov:p.g.cols - 1 < p.col+1
     ·rw[decide_eq_true hov]
      have HEX:=hid (show printEnd u r 1={ p with col:=p.g.cols - 1,late:=p.wr } by rw[HPE.out,HPD.out];exact if_pos hov)
      clear hov HPE HPD
      go_wp2_with fail
      have hS0:TAt M b mv { p with col:=p.col+1 } _∧But b W _:=⟨HT11.out.drew,HB11.out.drew⟩
      refine qh (qcy 12 (fun w'=>TAt M b mv { p with col:=p.col+1 } w'∧But b W w')) (by kernel_rfl) ?_
      refine tN 0 (fun _=>hS0) ?_
      refine tN 1 (fun _=>hS0) ?_
      refine tN 2 (fun _=>hS0) ?_
      refine tN 4 (fun _=>hS0) ?_
      refine tN 5 (fun _=>hS0) ?_
      refine tN 6 (fun _=>hS0) ?_
      refine tN 7 (fun _=>hS0) ?_
      refine tG 8 (fun _=>hS0) ?_ (hy:=fun w' hw'=>by have k20:=hw'.1.c_wr.1;go_simp;try with_reducible rfl)
      refine qz (k:=3) (by kernel_rfl) rfl (by rfl) (fun K hK=>?_)
      go_simp
      go_at_call 196
      refine(qbx hS0.1 HRG.out).mono ?_
      rintro e9 w9 ⟨rfl,hw9⟩
      dsimp only
      have hS1:=hw9 ▸ hS0
      refine hK _ _ (fun _=>hS1) ?_
      clear hK K
      (try simp only[zT]);(try simp only[zA]);(try simp only[zS]);(try simp only[zZ])
      clear hS0 hw9
      have hS0:=hS1
      clear hS1
      have ⟨j6,f6⟩:=hS0.1.c_col
      have ⟨j7,f7⟩:=hS0.1.c_late
      refine tN 9 (fun _=>hS0) ?_
      refine tN 10 (fun _=>hS0) ?_
      refine tN 11 (fun _=>hS0) ?_
      refine qz (k:=12) (by kernel_rfl) rfl (by rfl) (fun K hK=>?_)
      go_simp
      refine hK _ _ (fun h=>(by simp at h)) ?_
      clear hK K
      (try simp only[zT]);(try simp only[zA]);(try simp only[zS]);(try simp only[zZ])
      refine tN 13 (fun h=>(by simp at h)) ?_
      refine tN 14 (fun h=>(by simp at h)) ?_
      refine tN 15 (fun h=>(by simp at h)) ?_
      refine qz (k:=16) (by kernel_rfl) rfl (by rfl) (fun K hK=>?_)
      go_simp
      refine hK _ _ (fun h=>(by simp at h)) ?_
      clear hK K
      (try simp only[zT]);(try simp only[zA]);(try simp only[zS]);(try simp only[zZ])
      refine qal (by kernel_rfl) ?_ _
      have HE:=hid ((hS0.1.s_col (p.g.cols - 1)).s_late p.wr)
      have HB:=hid ((hS0.2.set (i:=6) (.int .i64 (p.g.cols - 1))).set (i:=7) (.bool p.wr))
      clear hS0
      go_wp2
      go_end0
      exact⟨rfl,by rw[HEX.out];exact HE.out,HB.out⟩
     ·rw[decide_eq_false hov]
      have HEX:=hid (show printEnd u r 1={ p with col:=p.col+1 } by rw[HPE.out,HPD.out];exact if_neg hov)
      clear hov HPE HPD
      go_wp2
      go_end0
      exact⟨rfl,by rw[HEX.out];exact HT11.out,HB11.out⟩
theorem write_2 (h : TAt M b mv t W) (hr : WellT t) (r : Int) (hv : qg r = 2) (hq : (onFirst t).col ≠ (onFirst t).last) :
  Calls Tryz.prog 173 #[.pointer (some ⟨b,0,none⟩),.int .i32 r,.int .i64 2] W (qu M b mv W (printEnd (onFirst t) r 2)):=by
 have k7:=h.c_late.1
 have HT:=hid h
 have HR:=hid hr
 clear h hr
 go_enter Tryz.func173,Tryz.ntmps173
 go_upto_if 12 with fail
 go_cut [] (fun wx=>TAt M b mv (onFirst t) wx∧But b W wx)
 case first =>
  cases hl:t.late
  ·rw[hl] at k7
   have HE:=hid (show onFirst t=t by unfold onFirst;rw[hl];rfl)
   have HT':=hid HT.out
   clear hl
   go_wp2_with fail
   go_meet
   exact⟨by rw[HE.out];exact HT'.out,But.refl b W⟩
  ·rw[hl] at k7
   have HE:=hid (show onFirst t=goOn t by unfold onFirst;rw[hl];rfl)
   have HC:=hid (qig HT.out HR.out)
   clear hl
   go_wp2_with ((with_reducible refine HC.out.mono ?_);rintro e wn ⟨rfl,h5,h6⟩)
   go_meet
   exact⟨by rw[HE.out];exact h5,h6⟩
 case rest =>
  obtain⟨hT1,hB1⟩:=hcut
  have hu:=HR.out.onFirst
  generalize onFirst t=u at *
  clear k7
  have HU:=hid hu.1
  have hbd:=qd hu.1.g
  have hc1:u.g.cols≤80:=hbd.2.1
  have hc2:1≤u.g.cols:=hbd.1
  have HQ:=hid hq
  have HV:=hid hv
  have hcl:¬ u.col=u.g.cols - 1:=hq
  have hcb:(u.col == u.g.cols - 1)=false:=by simpa using hcl
  clear hq hu hbd hv
  go_upto_region 2 with fail
  go_cut [26] (fun v wx=>v=.bool false∧TAt M b mv u wx∧But b W wx)
  case first =>
   have hS0:TAt M b mv u _∧But b W _:=⟨hT1.drew,hB1.drew⟩
   clear hT1 hB1
   refine qh (fun _ w'=>TAt M b mv u w'∧But b W w') (by kernel_rfl) ?_
   refine tC 0 hS0 ?_
   refine tC 1 hS0 ?_
   refine tC 2 hS0 ?_
   refine tC 3 hS0 ?_
   refine tC 4 hS0 ?_
   refine tC 5 hS0 ?_
   refine tC 6 hS0 ?_
   refine tC 7 hS0 ?_ (hy:=fun w' hw'=>by have k6:=hw'.1.c_col.1;have k0:=hw'.1.c_cols.1;go_simp;try with_reducible rfl)
   refine tC 8 hS0 ?_
   refine qz (k:=9) (by kernel_rfl) rfl (by rfl) (fun K hK=>?_)
   go_simp
   go_at_call 196
   refine(qbx hS0.1 HU.out.g).mono ?_
   rintro e9 w9 ⟨rfl,hw9⟩
   dsimp only
   have hS1:=hw9 ▸ hS0
   refine hK _ _ hS1 ?_
   clear hK K
   (try simp only[zT]);(try simp only[zA]);(try simp only[zS]);(try simp only[zZ])
   clear hS0 hw9
   have hS0:=hS1
   clear hS1
   refine tC 10 hS0 ?_
   refine tC 11 hS0 ?_
   refine qal (by kernel_rfl) ?_ _
   go_wp2_with fail
   go_meet
   exact⟨by simp,hS0.1,hS0.2⟩
  case rest =>
   obtain⟨rfl,hT2,hB2⟩:=hcut
   have HU2:=HU
   have hnw:¬ ((2:Int)=2∧u.col=u.g.cols - 1):=fun hh=>hcl hh.2
   have hT3:=hT2
   have hB4:=hB2
   have hd1:=hc1
   clear hT2 hB2 hc1 hc2 hcl hcb
   have HNW:=hid hnw
   have k21:=hT3.c_ins.1
   have HT3:=hid hT3
   have HB4:=hid hB4
   clear hnw hT3 hB4
   go_upto_if 48 with fail
   go_cut [] (fun wx=>TAt M b mv (insFirst u 2) wx∧But b W wx)
   case first =>
    cases hi:u.ins
    ·rw[hi] at k21
     have HE:=hid (show insFirst u 2=u by unfold insFirst;rw[hi];rfl)
     clear hi
     go_wp2_with fail
     go_meet
     exact⟨by rw[HE.out];exact HT3.out,HB4.out⟩
    ·rw[hi] at k21
     have HE:=hid (show insFirst u 2={ u with g:=⟨u.g.cols,qbr u.g.ls u.row u.col 2 u.lk⟩ } by unfold insFirst;rw[hi];rfl)
     clear hi
     have HC:=hid (qhh 2 HT3.out HU2.out.g HU2.out.row0 HU2.out.row1 HU2.out.col0 HU2.out.col1 (by omega) HU2.out.lk)
     go_wp2_with ((with_reducible refine HC.out.mono ?_);rintro e wn ⟨rfl,h5,h6⟩)
     go_meet
     exact⟨by rw[HE.out];exact h5,HB4.out.trans h6⟩
   case rest =>
    obtain⟨hT5,hB5⟩:=hcut
    have hi5:=HU2.out.insFirst 2
    have HPE:=hid (show printEnd u r 2=qfg (insFirst u 2) r 2 from rfl)
    generalize insFirst u 2=v at *
    obtain⟨hw5,e1,e2,e3,e4⟩:=hi5
    have hxr:=qes (r:=r) (by rw[HV.out];omega) hw5.lk
    rw[HV.out] at hxr
    have hnp:¬ ((2:Int)=2∧v.col=v.g.cols - 1):=by rw[e2,e1];exact HNW.out
    have htx:(Utf8.encode r).size≠0:=qim (qa8 (r:=r) (by rw[HV.out];omega))
    have HOF:=hid (of_yes r v.lk wc (by rw[HV.out];omega) hw5.lk hT5.tab hT5.tabW)
    rw[HV.out] at HOF
    unfold At.agg at HOF
    have hcol:0≤v.col∧v.col≤80:=by have:=hw5.col0;have:=hw5.col1;have:=qd hw5.g;omega
    have hvc:1≤v.g.cols∧v.g.cols≤80:=by have:=qd hw5.g;omega
    have k8:=hT5.c_fg.1
    have k9:=hT5.c_bg.1
    have k10:=hT5.c_fl.1
    have hlt5:=hT5.lt
    have HT5:=hid hT5
    have HW5:=hid hw5
    have HXR:=hid hxr
    have HNP:=hid hnp
    have HTX:=hid htx
    clear hT5 hw5 e1 e2 e3 e4 hxr hnp htx HNW HT3 k21
    go_wp2_with fail
    with_reducible refine HOF.out.mono ?_
    rintro e w6 ⟨he,hb6⟩
    have he':e=.returned (.tuple #[.agg #[.string (Utf8.encode r),.int .i64 2,.int .i64 v.lk.fg,.int .i64 v.lk.bg,.int .i64 v.lk.fl],.int .i64 0]):=he
    subst he'
    dsimp only
    have hT6:=(HT5.out.below hb6).alloc (.cells #[.string (Utf8.encode r),.int .i64 2,.int .i64 v.lk.fg,.int .i64 v.lk.bg,.int .i64 v.lk.fl] 57)
    have hB6:=hB5.trans ((But.of_below hb6).trans (But.of_below (qa w6 (.cells #[.string (Utf8.encode r),.int .i64 2,.int .i64 v.lk.fg,.int .i64 v.lk.bg,.int .i64 v.lk.fl] 57))))
    have hbx:=Box.new w6 57 #[.string (Utf8.encode r),.int .i64 2,.int .i64 v.lk.fg,.int .i64 v.lk.bg,.int .i64 v.lk.fl]
    clear he hb6 k8 k9 k10 hlt5 hB5
    go_upto_region 9 with fail
    generalize hw7:w6.alloc (.cells #[.string (Utf8.encode r),.int .i64 2,.int .i64 v.lk.fg,.int .i64 v.lk.bg,.int .i64 v.lk.fl] 57)=w7 at *
    clear hw7
    obtain⟨⟨c0,c1,c2,c3,c4⟩,_⟩:=hbx.five
    have k6:=hT6.c_col.1
    have HC:=hid (qhg v.col (ofC r 2 v.lk) hT6.drew HW5.out.g HW5.out.row0 HW5.out.row1 HW5.out.col0 HW5.out.col1 HXR.out HTX.out (fun hh=>HNP.out ⟨trivial,hh.2⟩))
    unfold ofC at HC
    simp only at HC
    have HB6:=hid hB6
    clear hT6 hB6 hbx
    go_wp2_with fail
    go_still_tail 7,(by kernel_rfl)
    change wpList _ _ _ _ _ w7.drew
    go_wp2_with fail
    with_reducible refine HC.out.mono ?_
    rintro e w8 ⟨rfl,hT8,hB8⟩
    dsimp only
    clear c0 c1 c2 c3 c4 k6
    have HRGP:=hid (show qm (qc3 v v.col (ofC r 2 v.lk)).g=true from rg_put HW5.out.g HW5.out.row0 HW5.out.row1 v.col HXR.out)
    unfold ofC at HRGP
    have hB9:=(HB6.out.trans (But.refl b w7).drew).trans hB8
    have hpd:PutD v (qfg v r 2) (qc3 v v.col (ofC r 2 v.lk)) 2:=⟨rfl,rfl,rfl⟩
    unfold ofC at hpd
    generalize qc3 v v.col ⟨Utf8.encode r,2,v.lk.fg,v.lk.bg,v.lk.fl⟩=p at *
    have hpc:p.col=v.col:=hpd.col
    have hpg:p.g.cols=v.g.cols:=hpd.cols
    have hrgp:qm p.g=true:=HRGP.out
    have k6:=hT8.c_col.1
    have f6:=hT8.c_col.2
    have hp0:0≤p.col∧p.col≤80:=by omega
    have hs:=hT8.s_col (p.col+2)
    have hbs:=hB9.set (i:=6) (.int .i64 (p.col+2))
    have HPD:=hid hpd.is_
    have hpc2:1≤p.g.cols∧p.g.cols≤80:=by omega
    have HRG:=hid hrgp
    clear hT8 hB9 hB8 hpd hpc hpg hrgp hcol hvc
    go_upto_region 11 with fail
    generalize hwq:w8.setCell ⟨b,6,none⟩ (.int .i64 (p.col+2))=wq at *
    clear hwq k6 f6
    go_cut [89] (fun x wx=>x=.bool (decide (p.g.cols - 1 < p.col+2))∧TAt M b mv { p with col:=p.col+2 } wx∧But b W wx)
    case first =>
     have hS0:TAt M b mv { p with col:=p.col+2 } _∧But b W _:=⟨hs.drew,hbs.drew⟩
     refine qh (fun _ w'=>TAt M b mv { p with col:=p.col+2 } w'∧But b W w') (by kernel_rfl) ?_
     refine tC 0 hS0 ?_
     refine tC 1 hS0 ?_
     refine tC 2 hS0 ?_
     refine tC 3 hS0 ?_
     refine tC 4 hS0 ?_ (hy:=fun w' hw'=>by have k6:=hw'.1.c_col.1;go_simp;try with_reducible rfl)
     refine tC 5 hS0 ?_
     refine qz (k:=6) (by kernel_rfl) rfl (by rfl) (fun K hK=>?_)
     go_simp
     go_at_call 196
     refine(qbx hS0.1 HRG.out).mono ?_
     rintro e9 w9 ⟨rfl,hw9⟩
     dsimp only
     have hS1:=hw9 ▸ hS0
     refine hK _ _ hS1 ?_
     clear hK K
     (try simp only[zT]);(try simp only[zA]);(try simp only[zS]);(try simp only[zZ])
     clear hS0 hw9
     have hS0:=hS1
     clear hS1
     refine tC 7 hS0 ?_
     refine qal (by kernel_rfl) ?_ _
     go_wp2_with fail
     go_meet
     exact⟨rfl,hS0.1,hS0.2⟩
    case rest =>
     obtain⟨rfl,hT11,hB11⟩:=hcut
     have HT11:=hid hT11
     have HB11:=hid hB11
     clear hT11 hB11 hs hbs
     by_cases hov:p.g.cols - 1 < p.col+2
     ·rw[decide_eq_true hov]
      have HEX:=hid (show printEnd u r 2={ p with col:=p.g.cols - 1,late:=p.wr } by rw[HPE.out,HPD.out];exact if_pos hov)
      clear hov HPE HPD
      go_wp2_with fail
      have hS0:TAt M b mv { p with col:=p.col+2 } _∧But b W _:=⟨HT11.out.drew,HB11.out.drew⟩
      refine qh (qcy 12 (fun w'=>TAt M b mv { p with col:=p.col+2 } w'∧But b W w')) (by kernel_rfl) ?_
      refine tN 0 (fun _=>hS0) ?_
      refine tN 1 (fun _=>hS0) ?_
      refine tN 2 (fun _=>hS0) ?_
      refine tN 4 (fun _=>hS0) ?_
      refine tN 5 (fun _=>hS0) ?_
      refine tN 6 (fun _=>hS0) ?_
      refine tN 7 (fun _=>hS0) ?_
      refine tG 8 (fun _=>hS0) ?_ (hy:=fun w' hw'=>by have k20:=hw'.1.c_wr.1;go_simp;try with_reducible rfl)
      refine qz (k:=3) (by kernel_rfl) rfl (by rfl) (fun K hK=>?_)
      go_simp
      go_at_call 196
      refine(qbx hS0.1 HRG.out).mono ?_
      rintro e9 w9 ⟨rfl,hw9⟩
      dsimp only
      have hS1:=hw9 ▸ hS0
      refine hK _ _ (fun _=>hS1) ?_
      clear hK K
      (try simp only[zT]);(try simp only[zA]);(try simp only[zS]);(try simp only[zZ])
      clear hS0 hw9
      have hS0:=hS1
      clear hS1
      have ⟨j6,f6⟩:=hS0.1.c_col
      have ⟨j7,f7⟩:=hS0.1.c_late
      refine tN 9 (fun _=>hS0) ?_
      refine tN 10 (fun _=>hS0) ?_
      refine tN 11 (fun _=>hS0) ?_
      refine qz (k:=12) (by kernel_rfl) rfl (by rfl) (fun K hK=>?_)
      go_simp
      refine hK _ _ (fun h=>(by simp at h)) ?_
      clear hK K
      (try simp only[zT]);(try simp only[zA]);(try simp only[zS]);(try simp only[zZ])
      refine tN 13 (fun h=>(by simp at h)) ?_
      refine tN 14 (fun h=>(by simp at h)) ?_
      refine tN 15 (fun h=>(by simp at h)) ?_
      refine qz (k:=16) (by kernel_rfl) rfl (by rfl) (fun K hK=>?_)
      go_simp
      refine hK _ _ (fun h=>(by simp at h)) ?_
      clear hK K
      (try simp only[zT]);(try simp only[zA]);(try simp only[zS]);(try simp only[zZ])
      refine qal (by kernel_rfl) ?_ _
      have HE:=hid ((hS0.1.s_col (p.g.cols - 1)).s_late p.wr)
      have HB:=hid ((hS0.2.set (i:=6) (.int .i64 (p.g.cols - 1))).set (i:=7) (.bool p.wr))
      clear hS0
      go_wp2
      go_end0
      exact⟨rfl,by rw[HEX.out];exact HE.out,HB.out⟩
     ·rw[decide_eq_false hov]
      have HEX:=hid (show printEnd u r 2={ p with col:=p.col+2 } by rw[HPE.out,HPD.out];exact if_neg hov)
      clear hov HPE HPD
      go_wp2
      go_end0
      exact⟨rfl,by rw[HEX.out];exact HT11.out,HB11.out⟩
theorem write_2l (h : TAt M b mv t W) (hr : WellT t) (r : Int) (hv : qg r = 2) (hq : (onFirst t).col = (onFirst t).last ∧ (onFirst t).g.cols ≠ 1 ∧ (onFirst t).wr = true) :
  Calls Tryz.prog 173 #[.pointer (some ⟨b,0,none⟩),.int .i32 r,.int .i64 2] W (qu M b mv W (printEnd (goOn (onFirst t)) r 2)):=by
 have k7:=h.c_late.1
 have HT:=hid h
 have HR:=hid hr
 clear h hr
 go_enter Tryz.func173,Tryz.ntmps173
 go_upto_if 12 with fail
 go_cut [] (fun wx=>TAt M b mv (onFirst t) wx∧But b W wx)
 case first =>
  cases hl:t.late
  ·rw[hl] at k7
   have HE:=hid (show onFirst t=t by unfold onFirst;rw[hl];rfl)
   have HT':=hid HT.out
   clear hl
   go_wp2_with fail
   go_meet
   exact⟨by rw[HE.out];exact HT'.out,But.refl b W⟩
  ·rw[hl] at k7
   have HE:=hid (show onFirst t=goOn t by unfold onFirst;rw[hl];rfl)
   have HC:=hid (qig HT.out HR.out)
   clear hl
   go_wp2_with ((with_reducible refine HC.out.mono ?_);rintro e wn ⟨rfl,h5,h6⟩)
   go_meet
   exact⟨by rw[HE.out];exact h5,h6⟩
 case rest =>
  obtain⟨hT1,hB1⟩:=hcut
  have hu:=HR.out.onFirst
  generalize onFirst t=u at *
  clear k7
  have HU:=hid hu.1
  have hbd:=qd hu.1.g
  have hc1:u.g.cols≤80:=hbd.2.1
  have hc2:1≤u.g.cols:=hbd.1
  have HQ:=hid hq
  have HV:=hid hv
  have hcl:u.col=u.g.cols - 1:=hq.1
  have hcb:(u.col == u.g.cols - 1)=true:=by simpa using hcl
  clear hq hu hbd hv
  go_upto_region 2 with fail
  go_cut [26] (fun v wx=>v=.bool true∧TAt M b mv u wx∧But b W wx)
  case first =>
   have hS0:TAt M b mv u _∧But b W _:=⟨hT1.drew,hB1.drew⟩
   clear hT1 hB1
   refine qh (fun _ w'=>TAt M b mv u w'∧But b W w') (by kernel_rfl) ?_
   refine tC 0 hS0 ?_
   refine tC 1 hS0 ?_
   refine tC 2 hS0 ?_
   refine tC 3 hS0 ?_
   refine tC 4 hS0 ?_
   refine tC 5 hS0 ?_
   refine tC 6 hS0 ?_
   refine tC 7 hS0 ?_ (hy:=fun w' hw'=>by have k6:=hw'.1.c_col.1;have k0:=hw'.1.c_cols.1;go_simp;try with_reducible rfl)
   refine tC 8 hS0 ?_
   refine qz (k:=9) (by kernel_rfl) rfl (by rfl) (fun K hK=>?_)
   go_simp
   go_at_call 196
   refine(qbx hS0.1 HU.out.g).mono ?_
   rintro e9 w9 ⟨rfl,hw9⟩
   dsimp only
   have hS1:=hw9 ▸ hS0
   refine hK _ _ hS1 ?_
   clear hK K
   (try simp only[zT]);(try simp only[zA]);(try simp only[zS]);(try simp only[zZ])
   clear hS0 hw9
   have hS0:=hS1
   clear hS1
   refine tC 10 hS0 ?_
   refine tC 11 hS0 ?_
   refine qal (by kernel_rfl) ?_ _
   go_wp2_with fail
   go_meet
   exact⟨by simp,hS0.1,hS0.2⟩
  case rest =>
   obtain⟨rfl,hT2,hB2⟩:=hcut
   have k0:=hT2.c_cols.1
   have k20:=hT2.c_wr.1
   rw[HQ.out.2.2] at k20
   have hne:(u.g.cols == 1)=false:=by simpa using HQ.out.2.1
   have HC:=hid (qig hT2 HU.out)
   have HGO:=hid HU.out.goOn
   clear hT2
   go_wp2_with fail
   with_reducible refine HC.out.mono ?_
   rintro e w3 ⟨rfl,hT3,hB3⟩
   dsimp only
   have hB4:=hB2.trans hB3
   have hcol:(goOn u).col=0:=HGO.out.2.2.1
   have HU2:=hid HGO.out.1
   have hcc:(goOn u).g.cols=u.g.cols:=HGO.out.2.1
   have hnw:¬ ((2:Int)=2∧(goOn u).col=(goOn u).g.cols - 1):=fun hh=>by have:=HQ.out.2.1;omega
   have hd1:(goOn u).g.cols≤80:=by omega
   generalize goOn u=u2 at *
   clear hB2 hB3 hcol hcc k0 k20 hne hc1 hc2 hcl hcb
   have HNW:=hid hnw
   have k21:=hT3.c_ins.1
   have HT3:=hid hT3
   have HB4:=hid hB4
   clear hnw hT3 hB4
   go_upto_if 48 with fail
   go_cut [] (fun wx=>TAt M b mv (insFirst u2 2) wx∧But b W wx)
   case first =>
    cases hi:u2.ins
    ·rw[hi] at k21
     have HE:=hid (show insFirst u2 2=u2 by unfold insFirst;rw[hi];rfl)
     clear hi
     go_wp2_with fail
     go_meet
     exact⟨by rw[HE.out];exact HT3.out,HB4.out⟩
    ·rw[hi] at k21
     have HE:=hid (show insFirst u2 2={ u2 with g:=⟨u2.g.cols,qbr u2.g.ls u2.row u2.col 2 u2.lk⟩ } by unfold insFirst;rw[hi];rfl)
     clear hi
     have HC:=hid (qhh 2 HT3.out HU2.out.g HU2.out.row0 HU2.out.row1 HU2.out.col0 HU2.out.col1 (by omega) HU2.out.lk)
     go_wp2_with ((with_reducible refine HC.out.mono ?_);rintro e wn ⟨rfl,h5,h6⟩)
     go_meet
     exact⟨by rw[HE.out];exact h5,HB4.out.trans h6⟩
   case rest =>
    obtain⟨hT5,hB5⟩:=hcut
    have hi5:=HU2.out.insFirst 2
    have HPE:=hid (show printEnd u2 r 2=qfg (insFirst u2 2) r 2 from rfl)
    generalize insFirst u2 2=v at *
    obtain⟨hw5,e1,e2,e3,e4⟩:=hi5
    have hxr:=qes (r:=r) (by rw[HV.out];omega) hw5.lk
    rw[HV.out] at hxr
    have hnp:¬ ((2:Int)=2∧v.col=v.g.cols - 1):=by rw[e2,e1];exact HNW.out
    have htx:(Utf8.encode r).size≠0:=qim (qa8 (r:=r) (by rw[HV.out];omega))
    have HOF:=hid (of_yes r v.lk wc (by rw[HV.out];omega) hw5.lk hT5.tab hT5.tabW)
    rw[HV.out] at HOF
    unfold At.agg at HOF
    have hcol:0≤v.col∧v.col≤80:=by have:=hw5.col0;have:=hw5.col1;have:=qd hw5.g;omega
    have hvc:1≤v.g.cols∧v.g.cols≤80:=by have:=qd hw5.g;omega
    have k8:=hT5.c_fg.1
    have k9:=hT5.c_bg.1
    have k10:=hT5.c_fl.1
    have hlt5:=hT5.lt
    have HT5:=hid hT5
    have HW5:=hid hw5
    have HXR:=hid hxr
    have HNP:=hid hnp
    have HTX:=hid htx
    clear hT5 hw5 e1 e2 e3 e4 hxr hnp htx HNW HT3 k21
    go_wp2_with fail
    with_reducible refine HOF.out.mono ?_
    rintro e w6 ⟨he,hb6⟩
    have he':e=.returned (.tuple #[.agg #[.string (Utf8.encode r),.int .i64 2,.int .i64 v.lk.fg,.int .i64 v.lk.bg,.int .i64 v.lk.fl],.int .i64 0]):=he
    subst he'
    dsimp only
    have hT6:=(HT5.out.below hb6).alloc (.cells #[.string (Utf8.encode r),.int .i64 2,.int .i64 v.lk.fg,.int .i64 v.lk.bg,.int .i64 v.lk.fl] 57)
    have hB6:=hB5.trans ((But.of_below hb6).trans (But.of_below (qa w6 (.cells #[.string (Utf8.encode r),.int .i64 2,.int .i64 v.lk.fg,.int .i64 v.lk.bg,.int .i64 v.lk.fl] 57))))
    have hbx:=Box.new w6 57 #[.string (Utf8.encode r),.int .i64 2,.int .i64 v.lk.fg,.int .i64 v.lk.bg,.int .i64 v.lk.fl]
    clear he hb6 k8 k9 k10 hlt5 hB5
    go_upto_region 9 with fail
    generalize hw7:w6.alloc (.cells #[.string (Utf8.encode r),.int .i64 2,.int .i64 v.lk.fg,.int .i64 v.lk.bg,.int .i64 v.lk.fl] 57)=w7 at *
    clear hw7
    obtain⟨⟨c0,c1,c2,c3,c4⟩,_⟩:=hbx.five
    have k6:=hT6.c_col.1
    have HC:=hid (qhg v.col (ofC r 2 v.lk) hT6.drew HW5.out.g HW5.out.row0 HW5.out.row1 HW5.out.col0 HW5.out.col1 HXR.out HTX.out (fun hh=>HNP.out ⟨trivial,hh.2⟩))
    unfold ofC at HC
    simp only at HC
    have HB6:=hid hB6
    clear hT6 hB6 hbx
    go_wp2_with fail
    go_still_tail 7,(by kernel_rfl)
    change wpList _ _ _ _ _ w7.drew
    go_wp2_with fail
    with_reducible refine HC.out.mono ?_
    rintro e w8 ⟨rfl,hT8,hB8⟩
    dsimp only
    clear c0 c1 c2 c3 c4 k6
    have HRGP:=hid (show qm (qc3 v v.col (ofC r 2 v.lk)).g=true from rg_put HW5.out.g HW5.out.row0 HW5.out.row1 v.col HXR.out)
    unfold ofC at HRGP
    have hB9:=(HB6.out.trans (But.refl b w7).drew).trans hB8
    have hpd:PutD v (qfg v r 2) (qc3 v v.col (ofC r 2 v.lk)) 2:=⟨rfl,rfl,rfl⟩
    unfold ofC at hpd
    generalize qc3 v v.col ⟨Utf8.encode r,2,v.lk.fg,v.lk.bg,v.lk.fl⟩=p at *
    have hpc:p.col=v.col:=hpd.col
    have hpg:p.g.cols=v.g.cols:=hpd.cols
    have hrgp:qm p.g=true:=HRGP.out
    have k6:=hT8.c_col.1
    have f6:=hT8.c_col.2
    have hp0:0≤p.col∧p.col≤80:=by omega
    have hs:=hT8.s_col (p.col+2)
    have hbs:=hB9.set (i:=6) (.int .i64 (p.col+2))
    have HPD:=hid hpd.is_
    have hpc2:1≤p.g.cols∧p.g.cols≤80:=by omega
    have HRG:=hid hrgp
    clear hT8 hB9 hB8 hpd hpc hpg hrgp hcol hvc
    go_upto_region 11 with fail
    generalize hwq:w8.setCell ⟨b,6,none⟩ (.int .i64 (p.col+2))=wq at *
    clear hwq k6 f6
    go_cut [89] (fun x wx=>x=.bool (decide (p.g.cols - 1 < p.col+2))∧TAt M b mv { p with col:=p.col+2 } wx∧But b W wx)
    case first =>
     have hS0:TAt M b mv { p with col:=p.col+2 } _∧But b W _:=⟨hs.drew,hbs.drew⟩
     refine qh (fun _ w'=>TAt M b mv { p with col:=p.col+2 } w'∧But b W w') (by kernel_rfl) ?_
     refine tC 0 hS0 ?_
     refine tC 1 hS0 ?_
     refine tC 2 hS0 ?_
     refine tC 3 hS0 ?_
     refine tC 4 hS0 ?_ (hy:=fun w' hw'=>by have k6:=hw'.1.c_col.1;go_simp;try with_reducible rfl)
     refine tC 5 hS0 ?_
     refine qz (k:=6) (by kernel_rfl) rfl (by rfl) (fun K hK=>?_)
     go_simp
     go_at_call 196
     refine(qbx hS0.1 HRG.out).mono ?_
     rintro e9 w9 ⟨rfl,hw9⟩
     dsimp only
     have hS1:=hw9 ▸ hS0
     refine hK _ _ hS1 ?_
     clear hK K
     (try simp only[zT]);(try simp only[zA]);(try simp only[zS]);(try simp only[zZ])
     clear hS0 hw9
     have hS0:=hS1
     clear hS1
     refine tC 7 hS0 ?_
     refine qal (by kernel_rfl) ?_ _
     go_wp2_with fail
     go_meet
     exact⟨rfl,hS0.1,hS0.2⟩
    case rest =>
     obtain⟨rfl,hT11,hB11⟩:=hcut
     have HT11:=hid hT11
     have HB11:=hid hB11
     clear hT11 hB11 hs hbs
     by_cases hov:p.g.cols - 1 < p.col+2
     ·rw[decide_eq_true hov]
      have HEX:=hid (show printEnd u2 r 2={ p with col:=p.g.cols - 1,late:=p.wr } by rw[HPE.out,HPD.out];exact if_pos hov)
      clear hov HPE HPD
      go_wp2_with fail
      have hS0:TAt M b mv { p with col:=p.col+2 } _∧But b W _:=⟨HT11.out.drew,HB11.out.drew⟩
      refine qh (qcy 12 (fun w'=>TAt M b mv { p with col:=p.col+2 } w'∧But b W w')) (by kernel_rfl) ?_
      refine tN 0 (fun _=>hS0) ?_
      refine tN 1 (fun _=>hS0) ?_
      refine tN 2 (fun _=>hS0) ?_
      refine tN 4 (fun _=>hS0) ?_
      refine tN 5 (fun _=>hS0) ?_
      refine tN 6 (fun _=>hS0) ?_
      refine tN 7 (fun _=>hS0) ?_
      refine tG 8 (fun _=>hS0) ?_ (hy:=fun w' hw'=>by have k20:=hw'.1.c_wr.1;go_simp;try with_reducible rfl)
      refine qz (k:=3) (by kernel_rfl) rfl (by rfl) (fun K hK=>?_)
      go_simp
      go_at_call 196
      refine(qbx hS0.1 HRG.out).mono ?_
      rintro e9 w9 ⟨rfl,hw9⟩
      dsimp only
      have hS1:=hw9 ▸ hS0
      refine hK _ _ (fun _=>hS1) ?_
      clear hK K
      (try simp only[zT]);(try simp only[zA]);(try simp only[zS]);(try simp only[zZ])
      clear hS0 hw9
      have hS0:=hS1
      clear hS1
      have ⟨j6,f6⟩:=hS0.1.c_col
      have ⟨j7,f7⟩:=hS0.1.c_late
      refine tN 9 (fun _=>hS0) ?_
      refine tN 10 (fun _=>hS0) ?_
      refine tN 11 (fun _=>hS0) ?_
      refine qz (k:=12) (by kernel_rfl) rfl (by rfl) (fun K hK=>?_)
      go_simp
      refine hK _ _ (fun h=>(by simp at h)) ?_
      clear hK K
      (try simp only[zT]);(try simp only[zA]);(try simp only[zS]);(try simp only[zZ])
      refine tN 13 (fun h=>(by simp at h)) ?_
      refine tN 14 (fun h=>(by simp at h)) ?_
      refine tN 15 (fun h=>(by simp at h)) ?_
      refine qz (k:=16) (by kernel_rfl) rfl (by rfl) (fun K hK=>?_)
      go_simp
      refine hK _ _ (fun h=>(by simp at h)) ?_
      clear hK K
      (try simp only[zT]);(try simp only[zA]);(try simp only[zS]);(try simp only[zZ])
      refine qal (by kernel_rfl) ?_ _
      have HE:=hid ((hS0.1.s_col (p.g.cols - 1)).s_late p.wr)
      have HB:=hid ((hS0.2.set (i:=6) (.int .i64 (p.g.cols - 1))).set (i:=7) (.bool p.wr))
      clear hS0
      go_wp2
      go_end0
      exact⟨rfl,by rw[HEX.out];exact HE.out,HB.out⟩
     ·rw[decide_eq_false hov]
      have HEX:=hid (show printEnd u2 r 2={ p with col:=p.col+2 } by rw[HPE.out,HPD.out];exact if_neg hov)
      clear hov HPE HPD
      go_wp2
      go_end0
      exact⟨rfl,by rw[HEX.out];exact HT11.out,HB11.out⟩
theorem width_bd (r:Int):qg r=-1∨qg r=0∨qg r=1∨qg r=2:=by
 unfold qg
 repeat' split
 all_goals simp
theorem write_any (h : TAt M b mv t W) (hr : WellT t) (r w : Int) (hv : qg r = w) (hw : w = 1 ∨ w = 2) :
  Calls Tryz.prog 173 #[.pointer (some ⟨b,0,none⟩),.int .i32 r,.int .i64 w] W (qu M b mv W (qfh (onFirst t) r)):=by
 unfold qfh
 rw[hv]
 rcases hw with rfl | rfl
 ·rw[if_neg (by omega)]
  exact write_1 h hr r hv trivial
 ·by_cases hc:(onFirst t).col=(onFirst t).last
  ·rw[if_pos ⟨rfl,hc⟩]
   by_cases hs:(onFirst t).g.cols=1∨(onFirst t).wr=false
   ·rw[if_pos hs]
    exact write_stop h hr r ⟨hc,hs⟩
   ·rw[if_neg hs]
    refine write_2l h hr r hv ⟨hc,fun h1=>hs (.inl h1),?_⟩
    cases hwr:(onFirst t).wr
    ·exact absurd (.inr hwr) hs
    ·rfl
  ·rw[if_neg (fun hh=>hc hh.2)]
   exact write_2 h hr r hv hc
theorem print_any' (h : TAt M b mv t W) (hr : WellT t) (r : Int) :
  Calls Tryz.prog 103 #[.pointer (some ⟨b,0,none⟩),.int .i32 r] W (qu M b mv W (qfj t r)):=by
 have hwd:=fun w' (hT:Tab w') (hW:TabW w')=>qel r w' hT hW
 have HWD:=hid (hwd W h.tab h.tabW)
 have hb:=width_bd r
 rw[qih]
 have HT:=hid h
 have HR:=hid hr
 rcases hb with hv | hv | hv | hv
 ·rw[if_pos (by omega)]
  rw[hv] at HWD
  clear h hr hwd hv
  go_enter Tryz.func103,Tryz.ntmps103
  go_wp2_with fail
  with_reducible refine HWD.out.mono ?_
  rintro e w1 ⟨rfl,hb⟩
  dsimp only
  have HE:=hid (HT.out.below hb)
  have HB:=hid (But.of_below (b:=b) hb)
  clear hb
  go_wp2
  go_end0
  exact⟨rfl,HE.out,HB.out⟩
 ·rw[if_neg (by omega),if_pos (by omega)]
  have HV:=hid hv
  rw[hv] at HWD
  clear h hr hwd hv
  go_enter Tryz.func103,Tryz.ntmps103
  go_wp2_with fail
  with_reducible refine HWD.out.mono ?_
  rintro e w1 ⟨rfl,hb⟩
  dsimp only
  have HC:=hid (mark_any (HT.out.below hb) HR.out r HV.out)
  have HB:=hid (But.of_below (b:=b) hb)
  clear hb
  go_wp2_with ((with_reducible refine HC.out.mono ?_);rintro e wn ⟨rfl,h5,h6⟩)
  go_end0
  exact⟨rfl,h5,HB.out.trans h6⟩
 ·rw[if_neg (by omega),if_neg (by omega)]
  have HV:=hid hv
  rw[hv] at HWD
  clear h hr hwd hv
  go_enter Tryz.func103,Tryz.ntmps103
  go_wp2_with fail
  with_reducible refine HWD.out.mono ?_
  rintro e w1 ⟨rfl,hb⟩
  dsimp only
  have HC:=hid (write_any (HT.out.below hb) HR.out r 1 HV.out (.inl rfl))
  have HB:=hid (But.of_below (b:=b) hb)
  clear hb
  go_wp2_with ((with_reducible refine HC.out.mono ?_);rintro e wn ⟨rfl,h5,h6⟩)
  go_end0
  exact⟨rfl,h5,HB.out.trans h6⟩
 ·rw[if_neg (by omega),if_neg (by omega)]
  have HV:=hid hv
  rw[hv] at HWD
  clear h hr hwd hv
  go_enter Tryz.func103,Tryz.ntmps103
  go_wp2_with fail
  with_reducible refine HWD.out.mono ?_
  rintro e w1 ⟨rfl,hb⟩
  dsimp only
  have HC:=hid (write_any (HT.out.below hb) HR.out r 2 HV.out (.inr rfl))
  have HB:=hid (But.of_below (b:=b) hb)
  clear hb
  go_wp2_with ((with_reducible refine HC.out.mono ?_);rintro e wn ⟨rfl,h5,h6⟩)
  go_end0
  exact⟨rfl,h5,HB.out.trans h6⟩
end
end Go.Proofs.YtpdaekmbpafenaaGreatDoor
