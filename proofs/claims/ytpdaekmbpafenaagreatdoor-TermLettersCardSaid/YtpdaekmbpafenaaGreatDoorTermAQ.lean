
import Derived.Test.YtpdaekmbpafenaaGreatDoorTermRgQ
import Derived.Test.YtpdaekmbpafenaaGreatDoorTermWQ
import Derived.Test.YtpdaekmbpafenaaGreatDoorCellYaQ
import Derived.Test.YtpdaekmbpafenaaGreatDoorLtRowQ
import Derived.Maps.Own
namespace Go.Proofs.YtpdaekmbpafenaaGreatDoor
open Go.RowKit
def qcq (b:Nat) (v:Value):Prop:=∀ A n c,v=.slice (some A) n c→A.block≠b
theorem But.cell {b:Nat} {W W':World} (h:But b W W') {p:Addr} (hp:p.block < W.heap.size) (hn:p.block≠b):W'.cell? p=W.cell? p:=by
 have:=h.block p.block hp (by simpa using hn)
 unfold World.cell?
 rw[this]
theorem LR.but {b:Nat} {W W':World} {v:Value} {l:List (Ln×Value)} (h:LR W v l) (hb:But b W W') (ho:l≠[]→qcq b v):LR W' v l:=by
 obtain⟨A,c,rfl,hc,hl⟩:=h
 refine⟨A,c,rfl,hc,fun hn=>?_⟩
 obtain⟨g,o,rfl,hg,hc⟩:=hl hn
 have hne:g≠b:=ho hn _ _ _ rfl
 exact⟨g,o,rfl,Nat.lt_of_lt_of_le hg hb.size,fun j e he=>⟨(hb.cell (p:=⟨g,o+j * 2,none⟩) hg hne).trans (hc j e he).1,(hb.cell (p:=⟨g,o+j * 2+1,none⟩) hg hne).trans (hc j e he).2⟩⟩
theorem CeRow.but {b:Nat} {W W':World} {v:Value} {l:List Ce} (h:CeRow W v l) (hb:But b W W') (ho:l≠[]→qcq b v):CeRow W' v l:=by
 obtain⟨A,c,rfl,hc,hl⟩:=h
 refine⟨A,c,rfl,hc,fun hn=>?_⟩
 obtain⟨g,o,rfl,hg,hc⟩:=hl hn
 have hne:g≠b:=ho hn _ _ _ rfl
 exact⟨g,o,rfl,Nat.lt_of_lt_of_le hg hb.size,fun j e he i u hu=>(hb.cell (p:=⟨g,o+j * 5+i,none⟩) hg hne).trans (hc j e he i u hu)⟩
theorem IRow.but {b:Nat} {W W':World} {v:Value} {l:List Int} (h:IRow W v l) (hb:But b W W') (ho:l≠[]→qcq b v):IRow W' v l:=by
 obtain⟨A,c,rfl,hl⟩:=h
 refine⟨A,c,rfl,fun hn=>?_⟩
 obtain⟨ad,rfl,hg,hc⟩:=hl hn
 have hne:ad.block≠b:=ho hn _ _ _ rfl
 exact⟨ad,rfl,Nat.lt_of_lt_of_le hg hb.size,fun j x hx=>(hb.cell (p:=ad.add j) (by rw[qdf];exact hg) (by rw[qdf];exact hne)).trans (hc j x hx)⟩
structure GRow (b:Nat) (W:World) (v:Value) (lv:List (Ln×Value)) (ls:List Ln):Prop where
 lr:LR W v lv
 ces:CesOf W lv
 mp:lv.map Prod.fst=ls
 off:lv≠[]→qcq b v
 offs:∀ e∈lv,e.1.cs≠[]→qcq b e.2
theorem GRow.but {b:Nat} {W W':World} {v:Value} {lv:List (Ln×Value)} {ls:List Ln} (h:GRow b W v lv ls) (hb:But b W W'):GRow b W' v lv ls :=
 ⟨h.lr.but hb h.off,fun e he=>(h.ces e he).but hb (h.offs e he),h.mp,h.off,h.offs⟩
theorem GRow.nil (b:Nat) (W:World) (c:Nat):GRow b W (.slice none 0 c) [] []:=⟨LR.nil _ _ _,fun _ h=>(by cases h),rfl,fun h=>absurd rfl h,fun _ h=>(by cases h)⟩
theorem GRow.len {b:Nat} {W:World} {v:Value} {lv:List (Ln×Value)} {ls:List Ln} (h:GRow b W v lv ls):lv.length=ls.length:=by rw[← h.mp,List.length_map]
theorem GRow.spell {b:Nat} {W:World} {v:Value} {lv:List (Ln×Value)} {ls:List Ln} (h:GRow b W v lv ls):∃ A c,v=.slice A ls.length c∧ls.length≤c:=by
 obtain⟨A,c,e,hc,_⟩:=h.lr
 rw[h.len] at e hc
 exact⟨A,c,e,hc⟩
def Tm.all (t:Tm) (vg vm vp vb mv:Value):Array Value:=#[.int .i64 t.g.cols,vg,.bool t.alt,.int .i64 t.main.cols,vm,.int .i64 t.row,.int .i64 t.col,.bool t.late,.int .i64 t.lk.fg,.int .i64 t.lk.bg,.int .i64 t.lk.fl,.int .i64 t.top,.int .i64 t.bot,.int .i64 t.sv.row,.int .i64 t.sv.col,.int .i64 t.sv.lk.fg,.int .i64 t.sv.lk.bg,.int .i64 t.sv.lk.fl,.bool t.sv.og,.bool t.og,.bool t.wr,.bool t.ins,.bool t.hd,.int .i64 t.pa.st,.int .i64 t.pa.priv,vp,.int .i64 t.pa.inter,.string t.pa.osc,.string t.pa.pend,.int .i64 t.bmax,vb,.string t.title,mv]
def PRow (W:World) (v:Value) (l:List Int):Prop:=IRow W v l∧Typed W v l
theorem PRow.but {b:Nat} {W W':World} {v:Value} {l:List Int} (h:PRow W v l) (hb:But b W W') (ho:l≠[]→qcq b v):PRow W' v l:=by
 refine⟨h.1.but hb ho,fun hl A k c e=>?_⟩
 obtain⟨cur,hc⟩:=h.2 hl A k c e
 exact⟨cur,(hb.block A.block (Array.getElem?_eq_some_iff.1 hc).1 (fun q=>ho hl A k c e (Option.some.inj q))).trans hc⟩
theorem PRow.below {W W':World} {v:Value} {l:List Int} (h:PRow W v l) (hb:Below W.heap.size W W'):PRow W' v l:=⟨h.1.below hb,h.2.below hb⟩
theorem PRow.nil (W:World) (c:Nat):PRow W (.slice none 0 c) []:=⟨IRow.nil W c,Typed.nil _ _⟩
structure TmX (b:Nat) (W:World) (t:Tm) (vg vm vp vb:Value) (lg lm lb:List (Ln×Value)):Prop where
 g:GRow b W vg lg t.g.ls
 m:GRow b W vm lm t.main.ls
 k:GRow b W vb lb t.bls
 p:PRow W vp t.pa.params
 po:t.pa.params≠[]→qcq b vp
theorem TmX.but {b:Nat} {W W':World} {t:Tm} {vg vm vp vb:Value} {lg lm lb:List (Ln×Value)} (h:TmX b W t vg vm vp vb lg lm lb) (hb:But b W W'):TmX b W' t vg vm vp vb lg lm lb :=
 ⟨h.g.but hb,h.m.but hb,h.k.but hb,h.p.but hb h.po,h.po⟩
def Ev (M:World→Value→Prop) (b:Nat) (mv:Value) (W:World):Prop:=∃ W0,Below W0.heap.size W0 W∧W0.heap.size≤b∧Tab W0∧TabW W0∧(∃ m,mv=.map (some m))∧M W0 mv
theorem Ev.but {M:World→Value→Prop} {b:Nat} {mv:Value} {W W':World} (h:Ev M b mv W) (hb:But b W W') (hlt:b < W.heap.size):Ev M b mv W':=by
 obtain⟨W0,h1,h2,h3⟩:=h
 exact⟨W0,h1.trans ((hb.below (Nat.le_of_lt hlt)).mono h2),h2,h3⟩
theorem Ev.tab {M:World→Value→Prop} {b:Nat} {mv:Value} {W:World} (h:Ev M b mv W):Tab W∧TabW W:=by
 obtain⟨W0,h1,_,h3,h4,_⟩:=h
 exact⟨h3.below h1,h4.below h1⟩
def TAt (M:World→Value→Prop) (b:Nat) (mv:Value) (t:Tm) (W:World):Prop:=Ev M b mv W∧∃ vg vm vp vb lg lm lb,Box W b 89 (t.all vg vm vp vb mv)∧TmX b W t vg vm vp vb lg lm lb
section
variable {M:World→Value→Prop} {b:Nat} {mv:Value} {t:Tm} {W W':World}
theorem TAt.lt (h:TAt M b mv t W):b < W.heap.size:=by obtain⟨_,_,_,_,_,_,_,_,hb,_⟩:=h;exact hb.lt
theorem TAt.tab (h:TAt M b mv t W):Tab W:=h.1.tab.1
theorem TAt.tabW (h:TAt M b mv t W):TabW W:=h.1.tab.2
theorem TAt.below (h:TAt M b mv t W) (hb:Below W.heap.size W W'):TAt M b mv t W':=by
 have hlt:=h.lt
 obtain⟨he,vg,vm,vp,vb,lg,lm,lb,h1,h2⟩:=h
 exact⟨he.but (But.of_below hb) hlt,vg,vm,vp,vb,lg,lm,lb,h1.below hb hlt,h2.but (But.of_below hb)⟩
theorem TAt.drewN (h:TAt M b mv t W) (n:Nat):TAt M b mv t (W.drewN n):=h.below (qf W n)
theorem TAt.drew (h:TAt M b mv t W):TAt M b mv t W.drew:=h.below ⟨rfl,rfl,rfl,Nat.le_refl _,fun _ _=>rfl⟩
theorem TAt.alloc (h:TAt M b mv t W) (o:Obj):TAt M b mv t (W.alloc o):=h.below (qa W o)
theorem TAt.c_cols (h:TAt M b mv t W):W.cell? ⟨b,0,none⟩=some (.int .i64 t.g.cols)∧W.frozen? ⟨b,0,none⟩=false:=by
 obtain⟨_,_,_,_,_,_,_,_,hb,_⟩:=h;exact⟨hb.cell 0,hb.free 0⟩
theorem TAt.c_alt (h:TAt M b mv t W):W.cell? ⟨b,2,none⟩=some (.bool t.alt)∧W.frozen? ⟨b,2,none⟩=false:=by
 obtain⟨_,_,_,_,_,_,_,_,hb,_⟩:=h;exact⟨hb.cell 2,hb.free 2⟩
theorem TAt.c_mcols (h:TAt M b mv t W):W.cell? ⟨b,3,none⟩=some (.int .i64 t.main.cols)∧W.frozen? ⟨b,3,none⟩=false:=by
 obtain⟨_,_,_,_,_,_,_,_,hb,_⟩:=h;exact⟨hb.cell 3,hb.free 3⟩
theorem TAt.c_row (h:TAt M b mv t W):W.cell? ⟨b,5,none⟩=some (.int .i64 t.row)∧W.frozen? ⟨b,5,none⟩=false:=by
 obtain⟨_,_,_,_,_,_,_,_,hb,_⟩:=h;exact⟨hb.cell 5,hb.free 5⟩
theorem TAt.c_col (h:TAt M b mv t W):W.cell? ⟨b,6,none⟩=some (.int .i64 t.col)∧W.frozen? ⟨b,6,none⟩=false:=by
 obtain⟨_,_,_,_,_,_,_,_,hb,_⟩:=h;exact⟨hb.cell 6,hb.free 6⟩
theorem TAt.c_late (h:TAt M b mv t W):W.cell? ⟨b,7,none⟩=some (.bool t.late)∧W.frozen? ⟨b,7,none⟩=false:=by
 obtain⟨_,_,_,_,_,_,_,_,hb,_⟩:=h;exact⟨hb.cell 7,hb.free 7⟩
theorem TAt.c_fg (h:TAt M b mv t W):W.cell? ⟨b,8,none⟩=some (.int .i64 t.lk.fg)∧W.frozen? ⟨b,8,none⟩=false:=by
 obtain⟨_,_,_,_,_,_,_,_,hb,_⟩:=h;exact⟨hb.cell 8,hb.free 8⟩
theorem TAt.c_bg (h:TAt M b mv t W):W.cell? ⟨b,9,none⟩=some (.int .i64 t.lk.bg)∧W.frozen? ⟨b,9,none⟩=false:=by
 obtain⟨_,_,_,_,_,_,_,_,hb,_⟩:=h;exact⟨hb.cell 9,hb.free 9⟩
theorem TAt.c_fl (h:TAt M b mv t W):W.cell? ⟨b,10,none⟩=some (.int .i64 t.lk.fl)∧W.frozen? ⟨b,10,none⟩=false:=by
 obtain⟨_,_,_,_,_,_,_,_,hb,_⟩:=h;exact⟨hb.cell 10,hb.free 10⟩
theorem TAt.c_top (h:TAt M b mv t W):W.cell? ⟨b,11,none⟩=some (.int .i64 t.top)∧W.frozen? ⟨b,11,none⟩=false:=by
 obtain⟨_,_,_,_,_,_,_,_,hb,_⟩:=h;exact⟨hb.cell 11,hb.free 11⟩
theorem TAt.c_bot (h:TAt M b mv t W):W.cell? ⟨b,12,none⟩=some (.int .i64 t.bot)∧W.frozen? ⟨b,12,none⟩=false:=by
 obtain⟨_,_,_,_,_,_,_,_,hb,_⟩:=h;exact⟨hb.cell 12,hb.free 12⟩
theorem TAt.c_svrow (h:TAt M b mv t W):W.cell? ⟨b,13,none⟩=some (.int .i64 t.sv.row)∧W.frozen? ⟨b,13,none⟩=false:=by
 obtain⟨_,_,_,_,_,_,_,_,hb,_⟩:=h;exact⟨hb.cell 13,hb.free 13⟩
theorem TAt.c_svcol (h:TAt M b mv t W):W.cell? ⟨b,14,none⟩=some (.int .i64 t.sv.col)∧W.frozen? ⟨b,14,none⟩=false:=by
 obtain⟨_,_,_,_,_,_,_,_,hb,_⟩:=h;exact⟨hb.cell 14,hb.free 14⟩
theorem TAt.c_svfg (h:TAt M b mv t W):W.cell? ⟨b,15,none⟩=some (.int .i64 t.sv.lk.fg)∧W.frozen? ⟨b,15,none⟩=false:=by
 obtain⟨_,_,_,_,_,_,_,_,hb,_⟩:=h;exact⟨hb.cell 15,hb.free 15⟩
theorem TAt.c_svbg (h:TAt M b mv t W):W.cell? ⟨b,16,none⟩=some (.int .i64 t.sv.lk.bg)∧W.frozen? ⟨b,16,none⟩=false:=by
 obtain⟨_,_,_,_,_,_,_,_,hb,_⟩:=h;exact⟨hb.cell 16,hb.free 16⟩
theorem TAt.c_svfl (h:TAt M b mv t W):W.cell? ⟨b,17,none⟩=some (.int .i64 t.sv.lk.fl)∧W.frozen? ⟨b,17,none⟩=false:=by
 obtain⟨_,_,_,_,_,_,_,_,hb,_⟩:=h;exact⟨hb.cell 17,hb.free 17⟩
theorem TAt.c_svog (h:TAt M b mv t W):W.cell? ⟨b,18,none⟩=some (.bool t.sv.og)∧W.frozen? ⟨b,18,none⟩=false:=by
 obtain⟨_,_,_,_,_,_,_,_,hb,_⟩:=h;exact⟨hb.cell 18,hb.free 18⟩
theorem TAt.c_og (h:TAt M b mv t W):W.cell? ⟨b,19,none⟩=some (.bool t.og)∧W.frozen? ⟨b,19,none⟩=false:=by
 obtain⟨_,_,_,_,_,_,_,_,hb,_⟩:=h;exact⟨hb.cell 19,hb.free 19⟩
theorem TAt.c_wr (h:TAt M b mv t W):W.cell? ⟨b,20,none⟩=some (.bool t.wr)∧W.frozen? ⟨b,20,none⟩=false:=by
 obtain⟨_,_,_,_,_,_,_,_,hb,_⟩:=h;exact⟨hb.cell 20,hb.free 20⟩
theorem TAt.c_ins (h:TAt M b mv t W):W.cell? ⟨b,21,none⟩=some (.bool t.ins)∧W.frozen? ⟨b,21,none⟩=false:=by
 obtain⟨_,_,_,_,_,_,_,_,hb,_⟩:=h;exact⟨hb.cell 21,hb.free 21⟩
theorem TAt.c_hd (h:TAt M b mv t W):W.cell? ⟨b,22,none⟩=some (.bool t.hd)∧W.frozen? ⟨b,22,none⟩=false:=by
 obtain⟨_,_,_,_,_,_,_,_,hb,_⟩:=h;exact⟨hb.cell 22,hb.free 22⟩
theorem TAt.c_pst (h:TAt M b mv t W):W.cell? ⟨b,23,none⟩=some (.int .i64 t.pa.st)∧W.frozen? ⟨b,23,none⟩=false:=by
 obtain⟨_,_,_,_,_,_,_,_,hb,_⟩:=h;exact⟨hb.cell 23,hb.free 23⟩
theorem TAt.c_ppriv (h:TAt M b mv t W):W.cell? ⟨b,24,none⟩=some (.int .i64 t.pa.priv)∧W.frozen? ⟨b,24,none⟩=false:=by
 obtain⟨_,_,_,_,_,_,_,_,hb,_⟩:=h;exact⟨hb.cell 24,hb.free 24⟩
theorem TAt.c_pinter (h:TAt M b mv t W):W.cell? ⟨b,26,none⟩=some (.int .i64 t.pa.inter)∧W.frozen? ⟨b,26,none⟩=false:=by
 obtain⟨_,_,_,_,_,_,_,_,hb,_⟩:=h;exact⟨hb.cell 26,hb.free 26⟩
theorem TAt.c_posc (h:TAt M b mv t W):W.cell? ⟨b,27,none⟩=some (.string t.pa.osc)∧W.frozen? ⟨b,27,none⟩=false:=by
 obtain⟨_,_,_,_,_,_,_,_,hb,_⟩:=h;exact⟨hb.cell 27,hb.free 27⟩
theorem TAt.c_ppend (h:TAt M b mv t W):W.cell? ⟨b,28,none⟩=some (.string t.pa.pend)∧W.frozen? ⟨b,28,none⟩=false:=by
 obtain⟨_,_,_,_,_,_,_,_,hb,_⟩:=h;exact⟨hb.cell 28,hb.free 28⟩
theorem TAt.c_bmax (h:TAt M b mv t W):W.cell? ⟨b,29,none⟩=some (.int .i64 t.bmax)∧W.frozen? ⟨b,29,none⟩=false:=by
 obtain⟨_,_,_,_,_,_,_,_,hb,_⟩:=h;exact⟨hb.cell 29,hb.free 29⟩
theorem TAt.c_title (h:TAt M b mv t W):W.cell? ⟨b,31,none⟩=some (.string t.title)∧W.frozen? ⟨b,31,none⟩=false:=by
 obtain⟨_,_,_,_,_,_,_,_,hb,_⟩:=h;exact⟨hb.cell 31,hb.free 31⟩
theorem TAt.c_g (h:TAt M b mv t W):∃ A c lv,(W.cell? ⟨b,1,none⟩=some (.slice A t.g.ls.length c)∧W.frozen? ⟨b,1,none⟩=false)∧t.g.ls.length≤c∧GRow b W (.slice A t.g.ls.length c) lv t.g.ls:=by
 obtain⟨_,vg,_,_,_,lg,_,_,hb,hx⟩:=h
 obtain⟨A,c,rfl,hc⟩:=hx.g.spell
 exact⟨A,c,lg,⟨hb.cell 1,hb.free 1⟩,hc,hx.g⟩
theorem TAt.c_m (h:TAt M b mv t W):∃ A c lv,(W.cell? ⟨b,4,none⟩=some (.slice A t.main.ls.length c)∧W.frozen? ⟨b,4,none⟩=false)∧t.main.ls.length≤c∧GRow b W (.slice A t.main.ls.length c) lv t.main.ls:=by
 obtain⟨_,_,vm,_,_,_,lm,_,hb,hx⟩:=h
 obtain⟨A,c,rfl,hc⟩:=hx.m.spell
 exact⟨A,c,lm,⟨hb.cell 4,hb.free 4⟩,hc,hx.m⟩
theorem TAt.c_b (h:TAt M b mv t W):∃ A c lv,(W.cell? ⟨b,30,none⟩=some (.slice A t.bls.length c)∧W.frozen? ⟨b,30,none⟩=false)∧t.bls.length≤c∧GRow b W (.slice A t.bls.length c) lv t.bls:=by
 obtain⟨_,_,_,_,vb,_,_,lb,hb,hx⟩:=h
 obtain⟨A,c,rfl,hc⟩:=hx.k.spell
 exact⟨A,c,lb,⟨hb.cell 30,hb.free 30⟩,hc,hx.k⟩
theorem TAt.c_p (h:TAt M b mv t W):∃ v,(W.cell? ⟨b,25,none⟩=some v∧W.frozen? ⟨b,25,none⟩=false)∧PRow W v t.pa.params∧(t.pa.params≠[]→qcq b v):=by
 obtain⟨_,_,_,vp,_,_,_,_,hb,hx⟩:=h
 exact⟨vp,⟨hb.cell 25,hb.free 25⟩,hx.p,hx.po⟩
theorem qbb (W:World) (b i:Nat) (u:Value):But b W (W.setCell ⟨b,i,none⟩ u):=(But.refl b W).set u
theorem TAt.set (h:TAt M b mv t W) {t':Tm} (i:Nat) (u:Value) (ha:∀ vg vm vp vb,(t.all vg vm vp vb mv).setIfInBounds i u=t'.all vg vm vp vb mv) (hg:t'.g.ls=t.g.ls) (hm:t'.main.ls=t.main.ls) (hb':t'.bls=t.bls) (hp:t'.pa.params=t.pa.params):TAt M b mv t' (W.setCell ⟨b,i,none⟩ u):=by
 have hlt:=h.lt
 obtain⟨he,vg,vm,vp,vb,lg,lm,lb,h1,h2⟩:=h
 have hbt:=qbb W b i u
 refine⟨he.but hbt hlt,vg,vm,vp,vb,lg,lm,lb,?_,?_⟩
 ·rw[← ha];exact h1.set u
 ·have h3:=h2.but hbt
  exact⟨hg ▸ h3.g,hm ▸ h3.m,hb' ▸ h3.k,hp ▸ h3.p,hp ▸ h3.po⟩
theorem TAt.s_cols (h:TAt M b mv t W) (x:Int):TAt M b mv { t with g:=⟨x,t.g.ls⟩ } (W.setCell ⟨b,0,none⟩ (.int .i64 x)):=h.set 0 _ (fun _ _ _ _=>rfl) rfl rfl rfl rfl
theorem TAt.s_alt (h:TAt M b mv t W) (x:Bool):TAt M b mv { t with alt:=x } (W.setCell ⟨b,2,none⟩ (.bool x)):=h.set 2 _ (fun _ _ _ _=>rfl) rfl rfl rfl rfl
theorem TAt.s_mcols (h:TAt M b mv t W) (x:Int):TAt M b mv { t with main:=⟨x,t.main.ls⟩ } (W.setCell ⟨b,3,none⟩ (.int .i64 x)):=h.set 3 _ (fun _ _ _ _=>rfl) rfl rfl rfl rfl
theorem TAt.s_row (h:TAt M b mv t W) (x:Int):TAt M b mv { t with row:=x } (W.setCell ⟨b,5,none⟩ (.int .i64 x)):=h.set 5 _ (fun _ _ _ _=>rfl) rfl rfl rfl rfl
theorem TAt.s_col (h:TAt M b mv t W) (x:Int):TAt M b mv { t with col:=x } (W.setCell ⟨b,6,none⟩ (.int .i64 x)):=h.set 6 _ (fun _ _ _ _=>rfl) rfl rfl rfl rfl
theorem TAt.s_late (h:TAt M b mv t W) (x:Bool):TAt M b mv { t with late:=x } (W.setCell ⟨b,7,none⟩ (.bool x)):=h.set 7 _ (fun _ _ _ _=>rfl) rfl rfl rfl rfl
theorem TAt.s_top (h:TAt M b mv t W) (x:Int):TAt M b mv { t with top:=x } (W.setCell ⟨b,11,none⟩ (.int .i64 x)):=h.set 11 _ (fun _ _ _ _=>rfl) rfl rfl rfl rfl
theorem TAt.s_bot (h:TAt M b mv t W) (x:Int):TAt M b mv { t with bot:=x } (W.setCell ⟨b,12,none⟩ (.int .i64 x)):=h.set 12 _ (fun _ _ _ _=>rfl) rfl rfl rfl rfl
theorem TAt.s_og (h:TAt M b mv t W) (x:Bool):TAt M b mv { t with og:=x } (W.setCell ⟨b,19,none⟩ (.bool x)):=h.set 19 _ (fun _ _ _ _=>rfl) rfl rfl rfl rfl
theorem TAt.s_wr (h:TAt M b mv t W) (x:Bool):TAt M b mv { t with wr:=x } (W.setCell ⟨b,20,none⟩ (.bool x)):=h.set 20 _ (fun _ _ _ _=>rfl) rfl rfl rfl rfl
theorem TAt.s_ins (h:TAt M b mv t W) (x:Bool):TAt M b mv { t with ins:=x } (W.setCell ⟨b,21,none⟩ (.bool x)):=h.set 21 _ (fun _ _ _ _=>rfl) rfl rfl rfl rfl
theorem TAt.s_hd (h:TAt M b mv t W) (x:Bool):TAt M b mv { t with hd:=x } (W.setCell ⟨b,22,none⟩ (.bool x)):=h.set 22 _ (fun _ _ _ _=>rfl) rfl rfl rfl rfl
theorem TAt.s_pst (h:TAt M b mv t W) (x:Int):TAt M b mv { t with pa:={ t.pa with st:=x } } (W.setCell ⟨b,23,none⟩ (.int .i64 x)):=h.set 23 _ (fun _ _ _ _=>rfl) rfl rfl rfl rfl
theorem TAt.s_ppriv (h:TAt M b mv t W) (x:Int):TAt M b mv { t with pa:={ t.pa with priv:=x } } (W.setCell ⟨b,24,none⟩ (.int .i64 x)):=h.set 24 _ (fun _ _ _ _=>rfl) rfl rfl rfl rfl
theorem TAt.s_pinter (h:TAt M b mv t W) (x:Int):TAt M b mv { t with pa:={ t.pa with inter:=x } } (W.setCell ⟨b,26,none⟩ (.int .i64 x)):=h.set 26 _ (fun _ _ _ _=>rfl) rfl rfl rfl rfl
theorem TAt.s_posc (h:TAt M b mv t W) (x:ByteArray):TAt M b mv { t with pa:={ t.pa with osc:=x } } (W.setCell ⟨b,27,none⟩ (.string x)):=h.set 27 _ (fun _ _ _ _=>rfl) rfl rfl rfl rfl
theorem TAt.s_ppend (h:TAt M b mv t W) (x:ByteArray):TAt M b mv { t with pa:={ t.pa with pend:=x } } (W.setCell ⟨b,28,none⟩ (.string x)):=h.set 28 _ (fun _ _ _ _=>rfl) rfl rfl rfl rfl
theorem TAt.s_bmax (h:TAt M b mv t W) (x:Int):TAt M b mv { t with bmax:=x } (W.setCell ⟨b,29,none⟩ (.int .i64 x)):=h.set 29 _ (fun _ _ _ _=>rfl) rfl rfl rfl rfl
theorem TAt.s_title (h:TAt M b mv t W) (x:ByteArray):TAt M b mv { t with title:=x } (W.setCell ⟨b,31,none⟩ (.string x)):=h.set 31 _ (fun _ _ _ _=>rfl) rfl rfl rfl rfl
theorem TAt.sets (h:TAt M b mv t W) {t':Tm} (l:List (Nat×Value)) (ha:∀ vg vm vp vb,l.foldl (fun c x=>c.setIfInBounds x.1 x.2) (t.all vg vm vp vb mv)=t'.all vg vm vp vb mv) (hg:t'.g.ls=t.g.ls) (hm:t'.main.ls=t.main.ls) (hb':t'.bls=t.bls) (hp:t'.pa.params=t.pa.params):TAt M b mv t' (l.foldl (fun w x=>w.setCell ⟨b,x.1,none⟩ x.2) W)∧But b W (l.foldl (fun w x=>w.setCell ⟨b,x.1,none⟩ x.2) W):=by
 have hlt:=h.lt
 obtain⟨he,vg,vm,vp,vb,lg,lm,lb,h1,h2⟩:=h
 have key:∀ (l:List (Nat×Value)) (W1:World) (cs:Array Value),Box W1 b 89 cs→But b W W1→Box (l.foldl (fun w x=>w.setCell ⟨b,x.1,none⟩ x.2) W1) b 89 (l.foldl (fun c x=>c.setIfInBounds x.1 x.2) cs)∧But b W (l.foldl (fun w x=>w.setCell ⟨b,x.1,none⟩ x.2) W1):=by
  intro l
  induction l with
  | nil=>intro W1 cs h1 h2;exact⟨h1,h2⟩
  | cons x l ih=>intro W1 cs h1 h2;exact ih _ _ (h1.set x.2) (h2.set x.2)
 have hk:=key l W _ h1 (But.refl b W)
 refine⟨⟨he.but hk.2 hlt,vg,vm,vp,vb,lg,lm,lb,?_,?_⟩,hk.2⟩
 ·rw[← ha];exact hk.1
 ·have h3:=h2.but hk.2
  exact⟨hg ▸ h3.g,hm ▸ h3.m,hb' ▸ h3.k,hp ▸ h3.p,hp ▸ h3.po⟩
theorem TAt.s_sv (h:TAt M b mv t W) (s:Sv):TAt M b mv { t with sv:=s } ((((((W.setCell ⟨b,13,none⟩ (.int .i64 s.row)).setCell ⟨b,14,none⟩ (.int .i64 s.col)).setCell ⟨b,15,none⟩ (.int .i64 s.lk.fg)).setCell ⟨b,16,none⟩ (.int .i64 s.lk.bg)).setCell ⟨b,17,none⟩ (.int .i64 s.lk.fl)).setCell ⟨b,18,none⟩ (.bool s.og))∧But b W ((((((W.setCell ⟨b,13,none⟩ (.int .i64 s.row)).setCell ⟨b,14,none⟩ (.int .i64 s.col)).setCell ⟨b,15,none⟩ (.int .i64 s.lk.fg)).setCell ⟨b,16,none⟩ (.int .i64 s.lk.bg)).setCell ⟨b,17,none⟩ (.int .i64 s.lk.fl)).setCell ⟨b,18,none⟩ (.bool s.og)) :=
 h.sets [(13,.int .i64 s.row),(14,.int .i64 s.col),(15,.int .i64 s.lk.fg),(16,.int .i64 s.lk.bg),(17,.int .i64 s.lk.fl),(18,.bool s.og)] (fun _ _ _ _=>by kernel_rfl) rfl rfl rfl rfl
theorem TAt.s_lk (h:TAt M b mv t W) (a:At):TAt M b mv { t with lk:=a } (((W.setCell ⟨b,8,none⟩ (.int .i64 a.fg)).setCell ⟨b,9,none⟩ (.int .i64 a.bg)).setCell ⟨b,10,none⟩ (.int .i64 a.fl))∧But b W (((W.setCell ⟨b,8,none⟩ (.int .i64 a.fg)).setCell ⟨b,9,none⟩ (.int .i64 a.bg)).setCell ⟨b,10,none⟩ (.int .i64 a.fl)) :=
 h.sets [(8,.int .i64 a.fg),(9,.int .i64 a.bg),(10,.int .i64 a.fl)] (fun _ _ _ _=>by kernel_rfl) rfl rfl rfl rfl
theorem TAt.s_lkog (h:TAt M b mv t W) (a:At) (o:Bool):TAt M b mv { t with lk:=a,og:=o } ((((W.setCell ⟨b,8,none⟩ (.int .i64 a.fg)).setCell ⟨b,9,none⟩ (.int .i64 a.bg)).setCell ⟨b,10,none⟩ (.int .i64 a.fl)).setCell ⟨b,19,none⟩ (.bool o))∧But b W ((((W.setCell ⟨b,8,none⟩ (.int .i64 a.fg)).setCell ⟨b,9,none⟩ (.int .i64 a.bg)).setCell ⟨b,10,none⟩ (.int .i64 a.fl)).setCell ⟨b,19,none⟩ (.bool o)) :=
 h.sets [(8,.int .i64 a.fg),(9,.int .i64 a.bg),(10,.int .i64 a.fl),(19,.bool o)] (fun _ _ _ _=>by kernel_rfl) rfl rfl rfl rfl
theorem TAt.s_g (h:TAt M b mv t W) {v:Value} {lv:List (Ln×Value)} {ls:List Ln} (hg:GRow b W v lv ls):TAt M b mv { t with g:=⟨t.g.cols,ls⟩ } (W.setCell ⟨b,1,none⟩ v):=by
 have hlt:=h.lt
 obtain⟨he,vg,vm,vp,vb,lg,lm,lb,h1,h2⟩:=h
 have hbt:=qbb W b 1 v
 have h3:=h2.but hbt
 exact⟨he.but hbt hlt,v,vm,vp,vb,lv,lm,lb,h1.set v,hg.but hbt,h3.m,h3.k,h3.p,h3.po⟩
theorem TAt.s_m (h:TAt M b mv t W) {v:Value} {lv:List (Ln×Value)} {ls:List Ln} (hg:GRow b W v lv ls):TAt M b mv { t with main:=⟨t.main.cols,ls⟩ } (W.setCell ⟨b,4,none⟩ v):=by
 have hlt:=h.lt
 obtain⟨he,vg,vm,vp,vb,lg,lm,lb,h1,h2⟩:=h
 have hbt:=qbb W b 4 v
 have h3:=h2.but hbt
 exact⟨he.but hbt hlt,vg,v,vp,vb,lg,lv,lb,h1.set v,h3.g,hg.but hbt,h3.k,h3.p,h3.po⟩
theorem TAt.s_b (h:TAt M b mv t W) {v:Value} {lv:List (Ln×Value)} {ls:List Ln} (hg:GRow b W v lv ls):TAt M b mv { t with bls:=ls } (W.setCell ⟨b,30,none⟩ v):=by
 have hlt:=h.lt
 obtain⟨he,vg,vm,vp,vb,lg,lm,lb,h1,h2⟩:=h
 have hbt:=qbb W b 30 v
 have h3:=h2.but hbt
 exact⟨he.but hbt hlt,vg,vm,vp,v,lg,lm,lv,h1.set v,h3.g,h3.m,hg.but hbt,h3.p,h3.po⟩
theorem TAt.s_p (h:TAt M b mv t W) {v:Value} {l:List Int} (hp:PRow W v l) (ho:l≠[]→qcq b v):TAt M b mv { t with pa:={ t.pa with params:=l } } (W.setCell ⟨b,25,none⟩ v):=by
 have hlt:=h.lt
 obtain⟨he,vg,vm,vp,vb,lg,lm,lb,h1,h2⟩:=h
 have hbt:=qbb W b 25 v
 have h3:=h2.but hbt
 exact⟨he.but hbt hlt,vg,vm,v,vb,lg,lm,lb,h1.set v,h3.g,h3.m,h3.k,hp.but hbt ho,ho⟩
theorem TAt.s_grid (h:TAt M b mv t W) {v:Value} {lv:List (Ln×Value)} {g:Gd} (hg:GRow b W v lv g.ls):TAt M b mv { t with g:=g } ((W.setCell ⟨b,0,none⟩ (.int .i64 g.cols)).setCell ⟨b,1,none⟩ v)∧But b W ((W.setCell ⟨b,0,none⟩ (.int .i64 g.cols)).setCell ⟨b,1,none⟩ v) :=
by
 have h1:=h.s_cols g.cols
 have h2:=h1.s_g (hg.but (qbb W b 0 _))
 exact⟨h2,(qbb W b 0 _).set _⟩
theorem TAt.s_back (h:TAt M b mv t W) {v:Value} {lv:List (Ln×Value)} {mx:Int} {ls:List Ln} (hg:GRow b W v lv ls):TAt M b mv { t with bmax:=mx,bls:=ls } ((W.setCell ⟨b,29,none⟩ (.int .i64 mx)).setCell ⟨b,30,none⟩ v)∧But b W ((W.setCell ⟨b,29,none⟩ (.int .i64 mx)).setCell ⟨b,30,none⟩ v) :=
by
 have h1:=h.s_bmax mx
 have h2:=h1.s_b (hg.but (qbb W b 29 _))
 exact⟨h2,(qbb W b 29 _).set _⟩
def qu (M:World→Value→Prop) (b:Nat) (mv:Value) (W:World) (t:Tm) (e:Ending) (w':World):Prop:=e=.returned (.tuple #[])∧TAt M b mv t w'∧But b W w'
end
theorem off_ce {b:Nat} {W:World} {t:Tm} {A1 A2 A3 A4:Option Addr} {n1 n2 n3 n4 c1 c2 c3 c4 m:Nat} (h:Box W b 89 (t.all (.slice A1 n1 c1) (.slice A2 n2 c2) (.slice A3 n3 c3) (.slice A4 n4 c4) (.map (some m)))) {v:Value} {cs:List Ce} (hr:CeRow W v cs) (hn:cs≠[]):qcq b v:=by
 obtain⟨A,c,rfl,_,hl⟩:=hr
 obtain⟨g,o,rfl,_,hc⟩:=hl hn
 rintro A' n' c' e
 cases e
 show g≠b
 rintro rfl
 obtain⟨x,xs,rfl⟩:=List.exists_cons_of_ne_nil hn
 have p0:=hc 0 x rfl 0 _ rfl
 have p1:=hc 0 x rfl 1 _ rfl
 have p2:=hc 0 x rfl 2 _ rfl
 rw[h.cell] at p0 p1 p2
 have hlt:o+0 * 5+0 < 33:=(Array.getElem?_eq_some_iff.1 p0).1
 have ho:o < 33:=by omega
 clear hc hlt
 unfold Tm.all at p0 p1 p2
 match o,ho with
 | 0,_=>cases p0
 | 1,_=>cases p0
 | 2,_=>cases p0
 | 3,_=>cases p0
 | 4,_=>cases p0
 | 5,_=>cases p0
 | 6,_=>cases p0
 | 7,_=>cases p0
 | 8,_=>cases p0
 | 9,_=>cases p0
 | 10,_=>cases p0
 | 11,_=>cases p0
 | 12,_=>cases p0
 | 13,_=>cases p0
 | 14,_=>cases p0
 | 15,_=>cases p0
 | 16,_=>cases p0
 | 17,_=>cases p0
 | 18,_=>cases p0
 | 19,_=>cases p0
 | 20,_=>cases p0
 | 21,_=>cases p0
 | 22,_=>cases p0
 | 23,_=>cases p0
 | 24,_=>cases p0
 | 25,_=>cases p0
 | 26,_=>cases p0
 | 27,_=>cases p1
 | 28,_=>cases p2
 | 29,_=>cases p0
 | 30,_=>cases p0
 | 31,_=>cases p1
 | 32,_=>cases p0
theorem off_lr {b:Nat} {W:World} {t:Tm} {A1 A2 A3 A4:Option Addr} {n1 n2 n3 n4 c1 c2 c3 c4 m:Nat} (h:Box W b 89 (t.all (.slice A1 n1 c1) (.slice A2 n2 c2) (.slice A3 n3 c3) (.slice A4 n4 c4) (.map (some m)))) {v:Value} {lv lg:List (Ln×Value)} (hg:LR W (.slice A1 n1 c1) lg) (hgc:CesOf W lg) (hgn:lg≠[]) (hr:LR W v lv) (hc:CesOf W lv) (hcs:∀ e∈lv,e.1.cs≠[]) (hn:lv≠[]):qcq b v:=by
 obtain⟨A,c,rfl,_,hl⟩:=hr
 obtain⟨g,o,rfl,_,hl⟩:=hl hn
 rintro A' n' c' e
 cases e
 show g≠b
 rintro rfl
 obtain⟨x,xs,rfl⟩:=List.exists_cons_of_ne_nil hn
 obtain⟨p0,p1⟩:=hl 0 x rfl
 have hx:=hc x (by simp)
 have hxn:=hcs x (by simp)
 rw[h.cell] at p0 p1
 have hlt:o+0 * 2 < 33:=(Array.getElem?_eq_some_iff.1 p0).1
 have ho:o < 33:=by omega
 clear hl hlt
 have hv:x.2≠.slice A1 n1 c1:=by
  intro e
  rw[e] at hx
  obtain⟨Ax,cx,ex,_,hxl⟩:=hx
  obtain⟨gx,ox,hAx,_,hxc⟩:=hxl hxn
  obtain⟨y,ys,hy⟩:=List.exists_cons_of_ne_nil hxn
  have q0:=hxc 0 y (by rw[hy];rfl) 0 _ rfl
  obtain⟨Ag,cg,eg,_,hgl⟩:=hg
  obtain⟨gg,og,hAg,_,hgl⟩:=hgl hgn
  obtain⟨z,zs,hz⟩:=List.exists_cons_of_ne_nil hgn
  have q1:=(hgl 0 z (by rw[hz];rfl)).1
  obtain⟨Az,cz,ez⟩:=(hgc z (by rw[hz];simp)).spell
  have e1:A1=Ax:=by cases ex;rfl
  have e2:A1=Ag:=by cases eg;rfl
  have e3:(some ⟨gx,ox,none⟩:Option Addr)=some ⟨gg,og,none⟩:=hAx.symm.trans (e1.symm.trans (e2.trans hAg))
  cases e3
  simp only[Nat.zero_mul,Nat.add_zero] at q0 q1
  rw[q1,ez] at q0
  cases q0
 unfold Tm.all at p0 p1
 match o,ho with
 | 0,_=>(obtain⟨Ax,cx,ex⟩:=hx.spell;rw[ex] at p0;cases p0)
 | 1,_=>(exact hv (Option.some.inj p0).symm)
 | 2,_=>(obtain⟨Ax,cx,ex⟩:=hx.spell;rw[ex] at p0;cases p0)
 | 3,_=>(obtain⟨Ax,cx,ex⟩:=hx.spell;rw[ex] at p0;cases p0)
 | 4,_=>(cases p1)
 | 5,_=>(obtain⟨Ax,cx,ex⟩:=hx.spell;rw[ex] at p0;cases p0)
 | 6,_=>(obtain⟨Ax,cx,ex⟩:=hx.spell;rw[ex] at p0;cases p0)
 | 7,_=>(obtain⟨Ax,cx,ex⟩:=hx.spell;rw[ex] at p0;cases p0)
 | 8,_=>(obtain⟨Ax,cx,ex⟩:=hx.spell;rw[ex] at p0;cases p0)
 | 9,_=>(obtain⟨Ax,cx,ex⟩:=hx.spell;rw[ex] at p0;cases p0)
 | 10,_=>(obtain⟨Ax,cx,ex⟩:=hx.spell;rw[ex] at p0;cases p0)
 | 11,_=>(obtain⟨Ax,cx,ex⟩:=hx.spell;rw[ex] at p0;cases p0)
 | 12,_=>(obtain⟨Ax,cx,ex⟩:=hx.spell;rw[ex] at p0;cases p0)
 | 13,_=>(obtain⟨Ax,cx,ex⟩:=hx.spell;rw[ex] at p0;cases p0)
 | 14,_=>(obtain⟨Ax,cx,ex⟩:=hx.spell;rw[ex] at p0;cases p0)
 | 15,_=>(obtain⟨Ax,cx,ex⟩:=hx.spell;rw[ex] at p0;cases p0)
 | 16,_=>(obtain⟨Ax,cx,ex⟩:=hx.spell;rw[ex] at p0;cases p0)
 | 17,_=>(obtain⟨Ax,cx,ex⟩:=hx.spell;rw[ex] at p0;cases p0)
 | 18,_=>(obtain⟨Ax,cx,ex⟩:=hx.spell;rw[ex] at p0;cases p0)
 | 19,_=>(obtain⟨Ax,cx,ex⟩:=hx.spell;rw[ex] at p0;cases p0)
 | 20,_=>(obtain⟨Ax,cx,ex⟩:=hx.spell;rw[ex] at p0;cases p0)
 | 21,_=>(obtain⟨Ax,cx,ex⟩:=hx.spell;rw[ex] at p0;cases p0)
 | 22,_=>(obtain⟨Ax,cx,ex⟩:=hx.spell;rw[ex] at p0;cases p0)
 | 23,_=>(obtain⟨Ax,cx,ex⟩:=hx.spell;rw[ex] at p0;cases p0)
 | 24,_=>(obtain⟨Ax,cx,ex⟩:=hx.spell;rw[ex] at p0;cases p0)
 | 25,_=>(cases p1)
 | 26,_=>(obtain⟨Ax,cx,ex⟩:=hx.spell;rw[ex] at p0;cases p0)
 | 27,_=>(obtain⟨Ax,cx,ex⟩:=hx.spell;rw[ex] at p0;cases p0)
 | 28,_=>(obtain⟨Ax,cx,ex⟩:=hx.spell;rw[ex] at p0;cases p0)
 | 29,_=>(obtain⟨Ax,cx,ex⟩:=hx.spell;rw[ex] at p0;cases p0)
 | 30,_=>(cases p1)
 | 31,_=>(obtain⟨Ax,cx,ex⟩:=hx.spell;rw[ex] at p0;cases p0)
 | 32,_=>(obtain⟨Ax,cx,ex⟩:=hx.spell;rw[ex] at p0;cases p0)
section
variable {M:World→Value→Prop} {b:Nat} {mv:Value} {t:Tm} {W W':World}
theorem qdg {g:Gd} (h:qm g=true) {lv:List (Ln×Value)} (hm:lv.map Prod.fst=g.ls):lv≠[]∧∀ e∈lv,e.1.cs≠[]:=by
 have hb:=qd h
 refine⟨?_,fun e he=>?_⟩
 ·rintro rfl
  rw[← hm] at hb
  simp at hb
 ·have h1:=rg_at h (l:=e.1) (by rw[← hm];exact List.mem_map.2 ⟨e,he,rfl⟩)
  have h2:=(fits_iff.1 h1).1
  intro h3
  rw[h3] at h2
  simp at h2
  omega
theorem TAt.grow (h:TAt M b mv t W) (hg:qm t.g=true) {v:Value} {lv:List (Ln×Value)} {ls:List Ln} (hr:LR W v lv) (hc:CesOf W lv) (hm:lv.map Prod.fst=ls) (hcs:∀ e∈lv,e.1.cs≠[]):GRow b W v lv ls:=by
 obtain⟨⟨_,_,_,_,_,⟨m,rfl⟩,_⟩,vg,vm,vp,vb,lg,lm,lb,h1,h2⟩:=h
 obtain⟨A1,c1,rfl,_⟩:=h2.g.spell
 obtain⟨A2,c2,rfl,_⟩:=h2.m.spell
 obtain⟨A4,c4,rfl,_⟩:=h2.k.spell
 obtain⟨A3,c3,e3,_⟩:=h2.p.1
 subst e3
 have hf:=qdg hg h2.g.mp
 exact⟨hr,hc,hm,fun hn=>off_lr h1 h2.g.lr h2.g.ces hf.1 hr hc hcs hn,fun e he hn=>off_ce h1 (hc e he) hn⟩
theorem TAt.gin (h:TAt M b mv t W) (hg:qm t.g=true):∃ A c lv,((W.cell? ⟨b,1,none⟩=some (.slice A t.g.ls.length c)∧W.frozen? ⟨b,1,none⟩=false)∧t.g.ls.length≤c)∧GRow b W (.slice A t.g.ls.length c) lv t.g.ls∧GIn W (.slice A t.g.ls.length c) lv∧qbd t.g.cols lv=true:=by
 obtain⟨A,c,lv,h1,h2,h3⟩:=h.c_g
 exact⟨A,c,lv,⟨h1,h2⟩,h3,⟨h3.lr,h3.ces,rg_sm hg h3.mp⟩,by rw[qju,h3.mp];exact hg⟩
theorem TAt.regrid (h:TAt M b mv t W) (hb:But b W W') {v:Value} {lv:List (Ln×Value)} {ls:List Ln} (hx:∀ cs,Box W b 89 cs→Box W' b 89 (cs.setIfInBounds 1 v)) (hg:GRow b W' v lv ls):TAt M b mv { t with g:=⟨t.g.cols,ls⟩ } W':=by
 have hlt:=h.lt
 obtain⟨he,vg,vm,vp,vb,lg,lm,lb,h1,h2⟩:=h
 have h3:=h2.but hb
 exact⟨he.but hb hlt,v,vm,vp,vb,lv,lm,lb,hx _ h1,hg,h3.m,h3.k,h3.p,h3.po⟩
theorem But.setNew {g i:Nat} {W W1:World} (h:But b W W1) (hg:W.heap.size≤g) (u:Value):But b W (W1.setCell ⟨g,i,none⟩ u) :=
 ⟨h.os,h.tape,h.output,by rw[qfn];exact h.size,fun k hk hn=>(Below.heap_setCell _ _ _ _ (show k≠g by omega)).trans (h.block k hk hn)⟩
end
end Go.Proofs.YtpdaekmbpafenaaGreatDoor
