
import Derived.Test.YtpdaekmbpafenaaGreatDoorTermAQ
import Derived.Test.YtpdaekmbpafenaaGreatDoorHeldIQ
import Derived.StillTailTactics
import Derived.Deep.DeepCutAuto
import Derived.Test.YtpdaekmbpafenaaGreatDoorLtRowQ
import Derived.Test.YtpdaekmbpafenaaGreatDoorUtfCQ
import Derived.Test.YtpdaekmbpafenaaGreatDoorTermRgQ
namespace Go.Proofs.YtpdaekmbpafenaaGreatDoor
set_option maxHeartbeats 1000000
set_option maxRecDepth 100000
open Go.RowKit
section
variable {M:World→Value→Prop} {b:Nat} {mv:Value} {t:Tm} {W:World}
theorem qia (h : TAt M b mv t W) (hg : qm t.g = true) :
  Calls Tryz.prog 195 #[.pointer (some ⟨b,0,none⟩)] W fun e w'=>e=.returned (.int .i64 (t.rows - 1))∧W=w':=by
 have hb:=qd hg
 obtain⟨A,c,lv,⟨k1,_⟩,_,_⟩:=h.c_g
 unfold Tm.rows
 generalize t.g.ls.length=n at *
 have h1:(1:Int)≤n:=by omega
 have h2:(n:Int)≤50:=by omega
 clear hb h hg
 go_enter Tryz.func195,Tryz.ntmps195
 go_wp2
 go_ret
 exact⟨rfl,rfl⟩
theorem qbx (h : TAt M b mv t W) (hg : qm t.g = true) :
  Calls Tryz.prog 196 #[.pointer (some ⟨b,0,none⟩)] W fun e w'=>e=.returned (.int .i64 (t.g.cols - 1))∧W=w':=by
 have hb:=qd hg
 obtain⟨k1,_⟩:=h.c_cols
 generalize t.g.cols=n at *
 have h1:(1:Int)≤n:=by omega
 have h2:(n:Int)≤80:=by omega
 clear hb h hg
 go_enter Tryz.func196,Tryz.ntmps196
 go_wp2
 go_ret
 exact⟨rfl,rfl⟩
theorem clamp_ways (n m:Int):(n < 0∧qbg n m=0)∨(n=0∧(m < 0∨qbg n m=0))∨(0 < n∧n≤m∧qbg n m=n)∨(m < n∧0 < m∧qbg n m=m)∨(0 < n∧m≤0∧qbg n m=m):=by
 unfold qbg
 by_cases h:n < 0
 ·exact .inl ⟨h,if_pos h⟩
 ·by_cases h3:n=0
  ·refine .inr (.inl ⟨h3,?_⟩)
   by_cases h4:m < 0
   ·exact .inl h4
   ·exact .inr (by rw[if_neg h,if_neg (by omega),h3])
  ·by_cases h2:m < n
   ·by_cases h4:0 < m
    ·exact .inr (.inr (.inr (.inl ⟨h2,h4,by rw[if_neg h,if_pos h2]⟩)))
    ·exact .inr (.inr (.inr (.inr ⟨by omega,by omega,by rw[if_neg h,if_pos h2]⟩)))
   ·exact .inr (.inr (.inl ⟨by omega,by omega,by rw[if_neg h,if_neg h2]⟩))
theorem qmm {n m:Int} (hm:0≤m):(n < 0∧qbg n m=0)∨(n=0∧qbg n m=0)∨(0 < n∧n≤m∧qbg n m=n)∨(m < n∧0 < m∧qbg n m=m)∨(0 < n∧m=0∧qbg n m=0):=by
 rcases clamp_ways n m with h | ⟨h1,h2⟩ | h | h | ⟨h1,h2,h3⟩
 ·exact .inl h
 ·exact .inr (.inl ⟨h1,h2.resolve_left (by omega)⟩)
 ·exact .inr (.inr (.inl h))
 ·exact .inr (.inr (.inr (.inl h)))
 ·have h4:m=0:=by omega
  exact .inr (.inr (.inr (.inr ⟨h1,h4,by rw[h3,h4]⟩)))
theorem qaq (h : TAt M b mv t W) (hg : qm t.g = true) (row col : Int) :
  Calls Tryz.prog 149 #[.pointer (some ⟨b,0,none⟩),.int .i64 row,.int .i64 col] W (qu M b mv W (qas t row col)):=by
 have hb:=qd hg
 have hlr:=qia h hg
 have hlc:=qbx (h.s_row (qbg row (t.rows - 1))) hg
 have hend:=((h.s_row (qbg row (t.rows - 1))).s_col (qbg col (t.g.cols - 1))).s_late false
 have hbut:=((qbb W b 5 (.int .i64 (qbg row (t.rows - 1)))).set (i:=6) (.int .i64 (qbg col (t.g.cols - 1)))).set (i:=7) (.bool false)
 obtain⟨_,f5⟩:=h.c_row
 obtain⟨_,f6⟩:=h.c_col
 obtain⟨_,f7⟩:=h.c_late
 change TAt M b mv (qas t row col) _ at hend
 have hr:0≤t.rows - 1:=by unfold Tm.rows;omega
 have hr2:t.rows - 1≤49:=by unfold Tm.rows;omega
 have hl:0≤t.g.cols - 1:=by omega
 have hl2:t.g.cols - 1≤79:=by omega
 have hw1:=qmm (n:=row) hr
 have hw2:=qmm (n:=col) hl
 clear hb h hg
 generalize t.rows - 1=R at *
 generalize t.g.cols - 1=C at *
 generalize qbg row R=r at *
 generalize qbg col C=c at *
 have HE:=hid hend
 have HB:=hid hbut
 have HLR:=hid hlr
 have HLC:=hid hlc
 clear hend hbut hlr hlc
 rcases hw1 with ⟨a1,rfl⟩ | ⟨rfl,rfl⟩ | ⟨a1,a2,rfl⟩ | ⟨a1,a2,rfl⟩ | ⟨a1,rfl,rfl⟩ <;> rcases hw2 with ⟨b1,rfl⟩ | ⟨rfl,rfl⟩ | ⟨b1,b2,rfl⟩ | ⟨b1,b2,rfl⟩ | ⟨b1,rfl,rfl⟩
 all_goals
  go_enter Tryz.func149,Tryz.ntmps149
  go_wp2_with (first | (with_reducible refine HLR.out.mono ?_;rintro e w' ⟨rfl,rfl⟩) | (with_reducible refine HLC.out.mono ?_;rintro e w' ⟨rfl,rfl⟩) | fail)
  go_end0
  exact⟨rfl,HE.out,HB.out⟩
end
set_option maxHeartbeats 1000000
set_option maxRecDepth 100000
section
variable {M:World→Value→Prop} {b:Nat} {mv:Value} {t:Tm} {W:World}
theorem qcg (h : TAt M b mv t W) :
  Calls Tryz.prog 156 #[.pointer (some ⟨b,0,none⟩)] W (qu M b mv W { t with late:=false }):=by
 have HE:=hid (h.s_late false)
 have HB:=hid (qbb W b 7 (.bool false))
 obtain⟨_,f7⟩:=h.c_late
 clear h
 go_enter Tryz.func156,Tryz.ntmps156
 go_wp2
 go_end0
 exact⟨rfl,HE.out,HB.out⟩
theorem qjv (h : TAt M b mv t W) (hg : qm t.g = true) :
  Calls Tryz.prog 167 #[.pointer (some ⟨b,0,none⟩)] W (qu M b mv W (qis t)):=by
 obtain⟨k1,_⟩:=h.c_og
 obtain⟨k2,_⟩:=h.c_top
 have HM:=fun r=>hid (qaq h hg r 0)
 unfold qis
 clear h hg
 cases ho:t.og
 ·rw[ho] at k1
  rw[if_neg (by decide)]
  have HC:=HM 0
  clear ho HM
  go_enter Tryz.func167,Tryz.ntmps167
  go_wp2_with (first | ((with_reducible refine HC.out.mono ?_);rintro e w' ⟨rfl,h1,h2⟩) | fail)
  go_end0
  exact⟨rfl,h1,h2⟩
 ·rw[ho] at k1
  rw[if_pos rfl]
  have HC:=HM t.top
  clear ho HM
  go_enter Tryz.func167,Tryz.ntmps167
  go_wp2_with (first | ((with_reducible refine HC.out.mono ?_);rintro e w' ⟨rfl,h1,h2⟩) | fail)
  go_end0
  exact⟨rfl,h1,h2⟩
theorem qml (h : TAt M b mv t W) :
  Calls Tryz.prog 168 #[.pointer (some ⟨b,0,none⟩)] W (qu M b mv W (qhr t)):=by
 obtain⟨k5,_⟩:=h.c_row
 obtain⟨k6,_⟩:=h.c_col
 obtain⟨k8,_⟩:=h.c_fg
 obtain⟨k9,_⟩:=h.c_bg
 obtain⟨k10,_⟩:=h.c_fl
 obtain⟨k19,_⟩:=h.c_og
 obtain⟨_,f13⟩:=h.c_svrow
 obtain⟨_,f14⟩:=h.c_svcol
 obtain⟨_,f15⟩:=h.c_svfg
 obtain⟨_,f16⟩:=h.c_svbg
 obtain⟨_,f17⟩:=h.c_svfl
 obtain⟨_,f18⟩:=h.c_svog
 have hs:=h.s_sv ⟨t.row,t.col,t.lk,t.og⟩
 have HE:=hid hs.1.drew
 have HB:=hid hs.2.drew
 clear h hs
 go_enter Tryz.func168,Tryz.ntmps168
 go_wp2_with fail
 go_still_tail 25,(by kernel_rfl)
 change wpList _ _ _ _ _ W.drew
 go_wp2
 go_end0
 exact⟨rfl,HE.out,HB.out⟩
def qp (l:List Int) (i:Nat):Int:=(l[i]?).getD 0
def orI (x y:Int):Int:=if x=0 then y else x
theorem qjw (x y : Int) (g : Nat) (hy : y ≠ 0) (W : World) (p0 : W.cell? ⟨g, 0, none⟩ = some (.int .i64 x)) (p1 : W.cell? ⟨g, 1, none⟩ = some (.int .i64 y)) :
  Calls Tryz.prog 166 #[.slice (some ⟨g,0,none⟩) 2 2] W fun e w'=>e=.returned (.int .i64 (orI x y))∧W=w':=by
 go_enter Tryz.func166,Tryz.ntmps166
 go_wp2
 go_loopw [8] (fun v wx=>(v=.int .i64 0∨(v=.int .i64 1∧x=0))∧W=wx) (fun v _=>2 - (intOf v).toNat)
 case atStart=>exact⟨.inl rfl,rfl⟩
 case round =>
  obtain⟨rfl | ⟨rfl,h0⟩,rfl⟩:=hrel
  ·by_cases h0:x=0
   ·subst h0
    go_wp2
    go_roundw
    case rel=>exact⟨.inr ⟨rfl,by simp⟩,by simp⟩
    case measure=>simp[intOf]
   ·have HE:Hid (orI x y=x):=by unfold Hid orI;rw[if_neg h0]
    have hne:(x == 0)=false:=by simpa using h0
    go_wp2
    go_ret
    exact⟨qaw HE.out.symm,rfl⟩
  ·have HE:Hid (orI x y=y):=by unfold Hid orI;rw[if_pos h0]
   have hne:(y == 0)=false:=by simpa using hy
   clear h0
   go_wp2
   go_ret
   exact⟨qaw HE.out.symm,rfl⟩
theorem qkn (v : Value) (l : List Int) (i : Nat) (hr : IRow W v l) (hn : l.length ≤ 1000) (_ : i ≤ 100) :
  Calls Tryz.prog 154 #[v,.int .i64 i] W fun e w'=>e=.returned (.int .i64 (qp l i))∧W=w':=by
 obtain⟨A,c,rfl,hl⟩:=hr
 by_cases hlt:i < l.length
 ·obtain⟨ad,rfl,_,hc⟩:=hl (by intro e;subst e;simp at hlt)
  have hx:=List.getElem?_eq_getElem hlt
  have hk:=hc i _ hx
  have HE:Hid (qp l i=l[i]):=by unfold Hid qp;rw[hx];rfl
  generalize l[i]=x at *
  generalize l.length=n at *
  have hlt':(i:Int) < n:=by omega
  clear hc hl hx
  go_enter Tryz.func154,Tryz.ntmps154
  go_wp2
  go_ret
  exact⟨qaw HE.out.symm,rfl⟩
 ·have HE:Hid (qp l i=0):=by unfold Hid qp;rw[List.getElem?_eq_none (by omega)];rfl
  generalize l.length=n at *
  have hlt':¬ (i:Int) < n:=by omega
  clear hl
  go_enter Tryz.func154,Tryz.ntmps154
  go_wp2
  go_ret
  exact⟨qaw HE.out.symm,rfl⟩
theorem count_any (v : Value) (l : List Int) (i : Nat) (hr : IRow W v l) (hn : l.length ≤ 1000) (hi : i ≤ 100) :
  Calls Tryz.prog 151 #[v,.int .i64 i] W fun e w'=>e=.returned (.int .i64 (orI (qp l i) 1))∧Below W.heap.size W w':=by
 have HP:=hid (qkn v l i hr hn hi)
 generalize qp l i=x at *
 clear hr
 go_enter Tryz.func151,Tryz.ntmps151
 go_wp2_with (first | (with_reducible refine HP.out.mono ?_;rintro e w' ⟨rfl,rfl⟩) | (refine(qjw x 1 W.heap.size (by decide) _ (by simp) (by simp)).mono ?_;rintro e w' ⟨rfl,rfl⟩) | fail)
 go_ret
 exact⟨rfl,qa _ _⟩
theorem qko (v:Value) (l:List Int) (hr:IRow W v l) (hn:l.length≤1000):Calls Tryz.prog 154 #[v,.int .i64 0] W fun e w'=>e=.returned (.int .i64 (qp l 0))∧W=w':=qkn v l 0 hr hn (by omega)
theorem param1 (v:Value) (l:List Int) (hr:IRow W v l) (hn:l.length≤1000):Calls Tryz.prog 154 #[v,.int .i64 1] W fun e w'=>e=.returned (.int .i64 (qp l 1))∧W=w':=qkn v l 1 hr hn (by omega)
theorem qc9 (v:Value) (l:List Int) (hr:IRow W v l) (hn:l.length≤1000):Calls Tryz.prog 151 #[v,.int .i64 0] W fun e w'=>e=.returned (.int .i64 (orI (qp l 0) 1))∧Below W.heap.size W w':=count_any v l 0 hr hn (by omega)
theorem count1 (v:Value) (l:List Int) (hr:IRow W v l) (hn:l.length≤1000):Calls Tryz.prog 151 #[v,.int .i64 1] W fun e w'=>e=.returned (.int .i64 (orI (qp l 1) 1))∧Below W.heap.size W w':=count_any v l 1 hr hn (by omega)
def qh7 (t:Tm) (n:Int):Int:=if t.top≤t.row∧t.row - n < t.top then t.top else t.row - n
def qh8 (t:Tm) (n:Int):Int:=if t.row≤t.bot∧t.bot < t.row+n then t.bot else t.row+n
theorem qjx (h : TAt M b mv t W) (n : Int) (hn : 0 ≤ n ∧ n ≤ 10000) (hr : 0 ≤ t.row ∧ t.row ≤ 100) (hk : -1 ≤ t.top ∧ t.top ≤ 100) :
  Calls Tryz.prog 150 #[.pointer (some ⟨b,0,none⟩),.int .i64 n] W fun e w'=>e=.returned (.int .i64 (qh7 t n))∧Below W.heap.size W w':=by
 obtain⟨k1,_⟩:=h.c_row
 obtain⟨k2,_⟩:=h.c_top
 obtain⟨X,hX⟩:∃ X,X=qh7 t n:=⟨_,rfl⟩
 rw[← hX]
 unfold qh7 at hX
 generalize t.row=r at *
 generalize t.top=q at *
 obtain⟨hn1,hn2⟩:=hn
 obtain⟨hr1,hr2⟩:=hr
 obtain⟨hk1,hk2⟩:=hk
 clear h
 rcases (show r < q∨(q≤r∧r - n < q)∨(q≤r∧q≤r - n) by omega) with a | ⟨a,a2⟩ | ⟨a,a2⟩
 ·have HE:Hid (X=r - n):=by rw[hX];exact if_neg (by omega)
  have a3:¬ q≤r:=by omega
  clear hX
  go_enter Tryz.func150,Tryz.ntmps150
  go_wp2_with fail
  go_quiet (fail)
  go_wp2
  go_ret
  exact⟨qaw HE.out.symm,qf _ _⟩
 ·have HE:Hid (X=q):=by rw[hX];exact if_pos ⟨a,a2⟩
  have a3:¬ r < q:=by omega
  clear hX
  go_enter Tryz.func150,Tryz.ntmps150
  go_wp2_with fail
  go_quiet (fail)
  go_wp2_with fail
  obtain⟨w1,hw1⟩:∃ w1,w1=W.drewN nq:=⟨_,rfl⟩
  have k1n:w1.cell? ⟨b,5,none⟩=some (.int .i64 r):=by rw[hw1];exact k1
  have k2n:w1.cell? ⟨b,11,none⟩=some (.int .i64 q):=by rw[hw1];exact k2
  have hbw:Below W.heap.size W w1:=by rw[hw1];exact qf _ _
  rw[← hw1]
  clear hw1 k1 k2
  go_still_tail 12,(by kernel_rfl)
  change wpList _ _ _ _ _ w1.drew
  go_wp2
  go_ret
  exact⟨qaw HE.out.symm,hbw.trans ((qf w1 1).mono hbw.size)⟩
 ·have HE:Hid (X=r - n):=by rw[hX];exact if_neg (by omega)
  have a3:¬ r < q:=by omega
  clear hX
  go_enter Tryz.func150,Tryz.ntmps150
  go_wp2_with fail
  go_quiet (fail)
  go_wp2_with fail
  obtain⟨w1,hw1⟩:∃ w1,w1=W.drewN nq:=⟨_,rfl⟩
  have k1n:w1.cell? ⟨b,5,none⟩=some (.int .i64 r):=by rw[hw1];exact k1
  have k2n:w1.cell? ⟨b,11,none⟩=some (.int .i64 q):=by rw[hw1];exact k2
  have hbw:Below W.heap.size W w1:=by rw[hw1];exact qf _ _
  rw[← hw1]
  clear hw1 k1 k2
  go_still_tail 12,(by kernel_rfl)
  change wpList _ _ _ _ _ w1.drew
  go_wp2
  go_ret
  exact⟨qaw HE.out.symm,hbw.trans ((qf w1 1).mono hbw.size)⟩
theorem qjy (h : TAt M b mv t W) (n : Int) (hn : 0 ≤ n ∧ n ≤ 10000) (hr : 0 ≤ t.row ∧ t.row ≤ 100) (hk : -1 ≤ t.bot ∧ t.bot ≤ 100) :
  Calls Tryz.prog 152 #[.pointer (some ⟨b,0,none⟩),.int .i64 n] W fun e w'=>e=.returned (.int .i64 (qh8 t n))∧Below W.heap.size W w':=by
 obtain⟨k1,_⟩:=h.c_row
 obtain⟨k2,_⟩:=h.c_bot
 obtain⟨X,hX⟩:∃ X,X=qh8 t n:=⟨_,rfl⟩
 rw[← hX]
 unfold qh8 at hX
 generalize t.row=r at *
 generalize t.bot=q at *
 obtain⟨hn1,hn2⟩:=hn
 obtain⟨hr1,hr2⟩:=hr
 obtain⟨hk1,hk2⟩:=hk
 clear h
 rcases (show q < r∨(r≤q∧q < r+n)∨(r≤q∧r+n≤q) by omega) with a | ⟨a,a2⟩ | ⟨a,a2⟩
 ·have HE:Hid (X=r+n):=by rw[hX];exact if_neg (by omega)
  have a3:¬ r≤q:=by omega
  clear hX
  go_enter Tryz.func152,Tryz.ntmps152
  go_wp2_with fail
  go_quiet (fail)
  go_wp2
  go_ret
  exact⟨qaw HE.out.symm,qf _ _⟩
 ·have HE:Hid (X=q):=by rw[hX];exact if_pos ⟨a,a2⟩
  have a3:¬ q < r:=by omega
  clear hX
  go_enter Tryz.func152,Tryz.ntmps152
  go_wp2_with fail
  go_quiet (fail)
  go_wp2_with fail
  obtain⟨w1,hw1⟩:∃ w1,w1=W.drewN nq:=⟨_,rfl⟩
  have k1n:w1.cell? ⟨b,5,none⟩=some (.int .i64 r):=by rw[hw1];exact k1
  have k2n:w1.cell? ⟨b,12,none⟩=some (.int .i64 q):=by rw[hw1];exact k2
  have hbw:Below W.heap.size W w1:=by rw[hw1];exact qf _ _
  rw[← hw1]
  clear hw1 k1 k2
  go_still_tail 12,(by kernel_rfl)
  change wpList _ _ _ _ _ w1.drew
  go_wp2
  go_ret
  exact⟨qaw HE.out.symm,hbw.trans ((qf w1 1).mono hbw.size)⟩
 ·have HE:Hid (X=r+n):=by rw[hX];exact if_neg (by omega)
  have a3:¬ q < r:=by omega
  clear hX
  go_enter Tryz.func152,Tryz.ntmps152
  go_wp2_with fail
  go_quiet (fail)
  go_wp2_with fail
  obtain⟨w1,hw1⟩:∃ w1,w1=W.drewN nq:=⟨_,rfl⟩
  have k1n:w1.cell? ⟨b,5,none⟩=some (.int .i64 r):=by rw[hw1];exact k1
  have k2n:w1.cell? ⟨b,12,none⟩=some (.int .i64 q):=by rw[hw1];exact k2
  have hbw:Below W.heap.size W w1:=by rw[hw1];exact qf _ _
  rw[← hw1]
  clear hw1 k1 k2
  go_still_tail 12,(by kernel_rfl)
  change wpList _ _ _ _ _ w1.drew
  go_wp2
  go_ret
  exact⟨qaw HE.out.symm,hbw.trans ((qf w1 1).mono hbw.size)⟩
theorem qh9 (h : TAt M b mv t W) (hg : qm t.g = true) :
  Calls Tryz.prog 169 #[.pointer (some ⟨b,0,none⟩)] W (qu M b mv W (qco t)):=by
 have ⟨k15,_⟩:=h.c_svfg
 have ⟨k16,_⟩:=h.c_svbg
 have ⟨k17,_⟩:=h.c_svfl
 have ⟨k18,_⟩:=h.c_svog
 have ⟨_,f8⟩:=h.c_fg
 have ⟨_,f9⟩:=h.c_bg
 have ⟨_,f10⟩:=h.c_fl
 have ⟨_,f19⟩:=h.c_og
 have hs:=h.s_lkog t.sv.lk t.sv.og
 have HE:=hid hs.1.drew
 have HB:=hid hs.2.drew
 have HG:=hid hg
 clear hs hg
 go_enter Tryz.func169,Tryz.ntmps169
 go_wp2_with fail
 have hS0:(fun w'=>TAt M b mv t w'∧But b W w') _:=⟨h.drew,(But.refl b W).drew⟩
 refine qh (qcy 17 (fun w'=>TAt M b mv t w'∧But b W w')) (by kernel_rfl) ?_
 refine tN 0 (fun _=>hS0) ?_
 refine tN 1 (fun _=>hS0) ?_
 refine tN 2 (fun _=>hS0) ?_
 refine tN 3 (fun _=>hS0) ?_
 refine tN 4 (fun _=>hS0) ?_
 refine tN 5 (fun _=>hS0) ?_
 refine tN 6 (fun _=>hS0) ?_
 refine tG 7 (fun _=>hS0) ?_ (hy:=fun w' hw'=>by obtain⟨ha,_⟩:=hw';have k15:=ha.c_svfg.1;have k16:=ha.c_svbg.1;have k17:=ha.c_svfl.1;have k18:=ha.c_svog.1;go_simp;try with_reducible rfl)
 refine tN 8 (fun _=>hS0) ?_
 refine tN 9 (fun _=>hS0) ?_
 refine tN 10 (fun _=>hS0) ?_
 refine tN 11 (fun _=>hS0) ?_
 refine tN 12 (fun _=>hS0) ?_
 refine tG 13 (fun _=>hS0) ?_ (hy:=fun w' hw'=>by obtain⟨ha,_⟩:=hw';have k15:=ha.c_svfg.1;have k16:=ha.c_svbg.1;have k17:=ha.c_svfl.1;have k18:=ha.c_svog.1;go_simp;try with_reducible rfl)
 refine tN 14 (fun _=>hS0) ?_
 refine tN 15 (fun _=>hS0) ?_
 refine tN 16 (fun _=>hS0) ?_
 refine qz (k:=17) (by kernel_rfl) rfl (by rfl) (fun K hK=>?_)
 go_simp
 refine hK _ _ (fun h=>(by simp at h)) ?_
 clear hK K
 (try simp only[zT]);(try simp only[zA]);(try simp only[zS]);(try simp only[zZ])
 refine tN 18 (fun h=>(by simp at h)) ?_
 refine tN 19 (fun h=>(by simp at h)) ?_
 refine tN 20 (fun h=>(by simp at h)) ?_
 refine qz (k:=21) (by kernel_rfl) rfl (by rfl) (fun K hK=>?_)
 go_simp
 refine hK _ _ (fun h=>(by simp at h)) ?_
 clear hK K
 (try simp only[zT]);(try simp only[zA]);(try simp only[zS]);(try simp only[zZ])
 refine qal (by kernel_rfl) ?_ _
 go_wp2_with fail
 generalize hw1:((((W.setCell ⟨b,8,none⟩ (.int .i64 t.sv.lk.fg)).setCell ⟨b,9,none⟩ (.int .i64 t.sv.lk.bg)).setCell ⟨b,10,none⟩ (.int .i64 t.sv.lk.fl)).setCell ⟨b,19,none⟩ (.bool t.sv.og)).drew=w1 at *
 clear hw1 k15 k16 k17 k18 f8 f9 f10 f19
 have ⟨k13,_⟩:=HE.out.c_svrow
 have ⟨k14,_⟩:=HE.out.c_svcol
 have HC:=hid (qaq HE.out.drew HG.out t.sv.row t.sv.col)
 go_still_tail 13,(by kernel_rfl)
 change wpList _ _ _ _ _ w1.drew
 go_wp2_with (first | ((with_reducible refine HC.out.mono ?_);rintro e w' ⟨rfl,h1,h2⟩) | fail)
 go_end0
 exact⟨rfl,h1,HB.out.trans ((But.refl b w1).drew.trans h2)⟩
theorem rowOf_any (h : TAt M b mv t W) (v : Value) (l : List Int) (hr : IRow W v l) (hn : l.length ≤ 1000) (hl : 0 ≤ qp l 0 ∧ qp l 0 ≤ 10000) (ht : 0 ≤ t.top ∧ t.top ≤ 100) (hb : -1 ≤ t.bot ∧ t.bot ≤ 100) :
  Calls Tryz.prog 153 #[.pointer (some ⟨b,0,none⟩),v] W fun e w'=>e=.returned (.int .i64 (rowT t (orI (qp l 0) 1)))∧Below W.heap.size W w':=by
 have HP:=hid (qc9 v l hr hn)
 have hx:0≤orI (qp l 0) 1∧orI (qp l 0) 1≤10000:=by unfold orI;split <;> omega
 generalize orI (qp l 0) 1=x at *
 obtain⟨hx1,hx2⟩:=hx
 obtain⟨k1,_⟩:=h.c_og
 obtain⟨k2,_⟩:=h.c_top
 obtain⟨k3,_⟩:=h.c_bot
 obtain⟨X,hX⟩:∃ X,X=rowT t x:=⟨_,rfl⟩
 rw[← hX]
 unfold rowT qe4 at hX
 have hlt:=h.lt
 generalize t.top=p at *
 generalize t.bot=q at *
 obtain⟨ht1,ht2⟩:=ht
 obtain⟨hb1,hb2⟩:=hb
 clear h hr hl hn
 cases ho:t.og
 ·rw[ho] at k1 hX
  rw[if_neg (by decide)] at hX
  have HE:=hid hX
  clear hX ho
  go_enter Tryz.func153,Tryz.ntmps153
  go_wp2_with fail
  with_reducible refine HP.out.mono ?_
  rintro e w1 ⟨rfl,hb⟩
  dsimp only
  obtain⟨hc,hf⟩:=qag hb
  have k1n:=(hc b 19 hlt).trans k1
  clear hc hf k1 k2 k3
  go_wp2
  go_ret
  exact⟨qaw HE.out.symm,hb⟩
 ·rw[ho] at k1 hX
  rw[if_pos rfl] at hX
  rcases (show (p+(x - 1)≤q)∨¬ (p+(x - 1)≤q) by omega) with a | a
  ·have HE:Hid (X=p+(x - 1)):=hid (by rw[hX];split <;> omega)
   have a1:=a
   clear hX ho a
   go_enter Tryz.func153,Tryz.ntmps153
   go_wp2_with fail
   with_reducible refine HP.out.mono ?_
   rintro e w1 ⟨rfl,hb⟩
   dsimp only
   obtain⟨hc,hf⟩:=qag hb
   have k1n:=(hc b 19 hlt).trans k1
   have k2n:=(hc b 11 hlt).trans k2
   have k3n:=(hc b 12 hlt).trans k3
   clear hc hf k1 k2 k3
   go_wp2_with fail
   go_still_tail 12,(by kernel_rfl)
   change wpList _ _ _ _ _ w1.drew
   go_wp2
   go_ret
   exact⟨qaw HE.out.symm,hb.trans ((qf w1 1).mono hb.size)⟩
  ·have HE:Hid (X=q):=hid (by rw[hX];split <;> omega)
   have a1:=a
   clear hX ho a
   go_enter Tryz.func153,Tryz.ntmps153
   go_wp2_with fail
   with_reducible refine HP.out.mono ?_
   rintro e w1 ⟨rfl,hb⟩
   dsimp only
   obtain⟨hc,hf⟩:=qag hb
   have k1n:=(hc b 19 hlt).trans k1
   have k2n:=(hc b 11 hlt).trans k2
   have k3n:=(hc b 12 hlt).trans k3
   clear hc hf k1 k2 k3
   go_wp2_with fail
   go_still_tail 12,(by kernel_rfl)
   change wpList _ _ _ _ _ w1.drew
   go_wp2
   go_ret
   exact⟨qaw HE.out.symm,hb.trans ((qf w1 1).mono hb.size)⟩
theorem qjz (h : TAt M b mv t W) :
  Calls Tryz.prog 160 #[.pointer (some ⟨b,0,none⟩)] W fun e w'=>e=.returned (.bool (decide (t.top≤t.row∧t.row≤t.bot)))∧Below W.heap.size W w':=by
 obtain⟨k5,_⟩:=h.c_row
 obtain⟨k11,_⟩:=h.c_top
 obtain⟨k12,_⟩:=h.c_bot
 generalize t.row=r at *
 generalize t.top=p at *
 generalize t.bot=q at *
 clear h
 by_cases h1:p≤r
 ·by_cases h2:r≤q
  ·have d1:decide (p≤r)=true:=decide_eq_true h1
   have d2:decide (r≤q)=true:=decide_eq_true h2
   have HE:Hid (decide (p≤r∧r≤q)=true):=decide_eq_true ⟨h1,h2⟩
   clear h1 h2
   go_enter Tryz.func160,Tryz.ntmps160
   go_wp2_with fail
   go_quiet (fail)
   go_wp2
   go_ret
   exact⟨qe HE.out.symm,qf _ _⟩
  ·have d1:decide (p≤r)=true:=decide_eq_true h1
   have d2:decide (r≤q)=false:=decide_eq_false h2
   have HE:Hid (decide (p≤r∧r≤q)=false):=decide_eq_false (fun h=>h2 h.2)
   clear h1 h2
   go_enter Tryz.func160,Tryz.ntmps160
   go_wp2_with fail
   go_quiet (fail)
   go_wp2
   go_ret
   exact⟨qe HE.out.symm,qf _ _⟩
 ·have d1:decide (p≤r)=false:=decide_eq_false h1
  have HE:Hid (decide (p≤r∧r≤q)=false):=decide_eq_false (fun h=>h1 h.1)
  clear h1
  go_enter Tryz.func160,Tryz.ntmps160
  go_wp2_with fail
  go_quiet (fail)
  go_wp2
  go_ret
  exact⟨qe HE.out.symm,qf _ _⟩
end
set_option maxHeartbeats 2000000
set_option maxRecDepth 100000
section
variable {M:World→Value→Prop} {b:Nat} {mv:Value} {t:Tm} {W:World}
def behind (s p:ByteArray):ByteArray:=if pre s p=true then s.extract p.size s.size else s
theorem lcutp_any (s p : ByteArray) (w : World) (hs : s.size ≤ 1000000) (hp : p.size ≤ 1000000) :
  Calls Tryz.prog 215 #[.string s,.string p] w fun e w'=>e=.returned (.tuple #[.string (behind s p),.bool (pre s p)])∧w=w':=by
 have HC:=hid (lpre_any s p w hs hp)
 have hps:pre s p=true→p.size≤s.size:=fun h=>(of_decide_eq_true h).1
 unfold behind
 cases hx:pre s p
 ·rw[if_neg (by simp)]
  rw[hx] at HC
  clear hps hx
  go_enter Tryz.func215,Tryz.ntmps215
  go_wp2_with (go_at_call 241;refine HC.out.mono ?_;rintro e w2 ⟨rfl,rfl⟩)
  exact bodyPost_ret (v:=.tuple #[.string s,.bool false]) (by simp[results,Tryz.results215,go_sem]) rfl ⟨rfl,rfl⟩
 ·rw[if_pos rfl]
  rw[hx] at HC
  have hl:=hps hx
  clear hps hx
  go_enter Tryz.func215,Tryz.ntmps215
  go_wp2_with (go_at_call 241;refine HC.out.mono ?_;rintro e w2 ⟨rfl,rfl⟩)
  exact bodyPost_ret (v:=.tuple #[.string (s.extract p.size s.size),.bool true]) (by simp[results,Tryz.results215,go_sem]) rfl ⟨rfl,rfl⟩
theorem cutp_any (s p : ByteArray) (w : World) (hs : s.size ≤ 1000000) (hp : p.size ≤ 1000000) :
  Calls Tryz.prog 177 #[.string s,.string p] w fun e w'=>e=.returned (.tuple #[.string (behind s p),.bool (pre s p)])∧w=w':=by
 have HC:=hid (lcutp_any s p w hs hp)
 generalize behind s p=x at *
 generalize pre s p=y at *
 go_enter Tryz.func177,Tryz.ntmps177
 go_wp2_with (go_at_call 215;refine HC.out.mono ?_;rintro e w2 ⟨rfl,rfl⟩)
 exact bodyPost_ret (v:=.tuple #[.string x,.bool y]) (by simp[results,Tryz.results177,go_sem]) rfl ⟨rfl,rfl⟩
def qea (s:ByteArray):Bool:=decide (s.size≤32) && qce s
theorem qc8 (s : ByteArray) (w : World) (hs : s.size ≤ 1000000) (hT : Tab w) :
  Calls Tryz.prog 48 #[.string s] w fun e w'=>e=.returned (.bool (qea s))∧Below w.heap.size w w':=by
 unfold qea
 by_cases h:s.size≤32
 ·rw[decide_eq_true h,Bool.true_and]
  have HC:=hid (valid_any s w (by unfold maxLen;omega) hT)
  have hq:((s.size:Int)≤32):=by omega
  generalize qce s=y at *
  go_enter Tryz.func48,Tryz.ntmps48
  go_wp2_with (go_at_call 115;refine HC.out.mono ?_;rintro e w2 ⟨rfl,hb⟩)
  go_ret
  exact⟨rfl,hb⟩
 ·rw[decide_eq_false h,Bool.false_and]
  have hq:¬ ((s.size:Int)≤32):=by omega
  go_enter Tryz.func48,Tryz.ntmps48
  go_wp2
  go_ret
  exact⟨rfl,Below.refl _ _⟩
def entT (t:Tm) (s:ByteArray):Tm :=
 if pre s ⟨#[48,59]⟩=true then (if qea (behind s ⟨#[48,59]⟩)=true then { t with title:=behind s ⟨#[48,59]⟩ } else t)
 else if pre s ⟨#[50,59]⟩=true then (if qea (behind s ⟨#[50,59]⟩)=true then { t with title:=behind s ⟨#[50,59]⟩ } else t) else t
theorem qk5 (s p:ByteArray):(behind s p).size≤s.size:=by
 unfold behind
 split
 ·simp
 ·exact Nat.le_refl _
theorem entitle_any (h : TAt M b mv t W) (s : ByteArray) (hs : s.size ≤ 1000000) :
  Calls Tryz.prog 107 #[.pointer (some ⟨b,0,none⟩),.string s] W (qu M b mv W (entT t s)):=by
 have hl0:=Nat.le_trans (qk5 s ⟨#[48,59]⟩) hs
 have hl2:=Nat.le_trans (qk5 s ⟨#[50,59]⟩) hs
 have HC0:=hid (cutp_any s ⟨#[48,59]⟩ W hs (by decide))
 have HC2:=hid (cutp_any s ⟨#[50,59]⟩ W hs (by decide))
 unfold entT
 cases h0:pre s ⟨#[48,59]⟩
 ·rw[if_neg (by simp)]
  rw[h0] at HC0
  cases h2:pre s ⟨#[50,59]⟩
  ·rw[if_neg (by simp)]
   rw[h2] at HC2
   have HX:=hid h
   clear h h0 h2
   go_enter Tryz.func107,Tryz.ntmps107
   go_wp2_with fail
   with_reducible refine HC0.out.mono ?_
   rintro e w2 ⟨rfl,rfl⟩
   dsimp only
   go_wp2_with fail
   with_reducible refine HC2.out.mono ?_
   rintro e w2 ⟨rfl,rfl⟩
   dsimp only
   go_wp2
   go_end0
   exact⟨rfl,HX.out,But.refl b W⟩
  ·rw[if_pos rfl]
   rw[h2] at HC2
   cases hb:qea (behind s ⟨#[50,59]⟩)
   ·rw[if_neg (by simp)]
    have HR:=hid (qc8 (behind s ⟨#[50,59]⟩) W hl2 h.tab)
    rw[hb] at HR
    have HX:=hid h
    have kf:=h.c_title
    obtain⟨k31,f31⟩:=kf
    generalize hz:behind s ⟨#[50,59]⟩=z at *
    clear h hb hz
    clear h0 h2
    go_enter Tryz.func107,Tryz.ntmps107
    go_wp2_with fail
    with_reducible refine HC0.out.mono ?_
    rintro e w2 ⟨rfl,rfl⟩
    dsimp only
    go_wp2_with fail
    with_reducible refine HC2.out.mono ?_
    rintro e w2 ⟨rfl,rfl⟩
    dsimp only
    go_wp2_with ((with_reducible refine HR.out.mono ?_);rintro e wn ⟨rfl,hbl⟩;have hx:=HX.out.below hbl;have hbu:=But.of_below (b:=b) hbl;have kk:=hx.c_title;obtain⟨j31,g31⟩:=kk;have hltn:=hx.lt)
    go_end0
    exact⟨rfl,hx,hbu⟩
   ·rw[if_pos rfl]
    have HR:=hid (qc8 (behind s ⟨#[50,59]⟩) W hl2 h.tab)
    rw[hb] at HR
    have HX:=hid h
    have kf:=h.c_title
    obtain⟨k31,f31⟩:=kf
    generalize hz:behind s ⟨#[50,59]⟩=z at *
    clear h hb hz
    clear h0 h2
    go_enter Tryz.func107,Tryz.ntmps107
    go_wp2_with fail
    with_reducible refine HC0.out.mono ?_
    rintro e w2 ⟨rfl,rfl⟩
    dsimp only
    go_wp2_with fail
    with_reducible refine HC2.out.mono ?_
    rintro e w2 ⟨rfl,rfl⟩
    dsimp only
    go_wp2_with ((with_reducible refine HR.out.mono ?_);rintro e wn ⟨rfl,hbl⟩;have hx:=HX.out.below hbl;have hbu:=But.of_below (b:=b) hbl;have kk:=hx.c_title;obtain⟨j31,g31⟩:=kk;have hltn:=hx.lt)
    go_end0
    exact⟨rfl,hx.s_title z,hbu.trans (qbb wn b 31 _)⟩
 ·rw[if_pos rfl]
  rw[h0] at HC0
  clear HC2
  cases hb:qea (behind s ⟨#[48,59]⟩)
  ·rw[if_neg (by simp)]
   have HR:=hid (qc8 (behind s ⟨#[48,59]⟩) W hl0 h.tab)
   rw[hb] at HR
   have HX:=hid h
   have kf:=h.c_title
   obtain⟨k31,f31⟩:=kf
   generalize hz:behind s ⟨#[48,59]⟩=z at *
   clear h hb hz
   clear h0
   go_enter Tryz.func107,Tryz.ntmps107
   go_wp2_with fail
   with_reducible refine HC0.out.mono ?_
   rintro e w2 ⟨rfl,rfl⟩
   dsimp only
   go_wp2_with ((with_reducible refine HR.out.mono ?_);rintro e wn ⟨rfl,hbl⟩;have hx:=HX.out.below hbl;have hbu:=But.of_below (b:=b) hbl;have kk:=hx.c_title;obtain⟨j31,g31⟩:=kk;have hltn:=hx.lt)
   go_end0
   exact⟨rfl,hx,hbu⟩
  ·rw[if_pos rfl]
   have HR:=hid (qc8 (behind s ⟨#[48,59]⟩) W hl0 h.tab)
   rw[hb] at HR
   have HX:=hid h
   have kf:=h.c_title
   obtain⟨k31,f31⟩:=kf
   generalize hz:behind s ⟨#[48,59]⟩=z at *
   clear h hb hz
   clear h0
   go_enter Tryz.func107,Tryz.ntmps107
   go_wp2_with fail
   with_reducible refine HC0.out.mono ?_
   rintro e w2 ⟨rfl,rfl⟩
   dsimp only
   go_wp2_with ((with_reducible refine HR.out.mono ?_);rintro e wn ⟨rfl,hbl⟩;have hx:=HX.out.below hbl;have hbu:=But.of_below (b:=b) hbl;have kk:=hx.c_title;obtain⟨j31,g31⟩:=kk;have hltn:=hx.lt)
   go_end0
   exact⟨rfl,hx.s_title z,hbu.trans (qbb wn b 31 _)⟩
end
set_option maxHeartbeats 8000000
set_option maxRecDepth 100000
def qdm (t:Tm) (lg lm:List (Ln×Value)):Bool:=qbd t.g.cols lg && (if t.alt=true then qbd t.main.cols lm && (decide (t.main.cols=t.g.cols) && decide (lm.length=lg.length)) else decide (t.main.cols=0) && decide (lm.length=0))
def rgB (t:Tm) (lg lm lb:List (Ln×Value)):Bool:=qdm t lg lm && (qb9 t lg.length && (qbu t lg.length && (qdt t.sv && (qab t.lk && (qap t.pa && (qdn t.bmax lb && qea t.title))))))
theorem rgB_right {W:World} {t:Tm} {vg vm vp vb:Value} {lg lm lb:List (Ln×Value)} (h:TmIn W t vg vm vp vb lg lm lb):rgB t lg lm lb=rightT t:=by
 have e1:qbd t.g.cols lg=qm t.g:=by rw[qju,h.gm]
 have e2:qbd t.main.cols lm=qm t.main:=by rw[qju,h.mm]
 have e3:qdn t.bmax lb=qdu t.bmax t.bls:=by rw[backB_G,h.bm]
 have n1:lg.length=t.g.ls.length:=by rw[← h.gm,List.length_map]
 have n2:lm.length=t.main.ls.length:=by rw[← h.mm,List.length_map]
 rw[Bool.eq_iff_iff,rightT_iff]
 unfold rgB qdm qb9 qbu qdt qea
 rw[e1,e2,e3,n1,n2]
 simp only[Bool.and_eq_true,decide_eq_false_iff_not,decide_eq_true_eq,Bool.or_eq_true,Bool.not_eq_eq_eq_not,Bool.not_true]
 constructor
 ·rintro⟨⟨g1,g2⟩,⟨p1,p2,p3,p4,p5⟩,r1,⟨s1,s2,s3,s4,s5⟩,k1,k2,k3,k4,k5⟩
  refine⟨g1,by omega,by omega,by omega,by omega,fun hl=>?_,fun ha=>?_,fun ha=>?_,?_,?_,?_,⟨s1,s2⟩,⟨s3,s4⟩,s5,k1,k2,k3,k5,by omega⟩
  ·rcases p5 with h | h
   ·rw[h] at hl;cases hl
   ·exact h
  ·rw[if_pos ha] at g2
   simp only[Bool.and_eq_true,decide_eq_true_eq] at g2
   exact g2
  ·rw[if_neg (by rw[ha];decide)] at g2
   simp only[Bool.and_eq_true,decide_eq_true_eq] at g2
   cases hm:t.main with
   | mk c l=>rw[hm] at g2;simp only at g2;rw[g2.1,List.length_eq_zero_iff.1 g2.2]
  ·split at r1
   ·simp only[Bool.and_eq_true,decide_eq_true_eq] at r1;omega
   ·simp only[Bool.and_eq_true,decide_eq_true_eq] at r1;omega
  ·split at r1
   ·simp only[Bool.and_eq_true,decide_eq_true_eq] at r1;omega
   ·simp only[Bool.and_eq_true,decide_eq_true_eq] at r1;omega
  ·split at r1
   ·rename_i h1
    simp only[Bool.and_eq_true,decide_eq_true_eq] at r1;exact .inr ⟨h1,r1⟩
   ·simp only[Bool.and_eq_true,decide_eq_true_eq] at r1;exact .inl r1.2.1
 ·intro r
  obtain⟨b1,b2,b3,b4⟩:=qd r.g
  refine⟨⟨r.g,?_⟩,⟨by have:=r.row0;omega,by have:=r.row1;omega,by have:=r.col0;omega,by have:=r.col1;omega,?_⟩,?_,⟨r.svr.1,r.svr.2,r.svc.1,r.svc.2,r.svl⟩,r.lk,r.pa,r.bk,by have:=r.ti.2;omega,r.ti.1⟩
  ·cases ha:t.alt
   ·rw[if_neg (by decide),r.main0 ha];rfl
   ·rw[if_pos rfl]
    simp only[Bool.and_eq_true,decide_eq_true_eq]
    exact r.main1 ha
  ·cases hl:t.late
   ·exact .inl rfl
   ·exact .inr (r.late hl)
  ·have h1:=r.tb
   have h2:=r.top0
   have h3:=r.bot1
   split
   ·rename_i hn
    simp only[Bool.and_eq_true,decide_eq_true_eq];omega
   ·simp only[Bool.and_eq_true,decide_eq_true_eq];omega
theorem tm_grids (t : Tm) (gA mA : Option Addr) (gn gc mn mc : Nat) (vp vb : Value) (lg lm : List (Ln × Value)) (W : World) (hg : LR W (.slice gA gn gc) lg) (hgc : CesOf W lg) (sg : Sm lg) (hm : LR W (.slice mA mn mc) lm) (hmc : CesOf W lm) (sm : Sm lm) (hT : Tab W) (hW : TabW W) (eg : lg.length = gn) (em : lm.length = mn) :
  Calls Tryz.prog 41 #[.agg (t.cells (.slice gA gn gc) (.slice mA mn mc) vp vb)] W fun e w'=>e=.returned (.bool (qdm t lg lm))∧Below W.heap.size W w':=by
 have hba:=qa W (.cells (t.cells (.slice gA gn gc) (.slice mA mn mc) vp vb) 35)
 have hbx:=Box.new W 35 (t.cells (.slice gA gn gc) (.slice mA mn mc) vp vb)
 have HG:=hid (qa7 t.g.cols (.slice gA gn gc) lg _ (hg.below hba) (hgc.below hba) sg (hT.below hba) (hW.below hba))
 have HM:=hid (fun W' (hb:Below W.heap.size W W')=>qa7 t.main.cols (.slice mA mn mc) lm W' (hm.below hb) (hmc.below hb) sm (hT.below hb) (hW.below hb))
 have HB:=hid hba
 have HX:=hid hbx
 have hgn:(gn:Int)≤1000:=by have:=sg.1;omega
 have hmn:(mn:Int)≤1000:=by have:=sm.1;omega
 obtain⟨B1,hB1⟩:∃ B1,qbd t.g.cols lg=B1:=⟨_,rfl⟩
 obtain⟨B2,hB2⟩:∃ B2,qbd t.main.cols lm=B2:=⟨_,rfl⟩
 have HD:=hid (show qdm t lg lm=(B1 && (if t.alt=true then B2 && (decide (t.main.cols=t.g.cols) && decide ((mn:Int)=(gn:Int))) else decide (t.main.cols=0) && decide ((mn:Int)=0))) by
  unfold qdm
  rw[hB1,hB2,eg,em]
  congr 2
  ·congr 2;exact decide_eq_decide.2 (by omega)
  ·congr 1;exact decide_eq_decide.2 (by omega))
 rw[show (qbl t.g.cols lg.length && qed t.g.cols lg)=B1 from hB1] at HG
 have HM2:=hid (fun W' hb=>by have:=HM.out W' hb;rwa [show (qbl t.main.cols lm.length && qed t.main.cols lm)=B2 from hB2] at this)
 clear hba hbx hg hgc hm hmc HM hB1 hB2 sg sm
 unfold Tm.cells at HG HB HX ⊢
 obtain⟨al,hal⟩:∃ al,t.alt=al:=⟨_,rfl⟩
 rw[hal] at HG HB HX HD ⊢
 clear hal
 cases B1
 ·have HV:Hid (qdm t lg lm=false):=by unfold Hid;rw[HD.out];rfl
  go_enter Tryz.func41,Tryz.ntmps41
  go_wp2_with ((with_reducible refine HG.out.mono ?_);rintro e w2 ⟨rfl,hb2⟩)
  go_ret
  exact⟨qe HV.out.symm,HB.out.trans (hb2.mono HB.out.size)⟩
 ·cases al
  ·by_cases c1:t.main.cols=0
   ·by_cases c2:(mn:Int)=0
    ·have HV:Hid (qdm t lg lm=true):=by unfold Hid;rw[HD.out];simp only[c1,c2];rfl
     have e1:(t.main.cols == 0)=true:=by simp[c1]
     have e2:((mn:Int) == 0)=true:=by simp;omega
     clear c1 c2 HD
     go_enter Tryz.func41,Tryz.ntmps41
     go_wp2_with ((with_reducible refine HG.out.mono ?_);rintro e w2 ⟨rfl,hb2⟩;have hx2:=HX.out.below hb2 HX.out.lt;have q2:w2.cell? ⟨W.heap.size,2,none⟩=some (.bool false):=hx2.cell 2;have q3:w2.cell? ⟨W.heap.size,3,none⟩=some (.int .i64 t.main.cols):=hx2.cell 3;have q4:w2.cell? ⟨W.heap.size,4,none⟩=some (.slice mA mn mc):=hx2.cell 4)
     go_ret
     exact⟨qe HV.out.symm,HB.out.trans (hb2.mono HB.out.size)⟩
    ·have HV:Hid (qdm t lg lm=false):=by unfold Hid;rw[HD.out,decide_eq_false c2,Bool.and_false];rfl
     have e1:(t.main.cols == 0)=true:=by simp[c1]
     have e2:((mn:Int) == 0)=false:=by simp;omega
     clear c1 c2 HD
     go_enter Tryz.func41,Tryz.ntmps41
     go_wp2_with ((with_reducible refine HG.out.mono ?_);rintro e w2 ⟨rfl,hb2⟩;have hx2:=HX.out.below hb2 HX.out.lt;have q2:w2.cell? ⟨W.heap.size,2,none⟩=some (.bool false):=hx2.cell 2;have q3:w2.cell? ⟨W.heap.size,3,none⟩=some (.int .i64 t.main.cols):=hx2.cell 3;have q4:w2.cell? ⟨W.heap.size,4,none⟩=some (.slice mA mn mc):=hx2.cell 4)
     go_ret
     exact⟨qe HV.out.symm,HB.out.trans (hb2.mono HB.out.size)⟩
   ·have HV:Hid (qdm t lg lm=false):=by unfold Hid;rw[HD.out,decide_eq_false c1];rfl
    have e1:(t.main.cols == 0)=false:=by simp[c1]
    go_enter Tryz.func41,Tryz.ntmps41
    go_wp2_with ((with_reducible refine HG.out.mono ?_);rintro e w2 ⟨rfl,hb2⟩;have hx2:=HX.out.below hb2 HX.out.lt;have q2:w2.cell? ⟨W.heap.size,2,none⟩=some (.bool false):=hx2.cell 2;have q3:w2.cell? ⟨W.heap.size,3,none⟩=some (.int .i64 t.main.cols):=hx2.cell 3;have q4:w2.cell? ⟨W.heap.size,4,none⟩=some (.slice mA mn mc):=hx2.cell 4)
    go_ret
    exact⟨qe HV.out.symm,HB.out.trans (hb2.mono HB.out.size)⟩
  ·cases B2
   ·have HV:Hid (qdm t lg lm=false):=by unfold Hid;rw[HD.out];rfl
    go_enter Tryz.func41,Tryz.ntmps41
    go_wp2_with (first | ((with_reducible refine HG.out.mono ?_);rintro e w2 ⟨rfl,hb2⟩;have hx2:=HX.out.below hb2 HX.out.lt;have q2:w2.cell? ⟨W.heap.size,2,none⟩=some (.bool true):=hx2.cell 2;have q3:w2.cell? ⟨W.heap.size,3,none⟩=some (.int .i64 t.main.cols):=hx2.cell 3;have q4:w2.cell? ⟨W.heap.size,4,none⟩=some (.slice mA mn mc):=hx2.cell 4;have HB2:=hid (HB.out.trans (hb2.mono HB.out.size));have HM3:=hid (HM2.out w2 HB2.out)) | ((with_reducible refine HM3.out.mono ?_);rintro e w3 ⟨rfl,hb3⟩;have hx3:=hx2.below hb3 hx2.lt;have z0:w3.cell? ⟨W.heap.size,0,none⟩=some (.int .i64 t.g.cols):=hx3.cell 0;have z1:w3.cell? ⟨W.heap.size,1,none⟩=some (.slice gA gn gc):=hx3.cell 1;have z3:w3.cell? ⟨W.heap.size,3,none⟩=some (.int .i64 t.main.cols):=hx3.cell 3;have z4:w3.cell? ⟨W.heap.size,4,none⟩=some (.slice mA mn mc):=hx3.cell 4))
    go_ret
    exact⟨qe HV.out.symm,HB2.out.trans (hb3.mono HB2.out.size)⟩
   ·by_cases c1:t.main.cols=t.g.cols
    ·have e1:(t.main.cols == t.g.cols)=true:=by simp[c1]
     by_cases c2:(mn:Int)=(gn:Int)
     ·have HV:Hid (qdm t lg lm=true):=by unfold Hid;rw[HD.out,decide_eq_true c1,decide_eq_true c2];rfl
      have e2:((mn:Int) == (gn:Int))=true:=by simp;omega
      clear c1 c2 HD
      go_enter Tryz.func41,Tryz.ntmps41
      go_wp2_with (first | ((with_reducible refine HG.out.mono ?_);rintro e w2 ⟨rfl,hb2⟩;have hx2:=HX.out.below hb2 HX.out.lt;have q2:w2.cell? ⟨W.heap.size,2,none⟩=some (.bool true):=hx2.cell 2;have q3:w2.cell? ⟨W.heap.size,3,none⟩=some (.int .i64 t.main.cols):=hx2.cell 3;have q4:w2.cell? ⟨W.heap.size,4,none⟩=some (.slice mA mn mc):=hx2.cell 4;have HB2:=hid (HB.out.trans (hb2.mono HB.out.size));have HM3:=hid (HM2.out w2 HB2.out)) | ((with_reducible refine HM3.out.mono ?_);rintro e w3 ⟨rfl,hb3⟩;have hx3:=hx2.below hb3 hx2.lt;have z0:w3.cell? ⟨W.heap.size,0,none⟩=some (.int .i64 t.g.cols):=hx3.cell 0;have z1:w3.cell? ⟨W.heap.size,1,none⟩=some (.slice gA gn gc):=hx3.cell 1;have z3:w3.cell? ⟨W.heap.size,3,none⟩=some (.int .i64 t.main.cols):=hx3.cell 3;have z4:w3.cell? ⟨W.heap.size,4,none⟩=some (.slice mA mn mc):=hx3.cell 4))
      go_ret
      exact⟨qe HV.out.symm,HB2.out.trans (hb3.mono HB2.out.size)⟩
     ·have HV:Hid (qdm t lg lm=false):=by unfold Hid;rw[HD.out,decide_eq_true c1,decide_eq_false c2];rfl
      have e2:((mn:Int) == (gn:Int))=false:=by simp;omega
      clear c1 c2 HD
      go_enter Tryz.func41,Tryz.ntmps41
      go_wp2_with (first | ((with_reducible refine HG.out.mono ?_);rintro e w2 ⟨rfl,hb2⟩;have hx2:=HX.out.below hb2 HX.out.lt;have q2:w2.cell? ⟨W.heap.size,2,none⟩=some (.bool true):=hx2.cell 2;have q3:w2.cell? ⟨W.heap.size,3,none⟩=some (.int .i64 t.main.cols):=hx2.cell 3;have q4:w2.cell? ⟨W.heap.size,4,none⟩=some (.slice mA mn mc):=hx2.cell 4;have HB2:=hid (HB.out.trans (hb2.mono HB.out.size));have HM3:=hid (HM2.out w2 HB2.out)) | ((with_reducible refine HM3.out.mono ?_);rintro e w3 ⟨rfl,hb3⟩;have hx3:=hx2.below hb3 hx2.lt;have z0:w3.cell? ⟨W.heap.size,0,none⟩=some (.int .i64 t.g.cols):=hx3.cell 0;have z1:w3.cell? ⟨W.heap.size,1,none⟩=some (.slice gA gn gc):=hx3.cell 1;have z3:w3.cell? ⟨W.heap.size,3,none⟩=some (.int .i64 t.main.cols):=hx3.cell 3;have z4:w3.cell? ⟨W.heap.size,4,none⟩=some (.slice mA mn mc):=hx3.cell 4))
      go_ret
      exact⟨qe HV.out.symm,HB2.out.trans (hb3.mono HB2.out.size)⟩
    ·have HV:Hid (qdm t lg lm=false):=by unfold Hid;rw[HD.out,decide_eq_false c1];rfl
     have e1:(t.main.cols == t.g.cols)=false:=by simp[c1]
     clear c1 HD
     go_enter Tryz.func41,Tryz.ntmps41
     go_wp2_with (first | ((with_reducible refine HG.out.mono ?_);rintro e w2 ⟨rfl,hb2⟩;have hx2:=HX.out.below hb2 HX.out.lt;have q2:w2.cell? ⟨W.heap.size,2,none⟩=some (.bool true):=hx2.cell 2;have q3:w2.cell? ⟨W.heap.size,3,none⟩=some (.int .i64 t.main.cols):=hx2.cell 3;have q4:w2.cell? ⟨W.heap.size,4,none⟩=some (.slice mA mn mc):=hx2.cell 4;have HB2:=hid (HB.out.trans (hb2.mono HB.out.size));have HM3:=hid (HM2.out w2 HB2.out)) | ((with_reducible refine HM3.out.mono ?_);rintro e w3 ⟨rfl,hb3⟩;have hx3:=hx2.below hb3 hx2.lt;have z0:w3.cell? ⟨W.heap.size,0,none⟩=some (.int .i64 t.g.cols):=hx3.cell 0;have z1:w3.cell? ⟨W.heap.size,1,none⟩=some (.slice gA gn gc):=hx3.cell 1;have z3:w3.cell? ⟨W.heap.size,3,none⟩=some (.int .i64 t.main.cols):=hx3.cell 3;have z4:w3.cell? ⟨W.heap.size,4,none⟩=some (.slice mA mn mc):=hx3.cell 4))
     go_ret
     exact⟨qe HV.out.symm,HB2.out.trans (hb3.mono HB2.out.size)⟩
end Go.Proofs.YtpdaekmbpafenaaGreatDoor
