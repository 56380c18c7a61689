
import Derived.Test.YtpdaekmbpafenaaGreatDoorTermRhQ
import Derived.Test.YtpdaekmbpafenaaGreatDoorCellYaQ
import Derived.Deep.MidRow
namespace Go.Proofs.YtpdaekmbpafenaaGreatDoor
set_option maxHeartbeats 4000000
set_option maxRecDepth 100000
open Go.RowKit
theorem qk {P : Program} {ops : Array Oper} {rest : List Oper} {op : Oper} {a : Act} {w : World} {Q : Exit → Act → World → Prop} (hw : Region.wanted op (yielded ops a.tmps) = true) (ty : TypeId) (x : Operand) (ho : op.op = .load ty x) (b : Nat) (hx : a.eval x = .pointer (some ⟨b, 0, none⟩))
  {t:TypeId} {cs:Array Value} (hb:Box w b t cs) (d:TypeDesc) (hu:P.underlying ty=some d) (hd:d.isRow=true) (hi:(P.info? ty).map (·.size)=some cs.size)
  (h:wpList P ops Q rest (a.put op.dst (.agg cs)) w):wpList P ops Q (op :: rest) a w:=by
 simp only[wpList,hw,if_true]
 left
 refine wp_load_mid ty x ho b 0 hx cs.toList d (fun j v hv=>?_) hu hd (by simpa using hi) (by simpa using h)
 rw[Nat.zero_add,hb.cell]
 simpa using hv
theorem tm_rw0 (TL : Array Value) (hs : TL.size = 32) (W : World)
  (H0:Hid (∀ W':World,Below W.heap.size W W'→Calls Tryz.prog 41 #[.agg TL] W' fun e w'=>e=.returned (.bool false)∧Below W'.heap.size W' w')) :
  Calls Tryz.prog 14 #[.agg TL] W fun e w'=>e=.returned (.bool false)∧Below W.heap.size W w':=by
 have HB:=hid (qa W (.cells TL 35))
 have HX:=hid (Box.new W 35 TL)
 have HS:=hid (show (Tryz.prog.info? 35).map (·.size)=some TL.size by rw[hs];kernel_rfl)
 have HC0:=hid (H0.out _ HB.out)
 clear H0 hs
 go_enter Tryz.func14,Tryz.ntmps14
 go_wp2_with (first
  | (refine qk (by rfl) 35 (.tmp 1) rfl W.heap.size rfl HX.out _ Tryz.underlying35 (by kernel_rfl) HS.out ?_)
  | ((with_reducible refine HC0.out.mono ?_);rintro e w1 ⟨rfl,hb1⟩;have HB1:=hid (HB.out.trans (hb1.mono HB.out.size))))
 go_ret
 exact⟨rfl,HB1.out⟩
theorem tm_rw1 (TL : Array Value) (hs : TL.size = 32) (W : World)
  (H0:Hid (∀ W':World,Below W.heap.size W W'→Calls Tryz.prog 41 #[.agg TL] W' fun e w'=>e=.returned (.bool true)∧Below W'.heap.size W' w'))
  (H1:Hid (∀ W':World,Below W.heap.size W W'→Calls Tryz.prog 42 #[.agg TL] W' fun e w'=>e=.returned (.bool false)∧Below W'.heap.size W' w')) :
  Calls Tryz.prog 14 #[.agg TL] W fun e w'=>e=.returned (.bool false)∧Below W.heap.size W w':=by
 have HB:=hid (qa W (.cells TL 35))
 have HX:=hid (Box.new W 35 TL)
 have HS:=hid (show (Tryz.prog.info? 35).map (·.size)=some TL.size by rw[hs];kernel_rfl)
 have HC0:=hid (H0.out _ HB.out)
 clear H0 hs
 go_enter Tryz.func14,Tryz.ntmps14
 go_wp2_with (first
  | (refine qk (by rfl) 35 (.tmp 1) rfl W.heap.size rfl HX.out _ Tryz.underlying35 (by kernel_rfl) HS.out ?_)
  | ((with_reducible refine HC0.out.mono ?_);rintro e w1 ⟨rfl,hb1⟩;have HB1:=hid (HB.out.trans (hb1.mono HB.out.size));have hx1:=(HX.out).below hb1 (HX.out).lt;have HC1:=hid (H1.out _ HB1.out))
  | (refine qk (by rfl) 35 (.tmp 1) rfl W.heap.size rfl hx1 _ Tryz.underlying35 (by kernel_rfl) HS.out ?_)
  | ((with_reducible refine HC1.out.mono ?_);rintro e w2 ⟨rfl,hb2⟩;have HB2:=hid (HB1.out.trans (hb2.mono HB1.out.size))))
 go_ret
 exact⟨rfl,HB2.out⟩
theorem tm_rw2 (TL : Array Value) (hs : TL.size = 32) (W : World)
  (H0:Hid (∀ W':World,Below W.heap.size W W'→Calls Tryz.prog 41 #[.agg TL] W' fun e w'=>e=.returned (.bool true)∧Below W'.heap.size W' w'))
  (H1:Hid (∀ W':World,Below W.heap.size W W'→Calls Tryz.prog 42 #[.agg TL] W' fun e w'=>e=.returned (.bool true)∧Below W'.heap.size W' w'))
  (H2:Hid (∀ W':World,Below W.heap.size W W'→Calls Tryz.prog 43 #[.agg TL] W' fun e w'=>e=.returned (.bool false)∧Below W'.heap.size W' w')) :
  Calls Tryz.prog 14 #[.agg TL] W fun e w'=>e=.returned (.bool false)∧Below W.heap.size W w':=by
 have HB:=hid (qa W (.cells TL 35))
 have HX:=hid (Box.new W 35 TL)
 have HS:=hid (show (Tryz.prog.info? 35).map (·.size)=some TL.size by rw[hs];kernel_rfl)
 have HC0:=hid (H0.out _ HB.out)
 clear H0 hs
 go_enter Tryz.func14,Tryz.ntmps14
 go_wp2_with (first
  | (refine qk (by rfl) 35 (.tmp 1) rfl W.heap.size rfl HX.out _ Tryz.underlying35 (by kernel_rfl) HS.out ?_)
  | ((with_reducible refine HC0.out.mono ?_);rintro e w1 ⟨rfl,hb1⟩;have HB1:=hid (HB.out.trans (hb1.mono HB.out.size));have hx1:=(HX.out).below hb1 (HX.out).lt;have HC1:=hid (H1.out _ HB1.out))
  | (refine qk (by rfl) 35 (.tmp 1) rfl W.heap.size rfl hx1 _ Tryz.underlying35 (by kernel_rfl) HS.out ?_)
  | ((with_reducible refine HC1.out.mono ?_);rintro e w2 ⟨rfl,hb2⟩;have HB2:=hid (HB1.out.trans (hb2.mono HB1.out.size));have hx2:=(hx1).below hb2 (hx1).lt;have HC2:=hid (H2.out _ HB2.out))
  | (refine qk (by rfl) 35 (.tmp 1) rfl W.heap.size rfl hx2 _ Tryz.underlying35 (by kernel_rfl) HS.out ?_)
  | ((with_reducible refine HC2.out.mono ?_);rintro e w3 ⟨rfl,hb3⟩;have HB3:=hid (HB2.out.trans (hb3.mono HB2.out.size))))
 go_ret
 exact⟨rfl,HB3.out⟩
theorem tm_rw3 (t : Tm) (TL : Array Value) (hs : TL.size = 32) (W : World)
  (H0:Hid (∀ W':World,Below W.heap.size W W'→Calls Tryz.prog 41 #[.agg TL] W' fun e w'=>e=.returned (.bool true)∧Below W'.heap.size W' w'))
  (H1:Hid (∀ W':World,Below W.heap.size W W'→Calls Tryz.prog 42 #[.agg TL] W' fun e w'=>e=.returned (.bool true)∧Below W'.heap.size W' w'))
  (H2:Hid (∀ W':World,Below W.heap.size W W'→Calls Tryz.prog 43 #[.agg TL] W' fun e w'=>e=.returned (.bool true)∧Below W'.heap.size W' w'))
  (H3:Hid (∀ W':World,Below W.heap.size W W'→Calls Tryz.prog 44 #[.agg #[.int .i64 t.sv.row,.int .i64 t.sv.col,.int .i64 t.sv.lk.fg,.int .i64 t.sv.lk.bg,.int .i64 t.sv.lk.fl,.bool t.sv.og]] W' fun e w'=>e=.returned (.bool false)∧Below W'.heap.size W' w')) (t13:TL[13]?=some (.int .i64 t.sv.row)) (t14:TL[14]?=some (.int .i64 t.sv.col)) (t15:TL[15]?=some (.int .i64 t.sv.lk.fg)) (t16:TL[16]?=some (.int .i64 t.sv.lk.bg)) (t17:TL[17]?=some (.int .i64 t.sv.lk.fl)) (t18:TL[18]?=some (.bool t.sv.og)) :
  Calls Tryz.prog 14 #[.agg TL] W fun e w'=>e=.returned (.bool false)∧Below W.heap.size W w':=by
 have HB:=hid (qa W (.cells TL 35))
 have HX:=hid (Box.new W 35 TL)
 have HS:=hid (show (Tryz.prog.info? 35).map (·.size)=some TL.size by rw[hs];kernel_rfl)
 have HC0:=hid (H0.out _ HB.out)
 clear H0 hs
 go_enter Tryz.func14,Tryz.ntmps14
 go_wp2_with (first
  | (refine qk (by rfl) 35 (.tmp 1) rfl W.heap.size rfl HX.out _ Tryz.underlying35 (by kernel_rfl) HS.out ?_)
  | ((with_reducible refine HC0.out.mono ?_);rintro e w1 ⟨rfl,hb1⟩;have HB1:=hid (HB.out.trans (hb1.mono HB.out.size));have hx1:=(HX.out).below hb1 (HX.out).lt;have HC1:=hid (H1.out _ HB1.out))
  | (refine qk (by rfl) 35 (.tmp 1) rfl W.heap.size rfl hx1 _ Tryz.underlying35 (by kernel_rfl) HS.out ?_)
  | ((with_reducible refine HC1.out.mono ?_);rintro e w2 ⟨rfl,hb2⟩;have HB2:=hid (HB1.out.trans (hb2.mono HB1.out.size));have hx2:=(hx1).below hb2 (hx1).lt;have HC2:=hid (H2.out _ HB2.out))
  | (refine qk (by rfl) 35 (.tmp 1) rfl W.heap.size rfl hx2 _ Tryz.underlying35 (by kernel_rfl) HS.out ?_)
  | ((with_reducible refine HC2.out.mono ?_);rintro e w3 ⟨rfl,hb3⟩;have HB3:=hid (HB2.out.trans (hb3.mono HB2.out.size));have hx3:=(hx2).below hb3 (hx2).lt;have q3_13:w3.cell? ⟨W.heap.size,13,none⟩=some (.int .i64 t.sv.row):=(hx3.cell 13).trans t13;have q3_14:w3.cell? ⟨W.heap.size,14,none⟩=some (.int .i64 t.sv.col):=(hx3.cell 14).trans t14;have q3_15:w3.cell? ⟨W.heap.size,15,none⟩=some (.int .i64 t.sv.lk.fg):=(hx3.cell 15).trans t15;have q3_16:w3.cell? ⟨W.heap.size,16,none⟩=some (.int .i64 t.sv.lk.bg):=(hx3.cell 16).trans t16;have q3_17:w3.cell? ⟨W.heap.size,17,none⟩=some (.int .i64 t.sv.lk.fl):=(hx3.cell 17).trans t17;have q3_18:w3.cell? ⟨W.heap.size,18,none⟩=some (.bool t.sv.og):=(hx3.cell 18).trans t18;have HC3:=hid (H3.out _ HB3.out))
  | ((with_reducible refine HC3.out.mono ?_);rintro e w4 ⟨rfl,hb4⟩;have HB4:=hid (HB3.out.trans (hb4.mono HB3.out.size))))
 go_ret
 exact⟨rfl,HB4.out⟩
theorem tm_rw4 (t : Tm) (TL : Array Value) (hs : TL.size = 32) (W : World)
  (H0:Hid (∀ W':World,Below W.heap.size W W'→Calls Tryz.prog 41 #[.agg TL] W' fun e w'=>e=.returned (.bool true)∧Below W'.heap.size W' w'))
  (H1:Hid (∀ W':World,Below W.heap.size W W'→Calls Tryz.prog 42 #[.agg TL] W' fun e w'=>e=.returned (.bool true)∧Below W'.heap.size W' w'))
  (H2:Hid (∀ W':World,Below W.heap.size W W'→Calls Tryz.prog 43 #[.agg TL] W' fun e w'=>e=.returned (.bool true)∧Below W'.heap.size W' w'))
  (H3:Hid (∀ W':World,Below W.heap.size W W'→Calls Tryz.prog 44 #[.agg #[.int .i64 t.sv.row,.int .i64 t.sv.col,.int .i64 t.sv.lk.fg,.int .i64 t.sv.lk.bg,.int .i64 t.sv.lk.fl,.bool t.sv.og]] W' fun e w'=>e=.returned (.bool true)∧Below W'.heap.size W' w'))
  (H4:Hid (∀ W':World,Below W.heap.size W W'→Calls Tryz.prog 45 #[.agg #[.int .i64 t.lk.fg,.int .i64 t.lk.bg,.int .i64 t.lk.fl]] W' fun e w'=>e=.returned (.bool false)∧Below W'.heap.size W' w')) (t8:TL[8]?=some (.int .i64 t.lk.fg)) (t9:TL[9]?=some (.int .i64 t.lk.bg)) (t10:TL[10]?=some (.int .i64 t.lk.fl)) (t13:TL[13]?=some (.int .i64 t.sv.row)) (t14:TL[14]?=some (.int .i64 t.sv.col)) (t15:TL[15]?=some (.int .i64 t.sv.lk.fg)) (t16:TL[16]?=some (.int .i64 t.sv.lk.bg)) (t17:TL[17]?=some (.int .i64 t.sv.lk.fl)) (t18:TL[18]?=some (.bool t.sv.og)) :
  Calls Tryz.prog 14 #[.agg TL] W fun e w'=>e=.returned (.bool false)∧Below W.heap.size W w':=by
 have HB:=hid (qa W (.cells TL 35))
 have HX:=hid (Box.new W 35 TL)
 have HS:=hid (show (Tryz.prog.info? 35).map (·.size)=some TL.size by rw[hs];kernel_rfl)
 have HC0:=hid (H0.out _ HB.out)
 clear H0 hs
 go_enter Tryz.func14,Tryz.ntmps14
 go_wp2_with (first
  | (refine qk (by rfl) 35 (.tmp 1) rfl W.heap.size rfl HX.out _ Tryz.underlying35 (by kernel_rfl) HS.out ?_)
  | ((with_reducible refine HC0.out.mono ?_);rintro e w1 ⟨rfl,hb1⟩;have HB1:=hid (HB.out.trans (hb1.mono HB.out.size));have hx1:=(HX.out).below hb1 (HX.out).lt;have HC1:=hid (H1.out _ HB1.out))
  | (refine qk (by rfl) 35 (.tmp 1) rfl W.heap.size rfl hx1 _ Tryz.underlying35 (by kernel_rfl) HS.out ?_)
  | ((with_reducible refine HC1.out.mono ?_);rintro e w2 ⟨rfl,hb2⟩;have HB2:=hid (HB1.out.trans (hb2.mono HB1.out.size));have hx2:=(hx1).below hb2 (hx1).lt;have HC2:=hid (H2.out _ HB2.out))
  | (refine qk (by rfl) 35 (.tmp 1) rfl W.heap.size rfl hx2 _ Tryz.underlying35 (by kernel_rfl) HS.out ?_)
  | ((with_reducible refine HC2.out.mono ?_);rintro e w3 ⟨rfl,hb3⟩;have HB3:=hid (HB2.out.trans (hb3.mono HB2.out.size));have hx3:=(hx2).below hb3 (hx2).lt;have q3_13:w3.cell? ⟨W.heap.size,13,none⟩=some (.int .i64 t.sv.row):=(hx3.cell 13).trans t13;have q3_14:w3.cell? ⟨W.heap.size,14,none⟩=some (.int .i64 t.sv.col):=(hx3.cell 14).trans t14;have q3_15:w3.cell? ⟨W.heap.size,15,none⟩=some (.int .i64 t.sv.lk.fg):=(hx3.cell 15).trans t15;have q3_16:w3.cell? ⟨W.heap.size,16,none⟩=some (.int .i64 t.sv.lk.bg):=(hx3.cell 16).trans t16;have q3_17:w3.cell? ⟨W.heap.size,17,none⟩=some (.int .i64 t.sv.lk.fl):=(hx3.cell 17).trans t17;have q3_18:w3.cell? ⟨W.heap.size,18,none⟩=some (.bool t.sv.og):=(hx3.cell 18).trans t18;have HC3:=hid (H3.out _ HB3.out))
  | ((with_reducible refine HC3.out.mono ?_);rintro e w4 ⟨rfl,hb4⟩;have HB4:=hid (HB3.out.trans (hb4.mono HB3.out.size));have hx4:=(hx3).below hb4 (hx3).lt;have q4_8:w4.cell? ⟨W.heap.size,8,none⟩=some (.int .i64 t.lk.fg):=(hx4.cell 8).trans t8;have q4_9:w4.cell? ⟨W.heap.size,9,none⟩=some (.int .i64 t.lk.bg):=(hx4.cell 9).trans t9;have q4_10:w4.cell? ⟨W.heap.size,10,none⟩=some (.int .i64 t.lk.fl):=(hx4.cell 10).trans t10;have HC4:=hid (H4.out _ HB4.out))
  | ((with_reducible refine HC4.out.mono ?_);rintro e w5 ⟨rfl,hb5⟩;have HB5:=hid (HB4.out.trans (hb5.mono HB4.out.size))))
 go_ret
 exact⟨rfl,HB5.out⟩
theorem tm_rw5 (t : Tm) (pA : Option Addr) (pn pc : Nat) (TL : Array Value) (hs : TL.size = 32) (W : World)
  (H0:Hid (∀ W':World,Below W.heap.size W W'→Calls Tryz.prog 41 #[.agg TL] W' fun e w'=>e=.returned (.bool true)∧Below W'.heap.size W' w'))
  (H1:Hid (∀ W':World,Below W.heap.size W W'→Calls Tryz.prog 42 #[.agg TL] W' fun e w'=>e=.returned (.bool true)∧Below W'.heap.size W' w'))
  (H2:Hid (∀ W':World,Below W.heap.size W W'→Calls Tryz.prog 43 #[.agg TL] W' fun e w'=>e=.returned (.bool true)∧Below W'.heap.size W' w'))
  (H3:Hid (∀ W':World,Below W.heap.size W W'→Calls Tryz.prog 44 #[.agg #[.int .i64 t.sv.row,.int .i64 t.sv.col,.int .i64 t.sv.lk.fg,.int .i64 t.sv.lk.bg,.int .i64 t.sv.lk.fl,.bool t.sv.og]] W' fun e w'=>e=.returned (.bool true)∧Below W'.heap.size W' w'))
  (H4:Hid (∀ W':World,Below W.heap.size W W'→Calls Tryz.prog 45 #[.agg #[.int .i64 t.lk.fg,.int .i64 t.lk.bg,.int .i64 t.lk.fl]] W' fun e w'=>e=.returned (.bool true)∧Below W'.heap.size W' w'))
  (H5:Hid (∀ W':World,Below W.heap.size W W'→Calls Tryz.prog 46 #[.agg #[.int .i64 t.pa.st,.int .i64 t.pa.priv,(.slice pA pn pc),.int .i64 t.pa.inter,.string t.pa.osc,.string t.pa.pend]] W' fun e w'=>e=.returned (.bool false)∧Below W'.heap.size W' w')) (t8:TL[8]?=some (.int .i64 t.lk.fg)) (t9:TL[9]?=some (.int .i64 t.lk.bg)) (t10:TL[10]?=some (.int .i64 t.lk.fl)) (t13:TL[13]?=some (.int .i64 t.sv.row)) (t14:TL[14]?=some (.int .i64 t.sv.col)) (t15:TL[15]?=some (.int .i64 t.sv.lk.fg)) (t16:TL[16]?=some (.int .i64 t.sv.lk.bg)) (t17:TL[17]?=some (.int .i64 t.sv.lk.fl)) (t18:TL[18]?=some (.bool t.sv.og)) (t23:TL[23]?=some (.int .i64 t.pa.st)) (t24:TL[24]?=some (.int .i64 t.pa.priv)) (t25:TL[25]?=some ((.slice pA pn pc))) (t26:TL[26]?=some (.int .i64 t.pa.inter)) (t27:TL[27]?=some (.string t.pa.osc)) (t28:TL[28]?=some (.string t.pa.pend)) :
  Calls Tryz.prog 14 #[.agg TL] W fun e w'=>e=.returned (.bool false)∧Below W.heap.size W w':=by
 have HB:=hid (qa W (.cells TL 35))
 have HX:=hid (Box.new W 35 TL)
 have HS:=hid (show (Tryz.prog.info? 35).map (·.size)=some TL.size by rw[hs];kernel_rfl)
 have HC0:=hid (H0.out _ HB.out)
 clear H0 hs
 go_enter Tryz.func14,Tryz.ntmps14
 go_wp2_with (first
  | (refine qk (by rfl) 35 (.tmp 1) rfl W.heap.size rfl HX.out _ Tryz.underlying35 (by kernel_rfl) HS.out ?_)
  | ((with_reducible refine HC0.out.mono ?_);rintro e w1 ⟨rfl,hb1⟩;have HB1:=hid (HB.out.trans (hb1.mono HB.out.size));have hx1:=(HX.out).below hb1 (HX.out).lt;have HC1:=hid (H1.out _ HB1.out))
  | (refine qk (by rfl) 35 (.tmp 1) rfl W.heap.size rfl hx1 _ Tryz.underlying35 (by kernel_rfl) HS.out ?_)
  | ((with_reducible refine HC1.out.mono ?_);rintro e w2 ⟨rfl,hb2⟩;have HB2:=hid (HB1.out.trans (hb2.mono HB1.out.size));have hx2:=(hx1).below hb2 (hx1).lt;have HC2:=hid (H2.out _ HB2.out))
  | (refine qk (by rfl) 35 (.tmp 1) rfl W.heap.size rfl hx2 _ Tryz.underlying35 (by kernel_rfl) HS.out ?_)
  | ((with_reducible refine HC2.out.mono ?_);rintro e w3 ⟨rfl,hb3⟩;have HB3:=hid (HB2.out.trans (hb3.mono HB2.out.size));have hx3:=(hx2).below hb3 (hx2).lt;have q3_13:w3.cell? ⟨W.heap.size,13,none⟩=some (.int .i64 t.sv.row):=(hx3.cell 13).trans t13;have q3_14:w3.cell? ⟨W.heap.size,14,none⟩=some (.int .i64 t.sv.col):=(hx3.cell 14).trans t14;have q3_15:w3.cell? ⟨W.heap.size,15,none⟩=some (.int .i64 t.sv.lk.fg):=(hx3.cell 15).trans t15;have q3_16:w3.cell? ⟨W.heap.size,16,none⟩=some (.int .i64 t.sv.lk.bg):=(hx3.cell 16).trans t16;have q3_17:w3.cell? ⟨W.heap.size,17,none⟩=some (.int .i64 t.sv.lk.fl):=(hx3.cell 17).trans t17;have q3_18:w3.cell? ⟨W.heap.size,18,none⟩=some (.bool t.sv.og):=(hx3.cell 18).trans t18;have HC3:=hid (H3.out _ HB3.out))
  | ((with_reducible refine HC3.out.mono ?_);rintro e w4 ⟨rfl,hb4⟩;have HB4:=hid (HB3.out.trans (hb4.mono HB3.out.size));have hx4:=(hx3).below hb4 (hx3).lt;have q4_8:w4.cell? ⟨W.heap.size,8,none⟩=some (.int .i64 t.lk.fg):=(hx4.cell 8).trans t8;have q4_9:w4.cell? ⟨W.heap.size,9,none⟩=some (.int .i64 t.lk.bg):=(hx4.cell 9).trans t9;have q4_10:w4.cell? ⟨W.heap.size,10,none⟩=some (.int .i64 t.lk.fl):=(hx4.cell 10).trans t10;have HC4:=hid (H4.out _ HB4.out))
  | ((with_reducible refine HC4.out.mono ?_);rintro e w5 ⟨rfl,hb5⟩;have HB5:=hid (HB4.out.trans (hb5.mono HB4.out.size));have hx5:=(hx4).below hb5 (hx4).lt;have q5_23:w5.cell? ⟨W.heap.size,23,none⟩=some (.int .i64 t.pa.st):=(hx5.cell 23).trans t23;have q5_24:w5.cell? ⟨W.heap.size,24,none⟩=some (.int .i64 t.pa.priv):=(hx5.cell 24).trans t24;have q5_25:w5.cell? ⟨W.heap.size,25,none⟩=some ((.slice pA pn pc)):=(hx5.cell 25).trans t25;have q5_26:w5.cell? ⟨W.heap.size,26,none⟩=some (.int .i64 t.pa.inter):=(hx5.cell 26).trans t26;have q5_27:w5.cell? ⟨W.heap.size,27,none⟩=some (.string t.pa.osc):=(hx5.cell 27).trans t27;have q5_28:w5.cell? ⟨W.heap.size,28,none⟩=some (.string t.pa.pend):=(hx5.cell 28).trans t28;have HC5:=hid (H5.out _ HB5.out))
  | ((with_reducible refine HC5.out.mono ?_);rintro e w6 ⟨rfl,hb6⟩;have HB6:=hid (HB5.out.trans (hb6.mono HB5.out.size))))
 go_ret
 exact⟨rfl,HB6.out⟩
theorem tm_rw6 (t : Tm) (pA : Option Addr) (pn pc : Nat) (bA : Option Addr) (bn bc : Nat) (TL : Array Value) (hs : TL.size = 32) (W : World)
  (H0:Hid (∀ W':World,Below W.heap.size W W'→Calls Tryz.prog 41 #[.agg TL] W' fun e w'=>e=.returned (.bool true)∧Below W'.heap.size W' w'))
  (H1:Hid (∀ W':World,Below W.heap.size W W'→Calls Tryz.prog 42 #[.agg TL] W' fun e w'=>e=.returned (.bool true)∧Below W'.heap.size W' w'))
  (H2:Hid (∀ W':World,Below W.heap.size W W'→Calls Tryz.prog 43 #[.agg TL] W' fun e w'=>e=.returned (.bool true)∧Below W'.heap.size W' w'))
  (H3:Hid (∀ W':World,Below W.heap.size W W'→Calls Tryz.prog 44 #[.agg #[.int .i64 t.sv.row,.int .i64 t.sv.col,.int .i64 t.sv.lk.fg,.int .i64 t.sv.lk.bg,.int .i64 t.sv.lk.fl,.bool t.sv.og]] W' fun e w'=>e=.returned (.bool true)∧Below W'.heap.size W' w'))
  (H4:Hid (∀ W':World,Below W.heap.size W W'→Calls Tryz.prog 45 #[.agg #[.int .i64 t.lk.fg,.int .i64 t.lk.bg,.int .i64 t.lk.fl]] W' fun e w'=>e=.returned (.bool true)∧Below W'.heap.size W' w'))
  (H5:Hid (∀ W':World,Below W.heap.size W W'→Calls Tryz.prog 46 #[.agg #[.int .i64 t.pa.st,.int .i64 t.pa.priv,(.slice pA pn pc),.int .i64 t.pa.inter,.string t.pa.osc,.string t.pa.pend]] W' fun e w'=>e=.returned (.bool true)∧Below W'.heap.size W' w'))
  (H6:Hid (∀ W':World,Below W.heap.size W W'→Calls Tryz.prog 47 #[.agg #[.int .i64 t.bmax,(.slice bA bn bc)]] W' fun e w'=>e=.returned (.bool false)∧Below W'.heap.size W' w')) (t8:TL[8]?=some (.int .i64 t.lk.fg)) (t9:TL[9]?=some (.int .i64 t.lk.bg)) (t10:TL[10]?=some (.int .i64 t.lk.fl)) (t13:TL[13]?=some (.int .i64 t.sv.row)) (t14:TL[14]?=some (.int .i64 t.sv.col)) (t15:TL[15]?=some (.int .i64 t.sv.lk.fg)) (t16:TL[16]?=some (.int .i64 t.sv.lk.bg)) (t17:TL[17]?=some (.int .i64 t.sv.lk.fl)) (t18:TL[18]?=some (.bool t.sv.og)) (t23:TL[23]?=some (.int .i64 t.pa.st)) (t24:TL[24]?=some (.int .i64 t.pa.priv)) (t25:TL[25]?=some ((.slice pA pn pc))) (t26:TL[26]?=some (.int .i64 t.pa.inter)) (t27:TL[27]?=some (.string t.pa.osc)) (t28:TL[28]?=some (.string t.pa.pend)) (t29:TL[29]?=some (.int .i64 t.bmax)) (t30:TL[30]?=some ((.slice bA bn bc))) :
  Calls Tryz.prog 14 #[.agg TL] W fun e w'=>e=.returned (.bool false)∧Below W.heap.size W w':=by
 have HB:=hid (qa W (.cells TL 35))
 have HX:=hid (Box.new W 35 TL)
 have HS:=hid (show (Tryz.prog.info? 35).map (·.size)=some TL.size by rw[hs];kernel_rfl)
 have HC0:=hid (H0.out _ HB.out)
 clear H0 hs
 go_enter Tryz.func14,Tryz.ntmps14
 go_wp2_with (first
  | (refine qk (by rfl) 35 (.tmp 1) rfl W.heap.size rfl HX.out _ Tryz.underlying35 (by kernel_rfl) HS.out ?_)
  | ((with_reducible refine HC0.out.mono ?_);rintro e w1 ⟨rfl,hb1⟩;have HB1:=hid (HB.out.trans (hb1.mono HB.out.size));have hx1:=(HX.out).below hb1 (HX.out).lt;have HC1:=hid (H1.out _ HB1.out))
  | (refine qk (by rfl) 35 (.tmp 1) rfl W.heap.size rfl hx1 _ Tryz.underlying35 (by kernel_rfl) HS.out ?_)
  | ((with_reducible refine HC1.out.mono ?_);rintro e w2 ⟨rfl,hb2⟩;have HB2:=hid (HB1.out.trans (hb2.mono HB1.out.size));have hx2:=(hx1).below hb2 (hx1).lt;have HC2:=hid (H2.out _ HB2.out))
  | (refine qk (by rfl) 35 (.tmp 1) rfl W.heap.size rfl hx2 _ Tryz.underlying35 (by kernel_rfl) HS.out ?_)
  | ((with_reducible refine HC2.out.mono ?_);rintro e w3 ⟨rfl,hb3⟩;have HB3:=hid (HB2.out.trans (hb3.mono HB2.out.size));have hx3:=(hx2).below hb3 (hx2).lt;have q3_13:w3.cell? ⟨W.heap.size,13,none⟩=some (.int .i64 t.sv.row):=(hx3.cell 13).trans t13;have q3_14:w3.cell? ⟨W.heap.size,14,none⟩=some (.int .i64 t.sv.col):=(hx3.cell 14).trans t14;have q3_15:w3.cell? ⟨W.heap.size,15,none⟩=some (.int .i64 t.sv.lk.fg):=(hx3.cell 15).trans t15;have q3_16:w3.cell? ⟨W.heap.size,16,none⟩=some (.int .i64 t.sv.lk.bg):=(hx3.cell 16).trans t16;have q3_17:w3.cell? ⟨W.heap.size,17,none⟩=some (.int .i64 t.sv.lk.fl):=(hx3.cell 17).trans t17;have q3_18:w3.cell? ⟨W.heap.size,18,none⟩=some (.bool t.sv.og):=(hx3.cell 18).trans t18;have HC3:=hid (H3.out _ HB3.out))
  | ((with_reducible refine HC3.out.mono ?_);rintro e w4 ⟨rfl,hb4⟩;have HB4:=hid (HB3.out.trans (hb4.mono HB3.out.size));have hx4:=(hx3).below hb4 (hx3).lt;have q4_8:w4.cell? ⟨W.heap.size,8,none⟩=some (.int .i64 t.lk.fg):=(hx4.cell 8).trans t8;have q4_9:w4.cell? ⟨W.heap.size,9,none⟩=some (.int .i64 t.lk.bg):=(hx4.cell 9).trans t9;have q4_10:w4.cell? ⟨W.heap.size,10,none⟩=some (.int .i64 t.lk.fl):=(hx4.cell 10).trans t10;have HC4:=hid (H4.out _ HB4.out))
  | ((with_reducible refine HC4.out.mono ?_);rintro e w5 ⟨rfl,hb5⟩;have HB5:=hid (HB4.out.trans (hb5.mono HB4.out.size));have hx5:=(hx4).below hb5 (hx4).lt;have q5_23:w5.cell? ⟨W.heap.size,23,none⟩=some (.int .i64 t.pa.st):=(hx5.cell 23).trans t23;have q5_24:w5.cell? ⟨W.heap.size,24,none⟩=some (.int .i64 t.pa.priv):=(hx5.cell 24).trans t24;have q5_25:w5.cell? ⟨W.heap.size,25,none⟩=some ((.slice pA pn pc)):=(hx5.cell 25).trans t25;have q5_26:w5.cell? ⟨W.heap.size,26,none⟩=some (.int .i64 t.pa.inter):=(hx5.cell 26).trans t26;have q5_27:w5.cell? ⟨W.heap.size,27,none⟩=some (.string t.pa.osc):=(hx5.cell 27).trans t27;have q5_28:w5.cell? ⟨W.heap.size,28,none⟩=some (.string t.pa.pend):=(hx5.cell 28).trans t28;have HC5:=hid (H5.out _ HB5.out))
  | ((with_reducible refine HC5.out.mono ?_);rintro e w6 ⟨rfl,hb6⟩;have HB6:=hid (HB5.out.trans (hb6.mono HB5.out.size));have hx6:=(hx5).below hb6 (hx5).lt;have q6_29:w6.cell? ⟨W.heap.size,29,none⟩=some (.int .i64 t.bmax):=(hx6.cell 29).trans t29;have q6_30:w6.cell? ⟨W.heap.size,30,none⟩=some ((.slice bA bn bc)):=(hx6.cell 30).trans t30;have HC6:=hid (H6.out _ HB6.out))
  | ((with_reducible refine HC6.out.mono ?_);rintro e w7 ⟨rfl,hb7⟩;have HB7:=hid (HB6.out.trans (hb7.mono HB6.out.size))))
 go_ret
 exact⟨rfl,HB7.out⟩
theorem tm_rw7 (t : Tm) (pA : Option Addr) (pn pc : Nat) (bA : Option Addr) (bn bc : Nat) (TL : Array Value) (hs : TL.size = 32) (W : World)
  (H0:Hid (∀ W':World,Below W.heap.size W W'→Calls Tryz.prog 41 #[.agg TL] W' fun e w'=>e=.returned (.bool true)∧Below W'.heap.size W' w'))
  (H1:Hid (∀ W':World,Below W.heap.size W W'→Calls Tryz.prog 42 #[.agg TL] W' fun e w'=>e=.returned (.bool true)∧Below W'.heap.size W' w'))
  (H2:Hid (∀ W':World,Below W.heap.size W W'→Calls Tryz.prog 43 #[.agg TL] W' fun e w'=>e=.returned (.bool true)∧Below W'.heap.size W' w'))
  (H3:Hid (∀ W':World,Below W.heap.size W W'→Calls Tryz.prog 44 #[.agg #[.int .i64 t.sv.row,.int .i64 t.sv.col,.int .i64 t.sv.lk.fg,.int .i64 t.sv.lk.bg,.int .i64 t.sv.lk.fl,.bool t.sv.og]] W' fun e w'=>e=.returned (.bool true)∧Below W'.heap.size W' w'))
  (H4:Hid (∀ W':World,Below W.heap.size W W'→Calls Tryz.prog 45 #[.agg #[.int .i64 t.lk.fg,.int .i64 t.lk.bg,.int .i64 t.lk.fl]] W' fun e w'=>e=.returned (.bool true)∧Below W'.heap.size W' w'))
  (H5:Hid (∀ W':World,Below W.heap.size W W'→Calls Tryz.prog 46 #[.agg #[.int .i64 t.pa.st,.int .i64 t.pa.priv,(.slice pA pn pc),.int .i64 t.pa.inter,.string t.pa.osc,.string t.pa.pend]] W' fun e w'=>e=.returned (.bool true)∧Below W'.heap.size W' w'))
  (H6:Hid (∀ W':World,Below W.heap.size W W'→Calls Tryz.prog 47 #[.agg #[.int .i64 t.bmax,(.slice bA bn bc)]] W' fun e w'=>e=.returned (.bool true)∧Below W'.heap.size W' w'))
  (H7:Hid (∀ W':World,Below W.heap.size W W'→Calls Tryz.prog 48 #[.string t.title] W' fun e w'=>e=.returned (.bool false)∧Below W'.heap.size W' w')) (t8:TL[8]?=some (.int .i64 t.lk.fg)) (t9:TL[9]?=some (.int .i64 t.lk.bg)) (t10:TL[10]?=some (.int .i64 t.lk.fl)) (t13:TL[13]?=some (.int .i64 t.sv.row)) (t14:TL[14]?=some (.int .i64 t.sv.col)) (t15:TL[15]?=some (.int .i64 t.sv.lk.fg)) (t16:TL[16]?=some (.int .i64 t.sv.lk.bg)) (t17:TL[17]?=some (.int .i64 t.sv.lk.fl)) (t18:TL[18]?=some (.bool t.sv.og)) (t23:TL[23]?=some (.int .i64 t.pa.st)) (t24:TL[24]?=some (.int .i64 t.pa.priv)) (t25:TL[25]?=some ((.slice pA pn pc))) (t26:TL[26]?=some (.int .i64 t.pa.inter)) (t27:TL[27]?=some (.string t.pa.osc)) (t28:TL[28]?=some (.string t.pa.pend)) (t29:TL[29]?=some (.int .i64 t.bmax)) (t30:TL[30]?=some ((.slice bA bn bc))) (t31:TL[31]?=some (.string t.title)) :
  Calls Tryz.prog 14 #[.agg TL] W fun e w'=>e=.returned (.bool false)∧Below W.heap.size W w':=by
 have HB:=hid (qa W (.cells TL 35))
 have HX:=hid (Box.new W 35 TL)
 have HS:=hid (show (Tryz.prog.info? 35).map (·.size)=some TL.size by rw[hs];kernel_rfl)
 have HC0:=hid (H0.out _ HB.out)
 clear H0 hs
 go_enter Tryz.func14,Tryz.ntmps14
 go_wp2_with (first
  | (refine qk (by rfl) 35 (.tmp 1) rfl W.heap.size rfl HX.out _ Tryz.underlying35 (by kernel_rfl) HS.out ?_)
  | ((with_reducible refine HC0.out.mono ?_);rintro e w1 ⟨rfl,hb1⟩;have HB1:=hid (HB.out.trans (hb1.mono HB.out.size));have hx1:=(HX.out).below hb1 (HX.out).lt;have HC1:=hid (H1.out _ HB1.out))
  | (refine qk (by rfl) 35 (.tmp 1) rfl W.heap.size rfl hx1 _ Tryz.underlying35 (by kernel_rfl) HS.out ?_)
  | ((with_reducible refine HC1.out.mono ?_);rintro e w2 ⟨rfl,hb2⟩;have HB2:=hid (HB1.out.trans (hb2.mono HB1.out.size));have hx2:=(hx1).below hb2 (hx1).lt;have HC2:=hid (H2.out _ HB2.out))
  | (refine qk (by rfl) 35 (.tmp 1) rfl W.heap.size rfl hx2 _ Tryz.underlying35 (by kernel_rfl) HS.out ?_)
  | ((with_reducible refine HC2.out.mono ?_);rintro e w3 ⟨rfl,hb3⟩;have HB3:=hid (HB2.out.trans (hb3.mono HB2.out.size));have hx3:=(hx2).below hb3 (hx2).lt;have q3_13:w3.cell? ⟨W.heap.size,13,none⟩=some (.int .i64 t.sv.row):=(hx3.cell 13).trans t13;have q3_14:w3.cell? ⟨W.heap.size,14,none⟩=some (.int .i64 t.sv.col):=(hx3.cell 14).trans t14;have q3_15:w3.cell? ⟨W.heap.size,15,none⟩=some (.int .i64 t.sv.lk.fg):=(hx3.cell 15).trans t15;have q3_16:w3.cell? ⟨W.heap.size,16,none⟩=some (.int .i64 t.sv.lk.bg):=(hx3.cell 16).trans t16;have q3_17:w3.cell? ⟨W.heap.size,17,none⟩=some (.int .i64 t.sv.lk.fl):=(hx3.cell 17).trans t17;have q3_18:w3.cell? ⟨W.heap.size,18,none⟩=some (.bool t.sv.og):=(hx3.cell 18).trans t18;have HC3:=hid (H3.out _ HB3.out))
  | ((with_reducible refine HC3.out.mono ?_);rintro e w4 ⟨rfl,hb4⟩;have HB4:=hid (HB3.out.trans (hb4.mono HB3.out.size));have hx4:=(hx3).below hb4 (hx3).lt;have q4_8:w4.cell? ⟨W.heap.size,8,none⟩=some (.int .i64 t.lk.fg):=(hx4.cell 8).trans t8;have q4_9:w4.cell? ⟨W.heap.size,9,none⟩=some (.int .i64 t.lk.bg):=(hx4.cell 9).trans t9;have q4_10:w4.cell? ⟨W.heap.size,10,none⟩=some (.int .i64 t.lk.fl):=(hx4.cell 10).trans t10;have HC4:=hid (H4.out _ HB4.out))
  | ((with_reducible refine HC4.out.mono ?_);rintro e w5 ⟨rfl,hb5⟩;have HB5:=hid (HB4.out.trans (hb5.mono HB4.out.size));have hx5:=(hx4).below hb5 (hx4).lt;have q5_23:w5.cell? ⟨W.heap.size,23,none⟩=some (.int .i64 t.pa.st):=(hx5.cell 23).trans t23;have q5_24:w5.cell? ⟨W.heap.size,24,none⟩=some (.int .i64 t.pa.priv):=(hx5.cell 24).trans t24;have q5_25:w5.cell? ⟨W.heap.size,25,none⟩=some ((.slice pA pn pc)):=(hx5.cell 25).trans t25;have q5_26:w5.cell? ⟨W.heap.size,26,none⟩=some (.int .i64 t.pa.inter):=(hx5.cell 26).trans t26;have q5_27:w5.cell? ⟨W.heap.size,27,none⟩=some (.string t.pa.osc):=(hx5.cell 27).trans t27;have q5_28:w5.cell? ⟨W.heap.size,28,none⟩=some (.string t.pa.pend):=(hx5.cell 28).trans t28;have HC5:=hid (H5.out _ HB5.out))
  | ((with_reducible refine HC5.out.mono ?_);rintro e w6 ⟨rfl,hb6⟩;have HB6:=hid (HB5.out.trans (hb6.mono HB5.out.size));have hx6:=(hx5).below hb6 (hx5).lt;have q6_29:w6.cell? ⟨W.heap.size,29,none⟩=some (.int .i64 t.bmax):=(hx6.cell 29).trans t29;have q6_30:w6.cell? ⟨W.heap.size,30,none⟩=some ((.slice bA bn bc)):=(hx6.cell 30).trans t30;have HC6:=hid (H6.out _ HB6.out))
  | ((with_reducible refine HC6.out.mono ?_);rintro e w7 ⟨rfl,hb7⟩;have HB7:=hid (HB6.out.trans (hb7.mono HB6.out.size));have hx7:=(hx6).below hb7 (hx6).lt;have q7_31:w7.cell? ⟨W.heap.size,31,none⟩=some (.string t.title):=(hx7.cell 31).trans t31;have HC7:=hid (H7.out _ HB7.out))
  | ((with_reducible refine HC7.out.mono ?_);rintro e w8 ⟨rfl,hb8⟩;have HB8:=hid (HB7.out.trans (hb8.mono HB7.out.size))))
 go_ret
 exact⟨rfl,HB8.out⟩
theorem tm_rw8 (t : Tm) (pA : Option Addr) (pn pc : Nat) (bA : Option Addr) (bn bc : Nat) (TL : Array Value) (hs : TL.size = 32) (W : World)
  (H0:Hid (∀ W':World,Below W.heap.size W W'→Calls Tryz.prog 41 #[.agg TL] W' fun e w'=>e=.returned (.bool true)∧Below W'.heap.size W' w'))
  (H1:Hid (∀ W':World,Below W.heap.size W W'→Calls Tryz.prog 42 #[.agg TL] W' fun e w'=>e=.returned (.bool true)∧Below W'.heap.size W' w'))
  (H2:Hid (∀ W':World,Below W.heap.size W W'→Calls Tryz.prog 43 #[.agg TL] W' fun e w'=>e=.returned (.bool true)∧Below W'.heap.size W' w'))
  (H3:Hid (∀ W':World,Below W.heap.size W W'→Calls Tryz.prog 44 #[.agg #[.int .i64 t.sv.row,.int .i64 t.sv.col,.int .i64 t.sv.lk.fg,.int .i64 t.sv.lk.bg,.int .i64 t.sv.lk.fl,.bool t.sv.og]] W' fun e w'=>e=.returned (.bool true)∧Below W'.heap.size W' w'))
  (H4:Hid (∀ W':World,Below W.heap.size W W'→Calls Tryz.prog 45 #[.agg #[.int .i64 t.lk.fg,.int .i64 t.lk.bg,.int .i64 t.lk.fl]] W' fun e w'=>e=.returned (.bool true)∧Below W'.heap.size W' w'))
  (H5:Hid (∀ W':World,Below W.heap.size W W'→Calls Tryz.prog 46 #[.agg #[.int .i64 t.pa.st,.int .i64 t.pa.priv,(.slice pA pn pc),.int .i64 t.pa.inter,.string t.pa.osc,.string t.pa.pend]] W' fun e w'=>e=.returned (.bool true)∧Below W'.heap.size W' w'))
  (H6:Hid (∀ W':World,Below W.heap.size W W'→Calls Tryz.prog 47 #[.agg #[.int .i64 t.bmax,(.slice bA bn bc)]] W' fun e w'=>e=.returned (.bool true)∧Below W'.heap.size W' w'))
  (H7:Hid (∀ W':World,Below W.heap.size W W'→Calls Tryz.prog 48 #[.string t.title] W' fun e w'=>e=.returned (.bool true)∧Below W'.heap.size W' w')) (t8:TL[8]?=some (.int .i64 t.lk.fg)) (t9:TL[9]?=some (.int .i64 t.lk.bg)) (t10:TL[10]?=some (.int .i64 t.lk.fl)) (t13:TL[13]?=some (.int .i64 t.sv.row)) (t14:TL[14]?=some (.int .i64 t.sv.col)) (t15:TL[15]?=some (.int .i64 t.sv.lk.fg)) (t16:TL[16]?=some (.int .i64 t.sv.lk.bg)) (t17:TL[17]?=some (.int .i64 t.sv.lk.fl)) (t18:TL[18]?=some (.bool t.sv.og)) (t23:TL[23]?=some (.int .i64 t.pa.st)) (t24:TL[24]?=some (.int .i64 t.pa.priv)) (t25:TL[25]?=some ((.slice pA pn pc))) (t26:TL[26]?=some (.int .i64 t.pa.inter)) (t27:TL[27]?=some (.string t.pa.osc)) (t28:TL[28]?=some (.string t.pa.pend)) (t29:TL[29]?=some (.int .i64 t.bmax)) (t30:TL[30]?=some ((.slice bA bn bc))) (t31:TL[31]?=some (.string t.title)) :
  Calls Tryz.prog 14 #[.agg TL] W fun e w'=>e=.returned (.bool true)∧Below W.heap.size W w':=by
 have HB:=hid (qa W (.cells TL 35))
 have HX:=hid (Box.new W 35 TL)
 have HS:=hid (show (Tryz.prog.info? 35).map (·.size)=some TL.size by rw[hs];kernel_rfl)
 have HC0:=hid (H0.out _ HB.out)
 clear H0 hs
 go_enter Tryz.func14,Tryz.ntmps14
 go_wp2_with (first
  | (refine qk (by rfl) 35 (.tmp 1) rfl W.heap.size rfl HX.out _ Tryz.underlying35 (by kernel_rfl) HS.out ?_)
  | ((with_reducible refine HC0.out.mono ?_);rintro e w1 ⟨rfl,hb1⟩;have HB1:=hid (HB.out.trans (hb1.mono HB.out.size));have hx1:=(HX.out).below hb1 (HX.out).lt;have HC1:=hid (H1.out _ HB1.out))
  | (refine qk (by rfl) 35 (.tmp 1) rfl W.heap.size rfl hx1 _ Tryz.underlying35 (by kernel_rfl) HS.out ?_)
  | ((with_reducible refine HC1.out.mono ?_);rintro e w2 ⟨rfl,hb2⟩;have HB2:=hid (HB1.out.trans (hb2.mono HB1.out.size));have hx2:=(hx1).below hb2 (hx1).lt;have HC2:=hid (H2.out _ HB2.out))
  | (refine qk (by rfl) 35 (.tmp 1) rfl W.heap.size rfl hx2 _ Tryz.underlying35 (by kernel_rfl) HS.out ?_)
  | ((with_reducible refine HC2.out.mono ?_);rintro e w3 ⟨rfl,hb3⟩;have HB3:=hid (HB2.out.trans (hb3.mono HB2.out.size));have hx3:=(hx2).below hb3 (hx2).lt;have q3_13:w3.cell? ⟨W.heap.size,13,none⟩=some (.int .i64 t.sv.row):=(hx3.cell 13).trans t13;have q3_14:w3.cell? ⟨W.heap.size,14,none⟩=some (.int .i64 t.sv.col):=(hx3.cell 14).trans t14;have q3_15:w3.cell? ⟨W.heap.size,15,none⟩=some (.int .i64 t.sv.lk.fg):=(hx3.cell 15).trans t15;have q3_16:w3.cell? ⟨W.heap.size,16,none⟩=some (.int .i64 t.sv.lk.bg):=(hx3.cell 16).trans t16;have q3_17:w3.cell? ⟨W.heap.size,17,none⟩=some (.int .i64 t.sv.lk.fl):=(hx3.cell 17).trans t17;have q3_18:w3.cell? ⟨W.heap.size,18,none⟩=some (.bool t.sv.og):=(hx3.cell 18).trans t18;have HC3:=hid (H3.out _ HB3.out))
  | ((with_reducible refine HC3.out.mono ?_);rintro e w4 ⟨rfl,hb4⟩;have HB4:=hid (HB3.out.trans (hb4.mono HB3.out.size));have hx4:=(hx3).below hb4 (hx3).lt;have q4_8:w4.cell? ⟨W.heap.size,8,none⟩=some (.int .i64 t.lk.fg):=(hx4.cell 8).trans t8;have q4_9:w4.cell? ⟨W.heap.size,9,none⟩=some (.int .i64 t.lk.bg):=(hx4.cell 9).trans t9;have q4_10:w4.cell? ⟨W.heap.size,10,none⟩=some (.int .i64 t.lk.fl):=(hx4.cell 10).trans t10;have HC4:=hid (H4.out _ HB4.out))
  | ((with_reducible refine HC4.out.mono ?_);rintro e w5 ⟨rfl,hb5⟩;have HB5:=hid (HB4.out.trans (hb5.mono HB4.out.size));have hx5:=(hx4).below hb5 (hx4).lt;have q5_23:w5.cell? ⟨W.heap.size,23,none⟩=some (.int .i64 t.pa.st):=(hx5.cell 23).trans t23;have q5_24:w5.cell? ⟨W.heap.size,24,none⟩=some (.int .i64 t.pa.priv):=(hx5.cell 24).trans t24;have q5_25:w5.cell? ⟨W.heap.size,25,none⟩=some ((.slice pA pn pc)):=(hx5.cell 25).trans t25;have q5_26:w5.cell? ⟨W.heap.size,26,none⟩=some (.int .i64 t.pa.inter):=(hx5.cell 26).trans t26;have q5_27:w5.cell? ⟨W.heap.size,27,none⟩=some (.string t.pa.osc):=(hx5.cell 27).trans t27;have q5_28:w5.cell? ⟨W.heap.size,28,none⟩=some (.string t.pa.pend):=(hx5.cell 28).trans t28;have HC5:=hid (H5.out _ HB5.out))
  | ((with_reducible refine HC5.out.mono ?_);rintro e w6 ⟨rfl,hb6⟩;have HB6:=hid (HB5.out.trans (hb6.mono HB5.out.size));have hx6:=(hx5).below hb6 (hx5).lt;have q6_29:w6.cell? ⟨W.heap.size,29,none⟩=some (.int .i64 t.bmax):=(hx6.cell 29).trans t29;have q6_30:w6.cell? ⟨W.heap.size,30,none⟩=some ((.slice bA bn bc)):=(hx6.cell 30).trans t30;have HC6:=hid (H6.out _ HB6.out))
  | ((with_reducible refine HC6.out.mono ?_);rintro e w7 ⟨rfl,hb7⟩;have HB7:=hid (HB6.out.trans (hb7.mono HB6.out.size));have hx7:=(hx6).below hb7 (hx6).lt;have q7_31:w7.cell? ⟨W.heap.size,31,none⟩=some (.string t.title):=(hx7.cell 31).trans t31;have HC7:=hid (H7.out _ HB7.out))
  | ((with_reducible refine HC7.out.mono ?_);rintro e w8 ⟨rfl,hb8⟩;have HB8:=hid (HB7.out.trans (hb8.mono HB7.out.size))))
 go_ret
 exact⟨rfl,HB8.out⟩
set_option maxHeartbeats 4000000
set_option maxRecDepth 100000
theorem tm_right (t : Tm) (vg vm vp vb : Value) (lg lm lb : List (Ln × Value)) (W : World) (hin : TmIn W t vg vm vp vb lg lm lb) (sg : Sm lg) (sm : Sm lm) (sb : Sm lb) (hp : t.pa.params.length ≤ 1000000) (hz : t.pa.pend.size ≤ 1000000) (ht : t.title.size ≤ 1000000) (hT : Tab W) (hW : TabW W) :
  Calls Tryz.prog 14 #[.agg (t.cells vg vm vp vb)] W fun e w'=>e=.returned (.bool (rightT t))∧Below W.heap.size W w':=by
 rw[← rgB_right hin]
 obtain⟨gA,gc,rfl⟩:=hin.g.spell
 obtain⟨mA,mc,rfl⟩:=hin.m.spell
 obtain⟨bA,bc,rfl⟩:=hin.b.spell
 obtain⟨pA,pc,hpv,_⟩:=id hin.p
 subst hpv
 have H0:∀ W':World,Below W.heap.size W W'→Calls Tryz.prog 41 #[.agg (t.cells (.slice gA lg.length gc) (.slice mA lm.length mc) (.slice pA t.pa.params.length pc) (.slice bA lb.length bc))] W' fun e w'=>e=.returned (.bool (qdm t lg lm))∧Below W'.heap.size W' w':=fun W' hb=>tm_grids t gA mA _ gc _ mc _ _ lg lm W' (hin.g.below hb) (hin.gc.below hb) sg (hin.m.below hb) (hin.mc.below hb) sm (hT.below hb) (hW.below hb) rfl rfl
 have H2:∀ W':World,Below W.heap.size W W'→Calls Tryz.prog 43 #[.agg (t.cells (.slice gA lg.length gc) (.slice mA lm.length mc) (.slice pA t.pa.params.length pc) (.slice bA lb.length bc))] W' fun e w'=>e=.returned (.bool (qbu t lg.length))∧Below W'.heap.size W' w':=fun W' _=>tm_region t gA _ gc _ _ _ W'
 have H3:∀ W':World,Below W.heap.size W W'→Calls Tryz.prog 44 #[.agg #[.int .i64 t.sv.row,.int .i64 t.sv.col,.int .i64 t.sv.lk.fg,.int .i64 t.sv.lk.bg,.int .i64 t.sv.lk.fl,.bool t.sv.og]] W' fun e w'=>e=.returned (.bool (qdt t.sv))∧Below W'.heap.size W' w':=fun W' _=>tm_saved t.sv W'
 have H4:∀ W':World,Below W.heap.size W W'→Calls Tryz.prog 45 #[.agg #[.int .i64 t.lk.fg,.int .i64 t.lk.bg,.int .i64 t.lk.fl]] W' fun e w'=>e=.returned (.bool (qab t.lk))∧Below W'.heap.size W' w':=fun W' _=>qcv t.lk W'
 have H5:∀ W':World,Below W.heap.size W W'→Calls Tryz.prog 46 #[.agg #[.int .i64 t.pa.st,.int .i64 t.pa.priv,.slice pA t.pa.params.length pc,.int .i64 t.pa.inter,.string t.pa.osc,.string t.pa.pend]] W' fun e w'=>e=.returned (.bool (qap t.pa))∧Below W'.heap.size W' w':=fun W' hb=>qky t.pa _ W' (hT.below hb) (hin.p.below hb) hp hz
 have H6:∀ W':World,Below W.heap.size W W'→Calls Tryz.prog 47 #[.agg #[.int .i64 t.bmax,.slice bA lb.length bc]] W' fun e w'=>e=.returned (.bool (qdn t.bmax lb))∧Below W'.heap.size W' w':=fun W' hb=>qjb t.bmax _ lb W' (hin.b.below hb) (hin.bc.below hb) sb (hT.below hb) (hW.below hb)
 have H7:∀ W':World,Below W.heap.size W W'→Calls Tryz.prog 48 #[.string t.title] W' fun e w'=>e=.returned (.bool (qea t.title))∧Below W'.heap.size W' w':=fun W' hb=>qc8 t.title W' ht (hT.below hb)
 unfold rgB
 cases b0:qdm t lg lm
 ·rw[b0] at H0
  exact tm_rw0 _ rfl W (hid H0)
 ·rw[b0] at H0
  have hb1 : (1 ≤ t.g.cols ∧ t.g.cols ≤ 80) ∧ lg.length ≤ 50 := by
     have h1:=b0
     unfold qdm at h1
     have h2:=(Bool.and_eq_true_iff.1 h1).1
     rw[qju] at h2
     obtain⟨q1,q2,q3,q4⟩:=qd h2
     rw[List.length_map] at q4
     exact⟨⟨q1,q2⟩,q4⟩
  have H1:∀ W':World,Below W.heap.size W W'→Calls Tryz.prog 42 #[.agg (t.cells (.slice gA lg.length gc) (.slice mA lm.length mc) (.slice pA t.pa.params.length pc) (.slice bA lb.length bc))] W' fun e w'=>e=.returned (.bool (qb9 t lg.length))∧Below W'.heap.size W' w':=fun W' _=>tm_place t gA _ gc _ _ _ W' hb1.1 hb1.2
  cases b1:qb9 t lg.length
  ·rw[b1] at H1
   exact tm_rw1 _ rfl W (hid H0) (hid H1)
  ·rw[b1] at H1
   cases b2:qbu t lg.length
   ·rw[b2] at H2
    exact tm_rw2 _ rfl W (hid H0) (hid H1) (hid H2)
   ·rw[b2] at H2
    cases b3:qdt t.sv
    ·rw[b3] at H3
     exact tm_rw3 t _ rfl W (hid H0) (hid H1) (hid H2) (hid H3) rfl rfl rfl rfl rfl rfl
    ·rw[b3] at H3
     cases b4:qab t.lk
     ·rw[b4] at H4
      exact tm_rw4 t _ rfl W (hid H0) (hid H1) (hid H2) (hid H3) (hid H4) rfl rfl rfl rfl rfl rfl rfl rfl rfl
     ·rw[b4] at H4
      cases b5:qap t.pa
      ·rw[b5] at H5
       exact tm_rw5 t pA _ pc _ rfl W (hid H0) (hid H1) (hid H2) (hid H3) (hid H4) (hid H5) rfl rfl rfl rfl rfl rfl rfl rfl rfl rfl rfl rfl rfl rfl rfl
      ·rw[b5] at H5
       cases b6:qdn t.bmax lb
       ·rw[b6] at H6
        exact tm_rw6 t pA _ pc bA _ bc _ rfl W (hid H0) (hid H1) (hid H2) (hid H3) (hid H4) (hid H5) (hid H6) rfl rfl rfl rfl rfl rfl rfl rfl rfl rfl rfl rfl rfl rfl rfl rfl rfl
       ·rw[b6] at H6
        cases b7:qea t.title
        ·rw[b7] at H7
         exact tm_rw7 t pA _ pc bA _ bc _ rfl W (hid H0) (hid H1) (hid H2) (hid H3) (hid H4) (hid H5) (hid H6) (hid H7) rfl rfl rfl rfl rfl rfl rfl rfl rfl rfl rfl rfl rfl rfl rfl rfl rfl rfl
        ·rw[b7] at H7
         exact tm_rw8 t pA _ pc bA _ bc _ rfl W (hid H0) (hid H1) (hid H2) (hid H3) (hid H4) (hid H5) (hid H6) (hid H7) rfl rfl rfl rfl rfl rfl rfl rfl rfl rfl rfl rfl rfl rfl rfl rfl rfl rfl
end Go.Proofs.YtpdaekmbpafenaaGreatDoor
