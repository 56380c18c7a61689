
import Derived.Test.YtpdaekmbpafenaaGreatDoorTermFQ
import Derived.Test.YtpdaekmbpafenaaGreatDoorCellYaQ
import Derived.IntWalk
import Derived.Test.YtpdaekmbpafenaaGreatDoorTermKQ
import Derived.Test.YtpdaekmbpafenaaGreatDoorTermWQ
namespace Go.Proofs.YtpdaekmbpafenaaGreatDoor
set_option maxHeartbeats 2000000
set_option maxRecDepth 100000
open Go.RowKit
section
variable {M:World→Value→Prop} {b:Nat} {mv:Value} {t:Tm} {W:World}
def ParsOk (l:List Int):Prop:=l.length≤1000∧∀ n∈l,0≤n∧n≤9999
theorem ParsOk.at {l:List Int} (h:ParsOk l) (i:Nat):0≤qp l i∧qp l i≤9999:=by
 unfold qp
 cases hx:l[i]? with
 | none=>show (0:Int)≤0∧(0:Int)≤9999;omega
 | some n=>exact h.2 n (List.mem_of_getElem? hx)
theorem ParsOk.num {l:List Int} (h:ParsOk l) (i:Nat):1≤orI (qp l i) 1∧orI (qp l i) 1≤9999:=by
 have:=h.at i
 unfold orI
 split <;> omega
theorem qcm {d:Dn} (h:ParsOk d.params) (i:Nat) (s:Int):qf9 d i s=orI (qp d.params i) s:=by
 unfold qf9 orI qp
 cases hx:d.params[i]? with
 | none=>simp
 | some n =>
  have h1:=(h.2 n (List.mem_of_getElem? hx)).1
  simp only[Option.getD_some]
  by_cases h2:n=0
  ·rw[if_pos h2,if_neg (by omega)]
  ·rw[if_neg h2,if_pos (by omega)]
theorem num_zero {d:Dn} (h:ParsOk d.params) (i:Nat):qf9 d i 0=qp d.params i:=by
 rw[qcm h]
 unfold orI
 split
 ·rename_i e;exact e.symm
 ·rfl
structure MS (M:World→Value→Prop) (b:Nat) (mv:Value) (t:Tm) (W:World) (v:Value) (l:List Int) (w':World):Prop where
 at_:TAt M b mv t w'
 but:But b W w'
 row:IRow w' v l
theorem MS.below {v:Value} {l:List Int} {w w':World} (h:MS M b mv t W v l w) (hb:Below w.heap.size w w'):MS M b mv t W v l w':=⟨h.at_.below hb,h.but.trans (But.of_below hb),h.row.below hb⟩
theorem MS.start (h:TAt M b mv t W) {v:Value} {l:List Int} (hp:IRow W v l):MS M b mv t W v l W.drew:=⟨h.drew,(But.refl b W).drew,hp.below (qf W 1)⟩
theorem MS.start0 (h:TAt M b mv t W) {v:Value} {l:List Int} (hp:IRow W v l):MS M b mv t W v l W:=⟨h,But.refl b W,hp⟩
def Does (f:Nat) (g:Tm→List Int→Tm):Prop :=
 ∀ (M:World→Value→Prop) (b:Nat) (mv:Value) (t:Tm) (W:World) (v:Value) (l:List Int),TAt M b mv t W→WellT t→IRow W v l→((l≠[]→qcq b v)∧qgv v)→ParsOk l →
  Calls Tryz.prog f #[.pointer (some ⟨b,0,none⟩),v] W (qu M b mv W (g t l))
end
section
theorem up_does:Does 77 (fun t l=>qas t (qh7 t (orI (qp l 0) 1)) t.col):=by
 intro M b mv t W v l h hr hp _ hl
 have hn:=hl.1
 have hg:=hr.g
 have hx:=hl.num 0
 have hr0:=hr.row0
 have hr1:t.row≤49:=by have:=hr.row1;have:=qd hr.g;omega
 have hc0:=hr.col0
 have hc1:t.col≤79:=by have:=hr.col1;have:=qd hr.g;omega
 have ht0:=hr.top0
 have ht1:t.top≤49:=by have:=hr.tb;have:=hr.bot1;have:=qd hr.g;omega
 have hb0:0≤t.bot:=by have:=hr.tb;omega
 have hb1:t.bot≤49:=by have:=hr.bot1;have:=qd hr.g;omega
 have HS:=hid (MS.start h hp)
 clear h hp hr
 go_enter Tryz.func77,Tryz.ntmps77
 go_wp2_with fail
 have hS0:=HS.out
 clear HS
 refine qh (qcy 10 (fun w'=>MS M b mv t W v l w')) (by kernel_rfl) ?_
 refine tN 0 (fun _=>hS0) ?_
 refine tN 1 (fun _=>hS0) ?_
 refine tN 2 (fun _=>hS0) ?_
 refine tN 5 (fun _=>hS0) ?_
 refine tN 6 (fun _=>hS0) ?_
 refine tN 7 (fun _=>hS0) ?_
 refine tN 8 (fun _=>hS0) ?_
 refine tG 9 (fun _=>hS0) ?_ (hy:=fun w' hw'=>by have k5:=hw'.at_.c_row.1;have k6:=hw'.at_.c_col.1;have k7:=hw'.at_.c_top.1;have k0:=hw'.at_.c_cols.1;go_simp;try with_reducible rfl)
 refine qz (k:=3) (by kernel_rfl) rfl (by rfl) (fun K hK=>?_)
 go_simp
 go_at_call 151
 refine(qc9 v l hS0.row hn).mono ?_
 rintro e9 w9 ⟨rfl,hb⟩
 dsimp only
 have hS1:=hS0.below hb
 refine hK _ _ (fun _=>hS1) ?_
 clear hK K
 (try simp only[zT]);(try simp only[zA]);(try simp only[zS]);(try simp only[zZ])
 clear hS0 hb
 have hS0:=hS1
 clear hS1
 refine qz (k:=4) (by kernel_rfl) rfl (by rfl) (fun K hK=>?_)
 go_simp
 go_at_call 150
 refine(qjx hS0.at_ (orI (qp l 0) 1) (by omega) (by omega) (by omega)).mono ?_
 rintro e9 w9 ⟨rfl,hb⟩
 dsimp only
 have hS1:=hS0.below hb
 refine hK _ _ (fun _=>hS1) ?_
 clear hK K
 (try simp only[zT]);(try simp only[zA]);(try simp only[zS]);(try simp only[zZ])
 clear hS0 hb
 have hS0:=hS1
 clear hS1
 refine qz (k:=10) (by kernel_rfl) rfl (by rfl) (fun K hK=>?_)
 go_simp
 go_at_call 149
 refine(qaq hS0.at_ hg (qh7 t (orI (qp l 0) 1)) (t.col)).mono ?_
 rintro e9 w9 ⟨rfl,h1,h2⟩
 dsimp only
 have HB:=hid (hS0.but.trans h2)
 refine hK _ _ (fun h=>(by simp at h)) ?_
 clear hK K hS0 h2
 (try simp only[zT]);(try simp only[zA]);(try simp only[zS]);(try simp only[zZ])
 refine qal (by kernel_rfl) ?_ _
 go_wp2
 go_end0
 exact⟨rfl,h1,HB.out⟩
theorem down_does:Does 78 (fun t l=>qas t (qh8 t (orI (qp l 0) 1)) t.col):=by
 intro M b mv t W v l h hr hp _ hl
 have hn:=hl.1
 have hg:=hr.g
 have hx:=hl.num 0
 have hr0:=hr.row0
 have hr1:t.row≤49:=by have:=hr.row1;have:=qd hr.g;omega
 have hc0:=hr.col0
 have hc1:t.col≤79:=by have:=hr.col1;have:=qd hr.g;omega
 have ht0:=hr.top0
 have ht1:t.top≤49:=by have:=hr.tb;have:=hr.bot1;have:=qd hr.g;omega
 have hb0:0≤t.bot:=by have:=hr.tb;omega
 have hb1:t.bot≤49:=by have:=hr.bot1;have:=qd hr.g;omega
 have HS:=hid (MS.start h hp)
 clear h hp hr
 go_enter Tryz.func78,Tryz.ntmps78
 go_wp2_with fail
 have hS0:=HS.out
 clear HS
 refine qh (qcy 10 (fun w'=>MS M b mv t W v l w')) (by kernel_rfl) ?_
 refine tN 0 (fun _=>hS0) ?_
 refine tN 1 (fun _=>hS0) ?_
 refine tN 2 (fun _=>hS0) ?_
 refine tN 5 (fun _=>hS0) ?_
 refine tN 6 (fun _=>hS0) ?_
 refine tN 7 (fun _=>hS0) ?_
 refine tN 8 (fun _=>hS0) ?_
 refine tG 9 (fun _=>hS0) ?_ (hy:=fun w' hw'=>by have k5:=hw'.at_.c_row.1;have k6:=hw'.at_.c_col.1;have k7:=hw'.at_.c_top.1;have k0:=hw'.at_.c_cols.1;go_simp;try with_reducible rfl)
 refine qz (k:=3) (by kernel_rfl) rfl (by rfl) (fun K hK=>?_)
 go_simp
 go_at_call 151
 refine(qc9 v l hS0.row hn).mono ?_
 rintro e9 w9 ⟨rfl,hb⟩
 dsimp only
 have hS1:=hS0.below hb
 refine hK _ _ (fun _=>hS1) ?_
 clear hK K
 (try simp only[zT]);(try simp only[zA]);(try simp only[zS]);(try simp only[zZ])
 clear hS0 hb
 have hS0:=hS1
 clear hS1
 refine qz (k:=4) (by kernel_rfl) rfl (by rfl) (fun K hK=>?_)
 go_simp
 go_at_call 152
 refine(qjy hS0.at_ (orI (qp l 0) 1) (by omega) (by omega) (by omega)).mono ?_
 rintro e9 w9 ⟨rfl,hb⟩
 dsimp only
 have hS1:=hS0.below hb
 refine hK _ _ (fun _=>hS1) ?_
 clear hK K
 (try simp only[zT]);(try simp only[zA]);(try simp only[zS]);(try simp only[zZ])
 clear hS0 hb
 have hS0:=hS1
 clear hS1
 refine qz (k:=10) (by kernel_rfl) rfl (by rfl) (fun K hK=>?_)
 go_simp
 go_at_call 149
 refine(qaq hS0.at_ hg (qh8 t (orI (qp l 0) 1)) (t.col)).mono ?_
 rintro e9 w9 ⟨rfl,h1,h2⟩
 dsimp only
 have HB:=hid (hS0.but.trans h2)
 refine hK _ _ (fun h=>(by simp at h)) ?_
 clear hK K hS0 h2
 (try simp only[zT]);(try simp only[zA]);(try simp only[zS]);(try simp only[zZ])
 refine qal (by kernel_rfl) ?_ _
 go_wp2
 go_end0
 exact⟨rfl,h1,HB.out⟩
theorem right_does:Does 79 (fun t l=>qas t t.row (t.col+(orI (qp l 0) 1))):=by
 intro M b mv t W v l h hr hp _ hl
 have hn:=hl.1
 have hg:=hr.g
 have hx:=hl.num 0
 have hr0:=hr.row0
 have hr1:t.row≤49:=by have:=hr.row1;have:=qd hr.g;omega
 have hc0:=hr.col0
 have hc1:t.col≤79:=by have:=hr.col1;have:=qd hr.g;omega
 have ht0:=hr.top0
 have ht1:t.top≤49:=by have:=hr.tb;have:=hr.bot1;have:=qd hr.g;omega
 have hb0:0≤t.bot:=by have:=hr.tb;omega
 have hb1:t.bot≤49:=by have:=hr.bot1;have:=qd hr.g;omega
 have HS:=hid (MS.start h hp)
 have hwr:IntKind.i64.wrap (t.col+(orI (qp l 0) 1))=t.col+(orI (qp l 0) 1):=IntWalk.i64_in _ (by omega)
 clear h hp hr
 go_enter Tryz.func79,Tryz.ntmps79
 go_wp2_with fail
 have hS0:=HS.out
 clear HS
 refine qh (qcy 14 (fun w'=>MS M b mv t W v l w')) (by kernel_rfl) ?_
 refine tN 0 (fun _=>hS0) ?_
 refine tN 1 (fun _=>hS0) ?_
 refine tN 2 (fun _=>hS0) ?_
 refine tN 3 (fun _=>hS0) ?_
 refine tN 4 (fun _=>hS0) ?_
 refine tG 5 (fun _=>hS0) ?_ (hy:=fun w' hw'=>by have k5:=hw'.at_.c_row.1;have k6:=hw'.at_.c_col.1;have k7:=hw'.at_.c_top.1;have k0:=hw'.at_.c_cols.1;go_simp;try with_reducible rfl)
 refine tN 6 (fun _=>hS0) ?_
 refine tN 7 (fun _=>hS0) ?_
 refine tN 8 (fun _=>hS0) ?_
 refine tN 9 (fun _=>hS0) ?_
 refine tG 10 (fun _=>hS0) ?_ (hy:=fun w' hw'=>by have k5:=hw'.at_.c_row.1;have k6:=hw'.at_.c_col.1;have k7:=hw'.at_.c_top.1;have k0:=hw'.at_.c_cols.1;go_simp;try with_reducible rfl)
 refine tN 11 (fun _=>hS0) ?_
 refine qz (k:=12) (by kernel_rfl) rfl (by rfl) (fun K hK=>?_)
 go_simp
 go_at_call 151
 refine(qc9 v l hS0.row hn).mono ?_
 rintro e9 w9 ⟨rfl,hb⟩
 dsimp only
 have hS1:=hS0.below hb
 refine hK _ _ (fun _=>hS1) ?_
 clear hK K
 (try simp only[zT]);(try simp only[zA]);(try simp only[zS]);(try simp only[zZ])
 clear hS0 hb
 have hS0:=hS1
 clear hS1
 refine tN 13 (fun _=>hS0) ?_
 refine qz (k:=14) (by kernel_rfl) rfl (by rfl) (fun K hK=>?_)
 go_simp
 go_at_call 149
 refine(qaq hS0.at_ hg (t.row) (t.col+(orI (qp l 0) 1))).mono ?_
 rintro e9 w9 ⟨rfl,h1,h2⟩
 dsimp only
 have HB:=hid (hS0.but.trans h2)
 refine hK _ _ (fun h=>(by simp at h)) ?_
 clear hK K hS0 h2
 (try simp only[zT]);(try simp only[zA]);(try simp only[zS]);(try simp only[zZ])
 refine qal (by kernel_rfl) ?_ _
 go_wp2
 go_end0
 exact⟨rfl,h1,HB.out⟩
theorem left_does:Does 80 (fun t l=>qas t t.row (t.col - (orI (qp l 0) 1))):=by
 intro M b mv t W v l h hr hp _ hl
 have hn:=hl.1
 have hg:=hr.g
 have hx:=hl.num 0
 have hr0:=hr.row0
 have hr1:t.row≤49:=by have:=hr.row1;have:=qd hr.g;omega
 have hc0:=hr.col0
 have hc1:t.col≤79:=by have:=hr.col1;have:=qd hr.g;omega
 have ht0:=hr.top0
 have ht1:t.top≤49:=by have:=hr.tb;have:=hr.bot1;have:=qd hr.g;omega
 have hb0:0≤t.bot:=by have:=hr.tb;omega
 have hb1:t.bot≤49:=by have:=hr.bot1;have:=qd hr.g;omega
 have HS:=hid (MS.start h hp)
 have hwr:IntKind.i64.wrap (t.col - (orI (qp l 0) 1))=t.col - (orI (qp l 0) 1):=IntWalk.i64_in _ (by omega)
 clear h hp hr
 go_enter Tryz.func80,Tryz.ntmps80
 go_wp2_with fail
 have hS0:=HS.out
 clear HS
 refine qh (qcy 14 (fun w'=>MS M b mv t W v l w')) (by kernel_rfl) ?_
 refine tN 0 (fun _=>hS0) ?_
 refine tN 1 (fun _=>hS0) ?_
 refine tN 2 (fun _=>hS0) ?_
 refine tN 3 (fun _=>hS0) ?_
 refine tN 4 (fun _=>hS0) ?_
 refine tG 5 (fun _=>hS0) ?_ (hy:=fun w' hw'=>by have k5:=hw'.at_.c_row.1;have k6:=hw'.at_.c_col.1;have k7:=hw'.at_.c_top.1;have k0:=hw'.at_.c_cols.1;go_simp;try with_reducible rfl)
 refine tN 6 (fun _=>hS0) ?_
 refine tN 7 (fun _=>hS0) ?_
 refine tN 8 (fun _=>hS0) ?_
 refine tN 9 (fun _=>hS0) ?_
 refine tG 10 (fun _=>hS0) ?_ (hy:=fun w' hw'=>by have k5:=hw'.at_.c_row.1;have k6:=hw'.at_.c_col.1;have k7:=hw'.at_.c_top.1;have k0:=hw'.at_.c_cols.1;go_simp;try with_reducible rfl)
 refine tN 11 (fun _=>hS0) ?_
 refine qz (k:=12) (by kernel_rfl) rfl (by rfl) (fun K hK=>?_)
 go_simp
 go_at_call 151
 refine(qc9 v l hS0.row hn).mono ?_
 rintro e9 w9 ⟨rfl,hb⟩
 dsimp only
 have hS1:=hS0.below hb
 refine hK _ _ (fun _=>hS1) ?_
 clear hK K
 (try simp only[zT]);(try simp only[zA]);(try simp only[zS]);(try simp only[zZ])
 clear hS0 hb
 have hS0:=hS1
 clear hS1
 refine tN 13 (fun _=>hS0) ?_
 refine qz (k:=14) (by kernel_rfl) rfl (by rfl) (fun K hK=>?_)
 go_simp
 go_at_call 149
 refine(qaq hS0.at_ hg (t.row) (t.col - (orI (qp l 0) 1))).mono ?_
 rintro e9 w9 ⟨rfl,h1,h2⟩
 dsimp only
 have HB:=hid (hS0.but.trans h2)
 refine hK _ _ (fun h=>(by simp at h)) ?_
 clear hK K hS0 h2
 (try simp only[zT]);(try simp only[zA]);(try simp only[zS]);(try simp only[zZ])
 refine qal (by kernel_rfl) ?_ _
 go_wp2
 go_end0
 exact⟨rfl,h1,HB.out⟩
theorem toCol_does:Does 83 (fun t l=>qas t t.row ((orI (qp l 0) 1) - 1)):=by
 intro M b mv t W v l h hr hp _ hl
 have hn:=hl.1
 have hg:=hr.g
 have hx:=hl.num 0
 have hr0:=hr.row0
 have hr1:t.row≤49:=by have:=hr.row1;have:=qd hr.g;omega
 have hc0:=hr.col0
 have hc1:t.col≤79:=by have:=hr.col1;have:=qd hr.g;omega
 have ht0:=hr.top0
 have ht1:t.top≤49:=by have:=hr.tb;have:=hr.bot1;have:=qd hr.g;omega
 have hb0:0≤t.bot:=by have:=hr.tb;omega
 have hb1:t.bot≤49:=by have:=hr.bot1;have:=qd hr.g;omega
 have HS:=hid (MS.start h hp)
 have hwr:IntKind.i64.wrap ((orI (qp l 0) 1) - 1)=(orI (qp l 0) 1) - 1:=IntWalk.i64_in _ (by omega)
 clear h hp hr
 go_enter Tryz.func83,Tryz.ntmps83
 go_wp2_with fail
 have hS0:=HS.out
 clear HS
 refine qh (qcy 9 (fun w'=>MS M b mv t W v l w')) (by kernel_rfl) ?_
 refine tN 0 (fun _=>hS0) ?_
 refine tN 1 (fun _=>hS0) ?_
 refine tN 2 (fun _=>hS0) ?_
 refine tN 3 (fun _=>hS0) ?_
 refine tN 4 (fun _=>hS0) ?_
 refine tG 5 (fun _=>hS0) ?_ (hy:=fun w' hw'=>by have k5:=hw'.at_.c_row.1;have k6:=hw'.at_.c_col.1;have k7:=hw'.at_.c_top.1;have k0:=hw'.at_.c_cols.1;go_simp;try with_reducible rfl)
 refine tN 6 (fun _=>hS0) ?_
 refine qz (k:=7) (by kernel_rfl) rfl (by rfl) (fun K hK=>?_)
 go_simp
 go_at_call 151
 refine(qc9 v l hS0.row hn).mono ?_
 rintro e9 w9 ⟨rfl,hb⟩
 dsimp only
 have hS1:=hS0.below hb
 refine hK _ _ (fun _=>hS1) ?_
 clear hK K
 (try simp only[zT]);(try simp only[zA]);(try simp only[zS]);(try simp only[zZ])
 clear hS0 hb
 have hS0:=hS1
 clear hS1
 refine tN 8 (fun _=>hS0) ?_
 refine qz (k:=9) (by kernel_rfl) rfl (by rfl) (fun K hK=>?_)
 go_simp
 go_at_call 149
 refine(qaq hS0.at_ hg (t.row) ((orI (qp l 0) 1) - 1)).mono ?_
 rintro e9 w9 ⟨rfl,h1,h2⟩
 dsimp only
 have HB:=hid (hS0.but.trans h2)
 refine hK _ _ (fun h=>(by simp at h)) ?_
 clear hK K hS0 h2
 (try simp only[zT]);(try simp only[zA]);(try simp only[zS]);(try simp only[zZ])
 refine qal (by kernel_rfl) ?_ _
 go_wp2
 go_end0
 exact⟨rfl,h1,HB.out⟩
theorem toRow_does:Does 85 (fun t l=>qas t (rowT t (orI (qp l 0) 1)) t.col):=by
 intro M b mv t W v l h hr hp _ hl
 have hn:=hl.1
 have hg:=hr.g
 have hx:=hl.num 0
 have hr0:=hr.row0
 have hr1:t.row≤49:=by have:=hr.row1;have:=qd hr.g;omega
 have hc0:=hr.col0
 have hc1:t.col≤79:=by have:=hr.col1;have:=qd hr.g;omega
 have ht0:=hr.top0
 have ht1:t.top≤49:=by have:=hr.tb;have:=hr.bot1;have:=qd hr.g;omega
 have hb0:0≤t.bot:=by have:=hr.tb;omega
 have hb1:t.bot≤49:=by have:=hr.bot1;have:=qd hr.g;omega
 have HS:=hid (MS.start h hp)
 clear h hp hr
 go_enter Tryz.func85,Tryz.ntmps85
 go_wp2_with fail
 have hS0:=HS.out
 clear HS
 refine qh (qcy 9 (fun w'=>MS M b mv t W v l w')) (by kernel_rfl) ?_
 refine tN 0 (fun _=>hS0) ?_
 refine tN 1 (fun _=>hS0) ?_
 refine tN 2 (fun _=>hS0) ?_
 refine tN 4 (fun _=>hS0) ?_
 refine tN 5 (fun _=>hS0) ?_
 refine tN 6 (fun _=>hS0) ?_
 refine tN 7 (fun _=>hS0) ?_
 refine tG 8 (fun _=>hS0) ?_ (hy:=fun w' hw'=>by have k5:=hw'.at_.c_row.1;have k6:=hw'.at_.c_col.1;have k7:=hw'.at_.c_top.1;have k0:=hw'.at_.c_cols.1;go_simp;try with_reducible rfl)
 refine qz (k:=3) (by kernel_rfl) rfl (by rfl) (fun K hK=>?_)
 go_simp
 go_at_call 153
 refine(rowOf_any hS0.at_ v l hS0.row hn (by have:=hl.at 0;omega) (by omega) (by omega)).mono ?_
 rintro e9 w9 ⟨rfl,hb⟩
 dsimp only
 have hS1:=hS0.below hb
 refine hK _ _ (fun _=>hS1) ?_
 clear hK K
 (try simp only[zT]);(try simp only[zA]);(try simp only[zS]);(try simp only[zZ])
 clear hS0 hb
 have hS0:=hS1
 clear hS1
 refine qz (k:=9) (by kernel_rfl) rfl (by rfl) (fun K hK=>?_)
 go_simp
 go_at_call 149
 refine(qaq hS0.at_ hg (rowT t (orI (qp l 0) 1)) (t.col)).mono ?_
 rintro e9 w9 ⟨rfl,h1,h2⟩
 dsimp only
 have HB:=hid (hS0.but.trans h2)
 refine hK _ _ (fun h=>(by simp at h)) ?_
 clear hK K hS0 h2
 (try simp only[zT]);(try simp only[zA]);(try simp only[zS]);(try simp only[zZ])
 refine qal (by kernel_rfl) ?_ _
 go_wp2
 go_end0
 exact⟨rfl,h1,HB.out⟩
theorem nextLine_does:Does 81 (fun t l=>qas t (qh8 t (orI (qp l 0) 1)) 0):=by
 intro M b mv t W v l h hr hp _ hl
 have hn:=hl.1
 have hx:=hl.num 0
 have hr0:=hr.row0
 have hr1:t.row≤49:=by have:=hr.row1;have:=qd hr.g;omega
 have ht0:=hr.top0
 have ht1:t.top≤49:=by have:=hr.tb;have:=hr.bot1;have:=qd hr.g;omega
 have hb0:0≤t.bot:=by have:=hr.tb;omega
 have hb1:t.bot≤49:=by have:=hr.bot1;have:=qd hr.g;omega
 have HG:=hid hr.g
 have HS:=hid (MS.start0 h hp)
 clear h hp hr
 go_enter Tryz.func81,Tryz.ntmps81
 have HC:=hid (qc9 v l HS.out.row hn)
 go_wp2_with fail
 with_reducible refine HC.out.mono ?_
 rintro e wn ⟨rfl,hb⟩
 dsimp only
 have HS1:=hid (HS.out.below hb)
 clear HS HC hb
 have HS:=HS1
 clear HS1
 have HC:=hid (qjy HS.out.at_ (orI (qp l 0) 1) (by omega) (by omega) (by omega))
 go_wp2_with fail
 with_reducible refine HC.out.mono ?_
 rintro e wn ⟨rfl,hb⟩
 dsimp only
 have HS1:=hid (HS.out.below hb)
 clear HS HC hb
 have HS:=HS1
 clear HS1
 have HC:=hid (qaq HS.out.at_ HG.out (qh8 t (orI (qp l 0) 1)) 0)
 go_wp2_with fail
 with_reducible refine HC.out.mono ?_
 rintro e wn ⟨rfl,h1,h2⟩
 dsimp only
 have HB:=hid (HS.out.but.trans h2)
 clear HS HC h2
 go_wp2
 go_end0
 exact⟨rfl,h1,HB.out⟩
theorem lineAhead_does:Does 82 (fun t l=>qas t (qh7 t (orI (qp l 0) 1)) 0):=by
 intro M b mv t W v l h hr hp _ hl
 have hn:=hl.1
 have hx:=hl.num 0
 have hr0:=hr.row0
 have hr1:t.row≤49:=by have:=hr.row1;have:=qd hr.g;omega
 have ht0:=hr.top0
 have ht1:t.top≤49:=by have:=hr.tb;have:=hr.bot1;have:=qd hr.g;omega
 have hb0:0≤t.bot:=by have:=hr.tb;omega
 have hb1:t.bot≤49:=by have:=hr.bot1;have:=qd hr.g;omega
 have HG:=hid hr.g
 have HS:=hid (MS.start0 h hp)
 clear h hp hr
 go_enter Tryz.func82,Tryz.ntmps82
 have HC:=hid (qc9 v l HS.out.row hn)
 go_wp2_with fail
 with_reducible refine HC.out.mono ?_
 rintro e wn ⟨rfl,hb⟩
 dsimp only
 have HS1:=hid (HS.out.below hb)
 clear HS HC hb
 have HS:=HS1
 clear HS1
 have HC:=hid (qjx HS.out.at_ (orI (qp l 0) 1) (by omega) (by omega) (by omega))
 go_wp2_with fail
 with_reducible refine HC.out.mono ?_
 rintro e wn ⟨rfl,hb⟩
 dsimp only
 have HS1:=hid (HS.out.below hb)
 clear HS HC hb
 have HS:=HS1
 clear HS1
 have HC:=hid (qaq HS.out.at_ HG.out (qh7 t (orI (qp l 0) 1)) 0)
 go_wp2_with fail
 with_reducible refine HC.out.mono ?_
 rintro e wn ⟨rfl,h1,h2⟩
 dsimp only
 have HB:=hid (HS.out.but.trans h2)
 clear HS HC h2
 go_wp2
 go_end0
 exact⟨rfl,h1,HB.out⟩
theorem toPlace_does:Does 84 (fun t l=>qas t (rowT t (orI (qp l 0) 1)) (orI (qp l 1) 1 - 1)):=by
 intro M b mv t W v l h hr hp _ hl
 have hn:=hl.1
 have hx:=hl.num 0
 have hr0:=hr.row0
 have hr1:t.row≤49:=by have:=hr.row1;have:=qd hr.g;omega
 have ht0:=hr.top0
 have ht1:t.top≤49:=by have:=hr.tb;have:=hr.bot1;have:=qd hr.g;omega
 have hb0:0≤t.bot:=by have:=hr.tb;omega
 have hb1:t.bot≤49:=by have:=hr.bot1;have:=qd hr.g;omega
 have HG:=hid hr.g
 have HS:=hid (MS.start0 h hp)
 have hx1:=hl.num 1
 clear h hp hr
 go_enter Tryz.func84,Tryz.ntmps84
 have HC:=hid (rowOf_any HS.out.at_ v l HS.out.row hn (by have:=hl.at 0;omega) (by omega) (by omega))
 go_wp2_with fail
 with_reducible refine HC.out.mono ?_
 rintro e wn ⟨rfl,hb⟩
 dsimp only
 have HS1:=hid (HS.out.below hb)
 clear HS HC hb
 have HS:=HS1
 clear HS1
 have HC:=hid (count1 v l HS.out.row hn)
 go_wp2_with fail
 with_reducible refine HC.out.mono ?_
 rintro e wn ⟨rfl,hb⟩
 dsimp only
 have HS1:=hid (HS.out.below hb)
 clear HS HC hb
 have HS:=HS1
 clear HS1
 have HC:=hid (qaq HS.out.at_ HG.out (rowT t (orI (qp l 0) 1)) (orI (qp l 1) 1 - 1))
 go_wp2_with fail
 with_reducible refine HC.out.mono ?_
 rintro e wn ⟨rfl,h1,h2⟩
 dsimp only
 have HB:=hid (HS.out.but.trans h2)
 clear HS HC h2
 go_wp2
 go_end0
 exact⟨rfl,h1,HB.out⟩
end
set_option maxHeartbeats 2000000
set_option maxRecDepth 100000
section
variable {M:World→Value→Prop} {b:Nat} {mv:Value} {t:Tm} {W:World}
theorem WellT.grid {t:Tm} (h:WellT t) {ls:List Ln} (hg:qm ⟨t.g.cols,ls⟩=true) (hl:ls.length=t.g.ls.length):WellT { t with g:=⟨t.g.cols,ls⟩ } :=
 ⟨hg,h.row0,by show t.row < ls.length;rw[hl];exact h.row1,h.col0,h.col1,h.top0,h.tb,by show t.bot < ls.length;rw[hl];exact h.bot1,h.lk,h.bk⟩
theorem WellT.erase {t:Tm} (h:WellT t) {row fr tt:Int} (h0:0≤row) (h1:row < t.g.ls.length) (hf:0≤fr) (ht:fr≤tt) (hc:tt≤t.g.cols):WellT (qdl t row fr tt):=by
 have hl:(qe0 t.g.ls row fr tt t.lk).length=t.g.ls.length:=by unfold qe0;rw[List.length_set]
 exact h.grid (qlr h.g h0 h1 hf ht hc h.lk) hl
theorem WellT.soft {t:Tm} (h:WellT t) {row:Int} (h0:0≤row) (h1:row < t.g.ls.length) (s:Bool):WellT { t with g:=⟨t.g.cols,qci t.g.ls row s⟩ }:=by
 have hl:(qci t.g.ls row s).length=t.g.ls.length:=by unfold qci;rw[List.length_set]
 exact h.grid (rg_soft h.g h0 h1 s) hl
def qdy (t:Tm) (row fr tt:Int):Tm:=if tt=t.g.cols then hardM (qdl t row fr tt) row else qdl t row fr tt
end
section
theorem eraseCells_does:Does 88 (fun t l=>{ qdl t t.row t.col (qe4 t.g.cols (t.col+(orI (qp l 0) 1))) with late:=false }):=by
 intro M b mv t W v l h hr hp _ hl
 dsimp only
 have hn:=hl.1
 have hx:=hl.num 0
 have hr0:=hr.row0
 have hr1:t.row≤49:=by have:=hr.row1;have:=qd hr.g;omega
 have hc0:=hr.col0
 have hc1:=hr.col1
 have hc2:=qd hr.g
 have HR:=hid hr
 have HS:=hid (MS.start h hp)
 have hwr:IntKind.i64.wrap (t.col+(orI (qp l 0) 1))=t.col+(orI (qp l 0) 1):=IntWalk.i64_in _ (by omega)
 obtain⟨X,hX⟩:∃ X,X=qe4 t.g.cols (t.col+(orI (qp l 0) 1)):=⟨_,rfl⟩
 have hX1:X=qe4 t.g.cols (t.col+(orI (qp l 0) 1)):=hX
 unfold qe4 at hX1
 rw[← hX]
 have hX2:t.col≤X∧X≤t.g.cols:=by rw[hX1];split <;> omega
 rcases (show (t.col+(orI (qp l 0) 1)≤t.g.cols∧X=t.col+(orI (qp l 0) 1))∨(¬ t.col+(orI (qp l 0) 1)≤t.g.cols∧X=t.g.cols) by rw[hX1];split <;> omega) with ⟨a1,a2⟩ | ⟨a1,a2⟩
 ·have HX2:=hid hX2
  have a3:¬ t.g.cols < t.col+(orI (qp l 0) 1):=by omega
  have hmin:(if t.g.cols < t.col+(orI (qp l 0) 1) then t.g.cols else t.col+(orI (qp l 0) 1))=t.col+(orI (qp l 0) 1):=if_neg a3
  clear hX hX1 hX2 h hp hr
  subst a2
  go_enter Tryz.func88,Tryz.ntmps88
  go_wp2_with fail
  have hS0:=HS.out
  clear HS
  refine qh (qcy 26 (fun w'=>MS M b mv t W v l w')) (by kernel_rfl) ?_
  refine tN 0 (fun _=>hS0) ?_
  refine tN 1 (fun _=>hS0) ?_
  refine tN 2 (fun _=>hS0) ?_
  refine tN 3 (fun _=>hS0) ?_
  refine tN 4 (fun _=>hS0) ?_
  refine tG 5 (fun _=>hS0) ?_ (hy:=fun w' hw'=>by have k5:=hw'.at_.c_row.1;have k6:=hw'.at_.c_col.1;have k7:=hw'.at_.c_top.1;have k0:=hw'.at_.c_cols.1;go_simp;try with_reducible rfl)
  refine tN 6 (fun _=>hS0) ?_
  refine tN 7 (fun _=>hS0) ?_
  refine tN 8 (fun _=>hS0) ?_
  refine tN 9 (fun _=>hS0) ?_
  refine tG 10 (fun _=>hS0) ?_ (hy:=fun w' hw'=>by have k5:=hw'.at_.c_row.1;have k6:=hw'.at_.c_col.1;have k7:=hw'.at_.c_top.1;have k0:=hw'.at_.c_cols.1;go_simp;try with_reducible rfl)
  refine tN 11 (fun _=>hS0) ?_
  refine tN 12 (fun _=>hS0) ?_
  refine tN 13 (fun _=>hS0) ?_
  refine tN 14 (fun _=>hS0) ?_
  refine tG 15 (fun _=>hS0) ?_ (hy:=fun w' hw'=>by have k5:=hw'.at_.c_row.1;have k6:=hw'.at_.c_col.1;have k7:=hw'.at_.c_top.1;have k0:=hw'.at_.c_cols.1;go_simp;try with_reducible rfl)
  refine tN 16 (fun _=>hS0) ?_
  refine tN 19 (fun _=>hS0) ?_
  refine tN 20 (fun _=>hS0) ?_
  refine tN 21 (fun _=>hS0) ?_
  refine tN 22 (fun _=>hS0) ?_
  refine tN 23 (fun _=>hS0) ?_
  refine tG 24 (fun _=>hS0) ?_ (hy:=fun w' hw'=>by have k5:=hw'.at_.c_row.1;have k6:=hw'.at_.c_col.1;have k7:=hw'.at_.c_top.1;have k0:=hw'.at_.c_cols.1;go_simp;try with_reducible rfl)
  refine qz (k:=17) (by kernel_rfl) rfl (by rfl) (fun K hK=>?_)
  go_simp
  go_at_call 151
  refine(qc9 v l hS0.row hn).mono ?_
  rintro e9 w9 ⟨rfl,hb⟩
  dsimp only
  have hS1:=hS0.below hb
  refine hK _ _ (fun _=>hS1) ?_
  clear hK K
  (try simp only[zT]);(try simp only[zA]);(try simp only[zS]);(try simp only[zZ])
  clear hS0 hb
  have hS0:=hS1
  clear hS1
  refine tN 18 (fun _=>hS0) ?_
  refine tN 25 (fun _=>hS0) ?_
  refine qz (k:=26) (by kernel_rfl) rfl (by rfl) (fun K hK=>?_)
  go_simp
  go_at_call 157
  refine(qkq t.row t.col (t.col+(orI (qp l 0) 1)) hS0.at_ HR.out.g HR.out.row0 HR.out.row1 HR.out.col0 HX2.out.1 HX2.out.2 HR.out.lk).mono ?_
  rintro e9 w9 ⟨rfl,h1,h2⟩
  dsimp only
  have HB:=hid (hS0.but.trans h2)
  refine hK _ _ (fun h=>(by simp at h)) ?_
  clear hK K hS0 h2
  (try simp only[zT]);(try simp only[zA]);(try simp only[zS]);(try simp only[zZ])
  refine qal (by kernel_rfl) ?_ _
  have HC:=hid (qcg h1)
  clear h1
  go_wp2_with ((with_reducible refine HC.out.mono ?_);rintro e wn ⟨rfl,h3,h4⟩)
  go_end0
  exact⟨rfl,h3,HB.out.trans h4⟩
 ·have HX2:=hid hX2
  have a3:t.g.cols < t.col+(orI (qp l 0) 1):=by omega
  have hmin:(if t.g.cols < t.col+(orI (qp l 0) 1) then t.g.cols else t.col+(orI (qp l 0) 1))=t.g.cols:=if_pos a3
  clear hX hX1 hX2 h hp hr
  subst a2
  go_enter Tryz.func88,Tryz.ntmps88
  go_wp2_with fail
  have hS0:=HS.out
  clear HS
  refine qh (qcy 26 (fun w'=>MS M b mv t W v l w')) (by kernel_rfl) ?_
  refine tN 0 (fun _=>hS0) ?_
  refine tN 1 (fun _=>hS0) ?_
  refine tN 2 (fun _=>hS0) ?_
  refine tN 3 (fun _=>hS0) ?_
  refine tN 4 (fun _=>hS0) ?_
  refine tG 5 (fun _=>hS0) ?_ (hy:=fun w' hw'=>by have k5:=hw'.at_.c_row.1;have k6:=hw'.at_.c_col.1;have k7:=hw'.at_.c_top.1;have k0:=hw'.at_.c_cols.1;go_simp;try with_reducible rfl)
  refine tN 6 (fun _=>hS0) ?_
  refine tN 7 (fun _=>hS0) ?_
  refine tN 8 (fun _=>hS0) ?_
  refine tN 9 (fun _=>hS0) ?_
  refine tG 10 (fun _=>hS0) ?_ (hy:=fun w' hw'=>by have k5:=hw'.at_.c_row.1;have k6:=hw'.at_.c_col.1;have k7:=hw'.at_.c_top.1;have k0:=hw'.at_.c_cols.1;go_simp;try with_reducible rfl)
  refine tN 11 (fun _=>hS0) ?_
  refine tN 12 (fun _=>hS0) ?_
  refine tN 13 (fun _=>hS0) ?_
  refine tN 14 (fun _=>hS0) ?_
  refine tG 15 (fun _=>hS0) ?_ (hy:=fun w' hw'=>by have k5:=hw'.at_.c_row.1;have k6:=hw'.at_.c_col.1;have k7:=hw'.at_.c_top.1;have k0:=hw'.at_.c_cols.1;go_simp;try with_reducible rfl)
  refine tN 16 (fun _=>hS0) ?_
  refine tN 19 (fun _=>hS0) ?_
  refine tN 20 (fun _=>hS0) ?_
  refine tN 21 (fun _=>hS0) ?_
  refine tN 22 (fun _=>hS0) ?_
  refine tN 23 (fun _=>hS0) ?_
  refine tG 24 (fun _=>hS0) ?_ (hy:=fun w' hw'=>by have k5:=hw'.at_.c_row.1;have k6:=hw'.at_.c_col.1;have k7:=hw'.at_.c_top.1;have k0:=hw'.at_.c_cols.1;go_simp;try with_reducible rfl)
  refine qz (k:=17) (by kernel_rfl) rfl (by rfl) (fun K hK=>?_)
  go_simp
  go_at_call 151
  refine(qc9 v l hS0.row hn).mono ?_
  rintro e9 w9 ⟨rfl,hb⟩
  dsimp only
  have hS1:=hS0.below hb
  refine hK _ _ (fun _=>hS1) ?_
  clear hK K
  (try simp only[zT]);(try simp only[zA]);(try simp only[zS]);(try simp only[zZ])
  clear hS0 hb
  have hS0:=hS1
  clear hS1
  refine tN 18 (fun _=>hS0) ?_
  refine tN 25 (fun _=>hS0) ?_
  refine qz (k:=26) (by kernel_rfl) rfl (by rfl) (fun K hK=>?_)
  go_simp
  go_at_call 157
  refine(qkq t.row t.col t.g.cols hS0.at_ HR.out.g HR.out.row0 HR.out.row1 HR.out.col0 HX2.out.1 HX2.out.2 HR.out.lk).mono ?_
  rintro e9 w9 ⟨rfl,h1,h2⟩
  dsimp only
  have HB:=hid (hS0.but.trans h2)
  refine hK _ _ (fun h=>(by simp at h)) ?_
  clear hK K hS0 h2
  (try simp only[zT]);(try simp only[zA]);(try simp only[zS]);(try simp only[zZ])
  refine qal (by kernel_rfl) ?_ _
  have HC:=hid (qcg h1)
  clear h1
  go_wp2_with ((with_reducible refine HC.out.mono ?_);rintro e wn ⟨rfl,h3,h4⟩)
  go_end0
  exact⟨rfl,h3,HB.out.trans h4⟩
theorem insertCells_does:Does 89 (fun t l=>{ t with g:=⟨t.g.cols,qbr t.g.ls t.row t.col (orI (qp l 0) 1) t.lk⟩,late:=false }):=by
 intro M b mv t W v l h hr hp _ hl
 dsimp only
 have hn:=hl.1
 have hx:=hl.num 0
 have hr0:=hr.row0
 have hr1:t.row≤49:=by have:=hr.row1;have:=qd hr.g;omega
 have hc0:=hr.col0
 have hc1:=hr.col1
 have hc2:=qd hr.g
 have HR:=hid hr
 have HC0:=hid (qc9 v l hp hn)
 have HT:=hid h
 clear h hp hr
 go_enter Tryz.func89,Tryz.ntmps89
 go_wp2_with fail
 with_reducible refine HC0.out.mono ?_
 rintro e w1 ⟨rfl,hb⟩
 dsimp only
 have HC:=hid (qhh (orI (qp l 0) 1) (HT.out.below hb) HR.out.g HR.out.row0 HR.out.row1 HR.out.col0 HR.out.col1 (by omega) HR.out.lk)
 have HB:=hid (But.of_below (b:=b) hb)
 clear hb
 go_wp2_with fail
 with_reducible refine HC.out.mono ?_
 rintro e w2 ⟨rfl,h1,h2⟩
 dsimp only
 have HC2:=hid (qcg h1)
 clear h1
 go_wp2_with ((with_reducible refine HC2.out.mono ?_);rintro e w3 ⟨rfl,h3,h4⟩)
 go_end0
 exact⟨rfl,h3,(HB.out.trans h2).trans h4⟩
theorem deleteCells_does:Does 90 (fun t l=>{ t with g:=⟨t.g.cols,qd6 t.g.ls t.row t.col (orI (qp l 0) 1) t.lk⟩,late:=false }):=by
 intro M b mv t W v l h hr hp _ hl
 dsimp only
 have hn:=hl.1
 have hx:=hl.num 0
 have hr0:=hr.row0
 have hr1:t.row≤49:=by have:=hr.row1;have:=qd hr.g;omega
 have hc0:=hr.col0
 have hc1:=hr.col1
 have hc2:=qd hr.g
 have HR:=hid hr
 have HC0:=hid (qc9 v l hp hn)
 have HT:=hid h
 clear h hp hr
 go_enter Tryz.func90,Tryz.ntmps90
 go_wp2_with fail
 with_reducible refine HC0.out.mono ?_
 rintro e w1 ⟨rfl,hb⟩
 dsimp only
 have HC:=hid (remove_any (orI (qp l 0) 1) (HT.out.below hb) HR.out.g HR.out.row0 HR.out.row1 HR.out.col0 HR.out.col1 (by omega) HR.out.lk)
 have HB:=hid (But.of_below (b:=b) hb)
 clear hb
 go_wp2_with fail
 with_reducible refine HC.out.mono ?_
 rintro e w2 ⟨rfl,h1,h2⟩
 dsimp only
 have HC2:=hid (qcg h1)
 clear h1
 go_wp2_with ((with_reducible refine HC2.out.mono ?_);rintro e w3 ⟨rfl,h3,h4⟩)
 go_end0
 exact⟨rfl,h3,(HB.out.trans h2).trans h4⟩
theorem regionUp_does:Does 93 (fun t l=>upM t t.top (orI (qp l 0) 1) true):=by
 intro M b mv t W v l h hr hp _ hl
 dsimp only
 have hn:=hl.1
 have hx:=hl.num 0
 have hr0:=hr.row0
 have hr1:t.row≤49:=by have:=hr.row1;have:=qd hr.g;omega
 have hc0:=hr.col0
 have hc1:=hr.col1
 have hc2:=qd hr.g
 have HR:=hid hr
 have HC0:=hid (qc9 v l hp hn)
 have HT:=hid h
 clear h hp hr
 go_enter Tryz.func93,Tryz.ntmps93
 go_wp2_with fail
 with_reducible refine HC0.out.mono ?_
 rintro e w1 ⟨rfl,hb⟩
 dsimp only
 have HC:=hid (qj3 (HT.out.below hb) HR.out.g (orI (qp l 0) 1) HR.out.top0 HR.out.tb HR.out.bot1 (by omega) HR.out.lk HR.out.bk)
 have HB:=hid (But.of_below (b:=b) hb)
 clear hb
 go_wp2_with ((with_reducible refine HC.out.mono ?_);rintro e w3 ⟨rfl,h3,h4⟩)
 go_end0
 exact⟨rfl,h3,HB.out.trans h4⟩
theorem regionDown_does:Does 94 (fun t l=>qhn t t.top (orI (qp l 0) 1)):=by
 intro M b mv t W v l h hr hp _ hl
 dsimp only
 have hn:=hl.1
 have hx:=hl.num 0
 have hr0:=hr.row0
 have hr1:t.row≤49:=by have:=hr.row1;have:=qd hr.g;omega
 have hc0:=hr.col0
 have hc1:=hr.col1
 have hc2:=qd hr.g
 have HR:=hid hr
 have HS:=hid (MS.start h hp)
 clear h hp hr
 go_enter Tryz.func94,Tryz.ntmps94
 go_wp2_with fail
 have hS0:=HS.out
 clear HS
 refine qh (qcy 8 (fun w'=>MS M b mv t W v l w')) (by kernel_rfl) ?_
 refine tN 0 (fun _=>hS0) ?_
 refine tN 1 (fun _=>hS0) ?_
 refine tN 2 (fun _=>hS0) ?_
 refine tN 3 (fun _=>hS0) ?_
 refine tN 4 (fun _=>hS0) ?_
 refine tG 5 (fun _=>hS0) ?_ (hy:=fun w' hw'=>by have k5:=hw'.at_.c_row.1;have k6:=hw'.at_.c_col.1;have k7:=hw'.at_.c_top.1;have k0:=hw'.at_.c_cols.1;go_simp;try with_reducible rfl)
 refine tN 6 (fun _=>hS0) ?_
 refine qz (k:=7) (by kernel_rfl) rfl (by rfl) (fun K hK=>?_)
 go_simp
 go_at_call 151
 refine(qc9 v l hS0.row hn).mono ?_
 rintro e9 w9 ⟨rfl,hb⟩
 dsimp only
 have hS1:=hS0.below hb
 refine hK _ _ (fun _=>hS1) ?_
 clear hK K
 (try simp only[zT]);(try simp only[zA]);(try simp only[zS]);(try simp only[zZ])
 clear hS0 hb
 have hS0:=hS1
 clear hS1
 refine qz (k:=8) (by kernel_rfl) rfl (by rfl) (fun K hK=>?_)
 go_simp
 go_at_call 161
 refine(qge hS0.at_ HR.out.g t.top (orI (qp l 0) 1) HR.out.top0 HR.out.tb HR.out.bot1 (by omega) HR.out.lk).mono ?_
 rintro e9 w9 ⟨rfl,h1,h2⟩
 dsimp only
 have HB:=hid (hS0.but.trans h2)
 refine hK _ _ (fun h=>(by simp at h)) ?_
 clear hK K hS0 h2
 (try simp only[zT]);(try simp only[zA]);(try simp only[zS]);(try simp only[zZ])
 refine qal (by kernel_rfl) ?_ _
 go_wp2
 go_end0
 exact⟨rfl,h1,HB.out⟩
theorem insertLines_does:Does 91 (fun t l=>if t.top≤t.row∧t.row≤t.bot then qas (qhn t t.row (orI (qp l 0) 1)) t.row 0 else t):=by
 intro M b mv t W v l h hr hp _ hl
 dsimp only
 have hn:=hl.1
 have hx:=hl.num 0
 have hr0:=hr.row0
 have hr1:t.row≤49:=by have:=hr.row1;have:=qd hr.g;omega
 have hc0:=hr.col0
 have hc1:=hr.col1
 have hc2:=qd hr.g
 have HR:=hid hr
 have HC0:=hid (qjz h)
 have HT:=hid h
 have HP:=hid hp
 by_cases hin:t.top≤t.row∧t.row≤t.bot
 ·rw[if_pos hin]
  rw[decide_eq_true hin] at HC0
  have HIN:=hid hin
  clear h hp hr hin
  go_enter Tryz.func91,Tryz.ntmps91
  go_wp2_with fail
  with_reducible refine HC0.out.mono ?_
  rintro e w1 ⟨rfl,hb⟩
  dsimp only
  have HB1:=hid (But.of_below (b:=b) hb)
  have HS:=hid (MS.start (HT.out.below hb) (HP.out.below hb))
  clear hb
  go_wp2_with fail
  have hS0:=HS.out
  clear HS
  refine qh (qcy 8 (fun w'=>MS M b mv t w1 v l w')) (by kernel_rfl) ?_
  refine tN 0 (fun _=>hS0) ?_
  refine tN 1 (fun _=>hS0) ?_
  refine tN 2 (fun _=>hS0) ?_
  refine tN 3 (fun _=>hS0) ?_
  refine tN 4 (fun _=>hS0) ?_
  refine tG 5 (fun _=>hS0) ?_ (hy:=fun w' hw'=>by have k5:=hw'.at_.c_row.1;have k6:=hw'.at_.c_col.1;have k7:=hw'.at_.c_top.1;have k0:=hw'.at_.c_cols.1;go_simp;try with_reducible rfl)
  refine tN 6 (fun _=>hS0) ?_
  refine qz (k:=7) (by kernel_rfl) rfl (by rfl) (fun K hK=>?_)
  go_simp
  go_at_call 151
  refine(qc9 v l hS0.row hn).mono ?_
  rintro e9 w9 ⟨rfl,hb⟩
  dsimp only
  have hS1:=hS0.below hb
  refine hK _ _ (fun _=>hS1) ?_
  clear hK K
  (try simp only[zT]);(try simp only[zA]);(try simp only[zS]);(try simp only[zZ])
  clear hS0 hb
  have hS0:=hS1
  clear hS1
  refine qz (k:=8) (by kernel_rfl) rfl (by rfl) (fun K hK=>?_)
  go_simp
  go_at_call 161
  refine(qge hS0.at_ HR.out.g t.row (orI (qp l 0) 1) HR.out.row0 HIN.out.2 HR.out.bot1 (by omega) HR.out.lk).mono ?_
  rintro e9 w9 ⟨rfl,h1,h2⟩
  dsimp only
  have HB:=hid (hS0.but.trans h2)
  refine hK _ _ (fun h=>(by simp at h)) ?_
  clear hK K hS0 h2
  (try simp only[zT]);(try simp only[zA]);(try simp only[zS]);(try simp only[zZ])
  refine qal (by kernel_rfl) ?_ _
  have hrg:=(rg_down (num:=(orI (qp l 0) 1)) HR.out.g HR.out.row0 HIN.out.2 HR.out.bot1 HR.out.lk).1
  have k5:w9.cell? ⟨b,5,none⟩=some (.int .i64 t.row):=h1.c_row.1
  have HC:=hid (qaq h1 hrg t.row 0)
  clear h1 hrg
  go_wp2_with ((with_reducible refine HC.out.mono ?_);rintro e wn ⟨rfl,h3,h4⟩)
  go_end0
  exact⟨rfl,h3,(HB1.out.trans HB.out).trans h4⟩
 ·rw[if_neg hin]
  rw[decide_eq_false hin] at HC0
  clear h hp hr hin
  go_enter Tryz.func91,Tryz.ntmps91
  go_wp2_with fail
  with_reducible refine HC0.out.mono ?_
  rintro e w1 ⟨rfl,hb⟩
  dsimp only
  have HT1:=hid (HT.out.below hb)
  have HB1:=hid (But.of_below (b:=b) hb)
  clear hb
  go_wp2
  go_end0
  exact⟨rfl,HT1.out,HB1.out⟩
theorem deleteLines_does:Does 92 (fun t l=>if t.top≤t.row∧t.row≤t.bot then qas (upM t t.row (orI (qp l 0) 1) false) t.row 0 else t):=by
 intro M b mv t W v l h hr hp _ hl
 dsimp only
 have hn:=hl.1
 have hx:=hl.num 0
 have hr0:=hr.row0
 have hr1:t.row≤49:=by have:=hr.row1;have:=qd hr.g;omega
 have hc0:=hr.col0
 have hc1:=hr.col1
 have hc2:=qd hr.g
 have HR:=hid hr
 have HC0:=hid (qjz h)
 have HT:=hid h
 have HP:=hid hp
 by_cases hin:t.top≤t.row∧t.row≤t.bot
 ·rw[if_pos hin]
  rw[decide_eq_true hin] at HC0
  have HIN:=hid hin
  clear h hp hr hin
  go_enter Tryz.func92,Tryz.ntmps92
  go_wp2_with fail
  with_reducible refine HC0.out.mono ?_
  rintro e w1 ⟨rfl,hb⟩
  dsimp only
  have HB1:=hid (But.of_below (b:=b) hb)
  have HS:=hid (MS.start (HT.out.below hb) (HP.out.below hb))
  clear hb
  go_wp2_with fail
  have hS0:=HS.out
  clear HS
  refine qh (qcy 8 (fun w'=>MS M b mv t w1 v l w')) (by kernel_rfl) ?_
  refine tN 0 (fun _=>hS0) ?_
  refine tN 1 (fun _=>hS0) ?_
  refine tN 2 (fun _=>hS0) ?_
  refine tN 3 (fun _=>hS0) ?_
  refine tN 4 (fun _=>hS0) ?_
  refine tG 5 (fun _=>hS0) ?_ (hy:=fun w' hw'=>by have k5:=hw'.at_.c_row.1;have k6:=hw'.at_.c_col.1;have k7:=hw'.at_.c_top.1;have k0:=hw'.at_.c_cols.1;go_simp;try with_reducible rfl)
  refine tN 6 (fun _=>hS0) ?_
  refine qz (k:=7) (by kernel_rfl) rfl (by rfl) (fun K hK=>?_)
  go_simp
  go_at_call 151
  refine(qc9 v l hS0.row hn).mono ?_
  rintro e9 w9 ⟨rfl,hb⟩
  dsimp only
  have hS1:=hS0.below hb
  refine hK _ _ (fun _=>hS1) ?_
  clear hK K
  (try simp only[zT]);(try simp only[zA]);(try simp only[zS]);(try simp only[zZ])
  clear hS0 hb
  have hS0:=hS1
  clear hS1
  refine qz (k:=8) (by kernel_rfl) rfl (by rfl) (fun K hK=>?_)
  go_simp
  go_at_call 162
  refine(qf6 hS0.at_ HR.out.g t.row (orI (qp l 0) 1) HR.out.row0 HIN.out.2 HR.out.bot1 (by omega) HR.out.lk).mono ?_
  rintro e9 w9 ⟨B,j,d,gl,rfl,_,_,_,h1,h2⟩
  dsimp only
  have HB:=hid (hS0.but.trans h2)
  refine hK _ _ (fun h=>(by simp at h)) ?_
  clear hK K hS0 h2
  (try simp only[zT]);(try simp only[zA]);(try simp only[zS]);(try simp only[zZ])
  refine qal (by kernel_rfl) ?_ _
  have hrg:=(rg_up (num:=(orI (qp l 0) 1)) HR.out.g HR.out.row0 HIN.out.2 HR.out.bot1 HR.out.lk).1
  have k5:w9.cell? ⟨b,5,none⟩=some (.int .i64 t.row):=h1.c_row.1
  have HC:=hid (qaq h1 hrg t.row 0)
  clear h1 hrg
  go_wp2_with ((with_reducible refine HC.out.mono ?_);rintro e wn ⟨rfl,h3,h4⟩)
  go_end0
  exact⟨rfl,h3,(HB1.out.trans HB.out).trans h4⟩
 ·rw[if_neg hin]
  rw[decide_eq_false hin] at HC0
  clear h hp hr hin
  go_enter Tryz.func92,Tryz.ntmps92
  go_wp2_with fail
  with_reducible refine HC0.out.mono ?_
  rintro e w1 ⟨rfl,hb⟩
  dsimp only
  have HT1:=hid (HT.out.below hb)
  have HB1:=hid (But.of_below (b:=b) hb)
  clear hb
  go_wp2
  go_end0
  exact⟨rfl,HT1.out,HB1.out⟩
end
set_option maxHeartbeats 2000000
set_option maxRecDepth 100000
section
variable {M:World→Value→Prop} {b:Nat} {mv:Value} {t:Tm} {W:World}
theorem WellT.upM {t:Tm} (h:WellT t) {top n:Int} (kept:Bool) (h0:0≤top) (h1:top≤t.bot):WellT (upM t top n kept):=by
 have hg:=rg_up (num:=n) h.g h0 h1 h.bot1 h.lk
 refine⟨hg.1,h.row0,?_,h.col0,h.col1,h.top0,h.tb,?_,h.lk,?_⟩
 ·show t.row < ((upT t.g.ls t.g.cols top t.bot n t.lk).length:Int)
  rw[hg.2];exact h.row1
 ·show t.bot < ((upT t.g.ls t.g.cols top t.bot n t.lk).length:Int)
  rw[hg.2];exact h.bot1
 ·show qdu t.bmax (if _ then _ else _)=true
  split
  ·exact back_more h.bk (rg_kept h.g (fun l hl=>List.mem_of_mem_drop (List.mem_of_mem_take hl)))
  ·exact h.bk
theorem WellT.pDown {t:Tm} (h:WellT t):WellT (pDown t):=by
 unfold Go.Proofs.YtpdaekmbpafenaaGreatDoor.pDown
 split
 ·exact h.upM true h.top0 h.tb
 ·split
  ·rename_i h2
   have:t.row+1 < t.rows:=by omega
   exact⟨h.g,by show 0≤t.row+1;have:=h.row0;omega,this,h.col0,h.col1,h.top0,h.tb,h.bot1,h.lk,h.bk⟩
  ·exact h
theorem first_col {t:Tm} (h:WellT t):qas t t.row 0={ { t with late:=false } with col:=0 }:=by
 unfold qas Tm.rows Tm.last
 have h0:=h.row0
 have h1:=h.row1
 have hb:=qd h.g
 rw[qlo h0 (by omega),qlo (Int.le_refl 0) (by omega)]
def softM (t:Tm) (s:Bool):Tm:={ t with g:=⟨t.g.cols,qci t.g.ls t.row s⟩ }
theorem goOn_p {t:Tm} (h:WellT t):goOn t=qas (pDown (softM t true)) (pDown (softM t true)).row 0:=by
 have hw:=(h.soft h.row0 h.row1 true).pDown
 have h2:=first_col hw
 unfold softM
 rw[h2]
 unfold goOn
 rw[qjc]
theorem downFirst_p {t:Tm} (h:WellT t):{ goDown t with col:=0 }=qas (pDown t) (pDown t).row 0:=by
 rw[first_col h.pDown,qjc]
theorem qig (h : TAt M b mv t W) (hr : WellT t) :
  Calls Tryz.prog 213 #[.pointer (some ⟨b,0,none⟩)] W (qu M b mv W (goOn t)):=by
 rw[goOn_p hr]
 have k5:=h.c_row.1
 have HC:=hid (qk7 t.row true h hr.g hr.row0 hr.row1)
 have HW:=hid (hr.soft hr.row0 hr.row1 true)
 have HW2:=hid HW.out.pDown
 change Hid (WellT (softM t true)) at HW
 change Hid (WellT (pDown (softM t true))) at HW2
 change Hid (Calls _ _ _ _ (qu M b mv W (softM t true))) at HC
 clear h hr
 go_enter Tryz.func213,Tryz.ntmps213
 go_wp2_with fail
 with_reducible refine HC.out.mono ?_
 rintro e w1 ⟨rfl,h1,b1⟩
 dsimp only
 have HC2:=hid (qen h1 HW.out)
 clear h1 k5
 go_wp2_with fail
 with_reducible refine HC2.out.mono ?_
 rintro e w2 ⟨rfl,h2,b2⟩
 dsimp only
 have k5:=h2.c_row.1
 have HC3:=hid (qaq h2 HW2.out.g (pDown (softM t true)).row 0)
 clear h2
 go_wp2_with ((with_reducible refine HC3.out.mono ?_);rintro e wn ⟨rfl,h5,h6⟩)
 go_end0
 exact⟨rfl,h5,(b1.trans b2).trans h6⟩
theorem exec_8 (h : TAt M b mv t W) (hr : WellT t) :
  Calls Tryz.prog 104 #[.pointer (some ⟨b,0,none⟩),.int .i64 8] W (qu M b mv W (qas t t.row (t.col - 1))):=by
 have k5:=h.c_row.1
 have k6:=h.c_col.1
 have hc0:=hr.col0
 have hc1:t.col≤79:=by have:=hr.col1;have:=qd hr.g;omega
 have HC:=hid (qaq h.drew hr.g t.row (t.col - 1))
 have hwr:IntKind.i64.wrap (t.col - 1)=t.col - 1:=IntWalk.i64_in _ (by omega)
 clear h hr
 go_enter Tryz.func104,Tryz.ntmps104
 go_wp2_with fail
 go_still_tail 12,(by kernel_rfl)
 change wpList _ _ _ _ _ W.drew
 go_wp2_with ((with_reducible refine HC.out.mono ?_);rintro e wn ⟨rfl,h5,h6⟩)
 go_end0
 exact⟨rfl,h5,(But.refl b W).drew.trans h6⟩
theorem exec_9 (h : TAt M b mv t W) (hr : WellT t) :
  Calls Tryz.prog 104 #[.pointer (some ⟨b,0,none⟩),.int .i64 9] W (qu M b mv W (qas t t.row (8 * (t.col / 8)+8))):=by
 have k5:=h.c_row.1
 have k6:=h.c_col.1
 have hc0:=hr.col0
 have hc1:t.col≤79:=by have:=hr.col1;have:=qd hr.g;omega
 have HC:=hid (qaq h.drew hr.g t.row (8 * (t.col / 8)+8))
 have hq:0≤t.col / 8∧t.col / 8≤9:=by omega
 have hd:t.col.tdiv 8=t.col / 8:=Int.tdiv_eq_ediv_of_nonneg hc0
 have hw1:IntKind.i64.wrap (t.col / 8)=t.col / 8:=IntWalk.i64_in _ (by omega)
 have hw2:IntKind.i64.wrap (t.col / 8+1)=t.col / 8+1:=IntWalk.i64_in _ (by omega)
 have hw3:IntKind.i64.wrap ((t.col / 8+1) * 8)=8 * (t.col / 8)+8:=by rw[IntWalk.i64_in _ (by omega)];omega
 clear h hr
 go_enter Tryz.func104,Tryz.ntmps104
 go_wp2_with fail
 go_still_tail 14,(by kernel_rfl)
 change wpList _ _ _ _ _ W.drew
 go_wp2_with ((with_reducible refine HC.out.mono ?_);rintro e wn ⟨rfl,h5,h6⟩)
 go_end0
 exact⟨rfl,h5,(But.refl b W).drew.trans h6⟩
theorem exec_10 (h : TAt M b mv t W) (hr : WellT t) :
  Calls Tryz.prog 104 #[.pointer (some ⟨b,0,none⟩),.int .i64 10] W (qu M b mv W (goDown t)):=by
 rw[qjc]
 have HC:=hid (qen h hr)
 clear h hr
 go_enter Tryz.func104,Tryz.ntmps104
 go_wp2_with fail
 with_reducible refine HC.out.mono ?_
 rintro e w1 ⟨rfl,h1,b1⟩
 dsimp only
 have HC2:=hid (qcg h1)
 clear h1
 go_wp2_with ((with_reducible refine HC2.out.mono ?_);rintro e wn ⟨rfl,h5,h6⟩)
 go_end0
 exact⟨rfl,h5,b1.trans h6⟩
theorem exec_11 (h : TAt M b mv t W) (hr : WellT t) :
  Calls Tryz.prog 104 #[.pointer (some ⟨b,0,none⟩),.int .i64 11] W (qu M b mv W (goDown t)):=by
 rw[qjc]
 have HC:=hid (qen h hr)
 clear h hr
 go_enter Tryz.func104,Tryz.ntmps104
 go_wp2_with fail
 with_reducible refine HC.out.mono ?_
 rintro e w1 ⟨rfl,h1,b1⟩
 dsimp only
 have HC2:=hid (qcg h1)
 clear h1
 go_wp2_with ((with_reducible refine HC2.out.mono ?_);rintro e wn ⟨rfl,h5,h6⟩)
 go_end0
 exact⟨rfl,h5,b1.trans h6⟩
theorem exec_12 (h : TAt M b mv t W) (hr : WellT t) :
  Calls Tryz.prog 104 #[.pointer (some ⟨b,0,none⟩),.int .i64 12] W (qu M b mv W (goDown t)):=by
 rw[qjc]
 have HC:=hid (qen h hr)
 clear h hr
 go_enter Tryz.func104,Tryz.ntmps104
 go_wp2_with fail
 with_reducible refine HC.out.mono ?_
 rintro e w1 ⟨rfl,h1,b1⟩
 dsimp only
 have HC2:=hid (qcg h1)
 clear h1
 go_wp2_with ((with_reducible refine HC2.out.mono ?_);rintro e wn ⟨rfl,h5,h6⟩)
 go_end0
 exact⟨rfl,h5,b1.trans h6⟩
theorem exec_13 (h : TAt M b mv t W) (hr : WellT t) :
  Calls Tryz.prog 104 #[.pointer (some ⟨b,0,none⟩),.int .i64 13] W (qu M b mv W (qas t t.row 0)):=by
 have k5:=h.c_row.1
 have HC:=hid (qaq h hr.g t.row 0)
 clear h hr
 go_enter Tryz.func104,Tryz.ntmps104
 go_wp2_with ((with_reducible refine HC.out.mono ?_);rintro e wn ⟨rfl,h5,h6⟩)
 go_end0
 exact⟨rfl,h5,h6⟩
theorem texec_any (h : TAt M b mv t W) (hr : WellT t) (c : Int) :
  Calls Tryz.prog 104 #[.pointer (some ⟨b,0,none⟩),.int .i64 c] W (qu M b mv W (qhq t c)):=by
 have hc:c=8∨c=9∨c=10∨c=11∨c=12∨c=13∨(c≠8∧c≠9∧c≠10∧c≠11∧c≠12∧c≠13):=by omega
 rcases hc with rfl | rfl | rfl | rfl | rfl | rfl | ⟨e1,e2,e3,e4,e5,e6⟩
 ·exact exec_8 h hr
 ·exact exec_9 h hr
 ·exact exec_10 h hr
 ·exact exec_11 h hr
 ·exact exec_12 h hr
 ·exact exec_13 h hr
 ·have hm : qhq t c = t := by
   unfold qhq
   rw[if_neg e1,if_neg e2,if_neg (by omega),if_neg e6]
  rw[hm]
  have n1:(c == 8)=false:=by simpa using e1
  have n2:(c == 9)=false:=by simpa using e2
  have n3:(c == 10)=false:=by simpa using e3
  have n4:(c == 11)=false:=by simpa using e4
  have n5:(c == 12)=false:=by simpa using e5
  have n6:(c == 13)=false:=by simpa using e6
  have HT:=hid h
  clear h hr hm e1 e2 e3 e4 e5 e6
  go_enter Tryz.func104,Tryz.ntmps104
  go_wp2
  go_end0
  exact⟨rfl,HT.out,But.refl b W⟩
end
end Go.Proofs.YtpdaekmbpafenaaGreatDoor
