
import Derived.Test.YtpdaekmbpafenaaGreatDoorParseUQ
import Derived.Test.YtpdaekmbpafenaaGreatDoorHeldIQ
import Derived.Laws.EntriesVeiled
import Derived.Deep.CutBlock
namespace Go.Proofs.YtpdaekmbpafenaaGreatDoor
set_option maxHeartbeats 4000000
set_option maxRecDepth 100000
open Go.RowKit
def p_NewPost (W:World) (p:Pa) (e:Ending) (w':World):Prop:=∃ R,e=.returned (.pointer (some ⟨R,0,none⟩))∧Rd W.heap.size R w' p []∧Below W.heap.size W w'
theorem qm3 (p : Pa) (v : Value) (W : World) (hr : IRow W v p.params) (hn : p.params.length ≤ 1000000) (ho : p.osc.size ≤ 1000000) (hp : p.pend.size ≤ 1000000) :
  Calls Tryz.prog 75 #[.agg (p.cells v)] W (p_NewPost W p):=by
 obtain⟨p1,p2,p3,p4,p5,p6⟩:=p
 simp only at hr hn ho hp
 have hic:=fun w1 (hb:Below W.heap.size W w1)=>iclone_any v p3 w1 (hr.below hb) hn
 have hc1:=fun w1=>clone_any p5 w1 (by omega)
 have hc2:=fun w1=>clone_any p6 w1 (by omega)
 have hr0:=hr
 obtain⟨A,c,rfl,_⟩:=hr0
 have bx:=Box.new W 31 #[.int .i64 p1,.int .i64 p2,.slice A p3.length c,.int .i64 p4,.string p5,.string p6]
 have hbW:=qa W (.cells #[.int .i64 p1,.int .i64 p2,.slice A p3.length c,.int .i64 p4,.string p5,.string p6] 31)
 have hsz:W.heap.size < (W.alloc (.cells #[.int .i64 p1,.int .i64 p2,.slice A p3.length c,.int .i64 p4,.string p5,.string p6] 31)).heap.size:=by simp
 have HI:=hid hic
 have HC1:=hid hc1
 have HC2:=hid hc2
 unfold Pa.cells
 simp only
 generalize p3.length=m at *
 clear hic hc1 hc2 hr hn ho hp
 go_enter Tryz.func75,Tryz.ntmps75
 go_upto_region 1 with fail
 obtain⟨W0,hW0⟩:∃ W0,W.alloc (.cells #[.int .i64 p1,.int .i64 p2,.slice A m c,.int .i64 p4,.string p5,.string p6] 31)=W0:=⟨_,rfl⟩
 rw[hW0] at bx hbW hsz ⊢
 clear hW0
 obtain⟨b,hb⟩:∃ b,W.heap.size=b:=⟨_,rfl⟩
 rw[hb] at bx hbW hsz HI ⊢
 have HBQ:=hid hb
 clear hb
 refine qh (qee 10 12 (fun w'=>Box w' b 31 #[.int .i64 p1,.int .i64 p2,.slice A m c,.int .i64 p4,.string p5,.string p6]) (fun _=>True)) (by kernel_rfl) ?_
 have hS:∀ L,qee 10 12 (fun w'=>Box w' b 31 #[.int .i64 p1,.int .i64 p2,.slice A m c,.int .i64 p4,.string p5,.string p6]) (fun _=>True) L (World.drew W0):=fun L=>⟨fun _=>bx,fun _=>trivial⟩
 refine tS 0 (hS _) ?_
 refine takeS1 (i:=1) (v:=?v1) 5 rfl rfl (by kernel_rfl) (by kernel_rfl) (by kernel_rfl) (by kernel_rfl) (by decide) (by decide) (by kernel_rfl) (fun _ _ _ h=>h) (Or.inl ⟨by rfl,fun w' hw'=>?hy1⟩) (hS _) ?rest1
 case hy1=>have a0:w'.cell? ⟨b,2,none⟩=some (.slice A m c):=hw'.cell 2;go_simp;try with_reducible rfl
 (try simp only[zT]);(try simp only[zA]);(try simp only[zS]);(try simp only[zZ])
 refine tS 3 (hS _) ?_
 refine takeS1 (i:=4) (v:=?v4) 8 rfl rfl (by kernel_rfl) (by kernel_rfl) (by kernel_rfl) (by kernel_rfl) (by decide) (by decide) (by kernel_rfl) (fun _ _ _ h=>h) (Or.inl ⟨by rfl,fun w' hw'=>?hy4⟩) (hS _) ?rest4
 case hy4=>have a0:w'.cell? ⟨b,4,none⟩=some (.string p5):=hw'.cell 4;go_simp;try with_reducible rfl
 (try simp only[zT]);(try simp only[zA]);(try simp only[zS]);(try simp only[zZ])
 refine tS 6 (hS _) ?_
 refine takeS1 (i:=7) (v:=?v7) 11 rfl rfl (by kernel_rfl) (by kernel_rfl) (by kernel_rfl) (by kernel_rfl) (by decide) (by decide) (by kernel_rfl) (fun _ _ _ h=>h) (Or.inl ⟨by rfl,fun w' hw'=>?hy7⟩) (hS _) ?rest7
 case hy7=>have a0:w'.cell? ⟨b,5,none⟩=some (.string p6):=hw'.cell 5;go_simp;try with_reducible rfl
 (try simp only[zT]);(try simp only[zA]);(try simp only[zS]);(try simp only[zZ])
 refine qz (k:=2) (by kernel_rfl) rfl (by rfl) (fun K hK=>?_)
 go_simp
 go_at_call 134
 refine(HI.out _ hbW.drew).mono ?_
 rintro e w2 ⟨v2,rfl,hv2,hb2⟩
 dsimp only
 have hb2:Below W0.heap.size W0 w2:=(Below.refl _ W0).drew.trans hb2
 have bx2:=bx.below hb2 hsz
 have hbY:=hbW.trans (hb2.mono (by omega))
 have hz2:=hb2.size
 refine hK _ _ ⟨fun _=>bx2,fun _=>trivial⟩ ?_
 clear hK K hS bx
 have hS:∀ L,qee 10 12 (fun w'=>Box w' b 31 #[.int .i64 p1,.int .i64 p2,.slice A m c,.int .i64 p4,.string p5,.string p6]) (fun _=>True) L w2:=fun L=>⟨fun _=>bx2,fun _=>trivial⟩
 refine tS 9 (hS _) ?_
 refine qz (k:=5) (by kernel_rfl) rfl (by rfl) (fun K hK=>?_)
 go_simp
 go_at_call 135
 refine(HC1.out _).mono ?_
 rintro e w3 ⟨rfl,hb3⟩
 dsimp only
 have bx3:=bx2.below hb3 (by omega)
 have hz3:=hb3.size
 refine hK _ _ ⟨fun _=>bx3,fun _=>trivial⟩ ?_
 clear hK K
 refine qz (k:=8) (by kernel_rfl) rfl (by rfl) (fun K hK=>?_)
 go_simp
 go_at_call 135
 refine(HC2.out _).mono ?_
 rintro e w4 ⟨rfl,hb4⟩
 dsimp only
 have bx4:=bx3.below hb4 (by omega)
 have hz4:=hb4.size
 refine hK _ _ ⟨fun _=>bx4,fun _=>trivial⟩ ?_
 clear hK K
 have hv4:=((hv2.kept (Kept.of_below _ hb3)).kept (Kept.of_below _ hb4)).mono (Nat.le_refl _) (Nat.le_trans hb3.size hb4.size)
 have hb24:=hb3.trans (hb4.mono hb3.size)
 have hbZ:=hbY.trans (hb24.mono (by omega))
 obtain⟨A2,c2,rfl⟩:=hv2.spell
 have c0:w4.cell? ⟨b,0,none⟩=some (.int .i64 p1):=bx4.cell 0
 have c1:w4.cell? ⟨b,1,none⟩=some (.int .i64 p2):=bx4.cell 1
 have c2':w4.cell? ⟨b,2,none⟩=some (.slice A m c):=bx4.cell 2
 have c3:w4.cell? ⟨b,3,none⟩=some (.int .i64 p4):=bx4.cell 3
 have c4:w4.cell? ⟨b,4,none⟩=some (.string p5):=bx4.cell 4
 have c5:w4.cell? ⟨b,5,none⟩=some (.string p6):=bx4.cell 5
 obtain⟨f0,f1,f2,f3,f4,f5⟩:=qkj bx4
 refine qz (k:=10) (by kernel_rfl) rfl (by rfl) (fun K hK=>?_)
 go_simp
 refine hK _ _ ⟨fun h=>absurd h (by decide),fun _=>trivial⟩ ?_
 clear hK K hS
 have hS:∀ L w',L.getD 10 false=true→qee 10 12 (fun w'=>Box w' b 31 #[.int .i64 p1,.int .i64 p2,.slice A m c,.int .i64 p4,.string p5,.string p6]) (fun _=>True) L w':=fun L w' h=>⟨fun h'=>(by rw[h] at h';exact absurd h' (by decide)),fun _=>trivial⟩
 refine tS 11 (hS _ _ (by decide)) ?_
 refine qz (k:=12) (by kernel_rfl) rfl (by rfl) (fun K hK=>?_)
 go_simp
 refine hK _ _ (hS _ _ (by decide)) ?_
 clear hK K
 refine tS 13 (hS _ _ (by decide)) ?_
 refine qz (k:=14) (by kernel_rfl) rfl (by rfl) (fun K hK=>?_)
 go_simp
 refine hK _ _ (hS _ _ (by decide)) ?_
 clear hK K hS
 refine qal (by kernel_rfl) ?_ _
 have bx5:Box (((w4.setCell ⟨b,2,none⟩ (.slice A2 p3.length c2)).setCell ⟨b,4,none⟩ (.string p5)).setCell ⟨b,5,none⟩ (.string p6)) b 31 #[.int .i64 p1,.int .i64 p2,.slice A2 p3.length c2,.int .i64 p4,.string p5,.string p6]:=((bx4.set (i:=2) (.slice A2 p3.length c2)).set (i:=4) (.string p5)).set (i:=5) (.string p6)
 have hg5:w4.grownBy (((w4.setCell ⟨b,2,none⟩ (.slice A2 p3.length c2)).setCell ⟨b,4,none⟩ (.string p5)).setCell ⟨b,5,none⟩ (.string p6)) (some b):=qad (qad (qad (World.grownBy.refl w4 _) _) _) _
 have hv5:=(hv4.kept (Kept.other _ bx4 (by decide) hg5)).mono (Nat.le_refl _) hg5.size
 have hb5:=hbZ.grown hg5 (by omega) (fun k e=>by cases e;exact Nat.le_refl _)
 have hz5:=hg5.size
 generalize (((w4.setCell ⟨b,2,none⟩ (.slice A2 p3.length c2)).setCell ⟨b,4,none⟩ (.string p5)).setCell ⟨b,5,none⟩ (.string p6))=w5 at *
 have hv6:NumO w5 W0.heap.size w5.heap.size (.slice A2 p3.length c2) p3:=hv5
 have HV:=hid hv6
 have HB:=hid hb5
 have HBW:=hid hbW.size
 clear hv2 hv4 hv5 hv6 hbZ hb24 hbY hb2 hb3 hb4 hg5 c0 c1 c2' c3 c4 c5 f0 f1 f2 f3 f4 f5 bx2 bx3 bx4 hb5 HC1 HC2 HI hbW
 have c0:w5.cell? ⟨b,0,none⟩=some (.int .i64 p1):=bx5.cell 0
 have c1:w5.cell? ⟨b,1,none⟩=some (.int .i64 p2):=bx5.cell 1
 have c2':w5.cell? ⟨b,2,none⟩=some (.slice A2 p3.length c2):=bx5.cell 2
 have c3:w5.cell? ⟨b,3,none⟩=some (.int .i64 p4):=bx5.cell 3
 have c4:w5.cell? ⟨b,4,none⟩=some (.string p5):=bx5.cell 4
 have c5:w5.cell? ⟨b,5,none⟩=some (.string p6):=bx5.cell 5
 have hmf:∀ (fn:Fn) (first cap:Array Value) (w:World),(Instr.makeFunc fn first cap).run Tryz.prog w=.ok (.func fn first cap) w:=fun _ _ _ _=>rfl
 clear bx5
 go_wp2
 go_ret
 have hq:=HBQ.out
 have hle:=HBW.out
 have hv:=HV.out
 have hn:w5.heap.size≤(w5.alloc (.cells (qba w5.heap.size ⟨p1,p2,p3,p4,p5,p6⟩ (.slice A2 p3.length c2) (.slice none 0 0)) 126)).heap.size:=by simp
 refine⟨w5.heap.size,rfl,⟨.slice A2 p3.length c2,[],W0.heap.size,rfl,by omega,Nat.le_trans (show W0.heap.size≤w5.heap.size by omega) hn,⟨.slice none 0 0,by omega,Box.new _ _ _,OwnD.nil _ _,fun e he=>by cases he⟩,(hv.kept (Kept.of_below _ (qa _ _))).mono (Nat.le_refl _) hn⟩,?_⟩
 rw[hq]
 exact HB.out.alloc (by omega) _
theorem len_if {c:Prop} [Decidable c] {a b:Pa×List Dn} {n:Nat} (ha:a.2.length≤n) (hb:b.2.length≤n):(if c then a else b).2.length≤n:=by
 by_cases h:c
 ·rw[if_pos h];exact ha
 ·rw[if_neg h];exact hb
theorem list_if {c:Prop} [Decidable c] {d:Dn} {q:Pa}:((q,if c then [] else [d]):Pa×List Dn).2.length≤1∧((q,if c then [d] else []):Pa×List Dn).2.length≤1:=by
 by_cases h:c
 ·simp[h]
 ·simp[h]
theorem one_len (p:Pa) (c:Int):(oneP p c).2.length≤1:=by
 rw[qmc]
 unfold qj oscP qh4 qe9 qgu qc1
 repeat' refine len_if ?_ ?_
 all_goals first | exact list_if.1 | exact list_if.2 | exact Nat.zero_le _ | exact Nat.le_refl _
theorem take_len (p:Pa) (c:Int):(qc6 p c).2.length≤2:=by
 have h1:=one_len p c
 have h2:=one_len { p with pend:=nilB } c
 unfold qc6
 by_cases c1:p.pend.size=0
 ·rw[if_pos c1];omega
 rw[if_neg c1]
 by_cases c2:(qi (p.pend ++ qs c)).e=2
 ·rw[if_pos c2];simp
 rw[if_neg c2]
 by_cases c3:(qi (p.pend ++ qs c)).e=0
 ·rw[if_pos c3]
  simp only
  split <;> simp
 rw[if_neg c3]
 split
 ·simp only[List.length_cons];omega
 ·simp
theorem qmq:∀ (l:List Int) (p:Pa),(qa1 p l).2.length≤2 * l.length
 | [],_=>by simp[qa1]
 | c :: l,p=>by
  have h1:=take_len p c
  have h2:=qmq l (qc6 p c).1
  rw[qa1]
  simp only[List.length_append,List.length_cons]
  omega
theorem grown_drew1 (W:World) (row:Option Nat):W.grownBy W.drew row:=⟨rfl,rfl,rfl,Nat.le_refl _,fun _ _ _=>rfl⟩
theorem feed_end {B P b : Nat} {wr W9 : World} {v dv : Value} {l : List Int} {lv : List (Dn × Value)} {cs : Array Value} (hown : OwnD wr B dv lv) (hnum : ∀ e ∈ lv, NumO wr B P e.2 e.1.params ∧ e.1.params.length ≤ 16) (hv : NumO wr P wr.heap.size v l)
  (bx:Box wr b 31 cs) (hg:wr.grownBy W9 (some b)):IRow W9 v l∧DRow W9 dv lv:=by
 have kp:∀ k,Kept k wr W9:=fun k=>Kept.other k bx (by decide) hg
 exact⟨(hv.kept (kp _)).irow,(hown.other bx (by decide) hg).drow (fun e he=>⟨(hnum e he).1.kept (kp _),(hnum e he).2⟩)⟩
theorem own_cap {W:World} {B:Nat} {A:Option Addr} {n c:Nat} {l:List (Dn×Value)} (h:OwnD W B (.slice A n c) l):l.length≤c:=by
 rcases h.2 with ⟨e,h0⟩ | ⟨g,cap,cur,e,_,_,hc,_⟩
 ·omega
 ·cases e
  exact hc
end Go.Proofs.YtpdaekmbpafenaaGreatDoor
