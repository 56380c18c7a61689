
import Derived.Test.YtpdaekmbpafenaaGreatDoorParseTQ
import Derived.Test.YtpdaekmbpafenaaGreatDoorCloneQ
import Derived.Laws.OwnMore
import Derived.Test.YtpdaekmbpafenaaGreatDoorHeldIQ
import Derived.Laws.EntriesVeiled
import Derived.Deep.CutBlock
namespace Go.Proofs.YtpdaekmbpafenaaGreatDoor
set_option maxHeartbeats 1000000
set_option maxRecDepth 100000
open Go.RowKit
def p_ClonePost (W:World) (l:List Int) (e:Ending) (w':World):Prop:=∃ v,e=.returned v∧NumO w' W.heap.size w'.heap.size v l∧Below W.heap.size W w'
theorem iclone_any (v : Value) (l : List Int) (W : World) (hr : IRow W v l) (hn : l.length ≤ 1000000) :
  Calls Tryz.prog 134 #[v] W (p_ClonePost W l):=by
 obtain⟨A,c,rfl,hA⟩:=hr
 cases A with
 | none =>
  have hl:l=[]:=by
   apply Classical.byContradiction
   intro h
   obtain⟨ad,h1,_⟩:=hA h
   cases h1
  subst hl
  clear hA
  have hq:=fun W=>Lib.run_eql_slice_nil (P:=Tryz.prog) W 29 3 none 0 c 0 0 Tryz.underlying29
  simp only[List.length_nil]
  go_enter Tryz.func134,Tryz.ntmps134
  go_wp2
  go_ret
  exact⟨_,rfl,NumO.nil _ _ _,Below.refl _ _⟩
 | some ad =>
  have hc:∀ j u,(ints l)[j]?=some u→(W.alloc (.cells #[] 3)).cell? (ad.add j)=some u:=by
   intro j u hu
   unfold ints at hu
   rw[List.getElem?_map] at hu
   cases hx:l[j]? with
   | none=>rw[hx] at hu;cases hu
   | some x =>
    rw[hx] at hu
    cases hu
    obtain⟨ad',h1,hlt,h2⟩:=hA (by intro e;rw[e] at hx;simp at hx)
    cases h1
    rw[(qa W _).cell (p:=ad.add j) (by rw[qc9];exact hlt)]
    exact h2 j x hx
  have HC:=hid hc
  have HO:Hid (OwnI (W.alloc (.cells #[] 3)) W.heap.size (.slice (some ⟨W.heap.size,0,none⟩) 0 0) []):=OwnI.lit [] (by simp) (Nat.le_refl _)
  have HN:=hid hn
  clear hA hc hn
  have hq:=fun W=>Lib.run_eql_slice_nil (P:=Tryz.prog) W 29 3 (some ad) l.length c 0 0 Tryz.underlying29
  go_enter Tryz.func134,Tryz.ntmps134
  go_wp2_with (at_builtin;refine qji rfl _ _ rfl W.heap.size _ [] rfl HO.out l ad l.length c rfl rfl HC.out (by have:=HN.out;simp;omega) (by simp) ?_;intro v' w' h1 h2;have H1:=hid h1;clear h1)
  go_ret
  have hb:=(qa W (.cells #[] 3)).grown h2 (by simp) (fun k e=>by cases e;exact Nat.le_refl _)
  have h1:=H1.out
  rw[List.nil_append] at h1
  exact⟨_,rfl,.inr ⟨h1,fun g e=>(World.ownsRow.lt h1 g e).2⟩,hb⟩
set_option maxHeartbeats 4000000
set_option maxRecDepth 100000
def p_NewPost (W:World) (p:Pa) (e:Ending) (w':World):Prop:=∃ R,e=.returned (.pointer (some ⟨R,0,none⟩))∧Rd W.heap.size R w' p []∧Below W.heap.size W w'
theorem qjd (p : Pa) (v : Value) (W : World) (hr : IRow W v p.params) (hn : p.params.length ≤ 1000000) (ho : p.osc.size ≤ 1000000) (hp : p.pend.size ≤ 1000000) :
  Calls Tryz.prog 75 #[.agg (p.cells v)] W (p_NewPost W p):=by
 obtain⟨p1,p2,p3,p4,p5,p6⟩:=p
 simp only at hr hn ho hp
 have hic:=fun w1 (hb:Below W.heap.size W w1)=>iclone_any v p3 w1 (hr.below hb) hn
 have hc1:=fun w1=>clone_any p5 w1 (by omega)
 have hc2:=fun w1=>clone_any p6 w1 (by omega)
 have hr0:=hr
 obtain⟨A,c,rfl,_⟩:=hr0
 have bx:=Box.new W 31 #[.int .i64 p1,.int .i64 p2,.slice A p3.length c,.int .i64 p4,.string p5,.string p6]
 have hbW:=qa W (.cells #[.int .i64 p1,.int .i64 p2,.slice A p3.length c,.int .i64 p4,.string p5,.string p6] 31)
 have hsz:W.heap.size < (W.alloc (.cells #[.int .i64 p1,.int .i64 p2,.slice A p3.length c,.int .i64 p4,.string p5,.string p6] 31)).heap.size:=by simp
 have HI:=hid hic
 have HC1:=hid hc1
 have HC2:=hid hc2
 unfold Pa.cells
 simp only
 generalize p3.length=m at *
 clear hic hc1 hc2 hr hn ho hp
 go_enter Tryz.func75,Tryz.ntmps75
 go_upto_region 1 with fail
 obtain⟨W0,hW0⟩:∃ W0,W.alloc (.cells #[.int .i64 p1,.int .i64 p2,.slice A m c,.int .i64 p4,.string p5,.string p6] 31)=W0:=⟨_,rfl⟩
 rw[hW0] at bx hbW hsz ⊢
 clear hW0
 obtain⟨b,hb⟩:∃ b,W.heap.size=b:=⟨_,rfl⟩
 rw[hb] at bx hbW hsz HI ⊢
 have HBQ:=hid hb
 clear hb
 refine qh (qeo 10 12 (fun w'=>Box w' b 31 #[.int .i64 p1,.int .i64 p2,.slice A m c,.int .i64 p4,.string p5,.string p6]) (fun _=>True)) (by kernel_rfl) ?_
 have hS:∀ L,qeo 10 12 (fun w'=>Box w' b 31 #[.int .i64 p1,.int .i64 p2,.slice A m c,.int .i64 p4,.string p5,.string p6]) (fun _=>True) L (World.drew W0):=fun L=>⟨fun _=>bx,fun _=>trivial⟩
 refine tS 0 (hS _) ?_
 refine takeS1 (i:=1) (v:=?v1) 5 rfl rfl (by kernel_rfl) (by kernel_rfl) (by kernel_rfl) (by kernel_rfl) (by decide) (by decide) (by kernel_rfl) (fun _ _ _ h=>h) (Or.inl ⟨by rfl,fun w' hw'=>?hy1⟩) (hS _) ?rest1
 case hy1=>have a0:w'.cell? ⟨b,2,none⟩=some (.slice A m c):=hw'.cell 2;go_simp;try with_reducible rfl
 (try simp only[zT]);(try simp only[zA]);(try simp only[zS]);(try simp only[zZ])
 refine tS 3 (hS _) ?_
 refine takeS1 (i:=4) (v:=?v4) 8 rfl rfl (by kernel_rfl) (by kernel_rfl) (by kernel_rfl) (by kernel_rfl) (by decide) (by decide) (by kernel_rfl) (fun _ _ _ h=>h) (Or.inl ⟨by rfl,fun w' hw'=>?hy4⟩) (hS _) ?rest4
 case hy4=>have a0:w'.cell? ⟨b,4,none⟩=some (.string p5):=hw'.cell 4;go_simp;try with_reducible rfl
 (try simp only[zT]);(try simp only[zA]);(try simp only[zS]);(try simp only[zZ])
 refine tS 6 (hS _) ?_
 refine takeS1 (i:=7) (v:=?v7) 11 rfl rfl (by kernel_rfl) (by kernel_rfl) (by kernel_rfl) (by kernel_rfl) (by decide) (by decide) (by kernel_rfl) (fun _ _ _ h=>h) (Or.inl ⟨by rfl,fun w' hw'=>?hy7⟩) (hS _) ?rest7
 case hy7=>have a0:w'.cell? ⟨b,5,none⟩=some (.string p6):=hw'.cell 5;go_simp;try with_reducible rfl
 (try simp only[zT]);(try simp only[zA]);(try simp only[zS]);(try simp only[zZ])
 refine qy (k:=2) (by kernel_rfl) rfl (by rfl) (fun K hK=>?_)
 go_simp
 go_at_call 134
 refine(HI.out _ hbW.drew).mono ?_
 rintro e w2 ⟨v2,rfl,hv2,hb2⟩
 dsimp only
 have hb2:Below W0.heap.size W0 w2:=(Below.refl _ W0).drew.trans hb2
 have bx2:=bx.below hb2 hsz
 have hbY:=hbW.trans (hb2.mono (by omega))
 have hz2:=hb2.size
 refine hK _ _ ⟨fun _=>bx2,fun _=>trivial⟩ ?_
 clear hK K hS bx
 have hS:∀ L,qeo 10 12 (fun w'=>Box w' b 31 #[.int .i64 p1,.int .i64 p2,.slice A m c,.int .i64 p4,.string p5,.string p6]) (fun _=>True) L w2:=fun L=>⟨fun _=>bx2,fun _=>trivial⟩
 refine tS 9 (hS _) ?_
 refine qy (k:=5) (by kernel_rfl) rfl (by rfl) (fun K hK=>?_)
 go_simp
 go_at_call 135
 refine(HC1.out _).mono ?_
 rintro e w3 ⟨rfl,hb3⟩
 dsimp only
 have bx3:=bx2.below hb3 (by omega)
 have hz3:=hb3.size
 refine hK _ _ ⟨fun _=>bx3,fun _=>trivial⟩ ?_
 clear hK K
 refine qy (k:=8) (by kernel_rfl) rfl (by rfl) (fun K hK=>?_)
 go_simp
 go_at_call 135
 refine(HC2.out _).mono ?_
 rintro e w4 ⟨rfl,hb4⟩
 dsimp only
 have bx4:=bx3.below hb4 (by omega)
 have hz4:=hb4.size
 refine hK _ _ ⟨fun _=>bx4,fun _=>trivial⟩ ?_
 clear hK K
 have hv4:=((hv2.kept (Kept.of_below _ hb3)).kept (Kept.of_below _ hb4)).mono (Nat.le_refl _) (Nat.le_trans hb3.size hb4.size)
 have hb24:=hb3.trans (hb4.mono hb3.size)
 have hbZ:=hbY.trans (hb24.mono (by omega))
 obtain⟨A2,c2,rfl⟩:=hv2.spell
 have c0:w4.cell? ⟨b,0,none⟩=some (.int .i64 p1):=bx4.cell 0
 have c1:w4.cell? ⟨b,1,none⟩=some (.int .i64 p2):=bx4.cell 1
 have c2':w4.cell? ⟨b,2,none⟩=some (.slice A m c):=bx4.cell 2
 have c3:w4.cell? ⟨b,3,none⟩=some (.int .i64 p4):=bx4.cell 3
 have c4:w4.cell? ⟨b,4,none⟩=some (.string p5):=bx4.cell 4
 have c5:w4.cell? ⟨b,5,none⟩=some (.string p6):=bx4.cell 5
 obtain⟨f0,f1,f2,f3,f4,f5⟩:=qhb bx4
 refine qy (k:=10) (by kernel_rfl) rfl (by rfl) (fun K hK=>?_)
 go_simp
 refine hK _ _ ⟨fun h=>absurd h (by decide),fun _=>trivial⟩ ?_
 clear hK K hS
 have hS:∀ L w',L.getD 10 false=true→qeo 10 12 (fun w'=>Box w' b 31 #[.int .i64 p1,.int .i64 p2,.slice A m c,.int .i64 p4,.string p5,.string p6]) (fun _=>True) L w':=fun L w' h=>⟨fun h'=>(by rw[h] at h';exact absurd h' (by decide)),fun _=>trivial⟩
 refine tS 11 (hS _ _ (by decide)) ?_
 refine qy (k:=12) (by kernel_rfl) rfl (by rfl) (fun K hK=>?_)
 go_simp
 refine hK _ _ (hS _ _ (by decide)) ?_
 clear hK K
 refine tS 13 (hS _ _ (by decide)) ?_
 refine qy (k:=14) (by kernel_rfl) rfl (by rfl) (fun K hK=>?_)
 go_simp
 refine hK _ _ (hS _ _ (by decide)) ?_
 clear hK K hS
 refine qao (by kernel_rfl) ?_ _
 have bx5:Box (((w4.setCell ⟨b,2,none⟩ (.slice A2 p3.length c2)).setCell ⟨b,4,none⟩ (.string p5)).setCell ⟨b,5,none⟩ (.string p6)) b 31 #[.int .i64 p1,.int .i64 p2,.slice A2 p3.length c2,.int .i64 p4,.string p5,.string p6]:=((bx4.set (i:=2) (.slice A2 p3.length c2)).set (i:=4) (.string p5)).set (i:=5) (.string p6)
 have hg5:w4.grownBy (((w4.setCell ⟨b,2,none⟩ (.slice A2 p3.length c2)).setCell ⟨b,4,none⟩ (.string p5)).setCell ⟨b,5,none⟩ (.string p6)) (some b):=qz (qz (qz (World.grownBy.refl w4 _) _) _) _
 have hv5:=(hv4.kept (Kept.other _ bx4 (by decide) hg5)).mono (Nat.le_refl _) hg5.size
 have hb5:=hbZ.grown hg5 (by omega) (fun k e=>by cases e;exact Nat.le_refl _)
 have hz5:=hg5.size
 generalize (((w4.setCell ⟨b,2,none⟩ (.slice A2 p3.length c2)).setCell ⟨b,4,none⟩ (.string p5)).setCell ⟨b,5,none⟩ (.string p6))=w5 at *
 have hv6:NumO w5 W0.heap.size w5.heap.size (.slice A2 p3.length c2) p3:=hv5
 have HV:=hid hv6
 have HB:=hid hb5
 have HBW:=hid hbW.size
 clear hv2 hv4 hv5 hv6 hbZ hb24 hbY hb2 hb3 hb4 hg5 c0 c1 c2' c3 c4 c5 f0 f1 f2 f3 f4 f5 bx2 bx3 bx4 hb5 HC1 HC2 HI hbW
 have c0:w5.cell? ⟨b,0,none⟩=some (.int .i64 p1):=bx5.cell 0
 have c1:w5.cell? ⟨b,1,none⟩=some (.int .i64 p2):=bx5.cell 1
 have c2':w5.cell? ⟨b,2,none⟩=some (.slice A2 p3.length c2):=bx5.cell 2
 have c3:w5.cell? ⟨b,3,none⟩=some (.int .i64 p4):=bx5.cell 3
 have c4:w5.cell? ⟨b,4,none⟩=some (.string p5):=bx5.cell 4
 have c5:w5.cell? ⟨b,5,none⟩=some (.string p6):=bx5.cell 5
 have hmf:∀ (fn:Fn) (first cap:Array Value) (w:World),(Instr.makeFunc fn first cap).run Tryz.prog w=.ok (.func fn first cap) w:=fun _ _ _ _=>rfl
 clear bx5
 go_wp2
 go_ret
 have hq:=HBQ.out
 have hle:=HBW.out
 have hv:=HV.out
 have hn:w5.heap.size≤(w5.alloc (.cells (qbf w5.heap.size ⟨p1,p2,p3,p4,p5,p6⟩ (.slice A2 p3.length c2) (.slice none 0 0)) 126)).heap.size:=by simp
 refine⟨w5.heap.size,rfl,⟨.slice A2 p3.length c2,[],W0.heap.size,rfl,by omega,Nat.le_trans (show W0.heap.size≤w5.heap.size by omega) hn,⟨.slice none 0 0,by omega,Box.new _ _ _,OwnD.nil _ _,fun e he=>by cases he⟩,(hv.kept (Kept.of_below _ (qa _ _))).mono (Nat.le_refl _) hn⟩,?_⟩
 rw[hq]
 exact HB.out.alloc (by omega) _
set_option maxHeartbeats 2000000
set_option maxRecDepth 100000
theorem len_if {c:Prop} [Decidable c] {a b:Pa×List Dn} {n:Nat} (ha:a.2.length≤n) (hb:b.2.length≤n):(if c then a else b).2.length≤n:=by
 by_cases h:c
 ·rw[if_pos h];exact ha
 ·rw[if_neg h];exact hb
theorem list_if {c:Prop} [Decidable c] {d:Dn} {q:Pa}:((q,if c then [] else [d]):Pa×List Dn).2.length≤1∧((q,if c then [d] else []):Pa×List Dn).2.length≤1:=by
 by_cases h:c
 ·simp[h]
 ·simp[h]
theorem one_len (p:Pa) (c:Int):(oneP p c).2.length≤1:=by
 rw[qmu]
 unfold ql oscP qil qfp qhe qc8
 repeat' refine len_if ?_ ?_
 all_goals first | exact list_if.1 | exact list_if.2 | exact Nat.zero_le _ | exact Nat.le_refl _
theorem take_len (p:Pa) (c:Int):(qde p c).2.length≤2:=by
 have h1:=one_len p c
 have h2:=one_len { p with pend:=nilB } c
 unfold qde
 by_cases c1:p.pend.size=0
 ·rw[if_pos c1];omega
 rw[if_neg c1]
 by_cases c2:(qi (p.pend ++ qs c)).e=2
 ·rw[if_pos c2];simp
 rw[if_neg c2]
 by_cases c3:(qi (p.pend ++ qs c)).e=0
 ·rw[if_pos c3]
  simp only
  split <;> simp
 rw[if_neg c3]
 split
 ·simp only[List.length_cons];omega
 ·simp
theorem qkk:∀ (l:List Int) (p:Pa),(qaj p l).2.length≤2 * l.length
 | [],_=>by simp[qaj]
 | c :: l,p=>by
  have h1:=take_len p c
  have h2:=qkk l (qde p c).1
  rw[qaj]
  simp only[List.length_append,List.length_cons]
  omega
def FeedNo (W:World) (e:Ending) (w':World):Prop:=e=.returned (.tuple #[.agg #[.int .i64 0,.int .i64 0,.slice none 0 0,.int .i64 0,.string ⟨#[]⟩,.string ⟨#[]⟩],.slice none 0 0,.int .i64 1])∧Below W.heap.size W w'
theorem p_feed_no (p : Pa) (v : Value) (s : ByteArray) (W : World) (hT : Tab W) (hr : IRow W v p.params) (hn : p.params.length ≤ 1000000) (hz : p.pend.size ≤ 1000000) (hno : qat p = false) :
  Calls Tryz.prog 38 #[.agg (p.cells v),.string s] W (FeedNo W):=by
 have hR:=fun W1 (hb:Below W.heap.size W W1)=>qgl p v W1 (hT.below hb) (hr.below hb) hn hz
 rw[hno] at hR
 have HR:=hid hR
 obtain⟨A,c,rfl,_⟩:=hr
 have hb2:=(qa W (.cells (p.cells (.slice A p.params.length c)) 31)).alloc (by simp) (.cells #[.int .i64 0,.int .i64 0,.slice none 0 0,.int .i64 0,.string ⟨#[]⟩,.string ⟨#[]⟩] 31)
 have bx:=Box.new (W.alloc (.cells (p.cells (.slice A p.params.length c)) 31)) 31 #[.int .i64 0,.int .i64 0,.slice none 0 0,.int .i64 0,.string ⟨#[]⟩,.string ⟨#[]⟩]
 rw[World.size_alloc] at bx
 have HB2:=hid hb2
 have BX:=hid bx
 obtain⟨p1,p2,p3,p4,p5,p6⟩:=p
 unfold Pa.cells at *
 simp only at *
 generalize p3.length=m at *
 clear hR hT hno hb2 bx hn hz
 go_enter Tryz.func38,Tryz.ntmps38
 go_wp2_with (go_at_call 46;refine(HR.out _ HB2.out).mono ?_;rintro e w1 ⟨rfl,hb1⟩;have b1:=BX.out.below hb1 (by simp);have c0:w1.cell? ⟨W.heap.size+1,0,none⟩=some (.int .i64 0):=b1.cell 0;have c1:w1.cell? ⟨W.heap.size+1,1,none⟩=some (.int .i64 0):=b1.cell 1;have c2:w1.cell? ⟨W.heap.size+1,2,none⟩=some (.slice none 0 0):=b1.cell 2;have c3:w1.cell? ⟨W.heap.size+1,3,none⟩=some (.int .i64 0):=b1.cell 3;have c4:w1.cell? ⟨W.heap.size+1,4,none⟩=some (.string ⟨#[]⟩):=b1.cell 4;have c5:w1.cell? ⟨W.heap.size+1,5,none⟩=some (.string ⟨#[]⟩):=b1.cell 5;obtain⟨f0,f1,f2,f3,f4,f5⟩:=qhb b1;clear b1)
 refine bodyPost_ret (v:=.tuple #[.agg #[.int .i64 0,.int .i64 0,.slice none 0 0,.int .i64 0,.string ⟨#[]⟩,.string ⟨#[]⟩],.slice none 0 0,.int .i64 1]) (by simp[results,Tryz.results38,go_sem,c0,c1,c2,c3,c4,c5]) rfl ⟨rfl,?_⟩
 have h5:=HB2.out.trans (hb1.mono HB2.out.size)
 exact(((((h5.setCell (p:=⟨W.heap.size+1,0,none⟩) (by simp) _).setCell (p:=⟨W.heap.size+1,1,none⟩) (by simp) _).setCell (p:=⟨W.heap.size+1,2,none⟩) (by simp) _).setCell (p:=⟨W.heap.size+1,3,none⟩) (by simp) _).setCell (p:=⟨W.heap.size+1,4,none⟩) (by simp) _).setCell (p:=⟨W.heap.size+1,5,none⟩) (by simp) _
theorem qln (W:World) (row:Option Nat):W.grownBy W.drew row:=⟨rfl,rfl,rfl,Nat.le_refl _,fun _ _ _=>rfl⟩
theorem feed_end {B P b : Nat} {wr W9 : World} {v dv : Value} {l : List Int} {lv : List (Dn × Value)} {cs : Array Value} (hown : OwnD wr B dv lv) (hnum : ∀ e ∈ lv, NumO wr B P e.2 e.1.params ∧ e.1.params.length ≤ 16) (hv : NumO wr P wr.heap.size v l)
  (bx:Box wr b 31 cs) (hg:wr.grownBy W9 (some b)):IRow W9 v l∧DRow W9 dv lv:=by
 have kp:∀ k,Kept k wr W9:=fun k=>Kept.other k bx (by decide) hg
 exact⟨(hv.kept (kp _)).irow,(hown.other bx (by decide) hg).drow (fun e he=>⟨(hnum e he).1.kept (kp _),(hnum e he).2⟩)⟩
theorem own_cap {W:World} {B:Nat} {A:Option Addr} {n c:Nat} {l:List (Dn×Value)} (h:OwnD W B (.slice A n c) l):l.length≤c:=by
 rcases h.2 with ⟨e,h0⟩ | ⟨g,cap,cur,e,_,_,hc,_⟩
 ·omega
 ·cases e
  exact hc
end Go.Proofs.YtpdaekmbpafenaaGreatDoor
