
import Derived.Test.YtpdaekmbpafenaaGreatDoorGridImQ
import Derived.Test.YtpdaekmbpafenaaGreatDoorGridRbQ
import Derived.Test.YtpdaekmbpafenaaGreatDoorGridSoftQ
import Derived.Test.YtpdaekmbpafenaaGreatDoorGridRmQ
import Derived.Test.YtpdaekmbpafenaaGreatDoorGridMnQ
import Derived.Deep.DeepCutAuto
namespace Go.Proofs.YtpdaekmbpafenaaGreatDoor
set_option maxHeartbeats 2000000
set_option maxRecDepth 100000
open Go.RowKit
def scrL (ls:List Ln) (f m i cols:Nat) (a:At):List Ln:=(ls.take f ++ ls.drop (f+m)).take i ++ List.replicate m (qbe cols a) ++ (ls.take f ++ ls.drop (f+m)).drop i
theorem LR.setg {W:World} {b i:Nat} {t:TypeId} {x:Int} {A B:Option Addr} {k c j d:Nat} {l:List (Ln×Value)} (h:LR W (.slice A k c) l) (hb:Box W b t #[.int .i64 x,.slice B j d]) (u:Value):LR (W.setCell ⟨b,i,none⟩ u) (.slice A k c) l:=by
 obtain⟨A',c',e,hc,hcell⟩:=h
 refine⟨A',c',e,hc,fun hne=>?_⟩
 obtain⟨g,o,hA,hg,hcell⟩:=hcell hne
 have hgb:g≠b:=by
  rintro rfl
  obtain⟨e,he⟩:=List.exists_mem_of_ne_nil l hne
  obtain⟨j,hj⟩:=List.mem_iff_getElem?.1 he
  have:=(hcell j e hj).2
  rw[hb.cell] at this
  match q:o+j * 2+1,this with
  | 0,h=>omega
  | 1,h=>simp at h
  | n+2,h=>simp at h
 refine⟨g,o,hA,by rw[qfn];exact hg,fun j e he=>?_⟩
 have h1:∀ z,(W.setCell ⟨b,i,none⟩ u).cell? ⟨g,z,none⟩=W.cell? ⟨g,z,none⟩:=fun z=>by
  have:=Below.heap_setCell W ⟨b,i,none⟩ u g hgb
  unfold World.cell?
  simp only[this]
 rw[h1,h1]
 exact hcell j e he
def UpPost (W:World) (cols:Int) (tgt:List Ln) (gone:List (Ln×Value)) (e:Ending) (w':World):Prop :=
 ∃ A k c B j d lv',e=.returned (.tuple #[.agg #[.int .i64 cols,.slice A k c],.slice B j d,.int .i64 0])∧lv'.map Prod.fst=tgt∧LR w' (.slice A k c) lv'∧CesOf w' lv'∧LR w' (.slice B j d) gone∧Below W.heap.size W w'
def DnPost (W:World) (cols:Int) (tgt:List Ln) (e:Ending) (w':World):Prop :=
 ∃ A k c lv',e=.returned (.tuple #[.agg #[.int .i64 cols,.slice A k c],.int .i64 0])∧lv'.map Prod.fst=tgt∧LR w' (.slice A k c) lv'∧CesOf w' lv'∧Below W.heap.size W w'
theorem scr_end {W w5 : World} {cols : Int} {lv V : List (Ln × Value)} {f m i C base b0 b2 k c : Nat} {a : At} {A A0 : Option Addr} {k0 c0 : Nat} {gone : List (Ln × Value)} {Bg : Option Addr} {jg dg : Nat}
  (hlr:LR w5 (.slice A k c) ((lv.take f ++ lv.drop (f+m)).take i ++ V ++ (lv.take f ++ lv.drop (f+m)).drop i)) (hV:V.map Prod.fst=List.replicate m (qbe C a)) (hcV:∀ x∈V,CSl w5 base x.2 x.1.cs) (hc:CesOf W lv) (hg:LR w5 (.slice Bg jg dg) gone)
  (g0:Box w5 b0 24 #[.int .i64 cols,.slice A0 k0 c0]) (g2:Box w5 b2 24 #[.int .i64 0,.slice none 0 0]) (hb:Below W.heap.size W w5) (h0:W.heap.size≤b0) (h2:W.heap.size≤b2) (hne:b2≠b0) :
  ∃ lv',lv'.map Prod.fst=scrL (lv.map Prod.fst) f m i C a∧LR (((w5.setCell ⟨b0,1,none⟩ (.slice A k c)).setCell ⟨b2,0,none⟩ (.int .i64 cols)).setCell ⟨b2,1,none⟩ (.slice A k c)) (.slice A k c) lv'∧CesOf (((w5.setCell ⟨b0,1,none⟩ (.slice A k c)).setCell ⟨b2,0,none⟩ (.int .i64 cols)).setCell ⟨b2,1,none⟩ (.slice A k c)) lv'∧LR (((w5.setCell ⟨b0,1,none⟩ (.slice A k c)).setCell ⟨b2,0,none⟩ (.int .i64 cols)).setCell ⟨b2,1,none⟩ (.slice A k c)) (.slice Bg jg dg) gone ∧
   Below W.heap.size W (((w5.setCell ⟨b0,1,none⟩ (.slice A k c)).setCell ⟨b2,0,none⟩ (.int .i64 cols)).setCell ⟨b2,1,none⟩ (.slice A k c)):=by
 have q1:Box (w5.setCell ⟨b0,1,none⟩ (.slice A k c)) b2 24 #[.int .i64 0,.slice none 0 0]:=g2.other hne _
 have q2:Box ((w5.setCell ⟨b0,1,none⟩ (.slice A k c)).setCell ⟨b2,0,none⟩ (.int .i64 cols)) b2 24 #[.int .i64 cols,.slice none 0 0]:=q1.set (i:=0) _
 have hbb:Below W.heap.size W (((w5.setCell ⟨b0,1,none⟩ (.slice A k c)).setCell ⟨b2,0,none⟩ (.int .i64 cols)).setCell ⟨b2,1,none⟩ (.slice A k c)):=qcu (qcu (qcu hb h0 _) h2 _) h2 _
 refine⟨_,?_,((hlr.setg g0 _).setg q1 _).setg q2 _,fun x hx=>?_,((hg.setg g0 _).setg q1 _).setg q2 _,hbb⟩
 ·unfold scrL
  simp only[List.map_append,List.map_take,List.map_drop,hV]
 ·rw[List.mem_append,List.mem_append] at hx
  have hl:∀ y∈lv.take f ++ lv.drop (f+m),y∈lv:=fun y hy=>(List.mem_append.1 hy).elim List.mem_of_mem_take List.mem_of_mem_drop
  rcases hx with (hx | hx) | hx
  ·exact(hc.below hbb) x (hl x (List.mem_of_mem_take hx))
  ·exact(((hcV x hx).set g0 (by decide) _).set q1 (by decide) _).set q2 (by decide) _ |>.row
  ·exact(hc.below hbb) x (hl x (List.mem_of_mem_drop hx))
theorem left_src {W w2 w3 : World} {g o n c f t : Nat} {lv : List (Ln × Value)} {left : Value} (hr : LR W (.slice (some ⟨g, o, none⟩) n c) lv) (hn : lv.length = n) (hft : f ≤ t) (htn : t ≤ n) (h : OwnL w2 W.heap.size left (lv.take f ++ lv.drop t) ∨ (left = .slice (some ⟨g, o, none⟩) f f ∧ t = lv.length))
  (hW2:Below W.heap.size W w2) (hb:Below w2.heap.size w2 w3) :
  (OwnL w3 W.heap.size left (lv.take f ++ lv.drop t)∧∀ q,left.ownBlock=some q→q < w2.heap.size)∨(∃ A,left=.slice A (lv.take f ++ lv.drop t).length (lv.take f ++ lv.drop t).length∧LR w3 left (lv.take f ++ lv.drop t)):=by
 rcases h with h | ⟨rfl,rfl⟩
 ·exact .inl ⟨h.kept hb,fun q hq=>(World.ownsRow.lt h q hq).2⟩
 ·have hl:(lv.take f ++ lv.drop lv.length)=lv.take f:=by rw[List.drop_length,List.append_nil]
  have hlf:(lv.take f).length=f:=by rw[List.length_take];omega
  have h3:=hr.sub hn 0 f f (by omega) (Nat.le_refl _)
  rw[Nat.zero_mul,Nat.add_zero,List.drop_zero] at h3
  rw[hl,hlf]
  exact .inr ⟨_,rfl,h3.below (hW2.trans (hb.mono hW2.size))⟩
theorem up_no (cols top bot num : Int) (a : At) (v : Value) (lv : List (Ln × Value)) (W : World) (hg : GIn W v lv) (hT : Tab W) (hW : TabW W) (a0 : qbq cols lv top bot num a = false) :
  Calls Tryz.prog 206 #[.agg #[.int .i64 cols,v],.int .i64 top,.int .i64 bot,.int .i64 num,a.agg] W fun e w'=>e=.returned (.tuple #[.agg #[.int .i64 0,.slice none 0 0],.slice none 0 0,.int .i64 1])∧Below W.heap.size W w':=by
 obtain⟨A,c0,rfl⟩:=hg.lr.spell
 have HG:=hid hg
 have hmay:=fun w (hb:Below W.heap.size W w)=>qeq cols top bot num a _ lv w (hg.below hb) (hT.below hb) (hW.below hb)
 obtain⟨fg,bg,fl⟩:=a
 obtain⟨n,hn⟩:∃ n,lv.length=n:=⟨_,rfl⟩
 have b0:=(((Bxs.nil W).alloc 24 #[.int .i64 cols,.slice A n c0]).alloc 26 #[.int .i64 fg,.int .i64 bg,.int .i64 fl]).alloc 24 #[.int .i64 0,.slice none 0 0]
 simp only[World.size_alloc,List.nil_append,List.cons_append] at b0
 have h0:Below W.heap.size W (((W.alloc (.cells #[.int .i64 cols,.slice A n c0] 24)).alloc (.cells #[.int .i64 fg,.int .i64 bg,.int .i64 fl] 26)).alloc (.cells #[.int .i64 0,.slice none 0 0] 24)):=((qa _ _).alloc (by simp) _).alloc (by simp;omega) _
 have BX0:=hid b0
 have H0:=hid h0
 rw[hn] at hmay ⊢
 rw[a0] at hmay
 unfold At.agg at hmay ⊢
 simp only at hmay ⊢
 have HMAY:=hid hmay
 clear hg hT hW hn b0 h0 hmay a0
 go_enter Tryz.func206,Tryz.ntmps206
 go_upto_region 1 with fail
 generalize (((W.alloc (.cells #[.int .i64 cols,.slice A n c0] 24)).alloc (.cells #[.int .i64 fg,.int .i64 bg,.int .i64 fl] 26)).alloc (.cells #[.int .i64 0,.slice none 0 0] 24))=w0 at *
 obtain⟨⟨k0_0,k0_1⟩,f0_0,f0_1⟩:=(BX0.out.get 0 rfl).two
 obtain⟨⟨k1_0,k1_1,k1_2⟩,f1_0,f1_1,f1_2⟩:=(BX0.out.get 1 rfl).three
 obtain⟨⟨k2_0,k2_1⟩,f2_0,f2_1⟩:=(BX0.out.get 2 rfl).two
 have hcall:=HMAY.out w0 H0.out
 have HCALL:=hid hcall
 clear hcall
 go_wp2_with fail
 with_reducible refine HCALL.out.mono ?_
 rintro e w1 ⟨rfl,hb⟩
 dsimp only
 have BX1:=hid (BX0.out.below hb)
 have H1:=hid (H0.out.trans (hb.mono H0.out.size))
 clear hb HCALL BX0 H0
 clear k0_0 k0_1 k1_0 k1_1 k1_2 k2_0 k2_1 f0_0 f0_1 f1_0 f1_1 f1_2 f2_0 f2_1
 obtain⟨⟨k0_0,k0_1⟩,f0_0,f0_1⟩:=(BX1.out.get 0 rfl).two
 obtain⟨⟨k1_0,k1_1,k1_2⟩,f1_0,f1_1,f1_2⟩:=(BX1.out.get 1 rfl).three
 obtain⟨⟨k2_0,k2_1⟩,f2_0,f2_1⟩:=(BX1.out.get 2 rfl).two
 go_wp2
 refine bodyPost_ret (v:=.tuple #[.agg #[.int .i64 0,.slice none 0 0],.slice none 0 0,.int .i64 1]) (by simp[results,Tryz.results206,go_sem,k2_0,k2_1]) rfl ⟨rfl,?_⟩
 exact qcu (qcu H1.out (by omega) _) (by omega) _
theorem down_no (cols top bot num : Int) (a : At) (v : Value) (lv : List (Ln × Value)) (W : World) (hg : GIn W v lv) (hT : Tab W) (hW : TabW W) (a0 : qbq cols lv top bot num a = false) :
  Calls Tryz.prog 205 #[.agg #[.int .i64 cols,v],.int .i64 top,.int .i64 bot,.int .i64 num,a.agg] W fun e w'=>e=.returned (.tuple #[.agg #[.int .i64 0,.slice none 0 0],.int .i64 1])∧Below W.heap.size W w':=by
 obtain⟨A,c0,rfl⟩:=hg.lr.spell
 have HG:=hid hg
 have hmay:=fun w (hb:Below W.heap.size W w)=>qeq cols top bot num a _ lv w (hg.below hb) (hT.below hb) (hW.below hb)
 obtain⟨fg,bg,fl⟩:=a
 obtain⟨n,hn⟩:∃ n,lv.length=n:=⟨_,rfl⟩
 have b0:=(((Bxs.nil W).alloc 24 #[.int .i64 cols,.slice A n c0]).alloc 26 #[.int .i64 fg,.int .i64 bg,.int .i64 fl]).alloc 24 #[.int .i64 0,.slice none 0 0]
 simp only[World.size_alloc,List.nil_append,List.cons_append] at b0
 have h0:Below W.heap.size W (((W.alloc (.cells #[.int .i64 cols,.slice A n c0] 24)).alloc (.cells #[.int .i64 fg,.int .i64 bg,.int .i64 fl] 26)).alloc (.cells #[.int .i64 0,.slice none 0 0] 24)):=((qa _ _).alloc (by simp) _).alloc (by simp;omega) _
 have BX0:=hid b0
 have H0:=hid h0
 rw[hn] at hmay ⊢
 rw[a0] at hmay
 unfold At.agg at hmay ⊢
 simp only at hmay ⊢
 have HMAY:=hid hmay
 clear hg hT hW hn b0 h0 hmay a0
 go_enter Tryz.func205,Tryz.ntmps205
 go_upto_region 1 with fail
 generalize (((W.alloc (.cells #[.int .i64 cols,.slice A n c0] 24)).alloc (.cells #[.int .i64 fg,.int .i64 bg,.int .i64 fl] 26)).alloc (.cells #[.int .i64 0,.slice none 0 0] 24))=w0 at *
 obtain⟨⟨k0_0,k0_1⟩,f0_0,f0_1⟩:=(BX0.out.get 0 rfl).two
 obtain⟨⟨k1_0,k1_1,k1_2⟩,f1_0,f1_1,f1_2⟩:=(BX0.out.get 1 rfl).three
 obtain⟨⟨k2_0,k2_1⟩,f2_0,f2_1⟩:=(BX0.out.get 2 rfl).two
 have hcall:=HMAY.out w0 H0.out
 have HCALL:=hid hcall
 clear hcall
 go_wp2_with fail
 with_reducible refine HCALL.out.mono ?_
 rintro e w1 ⟨rfl,hb⟩
 dsimp only
 have BX1:=hid (BX0.out.below hb)
 have H1:=hid (H0.out.trans (hb.mono H0.out.size))
 clear hb HCALL BX0 H0
 clear k0_0 k0_1 k1_0 k1_1 k1_2 k2_0 k2_1 f0_0 f0_1 f1_0 f1_1 f1_2 f2_0 f2_1
 obtain⟨⟨k0_0,k0_1⟩,f0_0,f0_1⟩:=(BX1.out.get 0 rfl).two
 obtain⟨⟨k1_0,k1_1,k1_2⟩,f1_0,f1_1,f1_2⟩:=(BX1.out.get 1 rfl).three
 obtain⟨⟨k2_0,k2_1⟩,f2_0,f2_1⟩:=(BX1.out.get 2 rfl).two
 go_wp2
 refine bodyPost_ret (v:=.tuple #[.agg #[.int .i64 0,.slice none 0 0],.int .i64 1]) (by simp[results,Tryz.results205,go_sem,k2_0,k2_1]) rfl ⟨rfl,?_⟩
 exact qcu (qcu H1.out (by omega) _) (by omega) _
theorem up_yes (C T Bn M : Nat) (num : Int) (a : At) (v : Value) (lv : List (Ln × Value)) (W : World) (hg : GIn W v lv) (hT : Tab W) (hW : TabW W) (a0 : qbq C lv T Bn num a = true) (hTB : T ≤ Bn) (hBl : Bn < lv.length) (hl50 : lv.length ≤ 50) (hC : C ≤ 80) (hM : (num ≤ (Bn : Int) - (T : Int) + 1 ∧ num = M) ∨ ((Bn : Int) - (T : Int) + 1 < num ∧ (M : Int) = (Bn : Int) - (T : Int) + 1)) :
  Calls Tryz.prog 206 #[.agg #[.int .i64 (C:Int),v],.int .i64 (T:Int),.int .i64 (Bn:Int),.int .i64 num,a.agg] W (UpPost W C (scrL (lv.map Prod.fst) T M (Bn+1 - M) C a) ((lv.drop T).take M)):=by
 have hMl:M≤Bn - T+1:=by omega
 obtain⟨A,c0,rfl,_,hx⟩:=hg.lr
 obtain⟨g,o,rfl,_,_⟩:=hx (by intro e;rw[e] at hBl;simp at hBl)
 clear hx
 have HG:=hid hg
 have hmay:=fun w (hb:Below W.heap.size W w)=>qeq C T Bn num a _ lv w (hg.below hb) (hT.below hb) (hW.below hb)
 have hbl:=fun w=>qfk M C a w (by omega) (by omega)
 have hend:=fun (w5:World) A k c A0 k0 c0 V base gone Bg jg dg=>@scr_end W w5 C lv V T M (Bn+1 - M) C base W.heap.size (W.heap.size+1+1) k c a A A0 k0 c0 gone Bg jg dg
 obtain⟨fg,bg,fl⟩:=a
 obtain⟨n,hn⟩:∃ n,lv.length=n:=⟨_,rfl⟩
 have HN:=hid hn
 have b0:=(((Bxs.nil W).alloc 24 #[.int .i64 (C:Int),.slice (some ⟨g,o,none⟩) n c0]).alloc 26 #[.int .i64 fg,.int .i64 bg,.int .i64 fl]).alloc 24 #[.int .i64 0,.slice none 0 0]
 simp only[World.size_alloc,List.nil_append,List.cons_append] at b0
 have h0:Below W.heap.size W (((W.alloc (.cells #[.int .i64 (C:Int),.slice (some ⟨g,o,none⟩) n c0] 24)).alloc (.cells #[.int .i64 fg,.int .i64 bg,.int .i64 fl] 26)).alloc (.cells #[.int .i64 0,.slice none 0 0] 24)):=((qa _ _).alloc (by simp) _).alloc (by simp;omega) _
 have s0:W.heap.size+1+1+1≤(((W.alloc (.cells #[.int .i64 (C:Int),.slice (some ⟨g,o,none⟩) n c0] 24)).alloc (.cells #[.int .i64 fg,.int .i64 bg,.int .i64 fl] 26)).alloc (.cells #[.int .i64 0,.slice none 0 0] 24)).heap.size:=by simp
 have BX0:=hid b0
 have H0:=hid h0
 have S0:=hid s0
 rw[hn] at hmay ⊢
 rw[a0] at hmay
 unfold At.agg at hmay hbl ⊢
 simp only at hmay hbl ⊢
 have HMAY:=hid hmay
 have HBL:=hid hbl
 have HEND:=hid hend
 have hbn:Bn < n:=by omega
 have hn50:n≤50:=by omega
 clear hg hT hW hn b0 h0 s0 hmay hbl hend a0 hBl hl50
 go_enter Tryz.func206,Tryz.ntmps206
 go_upto_region 1 with fail
 generalize (((W.alloc (.cells #[.int .i64 (C:Int),.slice (some ⟨g,o,none⟩) n c0] 24)).alloc (.cells #[.int .i64 fg,.int .i64 bg,.int .i64 fl] 26)).alloc (.cells #[.int .i64 0,.slice none 0 0] 24))=w0 at *
 obtain⟨⟨k0_0,k0_1⟩,f0_0,f0_1⟩:=(BX0.out.get 0 rfl).two
 obtain⟨⟨k1_0,k1_1,k1_2⟩,f1_0,f1_1,f1_2⟩:=(BX0.out.get 1 rfl).three
 obtain⟨⟨k2_0,k2_1⟩,f2_0,f2_1⟩:=(BX0.out.get 2 rfl).two
 have hcall:=HMAY.out w0 H0.out
 have HCALL:=hid hcall
 clear hcall
 go_wp2_with fail
 with_reducible refine HCALL.out.mono ?_
 rintro e w1 ⟨rfl,hb⟩
 dsimp only
 have BX1:=hid (BX0.out.below hb)
 have H1:=hid (H0.out.trans (hb.mono H0.out.size))
 have S1:=hid (Nat.le_trans S0.out hb.size)
 clear hb HCALL BX0 H0 S0
 clear k0_0 k0_1 k1_0 k1_1 k1_2 k2_0 k2_1 f0_0 f0_1 f1_0 f1_1 f1_2 f2_0 f2_1
 obtain⟨⟨k0_0,k0_1⟩,f0_0,f0_1⟩:=(BX1.out.get 0 rfl).two
 obtain⟨⟨k1_0,k1_1,k1_2⟩,f1_0,f1_1,f1_2⟩:=(BX1.out.get 1 rfl).three
 obtain⟨⟨k2_0,k2_1⟩,f2_0,f2_1⟩:=(BX1.out.get 2 rfl).two
 go_upto_region 3 with fail
 go_cut [3] (fun v wx=>v=.int .i64 (M:Int)∧w1=wx)
 case first =>
  rcases hM with ⟨h1,rfl⟩ | ⟨h1,h2⟩
  ·have hTi:(T:Int)≤Bn:=by omega
   clear hMl
   go_wp2_with fail
   go_meet
   exact⟨rfl,rfl⟩
  ·have hTi:(T:Int)≤Bn:=by omega
   have H2:=hid h2
   clear h2 hMl
   go_wp2_with fail
   go_meet
   exact⟨by rw[H2.out],rfl⟩
 case rest =>
  obtain⟨rfl,rfl⟩:=hcut
  clear hM
  have hcall:=qjn g o n c0 lv T (T+M) w1 (by have h:=(HG.out.below H1.out).lr;rw[HN.out] at h;exact h) HN.out (HG.out.below H1.out).ces (by omega) (by omega) (by omega)
  rw[Int.natCast_add] at hcall
  have hi1:(0:Int)≤(T:Int)+(M:Int):=by omega
  have HCALL:=hid hcall
  clear hcall
  go_upto_region 4 with fail
  go_wp2_with fail
  with_reducible refine HCALL.out.mono ?_
  rintro e w2 ⟨gone,left,rfl,hgone,hb,hleft⟩
  dsimp only
  obtain⟨Bg,jg,dg,hgv⟩:∃ Bg jg dg,gone=.slice Bg jg dg:=by obtain⟨A4,c4,h⟩:=hgone.spell;exact⟨_,_,_,h⟩
  subst hgv
  have HGONE:=hid hgone
  have HB2:=hid hb
  have HLEFT:=hid hleft
  have BX2:=hid (BX1.out.below hb)
  clear hgone hb hleft HCALL
  clear k0_0 k0_1 k1_0 k1_1 k1_2 k2_0 k2_1 f0_0 f0_1 f1_0 f1_1 f1_2 f2_0 f2_1
  obtain⟨⟨k0_0,k0_1⟩,f0_0,f0_1⟩:=(BX2.out.get 0 rfl).two
  obtain⟨⟨k1_0,k1_1,k1_2⟩,f1_0,f1_1,f1_2⟩:=(BX2.out.get 1 rfl).three
  obtain⟨⟨k2_0,k2_1⟩,f2_0,f2_1⟩:=(BX2.out.get 2 rfl).two
  go_upto_region 5 with fail
  go_wp2_with fail
  with_reducible refine(HBL.out _).mono ?_
  rintro e w3 ⟨vv,V,rfl,hmV,hlV,hcV,hb⟩
  dsimp only
  have BX3:=hid (BX2.out.below hb)
  have hsrc:=left_src (f:=T) (t:=T+M) (by have h:=(HG.out.below H1.out).lr;rw[HN.out] at h;exact h) HN.out (by omega) (by omega) HLEFT.out HB2.out hb
  have hb13:=HB2.out.trans (hb.mono HB2.out.size)
  have hVl:V.length=M:=by have:=congrArg List.length hmV;simpa using this
  have hLl:(lv.take T ++ lv.drop (T+M)).length=n - M:=by rw[List.length_append,List.length_take,List.length_drop,HN.out];omega
  have hcl:CesOf w3 (lv.take T ++ lv.drop (T+M)):=fun x hx=>((HG.out.below H1.out).ces.below hb13) x ((List.mem_append.1 hx).elim List.mem_of_mem_take List.mem_of_mem_drop)
  have hcall:=ins_any left vv (lv.take T ++ lv.drop (T+M)) V (Bn+1 - M) w1.heap.size w2.heap.size w3 hsrc hlV hcl (fun x hx=>(hcV x hx).row) (by omega) (by omega) hb13.size HB2.out.size
  rw[show ((Bn+1 - M:Nat):Int)=(Bn:Int)+1 - (M:Int) by omega] at hcall
  have HCALL:=hid hcall
  have HB3:=hid hb13
  have HMV:=hid hmV
  have HCV:=hid hcV
  clear hcall hsrc hb13 hVl hLl hcl hmV hlV hcV hb HLEFT HBL
  clear k0_0 k0_1 k1_0 k1_1 k1_2 k2_0 k2_1 f0_0 f0_1 f1_0 f1_1 f1_2 f2_0 f2_1
  obtain⟨⟨k0_0,k0_1⟩,f0_0,f0_1⟩:=(BX3.out.get 0 rfl).two
  obtain⟨⟨k1_0,k1_1,k1_2⟩,f1_0,f1_1,f1_2⟩:=(BX3.out.get 1 rfl).three
  obtain⟨⟨k2_0,k2_1⟩,f2_0,f2_1⟩:=(BX3.out.get 2 rfl).two
  go_wp2_with fail
  with_reducible refine HCALL.out.mono ?_
  rintro e w4 ⟨v',rfl,hlr,hbb,hcs,hbx⟩
  dsimp only
  have HB4:=hid (H1.out.trans ((HB3.out.trans (hbb.mono (Nat.le_refl _))).mono H1.out.size))
  obtain⟨A4,k4,c4,hv4⟩:∃ A4 k4 c4,v'=.slice A4 k4 c4:=by obtain⟨A4,c4,h⟩:=hlr.spell;exact⟨_,_,_,h⟩
  subst hv4
  have g0:=hbx _ 24 _ (by decide) (BX3.out.get 0 rfl)
  have g1:=hbx _ 26 _ (by decide) (BX3.out.get 1 rfl)
  have g2:=hbx _ 24 _ (by decide) (BX3.out.get 2 rfl)
  simp only at g0 g1 g2
  have hcv4:∀ x∈V,CSl w4 w2.heap.size x.2 x.1.cs:=fun x hx=>hcs _ _ _ (HCV.out x hx)
  have hfin:=HEND.out w4 _ _ _ _ _ _ V w2.heap.size _ _ _ _ hlr HMV.out hcv4 HG.out.ces (HGONE.out.below (HB3.out.trans hbb)) g0 g2 HB4.out (Nat.le_refl _) (by omega) (by omega)
  have HFIN:=hid hfin
  clear hcv4 hfin hlr hbb hcs hbx HCALL k0_0 k0_1 k1_0 k1_1 k1_2 k2_0 k2_1 f0_0 f0_1 f1_0 f1_1 f1_2 f2_0 f2_1
  obtain⟨⟨k0_0,k0_1⟩,f0_0,f0_1⟩:=g0.two
  obtain⟨⟨k1_0,k1_1,k1_2⟩,f1_0,f1_1,f1_2⟩:=g1.three
  obtain⟨⟨k2_0,k2_1⟩,f2_0,f2_1⟩:=g2.two
  clear g0 g1 g2
  go_wp2
  refine bodyPost_ret (v:=.tuple #[.agg #[.int .i64 (C:Int),.slice A4 k4 c4],.slice Bg jg dg,.int .i64 0]) (by simp[results,Tryz.results206,go_sem,k2_0,k2_1]) rfl ?_
  obtain⟨lv',h1,h2,h3,h4,h5⟩:=HFIN.out
  rw[Nat.add_sub_cancel_left] at h4
  exact⟨_,_,_,_,_,_,lv',rfl,h1,h2,h3,h4,h5⟩
theorem down_yes (C T Bn M : Nat) (num : Int) (a : At) (v : Value) (lv : List (Ln × Value)) (W : World) (hg : GIn W v lv) (hT : Tab W) (hW : TabW W) (a0 : qbq C lv T Bn num a = true) (hTB : T ≤ Bn) (hBl : Bn < lv.length) (hl50 : lv.length ≤ 50) (hC : C ≤ 80) (hM : (num ≤ (Bn : Int) - (T : Int) + 1 ∧ num = M) ∨ ((Bn : Int) - (T : Int) + 1 < num ∧ (M : Int) = (Bn : Int) - (T : Int) + 1)) :
  Calls Tryz.prog 205 #[.agg #[.int .i64 (C:Int),v],.int .i64 (T:Int),.int .i64 (Bn:Int),.int .i64 num,a.agg] W (DnPost W C (scrL (lv.map Prod.fst) (Bn+1 - M) M T C a)):=by
 have hMl:M≤Bn - T+1:=by omega
 obtain⟨A,c0,rfl,_,hx⟩:=hg.lr
 obtain⟨g,o,rfl,_,_⟩:=hx (by intro e;rw[e] at hBl;simp at hBl)
 clear hx
 have HG:=hid hg
 have hmay:=fun w (hb:Below W.heap.size W w)=>qeq C T Bn num a _ lv w (hg.below hb) (hT.below hb) (hW.below hb)
 have hbl:=fun w=>qfk M C a w (by omega) (by omega)
 have hend:=fun (w5:World) A k c A0 k0 c0 V base gone Bg jg dg=>@scr_end W w5 C lv V (Bn+1 - M) M T C base W.heap.size (W.heap.size+1+1) k c a A A0 k0 c0 gone Bg jg dg
 obtain⟨fg,bg,fl⟩:=a
 obtain⟨n,hn⟩:∃ n,lv.length=n:=⟨_,rfl⟩
 have HN:=hid hn
 have b0:=(((Bxs.nil W).alloc 24 #[.int .i64 (C:Int),.slice (some ⟨g,o,none⟩) n c0]).alloc 26 #[.int .i64 fg,.int .i64 bg,.int .i64 fl]).alloc 24 #[.int .i64 0,.slice none 0 0]
 simp only[World.size_alloc,List.nil_append,List.cons_append] at b0
 have h0:Below W.heap.size W (((W.alloc (.cells #[.int .i64 (C:Int),.slice (some ⟨g,o,none⟩) n c0] 24)).alloc (.cells #[.int .i64 fg,.int .i64 bg,.int .i64 fl] 26)).alloc (.cells #[.int .i64 0,.slice none 0 0] 24)):=((qa _ _).alloc (by simp) _).alloc (by simp;omega) _
 have s0:W.heap.size+1+1+1≤(((W.alloc (.cells #[.int .i64 (C:Int),.slice (some ⟨g,o,none⟩) n c0] 24)).alloc (.cells #[.int .i64 fg,.int .i64 bg,.int .i64 fl] 26)).alloc (.cells #[.int .i64 0,.slice none 0 0] 24)).heap.size:=by simp
 have BX0:=hid b0
 have H0:=hid h0
 have S0:=hid s0
 rw[hn] at hmay ⊢
 rw[a0] at hmay
 unfold At.agg at hmay hbl ⊢
 simp only at hmay hbl ⊢
 have HMAY:=hid hmay
 have HBL:=hid hbl
 have HEND:=hid hend
 have hbn:Bn < n:=by omega
 have hn50:n≤50:=by omega
 clear hg hT hW hn b0 h0 s0 hmay hbl hend a0 hBl hl50
 go_enter Tryz.func205,Tryz.ntmps205
 go_upto_region 1 with fail
 generalize (((W.alloc (.cells #[.int .i64 (C:Int),.slice (some ⟨g,o,none⟩) n c0] 24)).alloc (.cells #[.int .i64 fg,.int .i64 bg,.int .i64 fl] 26)).alloc (.cells #[.int .i64 0,.slice none 0 0] 24))=w0 at *
 obtain⟨⟨k0_0,k0_1⟩,f0_0,f0_1⟩:=(BX0.out.get 0 rfl).two
 obtain⟨⟨k1_0,k1_1,k1_2⟩,f1_0,f1_1,f1_2⟩:=(BX0.out.get 1 rfl).three
 obtain⟨⟨k2_0,k2_1⟩,f2_0,f2_1⟩:=(BX0.out.get 2 rfl).two
 have hcall:=HMAY.out w0 H0.out
 have HCALL:=hid hcall
 clear hcall
 go_wp2_with fail
 with_reducible refine HCALL.out.mono ?_
 rintro e w1 ⟨rfl,hb⟩
 dsimp only
 have BX1:=hid (BX0.out.below hb)
 have H1:=hid (H0.out.trans (hb.mono H0.out.size))
 have S1:=hid (Nat.le_trans S0.out hb.size)
 clear hb HCALL BX0 H0 S0
 clear k0_0 k0_1 k1_0 k1_1 k1_2 k2_0 k2_1 f0_0 f0_1 f1_0 f1_1 f1_2 f2_0 f2_1
 obtain⟨⟨k0_0,k0_1⟩,f0_0,f0_1⟩:=(BX1.out.get 0 rfl).two
 obtain⟨⟨k1_0,k1_1,k1_2⟩,f1_0,f1_1,f1_2⟩:=(BX1.out.get 1 rfl).three
 obtain⟨⟨k2_0,k2_1⟩,f2_0,f2_1⟩:=(BX1.out.get 2 rfl).two
 go_upto_region 3 with fail
 go_cut [3] (fun v wx=>v=.int .i64 (M:Int)∧w1=wx)
 case first =>
  rcases hM with ⟨h1,rfl⟩ | ⟨h1,h2⟩
  ·have hTi:(T:Int)≤Bn:=by omega
   clear hMl
   go_wp2_with fail
   go_meet
   exact⟨rfl,rfl⟩
  ·have hTi:(T:Int)≤Bn:=by omega
   have H2:=hid h2
   clear h2 hMl
   go_wp2_with fail
   go_meet
   exact⟨by rw[H2.out],rfl⟩
 case rest =>
  obtain⟨rfl,rfl⟩:=hcut
  clear hM
  have hcall:=qjn g o n c0 lv (Bn+1 - M) ((Bn+1 - M)+M) w1 (by have h:=(HG.out.below H1.out).lr;rw[HN.out] at h;exact h) HN.out (HG.out.below H1.out).ces (by omega) (by omega) (by omega)
  rw[show ((Bn+1 - M:Nat):Int)=(Bn:Int)+1 - (M:Int) by omega,show ((Bn+1 - M+M:Nat):Int)=(Bn:Int)+1 by omega] at hcall
  have HCALL:=hid hcall
  clear hcall
  go_upto_region 4 with fail
  go_wp2_with fail
  with_reducible refine HCALL.out.mono ?_
  rintro e w2 ⟨gone,left,rfl,hgone,hb,hleft⟩
  dsimp only
  obtain⟨Bg,jg,dg,hgv⟩:∃ Bg jg dg,gone=.slice Bg jg dg:=by obtain⟨A4,c4,h⟩:=hgone.spell;exact⟨_,_,_,h⟩
  subst hgv
  have HGONE:=hid hgone
  have HB2:=hid hb
  have HLEFT:=hid hleft
  have BX2:=hid (BX1.out.below hb)
  clear hgone hb hleft HCALL
  clear k0_0 k0_1 k1_0 k1_1 k1_2 k2_0 k2_1 f0_0 f0_1 f1_0 f1_1 f1_2 f2_0 f2_1
  obtain⟨⟨k0_0,k0_1⟩,f0_0,f0_1⟩:=(BX2.out.get 0 rfl).two
  obtain⟨⟨k1_0,k1_1,k1_2⟩,f1_0,f1_1,f1_2⟩:=(BX2.out.get 1 rfl).three
  obtain⟨⟨k2_0,k2_1⟩,f2_0,f2_1⟩:=(BX2.out.get 2 rfl).two
  go_upto_region 5 with fail
  go_wp2_with fail
  with_reducible refine(HBL.out _).mono ?_
  rintro e w3 ⟨vv,V,rfl,hmV,hlV,hcV,hb⟩
  dsimp only
  have BX3:=hid (BX2.out.below hb)
  have hsrc:=left_src (f:=(Bn+1 - M)) (t:=(Bn+1 - M)+M) (by have h:=(HG.out.below H1.out).lr;rw[HN.out] at h;exact h) HN.out (by omega) (by omega) HLEFT.out HB2.out hb
  have hb13:=HB2.out.trans (hb.mono HB2.out.size)
  have hVl:V.length=M:=by have:=congrArg List.length hmV;simpa using this
  have hLl:(lv.take (Bn+1 - M) ++ lv.drop ((Bn+1 - M)+M)).length=n - M:=by rw[List.length_append,List.length_take,List.length_drop,HN.out];omega
  have hcl:CesOf w3 (lv.take (Bn+1 - M) ++ lv.drop ((Bn+1 - M)+M)):=fun x hx=>((HG.out.below H1.out).ces.below hb13) x ((List.mem_append.1 hx).elim List.mem_of_mem_take List.mem_of_mem_drop)
  have hcall:=ins_any left vv (lv.take (Bn+1 - M) ++ lv.drop ((Bn+1 - M)+M)) V T w1.heap.size w2.heap.size w3 hsrc hlV hcl (fun x hx=>(hcV x hx).row) (by omega) (by omega) hb13.size HB2.out.size
  have HCALL:=hid hcall
  have HB3:=hid hb13
  have HMV:=hid hmV
  have HCV:=hid hcV
  clear hcall hsrc hb13 hVl hLl hcl hmV hlV hcV hb HLEFT HBL
  clear k0_0 k0_1 k1_0 k1_1 k1_2 k2_0 k2_1 f0_0 f0_1 f1_0 f1_1 f1_2 f2_0 f2_1
  obtain⟨⟨k0_0,k0_1⟩,f0_0,f0_1⟩:=(BX3.out.get 0 rfl).two
  obtain⟨⟨k1_0,k1_1,k1_2⟩,f1_0,f1_1,f1_2⟩:=(BX3.out.get 1 rfl).three
  obtain⟨⟨k2_0,k2_1⟩,f2_0,f2_1⟩:=(BX3.out.get 2 rfl).two
  go_wp2_with fail
  with_reducible refine HCALL.out.mono ?_
  rintro e w4 ⟨v',rfl,hlr,hbb,hcs,hbx⟩
  dsimp only
  have HB4:=hid (H1.out.trans ((HB3.out.trans (hbb.mono (Nat.le_refl _))).mono H1.out.size))
  obtain⟨A4,k4,c4,hv4⟩:∃ A4 k4 c4,v'=.slice A4 k4 c4:=by obtain⟨A4,c4,h⟩:=hlr.spell;exact⟨_,_,_,h⟩
  subst hv4
  have g0:=hbx _ 24 _ (by decide) (BX3.out.get 0 rfl)
  have g1:=hbx _ 26 _ (by decide) (BX3.out.get 1 rfl)
  have g2:=hbx _ 24 _ (by decide) (BX3.out.get 2 rfl)
  simp only at g0 g1 g2
  have hcv4:∀ x∈V,CSl w4 w2.heap.size x.2 x.1.cs:=fun x hx=>hcs _ _ _ (HCV.out x hx)
  have hfin:=HEND.out w4 _ _ _ _ _ _ V w2.heap.size _ _ _ _ hlr HMV.out hcv4 HG.out.ces (HGONE.out.below (HB3.out.trans hbb)) g0 g2 HB4.out (Nat.le_refl _) (by omega) (by omega)
  have HFIN:=hid hfin
  clear hcv4 hfin hlr hbb hcs hbx HCALL k0_0 k0_1 k1_0 k1_1 k1_2 k2_0 k2_1 f0_0 f0_1 f1_0 f1_1 f1_2 f2_0 f2_1
  obtain⟨⟨k0_0,k0_1⟩,f0_0,f0_1⟩:=g0.two
  obtain⟨⟨k1_0,k1_1,k1_2⟩,f1_0,f1_1,f1_2⟩:=g1.three
  obtain⟨⟨k2_0,k2_1⟩,f2_0,f2_1⟩:=g2.two
  clear g0 g1 g2
  go_wp2
  refine bodyPost_ret (v:=.tuple #[.agg #[.int .i64 (C:Int),.slice A4 k4 c4],.int .i64 0]) (by simp[results,Tryz.results205,go_sem,k2_0,k2_1]) rfl ?_
  obtain⟨lv',h1,h2,h3,h4,h5⟩:=HFIN.out
  exact⟨_,_,_,lv',rfl,h1,h2,h3,h5⟩
def qgh (top bot num:Int):Nat:=(min num (bot - top+1)).toNat
def upT (ls:List Ln) (cols top bot num:Int) (a:At):List Ln:=scrL ls top.toNat (qgh top bot num) (bot.toNat+1 - qgh top bot num) cols.toNat a
def qjj (ls:List Ln) (cols top bot num:Int) (a:At):List Ln:=scrL ls (bot.toNat+1 - qgh top bot num) (qgh top bot num) top.toNat cols.toNat a
def UOut (W:World) (cols:Int) (ok:Bool) (tgt:List Ln) (gone:List (Ln×Value)) (e:Ending) (w':World):Prop :=
 ∃ xc A k c B j d xn,e=.returned (.tuple #[.agg #[.int .i64 xc,.slice A k c],.slice B j d,.int .i64 xn])∧Below W.heap.size W w' ∧
  ((ok=true∧xc=cols∧xn=0∧∃ lv',lv'.map Prod.fst=tgt∧LR w' (.slice A k c) lv'∧CesOf w' lv'∧LR w' (.slice B j d) gone)∨(ok=false∧xc=0∧(.slice A k c:Value)=.slice none 0 0∧(.slice B j d:Value)=.slice none 0 0∧xn=1))
def DOut (W:World) (cols:Int) (ok:Bool) (tgt:List Ln) (e:Ending) (w':World):Prop :=
 ∃ xc A k c xn,e=.returned (.tuple #[.agg #[.int .i64 xc,.slice A k c],.int .i64 xn])∧Below W.heap.size W w' ∧
  ((ok=true∧xc=cols∧xn=0∧∃ lv',lv'.map Prod.fst=tgt∧LR w' (.slice A k c) lv'∧CesOf w' lv')∨(ok=false∧xc=0∧(.slice A k c:Value)=.slice none 0 0∧xn=1))
theorem scr_parts {cols top bot num : Int} {a : At} {lv : List (Ln × Value)} (h : qbq cols lv top bot num a = true) :
  ∃ C T Bn M:Nat,cols=C∧top=T∧bot=Bn∧T≤Bn∧Bn < lv.length∧lv.length≤50∧C≤80∧qgh top bot num=M∧((num≤(Bn:Int) - (T:Int)+1∧num=M)∨((Bn:Int) - (T:Int)+1 < num∧(M:Int)=(Bn:Int) - (T:Int)+1))∧M≤Bn+1:=by
 unfold qbq at h
 simp only[Bool.and_eq_true,decide_eq_true_iff] at h
 obtain⟨h0,h1,h2,h3,h4,_⟩:=h
 have hcc:=mayB_cols h0
 have ht:0≤top∧top < lv.length:=of_decide_eq_true h1
 have hb:0≤bot∧bot < lv.length:=of_decide_eq_true h2
 refine⟨cols.toNat,top.toNat,bot.toNat,qgh top bot num,by omega,by omega,by omega,by omega,by omega,by omega,by omega,rfl,?_,?_⟩
 all_goals
  unfold qgh
  simp only[Int.min_def]
  split <;> omega
theorem up_out (cols top bot num : Int) (a : At) (v : Value) (lv : List (Ln × Value)) (W : World) (hg : GIn W v lv) (hT : Tab W) (hW : TabW W) :
  Calls Tryz.prog 206 #[.agg #[.int .i64 cols,v],.int .i64 top,.int .i64 bot,.int .i64 num,a.agg] W (UOut W cols (qbq cols lv top bot num a) (upT (lv.map Prod.fst) cols top bot num a) ((lv.drop top.toNat).take (qgh top bot num))):=by
 cases a0:qbq cols lv top bot num a
 ·exact(up_no cols top bot num a v lv W hg hT hW a0).mono fun _ _ ⟨he,hb⟩=>⟨0,none,0,0,none,0,0,1,he,hb,.inr ⟨rfl,rfl,rfl,rfl,rfl⟩⟩
 ·obtain⟨C,T,Bn,M,rfl,rfl,rfl,h1,h2,h3,h4,h5,h6,h7⟩:=scr_parts a0
  refine(up_yes C T Bn M num a v lv W hg hT hW a0 h1 h2 h3 h4 h6).mono fun e w' ⟨A,k,c,B,j,d,lv',he,q1,q2,q3,q4,q5⟩=>?_
  refine⟨C,A,k,c,B,j,d,0,he,q5,.inl ⟨rfl,rfl,rfl,lv',?_,q2,q3,?_⟩⟩
  ·unfold upT
   rw[h5,Int.toNat_natCast,Int.toNat_natCast,Int.toNat_natCast,q1]
  ·rw[h5,Int.toNat_natCast];exact q4
theorem down_out (cols top bot num : Int) (a : At) (v : Value) (lv : List (Ln × Value)) (W : World) (hg : GIn W v lv) (hT : Tab W) (hW : TabW W) :
  Calls Tryz.prog 205 #[.agg #[.int .i64 cols,v],.int .i64 top,.int .i64 bot,.int .i64 num,a.agg] W (DOut W cols (qbq cols lv top bot num a) (qjj (lv.map Prod.fst) cols top bot num a)):=by
 cases a0:qbq cols lv top bot num a
 ·exact(down_no cols top bot num a v lv W hg hT hW a0).mono fun _ _ ⟨he,hb⟩=>⟨0,none,0,0,1,he,hb,.inr ⟨rfl,rfl,rfl,rfl⟩⟩
 ·obtain⟨C,T,Bn,M,rfl,rfl,rfl,h1,h2,h3,h4,h5,h6,h7⟩:=scr_parts a0
  refine(down_yes C T Bn M num a v lv W hg hT hW a0 h1 h2 h3 h4 h6).mono fun e w' ⟨A,k,c,lv',he,q1,q2,q3,q5⟩=>?_
  refine⟨C,A,k,c,0,he,q5,.inl ⟨rfl,rfl,rfl,lv',?_,q2,q3⟩⟩
  unfold qjj
  rw[h5,Int.toNat_natCast,Int.toNat_natCast,Int.toNat_natCast,q1]
end Go.Proofs.YtpdaekmbpafenaaGreatDoor
