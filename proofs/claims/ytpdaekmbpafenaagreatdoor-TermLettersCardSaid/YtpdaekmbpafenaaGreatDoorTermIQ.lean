
import Derived.Test.YtpdaekmbpafenaaGreatDoorTermFQ
import Derived.Test.YtpdaekmbpafenaaGreatDoorGridRmQ
namespace Go.Proofs.YtpdaekmbpafenaaGreatDoor
set_option maxHeartbeats 2000000
set_option maxRecDepth 100000
open Go.RowKit
section
variable {M:World→Value→Prop} {b:Nat} {mv:Value} {t:Tm} {W:World}
def qhk (W:World) (cols:Int) (tgt:Ln) (e:Ending) (w':World):Prop :=
 ∃ A c lvl,e=.returned (.tuple #[.agg #[.int .i64 cols,.slice A 1 c],.int .i64 0])∧Below W.heap.size W w'∧LR w' (.slice A 1 c) [(tgt,lvl)]∧CesOf w' [(tgt,lvl)]
theorem qgw {W:World} {cols n:Int} {x:Ln×Value} {tgt:Ln} {e:Ending} {w':World} (hc:CesOf W [x]) (h:GOut W cols [x] true n [tgt] e w'):qhk W cols tgt e w':=by
 obtain⟨xc,A,k,c,xn,rfl,hb,hw⟩:=h
 rcases hw with ⟨_,rfl,rfl,lv',hm,hl,hn⟩ | ⟨h,_⟩
 ·match lv',hm with
  | [(l,u)],hm =>
   have hlt:l=tgt:=by simpa using hm
   subst hlt
   obtain⟨A',c',e'⟩:=hl.spell
   cases e'
   exact⟨A,c,u,rfl,hb,hl.row,hn.ces (hc.below hb)⟩
 ·cases h
theorem qif {cols:Int} {ls:List Ln} (h:qm ⟨cols,ls⟩=true) {l:Ln} (hl:l∈ls) (u:Value):qbd cols [(l,u)]=true:=by
 have hb:=qd h
 have hf:=rg_at h hl
 rw[qju]
 show qm ⟨cols,[l]⟩=true
 exact rightG_iff.2 ⟨⟨hb.1,hb.2.1⟩,⟨Nat.le_refl _,by show 1≤50;omega⟩,fun x hx=>by
  have hxl:x=l:=by simpa using hx
  rw[hxl]
  exact hf⟩
theorem putC_any (cols : Int) (A : Option Addr) (c : Nat) (ln : Ln) (lvl : Value) (col : Int) (x : Ce) (bc bl : Nat) (hg : GIn W (.slice A 1 c) [(ln, lvl)]) (hT : Tab W) (hW : TabW W) (hbc : Box W bc 3 #[.int .i64 col]) (hbl : Box W bl 57 #[.string x.tx, .int .i64 x.wd, .int .i64 x.fg, .int .i64 x.bg, .int .i64 x.fl]) (hok : qiy cols [(ln, lvl)] 0 col x = true) (hroom : roomB cols col x = false) (htx : x.tx.size ≤ 1000) :
  Calls Tryz.prog 239 #[.agg #[.int .i64 cols,.slice A 1 c],.pointer (some ⟨bc,0,none⟩),.pointer (some ⟨bl,0,none⟩)] W (qhk W cols ⟨qac 1 (qga ln.cs col.toNat x),ln.soft⟩):=by
 have hl0:=hbc.lt
 have hl1:=hbl.lt
 have p0:=hbc.cell 0
 obtain⟨⟨p1,p2,p3,p4,p5⟩,_⟩:=hbl.five
 have hraw:=fun W' (hb:Below W.heap.size W W')=>(put_out cols 0 col (.slice A 1 c) [(ln,lvl)] x W' (hg.below hb) htx (hT.below hb) (hW.below hb))
 rw[hok,hroom] at hraw
 unfold Ce.agg Ce.cells at hraw
 have hcall:=fun W' (hb:Below W.heap.size W W')=>(hraw W' hb).mono (fun e w' hq=>qgw (tgt:=⟨qac 1 (qga ln.cs col.toNat x),ln.soft⟩) (hg.ces.below hb) hq)
 have HC:=hid hcall
 have h0:Below W.heap.size W (W.alloc (.cells #[.int .i64 cols,.slice A 1 c] 24)):=qa _ _
 have b0:=((Bxs.nil W).alloc 24 #[.int .i64 cols,.slice A 1 c]).alloc 24 #[.int .i64 0,.slice none 0 0]
 simp only[World.size_alloc,List.nil_append,List.cons_append] at b0
 have BX:=hid b0
 have H0:=hid h0
 have H1:=hid (h0.alloc h0.size gz)
 clear hraw hcall hg hT hW hok b0 h0 hroom htx hbc hbl
 go_enter Tryz.func239,Tryz.ntmps239
 go_upto_region 1 with fail
 generalize hw1:((W.alloc (.cells #[.int .i64 cols,.slice A 1 c] 24)).alloc (.cells #[.int .i64 0,.slice none 0 0] 24))=w1 at *
 obtain⟨⟨k0,k1⟩,f0,f1⟩:=(BX.out.get 0 rfl).two
 obtain⟨⟨r0,r1⟩,g0,g1⟩:=(BX.out.get 1 rfl).two
 obtain⟨hc,hf⟩:=qag H1.out
 have HW1:=hid hw1
 clear hw1
 go_wp2_with fail
 with_reducible refine(HC.out _ H1.out).mono ?_
 rintro e w2 ⟨A2,c2,lvl2,rfl,hb2,q1,q2⟩
 dsimp only
 have hb3:Below w1.heap.size w1 w2:=hb2
 clear k0 k1 f0 f1 r0 r1 g0 g1 hc hf hb2
 have hz:=(BX.out.get 1 rfl).below hb3 (BX.out.get 1 rfl).lt
 obtain⟨⟨r0,r1⟩,g0,g1⟩:=hz.two
 have hb9:Below ((W.alloc (.cells #[.int .i64 cols,.slice A 1 c] 24)).alloc gz).heap.size ((W.alloc (.cells #[.int .i64 cols,.slice A 1 c] 24)).alloc gz) w2:=by rw[show ((W.alloc (.cells #[.int .i64 cols,.slice A 1 c] 24)).alloc gz)=w1 from HW1.out];exact hb3
 have hn:=qb7 (cols:=cols) (v:=.slice A2 1 c2) H0.out hb9
 rw[World.size_alloc] at hn
 have hend:qhk W cols ⟨qac 1 (qga ln.cs col.toNat x),ln.soft⟩ (.returned (.tuple #[.agg #[.int .i64 cols,.slice A2 1 c2],.int .i64 0])) _:=⟨A2,c2,lvl2,rfl,hn.1.bel,hn.2.1 _ _ q1,hn.2.ces q2⟩
 have HE:=hid hend
 clear hz hb9 hn hend q1 q2
 clear hb3
 go_wp2
 exact bodyPost_ret (v:=.tuple #[.agg #[.int .i64 cols,.slice A2 1 c2],.int .i64 0]) (by simp[results,Tryz.results239,go_sem,r0,r1]) rfl HE.out
theorem eraseC_any (cols : Int) (A : Option Addr) (c : Nat) (ln : Ln) (lvl : Value) (fr tt : Int) (bf bt bp : Nat) (hg : GIn W (.slice A 1 c) [(ln, lvl)]) (hT : Tab W) (hW : TabW W) (hbf : Box W bf 3 #[.int .i64 fr]) (hbt : Box W bt 3 #[.int .i64 tt]) (hbp : Box W bp 85 #[.pointer (some ⟨b, 0, none⟩)]) (h : TAt M b mv t W) (hok : qjo cols [(ln, lvl)] 0 fr tt t.lk = true) :
  Calls Tryz.prog 199 #[.agg #[.int .i64 cols,.slice A 1 c],.pointer (some ⟨bf,0,none⟩),.pointer (some ⟨bt,0,none⟩),.pointer (some ⟨bp,0,none⟩)] W (qhk W cols ⟨qac 1 (qa2 ln.cs fr.toNat (tt - fr).toNat t.lk),ln.soft⟩):=by
 have hl0:=hbf.lt
 have hl1:=hbt.lt
 have hl2:=hbp.lt
 have hl3:=h.lt
 have p0:=hbf.cell 0
 have p1:=hbt.cell 0
 have p2:=hbp.cell 0
 have p3:=h.c_fg.1
 have p4:=h.c_bg.1
 have p5:=h.c_fl.1
 have hraw:=fun W' (hb:Below W.heap.size W W')=>(erase_out cols 0 fr tt t.lk (.slice A 1 c) [(ln,lvl)] W' (hg.below hb) (hT.below hb) (hW.below hb))
 rw[hok] at hraw
 unfold At.agg at hraw
 have hcall:=fun W' (hb:Below W.heap.size W W')=>(hraw W' hb).mono (fun e w' hq=>qgw (tgt:=⟨qac 1 (qa2 ln.cs fr.toNat (tt - fr).toNat t.lk),ln.soft⟩) (hg.ces.below hb) hq)
 have HC:=hid hcall
 have h0:Below W.heap.size W (W.alloc (.cells #[.int .i64 cols,.slice A 1 c] 24)):=qa _ _
 have b0:=((Bxs.nil W).alloc 24 #[.int .i64 cols,.slice A 1 c]).alloc 24 #[.int .i64 0,.slice none 0 0]
 simp only[World.size_alloc,List.nil_append,List.cons_append] at b0
 have BX:=hid b0
 have H0:=hid h0
 have H1:=hid (h0.alloc h0.size gz)
 clear hraw hcall hg hT hW hok b0 h0 hbf hbt hbp h
 go_enter Tryz.func199,Tryz.ntmps199
 go_upto_region 1 with fail
 generalize hw1:((W.alloc (.cells #[.int .i64 cols,.slice A 1 c] 24)).alloc (.cells #[.int .i64 0,.slice none 0 0] 24))=w1 at *
 obtain⟨⟨k0,k1⟩,f0,f1⟩:=(BX.out.get 0 rfl).two
 obtain⟨⟨r0,r1⟩,g0,g1⟩:=(BX.out.get 1 rfl).two
 obtain⟨hc,hf⟩:=qag H1.out
 have HW1:=hid hw1
 clear hw1
 go_wp2_with fail
 clear hc hf r0 r1 g0 g1
 have hS0:(fun w'=>Below w1.heap.size w1 w') _:=qf w1 1
 refine qh (qcy 11 (fun w'=>Below w1.heap.size w1 w')) (by kernel_rfl) ?_
 refine tG 0 (fun _=>hS0) ?_ (hy:=fun w' hw'=>by obtain⟨hc,hf⟩:=qag (H1.out.trans (hw'.mono H1.out.size));obtain⟨⟨k0,k1⟩,f0,f1⟩:=((BX.out.get 0 rfl).below hw' (BX.out.get 0 rfl).lt).two;go_simp;try with_reducible rfl)
 refine tG 1 (fun _=>hS0) ?_ (hy:=fun w' hw'=>by obtain⟨hc,hf⟩:=qag (H1.out.trans (hw'.mono H1.out.size));obtain⟨⟨k0,k1⟩,f0,f1⟩:=((BX.out.get 0 rfl).below hw' (BX.out.get 0 rfl).lt).two;go_simp;try with_reducible rfl)
 refine tG 2 (fun _=>hS0) ?_ (hy:=fun w' hw'=>by obtain⟨hc,hf⟩:=qag (H1.out.trans (hw'.mono H1.out.size));obtain⟨⟨k0,k1⟩,f0,f1⟩:=((BX.out.get 0 rfl).below hw' (BX.out.get 0 rfl).lt).two;go_simp;try with_reducible rfl)
 refine tG 3 (fun _=>hS0) ?_ (hy:=fun w' hw'=>by obtain⟨hc,hf⟩:=qag (H1.out.trans (hw'.mono H1.out.size));obtain⟨⟨k0,k1⟩,f0,f1⟩:=((BX.out.get 0 rfl).below hw' (BX.out.get 0 rfl).lt).two;go_simp;try with_reducible rfl)
 refine tN 4 (fun _=>hS0) ?_
 refine tN 5 (fun _=>hS0) ?_
 refine tN 6 (fun _=>hS0) ?_
 refine tG 7 (fun _=>hS0) ?_ (hy:=fun w' hw'=>by obtain⟨hc,hf⟩:=qag (H1.out.trans (hw'.mono H1.out.size));obtain⟨⟨k0,k1⟩,f0,f1⟩:=((BX.out.get 0 rfl).below hw' (BX.out.get 0 rfl).lt).two;go_simp;try with_reducible rfl)
 refine qz (k:=8) (by kernel_rfl) rfl (by rfl) (fun K hK=>?_)
 go_simp
 go_at_call 200
 refine(HC.out _ (H1.out.trans (hS0.mono H1.out.size))).mono ?_
 rintro e w2 ⟨A2,c2,lvl2,rfl,hb2,q1,q2⟩
 dsimp only
 have hS1:=hS0.trans (hb2.mono hS0.size)
 refine hK _ _ (fun _=>hS1) ?_
 clear hK K
 (try simp only[zT]);(try simp only[zA]);(try simp only[zS]);(try simp only[zZ])
 clear hS0 hb2
 have hS0:=hS1
 clear hS1
 have hb3:Below w1.heap.size w1 w2:=hS0
 have hz:=(BX.out.get 1 rfl).below hb3 (BX.out.get 1 rfl).lt
 obtain⟨⟨r0,r1⟩,g0,g1⟩:=hz.two
 have hb9:Below ((W.alloc (.cells #[.int .i64 cols,.slice A 1 c] 24)).alloc gz).heap.size ((W.alloc (.cells #[.int .i64 cols,.slice A 1 c] 24)).alloc gz) w2:=by rw[show ((W.alloc (.cells #[.int .i64 cols,.slice A 1 c] 24)).alloc gz)=w1 from HW1.out];exact hb3
 have hn:=qb7 (cols:=cols) (v:=.slice A2 1 c2) H0.out hb9
 rw[World.size_alloc] at hn
 have hend:qhk W cols ⟨qac 1 (qa2 ln.cs fr.toNat (tt - fr).toNat t.lk),ln.soft⟩ (.returned (.tuple #[.agg #[.int .i64 cols,.slice A2 1 c2],.int .i64 0])) _:=⟨A2,c2,lvl2,rfl,hn.1.bel,hn.2.1 _ _ q1,hn.2.ces q2⟩
 have HE:=hid hend
 clear hz hb9 hn hend q1 q2
 refine tN 9 (fun _=>hS0) ?_
 refine tN 10 (fun _=>hS0) ?_
 refine qz (k:=11) (by kernel_rfl) rfl (by rfl) (fun K hK=>?_)
 go_simp
 refine hK _ _ (fun h=>(by simp at h)) ?_
 clear hK K
 (try simp only[zT]);(try simp only[zA]);(try simp only[zS]);(try simp only[zZ])
 refine tN 12 (fun h=>(by simp at h)) ?_
 refine qal (by kernel_rfl) ?_ _
 go_wp2
 exact bodyPost_ret (v:=.tuple #[.agg #[.int .i64 cols,.slice A2 1 c2],.int .i64 0]) (by simp[results,Tryz.results199,go_sem,r0,r1]) rfl HE.out
theorem insertC_any (cols : Int) (A : Option Addr) (c : Nat) (ln : Ln) (lvl : Value) (num : Int) (bp bn : Nat) (hg : GIn W (.slice A 1 c) [(ln, lvl)]) (hT : Tab W) (hW : TabW W) (hbp : Box W bp 85 #[.pointer (some ⟨b, 0, none⟩)]) (hbn : Box W bn 3 #[.int .i64 num]) (h : TAt M b mv t W) (hok : qbo cols [(ln, lvl)] 0 t.col num t.lk = true) :
  Calls Tryz.prog 201 #[.agg #[.int .i64 cols,.slice A 1 c],.pointer (some ⟨bp,0,none⟩),.pointer (some ⟨bn,0,none⟩)] W (qhk W cols ⟨qac 1 (qgc ln.cs t.col.toNat (min num.toNat (ln.cs.length - t.col.toNat)) t.lk),ln.soft⟩):=by
 have hl0:=hbp.lt
 have hl1:=hbn.lt
 have hl3:=h.lt
 have p0:=hbp.cell 0
 have p1:=hbn.cell 0
 have p2:=h.c_col.1
 have p3:=h.c_fg.1
 have p4:=h.c_bg.1
 have p5:=h.c_fl.1
 have hraw:=fun W' (hb:Below W.heap.size W W')=>(insert_out cols 0 t.col num t.lk (.slice A 1 c) [(ln,lvl)] W' (hg.below hb) (hT.below hb) (hW.below hb))
 rw[hok] at hraw
 unfold At.agg at hraw
 have hcall:=fun W' (hb:Below W.heap.size W W')=>(hraw W' hb).mono (fun e w' hq=>qgw (tgt:=⟨qac 1 (qgc ln.cs t.col.toNat (min num.toNat (ln.cs.length - t.col.toNat)) t.lk),ln.soft⟩) (hg.ces.below hb) hq)
 have HC:=hid hcall
 have h0:Below W.heap.size W (W.alloc (.cells #[.int .i64 cols,.slice A 1 c] 24)):=qa _ _
 have b0:=((Bxs.nil W).alloc 24 #[.int .i64 cols,.slice A 1 c]).alloc 24 #[.int .i64 0,.slice none 0 0]
 simp only[World.size_alloc,List.nil_append,List.cons_append] at b0
 have BX:=hid b0
 have H0:=hid h0
 have H1:=hid (h0.alloc h0.size gz)
 clear hraw hcall hg hT hW hok b0 h0 hbp hbn h
 go_enter Tryz.func201,Tryz.ntmps201
 go_upto_region 1 with fail
 generalize hw1:((W.alloc (.cells #[.int .i64 cols,.slice A 1 c] 24)).alloc (.cells #[.int .i64 0,.slice none 0 0] 24))=w1 at *
 obtain⟨⟨k0,k1⟩,f0,f1⟩:=(BX.out.get 0 rfl).two
 obtain⟨⟨r0,r1⟩,g0,g1⟩:=(BX.out.get 1 rfl).two
 obtain⟨hc,hf⟩:=qag H1.out
 have HW1:=hid hw1
 clear hw1
 go_wp2_with fail
 clear hc hf r0 r1 g0 g1
 have hS0:(fun w'=>Below w1.heap.size w1 w') _:=qf w1 1
 refine qh (qcy 15 (fun w'=>Below w1.heap.size w1 w')) (by kernel_rfl) ?_
 refine tG 0 (fun _=>hS0) ?_ (hy:=fun w' hw'=>by obtain⟨hc,hf⟩:=qag (H1.out.trans (hw'.mono H1.out.size));obtain⟨⟨k0,k1⟩,f0,f1⟩:=((BX.out.get 0 rfl).below hw' (BX.out.get 0 rfl).lt).two;go_simp;try with_reducible rfl)
 refine tG 1 (fun _=>hS0) ?_ (hy:=fun w' hw'=>by obtain⟨hc,hf⟩:=qag (H1.out.trans (hw'.mono H1.out.size));obtain⟨⟨k0,k1⟩,f0,f1⟩:=((BX.out.get 0 rfl).below hw' (BX.out.get 0 rfl).lt).two;go_simp;try with_reducible rfl)
 refine tN 2 (fun _=>hS0) ?_
 refine tN 3 (fun _=>hS0) ?_
 refine tN 4 (fun _=>hS0) ?_
 refine tG 5 (fun _=>hS0) ?_ (hy:=fun w' hw'=>by obtain⟨hc,hf⟩:=qag (H1.out.trans (hw'.mono H1.out.size));obtain⟨⟨k0,k1⟩,f0,f1⟩:=((BX.out.get 0 rfl).below hw' (BX.out.get 0 rfl).lt).two;go_simp;try with_reducible rfl)
 refine tG 6 (fun _=>hS0) ?_ (hy:=fun w' hw'=>by obtain⟨hc,hf⟩:=qag (H1.out.trans (hw'.mono H1.out.size));obtain⟨⟨k0,k1⟩,f0,f1⟩:=((BX.out.get 0 rfl).below hw' (BX.out.get 0 rfl).lt).two;go_simp;try with_reducible rfl)
 refine tG 7 (fun _=>hS0) ?_ (hy:=fun w' hw'=>by obtain⟨hc,hf⟩:=qag (H1.out.trans (hw'.mono H1.out.size));obtain⟨⟨k0,k1⟩,f0,f1⟩:=((BX.out.get 0 rfl).below hw' (BX.out.get 0 rfl).lt).two;go_simp;try with_reducible rfl)
 refine tN 8 (fun _=>hS0) ?_
 refine tN 9 (fun _=>hS0) ?_
 refine tN 10 (fun _=>hS0) ?_
 refine tG 11 (fun _=>hS0) ?_ (hy:=fun w' hw'=>by obtain⟨hc,hf⟩:=qag (H1.out.trans (hw'.mono H1.out.size));obtain⟨⟨k0,k1⟩,f0,f1⟩:=((BX.out.get 0 rfl).below hw' (BX.out.get 0 rfl).lt).two;go_simp;try with_reducible rfl)
 refine qz (k:=12) (by kernel_rfl) rfl (by rfl) (fun K hK=>?_)
 go_simp
 go_at_call 202
 refine(HC.out _ (H1.out.trans (hS0.mono H1.out.size))).mono ?_
 rintro e w2 ⟨A2,c2,lvl2,rfl,hb2,q1,q2⟩
 dsimp only
 have hS1:=hS0.trans (hb2.mono hS0.size)
 refine hK _ _ (fun _=>hS1) ?_
 clear hK K
 (try simp only[zT]);(try simp only[zA]);(try simp only[zS]);(try simp only[zZ])
 clear hS0 hb2
 have hS0:=hS1
 clear hS1
 have hb3:Below w1.heap.size w1 w2:=hS0
 have hz:=(BX.out.get 1 rfl).below hb3 (BX.out.get 1 rfl).lt
 obtain⟨⟨r0,r1⟩,g0,g1⟩:=hz.two
 have hb9:Below ((W.alloc (.cells #[.int .i64 cols,.slice A 1 c] 24)).alloc gz).heap.size ((W.alloc (.cells #[.int .i64 cols,.slice A 1 c] 24)).alloc gz) w2:=by rw[show ((W.alloc (.cells #[.int .i64 cols,.slice A 1 c] 24)).alloc gz)=w1 from HW1.out];exact hb3
 have hn:=qb7 (cols:=cols) (v:=.slice A2 1 c2) H0.out hb9
 rw[World.size_alloc] at hn
 have hend:qhk W cols ⟨qac 1 (qgc ln.cs t.col.toNat (min num.toNat (ln.cs.length - t.col.toNat)) t.lk),ln.soft⟩ (.returned (.tuple #[.agg #[.int .i64 cols,.slice A2 1 c2],.int .i64 0])) _:=⟨A2,c2,lvl2,rfl,hn.1.bel,hn.2.1 _ _ q1,hn.2.ces q2⟩
 have HE:=hid hend
 clear hz hb9 hn hend q1 q2
 refine tN 13 (fun _=>hS0) ?_
 refine tN 14 (fun _=>hS0) ?_
 refine qz (k:=15) (by kernel_rfl) rfl (by rfl) (fun K hK=>?_)
 go_simp
 refine hK _ _ (fun h=>(by simp at h)) ?_
 clear hK K
 (try simp only[zT]);(try simp only[zA]);(try simp only[zS]);(try simp only[zZ])
 refine tN 16 (fun h=>(by simp at h)) ?_
 refine qal (by kernel_rfl) ?_ _
 go_wp2
 exact bodyPost_ret (v:=.tuple #[.agg #[.int .i64 cols,.slice A2 1 c2],.int .i64 0]) (by simp[results,Tryz.results201,go_sem,r0,r1]) rfl HE.out
theorem softC_any (cols : Int) (A : Option Addr) (c : Nat) (ln : Ln) (lvl : Value) (so : Bool) (bs : Nat) (hg : GIn W (.slice A 1 c) [(ln, lvl)]) (hT : Tab W) (hW : TabW W) (hbs : Box W bs 4 #[.bool so]) (hok : softOk cols [(ln, lvl)] 0 = true) :
  Calls Tryz.prog 221 #[.agg #[.int .i64 cols,.slice A 1 c],.pointer (some ⟨bs,0,none⟩)] W (qhk W cols ⟨ln.cs,so⟩):=by
 have hl0:=hbs.lt
 have p0:=hbs.cell 0
 have hraw:=fun W' (hb:Below W.heap.size W W')=>(soft_out cols 0 so (.slice A 1 c) [(ln,lvl)] W' (hg.below hb) (hT.below hb) (hW.below hb))
 rw[hok] at hraw
 have hcall:=fun W' (hb:Below W.heap.size W W')=>(hraw W' hb).mono (fun e w' hq=>qgw (tgt:=⟨ln.cs,so⟩) (hg.ces.below hb) hq)
 have HC:=hid hcall
 have h0:Below W.heap.size W (W.alloc (.cells #[.int .i64 cols,.slice A 1 c] 24)):=qa _ _
 have b0:=((Bxs.nil W).alloc 24 #[.int .i64 cols,.slice A 1 c]).alloc 24 #[.int .i64 0,.slice none 0 0]
 simp only[World.size_alloc,List.nil_append,List.cons_append] at b0
 have BX:=hid b0
 have H0:=hid h0
 have H1:=hid (h0.alloc h0.size gz)
 clear hraw hcall hg hT hW hok b0 h0 hbs
 go_enter Tryz.func221,Tryz.ntmps221
 go_upto_region 1 with fail
 generalize hw1:((W.alloc (.cells #[.int .i64 cols,.slice A 1 c] 24)).alloc (.cells #[.int .i64 0,.slice none 0 0] 24))=w1 at *
 obtain⟨⟨k0,k1⟩,f0,f1⟩:=(BX.out.get 0 rfl).two
 obtain⟨⟨r0,r1⟩,g0,g1⟩:=(BX.out.get 1 rfl).two
 obtain⟨hc,hf⟩:=qag H1.out
 have HW1:=hid hw1
 clear hw1
 go_wp2_with fail
 with_reducible refine(HC.out _ H1.out).mono ?_
 rintro e w2 ⟨A2,c2,lvl2,rfl,hb2,q1,q2⟩
 dsimp only
 have hb3:Below w1.heap.size w1 w2:=hb2
 clear k0 k1 f0 f1 r0 r1 g0 g1 hc hf hb2
 have hz:=(BX.out.get 1 rfl).below hb3 (BX.out.get 1 rfl).lt
 obtain⟨⟨r0,r1⟩,g0,g1⟩:=hz.two
 have hb9:Below ((W.alloc (.cells #[.int .i64 cols,.slice A 1 c] 24)).alloc gz).heap.size ((W.alloc (.cells #[.int .i64 cols,.slice A 1 c] 24)).alloc gz) w2:=by rw[show ((W.alloc (.cells #[.int .i64 cols,.slice A 1 c] 24)).alloc gz)=w1 from HW1.out];exact hb3
 have hn:=qb7 (cols:=cols) (v:=.slice A2 1 c2) H0.out hb9
 rw[World.size_alloc] at hn
 have hend:qhk W cols ⟨ln.cs,so⟩ (.returned (.tuple #[.agg #[.int .i64 cols,.slice A2 1 c2],.int .i64 0])) _:=⟨A2,c2,lvl2,rfl,hn.1.bel,hn.2.1 _ _ q1,hn.2.ces q2⟩
 have HE:=hid hend
 clear hz hb9 hn hend q1 q2
 clear hb3
 go_wp2
 exact bodyPost_ret (v:=.tuple #[.agg #[.int .i64 cols,.slice A2 1 c2],.int .i64 0]) (by simp[results,Tryz.results221,go_sem,r0,r1]) rfl HE.out
theorem removeC_any (cols : Int) (A : Option Addr) (c : Nat) (ln : Ln) (lvl : Value) (num : Int) (bp bn : Nat) (hg : GIn W (.slice A 1 c) [(ln, lvl)]) (hT : Tab W) (hW : TabW W) (hbp : Box W bp 85 #[.pointer (some ⟨b, 0, none⟩)]) (hbn : Box W bn 3 #[.int .i64 num]) (h : TAt M b mv t W) (hok : qbo cols [(ln, lvl)] 0 t.col num t.lk = true) :
  Calls Tryz.prog 203 #[.agg #[.int .i64 cols,.slice A 1 c],.pointer (some ⟨bp,0,none⟩),.pointer (some ⟨bn,0,none⟩)] W (qhk W cols ⟨qac 1 (qfw ln.cs t.col.toNat (min num.toNat (ln.cs.length - t.col.toNat)) t.lk),ln.soft⟩):=by
 have hl0:=hbp.lt
 have hl1:=hbn.lt
 have hl3:=h.lt
 have p0:=hbp.cell 0
 have p1:=hbn.cell 0
 have p2:=h.c_col.1
 have p3:=h.c_fg.1
 have p4:=h.c_bg.1
 have p5:=h.c_fl.1
 have hraw:=fun W' (hb:Below W.heap.size W W')=>(delete_out cols 0 t.col num t.lk (.slice A 1 c) [(ln,lvl)] W' (hg.below hb) (hT.below hb) (hW.below hb))
 rw[hok] at hraw
 unfold At.agg at hraw
 have hcall:=fun W' (hb:Below W.heap.size W W')=>(hraw W' hb).mono (fun e w' hq=>qgw (tgt:=⟨qac 1 (qfw ln.cs t.col.toNat (min num.toNat (ln.cs.length - t.col.toNat)) t.lk),ln.soft⟩) (hg.ces.below hb) hq)
 have HC:=hid hcall
 have h0:Below W.heap.size W (W.alloc (.cells #[.int .i64 cols,.slice A 1 c] 24)):=qa _ _
 have b0:=((Bxs.nil W).alloc 24 #[.int .i64 cols,.slice A 1 c]).alloc 24 #[.int .i64 0,.slice none 0 0]
 simp only[World.size_alloc,List.nil_append,List.cons_append] at b0
 have BX:=hid b0
 have H0:=hid h0
 have H1:=hid (h0.alloc h0.size gz)
 clear hraw hcall hg hT hW hok b0 h0 hbp hbn h
 go_enter Tryz.func203,Tryz.ntmps203
 go_upto_region 1 with fail
 generalize hw1:((W.alloc (.cells #[.int .i64 cols,.slice A 1 c] 24)).alloc (.cells #[.int .i64 0,.slice none 0 0] 24))=w1 at *
 obtain⟨⟨k0,k1⟩,f0,f1⟩:=(BX.out.get 0 rfl).two
 obtain⟨⟨r0,r1⟩,g0,g1⟩:=(BX.out.get 1 rfl).two
 obtain⟨hc,hf⟩:=qag H1.out
 have HW1:=hid hw1
 clear hw1
 go_wp2_with fail
 clear hc hf r0 r1 g0 g1
 have hS0:(fun w'=>Below w1.heap.size w1 w') _:=qf w1 1
 refine qh (qcy 15 (fun w'=>Below w1.heap.size w1 w')) (by kernel_rfl) ?_
 refine tG 0 (fun _=>hS0) ?_ (hy:=fun w' hw'=>by obtain⟨hc,hf⟩:=qag (H1.out.trans (hw'.mono H1.out.size));obtain⟨⟨k0,k1⟩,f0,f1⟩:=((BX.out.get 0 rfl).below hw' (BX.out.get 0 rfl).lt).two;go_simp;try with_reducible rfl)
 refine tG 1 (fun _=>hS0) ?_ (hy:=fun w' hw'=>by obtain⟨hc,hf⟩:=qag (H1.out.trans (hw'.mono H1.out.size));obtain⟨⟨k0,k1⟩,f0,f1⟩:=((BX.out.get 0 rfl).below hw' (BX.out.get 0 rfl).lt).two;go_simp;try with_reducible rfl)
 refine tN 2 (fun _=>hS0) ?_
 refine tN 3 (fun _=>hS0) ?_
 refine tN 4 (fun _=>hS0) ?_
 refine tG 5 (fun _=>hS0) ?_ (hy:=fun w' hw'=>by obtain⟨hc,hf⟩:=qag (H1.out.trans (hw'.mono H1.out.size));obtain⟨⟨k0,k1⟩,f0,f1⟩:=((BX.out.get 0 rfl).below hw' (BX.out.get 0 rfl).lt).two;go_simp;try with_reducible rfl)
 refine tG 6 (fun _=>hS0) ?_ (hy:=fun w' hw'=>by obtain⟨hc,hf⟩:=qag (H1.out.trans (hw'.mono H1.out.size));obtain⟨⟨k0,k1⟩,f0,f1⟩:=((BX.out.get 0 rfl).below hw' (BX.out.get 0 rfl).lt).two;go_simp;try with_reducible rfl)
 refine tG 7 (fun _=>hS0) ?_ (hy:=fun w' hw'=>by obtain⟨hc,hf⟩:=qag (H1.out.trans (hw'.mono H1.out.size));obtain⟨⟨k0,k1⟩,f0,f1⟩:=((BX.out.get 0 rfl).below hw' (BX.out.get 0 rfl).lt).two;go_simp;try with_reducible rfl)
 refine tN 8 (fun _=>hS0) ?_
 refine tN 9 (fun _=>hS0) ?_
 refine tN 10 (fun _=>hS0) ?_
 refine tG 11 (fun _=>hS0) ?_ (hy:=fun w' hw'=>by obtain⟨hc,hf⟩:=qag (H1.out.trans (hw'.mono H1.out.size));obtain⟨⟨k0,k1⟩,f0,f1⟩:=((BX.out.get 0 rfl).below hw' (BX.out.get 0 rfl).lt).two;go_simp;try with_reducible rfl)
 refine qz (k:=12) (by kernel_rfl) rfl (by rfl) (fun K hK=>?_)
 go_simp
 go_at_call 204
 refine(HC.out _ (H1.out.trans (hS0.mono H1.out.size))).mono ?_
 rintro e w2 ⟨A2,c2,lvl2,rfl,hb2,q1,q2⟩
 dsimp only
 have hS1:=hS0.trans (hb2.mono hS0.size)
 refine hK _ _ (fun _=>hS1) ?_
 clear hK K
 (try simp only[zT]);(try simp only[zA]);(try simp only[zS]);(try simp only[zZ])
 clear hS0 hb2
 have hS0:=hS1
 clear hS1
 have hb3:Below w1.heap.size w1 w2:=hS0
 have hz:=(BX.out.get 1 rfl).below hb3 (BX.out.get 1 rfl).lt
 obtain⟨⟨r0,r1⟩,g0,g1⟩:=hz.two
 have hb9:Below ((W.alloc (.cells #[.int .i64 cols,.slice A 1 c] 24)).alloc gz).heap.size ((W.alloc (.cells #[.int .i64 cols,.slice A 1 c] 24)).alloc gz) w2:=by rw[show ((W.alloc (.cells #[.int .i64 cols,.slice A 1 c] 24)).alloc gz)=w1 from HW1.out];exact hb3
 have hn:=qb7 (cols:=cols) (v:=.slice A2 1 c2) H0.out hb9
 rw[World.size_alloc] at hn
 have hend:qhk W cols ⟨qac 1 (qfw ln.cs t.col.toNat (min num.toNat (ln.cs.length - t.col.toNat)) t.lk),ln.soft⟩ (.returned (.tuple #[.agg #[.int .i64 cols,.slice A2 1 c2],.int .i64 0])) _:=⟨A2,c2,lvl2,rfl,hn.1.bel,hn.2.1 _ _ q1,hn.2.ces q2⟩
 have HE:=hid hend
 clear hz hb9 hn hend q1 q2
 refine tN 13 (fun _=>hS0) ?_
 refine tN 14 (fun _=>hS0) ?_
 refine qz (k:=15) (by kernel_rfl) rfl (by rfl) (fun K hK=>?_)
 go_simp
 refine hK _ _ (fun h=>(by simp at h)) ?_
 clear hK K
 (try simp only[zT]);(try simp only[zA]);(try simp only[zS]);(try simp only[zZ])
 refine tN 16 (fun h=>(by simp at h)) ?_
 refine qal (by kernel_rfl) ?_ _
 go_wp2
 exact bodyPost_ret (v:=.tuple #[.agg #[.int .i64 cols,.slice A2 1 c2],.int .i64 0]) (by simp[results,Tryz.results203,go_sem,r0,r1]) rfl HE.out
end
end Go.Proofs.YtpdaekmbpafenaaGreatDoor
