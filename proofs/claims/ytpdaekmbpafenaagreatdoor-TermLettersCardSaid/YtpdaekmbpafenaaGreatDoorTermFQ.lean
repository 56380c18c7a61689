
import Derived.Test.YtpdaekmbpafenaaGreatDoorTermRhQ
import Derived.Test.YtpdaekmbpafenaaGreatDoorGridUpQ
import Derived.Test.YtpdaekmbpafenaaGreatDoorBackPQ
namespace Go.Proofs.YtpdaekmbpafenaaGreatDoor
open Go.RowKit
abbrev gz:Obj:=.cells #[.int .i64 0,.slice none 0 0] 24
theorem gz_off_lr {s:Nat} {W:World} {x:Int} (h:Box W s 24 #[.int .i64 x,.slice none 0 0]) {v:Value} {lv:List (Ln×Value)} (hr:LR W v lv) (hn:lv≠[]):qcq s v:=by
 obtain⟨A,c,rfl,_,hl⟩:=hr
 obtain⟨g,o,rfl,_,hl⟩:=hl hn
 rintro A' n' c' e
 cases e
 show g≠s
 rintro rfl
 obtain⟨y,ys,rfl⟩:=List.exists_cons_of_ne_nil hn
 obtain⟨_,p1⟩:=hl 0 y rfl
 rw[h.cell] at p1
 have hlt:o+0 * 2+1 < 2:=(Array.getElem?_eq_some_iff.1 p1).1
 have ho:o < 1:=by omega
 clear hl hlt
 match o,ho with
 | 0,_=>cases p1
theorem gz_off_ce {s:Nat} {W:World} {x:Int} (h:Box W s 24 #[.int .i64 x,.slice none 0 0]) {v:Value} {cs:List Ce} (hr:CeRow W v cs) (hn:cs≠[]):qcq s v:=by
 obtain⟨A,c,rfl,_,hl⟩:=hr
 obtain⟨g,o,rfl,_,hc⟩:=hl hn
 rintro A' n' c' e
 cases e
 show g≠s
 rintro rfl
 obtain⟨y,ys,rfl⟩:=List.exists_cons_of_ne_nil hn
 have p0:=hc 0 y rfl 0 _ rfl
 rw[h.cell] at p0
 have hlt:o+0 * 5+0 < 2:=(Array.getElem?_eq_some_iff.1 p0).1
 have ho:o < 2:=by omega
 clear hc hlt
 match o,ho with
 | 0,_=>cases p0
 | 1,_=>cases p0
def Rds (w w':World):Prop:=(∀ v lv,LR w v lv→LR w' v lv)∧∀ v cs,CeRow w v cs→CeRow w' v cs
theorem Rds.ces {w w':World} (h:Rds w w') {lv:List (Ln×Value)} (hc:CesOf w lv):CesOf w' lv:=fun e he=>h.2 _ _ (hc e he)
structure NewG (W wx:World) (p:Value) (cols:Int) (v:Value) (s:Nat):Prop where
 p:p=.pointer (some ⟨s,0,none⟩)
 lo:W.heap.size≤s
 bx:Box wx s 24 #[.int .i64 cols,v]
 bel:Below W.heap.size W wx
theorem qhf {W w9 : World} {cols : Int} {v : Value} (hb : Below W.heap.size W w9) :
  NewG W (w9.alloc (.cells #[.int .i64 cols,v] 24)) (.pointer (some ⟨w9.heap.size,0,none⟩)) cols v w9.heap.size∧Rds w9 (w9.alloc (.cells #[.int .i64 cols,v] 24)):=by
 have hw:Below w9.heap.size w9 (w9.alloc (.cells #[.int .i64 cols,v] 24)):=qa w9 _
 exact⟨⟨rfl,hb.size,Box.new _ _ _,hb.trans (hw.mono hb.size)⟩,fun _ _ h=>h.below hw,fun _ _ h=>h.below hw⟩
theorem qb7 {W w0 w9 : World} {cols : Int} {v : Value} (hb : Below W.heap.size W w0) (hb9 : Below (w0.alloc gz).heap.size (w0.alloc gz) w9) :
  NewG W ((w9.setCell ⟨w0.heap.size,0,none⟩ (.int .i64 cols)).setCell ⟨w0.heap.size,1,none⟩ v) (.pointer (some ⟨w0.heap.size,0,none⟩)) cols v w0.heap.size∧Rds w9 ((w9.setCell ⟨w0.heap.size,0,none⟩ (.int .i64 cols)).setCell ⟨w0.heap.size,1,none⟩ v):=by
 have h1:=(Box.new w0 24 #[.int .i64 0,.slice none 0 0]).below hb9 (by simp)
 have h2:=(h1.set (i:=0) (.int .i64 cols)).set (i:=1) v
 simp only[List.setIfInBounds_toArray,List.set_cons_zero,List.set_cons_succ] at h2
 have hbt:But w0.heap.size w9 ((w9.setCell ⟨w0.heap.size,0,none⟩ (.int .i64 cols)).setCell ⟨w0.heap.size,1,none⟩ v):=(qbb _ _ _ _).set _
 have hw:Below W.heap.size W w9:=(hb.alloc hb.size gz).trans (hb9.mono (by rw[World.size_alloc];have:=hb.size;omega))
 refine⟨⟨rfl,hb.size,h2,(hw.setCell (p:=⟨w0.heap.size,0,none⟩) hb.size _).setCell (p:=⟨w0.heap.size,1,none⟩) hb.size _⟩,fun _ _ h=>h.but hbt (gz_off_lr h1 h),fun _ _ h=>h.but hbt (gz_off_ce h1 h)⟩
set_option maxHeartbeats 2000000
set_option maxRecDepth 100000
section
variable {M:World→Value→Prop} {b:Nat} {mv:Value} {t:Tm} {W:World}
theorem scr_ok {lv:List (Ln×Value)} {cols top bot n:Int} {a:At} (hm:qbd cols lv=true) (h0:0≤top) (h1:top≤bot) (h2:bot < lv.length) (hn:0≤n) (hl:qab a=true):qbq cols lv top bot n a=true:=by
 unfold qbq qcx
 rw[hm,decide_eq_true (show 0≤top∧top < lv.length by omega),decide_eq_true (show 0≤bot∧bot < lv.length by omega),decide_eq_true h1,decide_eq_true hn,hl]
 rfl
def UpThere (W:World) (cols:Int) (tgt:List Ln) (gone:List (Ln×Value)) (e:Ending) (w':World):Prop :=
 ∃ A k c B j d lv',e=.returned (.tuple #[.agg #[.int .i64 cols,.slice A k c],.slice B j d,.int .i64 0])∧Below W.heap.size W w'∧lv'.map Prod.fst=tgt∧LR w' (.slice A k c) lv'∧CesOf w' lv'∧LR w' (.slice B j d) gone
theorem up_there (cols top bot n : Int) (a : At) (v : Value) (lv : List (Ln × Value)) (W : World) (hg : GIn W v lv) (hT : Tab W) (hW : TabW W) (h : qbq cols lv top bot n a = true) :
  Calls Tryz.prog 206 #[.agg #[.int .i64 cols,v],.int .i64 top,.int .i64 bot,.int .i64 n,a.agg] W (UpThere W cols (upT (lv.map Prod.fst) cols top bot n a) ((lv.drop top.toNat).take (qgh top bot n))) :=
 (up_out cols top bot n a v lv W hg hT hW).mono fun e w' ⟨xc,A,k,c,B,j,d,xn,he,hb,hw⟩=>by
  rcases hw with ⟨_,rfl,rfl,lv',q1,q2,q3,q4⟩ | ⟨h',_⟩
  ·exact⟨A,k,c,B,j,d,lv',he,hb,q1,q2,q3,q4⟩
  ·rw[h] at h';cases h'
def DownThere (W:World) (cols:Int) (tgt:List Ln) (e:Ending) (w':World):Prop :=
 ∃ A k c lv',e=.returned (.tuple #[.agg #[.int .i64 cols,.slice A k c],.int .i64 0])∧Below W.heap.size W w'∧lv'.map Prod.fst=tgt∧LR w' (.slice A k c) lv'∧CesOf w' lv'
theorem down_there (cols top bot n : Int) (a : At) (v : Value) (lv : List (Ln × Value)) (W : World) (hg : GIn W v lv) (hT : Tab W) (hW : TabW W) (h : qbq cols lv top bot n a = true) :
  Calls Tryz.prog 205 #[.agg #[.int .i64 cols,v],.int .i64 top,.int .i64 bot,.int .i64 n,a.agg] W (DownThere W cols (qjj (lv.map Prod.fst) cols top bot n a)) :=
 (down_out cols top bot n a v lv W hg hT hW).mono fun e w' ⟨xc,A,k,c,xn,he,hb,hw⟩=>by
  rcases hw with ⟨_,rfl,rfl,lv',q1,q2,q3⟩ | ⟨h',_⟩
  ·exact⟨A,k,c,lv',he,hb,q1,q2,q3⟩
  ·rw[h] at h';cases h'
def GoneP (M:World→Value→Prop) (b:Nat) (mv:Value) (W:World) (t:Tm) (top n:Int) (e:Ending) (w':World):Prop :=
 ∃ B j d gl,e=.returned (.slice B j d)∧LR w' (.slice B j d) gl∧CesOf w' gl∧gl.map Prod.fst=(t.g.ls.drop top.toNat).take (qgh top t.bot n)∧TAt M b mv { t with g:=⟨t.g.cols,upT t.g.ls t.g.cols top t.bot n t.lk⟩ } w'∧But b W w'
def UpCut (W:World) (cols:Int) (tgt:List Ln) (gone:List (Ln×Value)) (p g n:Value) (wx:World):Prop :=
 ∃ A k c B j d lv s,NewG W wx p cols (.slice A k c) s∧g=.slice B j d∧n=.int .i64 0∧lv.map Prod.fst=tgt∧LR wx (.slice A k c) lv∧CesOf wx lv∧LR wx (.slice B j d) gone
def DnCut (W:World) (cols:Int) (tgt:List Ln) (p n:Value) (wx:World):Prop :=
 ∃ A k c lv s,NewG W wx p cols (.slice A k c) s∧n=.int .i64 0∧lv.map Prod.fst=tgt∧LR wx (.slice A k c) lv∧CesOf wx lv
theorem qf6 (h : TAt M b mv t W) (hg : qm t.g = true) (top n : Int) (h0 : 0 ≤ top) (h1 : top ≤ t.bot) (h2 : t.bot < t.g.ls.length) (hn : 0 ≤ n) (hl : qab t.lk = true) :
  Calls Tryz.prog 162 #[.pointer (some ⟨b,0,none⟩),.int .i64 top,.int .i64 n] W (GoneP M b mv W t top n):=by
 obtain⟨A,c,lv,⟨⟨k1,f1⟩,_⟩,hG,hgi,hmay⟩:=h.gin hg
 obtain⟨k0,f0⟩:=h.c_cols
 obtain⟨k12,_⟩:=h.c_bot
 obtain⟨k8,_⟩:=h.c_fg
 obtain⟨k9,_⟩:=h.c_bg
 obtain⟨k10,_⟩:=h.c_fl
 have hlt:=h.lt
 have hok:=scr_ok (n:=n) hmay h0 h1 (by rw[hG.len];exact h2) hn hl
 have hup:=fun W' (hb:Below W.heap.size W W')=>up_there t.g.cols top t.bot n t.lk _ lv W' (hgi.below hb) (h.below hb).tab (h.below hb).tabW hok
 have hrg:=rg_up (num:=n) hg h0 h1 h2 hl
 rw[hG.mp] at hup
 unfold At.agg at hup
 have HUP:=hid hup
 have HT:=hid h
 have HG:=hid hG
 have HRG:=hid hrg.1
 have HRT:=hid hg
 obtain⟨N,hN⟩:∃ N,t.g.ls.length=N:=⟨_,rfl⟩
 rw[hN] at k1 HUP HG
 clear hup h hG hgi hmay hok hrg hg h0 h1 h2 hn hl hN
 go_enter Tryz.func162,Tryz.ntmps162
 go_upto_region 1 with fail
 go_cut [7,8,9] (fun p g x wx=>UpCut W t.g.cols (upT t.g.ls t.g.cols top t.bot n t.lk) ((lv.drop top.toNat).take (qgh top t.bot n)) p g x wx)
 case first =>
  have hS0:Below W.heap.size W _:=qf W 1
  refine qh (fun _ w'=>Below W.heap.size W w') (by kernel_rfl) ?_
  refine tC 0 hS0 ?_
  refine tC 1 hS0 ?_
  refine tC 2 hS0 ?_
  refine tC 3 hS0 ?_
  refine tC 4 hS0 ?_ (hy:=fun w' hw'=>by obtain⟨hc,hf⟩:=qag hw';go_simp;try with_reducible rfl)
  refine tC 5 hS0 ?_
  refine tC 6 hS0 ?_
  refine tC 7 hS0 ?_
  refine tC 8 hS0 ?_
  refine tC 9 hS0 ?_
  refine tC 10 hS0 ?_ (hy:=fun w' hw'=>by obtain⟨hc,hf⟩:=qag hw';go_simp;try with_reducible rfl)
  refine tC 11 hS0 ?_
  refine tC 12 hS0 ?_
  refine tC 13 hS0 ?_
  refine tC 14 hS0 ?_
  refine tC 15 hS0 ?_
  refine tC 16 hS0 ?_ (hy:=fun w' hw'=>by obtain⟨hc,hf⟩:=qag hw';go_simp;try with_reducible rfl)
  refine qio (k1:=17) (k2:=22) (by kernel_rfl) rfl rfl (by rfl) (by rfl) (fun K hK=>?_) (fun K hK=>?_)
  ·go_simp
   go_at_call 206
   refine(HUP.out _ hS0).mono ?_
   rintro e w9 ⟨A2,k2,c2,B2,j2,d2,lv2,rfl,hb,q1,q2,q3,q4⟩
   dsimp only
   have HQ:=hid (And.intro q1 (And.intro q2 (And.intro q3 q4)))
   clear q1 q2 q3 q4
   have HB:=hid hb
   have hS1:=hS0.trans (hb.mono hS0.size)
   have HB9:=hid hS1
   refine hK _ _ hS1 ?_
   clear hK K
   (try simp only[zT]);(try simp only[zA]);(try simp only[zS]);(try simp only[zZ])
   clear hS0 hb
   have hS0:=hS1
   clear hS1
   refine tC 18 hS0 ?_
   refine tC 19 hS0 ?_
   refine tC 20 hS0 ?_
   refine tC 21 hS0 ?_
   refine qz (k:=22) (by kernel_rfl) rfl (by rfl) (fun K hK=>?_)
   go_simp
   have HB0:=hid hS0
   have hS1:=hS0.alloc hS0.size gz
   refine hK _ _ hS1 ?_
   clear hK K
   (try simp only[zT]);(try simp only[zA]);(try simp only[zS]);(try simp only[zZ])
   clear hS0
   have hS0:=hS1
   clear hS1
   refine qz (k:=23) (by kernel_rfl) rfl (by rfl) (fun K hK=>?_)
   go_simp
   have hS1:=HB9.out.alloc HB9.out.size (.cells #[.int .i64 t.g.cols,.slice A2 k2 c2] 24)
   refine hK _ _ hS1 ?_
   clear hK K
   (try simp only[zT]);(try simp only[zA]);(try simp only[zS]);(try simp only[zZ])
   clear hS0
   have hS0:=hS1
   clear hS1
   refine tC 24 hS0 ?_
   refine tC 25 hS0 ?_
   refine qal (by kernel_rfl) ?_ _
   go_wp2_with fail
   go_meet
   have hn:=qhf (cols:=t.g.cols) (v:=.slice A2 k2 c2) HB9.out
   exact⟨A2,k2,c2,B2,j2,d2,lv2,_,hn.1,rfl,rfl,HQ.out.1,hn.2.1 _ _ HQ.out.2.1,hn.2.ces HQ.out.2.2.1,hn.2.1 _ _ HQ.out.2.2.2⟩
  ·go_simp
   have HB0:=hid hS0
   have hS1:=hS0.alloc hS0.size gz
   refine hK _ _ hS1 ?_
   clear hK K
   (try simp only[zT]);(try simp only[zA]);(try simp only[zS]);(try simp only[zZ])
   clear hS0
   have hS0:=hS1
   clear hS1
   refine qz (k:=17) (by kernel_rfl) rfl (by rfl) (fun K hK=>?_)
   go_simp
   go_at_call 206
   refine(HUP.out _ hS0).mono ?_
   rintro e w9 ⟨A2,k2,c2,B2,j2,d2,lv2,rfl,hb,q1,q2,q3,q4⟩
   dsimp only
   have HQ:=hid (And.intro q1 (And.intro q2 (And.intro q3 q4)))
   clear q1 q2 q3 q4
   have hz:Box w9 W.heap.size 24 #[.int .i64 0,.slice none 0 0]:=(Box.new W.drew _ _).below hb (by simp)
   obtain⟨⟨z0,z1⟩,y0,y1⟩:=hz.two
   clear hz
   have HB:=hid hb
   have hS1:=hS0.trans (hb.mono hS0.size)
   have HB9:=hid hS1
   refine hK _ _ hS1 ?_
   clear hK K
   (try simp only[zT]);(try simp only[zA]);(try simp only[zS]);(try simp only[zZ])
   clear hS0 hb
   have hS0:=hS1
   clear hS1
   refine tC 18 hS0 ?_
   refine tC 19 hS0 ?_
   refine tC 20 hS0 ?_
   refine tC 21 hS0 ?_
   refine qz (k:=23) (by kernel_rfl) rfl (by rfl) (fun K hK=>?_)
   go_simp
   have hS1:=(hS0.setCell (p:=⟨W.heap.size,0,none⟩) (Nat.le_refl _) (.int .i64 t.g.cols)).setCell (p:=⟨W.heap.size,1,none⟩) (Nat.le_refl _) (.slice A2 k2 c2)
   refine hK _ _ hS1 ?_
   clear hK K
   (try simp only[zT]);(try simp only[zA]);(try simp only[zS]);(try simp only[zZ])
   clear hS0
   have hS0:=hS1
   clear hS1
   refine tC 24 hS0 ?_
   refine tC 25 hS0 ?_
   refine qal (by kernel_rfl) ?_ _
   go_wp2_with fail
   go_meet
   have hn:=qb7 (cols:=t.g.cols) (v:=.slice A2 k2 c2) (show Below W.heap.size W W.drew from qf W 1) HB.out
   exact⟨A2,k2,c2,B2,j2,d2,lv2,_,hn.1,rfl,rfl,HQ.out.1,hn.2.1 _ _ HQ.out.2.1,hn.2.ces HQ.out.2.2.1,hn.2.1 _ _ HQ.out.2.2.2⟩
 case rest =>
  obtain⟨A2,k2,c2,B2,j2,d2,lv2,s,hng,rfl,rfl,q1,q2,q3,q4⟩:=hcut
  obtain⟨rfl,hs,hbx,hbel⟩:=hng
  have hT2:=HT.out.below hbel
  have hgr:=hT2.grow HRT.out q2 q3 q1 (qdg HRG.out q1).2
  have hfin:=hT2.s_grid (g:=⟨t.g.cols,(upT t.g.ls t.g.cols top t.bot n t.lk)⟩) hgr
  have hc2:=hfin.2
  have HT2:=hid hfin.1
  obtain⟨⟨p0,p1⟩,_,_⟩:=hbx.two
  obtain⟨_,g0⟩:=hT2.c_cols
  obtain⟨_,_,_,⟨_,g1⟩,_⟩:=hT2.c_g
  have hsb:¬ s=b:=by omega
  have hsw:=hbx.lt
  have hgl:∀ e∈(lv.drop top.toNat).take (qgh top t.bot n),e∈lv:=fun e he=>List.mem_of_mem_drop (List.mem_of_mem_take he)
  have hGb:=HG.out.but (But.of_below hbel)
  have hgg:=(hT2.grow HRT.out q4 (fun e he=>hGb.ces e (hgl e he)) rfl (fun e he=>(qdg HRT.out hGb.mp).2 e (hgl e he))).but hc2
  have HGG:=hid hgg
  have hm:((lv.drop top.toNat).take (qgh top t.bot n)).map Prod.fst=(t.g.ls.drop top.toNat).take (qgh top t.bot n):=by rw[List.map_take,List.map_drop,hGb.mp]
  have HM:=hid hm
  have HC:=hid ((But.of_below hbel).trans hc2)
  clear hgl hGb hgg hm q1 q2 q3 q4 hgr hfin hc2 hT2 hbel hbx
  go_wp2
  go_ret
  exact⟨B2,j2,d2,_,rfl,HGG.out.lr,HGG.out.ces,HM.out,HT2.out,HC.out⟩
theorem qge (h : TAt M b mv t W) (hg : qm t.g = true) (top n : Int) (h0 : 0 ≤ top) (h1 : top ≤ t.bot) (h2 : t.bot < t.g.ls.length) (hn : 0 ≤ n) (hl : qab t.lk = true) :
  Calls Tryz.prog 161 #[.pointer (some ⟨b,0,none⟩),.int .i64 top,.int .i64 n] W (qu M b mv W (qhn t top n)):=by
 obtain⟨A,c,lv,⟨⟨k1,f1⟩,_⟩,hG,hgi,hmay⟩:=h.gin hg
 obtain⟨k0,f0⟩:=h.c_cols
 obtain⟨k12,_⟩:=h.c_bot
 obtain⟨k8,_⟩:=h.c_fg
 obtain⟨k9,_⟩:=h.c_bg
 obtain⟨k10,_⟩:=h.c_fl
 have hlt:=h.lt
 have hok:=scr_ok (n:=n) hmay h0 h1 (by rw[hG.len];exact h2) hn hl
 have hup:=fun W' (hb:Below W.heap.size W W')=>down_there t.g.cols top t.bot n t.lk _ lv W' (hgi.below hb) (h.below hb).tab (h.below hb).tabW hok
 have hrg:=rg_down (num:=n) hg h0 h1 h2 hl
 rw[hG.mp] at hup
 unfold At.agg at hup
 have HUP:=hid hup
 have HT:=hid h
 have HG:=hid hG
 have HRG:=hid hrg.1
 have HRT:=hid hg
 obtain⟨N,hN⟩:∃ N,t.g.ls.length=N:=⟨_,rfl⟩
 rw[hN] at k1 HUP HG
 clear hup h hG hgi hmay hok hrg hg h0 h1 h2 hn hl hN
 go_enter Tryz.func161,Tryz.ntmps161
 go_upto_region 0 with fail
 go_cut [6,7] (fun p x wx=>DnCut W t.g.cols (qjj t.g.ls t.g.cols top t.bot n t.lk) p x wx)
 case first =>
  have hS0:Below W.heap.size W _:=qf W 1
  refine qh (fun _ w'=>Below W.heap.size W w') (by kernel_rfl) ?_
  refine tC 0 hS0 ?_
  refine tC 1 hS0 ?_
  refine tC 2 hS0 ?_
  refine tC 3 hS0 ?_
  refine tC 4 hS0 ?_ (hy:=fun w' hw'=>by obtain⟨hc,hf⟩:=qag hw';go_simp;try with_reducible rfl)
  refine tC 5 hS0 ?_
  refine tC 6 hS0 ?_
  refine tC 7 hS0 ?_
  refine tC 8 hS0 ?_
  refine tC 9 hS0 ?_
  refine tC 10 hS0 ?_ (hy:=fun w' hw'=>by obtain⟨hc,hf⟩:=qag hw';go_simp;try with_reducible rfl)
  refine tC 11 hS0 ?_
  refine tC 12 hS0 ?_
  refine tC 13 hS0 ?_
  refine tC 14 hS0 ?_
  refine tC 15 hS0 ?_
  refine tC 16 hS0 ?_ (hy:=fun w' hw'=>by obtain⟨hc,hf⟩:=qag hw';go_simp;try with_reducible rfl)
  refine qio (k1:=17) (k2:=21) (by kernel_rfl) rfl rfl (by rfl) (by rfl) (fun K hK=>?_) (fun K hK=>?_)
  ·go_simp
   go_at_call 205
   refine(HUP.out _ hS0).mono ?_
   rintro e w9 ⟨A2,k2,c2,lv2,rfl,hb,q1,q2,q3⟩
   dsimp only
   have HQ:=hid (And.intro q1 (And.intro q2 q3))
   clear q1 q2 q3
   have HB:=hid hb
   have hS1:=hS0.trans (hb.mono hS0.size)
   have HB9:=hid hS1
   refine hK _ _ hS1 ?_
   clear hK K
   (try simp only[zT]);(try simp only[zA]);(try simp only[zS]);(try simp only[zZ])
   clear hS0 hb
   have hS0:=hS1
   clear hS1
   refine tC 18 hS0 ?_
   refine tC 19 hS0 ?_
   refine tC 20 hS0 ?_
   refine qz (k:=21) (by kernel_rfl) rfl (by rfl) (fun K hK=>?_)
   go_simp
   have HB0:=hid hS0
   have hS1:=hS0.alloc hS0.size gz
   refine hK _ _ hS1 ?_
   clear hK K
   (try simp only[zT]);(try simp only[zA]);(try simp only[zS]);(try simp only[zZ])
   clear hS0
   have hS0:=hS1
   clear hS1
   refine qz (k:=22) (by kernel_rfl) rfl (by rfl) (fun K hK=>?_)
   go_simp
   have hS1:=HB9.out.alloc HB9.out.size (.cells #[.int .i64 t.g.cols,.slice A2 k2 c2] 24)
   refine hK _ _ hS1 ?_
   clear hK K
   (try simp only[zT]);(try simp only[zA]);(try simp only[zS]);(try simp only[zZ])
   clear hS0
   have hS0:=hS1
   clear hS1
   refine tC 23 hS0 ?_
   refine qal (by kernel_rfl) ?_ _
   go_wp2_with fail
   go_meet
   have hn:=qhf (cols:=t.g.cols) (v:=.slice A2 k2 c2) HB9.out
   exact⟨A2,k2,c2,lv2,_,hn.1,rfl,HQ.out.1,hn.2.1 _ _ HQ.out.2.1,hn.2.ces HQ.out.2.2⟩
  ·go_simp
   have HB0:=hid hS0
   have hS1:=hS0.alloc hS0.size gz
   refine hK _ _ hS1 ?_
   clear hK K
   (try simp only[zT]);(try simp only[zA]);(try simp only[zS]);(try simp only[zZ])
   clear hS0
   have hS0:=hS1
   clear hS1
   refine qz (k:=17) (by kernel_rfl) rfl (by rfl) (fun K hK=>?_)
   go_simp
   go_at_call 205
   refine(HUP.out _ hS0).mono ?_
   rintro e w9 ⟨A2,k2,c2,lv2,rfl,hb,q1,q2,q3⟩
   dsimp only
   have HQ:=hid (And.intro q1 (And.intro q2 q3))
   clear q1 q2 q3
   have hz:Box w9 W.heap.size 24 #[.int .i64 0,.slice none 0 0]:=(Box.new W.drew _ _).below hb (by simp)
   obtain⟨⟨z0,z1⟩,y0,y1⟩:=hz.two
   clear hz
   have HB:=hid hb
   have hS1:=hS0.trans (hb.mono hS0.size)
   have HB9:=hid hS1
   refine hK _ _ hS1 ?_
   clear hK K
   (try simp only[zT]);(try simp only[zA]);(try simp only[zS]);(try simp only[zZ])
   clear hS0 hb
   have hS0:=hS1
   clear hS1
   refine tC 18 hS0 ?_
   refine tC 19 hS0 ?_
   refine tC 20 hS0 ?_
   refine qz (k:=22) (by kernel_rfl) rfl (by rfl) (fun K hK=>?_)
   go_simp
   have hS1:=(hS0.setCell (p:=⟨W.heap.size,0,none⟩) (Nat.le_refl _) (.int .i64 t.g.cols)).setCell (p:=⟨W.heap.size,1,none⟩) (Nat.le_refl _) (.slice A2 k2 c2)
   refine hK _ _ hS1 ?_
   clear hK K
   (try simp only[zT]);(try simp only[zA]);(try simp only[zS]);(try simp only[zZ])
   clear hS0
   have hS0:=hS1
   clear hS1
   refine tC 23 hS0 ?_
   refine qal (by kernel_rfl) ?_ _
   go_wp2_with fail
   go_meet
   have hn:=qb7 (cols:=t.g.cols) (v:=.slice A2 k2 c2) (show Below W.heap.size W W.drew from qf W 1) HB.out
   exact⟨A2,k2,c2,lv2,_,hn.1,rfl,HQ.out.1,hn.2.1 _ _ HQ.out.2.1,hn.2.ces HQ.out.2.2⟩
 case rest =>
  obtain⟨A2,k2,c2,lv2,s,hng,rfl,q1,q2,q3⟩:=hcut
  obtain⟨rfl,hs,hbx,hbel⟩:=hng
  have hT2:=HT.out.below hbel
  have hgr:=hT2.grow HRT.out q2 q3 q1 (qdg HRG.out q1).2
  have hfin:=hT2.s_grid (g:=⟨t.g.cols,(qjj t.g.ls t.g.cols top t.bot n t.lk)⟩) hgr
  have hc2:=hfin.2
  have HT2:=hid hfin.1
  obtain⟨⟨p0,p1⟩,_,_⟩:=hbx.two
  obtain⟨_,g0⟩:=hT2.c_cols
  obtain⟨_,_,_,⟨_,g1⟩,_⟩:=hT2.c_g
  have hsb:¬ s=b:=by omega
  have hsw:=hbx.lt
  have HC:=hid ((But.of_below hbel).trans hc2)
  clear q1 q2 q3 hgr hfin hc2 hT2 hbel hbx
  go_wp2
  go_end0
  exact⟨rfl,HT2.out,HC.out⟩
end
set_option maxHeartbeats 2000000
set_option maxRecDepth 100000
section
variable {M:World→Value→Prop} {b:Nat} {mv:Value} {t:Tm} {W:World}
theorem qiq {mx:Int} {ls:List Ln} (h:qdu mx ls=true) {lv:List (Ln×Value)} (hm:lv.map Prod.fst=ls):Sm lv∧∀ e∈lv,e.1.cs≠[]:=by
 have hb:qdn mx lv=true:=by rw[backB_G,hm];exact h
 obtain⟨h1,h2,h3⟩:=backB_iff.1 hb
 unfold qdj at h3
 rw[List.all_eq_true] at h3
 have key:∀ e∈lv,(1≤(e.1.cs.length:Int)∧(e.1.cs.length:Int)≤80)∧qbv e.1.cs.length e.1.cs=true:=fun e he=>by
  have h4:=h3 e he
  unfold qh1 at h4
  rw[Bool.and_eq_true,decide_eq_true_iff] at h4
  exact h4
 refine⟨⟨by omega,fun e he=>⟨by have:=(key e he).1;omega,fun c hc=>?_⟩⟩,fun e he hn=>?_⟩
 ·have:=qc7 (rights_iff.1 (fits_iff.1 (key e he).2).2.1 c hc)
  omega
 ·have:=(key e he).1.1
  rw[hn] at this
  simp at this
theorem lastN_map {α β:Type} (f:α→β) (n:Nat) (l:List α):(qah n l).map f=qah n (l.map f):=by
 unfold qah
 rw[List.map_drop,List.length_map]
def goneT (t:Tm) (top n:Int):List Ln:=(t.g.ls.drop top.toNat).take (qgh top t.bot n)
theorem upM_no {n:Int} (h:t.alt=true∨0 < t.top):upM t t.top n true={ t with g:=⟨t.g.cols,upT t.g.ls t.g.cols t.top t.bot n t.lk⟩ }:=by
 unfold upM
 rw[if_neg]
 rcases h with h | h
 ·rw[h];simp
 ·rw[decide_eq_false (by omega),Bool.and_false];decide
theorem upM_yes {n:Int} (h1:t.alt=false) (h2:t.top=0):upM t t.top n true={ t with g:=⟨t.g.cols,upT t.g.ls t.g.cols t.top t.bot n t.lk⟩,bmax:=t.bmax,bls:=qah t.bmax.toNat (t.bls ++ goneT t t.top n) }:=by
 unfold upM
 rw[if_pos (by rw[h1,decide_eq_true h2];rfl)]
 rfl
def BackThere (W:World) (mx:Int) (tgt:List (Ln×Value)) (e:Ending) (w':World):Prop :=
 ∃ A k c,e=.returned (.tuple #[.agg #[.int .i64 mx,.slice A k c],.int .i64 0])∧Below W.heap.size W w'∧LR w' (.slice A k c) tgt
theorem push_there (mx : Int) (v u : Value) (lv ll : List (Ln × Value)) (W : World) (hr : LR W v lv) (hc : CesOf W lv) (hs : Sm lv) (hr2 : LR W u ll) (hc2 : CesOf W ll) (hs2 : Sm ll) (hT : Tab W) (hW : TabW W) (h : (qdn mx lv && qdj ll) = true) :
  Calls Tryz.prog 58 #[.agg #[.int .i64 mx,v],u] W (BackThere W mx (qah mx.toNat (lv ++ ll))) :=
 (push_any mx v u lv ll W hr hc hs hr2 hc2 hs2 hT hW).mono fun e w' ⟨xc,A,k,c,xn,he,hb,hw⟩=>by
  rcases hw with ⟨_,rfl,rfl,q1⟩ | ⟨h',_⟩
  ·exact⟨A,k,c,he,hb,q1⟩
  ·rw[h] at h';cases h'
theorem scrollUp_alt (h : TAt M b mv t W) (hg : qm t.g = true) (n : Int) (h0 : 0 ≤ t.top) (h1 : t.top ≤ t.bot) (h2 : t.bot < t.g.ls.length) (hn : 0 ≤ n) (hl : qab t.lk = true) (ha : t.alt = true) :
  Calls Tryz.prog 163 #[.pointer (some ⟨b,0,none⟩),.int .i64 n] W (qu M b mv W (upM t t.top n true)):=by
 have HC:=hid (qf6 h hg t.top n h0 h1 h2 hn hl)
 obtain⟨k11,_⟩:=h.c_top
 rw[upM_no (by first | exact .inl ha | exact .inr ht)]
 clear h hg h1 h2 hn hl
 go_enter Tryz.func163,Tryz.ntmps163
 go_wp2_with fail
 with_reducible refine HC.out.mono ?_
 rintro e w1 ⟨B,j,d,gl,rfl,q1,q2,q3,hx,hb1⟩
 dsimp only
 clear k11
 have hcA:=hx.c_alt.1
 have hcT:=hx.c_top.1
 simp only at hcA hcT
 rw[ha] at hcA
 have HX:=hid hx
 clear q1 q2 q3 hx ha
 go_wp2
 go_end0
 exact⟨rfl,HX.out,hb1⟩
theorem scrollUp_top (h : TAt M b mv t W) (hg : qm t.g = true) (n : Int) (h0 : 0 ≤ t.top) (h1 : t.top ≤ t.bot) (h2 : t.bot < t.g.ls.length) (hn : 0 ≤ n) (hl : qab t.lk = true) (ha : t.alt = false) (ht : 0 < t.top) :
  Calls Tryz.prog 163 #[.pointer (some ⟨b,0,none⟩),.int .i64 n] W (qu M b mv W (upM t t.top n true)):=by
 have HC:=hid (qf6 h hg t.top n h0 h1 h2 hn hl)
 obtain⟨k11,_⟩:=h.c_top
 rw[upM_no (by first | exact .inl ha | exact .inr ht)]
 clear h hg h1 h2 hn hl
 go_enter Tryz.func163,Tryz.ntmps163
 go_wp2_with fail
 with_reducible refine HC.out.mono ?_
 rintro e w1 ⟨B,j,d,gl,rfl,q1,q2,q3,hx,hb1⟩
 dsimp only
 clear k11
 have hcA:=hx.c_alt.1
 have hcT:=hx.c_top.1
 simp only at hcA hcT
 rw[ha] at hcA
 have HX:=hid hx
 clear q1 q2 q3 hx ha
 go_wp2
 go_end0
 exact⟨rfl,HX.out,hb1⟩
theorem scrollUp_yes (h : TAt M b mv t W) (hg : qm t.g = true) (n : Int) (h0 : 0 ≤ t.top) (h1 : t.top ≤ t.bot) (h2 : t.bot < t.g.ls.length) (hn : 0 ≤ n) (hl : qab t.lk = true) (hbk : qdu t.bmax t.bls = true) (ha : t.alt = false) (ht : t.top = 0) :
  Calls Tryz.prog 163 #[.pointer (some ⟨b,0,none⟩),.int .i64 n] W (qu M b mv W (upM t t.top n true)):=by
 have HC:=hid (qf6 h hg t.top n h0 h1 h2 hn hl)
 obtain⟨k11,_⟩:=h.c_top
 have hrg:=(rg_up (num:=n) hg h0 h1 h2 hl).1
 have hgs:∀ l∈goneT t t.top n,l∈t.g.ls:=fun l hl=>List.mem_of_mem_drop (List.mem_of_mem_take hl)
 have HRK:=hid (show qgg (goneT t t.top n)=true from rg_kept hg hgs)
 have hbn:=qd hg
 have hsz:=rg_size hg
 have hglen:(goneT t t.top n).length≤50:=by unfold goneT;rw[List.length_take,List.length_drop];omega
 have hgsm:∀ l∈goneT t t.top n,l.cs.length≤1000∧∀ c∈l.cs,c.tx.size≤1000:=fun l hl=>⟨by have:=(hsz l (hgs l hl)).1;omega,fun c hc=>by have:=(hsz l (hgs l hl)).2 c hc;omega⟩
 rw[upM_yes ha ht]
 have HRG:=hid hrg
 have HBK:=hid hbk
 have HGL:=hid hglen
 have HGS:=hid hgsm
 change Hid (Calls _ _ _ _ (GoneP M b mv W t t.top n)) at HC
 have HA:=hid ha
 have HT0:=hid ht
 clear h hg h1 h2 hn hl hrg hgs hbn hsz hglen hgsm hbk ha ht
 go_enter Tryz.func163,Tryz.ntmps163
 go_wp2_with fail
 with_reducible refine HC.out.mono ?_
 rintro e w1 ⟨B,j,d,gl,rfl,q1,q2,q3,hx,hb1⟩
 dsimp only
 clear k11
 change gl.map Prod.fst=goneT t t.top n at q3
 have hcA:=hx.c_alt.1
 have hcT:=hx.c_top.1
 have hcM:=hx.c_bmax
 obtain⟨A4,c4,lb,hc30,_,hGB⟩:=hx.c_b
 simp only at hcA hcT hcM hc30 hGB
 rw[HA.out] at hcA
 rw[HT0.out] at hcT
 obtain⟨hcM,hfM⟩:=hcM
 obtain⟨hcB,hfB⟩:=hc30
 have hsm1:=(qiq HBK.out hGB.mp).1
 have hsm2:Sm gl:=by
  refine⟨by have:=HGL.out;rw[← q3,List.length_map] at this;omega,fun e he=>HGS.out e.1 (by rw[← q3];exact List.mem_map.2 ⟨e,he,rfl⟩)⟩
 have hok:(qdn t.bmax lb && qdj gl)=true:=by rw[backB_G,keptB_G,hGB.mp,q3,HRK.out,HBK.out];rfl
 have hcsb:=(qiq HBK.out hGB.mp).2
 have hcsg:∀ e∈gl,e.1.cs≠[]:=fun e he=>by
  have h1:=HRK.out
  rw[← q3,← keptB_G] at h1
  unfold qdj at h1
  have h2:=List.all_eq_true.1 h1 e he
  unfold qh1 at h2
  rw[Bool.and_eq_true,decide_eq_true_iff] at h2
  intro h3
  rw[h3] at h2
  simp at h2
 have HP:=hid (push_there t.bmax _ _ lb gl w1 hGB.lr hGB.ces hsm1 q1 q2 hsm2 hx.tab hx.tabW hok)
 have HX:=hid hx
 have HB1:=hid hb1
 have HGB:=hid hGB
 have HQ2:=hid q2
 have HQ3:=hid q3
 have HCS:=hid (And.intro hcsb hcsg)
 have hlt:=hx.lt
 generalize t.bls.length=N at *
 clear hx hb1 hGB q1 q2 q3 hsm1 hsm2 hok hcsb hcsg
 go_wp2_with fail
 with_reducible refine HP.out.mono ?_
 rintro e w2 ⟨A5,k5,c5,rfl,hb2,r1⟩
 dsimp only
 have hX2:=HX.out.below hb2
 have hGB2:=HGB.out.but (But.of_below hb2)
 have hces:CesOf w2 (qah t.bmax.toNat (lb ++ gl)):=fun e he=>by
  rcases List.mem_append.1 (qki he) with h | h
  ·exact hGB2.ces e h
  ·exact(HQ2.out e h).below hb2
 have hcse:∀ e∈qah t.bmax.toNat (lb ++ gl),e.1.cs≠[]:=fun e he=>(List.mem_append.1 (qki he)).elim (HCS.out.1 e) (HCS.out.2 e)
 have hgr:=hX2.grow HRG.out r1 hces (ls:=qah t.bmax.toNat (t.bls ++ goneT t t.top n)) (by rw[lastN_map,List.map_append,HGB.out.mp,HQ3.out]) hcse
 have hfin:=hX2.s_back (mx:=t.bmax) hgr
 have HF:=hid (hfin.1.alloc (.cells #[.int .i64 t.bmax,.slice A5 k5 c5] 33))
 have HC3:=hid (((HB1.out.trans (But.of_below hb2)).trans hfin.2).trans (But.of_below (qa _ (.cells #[.int .i64 t.bmax,.slice A5 k5 c5] 33))))
 obtain⟨_,g29⟩:=hX2.c_bmax
 obtain⟨_,_,_,⟨_,g30⟩,_⟩:=hX2.c_b
 have hlt2:=hX2.lt
 clear hX2 hGB2 hces hcse hgr hfin r1 hb2 hcA hcT hcM hfM hcB hfB
 go_wp2
 go_end0
 exact⟨rfl,HF.out,HC3.out⟩
theorem qj3 (h : TAt M b mv t W) (hg : qm t.g = true) (n : Int) (h0 : 0 ≤ t.top) (h1 : t.top ≤ t.bot) (h2 : t.bot < t.g.ls.length) (hn : 0 ≤ n) (hl : qab t.lk = true) (hbk : qdu t.bmax t.bls = true) :
  Calls Tryz.prog 163 #[.pointer (some ⟨b,0,none⟩),.int .i64 n] W (qu M b mv W (upM t t.top n true)):=by
 cases ha:t.alt
 ·by_cases ht:t.top=0
  ·exact scrollUp_yes h hg n h0 h1 h2 hn hl hbk ha ht
  ·exact scrollUp_top h hg n h0 h1 h2 hn hl ha (by omega)
 ·exact scrollUp_alt h hg n h0 h1 h2 hn hl ha
structure WellT (t:Tm):Prop where
 g:qm t.g=true
 row0:0≤t.row
 row1:t.row < t.g.ls.length
 col0:0≤t.col
 col1:t.col < t.g.cols
 top0:0≤t.top
 tb:t.top≤t.bot
 bot1:t.bot < t.g.ls.length
 lk:qab t.lk=true
 bk:qdu t.bmax t.bls=true
theorem RightT.well {t:Tm} (h:RightT t):WellT t:=⟨h.g,h.row0,h.row1,h.col0,h.col1,h.top0,h.tob,h.bot1,h.lk,h.bk⟩
def pDown (t:Tm):Tm:=if t.row=t.bot then upM t t.top 1 true else if t.row < t.rows - 1 then { t with row:=t.row+1 } else t
def pUp (t:Tm):Tm:=if t.row=t.top then qhn t t.top 1 else if 0 < t.row then { t with row:=t.row - 1 } else t
theorem qjc (t:Tm):goDown t={ pDown t with late:=false }:=by
 unfold goDown pDown
 split
 ·rfl
 ·split <;> rfl
theorem up_p (t:Tm):goUp t={ pUp t with late:=false }:=by
 unfold goUp pUp
 split
 ·rfl
 ·split <;> rfl
theorem qen (h : TAt M b mv t W) (hr : WellT t) :
  Calls Tryz.prog 174 #[.pointer (some ⟨b,0,none⟩)] W (qu M b mv W (pDown t)):=by
 obtain⟨k5,f5⟩:=h.c_row
 obtain⟨k12,_⟩:=h.c_bot
 by_cases e1:t.row=t.bot
 ·have HC:=fun nq=>hid (qj3 (h.drewN nq) hr.g 1 hr.top0 hr.tb hr.bot1 (by omega) hr.lk hr.bk)
  have HM:pDown t=upM t t.top 1 true:=if_pos e1
  rw[HM]
  rw[e1] at k5
  clear h hr e1 HM
  go_enter Tryz.func174,Tryz.ntmps174
  go_wp2_with fail
  go_quiet (fail)
  go_wp2_with ((with_reducible refine(HC nq).out.mono ?_);rintro e w' ⟨rfl,h1,h2⟩)
  go_end0
  exact⟨rfl,h1,(But.of_below (qf W nq)).trans h2⟩
 ·have HT:=hid h
  have HG:=hid hr.g
  have hrb:t.rows≤50∧1≤t.rows:=by have:=qd hr.g;unfold Tm.rows;omega
  have hrow:=hr.row0
  have hrow1:=hr.row1
  have hne:(t.row == t.bot)=false:=by simpa using e1
  by_cases e2:t.row < t.rows - 1
  ·have HM:pDown t={ t with row:=t.row+1 }:=by unfold pDown;rw[if_neg e1,if_pos e2]
   rw[HM]
   clear h hr HM
   go_enter Tryz.func174,Tryz.ntmps174
   go_wp2_with fail
   go_quiet (fail)
   obtain⟨w1,hw1⟩:∃ w1,w1=W.drewN nq:=⟨_,rfl⟩
   have hx:TAt M b mv t w1:=by rw[hw1];exact HT.out.drewN nq
   have hbw:But b W w1:=by rw[hw1];exact But.of_below (qf W nq)
   rw[← hw1]
   clear hw1
   have k5n:=hx.c_row.1
   have f5n:=hx.c_row.2
   have hlt:=hx.lt
   have HLR:=hid (fun W' (hb:Below w1.heap.size w1 W')=>qia (hx.below hb) HG.out)
   have HX:=hid hx
   clear hx k5 f5 k12
   go_wp2_with fail
   have hS0:Below w1.heap.size w1 _:=qf w1 1
   refine qh (fun _ w'=>Below w1.heap.size w1 w') (by kernel_rfl) ?_
   refine tC 0 hS0 ?_
   refine tC 1 hS0 ?_
   refine tC 2 hS0 ?_
   refine tC 3 hS0 ?_
   refine tC 4 hS0 ?_ (hy:=fun w' hw'=>by obtain⟨hc,hf⟩:=qag hw';go_simp;try with_reducible rfl)
   refine tC 5 hS0 ?_
   refine qz (k:=6) (by kernel_rfl) rfl (by rfl) (fun K hK=>?_)
   go_simp
   go_at_call 195
   refine(HLR.out _ hS0).mono ?_
   rintro e9 w9 ⟨rfl,hw9⟩
   dsimp only
   have hS1:=hw9 ▸ hS0
   refine hK _ _ hS1 ?_
   clear hK K
   (try simp only[zT]);(try simp only[zA]);(try simp only[zS]);(try simp only[zZ])
   clear hS0 hw9
   have hS0:=hS1
   clear hS1
   refine tC 7 hS0 ?_
   refine qal (by kernel_rfl) ?_ _
   have hx2:=HX.out.below hS0
   have k5m:=hx2.c_row.1
   have f5m:=hx2.c_row.2
   have hlt2:=hx2.lt
   have HE:=hid (hx2.s_row (t.row+1))
   have HB:=hid ((hbw.trans (But.of_below hS0)).trans (qbb w9 b 5 (.int .i64 (t.row+1))))
   have hb1:t.row≤100:=by omega
   clear hx2 hS0 k5n f5n hlt
   go_wp2
   go_end0
   exact⟨rfl,HE.out,HB.out⟩
  ·have HM:pDown t=t:=by unfold pDown;rw[if_neg e1,if_neg e2]
   rw[HM]
   clear h hr HM
   go_enter Tryz.func174,Tryz.ntmps174
   go_wp2_with fail
   go_quiet (fail)
   obtain⟨w1,hw1⟩:∃ w1,w1=W.drewN nq:=⟨_,rfl⟩
   have hx:TAt M b mv t w1:=by rw[hw1];exact HT.out.drewN nq
   have hbw:But b W w1:=by rw[hw1];exact But.of_below (qf W nq)
   rw[← hw1]
   clear hw1
   have k5n:=hx.c_row.1
   have hlt:=hx.lt
   have HLR:=hid (fun W' (hb:Below w1.heap.size w1 W')=>qia (hx.below hb) HG.out)
   have HX:=hid hx
   clear hx k5 f5 k12
   go_wp2_with fail
   have hS0:Below w1.heap.size w1 _:=qf w1 1
   refine qh (fun _ w'=>Below w1.heap.size w1 w') (by kernel_rfl) ?_
   refine tC 0 hS0 ?_
   refine tC 1 hS0 ?_
   refine tC 2 hS0 ?_
   refine tC 3 hS0 ?_
   refine tC 4 hS0 ?_ (hy:=fun w' hw'=>by obtain⟨hc,hf⟩:=qag hw';go_simp;try with_reducible rfl)
   refine tC 5 hS0 ?_
   refine qz (k:=6) (by kernel_rfl) rfl (by rfl) (fun K hK=>?_)
   go_simp
   go_at_call 195
   refine(HLR.out _ hS0).mono ?_
   rintro e9 w9 ⟨rfl,hw9⟩
   dsimp only
   have hS1:=hw9 ▸ hS0
   refine hK _ _ hS1 ?_
   clear hK K
   (try simp only[zT]);(try simp only[zA]);(try simp only[zS]);(try simp only[zZ])
   clear hS0 hw9
   have hS0:=hS1
   clear hS1
   refine tC 7 hS0 ?_
   refine qal (by kernel_rfl) ?_ _
   have HE:=hid (HX.out.below hS0)
   have HB:=hid (hbw.trans (But.of_below hS0))
   clear hS0
   go_wp2
   go_end0
   exact⟨rfl,HE.out,HB.out⟩
theorem goUp_any (h : TAt M b mv t W) (hr : WellT t) :
  Calls Tryz.prog 175 #[.pointer (some ⟨b,0,none⟩)] W (qu M b mv W (pUp t)):=by
 obtain⟨k5,f5⟩:=h.c_row
 obtain⟨k11,_⟩:=h.c_top
 have HT:=hid h
 have HR:=hid hr
 by_cases e1:t.row=t.top
 ·have HM:pUp t=qhn t t.top 1:=if_pos e1
  rw[HM]
  rw[e1] at k5
  clear h hr e1 HM
  go_enter Tryz.func175,Tryz.ntmps175
  go_wp2_with fail
  go_quiet (fail)
  obtain⟨w1,hw1⟩:∃ w1,w1=W.drewN nq:=⟨_,rfl⟩
  have hx:TAt M b mv t w1:=by rw[hw1];exact HT.out.drewN nq
  have hbw:But b W w1:=by rw[hw1];exact But.of_below (qf W nq)
  rw[← hw1]
  clear hw1
  have HC:=hid (qge hx HR.out.g t.top 1 HR.out.top0 HR.out.tb HR.out.bot1 (by omega) HR.out.lk)
  have k11n:=hx.c_top.1
  clear hx k5 f5 k11
  go_wp2_with ((with_reducible refine HC.out.mono ?_);rintro e w' ⟨rfl,h1,h2⟩)
  go_end0
  exact⟨rfl,h1,hbw.trans h2⟩
 ·have hne:(t.row == t.top)=false:=by simpa using e1
  have hrow:=hr.row0
  have hrow2:t.row≤50:=by have:=hr.row1;have:=qd hr.g;omega
  by_cases e2:0 < t.row
  ·have HM:pUp t={ t with row:=t.row - 1 }:=by unfold pUp;rw[if_neg e1,if_pos e2]
   rw[HM]
   clear h hr HM
   go_enter Tryz.func175,Tryz.ntmps175
   go_wp2_with fail
   go_quiet (fail)
   obtain⟨w1,hw1⟩:∃ w1,w1=W.drewN nq:=⟨_,rfl⟩
   have hx:TAt M b mv t w1:=by rw[hw1];exact HT.out.drewN nq
   have hbw:But b W w1:=by rw[hw1];exact But.of_below (qf W nq)
   rw[← hw1]
   clear hw1
   have k5n:=hx.c_row.1
   have f5n:=hx.c_row.2
   have HE:=hid (hx.s_row (t.row - 1))
   have HB:=hid (hbw.trans (qbb w1 b 5 (.int .i64 (t.row - 1))))
   clear hx k5 f5 k11
   go_wp2
   go_end0
   exact⟨rfl,HE.out,HB.out⟩
  ·have HM:pUp t=t:=by unfold pUp;rw[if_neg e1,if_neg e2]
   rw[HM]
   clear h hr HM
   go_enter Tryz.func175,Tryz.ntmps175
   go_wp2_with fail
   go_quiet (fail)
   obtain⟨w1,hw1⟩:∃ w1,w1=W.drewN nq:=⟨_,rfl⟩
   have hx:TAt M b mv t w1:=by rw[hw1];exact HT.out.drewN nq
   have hbw:But b W w1:=by rw[hw1];exact But.of_below (qf W nq)
   rw[← hw1]
   clear hw1
   have k5n:=hx.c_row.1
   have HE:=hid hx
   clear hx k5 f5 k11
   go_wp2
   go_end0
   exact⟨rfl,HE.out,hbw⟩
end
end Go.Proofs.YtpdaekmbpafenaaGreatDoor
