
import Derived.Test.YtpdaekmbpafenaaGreatDoorCellHQ
import Derived.Test.YtpdaekmbpafenaaGreatDoorIRowQ
import Derived.Deep.DeepCutAuto
import Derived.Maps.AppendAt
import Derived.OwnWalk
import Derived.Deep.WholeRow
import Derived.Deep.MidRow
import Derived.Deep.RegionWith
import Derived.Deep.Slices
import Derived.Test.YtpdaekmbpafenaaGreatDoorParseFQ
import Derived.Test.YtpdaekmbpafenaaGreatDoorLtRowQ
namespace Go.Proofs.YtpdaekmbpafenaaGreatDoor
set_option maxHeartbeats 400000
open Go.RowKit
theorem or_all:∀ f∈List.range 256,∀ s∈[1,2,4,8,16,32,64,128,0],bits .or .i64 (f:Int) s=woG f s+s:=by decide +kernel
theorem or_lt:∀ f∈List.range 256,∀ s∈[(1:Int),2,4,8,16,32,64,128,0],woG f s+s < 256:=by decide +kernel
theorem not_all:∀ f∈List.range 256,∀ s∈[3,4,8,16,32,64,128,0],bits .andNot .i64 (f:Int) s=woG f s:=by decide +kernel
theorem or_is {f n:Int} (h:0≤f∧f≤255):bits .or .i64 f (qbm n)=woG f (qbm n)+qbm n:=by
 have h1:=or_all f.toNat (by simp;omega) (qbm n) (by have:=qkb n;simp;omega)
 rw[Int.toNat_of_nonneg h.1] at h1
 exact h1
theorem or_bd {f n:Int} (h:0≤f∧f≤255):0≤woG f (qbm n)+qbm n∧woG f (qbm n)+qbm n≤255:=by
 have h1:=or_lt f.toNat (by simp;omega) (qbm n) (by have:=qkb n;simp;omega)
 rw[Int.toNat_of_nonneg h.1] at h1
 have h2:=woG_bd f (qbm n)
 have h3:=flagG_bd n
 omega
theorem not_is {f n:Int} (h:0≤f∧f≤255):bits .andNot .i64 f (qfu n)=woG f (qfu n):=by
 have h1:=not_all f.toNat (by simp;omega) (qfu n) (by have:=clrG_mem n;simp;omega)
 rw[Int.toNat_of_nonneg h.1] at h1
 exact h1
def qda (x n row bright:Int):Int:=if row≤n∧n < row+8 then 1+n - row else if bright≤n∧n < bright+8 then 9+n - bright else if n=row+9 then 0 else x
theorem oneG_rows {a:At} {n:Int} (h:n≠0):oneG a n=⟨qda a.fg n 30 90,qda a.bg n 40 100,woG (woG a.fl (qbm n)+qbm n) (qfu n)⟩:=by
 unfold oneG qda inI
 simp only[decide_eq_true_eq]
 rw[if_neg h]
 congr 1
 all_goals
  repeat' split
  all_goals omega
theorem set_self {cs:Array Value} {i:Nat} {u:Value} (h:cs[i]?=some u):cs.setIfInBounds i u=cs:=by
 apply Array.ext_getElem?
 intro j
 rw[Array.getElem?_setIfInBounds]
 split
 ·rename_i e;subst e
  rw[h]
  have:=(Array.getElem?_eq_some_iff.1 h).1
  rw[if_pos this]
 ·rfl
def But (b:Nat) (W W':World):Prop:=W.grownBy W' (some b)
theorem But.refl (b:Nat) (W:World):But b W W:=World.grownBy.refl W _
theorem But.trans {b:Nat} {W W1 W2:World} (h:But b W W1) (h2:But b W1 W2):But b W W2:=World.grownBy.trans h h2
theorem But.drew {b:Nat} {W W1:World} (h:But b W W1):But b W W1.drew:=⟨h.os,h.tape,h.output,h.size,h.block⟩
theorem But.of_below {b:Nat} {W W1:World} (h:Below W.heap.size W W1):But b W W1:=⟨h.os,h.tape,h.output,h.size,fun k hk _=>h.block k hk⟩
theorem But.set {b i:Nat} {W W1:World} (h:But b W W1) (u:Value):But b W (W1.setCell ⟨b,i,none⟩ u) :=
 h.trans ⟨rfl,rfl,rfl,by simp[World.setCell],fun k _ hk=>Below.heap_setCell _ _ _ _ (fun e=>hk (by rw[e]))⟩
theorem But.below {b:Nat} {W W1:World} (h:But b W W1) (hb:b≤W.heap.size):Below b W W1:=(Below.refl b W).grown h hb (fun k hk=>by cases hk;exact Nat.le_refl _)
theorem Box.but {W W':World} {b c:Nat} {t:TypeId} {cs:Array Value} (h:Box W c t cs) (hb:But b W W') (hne:c≠b):Box W' c t cs:=h.grown hb (by simpa using hne)
def RowPost (W:World) (b i:Nat) (t:TypeId) (cs:Array Value) (v:Int) (w':World):Prop:=Box w' b t (cs.setIfInBounds i (.int .i64 v))∧But b W w'
theorem qmn (b i : Nat) (t : TypeId) (cs : Array Value) (x n row bright : Int) (W : World) (hrb : (row = 30 ∧ bright = 90) ∨ (row = 40 ∧ bright = 100)) (hbox : Box W b t cs) (hx : cs[i]? = some (.int .i64 x)) :
  Calls Tryz.prog 236 #[.pointer (some ⟨b,i,none⟩),.int .i64 n,.int .i64 row,.int .i64 bright] W fun e w'=>e=.returned (.tuple #[])∧RowPost W b i t cs (qda x n row bright) w':=by
 have hc:W.cell? ⟨b,i,none⟩=some (.int .i64 x):=(hbox.cell i).trans hx
 have hf:=hbox.free i
 have HS:=hid (set_self hx)
 have HB:=hid hbox
 clear hbox hx
 rcases hrb with ⟨rfl,rfl⟩ | ⟨rfl,rfl⟩
 ·have hcs:n < 30∨(30≤n∧n < 38)∨n=38∨n=39∨(40≤n∧n < 90)∨(90≤n∧n < 98)∨98≤n:=by omega
  rcases hcs with h | ⟨h,h'⟩ | rfl | rfl | ⟨h,h'⟩ | ⟨h,h'⟩ | h
  ·have HR:Hid (qda x n 30 90=x):=by unfold Hid qda;rw[if_neg (by omega),if_neg (by omega),if_neg (by omega)]
   have hq:(n == 39)=false:=by simp;omega
   go_enter Tryz.func236,Tryz.ntmps236
   go_wp2
   go_end0
   exact⟨rfl,by rw[HR.out];exact⟨by rw[HS.out];exact HB.out,But.refl _ _⟩⟩
  ·have HR:Hid (qda x n 30 90=1+n - 30):=by unfold Hid qda;rw[if_pos (by omega)]
   go_enter Tryz.func236,Tryz.ntmps236
   go_wp2
   go_end0
   exact⟨rfl,by rw[HR.out];exact⟨HB.out.set _,(But.refl _ _).set _⟩⟩
  ·have HR:Hid (qda x 38 30 90=x):=by unfold Hid qda;rw[if_neg (by omega),if_neg (by omega),if_neg (by omega)]
   go_enter Tryz.func236,Tryz.ntmps236
   go_wp2
   go_end0
   exact⟨rfl,by rw[HR.out];exact⟨by rw[HS.out];exact HB.out,But.refl _ _⟩⟩
  ·have HR:Hid (qda x 39 30 90=0):=by unfold Hid qda;rw[if_neg (by omega),if_neg (by omega),if_pos (by omega)]
   go_enter Tryz.func236,Tryz.ntmps236
   go_wp2
   go_end0
   exact⟨rfl,by rw[HR.out];exact⟨HB.out.set _,(But.refl _ _).set _⟩⟩
  ·have HR:Hid (qda x n 30 90=x):=by unfold Hid qda;rw[if_neg (by omega),if_neg (by omega),if_neg (by omega)]
   have hq:(n == 39)=false:=by simp;omega
   go_enter Tryz.func236,Tryz.ntmps236
   go_wp2
   go_end0
   exact⟨rfl,by rw[HR.out];exact⟨by rw[HS.out];exact HB.out,But.refl _ _⟩⟩
  ·have HR:Hid (qda x n 30 90=9+n - 90):=by unfold Hid qda;rw[if_neg (by omega),if_pos (by omega)]
   go_enter Tryz.func236,Tryz.ntmps236
   go_wp2
   go_end0
   exact⟨rfl,by rw[HR.out];exact⟨HB.out.set _,(But.refl _ _).set _⟩⟩
  ·have HR:Hid (qda x n 30 90=x):=by unfold Hid qda;rw[if_neg (by omega),if_neg (by omega),if_neg (by omega)]
   have hq:(n == 39)=false:=by simp;omega
   go_enter Tryz.func236,Tryz.ntmps236
   go_wp2
   go_end0
   exact⟨rfl,by rw[HR.out];exact⟨by rw[HS.out];exact HB.out,But.refl _ _⟩⟩
 ·have hcs:n < 40∨(40≤n∧n < 48)∨n=48∨n=49∨(50≤n∧n < 100)∨(100≤n∧n < 108)∨108≤n:=by omega
  rcases hcs with h | ⟨h,h'⟩ | rfl | rfl | ⟨h,h'⟩ | ⟨h,h'⟩ | h
  ·have HR:Hid (qda x n 40 100=x):=by unfold Hid qda;rw[if_neg (by omega),if_neg (by omega),if_neg (by omega)]
   have hq:(n == 49)=false:=by simp;omega
   go_enter Tryz.func236,Tryz.ntmps236
   go_wp2
   go_end0
   exact⟨rfl,by rw[HR.out];exact⟨by rw[HS.out];exact HB.out,But.refl _ _⟩⟩
  ·have HR:Hid (qda x n 40 100=1+n - 40):=by unfold Hid qda;rw[if_pos (by omega)]
   go_enter Tryz.func236,Tryz.ntmps236
   go_wp2
   go_end0
   exact⟨rfl,by rw[HR.out];exact⟨HB.out.set _,(But.refl _ _).set _⟩⟩
  ·have HR:Hid (qda x 48 40 100=x):=by unfold Hid qda;rw[if_neg (by omega),if_neg (by omega),if_neg (by omega)]
   go_enter Tryz.func236,Tryz.ntmps236
   go_wp2
   go_end0
   exact⟨rfl,by rw[HR.out];exact⟨by rw[HS.out];exact HB.out,But.refl _ _⟩⟩
  ·have HR:Hid (qda x 49 40 100=0):=by unfold Hid qda;rw[if_neg (by omega),if_neg (by omega),if_pos (by omega)]
   go_enter Tryz.func236,Tryz.ntmps236
   go_wp2
   go_end0
   exact⟨rfl,by rw[HR.out];exact⟨HB.out.set _,(But.refl _ _).set _⟩⟩
  ·have HR:Hid (qda x n 40 100=x):=by unfold Hid qda;rw[if_neg (by omega),if_neg (by omega),if_neg (by omega)]
   have hq:(n == 49)=false:=by simp;omega
   go_enter Tryz.func236,Tryz.ntmps236
   go_wp2
   go_end0
   exact⟨rfl,by rw[HR.out];exact⟨by rw[HS.out];exact HB.out,But.refl _ _⟩⟩
  ·have HR:Hid (qda x n 40 100=9+n - 100):=by unfold Hid qda;rw[if_neg (by omega),if_pos (by omega)]
   go_enter Tryz.func236,Tryz.ntmps236
   go_wp2
   go_end0
   exact⟨rfl,by rw[HR.out];exact⟨HB.out.set _,(But.refl _ _).set _⟩⟩
  ·have HR:Hid (qda x n 40 100=x):=by unfold Hid qda;rw[if_neg (by omega),if_neg (by omega),if_neg (by omega)]
   have hq:(n == 49)=false:=by simp;omega
   go_enter Tryz.func236,Tryz.ntmps236
   go_wp2
   go_end0
   exact⟨rfl,by rw[HR.out];exact⟨by rw[HS.out];exact HB.out,But.refl _ _⟩⟩
def qfb (x:Int) (l:List Int):Int×Int :=
 match l with
 | _ :: f :: v :: _=>if f=5∧0≤v∧v≤255 then (3,v+1) else ((l.length:Int),x)
 | _=>((l.length:Int),x)
theorem qmo {x:Int} {l:List Int} (h:l.length < 3):qfb x l=((l.length:Int),x):=by
 unfold qfb
 split
 ·simp at h;omega
 ·rfl
theorem numG_long {x n f v:Int} {q:List Int}:qfb x (n :: f :: v :: q)=if f=5∧0≤v∧v≤255 then (3,v+1) else (((n :: f :: v :: q).length:Int),x):=rfl
theorem qi1 (b i : Nat) (t : TypeId) (cs : Array Value) (x : Int) (v : Value) (l : List Int) (W : World) (hbox : Box W b t cs) (hx : cs[i]? = some (.int .i64 x)) (hr : IRow W v l) (hm : l.length ≤ 1000000) :
  Calls Tryz.prog 233 #[.pointer (some ⟨b,i,none⟩),v] W fun e w'=>e=.returned (.int .i64 (qfb x l).1)∧RowPost W b i t cs (qfb x l).2 w':=by
 have hc:W.cell? ⟨b,i,none⟩=some (.int .i64 x):=(hbox.cell i).trans hx
 have hf:=hbox.free i
 have HS:=hid (set_self hx)
 have HB:=hid hbox
 obtain⟨A,c,rfl,hA⟩:=hr
 clear hbox hx
 by_cases h3:l.length < 3
 ·rw[qmo h3]
  have h3':(l.length:Int) < 3:=by omega
  clear hA
  generalize l.length=m at *
  go_enter Tryz.func233,Tryz.ntmps233
  go_wp2
  go_ret
  exact⟨rfl,by rw[HS.out];exact HB.out,But.refl _ _⟩
 ·obtain ⟨n, f, u, q, rfl⟩ : ∃ n f u q, l = n :: f :: u :: q := by
   match l,h3 with
   | n :: f :: u :: q,_=>exact⟨n,f,u,q,rfl⟩
   | [],h=>exact absurd (by simp) h
   | [_],h=>exact absurd (by simp) h
   | [_,_],h=>exact absurd (by simp) h
  obtain⟨ad,rfl,had,hcell⟩:=hA (by simp)
  have x1:W.cell? ⟨ad.block,ad.off+1,none⟩=some (.int .i64 f):=hcell 1 f rfl
  have x2:W.cell? ⟨ad.block,ad.off+2,none⟩=some (.int .i64 u):=hcell 2 u rfl
  rw[numG_long]
  clear hcell hA
  have hm3:3≤(n :: f :: u :: q).length:=by simp
  generalize (n :: f :: u :: q).length=m at *
  have h3':¬ (m:Int) < 3:=by omega
  have p1:1 < m:=by omega
  have p2:2 < m:=by omega
  have p3:(1:Int) < m:=by omega
  have p4:(2:Int) < m:=by omega
  clear h3 hm3
  by_cases h5:f=5
  ·subst h5
   have hcs:(0≤u∧u≤255)∨u < 0∨(0≤u∧255 < u):=by omega
   rcases hcs with ⟨h,h'⟩ | h | ⟨h,h'⟩
   ·rw[if_pos ⟨rfl,h,h'⟩]
    go_enter Tryz.func233,Tryz.ntmps233
    go_wp2
    go_ret
    exact⟨rfl,by rw[Int.add_comm];exact HB.out.set _,(But.refl _ _).set _⟩
   ·rw[if_neg (by omega)]
    go_enter Tryz.func233,Tryz.ntmps233
    go_wp2
    go_ret
    exact⟨rfl,by rw[HS.out];exact HB.out,But.refl _ _⟩
   ·rw[if_neg (by omega)]
    go_enter Tryz.func233,Tryz.ntmps233
    go_wp2
    go_ret
    exact⟨rfl,by rw[HS.out];exact HB.out,But.refl _ _⟩
  ·rw[if_neg (fun h=>h5 h.1)]
   have h5':(f != 5)=true:=by simp[h5]
   clear h5
   go_enter Tryz.func233,Tryz.ntmps233
   go_wp2
   go_ret
   exact⟨rfl,by rw[HS.out];exact HB.out,But.refl _ _⟩
theorem Box.setRow {W:World} {b:Nat} {t:TypeId} {cs:Array Value} (h:Box W b t cs) (c:Array Value):Box (W.setRow b c) b t c:=setRow_heap W b cs c t (0,0) h
theorem qdb (W:World) (b:Nat) (c:Array Value):But b W (W.setRow b c):=⟨rfl,rfl,rfl,by simp,fun k _ hk=>setRow_other W b k c (fun e=>hk (by rw[e]))⟩
theorem qb6 {n b:Nat} {W0 W:World} (h:Below n W0 W) (hb:n≤b) (c:Array Value):Below n W0 (W.setRow b c):=⟨h.os,h.tape,h.output,by rw[setRow_size];exact h.size,fun k hk=>(setRow_other W b k c (by omega)).trans (h.block k hk)⟩
theorem qfq {P : Program} (g : Nat) (t : TypeId) : ∀ (vs : List Value) (i : Nat) (cur : Array Value) (w : World), w.heap[g]? = some (.cells cur t (0, 0)) → i + vs.length ≤ cur.size → (∀ v ∈ vs, v.oneCell' = true) →
  (storeCells ⟨g,0,none⟩ vs i).run P w=.ok () (w.setRow g (cur.toList.take i ++ vs ++ cur.toList.drop (i+vs.length)).toArray)
 | [],i,cur,w,hg,_,_=>by
  have h0:(cur.toList.take i ++ [] ++ cur.toList.drop (i+([]:List Value).length))=cur.toList:=by simp
  rw[h0]
  have hlt:g < w.heap.size:=(Array.getElem?_eq_some_iff.1 hg).1
  have hv:w.heap[g]=.cells cur t (0,0):=(Array.getElem?_eq_some_iff.1 hg).2
  simp only[storeCells,Array.toArray_toList]
  show Result.ok () w=_
  congr 1
  unfold World.setRow
  cases w with
  | mk heap tape drawn os output =>
   congr 1
   apply Array.ext
   ·simp
   ·intro k h1 h2
    simp only[Array.getElem_modify]
    split
    ·rename_i hk;subst hk;simp at hv;simp[hv]
    ·rfl
 | v :: rest,i,cur,w,hg,hl,h1=>by
  have hi:i < cur.size:=by simp at hl;omega
  have hadd:(⟨g,0,none⟩:Addr).add i=⟨g,i,none⟩:=by unfold Addr.add;split <;> simp_all
  have hcell:w.cell? ⟨g,i,none⟩=some cur[i]:=by simp[World.cell?,hg,hi]
  have hfro:w.frozen? ⟨g,i,none⟩=false:=by simp[World.frozen?,hg]
  have hst:(store ((⟨g,0,none⟩:Addr).add i) v).run P w=.ok () (w.setRow g (cur.setIfInBounds i v)):=by
   rw[hadd,run_store P w _ v _ (h1 v (by simp)),hcell]
   simp[hfro,setCell_eq_setRow w g i cur t (0,0) v hg]
  have ih:=qfq (P:=P) g t rest (i+1) (cur.setIfInBounds i v) (w.setRow g (cur.setIfInBounds i v)) (setRow_heap w g cur _ t _ hg) (by simp at hl ⊢;omega) (fun x hx=>h1 x (by simp[hx]))
  simp only[storeCells,Sem.run_bind,hst,Result.andThen_ok,ih,setRow_setRow]
  congr 3
  have e1:(cur.setIfInBounds i v).toList=cur.toList.set i v:=by simp
  rw[e1,List.take_set,List.drop_set_of_lt (by omega)]
  have e2:(cur.toList.take (i+1)).set i v=cur.toList.take i ++ [v]:=by
   rw[List.take_succ_eq_append_getElem (by simpa using hi),List.set_append_right _ _ (by rw[List.length_take];omega),List.length_take]
   simp[Nat.min_eq_left (Nat.le_of_lt hi)]
  rw[e2]
  simp only[List.length_cons,List.append_assoc,List.cons_append]
  rw[show i+1+rest.length=i+(rest.length+1) by omega]
  simp
theorem Box.store_all {P : Program} {W : World} {b : Nat} {t : TypeId} {cs : Array Value} (h : Box W b t cs) (L : List Value) (hl : L.length ≤ cs.size) (h1 : ∀ v ∈ L, v.oneCell' = true) :
  (storeCells ⟨b,0,none⟩ L 0).run P W=.ok () (W.setRow b (L ++ cs.toList.drop L.length).toArray):=by
 have:=qfq (P:=P) b t L 0 cs W h (by omega) h1
 simpa using this
section
variable {P:Program} {ops:Array Oper} {rest:List Oper} {op:Oper} {a:Act} {w:World} {Q:Exit→Act→World→Prop}
theorem qbj (hgd : op.guard = none) (ty : TypeId) (x y : Operand) (ho : op.op = .store ty x y) (b : Nat) (L : List Value) (hx : a.eval x = .pointer (some ⟨b, 0, none⟩)) (hy : a.eval y = .agg L.toArray)
  {t:TypeId} {cs:Array Value} (hb:Box w b t cs) (hl:L.length≤cs.size) (hi:(P.info? ty).map (·.size)=some L.length) (h1:∀ v∈L,v.oneCell'=true)
  (h:wpList P ops Q rest (a.put op.dst undef) (w.setRow b (L ++ cs.toList.drop L.length).toArray)):wpList P ops Q (op :: rest) a w:=by
 have hst:=hb.store_all (P:=P) L hl h1
 have hsv:(storeVar ty ⟨b,0,none⟩ (.agg L.toArray)).run P w=.ok () (w.setRow b (L ++ cs.toList.drop L.length).toArray):=by
  cases hq:P.info? ty with
  | none=>simp[hq] at hi
  | some i =>
   have hs:L.length=i.size:=by simp[hq] at hi;omega
   simp[storeVar,Go.sizeOf,typeInfo,hq,Value.cells,hs] at hst ⊢
   rw[← hs] at hst ⊢
   exact hst
 refine wpList_plain hgd fun K hK=>?_
 unfold Oper.wp execOp
 simp only[ho,hx,hy,Instr.storeAt,Instr.sureAddr,Sem.run_bind,Sem.run_pure,Result.andThen_ok,hsv]
 exact hK _ _ h
def qew (w:World) (b:Nat):Nat→List Value→World
 | _,[]=>w
 | i,v :: r=>qew (w.setCell ⟨b,i,none⟩ v) b (i+1) r
theorem qe3 (g i : Nat) (t : TypeId) : ∀ (vs : List Value) (j : Nat) (cur : Array Value) (w : World), Box w g t cur → i + j + vs.length ≤ cur.size → (∀ v ∈ vs, v.oneCell' = true) →
  (storeCells ⟨g,i,none⟩ vs j).run P w=.ok () (qew w g (i+j) vs)
 | [],_,_,_,_,_,_=>rfl
 | v :: rest,j,cur,w,hg,hl,h1=>by
  have hi:i+j < cur.size:=by simp at hl;omega
  have hadd:(⟨g,i,none⟩:Addr).add j=⟨g,i+j,none⟩:=by unfold Addr.add;split <;> simp_all
  have hcell:w.cell? ⟨g,i+j,none⟩=some cur[i+j]:=by rw[hg.cell];simp[hi]
  have hst:(store ((⟨g,i,none⟩:Addr).add j) v).run P w=.ok () (w.setCell ⟨g,i+j,none⟩ v):=by
   rw[hadd,run_store P w _ v _ (h1 v (by simp)),hcell]
   simp[hg.free]
  have ih:=qe3 g i t rest (j+1) (cur.setIfInBounds (i+j) v) (w.setCell ⟨g,i+j,none⟩ v) (hg.set v) (by simp at hl ⊢;omega) (fun x hx=>h1 x (by simp[hx]))
  simp only[storeCells,Sem.run_bind,hst,Result.andThen_ok,ih]
  rfl
theorem qhc {K : Act → World → Prop} (ty : TypeId) (x y : Operand) (ho : op.op = .store ty x y) (b i : Nat) (L : List Value) (hx : a.eval x = .pointer (some ⟨b, i, none⟩)) (hy : a.eval y = .agg L.toArray)
  {t:TypeId} {cs:Array Value} (hb:Box w b t cs) (hl:i+L.length≤cs.size) (hi:(P.info? ty).map (·.size)=some L.length) (h1:∀ v∈L,v.oneCell'=true)
  (h:K (a.put op.dst undef) (qew w b i L)):op.wp P a w K Q:=by
 have hst:=qe3 (P:=P) b i t L 0 cs w hb (by omega) h1
 have hsv:(storeVar ty ⟨b,i,none⟩ (.agg L.toArray)).run P w=.ok () (qew w b i L):=by
  cases hq:P.info? ty with
  | none=>simp[hq] at hi
  | some n =>
   have hs:L.length=n.size:=by simp[hq] at hi;omega
   simp[storeVar,Go.sizeOf,typeInfo,hq,Value.cells,hs] at hst ⊢
   exact hst
 unfold Oper.wp execOp
 simp only[ho,hx,hy,Instr.storeAt,Instr.sureAddr,Sem.run_bind,Sem.run_pure,Result.andThen_ok,hsv]
 exact h
theorem qhi (hgd : op.guard = none) (ty : TypeId) (x : Operand) (ho : op.op = .load ty x) (b : Nat) (hx : a.eval x = .pointer (some ⟨b, 0, none⟩)) (L : List Value)
  {t:TypeId} {cs:Array Value} (hb:Box w b t cs) (hL:cs.toList.take L.length=L) (d:TypeDesc) (hu:P.underlying ty=some d) (hd:d.isRow=true) (hi:(P.info? ty).map (·.size)=some L.length)
  (h:wpList P ops Q rest (a.put op.dst (.agg L.toArray)) w):wpList P ops Q (op :: rest) a w:=by
 refine wpList_load_mid hgd ty x ho b 0 hx L d (fun j v hv=>?_) hu hd hi h
 rw[Nat.zero_add,hb.cell]
 rw[← hL,List.getElem?_take] at hv
 split at hv
 ·simpa using hv
 ·cases hv
end
theorem qf4 {P : Program} {fn : Func} {tmps : Array Value} {i j : Nat} {t : TypeId} {a : Addr} {v u : Value} {w : World} (hf : fn.results = #[.cell i t, .tmp j]) (ht : tmps.getD i undef = .pointer (some a)) (hu : tmps.getD j undef = u) (hl : (loadVar t a).run P w = .ok v w) :
  (results fn tmps).run P w=.ok (.tuple #[v,u]) w:=by
 unfold results
 rw[hf]
 have ht2:tmps[i]?.getD undef=.pointer (some a):=by rw[← Array.getD_eq_getD_getElem?];exact ht
 have hu2:tmps[j]?.getD undef=u:=by rw[← Array.getD_eq_getD_getElem?];exact hu
 simp[ht2,hu2,asAddr,hl]
theorem Box.loadVar {P : Program} {W : World} {b : Nat} {t : TypeId} {cs : Array Value} (h : Box W b t cs) {d : TypeDesc} (hu : P.underlying t = some d) (hd : (match d with | .struct _ | .array _ _ => true | _ => false) = true) (hi : (P.info? t).map (·.size) = some cs.size) :
  (Go.loadVar t ⟨b,0,none⟩).run P W=.ok (.agg cs) W:=run_loadVar_row W b t t cs (0,0) d h hu hd hi
set_option maxHeartbeats 1000000
set_option maxRecDepth 100000
def qcr (a:At):List Int→Int×At
 | []=>(0,a)
 | n :: r =>
  if n=38 then ((qfb a.fg (n :: r)).1,⟨(qfb a.fg (n :: r)).2,a.bg,a.fl⟩)
  else if n=48 then ((qfb a.bg (n :: r)).1,⟨a.fg,(qfb a.bg (n :: r)).2,a.fl⟩)
  else (1,oneG a n)
theorem numG_bd {x:Int} (l:List Int) (hx:0≤x∧x≤256):0≤(qfb x l).2∧(qfb x l).2≤256:=by
 unfold qfb
 split
 ·split
  ·show (0:Int)≤_+1∧_+1≤(256:Int);omega
  ·exact hx
 ·exact hx
theorem stepG_look {a:At} (h:qab a=true) (l:List Int):qab (qcr a l).2=true:=by
 cases l with
 | nil=>exact h
 | cons n r =>
  simp only[qcr]
  split
  ·rw[qd2] at *
   exact⟨numG_bd _ h.1,h.2⟩
  ·split
   ·rw[qd2] at *
    exact⟨h.1,numG_bd _ h.2.1,h.2.2⟩
   ·exact oneG_look h n
theorem stepG_taken (a:At) {l:List Int} (h:l≠[]):1≤(qcr a l).1∧(qcr a l).1≤l.length:=by
 have hn:∀ (x:Int) (n:Int) (r:List Int),1≤(qfb x (n :: r)).1∧(qfb x (n :: r)).1≤((n :: r).length:Int):=by
  intro x n r
  unfold qfb
  split
  ·rename_i e
   split
   ·have:=congrArg List.length e;simp at this ⊢;omega
   ·simp;omega
  ·simp;omega
 cases l with
 | nil=>exact absurd rfl h
 | cons n r =>
  simp only[qcr]
  split
  ·exact hn _ _ _
  ·split
   ·exact hn _ _ _
   ·simp;omega
theorem chg_num {a : At} {n x : Int} {r : List Int} (hn : n = 38 ∨ n = 48) (hx : x = if n = 38 then a.fg else a.bg) :
  qeu a (n :: r)=qeu (if n=38 then ⟨(qfb x (n :: r)).2,a.bg,a.fl⟩ else ⟨a.fg,(qfb x (n :: r)).2,a.fl⟩) ((n :: r).drop (qfb x (n :: r)).1.toNat):=by
 have hid':(if n=38 then (⟨x,a.bg,a.fl⟩:At) else ⟨a.fg,x,a.fl⟩)=a:=by
  rw[hx]
  split <;> rfl
 have h0:(n :: r)[0]?=some n:=rfl
 by_cases hl:(n :: r).length < 3
 ·rw[qmo hl]
  have e:=chgG_short (a:=a) h0 hn (by omega)
  rw[List.drop_zero] at e
  rw[e]
  show a=qeu (if n=38 then ⟨x,a.bg,a.fl⟩ else ⟨a.fg,x,a.fl⟩) (List.drop (((n :: r).length:Int)).toNat (n :: r))
  rw[hid',chgG_nil (by omega)]
 ·match r,hl with
  | [],h=>exact absurd (by simp) h
  | [_],h=>exact absurd (by simp) h
  | f :: u :: q,_ =>
   rw[numG_long]
   by_cases hg:f=5∧0≤u∧u≤255
   ·rw[if_pos hg]
    have e:=chgG_good (a:=a) (l:=n :: f :: u :: q) (k:=0) h0 hn (f:=f) rfl (v:=u) rfl hg
    rw[List.drop_zero] at e
    rw[e]
    rfl
   ·rw[if_neg hg]
    have e:=chgG_bad (a:=a) (l:=n :: f :: u :: q) (k:=0) h0 hn (f:=f) rfl (v:=u) rfl hg
    rw[List.drop_zero] at e
    rw[e]
    show a=qeu (if n=38 then ⟨x,a.bg,a.fl⟩ else ⟨a.fg,x,a.fl⟩) (List.drop (((n :: f :: u :: q).length:Int)).toNat (n :: f :: u :: q))
    rw[hid',chgG_nil (by omega)]
theorem stepG_chg (a:At) {l:List Int} (h:l≠[]):qeu a l=qeu (qcr a l).2 (l.drop (qcr a l).1.toNat):=by
 match l,h with
 | n :: r,_ =>
  by_cases h1:n=38
  ·rw[chg_num (x:=a.fg) (.inl h1) (by rw[if_pos h1])]
   simp only[qcr]
   rw[if_pos h1,if_pos h1]
  ·by_cases h2:n=48
   ·rw[chg_num (x:=a.bg) (.inr h2) (by rw[if_neg h1])]
    simp only[qcr]
    rw[if_neg h1,if_neg h1,if_pos h2]
   ·simp only[qcr]
    rw[if_neg h1,if_neg h2]
    conv=>lhs;unfold qeu
    rw[if_neg (by omega)]
    rfl
def qlj (W:World) (b:Nat) (a:At) (w':World):Prop:=Box w' b 26 a.cells∧But b W w'
theorem ask_0 (b : Nat) (a : At) (ad : Addr) (m c : Nat) (W : World) (hbox : Box W b 26 a.cells) (hpos : 0 < m) (hx : W.cell? ad = some (.int .i64 0)) :
  Calls Tryz.prog 207 #[.pointer (some ⟨b,0,none⟩),.slice (some ad) m c] W fun e w'=>e=.returned (.int .i64 1)∧qlj W b ⟨0,0,0⟩ w':=by
 obtain⟨fg,bg,fl⟩:=a
 have hbox':Box W b 26 #[.int .i64 fg,.int .i64 bg,.int .i64 fl]:=hbox
 obtain⟨⟨c0,c1,c2⟩,f0,f1,f2⟩:=hbox'.three
 have hpos':(0:Int) < m:=by omega
 go_enter Tryz.func207,Tryz.ntmps207
 go_wp2
 go_ret
 exact⟨rfl,((hbox'.set (i:=0) _).set (i:=1) _).set (i:=2) _,(((But.refl _ _).set _).set _).set _⟩
theorem ask_num (b : Nat) (a : At) (n : Int) (r : List Int) (v : Value) (W : World) (hbox : Box W b 26 a.cells) (hr : IRow W v (n :: r)) (hm : (n :: r).length ≤ 1000000) (hn : n = 38 ∨ n = 48) :
  Calls Tryz.prog 207 #[.pointer (some ⟨b,0,none⟩),v] W fun e w'=>e=.returned (.int .i64 (qcr a (n :: r)).1)∧qlj W b (qcr a (n :: r)).2 w':=by
 obtain⟨fg,bg,fl⟩:=a
 have hbox':Box W b 26 #[.int .i64 fg,.int .i64 bg,.int .i64 fl]:=hbox
 have hr':=hr
 obtain⟨A,c,rfl,hA⟩:=hr
 obtain⟨ad,rfl,had,hcell⟩:=hA (by simp)
 have hx:W.cell? ad=some (.int .i64 n):=hcell 0 n rfl
 rcases hn with rfl | rfl
 ·have h1:=qi1 b 0 26 _ fg _ (38 :: r) W hbox' rfl hr' hm
  have HS:Hid (qcr ⟨fg,bg,fl⟩ (38 :: r)=((qfb fg (38 :: r)).1,⟨(qfb fg (38 :: r)).2,bg,fl⟩)):=by unfold Hid;simp[qcr]
  have hpos:0 < (38 :: r).length:=by simp
  generalize (38 :: r).length=m at *
  generalize qfb fg (38 :: r)=q at *
  generalize qcr ⟨fg,bg,fl⟩ (38 :: r)=z at *
  have hpos':(0:Int) < m:=by omega
  clear hcell hA hr'
  go_enter Tryz.func207,Tryz.ntmps207
  go_wp2_with (go_at_call 233;refine h1.mono ?_;rintro e w2 ⟨rfl,hb⟩)
  go_ret
  exact⟨qaw (by rw[HS.out]),by rw[HS.out];exact hb⟩
 ·have h1:=qi1 b 1 26 _ bg _ (48 :: r) W hbox' rfl hr' hm
  have HS:Hid (qcr ⟨fg,bg,fl⟩ (48 :: r)=((qfb bg (48 :: r)).1,⟨fg,(qfb bg (48 :: r)).2,fl⟩)):=by unfold Hid;simp[qcr]
  have hpos:0 < (48 :: r).length:=by simp
  generalize (48 :: r).length=m at *
  generalize qfb bg (48 :: r)=q at *
  generalize qcr ⟨fg,bg,fl⟩ (48 :: r)=z at *
  have hpos':(0:Int) < m:=by omega
  clear hcell hA hr'
  go_enter Tryz.func207,Tryz.ntmps207
  go_wp2_with (go_at_call 233;refine h1.mono ?_;rintro e w2 ⟨rfl,hb⟩)
  go_ret
  exact⟨qaw (by rw[HS.out]),by rw[HS.out];exact hb⟩
theorem ask_one (b : Nat) (a : At) (n : Int) (ad : Addr) (m c : Nat) (W : World) (hl : qab a = true) (hbox : Box W b 26 a.cells) (hpos : 0 < m) (had : ad.block < b) (hx : W.cell? ad = some (.int .i64 n))
  (hwf:(Lit.int .i64 n).wf=true) (h0:¬ n=0) (h38:¬ n=38) (h48:¬ n=48) :
  Calls Tryz.prog 207 #[.pointer (some ⟨b,0,none⟩),.slice (some ad) m c] W fun e w'=>e=.returned (.int .i64 1)∧qlj W b (oneG a n) w':=by
 have HR:=hid (oneG_rows (a:=a) h0)
 rw[qd2] at hl
 obtain⟨fg,bg,fl⟩:=a
 obtain⟨_,_,hfl⟩:=hl
 simp only at hfl
 have hor:=or_is (n:=n) hfl
 have hob:=or_bd (n:=n) hfl
 have hnt:=not_is (n:=n) hob
 have hflag:=flagOf_any n
 have hclr:=fun W=>cleared_any n W hwf
 have hrf:=fun W hb=>qmn b 0 26 #[.int .i64 fg,.int .i64 bg,.int .i64 (woG (woG fl (qbm n)+qbm n) (qfu n))] fg n 30 90 W (.inl ⟨rfl,rfl⟩) hb rfl
 have hrb:=fun W hb=>qmn b 1 26 #[.int .i64 (qda fg n 30 90),.int .i64 bg,.int .i64 (woG (woG fl (qbm n)+qbm n) (qfu n))] bg n 40 100 W (.inr ⟨rfl,rfl⟩) hb rfl
 generalize qbm n=F at *
 generalize qfu n=C at *
 generalize woG fl F+F=X at *
 generalize woG X C=Y at *
 simp only at HR
 generalize qda fg n 30 90=R1 at *
 generalize qda bg n 40 100=R2 at *
 have hbox':Box W b 26 #[.int .i64 fg,.int .i64 bg,.int .i64 fl]:=hbox
 have g0:(n == 0)=false:=by simp[h0]
 have g38:(n == 38)=false:=by simp[h38]
 have g48:(n == 48)=false:=by simp[h48]
 have hpos':(0:Int) < m:=by omega
 obtain⟨⟨c0,c1,c2⟩,f0,f1,f2⟩:=hbox'.three
 have hW:b < W.heap.size:=hbox'.lt
 clear h0 h38 h48 hwf hfl hob
 go_enter Tryz.func207,Tryz.ntmps207
 go_upto_region 9 with fail
 go_cut [] (fun wx=>Box wx b 26 #[.int .i64 fg,.int .i64 bg,.int .i64 X]∧But b W wx)
 case first =>
  first | go_region_with (go_at_call 234;refine(hflag _).mono ?_;rintro e w2 ⟨rfl,rfl⟩) | fail
  all_goals
   go_wp2_with fail
   go_meet
   exact⟨(hbox'.drew.set (i:=2) _),(But.refl _ _).drew.set _⟩
 case rest =>
  obtain⟨hb1,hB1⟩:=hcut
  clear c0 c1 c2 f0 f1 f2 hor hflag hbox hbox'
  obtain⟨⟨c0,c1,c2⟩,f0,f1,f2⟩:=hb1.three
  have hx1:=((hB1.below (Nat.le_of_lt hW)).cell (p:=ad) had).trans hx
  have hW1:=hb1.lt
  go_upto_region 10 with fail
  go_cut [] (fun wx=>Box wx b 26 #[.int .i64 fg,.int .i64 bg,.int .i64 Y]∧But b W wx)
  case first =>
   first | go_region_with (go_at_call 235;refine(hclr _).mono ?_;rintro e w4 ⟨rfl,hb⟩;have d0:=hb1.drew.below hb hW1;obtain⟨⟨k0,k1,k2⟩,q0,q1,q2⟩:=d0.three) | fail
   all_goals
    go_wp2_with fail
    go_meet
    exact⟨d0.set (i:=2) _,(hB1.drew.trans (But.of_below hb)).set _⟩
  case rest =>
   obtain⟨hb2,hB2⟩:=hcut
   clear c0 c1 c2 f0 f1 f2 hclr hnt hb1 hx1 hW1
   obtain⟨⟨c0,c1,c2⟩,f0,f1,f2⟩:=hb2.three
   have hx2:=((hB2.below (Nat.le_of_lt hW)).cell (p:=ad) had).trans hx
   go_upto_region 11 with fail
   go_cut [] (fun wx=>Box wx b 26 #[.int .i64 R1,.int .i64 bg,.int .i64 Y]∧But b W wx)
   case first =>
    first | go_region_with (go_at_call 236;refine(hrf _ hb2.drew).mono ?_;rintro e w5 ⟨rfl,hb3,hB3⟩) | fail
    all_goals
     go_wp2_with fail
     go_meet
     exact⟨hb3,hB2.drew.trans hB3⟩
   case rest =>
    obtain⟨hb4,hB4⟩:=hcut
    clear c0 c1 c2 f0 f1 f2 hb2 hx2 hrf
    obtain⟨⟨c0,c1,c2⟩,f0,f1,f2⟩:=hb4.three
    have hx4:=((hB4.below (Nat.le_of_lt hW)).cell (p:=ad) had).trans hx
    go_upto_region 12 with fail
    first | go_region_with (go_at_call 236;refine(hrb _ hb4.drew).mono ?_;rintro e w5 ⟨rfl,hb3,hB3⟩) | fail
    all_goals
     go_wp2
     go_ret
     exact⟨rfl,by rw[HR.out];exact⟨hb3,hB4.drew.trans hB3⟩⟩
set_option maxHeartbeats 1000000
set_option maxRecDepth 100000
theorem ask_any (b : Nat) (a : At) (l : List Int) (v : Value) (W w0 : World) (hl : qab a = true) (hbox : Box W b 26 a.cells) (hr : IRow w0 v l) (hb : w0.heap.size ≤ b) (hbel : Below w0.heap.size w0 W) (hne : l ≠ []) (hm : l.length ≤ 1000000)
  (hwf:∀ n∈l,(Lit.int .i64 n).wf=true) :
  Calls Tryz.prog 207 #[.pointer (some ⟨b,0,none⟩),v] W fun e w'=>e=.returned (.int .i64 (qcr a l).1)∧qlj W b (qcr a l).2 w':=by
 have hrW:=hr.below hbel
 match l,hne with
 | n :: r,_ =>
  by_cases hn:n=38∨n=48
  ·exact ask_num b a n r v W hbox hrW hm hn
  ·obtain⟨A,c,rfl,hA⟩:=hrW
   obtain⟨ad,rfl,_,hcell⟩:=hA (by simp)
   obtain⟨A0,c0,e0,hA0⟩:=hr
   obtain⟨ad0,h0,had,_⟩:=hA0 (by simp)
   have hx:W.cell? ad=some (.int .i64 n):=hcell 0 n rfl
   have hadb:ad.block < b:=by
    cases e0
    cases h0
    omega
   have h38:¬ n=38:=fun e=>hn (.inl e)
   have h48:¬ n=48:=fun e=>hn (.inr e)
   by_cases hz:n=0
   ·subst hz
    simp only[qcr]
    exact ask_0 b a ad _ c W hbox (by simp) hx
   ·have e1:qcr a (n :: r)=(1,oneG a n):=by simp only[qcr];rw[if_neg h38,if_neg h48]
    rw[e1]
    exact ask_one b a n ad _ c W hl hbox (by simp) hadb hx (hwf n (by simp)) hz h38 h48
theorem qm4 {l:List Int} {k j:Nat} {x:Int} (h:(l.drop k)[j]?=some x):l[k+j]?=some x:=by
 rw[List.getElem?_drop] at h;exact h
def lenV:Value→Nat | .slice _ n _=>n | _=>0
def qgv:Value→Prop | .slice _ n c=>n≤c | _=>True
theorem slice_drop (A : Option Addr) (n c : Nat) (k : Int) (hk : 0 ≤ k ∧ k ≤ n) (l : List Int) (W w0 : World) (hl : n = l.length) (hcap : n ≤ c) (hr : IRow w0 (.slice A n c) l) :
  ∃ v,(Instr.sliceAt 29 (.slice A n c) (some (.int .i64 k)) none none).run Tryz.prog W=.ok v W∧IRow w0 v (l.drop k.toNat)∧qgv v:=by
 have h1:(Instr.sliceAt 29 (.slice A n c) (some (.int .i64 k)) none none).run Tryz.prog W=.ok (sliced A k.toNat n c 1) W:=by
  rw[run_sliceAt_slice W _ _ _ _ _ Tryz.underlying29]
  rw[run_slice_l W 29 A n c Tryz.underlying29 .i64 k hk.1 hk.2]
  have hs:(Go.sizeOf (Tryz.prog.elem 29)).run Tryz.prog W=.ok 1 W:=by kernel_rfl
  rw[hs]
  rfl
 refine⟨_,h1,?_,?_⟩
 ·subst hl
  obtain⟨A',c',e,hA⟩:=hr
  cases e
  refine⟨_,_,by unfold sliced;rw[List.length_drop],fun hne=>?_⟩
  have hlt:k.toNat < l.length:=by
   rcases Nat.lt_or_ge k.toNat l.length with h | h
   ·exact h
   ·exact absurd (List.drop_eq_nil_of_le h) hne
  obtain⟨ad,rfl,had,hcell⟩:=hA (fun e=>by rw[e] at hlt;simp at hlt)
  refine⟨ad.add (k.toNat * 1),by rw[if_neg (by omega)];rfl,by rw[qdf];exact had,fun j x hx=>?_⟩
  rw[Nat.mul_one,Go.Deep.add_add]
  exact hcell _ x (qm4 hx)
 ·show n - k.toNat≤c - k.toNat
  omega
def TwoPost (a:At) (n:Int) (e:Ending):Prop:=e=.returned (.tuple #[a.agg,.int .i64 n])
theorem change_yes (a : At) (A : Option Addr) (n c : Nat) (l : List Int) (w : World) (hl : qab a = true) (hr : IRow w (.slice A n c) l) (hcap : n ≤ c) (hm : l.length ≤ 1000000) (hwf : ∀ n ∈ l, (Lit.int .i64 n).wf = true) :
  Calls Tryz.prog 164 #[a.agg,.slice A n c] w fun e w'=>TwoPost (qe6 a l) 0 e∧Below w.heap.size w w':=by
 have hlook:=qcv a
 rw[hl] at hlook
 have hn:n=l.length:=by obtain⟨A',c',e,_⟩:=hr;cases e;rfl
 obtain⟨fg,bg,fl⟩:=a
 have hstart:Box ((w.alloc (.cells #[.int .i64 fg,.int .i64 bg,.int .i64 fl] 26)).alloc (.cells #[.int .i64 0,.int .i64 0,.int .i64 0] 26)) w.heap.size 26 (At.cells ⟨fg,bg,fl⟩):=(Box.new w 26 #[.int .i64 fg,.int .i64 bg,.int .i64 fl]).alloc _
 have hres:=Box.new (w.alloc (.cells #[.int .i64 fg,.int .i64 bg,.int .i64 fl] 26)) 26 #[.int .i64 0,.int .i64 0,.int .i64 0]
 rw[World.size_alloc] at hres
 have hbel:Below w.heap.size w ((w.alloc (.cells #[.int .i64 fg,.int .i64 bg,.int .i64 fl] 26)).alloc (.cells #[.int .i64 0,.int .i64 0,.int .i64 0] 26)):=(qa _ _).alloc (by simp) _
 show Calls Tryz.prog 164 #[.agg #[.int .i64 fg,.int .i64 bg,.int .i64 fl],_] w _
 change ∀ w,Calls _ _ #[.agg #[.int .i64 fg,.int .i64 bg,.int .i64 fl]] w _ at hlook
 have HL:=hid hl
 have HS:=hid hstart
 have HR:=hid hres
 have HB:=hid hbel
 have HW:=hid hwf
 have HI:=hid hr
 clear hl hstart hres hbel hwf hr
 by_cases h0:l=[]
 ·subst h0
  simp at hn
  subst hn
  go_enter Tryz.func164,Tryz.ntmps164
  go_wp2_with (go_at_call 45;refine(hlook _).mono ?_;rintro e w2 ⟨rfl,hb⟩;obtain⟨hc,hf⟩:=qag hb)
  exact bodyPost_ret (v:=.tuple #[.agg #[.int .i64 0,.int .i64 0,.int .i64 0],.int .i64 0]) (by simp[results,Tryz.results164,go_sem,hc]) rfl ⟨rfl,(((Below.behind (Below.behind hb)).setCell (by simp) _).setCell (by simp) _).setCell (by simp) _⟩
 ·have hpos:0 < n:=by rw[hn];exact List.length_pos_iff.2 h0
  have hne:((n:Int) == 0)=false:=by simp;omega
  have hn1:n≤1000000:=by omega
  have HN:=hid hn
  clear hn
  go_enter Tryz.func164,Tryz.ntmps164
  go_upto_region 5 with (go_at_call 45;refine(hlook _).mono ?_;rintro e w2 ⟨rfl,hb⟩)
  have hz2:w.heap.size+1+1≤w2.heap.size:=by have:=hb.size;simp at this;omega
  have d0:=HS.out.below hb (by simp;omega)
  have d1:=HR.out.below hb (by simp)
  have hB2:=HB.out.trans (hb.mono (by simp;omega))
  clear hb
  go_loopw [1] (fun v wr=>∃ (A':Option Addr) (n' c':Nat) (rest:List Int) (B:At),v=.slice A' n' c'∧n'=rest.length∧n'≤c'∧n'≤1000000∧IRow w v rest∧(∀ x∈rest,(Lit.int .i64 x).wf=true)∧qeu ⟨fg,bg,fl⟩ l=qeu B rest∧qab B=true∧Box wr w.heap.size 26 B.cells∧Box wr (w.heap.size+1) 26 #[.int .i64 0,.int .i64 0,.int .i64 0]∧Below w.heap.size w wr) (fun v _=>lenV v)
  case atStart=>exact⟨A,n,c,l,⟨fg,bg,fl⟩,rfl,HN.out,hcap,hn1,HI.out,HW.out,rfl,HL.out,d0,d1,hB2⟩
  case round =>
   clear d0 d1 hB2
   obtain⟨A',n',c',rest,B,rfl,hlen,hcap',hbd,hrow,hwfr,hchg,hlook',hbox,hresb,hbel⟩:=hrel
   have HCH:=hid hchg
   have HLN:=hid hlen
   have HRW:=hid hrow
   have HWF:=hid hwfr
   clear hchg hrow hwfr
   by_cases hz:n'=0
   ·have HE : Hid (qeu ⟨fg, bg, fl⟩ l = B) := by
     unfold Hid
     have hnil:rest=[]:=List.length_eq_zero_iff.1 (by rw[← HLN.out];exact hz)
     rw[HCH.out,hnil]
     unfold qeu
     rfl
    have HG:Hid (qe6 ⟨fg,bg,fl⟩ l=B):=by unfold Hid qe6;rw[if_neg h0];exact HE.out
    obtain⟨bf,bb,bl⟩:=B
    have hbox':Box wr w.heap.size 26 #[.int .i64 bf,.int .i64 bb,.int .i64 bl]:=hbox
    obtain⟨⟨c0,c1,c2⟩,f0,f1,f2⟩:=hbox'.three
    obtain⟨⟨c3,c4,c5⟩,f3,f4,f5⟩:=hresb.three
    clear hlen hlook'
    subst hz
    go_wp2
    exact bodyPost_ret (v:=.tuple #[.agg #[.int .i64 bf,.int .i64 bb,.int .i64 bl],.int .i64 0]) (by simp[results,Tryz.results164,go_sem,c3,c4,c5]) rfl ⟨by rw[HG.out];rfl,((hbel.setCell (by simp) _).setCell (by simp) _).setCell (by simp) _⟩
   ·have hposn:0 < n':=by omega
    have hposi:(0:Int) < n':=by omega
    have hr0:rest≠[]:=fun e=>hz (by rw[HLN.out,e];rfl)
    have hask:=ask_any w.heap.size B rest (.slice A' n' c') wr w hlook' hbox HRW.out (Nat.le_refl _) hbel hr0 (by rw[← HLN.out];exact hbd) HWF.out
    have htk:=stepG_taken B hr0
    have HCG:=hid (stepG_chg B hr0)
    have HLK:=hid (stepG_look hlook' rest)
    rw[← HLN.out] at htk
    have hsl:=fun W=>slice_drop A' n' c' (qcr B rest).1 (by omega) rest W w HLN.out hcap' HRW.out
    generalize qcr B rest=S at *
    obtain⟨T,B2⟩:=S
    simp only at htk hask HCG HLK hsl
    clear hz hlen hr0 hlook'
    go_wp2_with (go_at_call 207;refine hask.mono ?_;rintro e w6 ⟨rfl,hbx,hbut⟩;obtain⟨v6,hrun6,hi6,hc6⟩:=hsl w6;obtain⟨A6,c6,rfl,hA6⟩:=hi6)
    go_roundw
    case rel =>
     exact⟨A6,_,c6,rest.drop T.toNat,B2,rfl,List.length_drop.symm,by have h:(List.drop T.toNat rest).length≤c6:=hc6;rw[List.length_drop] at h;exact h,by have:=HLN.out;omega,⟨A6,c6,by rw[List.length_drop],hA6⟩,fun x hx=>HWF.out x (List.mem_of_mem_drop hx),by rw[HCH.out,HCG.out],HLK.out,hbx,hresb.but hbut (by omega),hbel.trans (hbut.below hbel.size)⟩
    case measure=>have:=HLN.out;simp only[lenV];omega
theorem marks_more {r:Int} (h:qg r=0):∀ (f:Nat) (s:ByteArray) (m k:Nat),qay f s m=some k→qay f (s ++ Utf8.encode r) m=if k=m+f then none else some (k+1):=by
 have hr:=qa8 (r:=r) (by omega)
 have hz:=qim hr
 intro f
 induction f with
 | zero =>
  intro s m k hk
  rw[qay] at hk
  by_cases h0:s.size=0
  ·rw[if_pos h0] at hk
   obtain rfl:m=k:=Option.some.inj hk
   rw[qay,if_neg (by rw[qn];omega),if_pos (by omega)]
  ·rw[if_neg h0] at hk;cases hk
 | succ f ih =>
  intro s m k hk
  rw[qay] at hk
  by_cases h0:s.size=0
  ·rw[if_pos h0] at hk
   obtain rfl:m=k:=Option.some.inj hk
   have hs:=qaj h0
   subst hs
   rw[qle]
   have e:=marks_front (f:=f) (m:=m) (s:=⟨#[]⟩) h
   rw[qlf] at e
   rw[e,if_neg (by omega)]
   cases f <;> rw[qay,if_pos h0]
  ·rw[if_neg h0] at hk
   by_cases hc:(qi s).e=0∧qg (qi s).r=0
   ·rw[if_pos hc] at hk
    have hm:=qk6 s (Utf8.encode r) (fun e=>by rw[e] at hc;exact absurd hc.1 (by decide))
    have hle:=(qgm s).2.1
    rw[qay,if_neg (by rw[qn];omega),hm,if_pos hc,qe1 hle,ih _ _ _ hk]
    exact qhw (by omega)
   ·rw[if_neg hc] at hk;cases hk
theorem marks_le:∀ (f:Nat) (s:ByteArray) (m k:Nat),qay f s m=some k→k≤m+f:=by
 intro f
 induction f with
 | zero =>
  intro s m k hk
  rw[qay] at hk
  split at hk
  ·have:=Option.some.inj hk;omega
  ·cases hk
 | succ f ih =>
  intro s m k hk
  rw[qay] at hk
  split at hk
  ·have:=Option.some.inj hk;omega
  ·split at hk
   ·have:=ih _ _ _ hk;omega
   ·cases hk
theorem qeo {c:Ce} {r:Int} (h:qg r=0) (hr:qq c=true) (h0:c.tx.size≠0):qq ⟨c.tx ++ Utf8.encode r,c.wd,c.fg,c.bg,c.fl⟩=decide ((qaz c.tx).2≠2):=by
 unfold qq at hr
 rw[Bool.and_eq_true,if_neg h0] at hr
 obtain⟨hl,hp⟩:=hr
 have hp:=of_decide_eq_true hp
 have hz:=qn c.tx (Utf8.encode r)
 unfold qq
 show (qab c.at && _)=_
 rw[hl,Bool.true_and,if_neg (by show (c.tx ++ Utf8.encode r).size≠0;omega)]
 show decide (0 < (qaz (c.tx ++ Utf8.encode r)).1∧(qaz (c.tx ++ Utf8.encode r)).1=c.wd)=_
 unfold qaz at hp ⊢
 by_cases hc:(qi c.tx).e=0∧1≤qg (qi c.tx).r
 ·rw[if_pos hc] at hp
  have hm:=qk6 c.tx (Utf8.encode r) (fun e=>by rw[e] at hc;exact absurd hc.1 (by decide))
  have hle:=(qgm c.tx).2.1
  rw[hm,if_pos hc,if_pos hc,qe1 hle]
  cases hk:qay 2 (c.tx.extract (qi c.tx).n.toNat c.tx.size) 0 with
  | none=>rw[hk] at hp;simp at hp
  | some k =>
   rw[hk] at hp
   simp only at hp
   have hb:=marks_le _ _ _ _ hk
   rw[marks_more h _ _ _ _ hk]
   by_cases h2:k=2
   ·rw[if_pos (by omega)]
    simp[h2]
   ·rw[if_neg (by omega)]
    simp only
    rw[decide_eq_true hp,decide_eq_true h2]
 ·rw[if_neg hc] at hp
  exact absurd hp.1 (by simp)
end Go.Proofs.YtpdaekmbpafenaaGreatDoor
