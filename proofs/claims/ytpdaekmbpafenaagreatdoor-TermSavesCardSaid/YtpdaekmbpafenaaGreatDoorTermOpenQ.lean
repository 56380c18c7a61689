
import Derived.Test.YtpdaekmbpafenaaGreatDoorBackOpenQ
import Derived.Test.YtpdaekmbpafenaaGreatDoorParseOpenQ
import Derived.Test.YtpdaekmbpafenaaGreatDoorTermSoQ
namespace Go.Proofs.YtpdaekmbpafenaaGreatDoor
set_option maxRecDepth 100000
open Go.ChangeShapes Go.WideShapes Go.ChangeAt Go.RowKit Go.Joins Go.Deep Go.WideMaps Go.WideElems
theorem tSaved:Tryz.prog.cellsOf 28=6:=by kernel_rfl
theorem tTerm:Tryz.prog.cellsOf 35=32:=by kernel_rfl
theorem openA {H : Type} {enc : TypeId × Value → H} {W : World} {base : Nat} {sp : Nat → Bool} {held : Bool} {fuel : Nat} {k0 k1 k2 : Value} {y : DataW H × List MemPlace} (h : DataW.trod enc Tryz.prog W base sp held fuel 26 [k0, k1, k2] = some y) :
  ∃ a:At,k0=.int .i64 a.fg∧k1=.int .i64 a.bg∧k2=.int .i64 a.fl:=by
 obtain⟨ys,m,_,_,_,hyl,hat⟩:=DataW.trod_struct Tryz.underlying26 h
 have hyl':ys.length=3:=hyl
 have e0:=(hat 0 _ rfl).trans (List.getElem?_eq_getElem (by omega))
 have t0:DataW.trod enc Tryz.prog W base sp held m 3 [k0]=some (ys[0]):=by simpa [gInt] using e0
 have e1:=(hat 1 _ rfl).trans (List.getElem?_eq_getElem (by omega))
 have t1:DataW.trod enc Tryz.prog W base sp held m 3 [k1]=some (ys[1]):=by simpa [gInt] using e1
 have e2:=(hat 2 _ rfl).trans (List.getElem?_eq_getElem (by omega))
 have t2:DataW.trod enc Tryz.prog W base sp held m 3 [k2]=some (ys[2]):=by simpa [gInt] using e2
 obtain⟨a0,g0,_,_⟩:=DataW.trod_int Tryz.underlying3 t0
 obtain⟨a1,g1,_,_⟩:=DataW.trod_int Tryz.underlying3 t1
 obtain⟨a2,g2,_,_⟩:=DataW.trod_int Tryz.underlying3 t2
 simp at g0 g1 g2
 subst g0 g1 g2
 exact⟨⟨a0,a1,a2⟩,rfl,rfl,rfl⟩
theorem openG {H : Type} {enc : TypeId × Value → H} {W : World} {base : Nat} {sp : Nat → Bool} {held : Bool} {fuel : Nat} {k0 k1 : Value} {y : DataW H × List MemPlace} (h : DataW.trod enc Tryz.prog W base sp held fuel 24 [k0, k1] = some y) :
  ∃ (a:Int) (lv:List (Ln×Value)),k0=.int .i64 a∧LR W k1 lv∧CesOf W lv∧LnMax lv:=by
 obtain⟨ys,m,_,_,_,hyl,hat⟩:=DataW.trod_struct Tryz.underlying24 h
 have hyl':ys.length=2:=hyl
 have e0:=(hat 0 _ rfl).trans (List.getElem?_eq_getElem (by omega))
 have t0:DataW.trod enc Tryz.prog W base sp held m 3 [k0]=some (ys[0]):=by simpa [gInt] using e0
 have e1:=(hat 1 _ rfl).trans (List.getElem?_eq_getElem (by omega))
 have t1:DataW.trod enc Tryz.prog W base sp held m 22 [k1]=some (ys[1]):=by simpa [gLines] using e1
 obtain⟨a0,g0,_,_⟩:=DataW.trod_int Tryz.underlying3 t0
 simp at g0
 subst g0
 obtain⟨lv,h1,h2,h3,h4⟩:=qnd t1
 exact⟨a0,lv,rfl,h1,h2,h3,h4⟩
theorem openB {H : Type} {enc : TypeId × Value → H} {W : World} {base : Nat} {sp : Nat → Bool} {held : Bool} {fuel : Nat} {k0 k1 : Value} {y : DataW H × List MemPlace} (h : DataW.trod enc Tryz.prog W base sp held fuel 33 [k0, k1] = some y) :
  ∃ (a:Int) (lv:List (Ln×Value)),k0=.int .i64 a∧LR W k1 lv∧CesOf W lv∧LnMax lv:=by
 obtain⟨ys,m,_,_,_,hyl,hat⟩:=DataW.trod_struct Tryz.underlying33 h
 have hyl':ys.length=2:=hyl
 have e0:=(hat 0 _ rfl).trans (List.getElem?_eq_getElem (by omega))
 have t0:DataW.trod enc Tryz.prog W base sp held m 3 [k0]=some (ys[0]):=by simpa [gInt] using e0
 have e1:=(hat 1 _ rfl).trans (List.getElem?_eq_getElem (by omega))
 have t1:DataW.trod enc Tryz.prog W base sp held m 22 [k1]=some (ys[1]):=by simpa [gLines] using e1
 obtain⟨a0,g0,_,_⟩:=DataW.trod_int Tryz.underlying3 t0
 simp at g0
 subst g0
 obtain⟨lv,h1,h2,h3,h4⟩:=qnd t1
 exact⟨a0,lv,rfl,h1,h2,h3,h4⟩
theorem openS {H : Type} {enc : TypeId × Value → H} {W : World} {base : Nat} {sp : Nat → Bool} {held : Bool} {fuel : Nat} {k0 k1 k2 k3 k4 k5 : Value} {y : DataW H × List MemPlace} (h : DataW.trod enc Tryz.prog W base sp held fuel 28 [k0, k1, k2, k3, k4, k5] = some y) :
  ∃ s:Sv,k0=.int .i64 s.row∧k1=.int .i64 s.col∧k2=.int .i64 s.lk.fg∧k3=.int .i64 s.lk.bg∧k4=.int .i64 s.lk.fl∧k5=.bool s.og:=by
 obtain⟨ys,m,_,_,_,hyl,hat⟩:=DataW.trod_struct Tryz.underlying28 h
 have hyl':ys.length=4:=hyl
 have e0:=(hat 0 _ rfl).trans (List.getElem?_eq_getElem (by omega))
 have t0:DataW.trod enc Tryz.prog W base sp held m 3 [k0]=some (ys[0]):=by simpa [gInt] using e0
 have e1:=(hat 1 _ rfl).trans (List.getElem?_eq_getElem (by omega))
 have t1:DataW.trod enc Tryz.prog W base sp held m 3 [k1]=some (ys[1]):=by simpa [gInt] using e1
 have e2:=(hat 2 _ rfl).trans (List.getElem?_eq_getElem (by omega))
 have t2:DataW.trod enc Tryz.prog W base sp held m 26 [k2,k3,k4]=some (ys[2]):=by simpa [gAttr] using e2
 have e3:=(hat 3 _ rfl).trans (List.getElem?_eq_getElem (by omega))
 have t3:DataW.trod enc Tryz.prog W base sp held m 4 [k5]=some (ys[3]):=by simpa [gBool] using e3
 obtain⟨a0,g0,_,_⟩:=DataW.trod_int Tryz.underlying3 t0
 obtain⟨a1,g1,_,_⟩:=DataW.trod_int Tryz.underlying3 t1
 obtain⟨a,q0,q1,q2⟩:=openA t2
 obtain⟨bo,g3,_⟩:=DataW.trod_bool Tryz.underlying4 t3
 simp at g0 g1 g3
 subst g0 g1 g3 q0 q1 q2
 exact⟨⟨a0,a1,a,bo⟩,rfl,rfl,rfl,rfl,rfl,rfl⟩
theorem openP {H : Type} {enc : TypeId × Value → H} {W : World} {base : Nat} {sp : Nat → Bool} {held : Bool} {fuel : Nat} {k0 k1 k2 k3 k4 k5 : Value} {y : DataW H × List MemPlace} (h : DataW.trod enc Tryz.prog W base sp held fuel 31 [k0, k1, k2, k3, k4, k5] = some y) :
  ∃ (p:Pa) (A:Option Addr) (c:Nat),k0=.int .i64 p.st∧k1=.int .i64 p.priv∧k2=.slice A p.params.length c∧IRow W (.slice A p.params.length c) p.params∧p.params.length≤c∧p.params.length≤maxLen∧k3=.int .i64 p.inter∧k4=.string p.osc∧k5=.string p.pend∧p.osc.size≤maxLen∧p.pend.size≤maxLen:=by
 obtain⟨ys,m,_,_,_,hyl,hat⟩:=DataW.trod_struct Tryz.underlying31 h
 have hyl':ys.length=6:=hyl
 have e0:=(hat 0 _ rfl).trans (List.getElem?_eq_getElem (by omega))
 have t0:DataW.trod enc Tryz.prog W base sp held m 3 [k0]=some (ys[0]):=by simpa [gInt] using e0
 have e1:=(hat 1 _ rfl).trans (List.getElem?_eq_getElem (by omega))
 have t1:DataW.trod enc Tryz.prog W base sp held m 3 [k1]=some (ys[1]):=by simpa [gInt] using e1
 have e2:=(hat 2 _ rfl).trans (List.getElem?_eq_getElem (by omega))
 have t2:DataW.trod enc Tryz.prog W base sp held m 29 [k2]=some (ys[2]):=by simpa [pInts] using e2
 have e3:=(hat 3 _ rfl).trans (List.getElem?_eq_getElem (by omega))
 have t3:DataW.trod enc Tryz.prog W base sp held m 3 [k3]=some (ys[3]):=by simpa [gInt] using e3
 have e4:=(hat 4 _ rfl).trans (List.getElem?_eq_getElem (by omega))
 have t4:DataW.trod enc Tryz.prog W base sp held m 9 [k4]=some (ys[4]):=by simpa [gStr] using e4
 have e5:=(hat 5 _ rfl).trans (List.getElem?_eq_getElem (by omega))
 have t5:DataW.trod enc Tryz.prog W base sp held m 9 [k5]=some (ys[5]):=by simpa [gStr] using e5
 obtain⟨a0,g0,_,_⟩:=DataW.trod_int Tryz.underlying3 t0
 obtain⟨a1,g1,_,_⟩:=DataW.trod_int Tryz.underlying3 t1
 obtain⟨A,c,l,g2,hrow,hlc,hcm⟩:=open_nums t2
 obtain⟨a3,g3,_,_⟩:=DataW.trod_int Tryz.underlying3 t3
 obtain⟨a4,g4,_,hs4⟩:=DataW.trod_string Tryz.underlying9 t4
 obtain⟨a5,g5,_,hs5⟩:=DataW.trod_string Tryz.underlying9 t5
 simp at g0 g1 g3 g4 g5
 subst g0 g1 g2 g3 g4 g5
 exact⟨⟨a0,a1,l,a3,a4,a5⟩,A,c,rfl,rfl,rfl,hrow,hlc,Nat.le_trans hlc hcm,rfl,rfl,rfl,hs4,hs5⟩
theorem openT {H : Type} {enc : TypeId × Value → H} {W : World} {base : Nat} {sp : Nat → Bool} {held : Bool} {fuel : Nat} {k0 k1 k2 k3 k4 k5 k6 k7 k8 k9 k10 k11 k12 k13 k14 k15 k16 k17 k18 k19 k20 k21 k22 k23 k24 k25 k26 k27 k28 k29 k30 k31 : Value} {y : DataW H × List MemPlace} (h : DataW.trod enc Tryz.prog W base sp held fuel 35 [k0, k1, k2, k3, k4, k5, k6, k7, k8, k9, k10, k11, k12, k13, k14, k15, k16, k17, k18, k19, k20, k21, k22, k23, k24, k25, k26, k27, k28, k29, k30, k31] = some y) :
  ∃ (t:Tm) (vg vm vb:Value) (pA:Option Addr) (pc:Nat) (lg lm lb:List (Ln×Value)),[k0,k1,k2,k3,k4,k5,k6,k7,k8,k9,k10,k11,k12,k13,k14,k15,k16,k17,k18,k19,k20,k21,k22,k23,k24,k25,k26,k27,k28,k29,k30,k31]=(t.cells vg vm (.slice pA t.pa.params.length pc) vb).toList∧TmIn W t vg vm (.slice pA t.pa.params.length pc) vb lg lm lb∧TmMax t lg lm lb∧t.pa.params.length≤pc:=by
 obtain⟨ys,m,_,_,_,hyl,hat⟩:=DataW.trod_struct Tryz.underlying35 h
 have hyl':ys.length=17:=hyl
 have e0:=(hat 0 _ rfl).trans (List.getElem?_eq_getElem (by omega))
 have t0:DataW.trod enc Tryz.prog W base sp held m 24 [k0,k1]=some (ys[0]):=by simpa [gGrid] using e0
 have e1:=(hat 1 _ rfl).trans (List.getElem?_eq_getElem (by omega))
 have t1:DataW.trod enc Tryz.prog W base sp held m 4 [k2]=some (ys[1]):=by simpa [gBool] using e1
 have e2:=(hat 2 _ rfl).trans (List.getElem?_eq_getElem (by omega))
 have t2:DataW.trod enc Tryz.prog W base sp held m 24 [k3,k4]=some (ys[2]):=by simpa [gGrid] using e2
 have e3:=(hat 3 _ rfl).trans (List.getElem?_eq_getElem (by omega))
 have t3:DataW.trod enc Tryz.prog W base sp held m 3 [k5]=some (ys[3]):=by simpa [gInt] using e3
 have e4:=(hat 4 _ rfl).trans (List.getElem?_eq_getElem (by omega))
 have t4:DataW.trod enc Tryz.prog W base sp held m 3 [k6]=some (ys[4]):=by simpa [gInt] using e4
 have e5:=(hat 5 _ rfl).trans (List.getElem?_eq_getElem (by omega))
 have t5:DataW.trod enc Tryz.prog W base sp held m 4 [k7]=some (ys[5]):=by simpa [gBool] using e5
 have e6:=(hat 6 _ rfl).trans (List.getElem?_eq_getElem (by omega))
 have t6:DataW.trod enc Tryz.prog W base sp held m 26 [k8,k9,k10]=some (ys[6]):=by simpa [gAttr] using e6
 have e7:=(hat 7 _ rfl).trans (List.getElem?_eq_getElem (by omega))
 have t7:DataW.trod enc Tryz.prog W base sp held m 3 [k11]=some (ys[7]):=by simpa [gInt] using e7
 have e8:=(hat 8 _ rfl).trans (List.getElem?_eq_getElem (by omega))
 have t8:DataW.trod enc Tryz.prog W base sp held m 3 [k12]=some (ys[8]):=by simpa [gInt] using e8
 have e9:=(hat 9 _ rfl).trans (List.getElem?_eq_getElem (by omega))
 have t9:DataW.trod enc Tryz.prog W base sp held m 28 [k13,k14,k15,k16,k17,k18]=some (ys[9]):=by simpa [tSaved] using e9
 have e10:=(hat 10 _ rfl).trans (List.getElem?_eq_getElem (by omega))
 have t10:DataW.trod enc Tryz.prog W base sp held m 4 [k19]=some (ys[10]):=by simpa [gBool] using e10
 have e11:=(hat 11 _ rfl).trans (List.getElem?_eq_getElem (by omega))
 have t11:DataW.trod enc Tryz.prog W base sp held m 4 [k20]=some (ys[11]):=by simpa [gBool] using e11
 have e12:=(hat 12 _ rfl).trans (List.getElem?_eq_getElem (by omega))
 have t12:DataW.trod enc Tryz.prog W base sp held m 4 [k21]=some (ys[12]):=by simpa [gBool] using e12
 have e13:=(hat 13 _ rfl).trans (List.getElem?_eq_getElem (by omega))
 have t13:DataW.trod enc Tryz.prog W base sp held m 4 [k22]=some (ys[13]):=by simpa [gBool] using e13
 have e14:=(hat 14 _ rfl).trans (List.getElem?_eq_getElem (by omega))
 have t14:DataW.trod enc Tryz.prog W base sp held m 31 [k23,k24,k25,k26,k27,k28]=some (ys[14]):=by simpa [pCells] using e14
 have e15:=(hat 15 _ rfl).trans (List.getElem?_eq_getElem (by omega))
 have t15:DataW.trod enc Tryz.prog W base sp held m 33 [k29,k30]=some (ys[15]):=by simpa [gBack] using e15
 have e16:=(hat 16 _ rfl).trans (List.getElem?_eq_getElem (by omega))
 have t16:DataW.trod enc Tryz.prog W base sp held m 9 [k31]=some (ys[16]):=by simpa [gStr] using e16
 obtain⟨g,lg,b0,hg1,hg2,hg3⟩:=openG t0
 obtain⟨alt,g1,_⟩:=DataW.trod_bool Tryz.underlying4 t1
 obtain⟨mc,lm,b3,hm1,hm2,hm3⟩:=openG t2
 obtain⟨row,g3,_,_⟩:=DataW.trod_int Tryz.underlying3 t3
 obtain⟨col,g4,_,_⟩:=DataW.trod_int Tryz.underlying3 t4
 obtain⟨late,g5,_⟩:=DataW.trod_bool Tryz.underlying4 t5
 obtain⟨lk,b8,b9,b10⟩:=openA t6
 obtain⟨top,g7,_,_⟩:=DataW.trod_int Tryz.underlying3 t7
 obtain⟨bot,g8,_,_⟩:=DataW.trod_int Tryz.underlying3 t8
 obtain⟨sv,b13,b14,b15,b16,b17,b18⟩:=openS t9
 obtain⟨og,g10,_⟩:=DataW.trod_bool Tryz.underlying4 t10
 obtain⟨wr,g11,_⟩:=DataW.trod_bool Tryz.underlying4 t11
 obtain⟨ins,g12,_⟩:=DataW.trod_bool Tryz.underlying4 t12
 obtain⟨hd,g13,_⟩:=DataW.trod_bool Tryz.underlying4 t13
 obtain⟨pa,pA,pc,b23,b24,b25,hp1,hpc,hp2,b26,b27,b28,hp3,hp4⟩:=openP t14
 obtain⟨mx,lb,b29,hb1,hb2,hb3⟩:=openB t15
 obtain⟨title,g16,_,hs16⟩:=DataW.trod_string Tryz.underlying9 t16
 simp at g1 g3 g4 g5 g7 g8 g10 g11 g12 g13 g16
 subst g1 g3 g4 g5 g7 g8 g10 g11 g12 g13 g16 b0 b3 b8 b9 b10 b13 b14 b15 b16 b17 b18 b23 b24 b25 b26 b27 b28 b29
 exact⟨⟨⟨g,lg.map Prod.fst⟩,alt,⟨mc,lm.map Prod.fst⟩,row,col,late,lk,top,bot,sv,og,wr,ins,hd,pa,mx,lb.map Prod.fst,title⟩,k1,k4,k30,pA,pc,lg,lm,lb,rfl,⟨hg1,hg2,rfl,hm1,hm2,rfl,hb1,hb2,rfl,hp1⟩,⟨hg3,hm3,hb3,hp2,hp3,hp4,hs16⟩,hpc⟩
theorem arr32 (T:Array Value) (h:T.size=32):∃ k0 k1 k2 k3 k4 k5 k6 k7 k8 k9 k10 k11 k12 k13 k14 k15 k16 k17 k18 k19 k20 k21 k22 k23 k24 k25 k26 k27 k28 k29 k30 k31:Value,T=#[k0,k1,k2,k3,k4,k5,k6,k7,k8,k9,k10,k11,k12,k13,k14,k15,k16,k17,k18,k19,k20,k21,k22,k23,k24,k25,k26,k27,k28,k29,k30,k31]:=by
 obtain⟨l⟩:=T
 match l,h with
 | [k0,k1,k2,k3,k4,k5,k6,k7,k8,k9,k10,k11,k12,k13,k14,k15,k16,k17,k18,k19,k20,k21,k22,k23,k24,k25,k26,k27,k28,k29,k30,k31],_=>exact⟨k0,k1,k2,k3,k4,k5,k6,k7,k8,k9,k10,k11,k12,k13,k14,k15,k16,k17,k18,k19,k20,k21,k22,k23,k24,k25,k26,k27,k28,k29,k30,k31,rfl⟩
theorem open_term {H : Type} {enc : TypeId × Value → H} {W : World} {r : Reach} {b0 base : Nat} {sp : Nat → Bool} {held : Bool} {v : Value} {d : DataW H} {p : List MemPlace} (hv : Value.okWide Tryz.prog W r b0 35 v) (h : DataW.Trod enc Tryz.prog W base sp held 35 v d p) :
  ∃ (t:Tm) (vg vm vb:Value) (pA:Option Addr) (pc:Nat) (lg lm lb:List (Ln×Value)),v=.agg (t.cells vg vm (.slice pA t.pa.params.length pc) vb)∧TmIn W t vg vm (.slice pA t.pa.params.length pc) vb lg lm lb∧TmMax t lg lm lb∧t.pa.params.length≤pc:=by
 obtain⟨cs,rfl,hsz⟩:=okWide_struct Tryz.underlying35 hv
 obtain⟨k0,k1,k2,k3,k4,k5,k6,k7,k8,k9,k10,k11,k12,k13,k14,k15,k16,k17,k18,k19,k20,k21,k22,k23,k24,k25,k26,k27,k28,k29,k30,k31,rfl⟩:=arr32 cs (hsz.trans tTerm)
 obtain⟨fuel,hf⟩:=h
 have hf':DataW.trod enc Tryz.prog W base sp held fuel 35 [k0,k1,k2,k3,k4,k5,k6,k7,k8,k9,k10,k11,k12,k13,k14,k15,k16,k17,k18,k19,k20,k21,k22,k23,k24,k25,k26,k27,k28,k29,k30,k31]=some (d,p):=hf
 obtain⟨t,vg,vm,vb,pA,pc,lg,lm,lb,he,h1,h2⟩:=openT hf'
 refine⟨t,vg,vm,vb,pA,pc,lg,lm,lb,?_,h1,h2⟩
 rw[← Array.toArray_toList (xs:=t.cells vg vm (.slice pA t.pa.params.length pc) vb),← he]
end Go.Proofs.YtpdaekmbpafenaaGreatDoor
