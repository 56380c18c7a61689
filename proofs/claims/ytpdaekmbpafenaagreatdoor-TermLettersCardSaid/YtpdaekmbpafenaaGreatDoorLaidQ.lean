
import Derived.Test.YtpdaekmbpafenaaGreatDoorRows
import Derived.WalkKit
import Derived.ProofKit
import Derived.OpenShut
import Derived.ChangeSame
import Derived.JoinedOf
import Derived.JoinedAt
import Derived.RowKit3
import Derived.Lib.SmallJoins
import Derived.Deep.Slices
import Derived.Deep.Fields
import Derived.Carry
import Derived.Deep.DeepHandedRow
import Derived.Lib.LaidTab
namespace Go.Proofs.YtpdaekmbpafenaaGreatDoor
open Go.ChangeShapes Go.WideShapes Go.ChangeAt Go.RowKit Go.Joins Go.Deep
theorem own:ownKnob Tryz.prog.godebug=none:=by kernel_rfl
theorem qlm:laidOutB Tryz.prog=true:=by kernel_rfl
theorem qj7 {H : Type} {enc : TypeId × Value → H} {P : Program} {f : Func} {s : ChangeSpec} {apart fresh handsOn : Bool} {W W' : World} {args : Array Value} {v : Value} {ds gs : List (DataW H)} {before pa pv : List MemPlace}
  (hW:DataW.Whole enc P f.params.toList s.vars apart W args.toList ds gs before)
  (hres:∀ (b:Nat) (sp:Nat→Bool) (hd:Bool),DataW.TrodAll enc P W' b sp hd f.resultTypes.toList (v.resultList f.resultTypes.size) (s.fn H (ds ++ gs)).results [])
  (hargs:DataW.TrodAll enc P W' 0 (fun b=>decide (b < W.heap.size)) true f.params.toList args.toList (s.fn H (ds ++ gs)).args pa)
  (hvars:DataW.TrodVars enc P W' (fun b=>decide (b < W.heap.size)) s.vars (s.fn H (ds ++ gs)).vars pv)
  (hb:Below W.heap.size W W') :
  s.post enc P f apart fresh handsOn false W args v W' :=
 ⟨ds,gs,before,[],pa,pv,hW,hres _ _ _,hargs,hvars,hb.frame _,fun h=>by cases h⟩
theorem qnb {w:World} {a:Addr} {v:Value} (h:w.cell? a=some v):a.block < w.heap.size:=by
 rcases Nat.lt_or_ge a.block w.heap.size with hl | hl
 ·exact hl
 ·unfold World.cell? at h
  rw[Array.getElem?_eq_none hl] at h
  cases h
section
variable {H:Type} {enc:TypeId×Value→H} {P:Program} {w:World} {base:Nat} {spare:Nat→Bool} {held:Bool}
end
end Go.Proofs.YtpdaekmbpafenaaGreatDoor

namespace Go.Proofs.YtpdaekmbpafenaaGreatDoor
open Go.ChangeShapes Go.WideShapes Go.ChangeAt Go.RowKit
theorem qm0 {P : Program} {W : World} {name : String} {d : DataW Unit} {rest : List (String × DataW Unit)} {g : Nat} {t : TypeId}
  (hg:P.globalNamed name=some g) (hty:(P.globals[g]?).map (·.type)=some t) (h:laidMet P ((name,d) :: rest) W) :
  ∃ cs fuel p,DataW.trod (fun _=>()) P W 0 (fun _=>true) false fuel t cs.toList=some (d,p)∧(0 < cs.size→∃ t',W.heap[g]?=some (.cells cs t' (0,0))):=by
 obtain⟨ps,⟨g',t',cs,fuel,p,q,hg',ht',hvar,hd,_,hps⟩,_,hpl⟩:=h
 obtain rfl:=Option.some.inj (hg.symm.trans hg')
 obtain rfl:=Option.some.inj (hty.symm.trans ht')
 refine⟨cs,fuel,p,hd,fun h0=>?_⟩
 obtain⟨c,t2,hb⟩:=(hpl g 0 (by
  rw[hps]
  refine List.mem_append_left _ (List.mem_append_left _ ?_)
  simp only[MemPlace.row,List.mem_map,List.mem_range]
  exact⟨0,h0,rfl⟩)).1
 refine⟨t2,?_⟩
 simp only[World.var?,hg,Option.bind_some,hb,Option.some.injEq] at hvar
 rw[hb,hvar]
theorem qi2 {H : Type} {enc : TypeId × Value → H} {P : Program} {w : World} {base : Nat} {sp : Nat → Bool} {held : Bool} {fuel : Nat} {t e i : TypeId} {n m : Nat} {k : IntKind} {cs : List Value} {rows : List (List Int)} {p : List MemPlace}
  (ht:P.underlying t=some (.array n e)) (he:P.underlying e=some (.array m i)) (hi:P.underlying i=some (.int k)) (hci:P.cellsOf i=1) (hce:P.cellsOf e=m) (hct:P.cellsOf t=n * m)
  (h:DataW.trod enc P w base sp held fuel t cs=some (.agg (rows.map (Lib.tabData k)),p)) :
  cs.length=n * m∧rows.length=n∧∀ j,j < n→(cs.drop (j * m)).take m=(rows.getD j []).map (Value.int k):=by
 obtain⟨xs,f,_,hx,hl,hxl,hall⟩:=DataW.trod_array ht h
 have hr:xs.map (·.1)=rows.map (Lib.tabData k):=by
  have:=congrArg Prod.fst hx
  simpa using this.symm
 have hrl:rows.length=n:=by
  have:=congrArg List.length hr
  simp at this
  omega
 refine⟨by rw[hl,hct],hrl,fun j hj=>?_⟩
 have ha:=hall j hj
 rw[hce] at ha
 obtain⟨x,hxj⟩:∃ x,xs[j]?=some x:=⟨xs[j]'(by omega),List.getElem?_eq_getElem _⟩
 rw[hxj] at ha
 have h1:x.1=Lib.tabData k (rows.getD j []):=by
  have h2:(xs.map (·.1))[j]?=some x.1:=by simp[hxj]
  rw[hr] at h2
  simp only[List.getElem?_map,Option.map_eq_some_iff] at h2
  obtain⟨y,hy,hy2⟩:=h2
  rw[← hy2,List.getD_eq_getElem?_getD,hy];rfl
 obtain⟨x1,x2⟩:=x
 simp only at h1
 subst h1
 exact Lib.cells_of_tab he hi hci hce ha
theorem qkr {m:Nat}:∀ (rows:List (List Value)) (cs:List Value),cs.length=rows.length * m→(∀ j,j < rows.length→(cs.drop (j * m)).take m=rows.getD j [])→cs=rows.flatten
 | [],cs,h,_=>by simp at h;simp[h]
 | r :: rows,cs,h,ha=>by
  have h0:=ha 0 (by simp)
  simp at h0
  have hr:=qkr (m:=m) rows (cs.drop m) (by simp at h;simp[h,Nat.succ_mul]) (fun j hj=>by
   have:=ha (j+1) (by simp;omega)
   rw[List.drop_drop,show m+j * m=(j+1) * m by rw[Nat.succ_mul];omega,this];simp)
  rw[List.flatten_cons,← hr,← h0,List.take_append_drop]
end Go.Proofs.YtpdaekmbpafenaaGreatDoor
