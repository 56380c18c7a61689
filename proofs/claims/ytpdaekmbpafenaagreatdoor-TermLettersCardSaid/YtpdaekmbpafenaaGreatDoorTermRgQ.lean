
import Derived.Test.YtpdaekmbpafenaaGreatDoorTermWQ
import Derived.Test.YtpdaekmbpafenaaGreatDoorIRowQ
import Derived.Test.YtpdaekmbpafenaaGreatDoorLtRowQ
import Derived.Test.YtpdaekmbpafenaaGreatDoorCellHQ
import Derived.Test.YtpdaekmbpafenaaGreatDoorBackPQ
import Derived.Test.YtpdaekmbpafenaaGreatDoorGridOQ
namespace Go.Proofs.YtpdaekmbpafenaaGreatDoor
open Go.RowKit
def addL (C:Nat) (s:List Ln×List Ce) (c:Ce):List Ln×List Ce:=if s.2.length=C then (s.1 ++ [⟨s.2,true⟩],[c]) else (s.1,s.2 ++ [c])
def qcn (C:Nat) (cs:List Ce):List Ln×List Ce:=cs.foldl (addL C) ([],[])
theorem qln (C:Nat) (cs:List Ce) (c:Ce):qcn C (cs ++ [c])=addL C (qcn C cs) c:=by
 unfold qcn
 rw[List.foldl_append]
 rfl
theorem print_one {u:Tm} {r:Int} (hw:qg r=1):qfj u r=printEnd (onFirst u) r 1:=by
 rw[qih,if_neg (by omega),if_neg (by omega)]
 unfold qfh
 rw[if_neg (by omega),hw]
theorem one_st {C R K : Nat} (hC : 1 ≤ C) (hR : 1 ≤ R) {s : List Ln × List Ce} (hl : s.2.length ≤ C) (ho : onesR s.2) {r : Int} (hw : qg r = 1) :
  qfj (stL C R K s.1 s.2) r=stL C R K (addL C s (cR r)).1 (addL C s (cR r)).2∧(addL C s (cR r)).2.length≤C∧onesR (addL C s (cR r)).2:=by
 have h1:onesR [cR r]:=fun c hc=>by
  rw[List.mem_singleton] at hc
  subst hc
  exact⟨cR_right hw,rfl⟩
 rw[print_one hw]
 unfold addL onFirst
 by_cases h:s.2.length=C
 ·rw[if_pos h,if_pos (show (stL C R K s.1 s.2).late=true from decide_eq_true h),on_st hC hR h]
  refine⟨?_,by show [cR r].length≤C;simpa using hC,h1⟩
  have:=put_st (K:=K) hR (done:=s.1 ++ [(⟨s.2,true⟩:Ln)]) (cur:=[]) (C:=C) (by simp;omega) (fun c hc=>by cases hc) hw
  exact this
 ·rw[if_neg h,if_neg (show ¬ (stL C R K s.1 s.2).late=true from by show ¬ decide (s.2.length=C)=true;simpa using h)]
  refine⟨put_st hR (by omega) ho hw,by show (s.2 ++ [cR r]).length≤C;rw[List.length_append,List.length_singleton];omega,fun c hc=>?_⟩
  rcases List.mem_append.1 hc with hc | hc
  ·exact ho c hc
  ·exact h1 c hc
theorem prints_st {C R K : Nat} (hC : 1 ≤ C) (hR : 1 ≤ R) : ∀ {l : List Int}, (∀ r ∈ l, qg r = 1) →
  (l.map qb8).foldl doT (newT C R K)=stL C R K (qcn C (l.map cR)).1 (qcn C (l.map cR)).2∧(qcn C (l.map cR)).2.length≤C∧onesR (qcn C (l.map cR)).2:=fun {l}=>by
 refine snoc_ind (P:=fun l=>(∀ r∈l,qg r=1)→(l.map qb8).foldl doT (newT C R K)=stL C R K (qcn C (l.map cR)).1 (qcn C (l.map cR)).2∧(qcn C (l.map cR)).2.length≤C∧onesR (qcn C (l.map cR)).2)
  (fun _=>⟨new_st hC hR,Nat.zero_le _,fun c hc=>by cases hc⟩) (fun l r ih h=>?_) l
 obtain⟨i1,i2,i3⟩:=ih fun x hx=>h x (by simp[hx])
 rw[List.map_append,List.map_append,List.foldl_append,i1,List.map_singleton,List.map_singleton,qln]
 exact one_st hC hR i2 i3 (h r (by simp))
def qff (C:Nat) (cs:List Ce) (i:Nat):Ln:=⟨qcz C ((cs.drop (i * C)).take C),decide (i * C+C < cs.length)⟩
structure Sent (C:Nat) (cs:List Ce) (done:List Ln) (cur:List Ce):Prop where
 num:done.length * C+cur.length=cs.length
 rest:cs.drop (done.length * C)=cur
 ne:done=[]∨cur≠[]
 at_:∀ i,i < done.length→done[i]?=some ⟨(cs.drop (i * C)).take C,true⟩
 le:cur.length≤C
theorem sent {C:Nat} (hC:1≤C) (cs:List Ce):Sent C cs (qcn C cs).1 (qcn C cs).2:=by
 refine snoc_ind (P:=fun cs=>Sent C cs (qcn C cs).1 (qcn C cs).2) ⟨by simp[qcn],by simp[qcn],.inl rfl,fun i hi=>by simp[qcn] at hi,Nat.zero_le _⟩ (fun cs c h=>?_) cs
 rw[qln]
 generalize qcn C cs=s at h ⊢
 obtain⟨done,cur⟩:=s
 simp only at h
 have hn:=h.num
 have hcl:(cs ++ [c]).length=cs.length+1:=by rw[List.length_append,List.length_singleton]
 have old:∀ i,i < done.length→done[i]?=some ⟨((cs ++ [c]).drop (i * C)).take C,true⟩:=fun i hi=>by
  rw[h.at_ i hi]
  have hle:i * C+C≤done.length * C:=by
   rw[← Nat.succ_mul]
   exact Nat.mul_le_mul_right C hi
  rw[List.drop_append_of_le_length (by omega),List.take_append_of_le_length (by rw[List.length_drop];omega)]
 unfold addL
 simp only
 by_cases hf:cur.length=C
 ·rw[if_pos hf]
  have hdl:(done ++ [(⟨cur,true⟩:Ln)]).length=done.length+1:=by rw[List.length_append,List.length_singleton]
  have hmul:(done.length+1) * C=done.length * C+C:=Nat.succ_mul _ _
  refine⟨?_,?_,.inr (by simp),fun i hi=>?_,by simpa using hC⟩
  ·rw[hdl,hmul,hcl,List.length_singleton];omega
  ·rw[hdl,hmul,show done.length * C+C=cs.length by omega,List.drop_append_of_le_length (Nat.le_refl _),List.drop_length,List.nil_append]
  ·rw[hdl] at hi
   by_cases hi2:i < done.length
   ·rw[List.getElem?_append_left hi2]
    exact old i hi2
   ·obtain rfl:i=done.length:=by omega
    rw[List.getElem?_concat_length,List.drop_append_of_le_length (by omega),h.rest,List.take_append_of_le_length (by omega),List.take_of_length_le (by omega)]
 ·rw[if_neg hf]
  have hlt:=h.le
  refine⟨?_,?_,.inr (by simp),old,?_⟩
  ·show done.length * C+(cur ++ [c]).length=_
   rw[hcl,List.length_append,List.length_singleton];omega
  ·show (cs ++ [c]).drop (done.length * C)=cur ++ [c]
   rw[List.drop_append_of_le_length (by omega),h.rest]
  ·rw[List.length_append,List.length_singleton];omega
theorem Sent.all {C:Nat} (hC:1≤C) {cs cur:List Ce} {done:List Ln} (h:Sent C cs done cur):qgf C done cur=(List.range (done.length+1)).map (qff C cs):=by
 apply List.ext_getElem?
 intro i
 have hn:=h.num
 rw[List.getElem?_map]
 unfold qgf
 by_cases hi:i < done.length
 ·rw[List.getElem?_append_left hi,h.at_ i hi,List.getElem?_range (by omega)]
  have hle:i * C+C≤done.length * C:=by
   rw[← Nat.succ_mul]
   exact Nat.mul_le_mul_right C hi
  have hc:0 < cur.length:=by
   rcases h.ne with h' | h'
   ·rw[h'] at hi;simp at hi
   ·exact List.length_pos_iff.2 h'
  show Option.some _=Option.some _
  congr 1
  unfold qff
  have hfull:((cs.drop (i * C)).take C).length=C:=by rw[List.length_take,List.length_drop];omega
  rw[decide_eq_true (by omega)]
  unfold qcz
  rw[hfull,Nat.sub_self,List.replicate_zero,List.append_nil]
 ·by_cases he:i=done.length
  ·subst he
   rw[List.getElem?_concat_length,List.getElem?_range (by omega)]
   show Option.some _=Option.some _
   congr 1
   unfold qff curL
   have hle:=h.le
   rw[h.rest,List.take_of_length_le hle,decide_eq_false (by omega)]
  ·rw[List.getElem?_eq_none (by rw[List.length_append,List.length_singleton];omega),List.getElem?_eq_none (by rw[List.length_range];omega)]
   rfl
theorem Sent.full {C:Nat} (hC:1≤C) {cs cur:List Ce} {done:List Ln} (h:Sent C cs done cur):cur.length=C↔0 < cs.length∧cs.length % C=0:=by
 have hn:=h.num
 have hle:=h.le
 constructor
 ·intro hf
  refine⟨by omega,?_⟩
  rw[← hn,hf,← Nat.succ_mul,Nat.mul_mod_left]
 ·rintro⟨h1,h2⟩
  rw[← hn,Nat.add_comm,Nat.add_mul_mod_self_right] at h2
  by_cases h0:cur.length=0
  ·rcases h.ne with h' | h'
   ·rw[h'] at hn
    simp only[List.length_nil,Nat.zero_mul] at hn
    omega
   ·exact absurd (List.length_eq_zero_iff.1 h0) h'
  ·by_cases hlt:cur.length < C
   ·rw[Nat.mod_eq_of_lt hlt] at h2
    exact absurd h2 h0
   ·omega
theorem letters_new {C R K : Nat} (hC : 1 ≤ C) (hR : 1 ≤ R) {l : List Int} (hw : ∀ r ∈ l, qg r = 1) (hl : qj8 l) (n : Nat) (hn : n = (qcn C (l.map cR)).1.length + 1) (X : Tm) (hX : qiu (newT C R K) (sentB l) = X) :
  X.g.ls=((List.range n).map (qff C (l.map cR))).drop (n - R) ++ List.replicate (R - n) (qbe C .no)∧X.bls=qah K (((List.range n).map (qff C (l.map cR))).take (n - R)) ∧
  (X.late=true↔0 < l.length∧l.length % C=0)∧l.length≤n * C∧(n=1∨(n - 1) * C < l.length):=by
 have hs:=sent hC (l.map cR)
 have hfeed:qa1 (newT C R K).pa (sentB l)=(.to 0,l.map qb8):=qjt l hl
 have e:X=qx (stL C R K (qcn C (l.map cR)).1 (qcn C (l.map cR)).2) (.to 0):=by
  rw[← hX,feed_set,hfeed,(prints_st hC hR hw).1]
 have hall:=hs.all hC
 have hful:=hs.full hC
 have hnn:=hs.num
 have hle:=hs.le
 have hso:=hs.ne
 rw[List.length_map] at hful hnn
 generalize (qcn C (l.map cR)).1=done at *
 generalize (qcn C (l.map cR)).2=cur at *
 subst hn
 rw[← hall,e]
 refine⟨rfl,?_,?_,?_,?_⟩
 ·show qah K (done.take (done.length+1 - R))=qah K ((qgf C done cur).take (done.length+1 - R))
  unfold qgf
  rw[List.take_append_of_le_length (gone_le done hR)]
 ·show decide (cur.length=C)=true↔_
  rw[decide_eq_true_iff]
  exact hful
 ·rw[Nat.succ_mul];omega
 ·rcases hso with h | h
  ·left;rw[h];rfl
  ·right
   have:=List.length_pos_iff.2 h
   rw[Nat.add_sub_cancel]
   omega
theorem width_sent {r:Int} (h:0≤qg r):qak r=true∧(160≤r∨(32≤r∧r < 127)):=by
 refine⟨qa8 h,?_⟩
 unfold qg at h
 split at h
 ·omega
 ·rename_i hh
  omega
theorem widths_sent {l:List Int} (h:∀ r∈l,0≤qg r):qj8 l:=fun r hr=>width_sent (h r hr)
theorem first_n4 {s:ByteArray} (h:(qi s).e=0):(qi s).n.toNat≤4∧(qi s).n.toNat≤s.size:=by
 refine⟨?_,(qgm s).2.1⟩
 rcases qbt s with ⟨r,_,h1,_,_⟩ | h1
 ·rw[h1]
  show ((sizeOf r:Nat):Int).toNat≤4
  rw[Int.toNat_natCast]
  unfold sizeOf
  split
  ·omega
  ·split
   ·omega
   ·split <;> omega
 ·exfalso
  rcases h1 with ⟨h1,_⟩ | ⟨n,h1,_⟩
  ·rw[h1] at h;cases h
  ·rw[h1] at h;cases h
theorem qmk:∀ (f:Nat) (s:ByteArray) (m k:Nat),qay f s m=some k→s.size≤4 * f
 | 0,s,m,k,h=>by
  unfold qay at h
  split at h
  ·omega
  ·cases h
 | f+1,s,m,k,h=>by
  unfold qay at h
  split at h
  ·omega
  ·split at h
   ·rename_i he
    have h4:=first_n4 he.1
    have:=qmk f _ _ _ h
    rw[ql] at this
    omega
   ·cases h
theorem qc7 {c:Ce} (h:qq c=true):c.tx.size≤12:=by
 unfold qq at h
 rw[Bool.and_eq_true] at h
 have h:=h.2
 by_cases h0:c.tx.size=0
 ·omega
 ·rw[if_neg h0,decide_eq_true_iff] at h
  have h1:=h.1
  unfold qaz at h1
  split at h1
  ·rename_i he
   have h4:=first_n4 he.1
   split at h1
   ·rename_i k hk
    have:=qmk _ _ _ _ hk
    rw[ql] at this
    omega
   ·simp at h1
  ·simp at h1
theorem rg_size {g:Gd} (h:qm g=true):∀ l∈g.ls,l.cs.length≤80∧∀ c∈l.cs,c.tx.size≤12:=fun l hl=>by
 have hf:=fits_iff.1 (rg_at h hl)
 have hb:=qd h
 exact⟨by omega,fun c hc=>qc7 (rights_iff.1 hf.2.1 c hc)⟩
theorem rg_sm {g:Gd} (h:qm g=true) {lv:List (Ln×Value)} (hm:lv.map Prod.fst=g.ls):Sm lv:=by
 have hb:=qd h
 have hl:lv.length=g.ls.length:=by rw[← hm,List.length_map]
 refine⟨by omega,fun e he=>?_⟩
 obtain⟨h1,h2⟩:=rg_size h e.1 (by rw[← hm];exact List.mem_map.2 ⟨e,he,rfl⟩)
 exact⟨by omega,fun c hc=>by have:=h2 c hc;omega⟩
theorem qju {cols:Int} {lv:List (Ln×Value)}:qbd cols lv=qm ⟨cols,lv.map Prod.fst⟩:=by
 unfold qbd qm qbl qed
 rw[Bool.and_assoc]
 congr 2
 ·rw[List.length_map]
  congr 1
  simp only[eq_iff_iff]
  omega
 ·rw[List.all_map]
  rfl
def Tm.cells (t:Tm) (vg vm vp vb:Value):Array Value:=#[.int .i64 t.g.cols,vg,.bool t.alt,.int .i64 t.main.cols,vm,.int .i64 t.row,.int .i64 t.col,.bool t.late,.int .i64 t.lk.fg,.int .i64 t.lk.bg,.int .i64 t.lk.fl,.int .i64 t.top,.int .i64 t.bot,.int .i64 t.sv.row,.int .i64 t.sv.col,.int .i64 t.sv.lk.fg,.int .i64 t.sv.lk.bg,.int .i64 t.sv.lk.fl,.bool t.sv.og,.bool t.og,.bool t.wr,.bool t.ins,.bool t.hd,.int .i64 t.pa.st,.int .i64 t.pa.priv,vp,.int .i64 t.pa.inter,.string t.pa.osc,.string t.pa.pend,.int .i64 t.bmax,vb,.string t.title]
structure TmIn (W:World) (t:Tm) (vg vm vp vb:Value) (lg lm lb:List (Ln×Value)):Prop where
 g:LR W vg lg
 gc:CesOf W lg
 gm:lg.map Prod.fst=t.g.ls
 m:LR W vm lm
 mc:CesOf W lm
 mm:lm.map Prod.fst=t.main.ls
 b:LR W vb lb
 bc:CesOf W lb
 bm:lb.map Prod.fst=t.bls
 p:IRow W vp t.pa.params
theorem TmIn.below {W W':World} {t:Tm} {vg vm vp vb:Value} {lg lm lb:List (Ln×Value)} (h:TmIn W t vg vm vp vb lg lm lb) (hb:Below W.heap.size W W'):TmIn W' t vg vm vp vb lg lm lb :=
 ⟨h.g.below hb,h.gc.below hb,h.gm,h.m.below hb,h.mc.below hb,h.mm,h.b.below hb,h.bc.below hb,h.bm,h.p.below hb⟩
theorem keptB_G (lv:List (Ln×Value)):qdj lv=qgg (lv.map Prod.fst):=by
 unfold qdj qgg
 rw[List.all_map]
 rfl
theorem backB_G (mx:Int) (lv:List (Ln×Value)):qdn mx lv=qdu mx (lv.map Prod.fst):=by
 unfold qdn qdu
 rw[keptB_G,List.length_map]
set_option maxHeartbeats 4000000
set_option maxRecDepth 100000
def qb9 (t:Tm) (n:Nat):Bool:=!(decide (t.row < 0)) && (!(decide ((n:Int)≤t.row)) && (!(decide (t.col < 0)) && (!(decide (t.g.cols≤t.col)) && (!t.late || (t.wr && decide (t.col=t.g.cols - 1))))))
def qbu (t:Tm) (n:Nat):Bool:=if n=1 then decide (t.top=0) && decide (t.bot=0) else decide (0≤t.top) && (decide (t.top < t.bot) && decide (t.bot < (n:Int)))
def qdt (s:Sv):Bool:=decide (0≤s.row) && (decide (s.row≤79) && (decide (0≤s.col) && (decide (s.col≤79) && qab s.lk)))
theorem tm_place (t : Tm) (A : Option Addr) (n c : Nat) (vm vp vb : Value) (W : World) (h1 : 1 ≤ t.g.cols ∧ t.g.cols ≤ 80) (h2 : n ≤ 50) :
  Calls Tryz.prog 42 #[.agg (t.cells (.slice A n c) vm vp vb)] W fun e w'=>e=.returned (.bool (qb9 t n))∧Below W.heap.size W w':=by
 unfold Tm.cells
 have hn:(n:Int)≤50:=by omega
 by_cases c1:t.row < 0
 ·have dc1:decide (t.row < 0)=true:=decide_eq_true c1
  have HE:Hid (qb9 t n=false):=by unfold Hid qb9;simp[dc1]
  go_enter Tryz.func42,Tryz.ntmps42
  go_wp2
  go_ret
  exact⟨qe HE.out.symm,qa _ _⟩
 ·have dc1:decide (t.row < 0)=false:=decide_eq_false c1
  by_cases c2:(n:Int)≤t.row
  ·have dc2:decide ((n:Int)≤t.row)=true:=decide_eq_true c2
   have HE:Hid (qb9 t n=false):=by unfold Hid qb9;simp[dc1,dc2]
   go_enter Tryz.func42,Tryz.ntmps42
   go_wp2
   go_ret
   exact⟨qe HE.out.symm,qa _ _⟩
  ·have dc2:decide ((n:Int)≤t.row)=false:=decide_eq_false c2
   by_cases c3:t.col < 0
   ·have dc3:decide (t.col < 0)=true:=decide_eq_true c3
    have HE:Hid (qb9 t n=false):=by unfold Hid qb9;simp[dc1,dc2,dc3]
    go_enter Tryz.func42,Tryz.ntmps42
    go_wp2
    go_ret
    exact⟨qe HE.out.symm,qa _ _⟩
   ·have dc3:decide (t.col < 0)=false:=decide_eq_false c3
    by_cases c4:t.g.cols≤t.col
    ·have dc4:decide (t.g.cols≤t.col)=true:=decide_eq_true c4
     have HE:Hid (qb9 t n=false):=by unfold Hid qb9;simp[dc1,dc2,dc3,dc4]
     go_enter Tryz.func42,Tryz.ntmps42
     go_wp2
     go_ret
     exact⟨qe HE.out.symm,qa _ _⟩
    ·have dc4:decide (t.g.cols≤t.col)=false:=decide_eq_false c4
     cases hl:t.late
     ·have HE:Hid (qb9 t n=true):=by unfold Hid qb9;simp[dc1,dc2,dc3,dc4,hl]
      go_enter Tryz.func42,Tryz.ntmps42
      go_wp2
      go_ret
      exact⟨qe HE.out.symm,qa _ _⟩
     ·cases hw:t.wr
      ·have HE:Hid (qb9 t n=false):=by unfold Hid qb9;simp[dc1,dc2,dc3,dc4,hl,hw]
       go_enter Tryz.func42,Tryz.ntmps42
       go_wp2
       go_ret
       exact⟨qe HE.out.symm,qa _ _⟩
      ·by_cases c9:t.col=t.g.cols - 1
       ·have d9:decide (t.col=t.g.cols - 1)=true:=decide_eq_true c9
        have e9:(t.col == t.g.cols - 1)=true:=by simp[c9]
        have HE:Hid (qb9 t n=true):=by unfold Hid qb9;simp[dc1,dc2,hl,hw,c9] <;> omega
        go_enter Tryz.func42,Tryz.ntmps42
        go_wp2
        go_ret
        exact⟨qe HE.out.symm,qa _ _⟩
       ·have d9:decide (t.col=t.g.cols - 1)=false:=decide_eq_false c9
        have e9:(t.col == t.g.cols - 1)=false:=by simp[c9]
        have HE:Hid (qb9 t n=false):=by unfold Hid qb9;simp[dc1,dc2,dc3,dc4,hl,hw,c9]
        go_enter Tryz.func42,Tryz.ntmps42
        go_wp2
        go_ret
        exact⟨qe HE.out.symm,qa _ _⟩
theorem tm_region (t : Tm) (A : Option Addr) (n c : Nat) (vm vp vb : Value) (W : World) :
  Calls Tryz.prog 43 #[.agg (t.cells (.slice A n c) vm vp vb)] W fun e w'=>e=.returned (.bool (qbu t n))∧Below W.heap.size W w':=by
 unfold Tm.cells
 by_cases c1:n=1
 ·have d1:((n:Int) == 1)=true:=by simp[c1]
  have d1b:(n:Int)=1:=by omega
  by_cases c2:t.top=0
  ·have dc2:decide (t.top=0)=true:=decide_eq_true c2
   have ec20:(t.top == (0:Int))=true:=by simp[c2]
   by_cases c3:t.bot=0
   ·have dc3:decide (t.bot=0)=true:=decide_eq_true c3
    have ec30:(t.bot == (0:Int))=true:=by simp[c3]
    have HE:Hid (qbu t n=true):=by unfold Hid qbu;simp[c1,dc2,dc3]
    go_enter Tryz.func43,Tryz.ntmps43
    go_wp2
    go_ret
    exact⟨qe HE.out.symm,qa _ _⟩
   ·have dc3:decide (t.bot=0)=false:=decide_eq_false c3
    have ec30:(t.bot == (0:Int))=false:=by simp[c3]
    have HE:Hid (qbu t n=false):=by unfold Hid qbu;simp[c1,dc2,dc3]
    go_enter Tryz.func43,Tryz.ntmps43
    go_wp2
    go_ret
    exact⟨qe HE.out.symm,qa _ _⟩
  ·have dc2:decide (t.top=0)=false:=decide_eq_false c2
   have ec20:(t.top == (0:Int))=false:=by simp[c2]
   have HE:Hid (qbu t n=false):=by unfold Hid qbu;simp[c1,dc2]
   go_enter Tryz.func43,Tryz.ntmps43
   go_wp2
   go_ret
   exact⟨qe HE.out.symm,qa _ _⟩
 ·have d1:((n:Int) == 1)=false:=by simp;omega
  have d1b:¬ (n:Int)=1:=by omega
  by_cases c2:0≤t.top
  ·have dc2:decide (0≤t.top)=true:=decide_eq_true c2
   by_cases c3:t.top < t.bot
   ·have dc3:decide (t.top < t.bot)=true:=decide_eq_true c3
    by_cases c4:t.bot < (n:Int)
    ·have dc4:decide (t.bot < (n:Int))=true:=decide_eq_true c4
     have HE:Hid (qbu t n=true):=by unfold Hid qbu;simp[c1,dc2,dc3,dc4]
     go_enter Tryz.func43,Tryz.ntmps43
     go_wp2
     go_ret
     exact⟨qe HE.out.symm,qa _ _⟩
    ·have dc4:decide (t.bot < (n:Int))=false:=decide_eq_false c4
     have HE:Hid (qbu t n=false):=by unfold Hid qbu;simp[c1,dc2,dc3,dc4]
     go_enter Tryz.func43,Tryz.ntmps43
     go_wp2
     go_ret
     exact⟨qe HE.out.symm,qa _ _⟩
   ·have dc3:decide (t.top < t.bot)=false:=decide_eq_false c3
    have HE:Hid (qbu t n=false):=by unfold Hid qbu;simp[c1,dc2,dc3]
    go_enter Tryz.func43,Tryz.ntmps43
    go_wp2
    go_ret
    exact⟨qe HE.out.symm,qa _ _⟩
  ·have dc2:decide (0≤t.top)=false:=decide_eq_false c2
   have HE:Hid (qbu t n=false):=by unfold Hid qbu;simp[c1,dc2]
   go_enter Tryz.func43,Tryz.ntmps43
   go_wp2
   go_ret
   exact⟨qe HE.out.symm,qa _ _⟩
theorem tm_saved (s : Sv) (W : World) :
  Calls Tryz.prog 44 #[.agg #[.int .i64 s.row,.int .i64 s.col,.int .i64 s.lk.fg,.int .i64 s.lk.bg,.int .i64 s.lk.fl,.bool s.og]] W fun e w'=>e=.returned (.bool (qdt s))∧Below W.heap.size W w':=by
 have HB:=hid (qa W (.cells #[.int .i64 s.row,.int .i64 s.col,.int .i64 s.lk.fg,.int .i64 s.lk.bg,.int .i64 s.lk.fl,.bool s.og] 28))
 have HL:=hid (fun W'=>show Calls Tryz.prog 45 #[.agg #[.int .i64 s.lk.fg,.int .i64 s.lk.bg,.int .i64 s.lk.fl]] W' _ from qcv s.lk W')
 by_cases c1:0≤s.row
 ·have dc1:decide (0≤s.row)=true:=decide_eq_true c1
  by_cases c2:s.row≤79
  ·have dc2:decide (s.row≤79)=true:=decide_eq_true c2
   by_cases c3:0≤s.col
   ·have dc3:decide (0≤s.col)=true:=decide_eq_true c3
    by_cases c4:s.col≤79
    ·have dc4:decide (s.col≤79)=true:=decide_eq_true c4
     have HE:Hid (qdt s=qab s.lk):=by unfold Hid qdt;simp[dc1,dc2,dc3,dc4]
     go_enter Tryz.func44,Tryz.ntmps44
     go_wp2_with ((with_reducible refine(HL.out _).mono ?_);rintro e w2 ⟨rfl,hb2⟩)
     go_ret
     exact⟨qe HE.out.symm,HB.out.trans (hb2.mono HB.out.size)⟩
    ·have dc4:decide (s.col≤79)=false:=decide_eq_false c4
     have HE:Hid (qdt s=false):=by unfold Hid qdt;simp[dc1,dc2,dc3,dc4]
     go_enter Tryz.func44,Tryz.ntmps44
     go_wp2
     go_ret
     exact⟨qe HE.out.symm,qa _ _⟩
   ·have dc3:decide (0≤s.col)=false:=decide_eq_false c3
    have HE:Hid (qdt s=false):=by unfold Hid qdt;simp[dc1,dc2,dc3]
    go_enter Tryz.func44,Tryz.ntmps44
    go_wp2
    go_ret
    exact⟨qe HE.out.symm,qa _ _⟩
  ·have dc2:decide (s.row≤79)=false:=decide_eq_false c2
   have HE:Hid (qdt s=false):=by unfold Hid qdt;simp[dc1,dc2]
   go_enter Tryz.func44,Tryz.ntmps44
   go_wp2
   go_ret
   exact⟨qe HE.out.symm,qa _ _⟩
 ·have dc1:decide (0≤s.row)=false:=decide_eq_false c1
  have HE:Hid (qdt s=false):=by unfold Hid qdt;simp[dc1]
  go_enter Tryz.func44,Tryz.ntmps44
  go_wp2
  go_ret
  exact⟨qe HE.out.symm,qa _ _⟩
end Go.Proofs.YtpdaekmbpafenaaGreatDoor
