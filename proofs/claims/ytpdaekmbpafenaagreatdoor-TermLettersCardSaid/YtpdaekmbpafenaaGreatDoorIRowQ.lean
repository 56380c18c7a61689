
import Derived.Test.YtpdaekmbpafenaaGreatDoorRows
import Derived.WalkKit
import Derived.WalkSpells
import Derived.WalkLawsBesides
import Derived.Deep.QuietTactic
import Derived.BigQuiet
import Derived.Laws.BytesString
import Derived.ArgAppend
import Derived.Laws.IdiomCopy
import Derived.Lib.ConvBytes
namespace Go.Proofs.YtpdaekmbpafenaaGreatDoor
open Go.RowKit
theorem hid {p:Prop} (h:p):Hid p:=h
theorem qe {a b:Bool} (h:a=b):Ending.returned (.bool a)=.returned (.bool b):=by rw[h]
theorem qaw {k:IntKind} {a b:Int} (h:a=b):Ending.returned (.int k a)=.returned (.int k b):=by rw[h]
theorem ret_two {k k':IntKind} {a b a' b':Int} (h:a=a') (h':b=b'):Ending.returned (.tuple #[.int k a,.int k' b])=.returned (.tuple #[.int k a',.int k' b']):=by rw[h,h']
def qb (s:ByteArray) (n:Nat):Int:=if h:n < s.size then (s[n].toNat:Int) else 0
theorem qbh {s:ByteArray} {n:Nat} (h:n < s.size):(s[n].toNat:Int)=qb s n:=by simp[qb,h]
theorem qbc (s:ByteArray) (n:Nat):0≤qb s n∧qb s n≤255:=by
 unfold qb
 split
 ·have:=UInt8.toNat_lt s[n];omega
 ·omega
theorem ql (s:ByteArray) (a b:Nat):(s.extract a b).size=min b s.size - a:=by simp[ByteArray.size_extract]
theorem qa9 (s:ByteArray) (a b i:Nat) (h:i < min b s.size - a):qb (s.extract a b) i=qb s (a+i):=by
 have h1:i < (s.extract a b).size:=by rw[ql];exact h
 have h2:a+i < s.size:=by omega
 rw[← qbh h1,← qbh h2]
 simp[ByteArray.getElem_extract]
theorem qam (s t:ByteArray) (i:Nat) (h:i < s.size):qb (s ++ t) i=qb s i:=by
 have h1:i < (s ++ t).size:=by simp;omega
 rw[← qbh h1,← qbh h]
 simp[ByteArray.getElem_append_left h]
theorem qd3 (s t:ByteArray) (i:Nat) (h:i < t.size):qb (s ++ t) (s.size+i)=qb t i:=by
 have h1:s.size+i < (s ++ t).size:=by simp;omega
 rw[← qbh h1,← qbh h]
 rw[ByteArray.getElem_append_right (by omega)]
 simp
theorem qdx {s t:ByteArray} (h:s.size=t.size) (hb:∀ i,i < s.size→qb s i=qb t i):s=t:=by
 apply ByteArray.ext_getElem h
 intro i h1 h2
 have:=hb i h1
 rw[← qbh h1,← qbh h2] at this
 exact UInt8.toNat_inj.1 (by omega)
theorem qn (a b:ByteArray):(a ++ b).size=a.size+b.size:=ByteArray.size_append
theorem qhw {p q:Prop} [Decidable p] [Decidable q] {α:Type} {a b:α} (h:p↔q):(if p then a else b)=if q then a else b:=by
 by_cases hp:p
 ·rw[if_pos hp,if_pos (h.1 hp)]
 ·rw[if_neg hp,if_neg (fun hq=>hp (h.2 hq))]
theorem qle (b:ByteArray):(⟨#[]⟩ ++ b:ByteArray)=b:=ByteArray.empty_append
theorem qlf (b:ByteArray):(b ++ ⟨#[]⟩:ByteArray)=b:=ByteArray.append_empty
theorem qe1 {a b:ByteArray} {n:Nat} (hn:n≤a.size):(a ++ b).extract n (a ++ b).size=a.extract n a.size ++ b:=by
 apply qdx
 ·simp;omega
 ·intro i hi
  simp at hi
  rw[qa9 _ _ _ _ (by simp;omega)]
  by_cases h:n+i < a.size
  ·rw[qam _ _ _ h,qam _ _ _ (by rw[ql];omega),qa9 _ _ _ _ (by omega)]
  ·have e1:n+i=a.size+(n+i - a.size):=by omega
   have e2:i=(a.extract n a.size).size+(n+i - a.size):=by rw[ql];omega
   rw[e1,qd3 _ _ _ (by omega)]
   conv=>rhs;rw[e2]
   rw[qd3 _ _ _ (by omega)]
def strLen:Value→Nat | .string b=>b.size | _=>0
theorem qaj {s:ByteArray} (h:s.size=0):s=⟨#[]⟩:=by
 apply ByteArray.ext
 exact Array.eq_empty_of_size_eq_zero h
theorem qcd {s:ByteArray} (h:¬ s.size=0):s.toList.isEmpty=false:=by
 rw[ByteArray.toList_eq]
 have:s.data.toList.length=s.size:=by simp
 cases hq:s.data.toList with
 | nil=>rw[hq] at this;simp at this;omega
 | cons a l=>rfl
theorem qf (w:World) (n:Nat):Below w.heap.size w (w.drewN n):=⟨rfl,rfl,rfl,Nat.le_refl _,fun _ _=>rfl⟩
theorem qag {W w1:World} (hb:Below W.heap.size W w1):(∀ b o,b < W.heap.size→w1.cell? ⟨b,o,none⟩=W.cell? ⟨b,o,none⟩)∧(∀ b o,b < W.heap.size→w1.frozen? ⟨b,o,none⟩=W.frozen? ⟨b,o,none⟩) :=
 ⟨fun b o h=>hb.cell (p:=⟨b,o,none⟩) h,fun b o h=>hb.frozen (p:=⟨b,o,none⟩) h⟩
theorem qa (w:World) (o:Obj):Below w.heap.size w (w.alloc o):=(Below.refl _ _).alloc (Nat.le_refl _) _
theorem Below.behind {w w':World} {o:Obj} (hb:Below (w.alloc o).heap.size (w.alloc o) w'):Below w.heap.size w w':=(qa w o).trans (hb.mono (by simp))
structure At where
 fg:Int
 bg:Int
 fl:Int
def At.agg (a:At):Value:=.agg #[.int .i64 a.fg,.int .i64 a.bg,.int .i64 a.fl]
def At.cells (a:At):Array Value:=#[.int .i64 a.fg,.int .i64 a.bg,.int .i64 a.fl]
def inI (n a b:Int):Bool:=decide (a≤n∧n≤b)
theorem qg3 {n a b:Int}:inI n a b=true↔a≤n∧n≤b:=decide_eq_true_iff
def qab (a:At):Bool:=inI a.fg 0 256 && inI a.bg 0 256 && inI a.fl 0 255
theorem qd2 {a:At}:qab a=true↔(0≤a.fg∧a.fg≤256)∧(0≤a.bg∧a.bg≤256)∧(0≤a.fl∧a.fl≤255):=by
 unfold qab
 rw[Bool.and_eq_true,Bool.and_eq_true,qg3,qg3,qg3,and_assoc]
def qbm (n:Int):Int:=if n=1 then 1 else if n=2 then 2 else if n=3 then 4 else if n=4 then 8 else if n=5 then 16 else if n=7 then 32 else if n=8 then 64 else if n=9 then 128 else 0
def qfu (n:Int):Int:=if n=22 then 3 else if n=23 then 4 else if n=24 then 8 else if n=25 then 16 else if n=27 then 32 else if n=28 then 64 else if n=29 then 128 else 0
theorem qkb (n:Int):qbm n=1∨qbm n=2∨qbm n=4∨qbm n=8∨qbm n=16∨qbm n=32∨qbm n=64∨qbm n=128∨qbm n=0:=by
 unfold qbm
 repeat' split
 all_goals simp
theorem clrG_mem (n:Int):qfu n=3∨qfu n=4∨qfu n=8∨qfu n=16∨qfu n=32∨qfu n=64∨qfu n=128∨qfu n=0:=by
 unfold qfu
 repeat' split
 all_goals simp
theorem flagG_bd (n:Int):0≤qbm n∧qbm n≤128:=by have:=qkb n;omega
def woN (f s:Int):Nat→Int
 | 0=>0
 | k+1=>woN f s k+if f / 2 ^ k % 2=1∧s / 2 ^ k % 2=0 then 2 ^ k else 0
def woG (f s:Int):Int:=woN f s 8
theorem woN_bd (f s:Int):∀ k,0≤woN f s k∧woN f s k < 2 ^ k
 | 0=>by simp[woN]
 | k+1=>by
  have:=woN_bd f s k
  have e:(2:Int) ^ (k+1)=2 ^ k * 2:=Int.pow_succ 2 k
  simp only[woN]
  rw[e]
  split <;> omega
theorem woG_bd (f s:Int):0≤woG f s∧woG f s≤255:=by
 have:=woN_bd f s 8
 unfold woG
 omega
def oneG (a:At) (n:Int):At :=
 if n=0 then ⟨0,0,0⟩
 else ⟨if inI n 30 37=true then n - 29 else if n=39 then 0 else if inI n 90 97=true then n - 81 else a.fg,
  if inI n 40 47=true then n - 39 else if n=49 then 0 else if inI n 100 107=true then n - 91 else a.bg,
  woG (woG a.fl (qbm n)+qbm n) (qfu n)⟩
def qeu (a:At):List Int→At
 | []=>a
 | n :: r =>
  if n=38∨n=48 then
   match r with
   | f :: v :: q=>if f=5∧0≤v∧v≤255 then qeu (if n=38 then ⟨v+1,a.bg,a.fl⟩ else ⟨a.fg,v+1,a.fl⟩) q else a
   | _=>a
  else qeu (oneG a n) r
def qe6 (a:At) (l:List Int):At:=if l=[] then ⟨0,0,0⟩ else qeu a l
theorem oneG_look {a:At} (h:qab a=true) (n:Int):qab (oneG a n)=true:=by
 rw[qd2] at *
 unfold oneG
 split
 ·simp
 ·have:=woG_bd (woG a.fl (qbm n)+qbm n) (qfu n)
  refine⟨?_,?_,this⟩
  ·dsimp only
   by_cases h1:inI n 30 37=true
   ·rw[if_pos h1];rw[qg3] at h1;omega
   ·rw[if_neg h1]
    by_cases h2:n=39
    ·rw[if_pos h2];omega
    ·rw[if_neg h2]
     by_cases h3:inI n 90 97=true
     ·rw[if_pos h3];rw[qg3] at h3;omega
     ·rw[if_neg h3];omega
  ·dsimp only
   by_cases h1:inI n 40 47=true
   ·rw[if_pos h1];rw[qg3] at h1;omega
   ·rw[if_neg h1]
    by_cases h2:n=49
    ·rw[if_pos h2];omega
    ·rw[if_neg h2]
     by_cases h3:inI n 100 107=true
     ·rw[if_pos h3];rw[qg3] at h3;omega
     ·rw[if_neg h3];omega
theorem qkc:∀ (k:Nat) (l:List Int) (a:At),l.length≤k→qab a=true→qab (qeu a l)=true
 | _,[],a,_,h=>by unfold qeu;exact h
 | k+1,n :: r,a,hk,h=>by
  unfold qeu
  simp only[List.length_cons] at hk
  split
  ·split
   ·split
    ·rename_i h1
     refine qkc k _ _ (by simp only[List.length_cons] at hk;omega) ?_
     rw[qd2] at *
     split <;> (simp only;omega)
    ·exact h
   ·exact h
  ·exact qkc k r _ (by omega) (oneG_look h n)
theorem changeG_look {a:At} (h:qab a=true) (l:List Int):qab (qe6 a l)=true:=by
 unfold qe6
 split
 ·rfl
 ·exact qkc _ l a (Nat.le_refl _) h
theorem chgG_nil {a:At} {l:List Int} {k:Nat} (h:l.length≤k):qeu a (l.drop k)=a:=by
 rw[List.drop_eq_nil_of_le h]
 unfold qeu
 rfl
theorem qfl {l:List Int} {k:Nat} {n:Int} (h:l[k]?=some n):l.drop k=n :: l.drop (k+1):=by
 obtain⟨hk,e⟩:=List.getElem?_eq_some_iff.1 h
 rw[List.drop_eq_getElem_cons hk,e]
theorem chgG_short {a:At} {l:List Int} {k:Nat} {n:Int} (h:l[k]?=some n) (h1:n=38∨n=48) (h2:l.length≤k+2):qeu a (l.drop k)=a:=by
 rw[qfl h]
 conv=>lhs;unfold qeu
 rw[if_pos h1]
 split
 ·rename_i f v q e
  have:=congrArg List.length e
  simp at this
  omega
 ·rfl
theorem chgG_bad {a:At} {l:List Int} {k:Nat} {n f v:Int} (h:l[k]?=some n) (h1:n=38∨n=48) (hf:l[k+1]?=some f) (hv:l[k+2]?=some v) (h2:¬ (f=5∧0≤v∧v≤255)):qeu a (l.drop k)=a:=by
 rw[qfl h,qfl hf,qfl hv]
 conv=>lhs;unfold qeu
 rw[if_pos h1]
 dsimp only
 rw[if_neg h2]
theorem chgG_good {a : At} {l : List Int} {k : Nat} {n f v : Int} (h : l[k]? = some n) (h1 : n = 38 ∨ n = 48) (hf : l[k + 1]? = some f) (hv : l[k + 2]? = some v) (h2 : f = 5 ∧ 0 ≤ v ∧ v ≤ 255) :
  qeu a (l.drop k)=qeu (if n=38 then ⟨v+1,a.bg,a.fl⟩ else ⟨a.fg,v+1,a.fl⟩) (l.drop (k+3)):=by
 rw[qfl h,qfl hf,qfl hv]
 conv=>lhs;unfold qeu
 rw[if_pos h1]
 dsimp only
 rw[if_pos h2]
structure Ce where
 tx:ByteArray
 wd:Int
 fg:Int
 bg:Int
 fl:Int
def Ce.cells (c:Ce):Array Value:=#[.string c.tx,.int .i64 c.wd,.int .i64 c.fg,.int .i64 c.bg,.int .i64 c.fl]
def Ce.agg (c:Ce):Value:=.agg c.cells
def Ce.at (c:Ce):At:=⟨c.fg,c.bg,c.fl⟩
def Ce.zero:Ce:=⟨⟨#[]⟩,0,0,0,0⟩
set_option maxHeartbeats 400000
def qbn (r a b:Int):Bool:=decide (a≤r∧r≤b)
theorem qg8 (r a b c : Int) (w : World) :
  Calls Tryz.prog 210 #[.int .i32 r,.agg #[.int .i32 a,.int .i32 b,.int .i32 c]] w fun e w'=>e=.returned (.bool (qbn r a b))∧Below w.heap.size w w':=by
 by_cases h1:a≤r
 ·by_cases h2:r≤b
  all_goals
   go_enter Tryz.func210,Tryz.ntmps210
   go_wp2
   go_ret
   refine⟨qe ?_,?_⟩
   ·simp[qbn,h1,h2]
   ·exact(Below.refl _ _).alloc (Nat.le_refl _) _
 ·go_enter Tryz.func210,Tryz.ntmps210
  go_wp2
  go_ret
  refine⟨qe ?_,?_⟩
  ·simp[qbn];omega
  ·exact(Below.refl _ _).alloc (Nat.le_refl _) _
def lett:Array Value:=#[.int .i32 0,.int .i32 127,.int .i32 1,.int .i32 128,.int .i32 2047,.int .i32 2,.int .i32 2048,.int .i32 55295,.int .i32 3,.int .i32 57344,.int .i32 65535,.int .i32 3,.int .i32 65536,.int .i32 1114111,.int .i32 4]
theorem step5 {P:Nat→Prop} {k:Nat} (h:∀ j < k,P j) (hk:P k):∀ j < k+1,P j:=fun j hj=>by
 by_cases e:j=k
 ·subst e;exact hk
 ·exact h j (by omega)
def Tab (w:World):Prop:=∃ t,w.heap[1]?=some (.cells #[.int .i32 0,.int .i32 127,.int .i32 1,.int .i32 128,.int .i32 2047,.int .i32 2,.int .i32 2048,.int .i32 55295,.int .i32 3,.int .i32 57344,.int .i32 65535,.int .i32 3,.int .i32 65536,.int .i32 1114111,.int .i32 4] t (0,0))
theorem Tab.lt {w:World} (h:Tab w):1 < w.heap.size:=by
 obtain⟨t,h⟩:=h
 exact(Array.getElem?_eq_some_iff.1 h).1
theorem Tab.below {w w':World} (h:Tab w) (hb:Below w.heap.size w w'):Tab w':=by
 have hl:=h.lt
 obtain⟨t,h⟩:=h
 exact⟨t,(hb.block _ hl).trans h⟩
def qak (r:Int):Bool:=decide ((0≤r∧r≤55295)∨(57344≤r∧r≤1114111))
def lo5 (k:Nat):Int:=[0,128,2048,57344,65536].getD k 0
def hi5 (k:Nat):Int:=[127,2047,55295,65535,1114111].getD k 0
def sz5 (k:Nat):Int:=[1,2,3,3,4].getD k 0
theorem letter_yes (r:Int) (k:Nat) (hk:k < 5) (h:qbn r (lo5 k) (hi5 k)=true):qak r=true:=by
 unfold qbn at h
 unfold qak
 have hk5:k=0∨k=1∨k=2∨k=3∨k=4:=by omega
 simp only[decide_eq_true_eq] at *
 rcases hk5 with rfl | rfl | rfl | rfl | rfl <;> simp[lo5,hi5] at h <;> omega
theorem letter_no (r:Int) (h:∀ j < 5,qbn r (lo5 j) (hi5 j)=false):qak r=false:=by
 have h0:=h 0 (by omega)
 have h1:=h 1 (by omega)
 have h2:=h 2 (by omega)
 have h3:=h 3 (by omega)
 have h4:=h 4 (by omega)
 unfold qbn at *
 unfold qak
 simp only[decide_eq_false_iff_not] at *
 simp[lo5,hi5] at *
 omega
theorem ix (k:Nat) (hk:k < 5) (w:World):(Instr.index 194 (.agg #[.int .i32 0,.int .i32 127,.int .i32 1,.int .i32 128,.int .i32 2047,.int .i32 2,.int .i32 2048,.int .i32 55295,.int .i32 3,.int .i32 57344,.int .i32 65535,.int .i32 3,.int .i32 65536,.int .i32 1114111,.int .i32 4]) (.int .i64 (k:Int))).run Tryz.prog w=.ok (.agg #[.int .i32 (lo5 k),.int .i32 (hi5 k),.int .i32 (sz5 k)]) w:=by
 have hk5:k=0∨k=1∨k=2∨k=3∨k=4:=by omega
 rcases hk5 with rfl | rfl | rfl | rfl | rfl <;> (show _=_;kernel_rfl)
theorem ql2 (r : Int) (w : World) (hT : Tab w) :
  Calls Tryz.prog 209 #[.int .i32 r] w fun e w'=>e=.returned (.bool (qak r))∧Below w.heap.size w w':=by
 obtain⟨tt,hg⟩:=hT
 go_enter Tryz.func209,Tryz.ntmps209
 go_wp2_with (refine wpList_load_row rfl 194 _ rfl 1 rfl tt _ (0,0) _ hg Tryz.underlying194 rfl (by kernel_rfl) ?_)
 go_loopw [6] (fun i wr=>∃ k:Nat,k≤5∧i=.int .i64 k∧(∀ j < k,qbn r (lo5 j) (hi5 j)=false)∧Below w.heap.size w wr) (fun i _=>5 - (intOf i).toNat)
 case atStart=>exact⟨0,by omega,rfl,fun j h=>absurd h (by omega),Below.refl _ _⟩
 case round =>
  obtain⟨k,hk,rfl,hno,hb⟩:=hrel
  have hsz:=hb.size
  by_cases hlt:k < 5
  ·have hix:=ix k hlt
   have HN:Hid (∀ j < k,qbn r (lo5 j) (hi5 j)=false):=hno
   clear hno
   by_cases hw:qbn r (lo5 k) (hi5 k)=true
   ·have hl:=letter_yes r k hlt hw
    go_wp2_with (go_at_call 210;refine(qg8 _ _ _ _ _).mono ?_;rintro e w' ⟨rfl,hb1⟩)
    go_ret
    exact⟨qe hl.symm,(hb.alloc hsz _).trans (hb1.mono (by simp;omega))⟩
   ·have hw:qbn r (lo5 k) (hi5 k)=false:=by simpa using hw
    go_wp2_with (go_at_call 210;refine(qg8 _ _ _ _ _).mono ?_;rintro e w' ⟨rfl,hb1⟩)
    go_roundw
    case rel=>exact⟨k+1,by omega,by go_num,step5 HN.out hw,(hb.alloc hsz _).trans (hb1.mono (by simp;omega))⟩
    case measure=>simp[intOf];omega
  ·have hl:=letter_no r (fun j hj=>hno j (by omega))
   clear hno
   go_wp2
   go_ret
   exact⟨qe hl.symm,hb⟩
def qe2 (b:Int):Int:=if b < 128 then b else if b < 192 then 0 else if b < 224 then b - 192 else if b < 240 then b - 224 else if b < 248 then b - 240 else 0
def qdi (b:Int):Int:=if b < 128 then 1 else if b < 192 then 0 else if b < 224 then 2 else if b < 240 then 3 else if b < 248 then 4 else 0
theorem lead_any (b : Int) (h0 : 0 ≤ b) (h1 : b ≤ 255) (w : World) :
  Calls Tryz.prog 179 #[.int .u8 b] w fun e w'=>e=.returned (.tuple #[.int .i32 (qe2 b),.int .i64 (qdi b)])∧w=w':=by
 have hc:b < 128∨(128≤b∧b < 192)∨(192≤b∧b < 224)∨(224≤b∧b < 240)∨(240≤b∧b < 248)∨248≤b:=by omega
 rcases hc with h | ⟨h,h'⟩ | ⟨h,h'⟩ | ⟨h,h'⟩ | ⟨h,h'⟩ | h
 all_goals
  go_enter Tryz.func179,Tryz.ntmps179
  go_wp2
  go_ret2
  exact⟨ret_two (by unfold qe2;repeat (first | rw[if_pos (by omega)] | rw[if_neg (by omega)])) (by unfold qdi;repeat (first | rw[if_pos (by omega)] | rw[if_neg (by omega)])),rfl⟩
def qfv (bits size:Int) (left k:Nat):Bool:=decide (sz5 k=size∧lo5 k / 2 ^ (6 * left)≤bits∧bits≤hi5 k / 2 ^ (6 * left))
theorem begK_no1 {bits size:Int} {left k:Nat} (h:¬ sz5 k=size):qfv bits size left k=false:=by simp[qfv,h]
theorem begK_no2 {bits size:Int} {left k:Nat} (h:¬ lo5 k / 2 ^ (6 * left)≤bits):qfv bits size left k=false:=by simp[qfv,h]
theorem begK_no3 {bits size:Int} {left k:Nat} (h:hi5 k / 2 ^ (6 * left) < bits):qfv bits size left k=false:=by
 unfold qfv
 rw[decide_eq_false_iff_not]
 exact fun ⟨_,_,h3⟩=>absurd h3 (by omega)
theorem sz5_bd (k:Nat) (hk:k < 5):1≤sz5 k∧sz5 k≤4:=by
 have hk5:k=0∨k=1∨k=2∨k=3∨k=4:=by omega
 rcases hk5 with rfl | rfl | rfl | rfl | rfl <;> decide
def qa0 (bits size:Int) (left:Nat):Bool:=qfv bits size left 0 || qfv bits size left 1 || qfv bits size left 2 || qfv bits size left 3 || qfv bits size left 4
theorem begins_yes (bits size:Int) (left k:Nat) (hk:k < 5) (h:qfv bits size left k=true):qa0 bits size left=true:=by
 have hk5:k=0∨k=1∨k=2∨k=3∨k=4:=by omega
 rcases hk5 with rfl | rfl | rfl | rfl | rfl <;> simp[qa0,h]
theorem begins_no (bits size:Int) (left:Nat) (h:∀ j < 5,qfv bits size left j=false):qa0 bits size left=false:=by
 simp[qa0,h]
theorem begins_any (bits size : Int) (left : Nat) (hleft : left ≤ 3) (w : World) (hT : Tab w) :
  Calls Tryz.prog 180 #[.int .i32 bits,.int .i64 size,.int .i64 (left:Int)] w fun e w'=>e=.returned (.bool (qa0 bits size left))∧Below w.heap.size w w':=by
 obtain⟨tt,hg⟩:=hT
 go_enter Tryz.func180,Tryz.ntmps180
 go_wp2_with (refine wpList_load_row rfl 194 _ rfl 1 rfl tt _ (0,0) _ hg Tryz.underlying194 rfl (by kernel_rfl) ?_)
 go_loopw [10] (fun i wr=>∃ k:Nat,k≤5∧i=.int .i64 k∧(∀ j < k,qfv bits size left j=false)∧Below w.heap.size w wr) (fun i _=>5 - (intOf i).toNat)
 case atStart=>exact⟨0,by omega,rfl,fun j h=>absurd h (by omega),Below.refl _ _⟩
 case round =>
  obtain⟨k,hk,rfl,hno,hb⟩:=hrel
  have hsz:=hb.size
  by_cases hlt:k < 5
  ·have hix:=ix k hlt
   have HN:Hid (∀ j < k,qfv bits size left j=false):=hno
   clear hno
   obtain⟨hs1,hs2⟩:=sz5_bd k hlt
   go_wp2
   ·have hl:=begins_yes bits size left k hlt (decide_eq_true ⟨by assumption,by assumption,by assumption⟩)
    go_ret
    exact⟨qe hl.symm,hb.alloc hsz _⟩
   all_goals
    have hw:qfv bits size left k=false:=by first | exact begK_no1 (by assumption) | exact begK_no2 (by assumption) | exact begK_no3 (by assumption)
    go_roundw
    case rel=>exact⟨k+1,by omega,by go_num,step5 HN.out hw,hb.alloc hsz _⟩
    case measure=>simp[intOf];omega
  ·have hl:=begins_no bits size left (fun j hj=>hno j (by omega))
   clear hno
   go_wp2
   go_ret
   exact⟨qe hl.symm,hb⟩
theorem run_eqA9 (a b c : Int) (W : World) :
  (Op.equalIn 9999 26 (.agg #[.int .i64 a,.int .i64 b,.int .i64 c]) (.agg #[.int .i64 a,.int .i64 b,.int .i64 c])).run Tryz.prog W=.ok true W:=by
 have ht:Tryz.prog.underlying 26=some (.struct (Tryz.prog.fieldsOf 26)):=by unfold Program.fieldsOf;rw[Tryz.underlying26]
 have hp:Tryz.prog.stoodInHeld 26=false:=by kernel_rfl
 rw[run_equalIn_struct W 9998 _ _ _ ht hp]
 unfold Program.fieldsOf
 rw[Tryz.underlying26]
 have u1:=Tryz.underlying3
 have p1:∀ W,(part 3 #[.int .i64 a,.int .i64 b,.int .i64 c] 0).run Tryz.prog W=.ok (.int .i64 a) W:=fun W=>by kernel_rfl
 have p2:∀ W,(part 3 #[.int .i64 a,.int .i64 b,.int .i64 c] 1).run Tryz.prog W=.ok (.int .i64 b) W:=fun W=>by kernel_rfl
 have p3:∀ W,(part 3 #[.int .i64 a,.int .i64 b,.int .i64 c] 2).run Tryz.prog W=.ok (.int .i64 c) W:=fun W=>by kernel_rfl
 have q:∀ x W,(Op.equalIn 9998 3 (.int .i64 x) (.int .i64 x)).run Tryz.prog W=.ok (x == x) W:=fun x W=>run_equalIn_int W 9997 _ _ _ x x u1
 simp only[Op.eqFields]
 simp[Sem.run_bind,p1,p2,p3,q,Result.andThen_ok,Sem.run_ite]
theorem run_eqC (t : ByteArray) (v a b c : Int) (W : World) :
  (Op.equalIn 10000 57 (.agg #[.string t,.int .i64 v,.int .i64 a,.int .i64 b,.int .i64 c]) (.agg #[.string t,.int .i64 v,.int .i64 a,.int .i64 b,.int .i64 c])).run Tryz.prog W=.ok true W:=by
 have ht:Tryz.prog.underlying 57=some (.struct (Tryz.prog.fieldsOf 57)):=by unfold Program.fieldsOf;rw[Tryz.underlying57]
 have hp:Tryz.prog.stoodInHeld 57=false:=by kernel_rfl
 rw[run_equalIn_struct W 9999 _ _ _ ht hp]
 unfold Program.fieldsOf
 rw[Tryz.underlying57]
 have u1:=Tryz.underlying3
 have u2:=Tryz.underlying9
 have p1:∀ W,(part 9 #[.string t,.int .i64 v,.int .i64 a,.int .i64 b,.int .i64 c] 0).run Tryz.prog W=.ok (.string t) W:=fun W=>by kernel_rfl
 have p2:∀ W,(part 3 #[.string t,.int .i64 v,.int .i64 a,.int .i64 b,.int .i64 c] 1).run Tryz.prog W=.ok (.int .i64 v) W:=fun W=>by kernel_rfl
 have p3:∀ W,(part 26 #[.string t,.int .i64 v,.int .i64 a,.int .i64 b,.int .i64 c] 2).run Tryz.prog W=.ok (.agg #[.int .i64 a,.int .i64 b,.int .i64 c]) W:=fun W=>by kernel_rfl
 have q1:∀ W,(Op.equalIn 9999 9 (.string t) (.string t)).run Tryz.prog W=.ok (t.toList == t.toList) W:=fun W=>run_equalIn_string W 9998 _ t t u2
 have q2:∀ x W,(Op.equalIn 9999 3 (.int .i64 x) (.int .i64 x)).run Tryz.prog W=.ok (x == x) W:=fun x W=>run_equalIn_int W 9998 _ _ _ x x u1
 have q3:=run_eqA9 a b c
 simp only[Op.eqFields]
 simp[Sem.run_bind,p1,p2,p3,q1,q2,q3,Result.andThen_ok,Sem.run_ite]
theorem run_neqC (t:ByteArray) (v a b c:Int) (W:World):(binOp .neq 57 (.agg #[.string t,.int .i64 v,.int .i64 a,.int .i64 b,.int .i64 c]) (.agg #[.string t,.int .i64 v,.int .i64 a,.int .i64 b,.int .i64 c])).run Tryz.prog W=.ok (.bool false) W:=by
 rw[run_neq_struct,run_eqC];rfl
def mkB (ns:List Int):ByteArray:=ns.foldl (fun r n=>r.push (UInt8.ofNat n.toNat)) ByteArray.empty
theorem mkB_data:∀ (ns:List Int) (s:ByteArray),(ns.foldl (fun r n=>r.push (UInt8.ofNat n.toNat)) s).data.toList=s.data.toList ++ ns.map fun n=>UInt8.ofNat n.toNat
 | [],s=>by simp
 | n :: ns,s=>by
  rw[List.foldl_cons,mkB_data ns (s.push _)]
  simp[ByteArray.push]
theorem mkB_list (ns:List Int):(mkB ns).data.toList=ns.map fun n=>UInt8.ofNat n.toNat:=by
 unfold mkB
 rw[mkB_data]
 simp
theorem qhz (ns:List Int):(mkB ns).size=ns.length:=by
 have:(mkB ns).data.toList.length=ns.length:=by rw[mkB_list,List.length_map]
 simpa using this
theorem qgb (ns:List Int) (i:Nat) (hi:i < ns.length) (h:0≤ns.getD i 0∧ns.getD i 0≤255):qb (mkB ns) i=ns.getD i 0:=by
 have h1:i < (mkB ns).size:=by rw[qhz];exact hi
 rw[← qbh h1]
 have h2:(mkB ns).data.toList[i]?=some (UInt8.ofNat (ns.getD i 0).toNat):=by
  rw[mkB_list,List.getElem?_map,List.getD_eq_getElem?_getD,List.getElem?_eq_getElem hi];rfl
 have h3:(mkB ns)[i]=UInt8.ofNat (ns.getD i 0).toNat:=by
  have h4:(mkB ns).data.toList[i]?=some (mkB ns)[i]:=by
   rw[Array.getElem?_toList]
   exact Array.getElem?_eq_getElem h1
  rw[h4] at h2
  exact Option.some.inj h2
 rw[h3]
 clear h2 h3
 generalize ns.getD i 0=x at h ⊢
 rw[UInt8.toNat_ofNat']
 omega
theorem qgq {P : Program} {W : World} {src dst e : TypeId} {B g n cap : Nat} {ns : List Int} (hs : P.underlying src = some (.slice e)) (he : P.underlying e = some (.int .u8)) (hd : P.underlying dst = some .string)
  (h:W.ownsRow B e 1 (.slice (some ⟨g,0,none⟩) n cap) n (ns.map (Value.int .u8))) :
  (convert src dst (.slice (some ⟨g,0,none⟩) n cap)).run P W=.ok (.string (mkB ns)) W:=by
 rw[run_convert_bytes_string W src dst e _ n cap hs he hd]
 refine run_bytesToString W ⟨g,0,none⟩ n cap ns ?_
 have hl:(ns.map (Value.int .u8)).length=n:=by have:=h.1;omega
 have:=run_loadCells_list (P:=P) W ⟨g,0,none⟩ (ns.map (Value.int .u8)) (h.cells rfl)
 rw[hl] at this
 exact this
theorem qcc {P : Program} {ops : Array Oper} {rest : List Oper} {o : Oper} {a : Act} {w : World} {Q : Exit → Act → World → Prop} (hgd : o.guard = none) (s x : Operand) (t : TypeId)
  (ho:o.op=.call { callee:=.builtin .append,args:=#[s,x],argTypes:=#[t,t] }) (base:Nat) (e:TypeId) (ht:P.underlying t=some (.slice e))
  (hinfo:(P.info? e).map (fun i=>(i.zero,i.size,i.bytes))=some (some (.int .u8 0),1,1)) {g1 cap1 n g2 cap2 m base2:Nat} {ns ms:List Int}
  (hs:a.eval s=.slice (some ⟨g1,0,none⟩) n cap1) (hown1:w.ownsRow base e 1 (.slice (some ⟨g1,0,none⟩) n cap1) n (ns.map (Value.int .u8)))
  (hx:a.eval x=.slice (some ⟨g2,0,none⟩) m cap2) (hown2:w.ownsRow base2 e 1 (.slice (some ⟨g2,0,none⟩) m cap2) m (ms.map (Value.int .u8)))
  (hsz:n+m≤1000000000) (hbase:base≤w.heap.size)
  (h:∀ g cap w',w'.ownsRow base e 1 (.slice (some ⟨g,0,none⟩) (n+m) cap) (n+m) ((ns ++ ms).map (Value.int .u8))→Below base w w'→wpList P ops Q rest (a.put o.dst (.slice (some ⟨g,0,none⟩) (n+m) cap)) w') :
  wpList P ops Q (o :: rest) a w:=by
 obtain⟨i0,hi,hz0,hz1,hz2⟩:=info_parts hinfo
 refine wpList_append_own w hgd s x t ho base e i0 (.int .u8 0) 1 1 ht hi hz0 hz1 hz2 rfl (by decide) _ n _ hs hown1 ⟨g2,0,none⟩ m cap2 (ms.map (Value.int .u8)) hx hown2.1 (hown2.cells rfl)
  (fun u hu=>by obtain⟨_,_,rfl⟩:=List.mem_map.1 hu;rfl) (by unfold maxLen;omega) (by omega) hbase ?_
 intro v' w' hown hgrow hnil
 have hb:Below base w w':=(Below.refl base w).grown hgrow hbase (fun k hk=>by
  simp only[Value.ownBlock,Option.some.injEq] at hk
  subst hk
  exact(hown1.lt _ rfl).1)
 rcases hown.2 with ⟨hv,hn⟩ | ⟨g,cap,cur,hv,_⟩
 ·exact absurd (hnil.1 hv).1 (by simp)
 ·subst hv
  refine h g cap w' ?_ hb
  rw[List.map_append]
  exact hown
theorem ql5 {base : Nat} {e : TypeId} (w : World) (o : Obj) (ns : List Int) (hb : base ≤ w.heap.size) (hm : ns.length ≤ 1000000000) :
  ((w.alloc o).alloc (.cells (ns.map (Value.int .u8)).toArray e)).ownsRow base e 1 (.slice (some ⟨w.heap.size+1,0,none⟩) ns.length ns.length) ns.length (ns.map (Value.int .u8)):=by
 have h:=World.ownsRow_lit (base:=base) (e:=e) (size:=1) (w.alloc o) (ns.map (Value.int .u8)).toArray ns.length (by simp;omega) (by unfold maxLen;omega) (by simp)
 have hs:(w.alloc o).heap.size=w.heap.size+1:=by simp
 rw[hs] at h
 exact h
theorem A_info:(Tryz.prog.info? 5).map (fun i=>(i.zero,i.size,i.bytes))=some (some (.int .u8 0),1,1):=by kernel_rfl
structure Pa where
 st:Int
 priv:Int
 params:List Int
 inter:Int
 osc:ByteArray
 pend:ByteArray
structure Dn where
 kind:Int
 rune:Int
 code:Int
 priv:Int
 params:List Int
 inter:Int
 text:ByteArray
theorem qdf (a:Addr) (n:Nat):(a.add n).block=a.block:=by unfold Addr.add;split <;> rfl
def IRow (W:World) (v:Value) (l:List Int):Prop :=
 ∃ A c,v=.slice A l.length c∧(l≠[]→∃ ad:Addr,A=some ad∧ad.block < W.heap.size∧∀ j x,l[j]?=some x→W.cell? (ad.add j)=some (.int .i64 x))
theorem IRow.below {W W':World} {v:Value} {l:List Int} (h:IRow W v l) (hb:Below W.heap.size W W'):IRow W' v l:=by
 obtain⟨A,c,rfl,hl⟩:=h
 refine⟨A,c,rfl,fun hn=>?_⟩
 obtain⟨ad,hA,hg,hc⟩:=hl hn
 exact⟨ad,hA,Nat.lt_of_lt_of_le hg hb.size,fun j x hx=>(hb.cell (p:=ad.add j) (by rw[qdf];exact hg)).trans (hc j x hx)⟩
theorem IRow.nil (W:World) (c:Nat):IRow W (.slice none 0 c) []:=⟨none,c,rfl,fun h=>absurd rfl h⟩
end Go.Proofs.YtpdaekmbpafenaaGreatDoor
