
import Derived.Test.YtpdaekmbpafenaaGreatDoorIRowQ
namespace Go.Proofs.YtpdaekmbpafenaaGreatDoor
set_option maxHeartbeats 400000
set_option maxRecDepth 100000
open Go.RowKit
structure Got where
 r:Int
 n:Int
 e:Int
def Got.val (g:Got):Value:=.tuple #[.int .i32 g.r,.int .i64 g.n,.int .i64 g.e]
def qa5 (s:ByteArray) (size:Nat):Nat→Int→Got
 | 0,r=>⟨r,size,0⟩
 | m + 1, r => if size - (m + 1) = s.size then ⟨0, 0, 2⟩ else
   if qb s (size - (m+1)) / 64=2∧qa0 (r * 64+qb s (size - (m+1)) % 64) size m=true then qa5 s size m (r * 64+qb s (size - (m+1)) % 64) else ⟨0,((size - (m+1):Nat):Int),4⟩
theorem qbp {s : ByteArray} {size n : Nat} (h : n < size) (r : Int) : qa5 s size (size - n) r = if n = s.size then ⟨0, 0, 2⟩ else
   if qb s n / 64=2∧qa0 (r * 64+qb s n % 64) size (size - n - 1)=true then qa5 s size (size - n - 1) (r * 64+qb s n % 64) else ⟨0,(n:Int),4⟩:=by
 obtain⟨m,rfl⟩:∃ m,size=n+(m+1):=⟨size - n - 1,by omega⟩
 rw[show n+(m+1) - n=m+1 by omega,qa5,show n+(m+1) - (m+1)=n by omega,show m+1 - 1=m by omega]
def qi (s:ByteArray):Got :=
 if s.size=0 then ⟨0,0,2⟩ else
  if qdi (qb s 0)=0∨qa0 (qe2 (qb s 0)) (qdi (qb s 0)) ((qdi (qb s 0)).toNat - 1)=false then ⟨0,1,4⟩
  else qa5 s (qdi (qb s 0)).toNat ((qdi (qb s 0)).toNat - 1) (qe2 (qb s 0))
theorem leadN_bd (b:Int):0≤qdi b∧qdi b≤4:=by unfold qdi;repeat (first | omega | split)
theorem leadR_bd (b:Int) (h:0≤b):0≤qe2 b∧qe2 b≤127:=by unfold qe2;repeat (first | omega | split)
theorem qkg (bits size l : Int) (h0 : 0 ≤ l) (h3 : l ≤ 3) (w : World) (hT : Tab w) :
  Calls Tryz.prog 180 #[.int .i32 bits,.int .i64 size,.int .i64 l] w fun e w'=>e=.returned (.bool (qa0 bits size l.toNat))∧Below w.heap.size w w':=by
 obtain⟨k,rfl⟩:∃ k:Nat,l=k:=⟨l.toNat,by omega⟩
 exact begins_any bits size k (by omega) w hT
theorem qe7 {s:ByteArray} (h:s.size=0):qi s=⟨0,0,2⟩:=by unfold qi;rw[if_pos h]
theorem qg7 {g:Got} {a b c:Int} (h:g=⟨a,b,c⟩):Ending.returned (.tuple #[.int .i32 a,.int .i64 b,.int .i64 c])=.returned g.val:=by rw[h];rfl
theorem begins_bd {bits size:Int} {left:Nat} (h:qa0 bits size left=true):0≤bits∧bits≤1114111∧(1≤left→bits≤17407):=by
 have key:∀ k,k < 5→qfv bits size left k=true→0≤bits∧bits≤1114111∧(1≤left→bits≤17407):=by
  intro k hk hb
  unfold qfv at hb
  obtain⟨_,h1,h2⟩:=of_decide_eq_true hb
  have hlo:0≤lo5 k / 2 ^ (6 * left):=Int.ediv_nonneg (by
   have hk5:k=0∨k=1∨k=2∨k=3∨k=4:=by omega
   rcases hk5 with rfl | rfl | rfl | rfl | rfl <;> decide) (by exact Int.pow_nonneg (by decide))
  have hhi:0≤hi5 k∧hi5 k≤1114111:=by
   have hk5:k=0∨k=1∨k=2∨k=3∨k=4:=by omega
   rcases hk5 with rfl | rfl | rfl | rfl | rfl <;> decide
  have h3:hi5 k / 2 ^ (6 * left)≤hi5 k:=Int.ediv_le_self _ hhi.1
  refine⟨by omega,by omega,fun hl=>?_⟩
  have h4:hi5 k / 2 ^ (6 * left)≤hi5 k / 64:=by
   have e:(2:Int) ^ (6 * left)=64 * 2 ^ (6 * left - 6):=by
    rw[show (64:Int)=2 ^ 6 by decide,← Int.pow_add]
    congr 1;omega
   rw[e,← Int.ediv_ediv_of_nonneg (by decide)]
   exact Int.ediv_le_self _ (Int.ediv_nonneg hhi.1 (by decide))
  omega
 unfold qa0 at h
 simp only[Bool.or_eq_true] at h
 rcases h with (((h | h) | h) | h) | h
 ·exact key 0 (by omega) h
 ·exact key 1 (by omega) h
 ·exact key 2 (by omega) h
 ·exact key 3 (by omega) h
 ·exact key 4 (by omega) h
theorem qdd (s : ByteArray) (w : World) (hs : s.size ≤ maxLen) (hT : Tab w) :
  Calls Tryz.prog 109 #[.string s] w fun e w'=>e=.returned (qi s).val∧Below w.heap.size w w':=by
 unfold maxLen at hs
 by_cases h0:s.size=0
 ·obtain rfl:=qaj h0
  go_enter Tryz.func109,Tryz.ntmps109
  go_wp2
  go_ret3
  exact⟨qg7 (qe7 h0),Below.refl _ _⟩
 ·have hpos:0 < s.size:=by omega
  obtain⟨size,hsize⟩:∃ size:Nat,qdi (s[0].toNat:Int)=size:=⟨(qdi (s[0].toNat:Int)).toNat,by have:=leadN_bd (s[0].toNat:Int);omega⟩
  obtain⟨R,hR⟩:∃ R:Int,qe2 (s[0].toNat:Int)=R:=⟨_,rfl⟩
  have hld:=lead_any (s[0].toNat:Int) (by omega) (by have:=UInt8.toNat_lt s[0];omega)
  have hbd:=leadR_bd (s[0].toNat:Int) (by omega)
  have hn:=leadN_bd (s[0].toNat:Int)
  rw[hsize] at hn
  rw[hsize,hR] at hld
  rw[hR] at hbd
  have hG:qi s=if size=0∨qa0 R size (size - 1)=false then ⟨0,1,4⟩ else qa5 s size (size - 1) R:=by
   unfold qi
   rw[if_neg h0,← qbh hpos,hsize,hR]
   simp
  have hne:=qcd h0
  have HG:=hid hG
  clear hG hsize hR h0
  obtain⟨hn1,hn4⟩:=hn
  by_cases hz:size=0
  ·subst hz
   go_enter Tryz.func109,Tryz.ntmps109
   go_wp2_with (go_at_call 179;refine(hld _).mono ?_;rintro e w' ⟨rfl,rfl⟩)
   go_ret3
   exact⟨qg7 (by rw[HG.out,if_pos (Or.inl trivial)]),Below.refl _ _⟩
  ·have hz1:1≤size:=by omega
   clear hz
   by_cases hbeg:qa0 R size (size - 1)=false
   ·have hca:=qkg R size ((size:Int) - 1) (by omega) (by omega) w hT
    have e1:((size:Int) - 1).toNat=size - 1:=by omega
    rw[e1,hbeg] at hca
    clear e1
    have HG2:Hid (qi s=⟨0,1,4⟩):=by unfold Hid;rw[HG.out,if_pos (Or.inr hbeg)]
    clear HG
    have hq0:((size:Int) == 0)=false:=by simp;omega
    go_enter Tryz.func109,Tryz.ntmps109
    go_wp2_with (first | (go_at_call 179;refine(hld _).mono ?_;rintro e w' ⟨rfl,rfl⟩) | (go_at_call 180;refine hca.mono ?_;rintro e w' ⟨rfl,hb⟩))
    go_ret3
    exact⟨qg7 HG2.out,hb⟩
   ·have hbeg:qa0 R size (size - 1)=true:=by simpa using hbeg
    have hg:=begins_bd hbeg
    have hca:=qkg R size ((size:Int) - 1) (by omega) (by omega) w hT
    have e1:((size:Int) - 1).toNat=size - 1:=by omega
    rw[e1,hbeg] at hca
    clear e1
    have hq0:((size:Int) == 0)=false:=by simp;omega
    have HG2:Hid (qi s=qa5 s size (size - 1) R):=by unfold Hid;rw[HG.out,if_neg (by simp[hbeg];omega)]
    clear HG
    go_enter Tryz.func109,Tryz.ntmps109
    go_wp2_with (first | (go_at_call 179;refine(hld _).mono ?_;rintro e w' ⟨rfl,rfl⟩) | (go_at_call 180;refine hca.mono ?_;rintro e w' ⟨rfl,hb⟩))
    clear hld hca
    go_loopw [5,7] (fun r i wr=>∃ (n:Nat) (rr:Int),1≤n∧n≤size∧n≤s.size∧i=.int .i64 n∧r=.int .i32 rr∧qa5 s size (size - 1) R=qa5 s size (size - n) rr∧qa0 rr size (size - n)=true∧Below w.heap.size w wr) (fun _ i _=>size - (intOf i).toNat)
    case atStart=>exact⟨1,R,by omega,by omega,by omega,rfl,rfl,rfl,hbeg,hb⟩
    case round =>
     obtain⟨n,rr,hn1',hns,hnl,rfl,rfl,hL,hB,hbr⟩:=hrel
     have hsz:=hbr.size
     have hTr:=hT.below hbr
     have HL:=hid hL
     have HB:=hid hB
     clear hL hB
     by_cases hlt:n < size
     ·by_cases hend:n=s.size
      ·have HE : Hid (qi s = ⟨0, 0, 2⟩) := by
        unfold Hid
        rw[HG2.out,HL.out,qbp hlt,if_pos hend]
       clear HG2 HL HB
       go_wp2_with fail
       go_ret3
       exact⟨qg7 HE.out,hbr⟩
      ·have hns':n < s.size:=by omega
       have HE:Hid (qi s=if (s[n].toNat:Int) / 64=2∧qa0 (rr * 64+(s[n].toNat:Int) % 64) size (size - n - 1)=true then qa5 s size (size - n - 1) (rr * 64+(s[n].toNat:Int) % 64) else ⟨0,(n:Int),4⟩):=by
        unfold Hid
        rw[HG2.out,HL.out,qbp hlt,if_neg hend,qbh hns']
       clear hend
       have hb2:=begins_bd HB.out
       have hb3:=hb2.2.2 (by omega)
       by_cases h64:(s[n].toNat:Int) / 64=2
       ·have hca:=qkg (rr * 64+(s[n].toNat:Int) % 64) size ((size:Int) - n - 1) (by omega) (by omega) wr hTr
        have e1:((size:Int) - n - 1).toNat=size - n - 1:=by omega
        rw[e1] at hca
        clear e1
        by_cases hbb:qa0 (rr * 64+(s[n].toNat:Int) % 64) size (size - n - 1)=true
        ·have HE2 : Hid (qi s = qa5 s size (size - (n + 1)) (rr * 64 + (s[n].toNat : Int) % 64)) := by
          unfold Hid
          rw[HE.out,if_pos ⟨h64,hbb⟩];rfl
         have HG3:=HG2
         rw[hbb] at hca
         have HBB:=hid hbb
         clear hbb HG2 HE HB HL
         go_wp2_with (go_at_call 180;refine hca.mono ?_;rintro e w' ⟨rfl,hb5⟩)
         go_roundw
         case rel=>exact⟨n+1,_,by omega,by omega,by omega,by go_num,rfl,by rw[← HG3.out,HE2.out],HBB.out,hbr.trans (hb5.mono hsz)⟩
         case measure=>simp[intOf];omega
        ·have HE2 : Hid (qi s = ⟨0, (n : Int), 4⟩) := by
          unfold Hid
          rw[HE.out,if_neg (fun h=>hbb h.2)]
         have hbb:qa0 (rr * 64+(s[n].toNat:Int) % 64) size (size - n - 1)=false:=by simpa using hbb
         rw[hbb] at hca
         clear hbb HE HB HL HG2
         go_wp2_with (go_at_call 180;refine hca.mono ?_;rintro e w' ⟨rfl,hb5⟩)
         go_ret3
         exact⟨qg7 HE2.out,hbr.trans (hb5.mono hsz)⟩
       ·have HE2 : Hid (qi s = ⟨0, (n : Int), 4⟩) := by
         unfold Hid
         rw[HE.out,if_neg (fun h=>h64 h.1)]
        clear HE HB HL HG2
        have h256:¬ (s[n].toNat:Int) / 64 % 256=2:=by have:=UInt8.toNat_lt s[n];omega
        go_wp2_with fail
        go_ret3
        exact⟨qg7 HE2.out,hbr⟩
     ·have HE : Hid (qi s = ⟨rr, (size : Int), 0⟩) := by
       unfold Hid
       rw[HG2.out,HL.out,show size - n=0 by omega];rfl
      clear HB HL HG2
      go_wp2_with fail
      go_ret3
      exact⟨qg7 HE.out,hbr⟩
def sizeOf (r:Int):Nat:=if r < 128 then 1 else if r < 2048 then 2 else if r < 65536 then 3 else 4
def qg5 (r:Int) (i:Nat):Int :=
 if r < 128 then r else if r < 2048 then [192+r / 64,128+r % 64].getD i 0
 else if r < 65536 then [224+r / 4096,128+r / 64 % 64,128+r % 64].getD i 0
 else [240+r / 262144,128+r / 4096 % 64,128+r / 64 % 64,128+r % 64].getD i 0
theorem qcf (r:Int):1≤sizeOf r∧sizeOf r≤4:=by unfold sizeOf;repeat (first | omega | split)
theorem letter_iff {r:Int}:qak r=true↔(0≤r∧r≤55295)∨(57344≤r∧r≤1114111):=by unfold qak;simp
theorem begins_iff1 {bits:Int} {left:Nat}:qa0 bits 1 left=true↔0≤bits∧bits≤127 / 2 ^ (6 * left):=by
 simp[qa0,qfv,sz5,lo5,hi5]
theorem begins_iff2 {bits:Int} {left:Nat}:qa0 bits 2 left=true↔128 / 2 ^ (6 * left)≤bits∧bits≤2047 / 2 ^ (6 * left):=by
 simp[qa0,qfv,sz5,lo5,hi5]
theorem begins_iff3 {bits:Int} {left:Nat}:qa0 bits 3 left=true↔(2048 / 2 ^ (6 * left)≤bits∧bits≤55295 / 2 ^ (6 * left))∨(57344 / 2 ^ (6 * left)≤bits∧bits≤65535 / 2 ^ (6 * left)):=by
 simp[qa0,qfv,sz5,lo5,hi5]
theorem begins_iff4 {bits:Int} {left:Nat}:qa0 bits 4 left=true↔65536 / 2 ^ (6 * left)≤bits∧bits≤1114111 / 2 ^ (6 * left):=by
 simp[qa0,qfv,sz5,lo5,hi5]
theorem leadN_1 {b:Int} (h:b < 128):qdi b=1∧qe2 b=b:=by unfold qdi qe2;simp[h]
theorem leadN_0 {b:Int} (h:(128≤b∧b < 192)∨248≤b):qdi b=0:=by unfold qdi;repeat (first | omega | split)
theorem leadN_2 {b:Int} (h:192≤b∧b < 224):qdi b=2∧qe2 b=b - 192:=by unfold qdi qe2;constructor <;> repeat (first | omega | split)
theorem leadN_3 {b:Int} (h:224≤b∧b < 240):qdi b=3∧qe2 b=b - 224:=by unfold qdi qe2;constructor <;> repeat (first | omega | split)
theorem leadN_4 {b:Int} (h:240≤b∧b < 248):qdi b=4∧qe2 b=b - 240:=by unfold qdi qe2;constructor <;> repeat (first | omega | split)
theorem qdq {s:ByteArray} (hs:s.size≠0) (h:qb s 0 < 128):qi s=⟨qb s 0,1,0⟩:=by
 have hb:=qbc s 0
 obtain⟨e1,e2⟩:=leadN_1 h
 unfold qi
 rw[if_neg hs,e1,e2,if_neg]
 ·rfl
 ·have:=(begins_iff1 (bits:=qb s 0) (left:=0)).2 ⟨hb.1,by simp;omega⟩
  simp[this]
theorem qg6 {s:ByteArray} (hs:s.size≠0) (h:(128≤qb s 0∧qb s 0 < 194)∨245≤qb s 0):qi s=⟨0,1,4⟩:=by
 unfold qi
 rw[if_neg hs,if_pos]
 by_cases h1:qb s 0 < 192
 ·exact Or.inl (leadN_0 (by omega))
 ·by_cases h2:248≤qb s 0
  ·exact Or.inl (leadN_0 (by omega))
  ·right
   by_cases h3:qb s 0 < 224
   ·obtain⟨e1,e2⟩:=leadN_2 (b:=qb s 0) (by omega)
    rw[e1,e2,Bool.eq_false_iff]
    intro hq
    have:=begins_iff2.1 hq
    simp at this
    omega
   ·obtain⟨e1,e2⟩:=leadN_4 (b:=qb s 0) (by omega)
    rw[e1,e2,Bool.eq_false_iff]
    intro hq
    have:=begins_iff4.1 hq
    simp at this
    omega
theorem qdr {s : ByteArray} (hs : s.size ≠ 0) (h : 194 ≤ qb s 0 ∧ qb s 0 < 224) :
  qi s=if 1=s.size then ⟨0,0,2⟩ else if qb s 1 / 64=2 then ⟨(qb s 0 - 192) * 64+qb s 1 % 64,2,0⟩ else ⟨0,1,4⟩:=by
 obtain⟨e1,e2⟩:=leadN_2 (b:=qb s 0) (by omega)
 have hb1:=qbc s 1
 unfold qi
 rw[if_neg hs,e1,e2,if_neg]
 ·show qa5 s 2 (2 - 1) _=_
  rw[qbp (by omega)]
  by_cases c:1=s.size
  ·rw[if_pos c,if_pos c]
  ·rw[if_neg c,if_neg c]
   refine qhw ⟨fun h=>h.1,fun h=>⟨h,begins_iff2.2 ?_⟩⟩
   simp;omega
 ·have:=(begins_iff2 (bits:=qb s 0 - 192) (left:=1)).2 (by simp;omega)
  simp[this]
theorem qcl {s : ByteArray} (hs : s.size ≠ 0) (h : 224 ≤ qb s 0 ∧ qb s 0 < 240) :
  qi s=if 1=s.size then ⟨0,0,2⟩ else if qb s 1 / 64=2∧((32≤(qb s 0 - 224) * 64+qb s 1 % 64∧(qb s 0 - 224) * 64+qb s 1 % 64≤863)∨896≤(qb s 0 - 224) * 64+qb s 1 % 64) then
   if 2=s.size then ⟨0,0,2⟩ else if qb s 2 / 64=2 then ⟨((qb s 0 - 224) * 64+qb s 1 % 64) * 64+qb s 2 % 64,3,0⟩ else ⟨0,2,4⟩
   else ⟨0,1,4⟩:=by
 obtain⟨e1,e2⟩:=leadN_3 (b:=qb s 0) (by omega)
 have hb1:=qbc s 1
 have hb2:=qbc s 2
 unfold qi
 rw[if_neg hs,e1,e2,if_neg]
 ·show qa5 s 3 (3 - 1) _=_
  rw[qbp (by omega)]
  by_cases c:1=s.size
  ·rw[if_pos c,if_pos c]
  ·rw[if_neg c,if_neg c]
   by_cases d:qb s 1 / 64=2∧((32≤(qb s 0 - 224) * 64+qb s 1 % 64∧(qb s 0 - 224) * 64+qb s 1 % 64≤863)∨896≤(qb s 0 - 224) * 64+qb s 1 % 64)
   ·rw[if_pos d,if_pos ⟨d.1,begins_iff3.2 (by simp;omega)⟩]
    show qa5 s 3 (3 - 2) _=_
    rw[qbp (by omega)]
    by_cases c2:2=s.size
    ·rw[if_pos c2,if_pos c2]
    ·rw[if_neg c2,if_neg c2]
     refine qhw ⟨fun h=>h.1,fun h=>⟨h,begins_iff3.2 ?_⟩⟩
     simp;omega
   ·rw[if_neg d,if_neg (fun hq=>d ⟨hq.1,by have:=begins_iff3.1 hq.2;simp at this;omega⟩)]
    rfl
 ·have:=(begins_iff3 (bits:=qb s 0 - 224) (left:=2)).2 (by simp;omega)
  simp[this]
theorem qc5 {s : ByteArray} (hs : s.size ≠ 0) (h : 240 ≤ qb s 0 ∧ qb s 0 < 245) :
  qi s=if 1=s.size then ⟨0,0,2⟩ else if qb s 1 / 64=2∧16≤(qb s 0 - 240) * 64+qb s 1 % 64∧(qb s 0 - 240) * 64+qb s 1 % 64≤271 then
   if 2=s.size then ⟨0,0,2⟩ else if qb s 2 / 64=2 then
    if 3=s.size then ⟨0,0,2⟩ else if qb s 3 / 64=2 then ⟨(((qb s 0 - 240) * 64+qb s 1 % 64) * 64+qb s 2 % 64) * 64+qb s 3 % 64,4,0⟩ else ⟨0,3,4⟩
    else ⟨0,2,4⟩
   else ⟨0,1,4⟩:=by
 obtain⟨e1,e2⟩:=leadN_4 (b:=qb s 0) (by omega)
 have hb1:=qbc s 1
 have hb2:=qbc s 2
 have hb3:=qbc s 3
 unfold qi
 rw[if_neg hs,e1,e2,if_neg]
 ·show qa5 s 4 (4 - 1) _=_
  rw[qbp (by omega)]
  by_cases c:1=s.size
  ·rw[if_pos c,if_pos c]
  ·rw[if_neg c,if_neg c]
   by_cases d:qb s 1 / 64=2∧16≤(qb s 0 - 240) * 64+qb s 1 % 64∧(qb s 0 - 240) * 64+qb s 1 % 64≤271
   ·rw[if_pos d,if_pos ⟨d.1,begins_iff4.2 (by simp;omega)⟩]
    show qa5 s 4 (4 - 2) _=_
    rw[qbp (by omega)]
    by_cases c2:2=s.size
    ·rw[if_pos c2,if_pos c2]
    ·rw[if_neg c2,if_neg c2]
     by_cases d2:qb s 2 / 64=2
     ·rw[if_pos d2,if_pos ⟨d2,begins_iff4.2 (by simp;omega)⟩]
      show qa5 s 4 (4 - 3) _=_
      rw[qbp (by omega)]
      by_cases c3:3=s.size
      ·rw[if_pos c3,if_pos c3]
      ·rw[if_neg c3,if_neg c3]
       refine qhw ⟨fun h=>h.1,fun h=>⟨h,begins_iff4.2 ?_⟩⟩
       simp;omega
     ·rw[if_neg d2,if_neg (fun hq=>d2 hq.1)]
      rfl
   ·rw[if_neg d,if_neg (fun hq=>d ⟨hq.1,by have:=begins_iff4.1 hq.2;simp at this;omega⟩)]
    rfl
 ·have:=(begins_iff4 (bits:=qb s 0 - 240) (left:=3)).2 (by simp;omega)
  simp[this]
theorem qg4 {r:Int} (h:r < 128):sizeOf r=1∧qg5 r 0=r:=by simp[sizeOf,qg5,h]
theorem qkd {r:Int} (h:128≤r∧r < 2048):sizeOf r=2∧qg5 r 0=192+r / 64∧qg5 r 1=128+r % 64:=by
 have h1:¬ r < 128:=by omega
 simp[sizeOf,qg5,h1,h.2]
theorem qke {r:Int} (h:2048≤r∧r < 65536):sizeOf r=3∧qg5 r 0=224+r / 4096∧qg5 r 1=128+r / 64 % 64∧qg5 r 2=128+r % 64:=by
 have h1:¬ r < 128:=by omega
 have h2:¬ r < 2048:=by omega
 simp[sizeOf,qg5,h1,h2,h.2]
theorem qkf {r:Int} (h:65536≤r):sizeOf r=4∧qg5 r 0=240+r / 262144∧qg5 r 1=128+r / 4096 % 64∧qg5 r 2=128+r / 64 % 64∧qg5 r 3=128+r % 64:=by
 have h1:¬ r < 128:=by omega
 have h2:¬ r < 2048:=by omega
 have h3:¬ r < 65536:=by omega
 simp[sizeOf,qg5,h1,h2,h3]
theorem qlh {a b c a' b' c':Int} (h1:a=a') (h2:b=b') (h3:c=c'):(⟨a,b,c⟩:Got)=⟨a',b',c'⟩:=by rw[h1,h2,h3]
theorem firstG_enc {r:Int} (hr:qak r=true) {s:ByteArray} (hs:sizeOf r≤s.size) (hb:∀ i,i < sizeOf r→qb s i=qg5 r i):qi s=⟨r,sizeOf r,0⟩:=by
 rw[letter_iff] at hr
 by_cases c1:r < 128
 ·obtain⟨e,h0⟩:=qg4 c1
  rw[e] at hs hb ⊢
  have b0:=hb 0 (by omega)
  rw[h0] at b0
  rw[qdq (by omega) (by omega)]
  exact qlh b0 rfl rfl
 ·by_cases c2:r < 2048
  ·obtain⟨e,h0,h1⟩:=qkd (r:=r) ⟨by omega,c2⟩
   rw[e] at hs hb ⊢
   have b0:=hb 0 (by omega)
   have b1:=hb 1 (by omega)
   rw[h0] at b0
   rw[h1] at b1
   rw[qdr (by omega) (by omega),if_neg (by omega),if_pos (by omega)]
   exact qlh (by omega) rfl rfl
  ·by_cases c3:r < 65536
   ·obtain⟨e,h0,h1,h2⟩:=qke (r:=r) ⟨by omega,c3⟩
    rw[e] at hs hb ⊢
    have b0:=hb 0 (by omega)
    have b1:=hb 1 (by omega)
    have b2:=hb 2 (by omega)
    rw[h0] at b0
    rw[h1] at b1
    rw[h2] at b2
    rw[qcl (by omega) (by omega),if_neg (by omega),if_pos (by omega),if_neg (by omega),if_pos (by omega)]
    exact qlh (by omega) rfl rfl
   ·obtain⟨e,h0,h1,h2,h3⟩:=qkf (r:=r) (by omega)
    rw[e] at hs hb ⊢
    have b0:=hb 0 (by omega)
    have b1:=hb 1 (by omega)
    have b2:=hb 2 (by omega)
    have b3:=hb 3 (by omega)
    rw[h0] at b0
    rw[h1] at b1
    rw[h2] at b2
    rw[h3] at b3
    rw[qc5 (by omega) (by omega),if_neg (by omega),if_pos (by omega),if_neg (by omega),if_pos (by omega),if_neg (by omega),if_pos (by omega)]
    exact qlh (by omega) rfl rfl
theorem firstG_cut {r:Int} (hr:qak r=true) {s:ByteArray} (hs:s.size < sizeOf r) (hb:∀ i,i < s.size→qb s i=qg5 r i):qi s=⟨0,0,2⟩:=by
 rw[letter_iff] at hr
 by_cases h00:s.size=0
 ·exact qe7 h00
 by_cases c1:r < 128
 ·obtain⟨e,h0⟩:=qg4 c1
  omega
 ·by_cases c2:r < 2048
  ·obtain⟨e,h0,h1⟩:=qkd (r:=r) ⟨by omega,c2⟩
   rw[e] at hs
   have b0:=hb 0 (by omega)
   rw[h0] at b0
   rw[qdr (by omega) (by omega),if_pos (by omega)]
  ·by_cases c3:r < 65536
   ·obtain⟨e,h0,h1,h2⟩:=qke (r:=r) ⟨by omega,c3⟩
    rw[e] at hs
    have b0:=hb 0 (by omega)
    rw[h0] at b0
    rw[qcl (by omega) (by omega)]
    by_cases d1:1=s.size
    ·rw[if_pos d1]
    ·have b1:=hb 1 (by omega)
     rw[h1] at b1
     rw[if_neg d1,if_pos (by omega),if_pos (by omega)]
   ·obtain⟨e,h0,h1,h2,h3⟩:=qkf (r:=r) (by omega)
    rw[e] at hs
    have b0:=hb 0 (by omega)
    rw[h0] at b0
    rw[qc5 (by omega) (by omega)]
    by_cases d1:1=s.size
    ·rw[if_pos d1]
    ·have b1:=hb 1 (by omega)
     rw[h1] at b1
     rw[if_neg d1,if_pos (by omega)]
     by_cases d2:2=s.size
     ·rw[if_pos d2]
     ·have b2:=hb 2 (by omega)
      rw[h2] at b2
      rw[if_neg d2,if_pos (by omega),if_pos (by omega)]
theorem qbt (s : ByteArray) : (∃ r, qak r = true ∧ qi s = ⟨r, sizeOf r, 0⟩ ∧ sizeOf r ≤ s.size ∧ ∀ i, i < sizeOf r → qb s i = qg5 r i) ∨
  (qi s=⟨0,0,2⟩∧s.size≤3)∨∃ n:Nat,qi s=⟨0,(n:Int),4⟩∧1≤n∧n≤3∧n≤s.size:=by
 by_cases h00:s.size=0
 ·exact Or.inr (Or.inl ⟨qe7 h00,by omega⟩)
 have hb0:=qbc s 0
 have hb1:=qbc s 1
 have hb2:=qbc s 2
 have hb3:=qbc s 3
 by_cases c1:qb s 0 < 128
 ·obtain⟨e,h0⟩:=qg4 c1
  refine Or.inl ⟨qb s 0,letter_iff.2 (by omega),?_,by rw[e];omega,fun i hi=>?_⟩
  ·rw[qdq h00 c1,e];rfl
  ·rw[e] at hi
   obtain rfl:i=0:=by omega
   exact h0.symm
 ·by_cases c2:qb s 0 < 194∨245≤qb s 0
  ·exact Or.inr (Or.inr ⟨1,qg6 h00 (by omega),by omega,by omega,by omega⟩)
  ·by_cases c3:qb s 0 < 224
   ·rw[qdr h00 (by omega)]
    by_cases d1:1=s.size
    ·rw[if_pos d1];exact Or.inr (Or.inl ⟨rfl,by omega⟩)
    ·rw[if_neg d1]
     by_cases d2:qb s 1 / 64=2
     ·rw[if_pos d2]
      obtain⟨e,h0,h1⟩:=qkd (r:=(qb s 0 - 192) * 64+qb s 1 % 64) (by omega)
      refine Or.inl ⟨(qb s 0 - 192) * 64+qb s 1 % 64,letter_iff.2 (by omega),by rw[e];rfl,by rw[e];omega,fun i hi=>?_⟩
      rw[e] at hi
      have hi2:i=0∨i=1:=by omega
      rcases hi2 with rfl | rfl
      ·rw[h0];omega
      ·rw[h1];omega
     ·rw[if_neg d2];exact Or.inr (Or.inr ⟨1,rfl,by omega,by omega,by omega⟩)
   ·by_cases c4:qb s 0 < 240
    ·rw[qcl h00 (by omega)]
     by_cases d1:1=s.size
     ·rw[if_pos d1];exact Or.inr (Or.inl ⟨rfl,by omega⟩)
     ·rw[if_neg d1]
      by_cases d2:qb s 1 / 64=2∧((32≤(qb s 0 - 224) * 64+qb s 1 % 64∧(qb s 0 - 224) * 64+qb s 1 % 64≤863)∨896≤(qb s 0 - 224) * 64+qb s 1 % 64)
      ·rw[if_pos d2]
       by_cases d3:2=s.size
       ·rw[if_pos d3];exact Or.inr (Or.inl ⟨rfl,by omega⟩)
       ·rw[if_neg d3]
        by_cases d4:qb s 2 / 64=2
        ·rw[if_pos d4]
         obtain⟨e,h0,h1,h2⟩:=qke (r:=((qb s 0 - 224) * 64+qb s 1 % 64) * 64+qb s 2 % 64) (by omega)
         refine Or.inl ⟨((qb s 0 - 224) * 64+qb s 1 % 64) * 64+qb s 2 % 64,letter_iff.2 (by omega),by rw[e];rfl,by rw[e];omega,fun i hi=>?_⟩
         rw[e] at hi
         have hi2:i=0∨i=1∨i=2:=by omega
         rcases hi2 with rfl | rfl | rfl
         ·rw[h0];omega
         ·rw[h1];omega
         ·rw[h2];omega
        ·rw[if_neg d4];exact Or.inr (Or.inr ⟨2,rfl,by omega,by omega,by omega⟩)
      ·rw[if_neg d2];exact Or.inr (Or.inr ⟨1,rfl,by omega,by omega,by omega⟩)
    ·rw[qc5 h00 (by omega)]
     by_cases d1:1=s.size
     ·rw[if_pos d1];exact Or.inr (Or.inl ⟨rfl,by omega⟩)
     ·rw[if_neg d1]
      by_cases d2:qb s 1 / 64=2∧16≤(qb s 0 - 240) * 64+qb s 1 % 64∧(qb s 0 - 240) * 64+qb s 1 % 64≤271
      ·rw[if_pos d2]
       by_cases d3:2=s.size
       ·rw[if_pos d3];exact Or.inr (Or.inl ⟨rfl,by omega⟩)
       ·rw[if_neg d3]
        by_cases d4:qb s 2 / 64=2
        ·rw[if_pos d4]
         by_cases d5:3=s.size
         ·rw[if_pos d5];exact Or.inr (Or.inl ⟨rfl,by omega⟩)
         ·rw[if_neg d5]
          by_cases d6:qb s 3 / 64=2
          ·rw[if_pos d6]
           obtain⟨e,h0,h1,h2,h3⟩:=qkf (r:=(((qb s 0 - 240) * 64+qb s 1 % 64) * 64+qb s 2 % 64) * 64+qb s 3 % 64) (by omega)
           refine Or.inl ⟨(((qb s 0 - 240) * 64+qb s 1 % 64) * 64+qb s 2 % 64) * 64+qb s 3 % 64,letter_iff.2 (by omega),by rw[e];rfl,by rw[e];omega,fun i hi=>?_⟩
           rw[e] at hi
           have hi2:i=0∨i=1∨i=2∨i=3:=by omega
           rcases hi2 with rfl | rfl | rfl | rfl
           ·rw[h0];omega
           ·rw[h1];omega
           ·rw[h2];omega
           ·rw[h3];omega
          ·rw[if_neg d6];exact Or.inr (Or.inr ⟨3,rfl,by omega,by omega,by omega⟩)
        ·rw[if_neg d4];exact Or.inr (Or.inr ⟨2,rfl,by omega,by omega,by omega⟩)
      ·rw[if_neg d2];exact Or.inr (Or.inr ⟨1,rfl,by omega,by omega,by omega⟩)
theorem qct {r:Int} (hr:qak r=true):(Utf8.encode r).size=sizeOf r∧∀ i,i < sizeOf r→qb (Utf8.encode r) i=qg5 r i:=by
 rw[letter_iff] at hr
 obtain⟨n,rfl⟩:∃ n:Nat,r=n:=⟨r.toNat,by omega⟩
 have hv:Utf8.valid (n:Int)=true:=by
  unfold Utf8.valid
  simp only[Bool.or_eq_true,Bool.and_eq_true,decide_eq_true_eq]
  omega
 unfold Utf8.encode
 simp only[hv,if_true,Int.toNat_natCast]
 by_cases c1:(n:Int) < 128
 ·obtain⟨e,h0⟩:=qg4 c1
  rw[e,if_pos (by omega)]
  refine⟨rfl,fun i hi=>?_⟩
  obtain rfl:i=0:=by omega
  rw[h0]
  show ((UInt8.ofNat n).toNat:Int)=_
  simp;omega
 ·by_cases c2:(n:Int) < 2048
  ·obtain⟨e,h0,h1⟩:=qkd (r:=(n:Int)) (by omega)
   rw[e,if_neg (by omega),if_pos (by omega)]
   refine⟨rfl,fun i hi=>?_⟩
   have hi2:i=0∨i=1:=by omega
   rcases hi2 with rfl | rfl
   ·rw[h0]
    show ((UInt8.ofNat _).toNat:Int)=_
    simp;omega
   ·rw[h1]
    show ((UInt8.ofNat _).toNat:Int)=_
    simp;omega
  ·by_cases c3:(n:Int) < 65536
   ·obtain⟨e,h0,h1,h2⟩:=qke (r:=(n:Int)) (by omega)
    rw[e,if_neg (by omega),if_neg (by omega),if_pos (by omega)]
    refine⟨rfl,fun i hi=>?_⟩
    have hi2:i=0∨i=1∨i=2:=by omega
    rcases hi2 with rfl | rfl | rfl
    ·rw[h0]
     show ((UInt8.ofNat _).toNat:Int)=_
     simp;omega
    ·rw[h1]
     show ((UInt8.ofNat _).toNat:Int)=_
     simp;omega
    ·rw[h2]
     show ((UInt8.ofNat _).toNat:Int)=_
     simp;omega
   ·obtain⟨e,h0,h1,h2,h3⟩:=qkf (r:=(n:Int)) (by omega)
    rw[e,if_neg (by omega),if_neg (by omega),if_neg (by omega)]
    refine⟨rfl,fun i hi=>?_⟩
    have hi2:i=0∨i=1∨i=2∨i=3:=by omega
    rcases hi2 with rfl | rfl | rfl | rfl
    ·rw[h0]
     show ((UInt8.ofNat _).toNat:Int)=_
     simp;omega
    ·rw[h1]
     show ((UInt8.ofNat _).toNat:Int)=_
     simp;omega
    ·rw[h2]
     show ((UInt8.ofNat _).toNat:Int)=_
     simp;omega
    ·rw[h3]
     show ((UInt8.ofNat _).toNat:Int)=_
     simp;omega
def qfm:Nat→ByteArray→Bool
 | 0,_=>true
 | f+1,s=>if s.size=0 then true else if (qi s).e=0 then qfm f (s.extract (qi s).n.toNat s.size) else false
def qce (s:ByteArray):Bool:=qfm s.size s
theorem qkv:∀ (f g:Nat) (s:ByteArray),s.size≤f→s.size≤g→qfm f s=qfm g s
 | 0,g,s,hf,_=>by
  cases g with
  | zero=>rfl
  | succ g=>rw[qfm,qfm,if_pos (by omega)]
 | f+1,0,s,_,hg=>by rw[qfm,qfm,if_pos (by omega)]
 | f+1,g+1,s,hf,hg=>by
  rw[qfm,qfm]
  by_cases h:s.size=0
  ·rw[if_pos h,if_pos h]
  ·rw[if_neg h,if_neg h]
   rcases qbt s with ⟨r,_,e,hl,_⟩ | ⟨e,_⟩ | ⟨n,e,_⟩
   ·rw[e]
    have:=qcf r
    simp only[if_true,Int.toNat_natCast]
    exact qkv f g _ (by rw[ql];omega) (by rw[ql];omega)
   ·rw[e];rfl
   ·rw[e];rfl
theorem validG_empty {s:ByteArray} (h:s.size=0):qce s=true:=by unfold qce;rw[h];rfl
theorem validG_step {s:ByteArray} (h:s.size≠0):qce s=if (qi s).e=0 then qce (s.extract (qi s).n.toNat s.size) else false:=by
 unfold qce
 obtain⟨f,hf⟩:∃ f,s.size=f+1:=⟨s.size - 1,by omega⟩
 rw[hf,qfm,if_neg h]
 rcases qbt s with ⟨r,_,e,hl,_⟩ | ⟨e,_⟩ | ⟨n,e,_⟩
 ·have:=qcf r
  rw[e]
  simp only[if_true,Int.toNat_natCast]
  rw[← hf]
  exact qkv _ _ _ (by rw[ql];omega) (Nat.le_refl _)
 ·rw[e];rfl
 ·rw[e];rfl
theorem qgm (s:ByteArray):0≤(qi s).n∧(qi s).n.toNat≤s.size∧((qi s).e=0→1≤(qi s).n.toNat):=by
 rcases qbt s with ⟨r,_,h,hs,_⟩ | ⟨h,_⟩ | ⟨n,h,h1,h2,h3⟩
 ·have:=qcf r
  rw[h]
  simp only[Int.toNat_natCast]
  omega
 ·rw[h]
  simp
 ·rw[h]
  simp only[Int.toNat_natCast]
  omega
theorem qhx {r:Int} (hr:qak r=true) (s:ByteArray):qi (Utf8.encode r ++ s)=⟨r,sizeOf r,0⟩:=by
 obtain⟨hz,hb⟩:=qct hr
 exact firstG_enc hr (by rw[qn,hz];omega) (fun i hi=>by rw[qam _ _ _ (by omega)];exact hb i hi)
theorem ql3 {r:Int} (hr:qak r=true) (s:ByteArray):(Utf8.encode r ++ s).extract (sizeOf r) (Utf8.encode r ++ s).size=s:=by
 obtain⟨hz,_⟩:=qct hr
 apply qdx
 ·rw[ql,qn,hz];omega
 ·intro i hi
  rw[ql,qn,hz] at hi
  rw[qa9 _ _ _ _ (by rw[qn,hz];omega),← hz,qd3 _ _ _ (by omega)]
theorem qim {r:Int} (hr:qak r=true):(Utf8.encode r).size≠0:=by
 have:=(qct hr).1
 have:=qcf r
 omega
def nilB:ByteArray:=⟨#[]⟩
def Pa.to (s:Int):Pa:=⟨s,0,[],0,nilB,nilB⟩
def qeg (c:Int):Dn:=⟨2,0,c,0,[],0,nilB⟩
def qb8 (r:Int):Dn:=⟨1,r,0,0,[],0,nilB⟩
def dOsc (t:ByteArray):Dn:=⟨5,0,0,0,[],0,t⟩
def dEsc (i c:Int):Dn:=⟨3,0,c,0,[],i,nilB⟩
def dCsi (p:Pa) (c:Int):Dn:=⟨4,0,c,p.priv,p.params,p.inter,nilB⟩
def qs (c:Int):ByteArray:=⟨#[UInt8.ofNat c.toNat]⟩
def qau (l:List Int):List Int:=if l=[] then [0] else l
def qd9 (l:List Int) (d:Int):List Int:=l.dropLast ++ [if 9999 < 10 * l.getLastD 0+d then 9999 else 10 * l.getLastD 0+d]
def qc1 (p:Pa) (c:Int):Pa×List Dn :=
 if 64≤c∧c≤126 then (.to 0,[dCsi p c]) else if c=127 then (p,[]) else (.to 5,[])
def qgu (p:Pa) (c:Int):Pa×List Dn :=
 if 48≤c∧c≤57 then ({ p with params:=qd9 (qau p.params) (c - 48) },[])
 else if c=59 then (if (qau p.params).length=16 then (.to 5,[]) else ({ p with params:=qau p.params ++ [0] },[]))
 else if 60≤c∧c≤63∧p.params=[]∧p.priv=0 then ({ p with priv:=c },[])
 else if 32≤c∧c≤47 then ({ p with st:=4,inter:=c },[])
 else qc1 p c
def qe9 (p:Pa) (c:Int):Pa×List Dn :=
 if 32≤c∧c≤47 then (if p.st=2 then (.to 8,[]) else ({ Pa.to 2 with inter:=c },[]))
 else if p.st=1∧c=91 then (.to 3,[])
 else if p.st=1∧c=93 then (.to 6,[])
 else if p.st=1∧(c=80∨c=88∨c=94∨c=95) then (.to 7,[])
 else if 48≤c∧c≤126 then (.to 0,[dEsc p.inter c])
 else if c=127 then (p,[])
 else (.to 0,[])
def oscP (p:Pa) (c:Int):Pa×List Dn :=
 if c=7 then (.to 0,[dOsc p.osc]) else if 32≤c∧p.osc.size < 64 then ({ p with osc:=p.osc ++ qs c },[]) else (p,[])
def qh4 (p:Pa) (c:Int):Pa×List Dn :=
 if (qi (qs c)).e=2 then ({ p with pend:=qs c },[]) else (p,[qb8 65533])
def oneP (p:Pa) (c:Int):Pa×List Dn :=
 if c=24∨c=26 then (.to 0,if p.st=6∨p.st=7 then [] else [qeg c])
 else if c=27 then (.to 1,if p.st=6 then [dOsc p.osc] else [])
 else if p.st=6 then oscP p c
 else if p.st=7 then (p,[])
 else if c < 32 then (p,[qeg c])
 else if p.st=0 then (if 127 < c then qh4 p c else (p,if c < 127 then [qb8 c] else []))
 else if p.st=1∨p.st=2 then qe9 p c
 else if p.st=3 then qgu p c
 else if p.st=4 then qc1 p c
 else if p.st=5 then (if 64≤c∧c≤126 then (.to 0,[]) else (p,[]))
 else if (48≤c∧c≤126)∨127 < c then (.to 0,[]) else (p,[])
def qc6 (p:Pa) (c:Int):Pa×List Dn :=
 if p.pend.size=0 then oneP p c
 else
  if (qi (p.pend ++ qs c)).e=2 then ({ p with pend:=p.pend ++ qs c },[])
  else if (qi (p.pend ++ qs c)).e=0 then ({ p with pend:=nilB },if (qi (p.pend ++ qs c)).r < 128∨159 < (qi (p.pend ++ qs c)).r then [qb8 (qi (p.pend ++ qs c)).r] else [])
  else if (qi (p.pend ++ qs c)).n.toNat < (p.pend ++ qs c).size then ((oneP { p with pend:=nilB } c).1,qb8 65533 :: (oneP { p with pend:=nilB } c).2)
  else ({ p with pend:=nilB },[qb8 65533])
def qa1 (p:Pa):List Int→Pa×List Dn
 | []=>(p,[])
 | c :: l=>((qa1 (qc6 p c).1 l).1,(qc6 p c).2 ++ (qa1 (qc6 p c).1 l).2)
def qaf (s:ByteArray):List Int:=s.data.toList.map fun b=>(b.toNat:Int)
theorem qh5:∀ (s t:List Int) (p:Pa),qa1 p (s ++ t)=((qa1 (qa1 p s).1 t).1,(qa1 p s).2 ++ (qa1 (qa1 p s).1 t).2)
 | [],t,p=>rfl
 | c :: s,t,p=>by
  rw[List.cons_append,qa1,qh5 s t,qa1]
  simp only[List.append_assoc]
theorem qm2 (s t:ByteArray):qaf (s ++ t)=qaf s ++ qaf t:=by
 unfold qaf
 rw[← List.map_append]
 congr 1
def parR (p:Pa):Prop:=(∀ n∈p.params,0≤n∧n≤9999)∧p.params.length≤16∧(p.priv=0∨(60≤p.priv∧p.priv≤63))∧p.osc=nilB∧p.pend=nilB
def zeroR (p:Pa):Prop:=p.priv=0∧p.params=[]∧p.inter=0∧p.osc=nilB∧p.pend=nilB
def qan (p:Pa):Prop :=
 (p.st=0∧p.priv=0∧p.params=[]∧p.inter=0∧p.osc=nilB∧(qi p.pend).e=2) ∨
 ((p.st=1∨p.st=5∨p.st=7∨p.st=8)∧zeroR p) ∨
 (p.st=2∧p.priv=0∧p.params=[]∧(32≤p.inter∧p.inter≤47)∧p.osc=nilB∧p.pend=nilB) ∨
 (p.st=3∧parR p∧p.inter=0)∨(p.st=4∧parR p∧32≤p.inter∧p.inter≤47) ∨
 (p.st=6∧p.priv=0∧p.params=[]∧p.inter=0∧p.osc.size≤64∧p.pend=nilB)
theorem qkk:(qi nilB).e=2:=by decide +kernel
theorem qb5 {s:Int} (h:s=0∨s=1∨s=5∨s=7∨s=8∨s=3∨s=6):qan (.to s):=by
 unfold qan
 rcases h with rfl | rfl | rfl | rfl | rfl | rfl | rfl
 ·exact .inl ⟨rfl,rfl,rfl,rfl,rfl,qkk⟩
 ·exact .inr (.inl ⟨.inl rfl,rfl,rfl,rfl,rfl,rfl⟩)
 ·exact .inr (.inl ⟨.inr (.inl rfl),rfl,rfl,rfl,rfl,rfl⟩)
 ·exact .inr (.inl ⟨.inr (.inr (.inl rfl)),rfl,rfl,rfl,rfl,rfl⟩)
 ·exact .inr (.inl ⟨.inr (.inr (.inr rfl)),rfl,rfl,rfl,rfl,rfl⟩)
 ·exact .inr (.inr (.inr (.inl ⟨rfl,⟨(fun n h=>by cases h),Nat.zero_le _,.inl rfl,rfl,rfl⟩,rfl⟩)))
 ·exact .inr (.inr (.inr (.inr (.inr ⟨rfl,rfl,rfl,rfl,Nat.zero_le _,rfl⟩))))
theorem qfp (c:Int):(qs c).size=1:=rfl
theorem parOne_ok {l:List Int} (h:∀ n∈l,0≤n∧n≤9999) (hl:l.length≤16):(∀ n∈qau l,0≤n∧n≤9999)∧(qau l).length≤16∧qau l≠[]:=by
 unfold qau
 split
 ·simp
 ·rename_i hn;exact⟨h,hl,hn⟩
theorem parDigit_ok {l:List Int} {d:Int} (h:∀ n∈l,0≤n∧n≤9999) (hl:l.length≤16) (hn:l≠[]) (hd:0≤d∧d≤9):(∀ n∈qd9 l d,0≤n∧n≤9999)∧(qd9 l d).length≤16:=by
 have hpos:0 < l.length:=List.length_pos_iff.2 hn
 have hlast:0≤l.getLastD 0:=by
  rw[List.getLastD_eq_getLast?,List.getLast?_eq_some_getLast hn]
  exact(h _ (List.getLast_mem hn)).1
 unfold qd9
 refine⟨fun n hm=>?_,by simp;omega⟩
 rw[List.mem_append,List.mem_singleton] at hm
 rcases hm with hm | rfl
 ·exact h n ((List.dropLast_sublist l).subset hm)
 ·split <;> omega
theorem qmg {p:Pa} {c:Int} (h:qan p):qan (qc1 p c).1:=by
 unfold qc1
 split
 ·exact qb5 (.inl rfl)
 ·split
  ·exact h
  ·exact qb5 (.inr (.inr (.inl rfl)))
theorem right_csi {p:Pa} {c:Int} (h:p.st=3∧parR p∧p.inter=0):qan (qgu p c).1:=by
 have hr:qan p:=.inr (.inr (.inr (.inl h)))
 obtain⟨h1,⟨p1,p2,p3,p4,p5⟩,h3⟩:=h
 obtain⟨o1,o2,o3⟩:=parOne_ok p1 p2
 unfold qgu
 split
 ·rename_i hc
  obtain⟨q1,q2⟩:=parDigit_ok o1 o2 o3 (d:=c - 48) (by omega)
  exact .inr (.inr (.inr (.inl ⟨h1,⟨q1,q2,p3,p4,p5⟩,h3⟩)))
 ·split
  ·split
   ·exact qb5 (.inr (.inr (.inl rfl)))
   ·rename_i hl
    refine .inr (.inr (.inr (.inl ⟨h1,⟨fun n hm=>?_,?_,p3,p4,p5⟩,h3⟩)))
    ·rw[List.mem_append,List.mem_singleton] at hm
     rcases hm with hm | rfl
     ·exact o1 n hm
     ·omega
    ·show (qau p.params ++ [0]).length≤16
     rw[List.length_append,List.length_singleton]
     omega
  ·split
   ·rename_i hc
    exact .inr (.inr (.inr (.inl ⟨h1,⟨p1,p2,.inr ⟨hc.1,hc.2.1⟩,p4,p5⟩,h3⟩)))
   ·split
    ·rename_i hc
     exact .inr (.inr (.inr (.inr (.inl ⟨rfl,⟨p1,p2,p3,p4,p5⟩,hc.1,hc.2⟩))))
    ·exact qmg hr
theorem right_esc {p:Pa} {c:Int} (h:qan p):qan (qe9 p c).1:=by
 unfold qe9
 split
 ·rename_i hc
  split
  ·exact qb5 (by omega)
  ·exact .inr (.inr (.inl ⟨rfl,rfl,rfl,hc,rfl,rfl⟩))
 ·split
  ·exact qb5 (by omega)
  ·split
   ·exact qb5 (by omega)
   ·split
    ·exact qb5 (by omega)
    ·split
     ·exact qb5 (by omega)
     ·split
      ·exact h
      ·exact qb5 (by omega)
theorem right_osc {p:Pa} {c:Int} (h:p.st=6∧p.priv=0∧p.params=[]∧p.inter=0∧p.osc.size≤64∧p.pend=nilB):qan (oscP p c).1:=by
 have hr:qan p:=.inr (.inr (.inr (.inr (.inr h))))
 obtain⟨h1,h2,h3,h4,h5,h6⟩:=h
 unfold oscP
 split
 ·exact qb5 (.inl rfl)
 ·split
  ·rename_i hc
   refine .inr (.inr (.inr (.inr (.inr ⟨h1,h2,h3,h4,?_,h6⟩))))
   show (p.osc ++ qs c).size≤64
   rw[qn,qfp]
   omega
  ·exact hr
theorem right_one {p:Pa} {c:Int} (h:qan p):qan (oneP p c).1:=by
 unfold oneP
 by_cases c1:c=24∨c=26
 ·rw[if_pos c1];exact qb5 (.inl rfl)
 rw[if_neg c1]
 by_cases c2:c=27
 ·rw[if_pos c2];exact qb5 (.inr (.inl rfl))
 rw[if_neg c2]
 by_cases h6:p.st=6
 ·rw[if_pos h6]
  refine right_osc ?_
  rcases h with h | h | h | h | h | h
  ·have:=h.1;omega
  ·have:=h.1;omega
  ·have:=h.1;omega
  ·have:=h.1;omega
  ·have:=h.1;omega
  ·exact h
 rw[if_neg h6]
 by_cases h7:p.st=7
 ·rw[if_pos h7];exact h
 rw[if_neg h7]
 by_cases c3:c < 32
 ·rw[if_pos c3];exact h
 rw[if_neg c3]
 by_cases h0:p.st=0
 ·rw[if_pos h0]
  by_cases c4:127 < c
  ·rw[if_pos c4]
   unfold qh4
   by_cases he:(qi (qs c)).e=2
   ·rw[if_pos he]
    rcases h with h | h | h | h | h | h
    ·exact .inl ⟨h.1,h.2.1,h.2.2.1,h.2.2.2.1,h.2.2.2.2.1,he⟩
    ·have:=h.1;omega
    ·have:=h.1;omega
    ·have:=h.1;omega
    ·have:=h.1;omega
    ·have:=h.1;omega
   ·rw[if_neg he];exact h
  ·rw[if_neg c4];exact h
 rw[if_neg h0]
 by_cases h1:p.st=1∨p.st=2
 ·rw[if_pos h1];exact right_esc h
 rw[if_neg h1]
 by_cases h3:p.st=3
 ·rw[if_pos h3]
  refine right_csi ?_
  rcases h with h | h | h | h | h | h
  ·have:=h.1;omega
  ·have:=h.1;omega
  ·have:=h.1;omega
  ·exact h
  ·have:=h.1;omega
  ·have:=h.1;omega
 rw[if_neg h3]
 by_cases h4:p.st=4
 ·rw[if_pos h4];exact qmg h
 rw[if_neg h4]
 by_cases h5:p.st=5
 ·rw[if_pos h5]
  by_cases c5:64≤c∧c≤126
  ·rw[if_pos c5];exact qb5 (.inl rfl)
  ·rw[if_neg c5];exact h
 rw[if_neg h5]
 by_cases c6:(48≤c∧c≤126)∨127 < c
 ·rw[if_pos c6];exact qb5 (.inl rfl)
 ·rw[if_neg c6];exact h
theorem qk2 {p:Pa} (h:qan p) (hp:p.pend.size≠0):p.st=0∧p.priv=0∧p.params=[]∧p.inter=0∧p.osc=nilB∧(qi p.pend).e=2:=by
 have hn:p.pend≠nilB:=fun e=>hp (by rw[e];rfl)
 rcases h with h | h | h | h | h | h
 ·exact h
 ·exact absurd h.2.2.2.2.2 hn
 ·exact absurd h.2.2.2.2.2 hn
 ·exact absurd h.2.1.2.2.2.2 hn
 ·exact absurd h.2.1.2.2.2.2 hn
 ·exact absurd h.2.2.2.2.2 hn
theorem qmh {p:Pa} {c:Int} (h:qan p):qan (qc6 p c).1:=by
 unfold qc6
 split
 ·exact right_one h
 ·rename_i hp
  have hg:=qk2 h hp
  have hz:qan { p with pend:=nilB }:=.inl ⟨hg.1,hg.2.1,hg.2.2.1,hg.2.2.2.1,hg.2.2.2.2.1,qkk⟩
  split
  ·rename_i he
   exact .inl ⟨hg.1,hg.2.1,hg.2.2.1,hg.2.2.2.1,hg.2.2.2.2.1,he⟩
  ·split
   ·exact hz
   ·split
    ·exact right_one hz
    ·exact hz
theorem qha:∀ (s:List Int) (p:Pa),qan p→qan (qa1 p s).1
 | [],_,h=>h
 | _ :: s,_,h=>qha s _ (qmh h)
theorem short_small {s:ByteArray} (h:(qi s).e=2):s.size≤3:=by
 rcases qbt s with ⟨r,_,h1,hs,_⟩ | ⟨_,h1⟩ | ⟨n,h1,_,_,_⟩
 ·rw[h1] at h;exact absurd h (by show ¬ (0:Int)=2;decide)
 ·exact h1
 ·rw[h1] at h;exact absurd h (by show ¬ (4:Int)=2;decide)
theorem qfa {p:Pa} (h:qan p):p.params.length≤16∧p.osc.size≤64∧p.pend.size≤3:=by
 have hz:nilB.size=0:=rfl
 rcases h with h | h | h | h | h | h
 ·obtain⟨_,_,h3,_,h5,h6⟩:=h
  rw[h3,h5,hz]
  exact⟨Nat.zero_le _,by omega,short_small h6⟩
 ·obtain⟨_,_,h3,_,h5,h6⟩:=h
  rw[h3,h5,h6,hz]
  exact⟨Nat.zero_le _,by omega,by omega⟩
 ·obtain⟨_,_,h3,_,h5,h6⟩:=h
  rw[h3,h5,h6,hz]
  exact⟨Nat.zero_le _,by omega,by omega⟩
 ·obtain⟨_,⟨_,h3,_,h5,h6⟩,_⟩:=h
  rw[h5,h6,hz]
  exact⟨h3,by omega,by omega⟩
 ·obtain⟨_,⟨_,h3,_,h5,h6⟩,_⟩:=h
  rw[h5,h6,hz]
  exact⟨h3,by omega,by omega⟩
 ·obtain⟨_,_,h3,_,h5,h6⟩:=h
  rw[h3,h6,hz]
  exact⟨Nat.zero_le _,h5,by omega⟩
theorem qjs {c:Int} (h:0≤c∧c≤255):qb (qs c) 0=c:=by
 rw[← qbh (s:=qs c) (n:=0) (by show 0 < 1;omega)]
 show ((UInt8.ofNat c.toNat).toNat:Int)=c
 rw[UInt8.toNat_ofNat']
 omega
theorem qmi {p:Pa} (h:p.pend.size=0) (c:Int):qc6 p c=oneP p c:=by
 unfold qc6
 rw[if_pos h]
theorem qhb {s:ByteArray} {j:Nat} (h:j < s.size):s.extract 0 (j+1)=s.extract 0 j ++ qs (qb s j):=by
 have hz:=qn (s.extract 0 j) (qs (qb s j))
 rw[qfp,ql] at hz
 apply qdx
 ·rw[ql,hz];omega
 ·intro i hi
  rw[ql] at hi
  rw[qa9 _ _ _ _ (by omega),Nat.zero_add]
  by_cases hj:i < j
  ·rw[qam _ _ _ (by rw[ql];omega),qa9 _ _ _ _ (by omega),Nat.zero_add]
  ·have hs:(s.extract 0 j).size=j:=by rw[ql];omega
   have e:=qd3 (s.extract 0 j) (qs (qb s j)) 0 (by show 0 < 1;omega)
   rw[hs,Nat.add_zero,qjs (qbc s j)] at e
   obtain rfl:i=j:=by omega
   rw[e]
theorem qgd (s:ByteArray):(qaf s).length=s.size:=by unfold qaf;simp
theorem bytesP_at {s:ByteArray} {j:Nat} (h:j < s.size):(qaf s)[j]?=some (qb s j):=by
 unfold qaf
 rw[List.getElem?_map,← qbh h]
 have:s.data.toList[j]?=some s[j]:=by
  rw[Array.getElem?_toList]
  exact Array.getElem?_eq_getElem h
 rw[this]
 rfl
theorem qf3 {s:ByteArray} {j:Nat} (h:j < s.size):(qaf s).take (j+1)=(qaf s).take j ++ [qb s j]:=by
 rw[List.take_add_one,bytesP_at h]
 rfl
theorem qmj (p:Pa) (l:List Int) (c:Int):qa1 p (l ++ [c])=((qc6 (qa1 p l).1 c).1,(qa1 p l).2 ++ (qc6 (qa1 p l).1 c).2):=by
 rw[qh5,qa1,qa1]
 simp
theorem feed_part {r:Int} (hr:qak r=true) (_:128≤r):∀ j,j+1 < sizeOf r→qa1 (.to 0) ((qaf (Utf8.encode r)).take (j+1))=({ Pa.to 0 with pend:=(Utf8.encode r).extract 0 (j+1) },[]):=by
 obtain⟨hz,hb⟩:=qct hr
 have hcut:∀ j,j < sizeOf r→qi ((Utf8.encode r).extract 0 j)=⟨0,0,2⟩:=by
  intro j hj
  refine firstG_cut hr (by rw[ql,hz];omega) (fun i hi=>?_)
  rw[ql,hz] at hi
  rw[qa9 _ _ _ _ (by rw[hz];omega),Nat.zero_add]
  exact hb i (by omega)
 intro j
 induction j with
 | zero =>
  intro hj
  have e:=qhb (s:=Utf8.encode r) (j:=0) (by omega)
  have e0:(Utf8.encode r).extract 0 0=nilB:=by
   apply qdx
   ·rw[ql];show min 0 _ - 0=0;omega
   ·intro i hi;rw[ql] at hi;omega
  rw[e0] at e
  have e1:nilB ++ qs (qb (Utf8.encode r) 0)=qs (qb (Utf8.encode r) 0):=qle _
  rw[e1] at e
  have hc:=hcut 1 hj
  rw[e] at hc
  have hhi:127 < qb (Utf8.encode r) 0:=by
   rcases Int.lt_or_le 127 (qb (Utf8.encode r) 0) with h | h
   ·exact h
   ·have hf:=qdq (s:=qs (qb (Utf8.encode r) 0)) (by show (1:Nat)≠0;omega) (by rw[qjs (qbc _ _)];omega)
    rw[hc] at hf
    have:=congrArg Got.e hf
    exact absurd this (by show ¬ (2:Int)=0;decide)
  rw[qf3 (by omega),List.take_zero,List.nil_append,e]
  show ((qc6 (.to 0) (qb (Utf8.encode r) 0)).1,(qc6 (.to 0) (qb (Utf8.encode r) 0)).2 ++ [])=_
  have hb2:=qbc (Utf8.encode r) 0
  rw[qmi rfl]
  unfold oneP
  rw[if_neg (by omega),if_neg (by omega),if_neg (by show ¬ (0:Int)=6;decide),if_neg (by show ¬ (0:Int)=7;decide),if_neg (by omega),if_pos (show (Pa.to 0).st=0 from rfl),if_pos hhi]
  unfold qh4
  rw[hc,if_pos rfl]
  rfl
 | succ j ih =>
  intro hj
  have e:=qhb (s:=Utf8.encode r) (j:=j+1) (by omega)
  have hc:=hcut (j+1+1) hj
  rw[e] at hc
  rw[qf3 (by omega),qmj,ih (by omega),e]
  simp only
  unfold qc6
  rw[if_neg (by show ((Utf8.encode r).extract 0 (j+1)).size≠0;rw[ql,hz];omega)]
  simp only
  rw[hc,if_pos rfl]
  rfl
theorem feed_letter {r:Int} (hr:qak r=true) (h:160≤r∨(32≤r∧r < 127)):qa1 (.to 0) (qaf (Utf8.encode r))=(.to 0,[qb8 r]):=by
 obtain⟨hz,hb⟩:=qct hr
 have hall:(qaf (Utf8.encode r)).take (Utf8.encode r).size=qaf (Utf8.encode r):=List.take_of_length_le (by rw[qgd];omega)
 have hex:(Utf8.encode r).extract 0 (Utf8.encode r).size=Utf8.encode r:=ByteArray.extract_zero_size
 have hbd:=qcf r
 obtain⟨k,hk⟩:∃ k,(Utf8.encode r).size=k+1:=⟨(Utf8.encode r).size - 1,by omega⟩
 rw[← hall,hk,qf3 (by omega),qmj]
 by_cases h128:r < 128
 ·have h1:sizeOf r=1:=by unfold sizeOf;rw[if_pos h128]
  have hk0:k=0:=by omega
  subst hk0
  have h0:qb (Utf8.encode r) 0=r:=by rw[hb 0 (by omega)];unfold qg5;rw[if_pos h128]
  rw[h0,List.take_zero,qa1]
  simp only
  rw[qmi rfl]
  unfold oneP
  rw[if_neg (by omega),if_neg (by omega),if_neg (by show ¬ (0:Int)=6;decide),if_neg (by show ¬ (0:Int)=7;decide),if_neg (by omega),if_pos (show (Pa.to 0).st=0 from rfl),if_neg (by omega),if_pos (by omega)]
  rfl
 ·have h2:2≤sizeOf r:=by unfold sizeOf;rw[if_neg h128];split <;> (try split) <;> omega
  obtain⟨j,hj⟩:∃ j,k=j+1:=⟨k - 1,by omega⟩
  subst hj
  rw[feed_part hr (by omega) j (by omega)]
  simp only
  unfold qc6
  rw[if_neg (by show ((Utf8.encode r).extract 0 (j+1)).size≠0;rw[ql];omega)]
  simp only
  have e:=qhb (s:=Utf8.encode r) (j:=j+1) (by omega)
  rw[← hk,hex] at e
  have hf:=qhx hr ⟨#[]⟩
  rw[qlf] at hf
  rw[← e,hf]
  rw[if_neg (by show ¬ (0:Int)=2;decide),if_pos rfl,if_pos (by show r < 128∨159 < r;omega)]
  rfl
theorem qjt:∀ l:List Int,(∀ r∈l,qak r=true∧(160≤r∨(32≤r∧r < 127)))→qa1 (.to 0) (l.flatMap fun r=>qaf (Utf8.encode r))=(.to 0,l.map qb8)
 | [],_=>rfl
 | r :: l,h=>by
  have h1:=h r (List.Mem.head _)
  rw[List.flatMap_cons,qh5,feed_letter h1.1 h1.2]
  simp only
  rw[qjt l (fun x hx=>h x (List.Mem.tail _ hx))]
  rfl
set_option maxHeartbeats 400000
set_option maxRecDepth 100000
theorem qmp {s : ByteArray} {a b c : Int} (hg : qi s = ⟨a, b, c⟩) (w : World) (hs : s.size ≤ maxLen) (hT : Tab w) :
  Calls Tryz.prog 109 #[.string s] w fun e w'=>e=.returned (.tuple #[.int .i32 a,.int .i64 b,.int .i64 c])∧Below w.heap.size w w':=by
 have h:=qdd s w hs hT
 rw[hg] at h
 exact h
theorem valid_any (s : ByteArray) (w : World) (hs : s.size ≤ maxLen) (hT : Tab w) :
  Calls Tryz.prog 115 #[.string s] w fun e w'=>e=.returned (.bool (qce s))∧Below w.heap.size w w':=by
 unfold maxLen at hs
 go_enter Tryz.func115,Tryz.ntmps115
 go_wp2
 go_loopw [0] (fun v wr=>∃ t:ByteArray,v=.string t∧t.size≤s.size∧qce s=qce t∧Below w.heap.size w wr) (fun v _=>strLen v)
 case atStart=>exact⟨s,rfl,Nat.le_refl _,rfl,Below.refl _ _⟩
 case round =>
  obtain⟨t,rfl,hts,hv,hb⟩:=hrel
  have hsz:=hb.size
  have hTr:=hT.below hb
  have HV:=hid hv
  clear hv
  by_cases h0:t.size=0
  ·have HA:Hid (qce s=true):=by unfold Hid;rw[HV.out];exact validG_empty h0
   have hn:t.toList.isEmpty=true:=by rw[qaj h0,ByteArray.toList_eq];rfl
   clear HV h0
   go_wp2
   go_ret
   exact⟨qe HA.out.symm,hb⟩
  ·have hn:=qcd h0
   have hst:=validG_step h0
   rcases qbt t with ⟨r,hr,e,hl,_⟩ | ⟨e,_⟩ | ⟨n,e,_⟩
   ·have hz:=qcf r
    have hc:=qmp e wr (by unfold maxLen;omega) hTr
    rw[e] at hst
    simp only[if_true,Int.toNat_natCast] at hst
    have HA:Hid (qce s=qce (t.extract (sizeOf r) t.size)):=by unfold Hid;rw[HV.out,hst]
    have hq:(t.extract (sizeOf r) t.size).size=t.size - sizeOf r:=by rw[ql];omega
    have hq1:=hid hq
    clear hst HV h0 e hq
    obtain⟨m,hm⟩:∃ m,sizeOf r=m:=⟨_,rfl⟩
    rw[hm] at hc HA hl hz hq1
    clear hm
    go_wp2_with (go_at_call 109;refine hc.mono ?_;rintro e w' ⟨rfl,hb1⟩)
    go_roundw
    case rel=>exact⟨_,rfl,by rw[hq1.out];omega,HA.out,hb.trans (hb1.mono hsz)⟩
    case measure =>
     show (t.extract m t.size).size < t.size
     rw[hq1.out];omega
   ·have hc:=qmp e wr (by unfold maxLen;omega) hTr
    rw[e] at hst
    have HA:Hid (qce s=false):=by unfold Hid;rw[HV.out,hst];rfl
    clear hst HV h0 e
    go_wp2_with (go_at_call 109;refine hc.mono ?_;rintro e w' ⟨rfl,hb1⟩)
    go_ret
    exact⟨qe HA.out.symm,hb.trans (hb1.mono hsz)⟩
   ·have hc:=qmp e wr (by unfold maxLen;omega) hTr
    rw[e] at hst
    have HA:Hid (qce s=false):=by unfold Hid;rw[HV.out,hst];rfl
    clear hst HV h0 e
    go_wp2_with (go_at_call 109;refine hc.mono ?_;rintro e w' ⟨rfl,hb1⟩)
    go_ret
    exact⟨qe HA.out.symm,hb.trans (hb1.mono hsz)⟩
end Go.Proofs.YtpdaekmbpafenaaGreatDoor
