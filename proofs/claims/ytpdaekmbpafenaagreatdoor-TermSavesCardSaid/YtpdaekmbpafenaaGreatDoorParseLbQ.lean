
import Derived.Test.YtpdaekmbpafenaaGreatDoorUtfCQ
import Derived.Test.YtpdaekmbpafenaaGreatDoorLtRowQ
import Derived.Laws.AppendOwn
import Derived.OwnWalk
import Derived.ProofKit
namespace Go.Proofs.YtpdaekmbpafenaaGreatDoor
open Go.RowKit
def qgr:List Int→ByteArray
 | []=>nilB
 | r :: l=>Utf8.encode r ++ qgr l
theorem qnb:∀ (l:List Int) (r:Int),qgr (l ++ [r])=qgr l ++ Utf8.encode r
 | [],r=>by
  show Utf8.encode r ++ nilB=nilB ++ Utf8.encode r
  rw[show nilB=⟨#[]⟩ from rfl,qls,qlr]
 | x :: l,r=>by rw[List.cons_append,qgr,qgr,qnb l r,ByteArray.append_assoc]
theorem qix:∀ l:List Int,qt (qgr l)=l.flatMap fun r=>qt (Utf8.encode r)
 | []=>rfl
 | r :: l=>by rw[qgr,qdv,qix l];rfl
theorem qnc:∀ l:List Int,(∀ r∈l,qam r=true)→(qgr l).size≤4 * l.length
 | [],_=>Nat.le_refl _
 | r :: l,h=>by
  have h1:=(qc0 (h r (List.Mem.head _))).1
  have h2:=qnc l (fun x hx=>h x (List.Mem.tail _ hx))
  have h3:=qcm r
  rw[qgr,qm,List.length_cons]
  omega
end Go.Proofs.YtpdaekmbpafenaaGreatDoor
