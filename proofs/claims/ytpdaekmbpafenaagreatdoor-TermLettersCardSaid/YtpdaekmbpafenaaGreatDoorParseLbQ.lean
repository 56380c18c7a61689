
import Derived.Test.YtpdaekmbpafenaaGreatDoorUtfCQ
import Derived.Test.YtpdaekmbpafenaaGreatDoorLtRowQ
import Derived.Laws.AppendOwn
import Derived.OwnWalk
import Derived.ProofKit
namespace Go.Proofs.YtpdaekmbpafenaaGreatDoor
open Go.RowKit
def qft:List Int→ByteArray
 | []=>nilB
 | r :: l=>Utf8.encode r ++ qft l
theorem qmw:∀ (l:List Int) (r:Int),qft (l ++ [r])=qft l ++ Utf8.encode r
 | [],r=>by
  show Utf8.encode r ++ nilB=nilB ++ Utf8.encode r
  rw[show nilB=⟨#[]⟩ from rfl,qlf,qle]
 | x :: l,r=>by rw[List.cons_append,qft,qft,qmw l r,ByteArray.append_assoc]
theorem qk9:∀ l:List Int,qaf (qft l)=l.flatMap fun r=>qaf (Utf8.encode r)
 | []=>rfl
 | r :: l=>by rw[qft,qm2,qk9 l];rfl
theorem qmx:∀ l:List Int,(∀ r∈l,qak r=true)→(qft l).size≤4 * l.length
 | [],_=>Nat.le_refl _
 | r :: l,h=>by
  have h1:=(qct (h r (List.Mem.head _))).1
  have h2:=qmx l (fun x hx=>h x (List.Mem.tail _ hx))
  have h3:=qcf r
  rw[qft,qn,List.length_cons]
  omega
end Go.Proofs.YtpdaekmbpafenaaGreatDoor
