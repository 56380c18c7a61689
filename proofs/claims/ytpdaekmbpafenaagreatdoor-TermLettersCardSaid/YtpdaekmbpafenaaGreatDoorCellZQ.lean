
import Derived.Test.YtpdaekmbpafenaaGreatDoorLtRowQ
import Derived.Test.YtpdaekmbpafenaaGreatDoorIRowQ
import Derived.Deep.CutBlock
import Derived.Test.YtpdaekmbpafenaaGreatDoorCellHQ
import Derived.Lib.QuietBelow
namespace Go.Proofs.YtpdaekmbpafenaaGreatDoor
open Go.RowKit
theorem widthI_le (r:Int):qg r≤2:=by
 unfold qg
 repeat' split
 all_goals omega
end Go.Proofs.YtpdaekmbpafenaaGreatDoor
