
import Derived.Test.YtpdaekmbpafenaaGreatDoorLaidQ
import Derived.Test.YtpdaekmbpafenaaGreatDoorIRowQ
import Derived.Test.YtpdaekmbpafenaaGreatDoorLtRowQ
namespace Go.Proofs.YtpdaekmbpafenaaGreatDoor
open Go.ChangeShapes Go.WideShapes Go.ChangeAt Go.RowKit
theorem gLet:Tryz.prog.globalNamed "backseat/utf.letters"=some 1:=by kernel_rfl
theorem gLetType:(Tryz.prog.globals[1]?).map (·.type)=some 194:=by kernel_rfl
theorem cellsLet:Tryz.prog.cellsOf 194=5 * 3:=by kernel_rfl
theorem cellsRow:Tryz.prog.cellsOf 187=3:=by kernel_rfl
theorem cellsI32:Tryz.prog.cellsOf 21=1:=by kernel_rfl
theorem tab_of {rest:List (String×DataW Unit)} {W:World} (h:laidMet Tryz.prog (("backseat/utf.letters",Rows.laid_backseat_utf_letters) :: rest) W):Tab W:=by
  obtain⟨cs,fuel,p,hd,hblk⟩:=qm0 gLet gLetType h
  obtain⟨h1,h2,h3⟩:=qi2 (rows:=[[0,127,1],[128,2047,2],[2048,55295,3],[57344,65535,3],[65536,1114111,4]]) Tryz.underlying194 Tryz.underlying187 Tryz.underlying21 cellsI32 cellsRow cellsLet hd
  have hcs:=qkr (m:=3) ([[0,127,1],[128,2047,2],[2048,55295,3],[57344,65535,3],[65536,1114111,4]].map (List.map (Value.int .i32))) cs.toList (by rw[h1];rfl) (fun j hj=>by
    rw[h3 j hj]
    have hj5:j < 5:=hj
    have hk5:j=0∨j=1∨j=2∨j=3∨j=4:=by omega
    rcases hk5 with rfl | rfl | rfl | rfl | rfl <;> rfl)
  obtain ⟨t, hb⟩ := hblk (by have : cs.toList.length = cs.size := by simp
                             omega)
  refine⟨t,hb.trans ?_⟩
  have:cs=#[.int .i32 0,.int .i32 127,.int .i32 1,.int .i32 128,.int .i32 2047,.int .i32 2,.int .i32 2048,.int .i32 55295,.int .i32 3,.int .i32 57344,.int .i32 65535,.int .i32 3,.int .i32 65536,.int .i32 1114111,.int .i32 4]:=by
    apply Array.toList_inj.1
    rw[hcs];rfl
  rw[this]
end Go.Proofs.YtpdaekmbpafenaaGreatDoor

namespace Go.Proofs.YtpdaekmbpafenaaGreatDoor
open Go.ChangeShapes Go.WideShapes Go.ChangeAt Go.RowKit
theorem gWid:Tryz.prog.globalNamed "backseat/utf.widths"=some 0:=by kernel_rfl
theorem gWidType:(Tryz.prog.globals[0]?).map (·.type)=some 188:=by kernel_rfl
theorem cellsWid:Tryz.prog.cellsOf 188=13 * 3:=by kernel_rfl
def widRows:List (List Int):=[[0,31,-1],[127,159,-1],[768,879,0],[8203,8205,0],[65024,65039,0],[4352,4447,2],[12353,19903,2],[19968,40959,2],[44032,55203,2],[63744,64255,2],[65281,65376,2],[127744,129791,2],[131072,262141,2]]
def wids:Array Value:=#[.int .i32 0,.int .i32 31,.int .i32 (-1),.int .i32 127,.int .i32 159,.int .i32 (-1),.int .i32 768,.int .i32 879,.int .i32 0,.int .i32 8203,.int .i32 8205,.int .i32 0,.int .i32 65024,.int .i32 65039,.int .i32 0,.int .i32 4352,.int .i32 4447,.int .i32 2,.int .i32 12353,.int .i32 19903,.int .i32 2,.int .i32 19968,.int .i32 40959,.int .i32 2,.int .i32 44032,.int .i32 55203,.int .i32 2,.int .i32 63744,.int .i32 64255,.int .i32 2,.int .i32 65281,.int .i32 65376,.int .i32 2,.int .i32 127744,.int .i32 129791,.int .i32 2,.int .i32 131072,.int .i32 262141,.int .i32 2]
theorem tabW_of {rest:List (String×DataW Unit)} {W:World} (h:laidMet Tryz.prog (("backseat/utf.widths",Rows.laid_backseat_utf_widths) :: rest) W):TabW W:=by
  obtain⟨cs,fuel,p,hd,hblk⟩:=qm0 gWid gWidType h
  obtain⟨h1,h2,h3⟩:=qi2 (rows:=widRows) Tryz.underlying188 Tryz.underlying187 Tryz.underlying21 cellsI32 cellsRow cellsWid hd
  have hcs:=qkr (m:=3) (widRows.map (List.map (Value.int .i32))) cs.toList (by rw[h1];rfl) (fun j hj=>by
    rw[h3 j hj]
    have hj5:j < 13:=hj
    rcases qlg hj5 with rfl | rfl | rfl | rfl | rfl | rfl | rfl | rfl | rfl | rfl | rfl | rfl | rfl <;> rfl)
  obtain ⟨t, hb⟩ := hblk (by have : cs.toList.length = cs.size := by simp
                             omega)
  refine⟨t,hb.trans ?_⟩
  have:cs=#[.int .i32 0,.int .i32 31,.int .i32 (-1),.int .i32 127,.int .i32 159,.int .i32 (-1),.int .i32 768,.int .i32 879,.int .i32 0,.int .i32 8203,.int .i32 8205,.int .i32 0,.int .i32 65024,.int .i32 65039,.int .i32 0,.int .i32 4352,.int .i32 4447,.int .i32 2,.int .i32 12353,.int .i32 19903,.int .i32 2,.int .i32 19968,.int .i32 40959,.int .i32 2,.int .i32 44032,.int .i32 55203,.int .i32 2,.int .i32 63744,.int .i32 64255,.int .i32 2,.int .i32 65281,.int .i32 65376,.int .i32 2,.int .i32 127744,.int .i32 129791,.int .i32 2,.int .i32 131072,.int .i32 262141,.int .i32 2]:=by
    apply Array.toList_inj.1
    rw[hcs];rfl
  rw[this]
end Go.Proofs.YtpdaekmbpafenaaGreatDoor
