/- Layer 5, plain: parsers, and things that are done. -/
import Derived.Test.YtpcpdbofbbpglaaDoorBase
namespace Go.Proofs.YtpcpdbofbbpglaaDoor
open Go.RowKit

structure Pa where
  st : Int
  priv : Int
  params : List Int
  inter : Int
  osc : ByteArray
  pend : ByteArray
structure Dn where
  kind : Int
  rune : Int
  code : Int
  priv : Int
  params : List Int
  inter : Int
  text : ByteArray
end Go.Proofs.YtpcpdbofbbpglaaDoor
