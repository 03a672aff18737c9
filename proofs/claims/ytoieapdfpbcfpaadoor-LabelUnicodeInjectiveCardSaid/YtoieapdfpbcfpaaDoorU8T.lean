/-
  The two tables of unicode/utf8 lie in the world; what is made beside them leaves them there.
-/
import Derived.Test.YtoieapdfpbcfpaaDoorRows
import Derived.Shelf.Unicode.DecodeSlow
namespace Go.Proofs.YtoieapdfpbcfpaaDoor
open Go.RowKit

def U8 (w : World) : Prop := Lib.Utf8Tabs 0 1 w
theorem u8_below {w w' : World} (h : U8 w) (hb : Below w.heap.size w w') : U8 w' := Utf8Tabs_below h hb

end Go.Proofs.YtoieapdfpbcfpaaDoor
