import Derived.Test.YtbnchnlogikecaaGreatDoorPExCl2
import Derived.Test.YtbnchnlogikecaaGreatDoorPExRd8
namespace Go.Proofs.YtbnchnlogikecaaGreatDoor
open Go.RowKit
attribute [local go_sem] Oper.semAt_some
namespace Ex
def atomA (pat : Int × Int × Int → Pat × Int × Int × Int) (T : ByteArray) (s : Int × Int × Int) : Pat × Int × Int × Int :=
  if peekP T s.1 = 92 then (rangeP (escapeS T s).1 (escapeS T s).1, (escapeS T s).2)
  else if peekP T s.1 = 91 then classA T s
  else if peekP T s.1 = 46 then (rangeP 0 255, s.1 + 1, s.2)
  else if peekP T s.1 = 40 then ((pat (s.1 + 1, s.2)).1, if peekP T (pat (s.1 + 1, s.2)).2.1 = 41 then ((pat (s.1 + 1, s.2)).2.1 + 1, (pat (s.1 + 1, s.2)).2.2) else wrongS T (pat (s.1 + 1, s.2)).2)
  else if plainP (peekP T s.1) then (rangeP (peekP T s.1) (peekP T s.1), s.1 + 1, s.2)
  else (zeroP, wrongS T s)
end Ex
end Go.Proofs.YtbnchnlogikecaaGreatDoor
