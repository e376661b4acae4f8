/- Contract of mark.Order and of what it calls. -/
import Derived.Test.YtlpfnpkmgkbngaeCheckM
import Derived.Deep.RegionHeld3
import Derived.BigRegion
namespace Go.Proofs.Ytlpfnpkmgkbngae
open Go.RowKit

def orI (x y : Int) : Int := if x = 0 then y else x

def ordS (s t : Int × Int) : Int := orI (ordI s.1 t.1) (ordI s.2 t.2)
/-- the order of two paths -/
def ordP : List (Int × Int) → List (Int × Int) → Int
  | [], [] => 0
  | [], _ :: _ => -1
  | _ :: _, [] => 1
  | s :: l, t :: m => if ordS s t = 0 then ordP l m else ordS s t

/-- the order of two marks -/
def ordM (l : List (Int × Int)) (c : Int) (m : List (Int × Int)) (d : Int) : Int := orI (ordP l m) (ordI c d)

end Go.Proofs.Ytlpfnpkmgkbngae
