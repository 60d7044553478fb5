/-
  WALKS: the reference's Take (layer 6).
-/
import Derived.Test.YtjbnofljoijnmaaDoorW5
namespace Go.Proofs.YtjbnofljoijnmaaDoor
open Go.RowKit Go.Lib

/-- what is taken of a text: the name, the prefix, the star, how many bytes, the error -/
def tkN (s : ByteArray) : ByteArray := if isX s.data.toList then nmX s else ⟨#[]⟩
def tkM (s : ByteArray) : Int := if isX s.data.toList then (specX s.data.toList).max else 0
def tkS (s : ByteArray) : Bool := if isX s.data.toList then (specX s.data.toList).star else false
def tkE (s : ByteArray) : Int := if isX s.data.toList then 0 else 2

end Go.Proofs.YtjbnofljoijnmaaDoor
