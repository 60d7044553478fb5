/-
  WHAT THE ROWS LIST; the door's own heap meets it; what it gives the walks: the table of tens.
-/
import Derived.Test.YtcglkekilaokaaaDoorRows
import Derived.Test.YtcglkekilaokaaaDoorTie
import Derived.Test.YtcglkekilaokaaaDoorR0
import Derived.ProofKit
import Derived.LaidMore
import Derived.LaidSub
import Derived.Lib.LaidTab
import Derived.OpenShut
import Derived.Stop.Joined
namespace Go.Proofs.YtcglkekilaokaaaDoor
open Go.ChangeShapes Go.WideShapes Go.ChangeAt Go.WideMaps Go.WideElems Go.RowKit

/-- what the rows list -/
def laidR : List (String × DataW Unit) := [("math/bits.deBruijn32tab", Rows.laid_math_bits_deBruijn32tab), ("math/bits.deBruijn64tab", Rows.laid_math_bits_deBruijn64tab), ("internal/strconv.uint64pow10", Rows.laid_internal_strconv_uint64pow10)]
theorem door_met (os : Os) (args : Array Value) : laidMetH Tryd.prog laidR ((World.doorLaid Tryd.prog 400 os).forCall (fun _ _ => 0) ⟨#[], args, []⟩).memory :=
  laidMetH_of_parts3 (fuel := 8) (laidMet_of_run' 8 (by kernel_rfl) (by kernel_rfl)) (by kernel_rfl) (by kernel_rfl)
theorem ran_of {W : World} (h : laidMetH Tryd.prog laidR W) : Ran W := by
  rw [MakeChecks.laidMetH_plain _ _ _ (by kernel_rfl)] at h
  have h2 := laidMet.filter (fun x => x.1 == "internal/strconv.uint64pow10") h
  exact ⟨Lib.tabIs_of_head (g := 0) (t := 79) (e := 60) (n := 20) (rest := []) (by kernel_rfl) (by kernel_rfl) Tryd.underlying79 Tryd.underlying60 (by kernel_rfl) (by kernel_rfl) h2⟩
end Go.Proofs.YtcglkekilaokaaaDoor
