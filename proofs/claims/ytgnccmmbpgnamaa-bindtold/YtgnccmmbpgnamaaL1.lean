/-
  The program's Same of layer 8, of values that are no longer than the laws ask.
-/
import Derived.Test.YtgnccmmbpgnamaaP11
import Derived.Test.YtgnccmmbpgnamaaD3
namespace Go.Proofs.Ytgnccmmbpgnamaa
open Go.RowKit

theorem same_few (x y : Value) (a b : Vl) (r : Bool) (w : World) (HA : VlAt w x a) (HB : VlAt w y b) (FA : FewV a) (FB : FewV b) (h : sameV a b = r) : Calls Try.prog 44 #[x, y] w fun e w' => e = .returned (.bool r) ∧ Below w.heap.size w w' := by
  have := FA.l; have := FA.p; have := FB.l; have := FB.p
  exact same_any x y a b r w HA HB (by omega) (by omega) (by omega) (by omega) FA.t4 FB.t4 h
end Go.Proofs.Ytgnccmmbpgnamaa
