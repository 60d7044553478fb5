/-
  WALKS: the program's Of, Canon (layer 8).
-/
import Derived.Test.YtgnccmmbpgnamaaP7
namespace Go.Proofs.Ytgnccmmbpgnamaa
open Go.RowKit

theorem newly_of_far {n : Nat} {v : Value} (h : ∀ b, b < n → Far b v) : Newly n v := fun g off k c e => by
  apply Classical.byContradiction
  intro hlt
  exact h g (by omega) g off k c e rfl
end Go.Proofs.Ytgnccmmbpgnamaa
