/-
  WALKS: the reference's Split (layer 5).
-/
import Derived.Test.YtgnccmmbpgnamaaS3
namespace Go.Proofs.Ytgnccmmbpgnamaa
open Go.RowKit

theorem below_own {B n : Nat} {w W w1 : World} {v : Value} {m : Nat} {xs : List Value} {o : Obj} {t : TypeId} (hB : Below B w W) (hn : B ≤ n) (hw : B ≤ W.heap.size) (hown : W.ownsRow n t 1 v m xs) (hg : (W.alloc o).grownBy w1 v.ownBlock) : Below B w w1 :=
  (hB.alloc hw o).grown hg (by simp; omega) (fun k hk => Nat.le_trans hn (hown.lt k hk).1)

end Go.Proofs.Ytgnccmmbpgnamaa
