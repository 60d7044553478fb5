/-
  TEXTS JOINED: uW8.
-/
import Derived.BigQuiet
import Derived.Deep.QuietTactic
import Derived.Deep.RegionWith
import Derived.OpenShut
import Derived.Test.YtpfcfadbilaleaaQ02
/-
  WALKS: the reference's Begin, Chars and Prefix.
-/
namespace Go.Proofs.Ytpfcfadbilaleaau
open Go.RowKit
open Go.Lib (encodeRune)
set_option maxRecDepth 20000 in
theorem own_later {W w1 : World} {base : Nat} {v : Value} {n : Nat} {xs : List Value} (h : W.ownsRow base 3 1 v n xs) (b : Below W.heap.size W w1) : w1.ownsRow base 3 1 v n xs := by
  refine ⟨h.1, ?_⟩
  rcases h.2 with k | ⟨g, cap, cur, e1, e2, e3, e4⟩
  · exact .inl k
  · exact .inr ⟨g, cap, cur, e1, e2, (b.block g (lt_of_block e3)).trans e3, e4⟩
end Go.Proofs.Ytpfcfadbilaleaau
