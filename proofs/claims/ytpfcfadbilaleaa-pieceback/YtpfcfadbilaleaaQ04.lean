/-
  TEXTS JOINED: T1, T2.
-/
import Derived.Test.YtpfcfadbilaleaaQ01
import Derived.Test.YtpfcfadbilaleaaQ02
import Derived.Test.YtpfcfadbilaleaaQ03
/-
  PLAIN LEAN, no program in it: literals of templates, piece by piece.
-/
namespace Go.Proofs.Ytpfcfadbilaleaa
open Go.Lib Ytpfcfadbilaleaau

/-- an operator, none excepted -/
def opN (n : Nat) : Bool := [43, 35, 46, 47, 59, 63, 38].contains n
def opB (c : UInt8) : Bool := opN c.toNat
end Go.Proofs.Ytpfcfadbilaleaa
/-
  PLAIN LEAN, no program in it: templates: what may be, how it is written, how a text is read.
-/
namespace Go.Proofs.Ytpfcfadbilaleaa
open Go.Lib Ytpfcfadbilaleaau

/-- a part -/
structure Pt where
  lit : List UInt8
  op : UInt8
  specs : List Sp

def operB (c : UInt8) : Bool := c == 0 || opB c
/-! ### Fuel -/
/-! ### Commas -/
/-! ### What a variable's text has -/
/-! ### Expressions, there and back -/
/-! ### Templates, there and back -/
end Go.Proofs.Ytpfcfadbilaleaa
