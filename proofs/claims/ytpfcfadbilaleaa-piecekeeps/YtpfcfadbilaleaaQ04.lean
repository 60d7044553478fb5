/-
  TEXTS JOINED: T2.
-/
import Derived.Test.YtpfcfadbilaleaaQ01
import Derived.Test.YtpfcfadbilaleaaQ02
import Derived.Test.YtpfcfadbilaleaaQ03
/-
  PLAIN LEAN, no program in it: templates: what may be, how it is written, how a text is read.
-/
namespace Go.Proofs.Ytpfcfadbilaleaa
open Go.Lib Ytpfcfadbilaleaau

/-- a part -/
structure Pt where
  lit : List UInt8
  op : UInt8
  specs : List Sp

/-! ### Fuel -/
/-! ### Commas -/
/-! ### What a variable's text has -/
/-! ### Expressions, there and back -/
/-! ### Templates, there and back -/
end Go.Proofs.Ytpfcfadbilaleaa
