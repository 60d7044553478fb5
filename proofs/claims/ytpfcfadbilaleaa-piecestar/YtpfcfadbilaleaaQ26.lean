/-
  TEXTS JOINED: OS.
-/
import Derived.Lib.SmallJoins
import Derived.OpenShut
import Derived.ProofKit
import Derived.ShutString
import Derived.Test.YtpfcfadbilaleaaProg
/-
  OPENING AND SHUTTING an argument that is a variable of an expression (a struct of a text, a number, and a bool).
-/
namespace Go.Proofs.Ytpfcfadbilaleaa
open Go.ChangeShapes Go.WideShapes Go.ChangeAt Go.RowKit Go.Lib Go.Joins

set_option maxRecDepth 20000 in
theorem cellsS : Try.prog.cellsOf 23 = 3 := by kernel_rfl

variable {H : Type} {enc : TypeId × Value → H} {W : World} {base : Nat} {sp : Nat → Bool} {held : Bool}

set_option maxRecDepth 20000 in
theorem open_spec {r : Reach} {b0 : Nat} {v : Value} {d : DataW H} {ps : List MemPlace} (hv : Value.okWide Try.prog W r b0 23 v) (hd : DataW.Trod enc Try.prog W base sp held 23 v d ps) :
    ∃ (a : ByteArray) (m : Int) (s : Bool), v = .agg #[.string a, .int .i64 m, .bool s] ∧ d = .agg [.lit (.string a.data.toList), .lit (.int .i64 m), .lit (.bool s)] ∧ ps = [] ∧ a.size ≤ maxLen ∧ (Lit.int .i64 m).wf = true := by
  obtain ⟨c0, c1, c2, y0, y1, y2, n, rfl, rfl, rfl, h0, h1, h2⟩ := open_agg3 Try.underlying23 (by kernel_rfl) cellsS hv hd
  obtain ⟨a, e0, rfl, k0⟩ := DataW.trod_string Try.underlying9 h0
  obtain ⟨m, e1, rfl, k1⟩ := DataW.trod_int Try.underlying3 h1
  obtain ⟨s, e2, rfl⟩ := DataW.trod_bool Try.underlying4 h2
  simp only [List.cons.injEq, and_true] at e0 e1 e2
  subst e0 e1 e2
  exact ⟨a, m, s, rfl, rfl, rfl, k0, k1⟩
set_option maxRecDepth 20000 in
theorem shut_spec {a : ByteArray} {m : Int} {s : Bool} (h0 : a.size ≤ maxLen) (h1 : (Lit.int .i64 m).wf = true) :
    DataW.Trod enc Try.prog W base sp held 23 (.agg #[.string a, .int .i64 m, .bool s]) (.agg [.lit (.string a.data.toList), .lit (.int .i64 m), .lit (.bool s)]) [] :=
  shut_agg3 (y0 := (.lit (.string a.data.toList), [])) (y1 := (.lit (.int .i64 m), [])) (y2 := (.lit (.bool s), [])) Try.underlying23 (by kernel_rfl) cellsS ⟨1, by simp [DataW.trod, Try.underlying9, h0]⟩ ⟨1, by simp [DataW.trod, Try.underlying3, h1]⟩ ⟨1, by simp [DataW.trod, Try.underlying4]⟩
end Go.Proofs.Ytpfcfadbilaleaa
