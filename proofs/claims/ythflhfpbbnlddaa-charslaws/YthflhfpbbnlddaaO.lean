/-
  OPENING AND SHUTTING the arguments: a set of four numbers; two bytes.
-/
import Derived.Test.YthflhfpbbnlddaaW1
import Derived.ProofKit
import Derived.OpenShut
import Derived.Laws.IdiomArrays
namespace Go.Proofs.Ythflhfpbbnlddaa
open Go.ChangeShapes Go.WideShapes Go.ChangeAt Go.RowKit

theorem cells5 : Try.prog.cellsOf 5 = 1 := by kernel_rfl
theorem cells22 : Try.prog.cellsOf 22 = 1 := by kernel_rfl
theorem cells23 : Try.prog.cellsOf 23 = 4 := by kernel_rfl
theorem cells31 : Try.prog.cellsOf 31 = 2 := by kernel_rfl
theorem list4 {α : Type} (l : List α) (h : (⟨l⟩ : Array α).size = 4) : ∃ a b c d, l = [a, b, c, d] := by
  match l, h with
  | [a, b, c, d], _ => exact ⟨a, b, c, d, rfl⟩
theorem list2 {α : Type} (l : List α) (h : (⟨l⟩ : Array α).size = 2) : ∃ a b, l = [a, b] := by
  match l, h with
  | [a, b], _ => exact ⟨a, b, rfl⟩

/-- a set as it is read -/
def qd {H : Type} (q : Q) : DataW H := .agg [.lit (.int .u64 q.a), .lit (.int .u64 q.b), .lit (.int .u64 q.c), .lit (.int .u64 q.d)]

variable {H : Type} {enc : TypeId × Value → H} {W : World} {base : Nat} {sp : Nat → Bool} {held : Bool}

theorem open_set {r : Reach} {b0 : Nat} {v : Value} {d : DataW H} {ps : List MemPlace} (hv : Value.okWide Try.prog W r b0 23 v) (hd : DataW.Trod enc Try.prog W base sp held 23 v d ps) :
    ∃ q : Q, v = qv q ∧ d = qd q ∧ ps = [] ∧ q.ok := by
  obtain ⟨cs, rfl, hsz, _⟩ : ∃ cs, v = .agg cs ∧ cs.size = Try.prog.cellsOf 23 ∧ Row.okWide Try.prog W r b0 23 cs := by
    simpa [Value.okWide, Try.underlying23] using hv
  rw [cells23] at hsz
  obtain ⟨l⟩ := cs
  obtain ⟨c0, c1, c2, c3, rfl⟩ := list4 l hsz
  obtain ⟨fuel, hf⟩ := hd
  obtain ⟨y0, y1, y2, y3, m, hx, hy0, hy1, hy2, hy3⟩ := trod_array4 Try.underlying23 cells22 hf
  obtain ⟨x0, e0, rfl, w0⟩ := DataW.trod_int Try.underlying22 hy0
  obtain ⟨x1, e1, rfl, w1⟩ := DataW.trod_int Try.underlying22 hy1
  obtain ⟨x2, e2, rfl, w2⟩ := DataW.trod_int Try.underlying22 hy2
  obtain ⟨x3, e3, rfl, w3⟩ := DataW.trod_int Try.underlying22 hy3
  simp at e0 e1 e2 e3
  subst e0 e1 e2 e3
  simp only [Prod.mk.injEq] at hx
  obtain ⟨rfl, rfl⟩ := hx
  have b0 := bounds_u64 w0
  have b1 := bounds_u64 w1
  have b2 := bounds_u64 w2
  have b3 := bounds_u64 w3
  obtain ⟨n0, rfl⟩ : ∃ n : Nat, x0 = n := ⟨x0.toNat, by omega⟩
  obtain ⟨n1, rfl⟩ : ∃ n : Nat, x1 = n := ⟨x1.toNat, by omega⟩
  obtain ⟨n2, rfl⟩ : ∃ n : Nat, x2 = n := ⟨x2.toNat, by omega⟩
  obtain ⟨n3, rfl⟩ : ∃ n : Nat, x3 = n := ⟨x3.toNat, by omega⟩
  refine ⟨⟨n0, n1, n2, n3⟩, rfl, rfl, rfl, ?_⟩
  unfold Q.ok
  simp only
  omega

theorem wf_u64 (n : Nat) (h : n < 18446744073709551616) : (Lit.int .u64 (n : Int)).wf = true := by
  have e : (n : Int) = IntKind.u64.wrap (n : Int) := by rw [IntKind.wrap_u64]; omega
  rw [e]
  exact wf_wrap _ _

theorem shut_set {q : Q} (h : q.ok) : DataW.Trod enc Try.prog W base sp held 23 (qv q) (qd q) [] := by
  obtain ⟨h0, h1, h2, h3⟩ := h
  have w0 := wf_u64 _ h0
  have w1 := wf_u64 _ h1
  have w2 := wf_u64 _ h2
  have w3 := wf_u64 _ h3
  exact ⟨2, by simp [qv, qd, DataW.trod, Value.cells, Try.underlying23, Try.underlying22, cells23, cells22, w0, w1, w2, w3, show List.range 4 = [0, 1, 2, 3] from rfl]⟩

theorem open_two {r : Reach} {b0 : Nat} {v : Value} {d : DataW H} {ps : List MemPlace} (hv : Value.okWide Try.prog W r b0 31 v) (hd : DataW.Trod enc Try.prog W base sp held 31 v d ps) :
    ∃ x y : Int, v = .agg #[.int .u8 x, .int .u8 y] ∧ d = .agg [.lit (.int .u8 x), .lit (.int .u8 y)] ∧ ps = [] ∧ (Lit.int .u8 x).wf = true ∧ (Lit.int .u8 y).wf = true := by
  obtain ⟨cs, rfl, hsz, _⟩ : ∃ cs, v = .agg cs ∧ cs.size = Try.prog.cellsOf 31 ∧ Row.okWide Try.prog W r b0 31 cs := by
    simpa [Value.okWide, Try.underlying31] using hv
  rw [cells31] at hsz
  obtain ⟨l⟩ := cs
  obtain ⟨c0, c1, rfl⟩ := list2 l hsz
  obtain ⟨fuel, hf⟩ := hd
  obtain ⟨xs, m, _, hx, _, hn, hg⟩ := DataW.trod_array Try.underlying31 hf
  have hy0 := hg 0 (by decide)
  have hy1 := hg 1 (by decide)
  rw [cells5] at hy0 hy1
  match xs, hn with
  | [y0, y1], _ =>
    simp [Value.cells] at hy0 hy1
    obtain ⟨x0, e0, rfl, w0⟩ := DataW.trod_int Try.underlying5 hy0
    obtain ⟨x1, e1, rfl, w1⟩ := DataW.trod_int Try.underlying5 hy1
    simp at e0 e1
    subst e0 e1
    simp only [List.map_cons, List.map_nil, List.flatMap_cons, List.flatMap_nil, List.append_nil, Prod.mk.injEq] at hx
    obtain ⟨rfl, rfl⟩ := hx
    exact ⟨x0, x1, rfl, rfl, rfl, w0, w1⟩

theorem shut_two {x y : Int} (w0 : (Lit.int .u8 x).wf = true) (w1 : (Lit.int .u8 y).wf = true) : DataW.Trod enc Try.prog W base sp held 31 (.agg #[.int .u8 x, .int .u8 y]) (.agg [.lit (.int .u8 x), .lit (.int .u8 y)]) [] :=
  ⟨2, by simp [DataW.trod, Value.cells, Try.underlying31, Try.underlying5, cells31, cells5, w0, w1, show List.range 2 = [0, 1] from rfl]⟩
end Go.Proofs.Ythflhfpbbnlddaa
