/-
  Proved: ValueMore holds: a text more makes of a list another one, that is behind; pairs of texts are not a list of them.
  Conditions: none: every input that can be read.
-/
import Derived.Test.YtikhggdigndhoaaRows
import Derived.Test.YtikhggdigndhoaaL4
import Derived.Test.YtikhggdigndhoaaO
import Derived.WalkKit
import Derived.SizedLaws
import Derived.ProofKit
import Derived.OpenShut
import Derived.ShutString
import Derived.ChangeOld
import Derived.Below
namespace Go.Proofs.Ytikhggdigndhoaa.valueMore
open Go.ChangeShapes Go.WideShapes Go.ChangeAt Go.RowKit
open Go.ChangeMaps (open_string shut_string)
set_option linter.unusedVariables false

theorem own : ownKnob Try.prog.godebug = none := by kernel_rfl
theorem laidOut : laidOutB Try.prog = true := by kernel_rfl

set_option maxRecDepth 100000 in
theorem lifted (os : Os) (started : os.Started) (H : Type) (enc : TypeId × Value → H) :
    ReturnsInHanded {} Try.checked os 7 .any (Rows.valueMoreSpec.pre6 enc Try.prog Try.f7 Rows.valueMoreRow.domain false) (Rows.valueMoreSpec.post enc Try.prog Try.f7 false true false false) := by
  refine returnsInHanded_of_change_sized (C := Try.checked) own started (by kernel_rfl) Try.func7
    (ChangeSpec.witness6 (enc := enc) (C := Try.checked) false ⟨#[], #[.slice none 0 0, .string ByteArray.empty], []⟩ 8 (by kernel_rfl) (by kernel_rfl) (by kernel_rfl) (by kernel_rfl)) ?_
  intro W base args ds gs before hval0 hW hcnd hsz _
  have hval : ∀ (j : Nat) t v, Try.f7.params[j]? = some t → args[j]? = some v → Value.okWide Try.prog W .any base t v := hval0
  have hW' := hW
  obtain ⟨p, q, hA0, hV, rfl, hfz, hnd⟩ := hW
  have hA : DataW.TrodAll enc Try.prog W 0 (fun _ => true) true Try.f7.params.toList args.toList ds p := hA0
  rw [Try.params7] at hA hval
  obtain ⟨v0, vs0, d0, ds0, p0, q0, hargs, rfl, rfl, h0, r0⟩ := trodAll_cons hA
  obtain ⟨v1, vs1, d1, ds1, p1, q1, rfl, rfl, rfl, h1, r1⟩ := trodAll_cons r0
  obtain ⟨rfl, rfl, rfl⟩ := trodAll_nil r1
  obtain rfl : args = #[v0, v1] := by cases args; simp_all
  obtain ⟨rfl, rfl⟩ := trodVars_none hV
  obtain ⟨a0, len0, cap0, rfl⟩ := okWide_slice Try.underlying22 (hval 0 22 v0 rfl rfl)
  have k0 := h0
  have lt0 : ∀ x ∈ p0, x.block < W.heap.size := by obtain ⟨m, hm⟩ := k0; exact DataW.trod_lt m _ _ _ hm
  obtain ⟨x0, X0, n0, m0, z0⟩ := (by
    obtain ⟨fuel, hf⟩ := h0
    exact open_strs (show DataW.trod _ _ _ _ _ _ fuel 22 [.slice a0 len0 cap0] = some _ from hf) : ∃ xs : List (List UInt8), StrsAt W (.slice a0 len0 cap0) xs ∧ xs.length ≤ maxLen ∧ (∀ y ∈ xs, y.length ≤ maxLen) ∧ (xs = [] ∨ ∃ el spare, d0 = .slice el spare ∧ ∀ y ∈ xs, (.lit (.string y)) ∈ el))
  have e0 : len0 = x0.length := by obtain ⟨_, _, e⟩ := X0.form; cases e; rfl
  subst e0
  obtain ⟨a1, rfl, rfl, rfl, k1⟩ := open_string Try.underlying9 (hval 1 9 v1 rfl rfl) h1
  clear hA0 hval0
  simp only [List.append_nil] at hW'
  refine (more_walk a0 cap0 x0 a1 W X0 n0 (fun y hy => by rcases z0 with e | ⟨el, sp, e, hm⟩; (· rw [e] at hy; cases hy); exact strs_reach hsz (j := 0) rfl (by rw [e]; rfl) (hm y hy)) (by have h9 := sized_string hsz (j := 1) rfl rfl; have h8 := reachBytes_lt; rw [size_list]; omega)).mono fun e W' ⟨he, bel⟩ => ?_
  subst he
  exact ⟨_, rfl, _, _, _, [], _, [], hW', trodAll_mk1 (shut_bool Try.underlying4 _), (trodAll_cons_mk (Below.trod laidOut (by kernel_rfl) (of_decide_eq_true (by kernel_rfl)) k0 bel lt0) (trodAll_cons_mk (shut_string Try.underlying9 k1) trodAll_mk0)), rfl, bel.frame _, fun h => by cases h⟩

theorem over : Rows.valueMoreRow.holds Try.pinned (OpenSpec.ofChange Rows.valueMoreSpec) :=
  OpenClaim.holds_of_wide 7 Try.f7 rfl rfl rfl rfl rfl rfl rfl ⟨rfl, rfl, rfl, rfl, rfl⟩ rfl rfl rfl rfl rfl (by kernel_rfl) Try.func7 (by kernel_rfl)
    (of_decide_eq_true (by kernel_rfl)) (by unfold Func.isWrapper; first | (rw [if_pos (by decide +kernel)]; kernel_rfl) | (rw [if_neg (by decide +kernel)]; exact ⟨rfl, rfl⟩))
    (fun os started H enc _ => lifted os started H enc)

theorem proved : Rows.ValueMoreSaid := over
end Go.Proofs.Ytikhggdigndhoaa.valueMore
