/-
  WALKS: the program's rules: a map of all operators' rules, and what is looked up there (layer 10).
-/
import Derived.Test.YtkkgnmohhgcbiaaR1
import Derived.Maps.OwnSet
namespace Go.Proofs.Ytkkgnmohhgcbiaa
open Go.RowKit Go.Maps

/-- a map's store where the map is written out: as any store -/
theorem wpList_insert_own {H : Type} {P : Program} (w : World) {ops : Array Oper} {rest : List Oper} {o : Oper} {a : Act} {Q : Exit → Act → World → Prop}
    (hg : o.guard = none) (m x v : Operand) (t : TypeId) (hop : o.op = Op.insert t m x v)
    (k e : TypeId) (K : Keyed P k) (ht : P.underlying t = some (.map k e)) (R : Value → Option (DataW H × List MemPlace)) (b n : Nat) (D : DataW H)
    (hm : a.eval m = .map (some b)) (hown : w.ownsMap P k R b n D) (hn : n < maxLen) (key val : Value) (kl : Lit) (hx : a.eval x = key) (hv : a.eval v = val) (hkey : keyOf P k key = some kl)
    (d : DataW H) (ps : List MemPlace) (hval : R val = some (d, ps))
    (hK : ∀ w', w'.ownsMap P k R b (n + 1) (D.put kl d) → w.grownBy w' (some b) → wpList P ops Q rest (a.put o.dst undef) w') :
    wpList P ops Q (o :: rest) a w := by
  refine wpList_plain hg fun K' hK' => ?_
  obtain ⟨w', hrun, r1, r2⟩ := hown.update K ht hn hkey hval
  unfold Oper.wp
  simp [execOp, hop, hm, hx, hv, hrun, Result.andThen]
  exact hK' _ _ (hK w' r1 r2)
/-- an element reads as itself -/
def selfR (v : Value) : Option (DataW Value × List MemPlace) := some (.held v, [])
theorem key5 : Keyed Try.prog 5 := int_keyed Try.underlying5
theorem key_byte (n : Int) (h0 : 0 ≤ n) (h1 : n ≤ 255) : keyOf Try.prog 5 (.int .u8 n) = some (.int .u8 n) := keyOf_int_mk Try.underlying5 (WalkArith.wf_u8 ⟨h0, h1⟩)
def rowD (D : DataW Value) (n : Int) (f s : ByteArray) (nd : Bool) (e : ByteArray) (kp : Bool) : DataW Value := D.put (.int .u8 n) (.held (.agg #[.string f, .string s, .bool nd, .string e, .bool kp]))
def rulesD : DataW Value :=
  rowD (rowD (rowD (rowD (rowD (rowD (rowD (rowD (.map []) 0 ⟨#[]⟩ ⟨#[44]⟩ false ⟨#[]⟩ false) 43 ⟨#[]⟩ ⟨#[44]⟩ false ⟨#[]⟩ true) 35 ⟨#[35]⟩ ⟨#[44]⟩ false ⟨#[]⟩ true) 46 ⟨#[46]⟩ ⟨#[46]⟩ false ⟨#[]⟩ false) 47 ⟨#[47]⟩ ⟨#[47]⟩ false ⟨#[]⟩ false)
    59 ⟨#[59]⟩ ⟨#[59]⟩ true ⟨#[]⟩ false) 63 ⟨#[63]⟩ ⟨#[38]⟩ true ⟨#[61]⟩ false) 38 ⟨#[38]⟩ ⟨#[38]⟩ true ⟨#[61]⟩ false
/-- the map while it is written -/
structure Mp (w W : World) (n : Nat) (D : DataW Value) : Prop where
  bel : Below w.heap.size w W
  map : W.ownsMap Try.prog 5 selfR w.heap.size n D
theorem Mp.put {w W W' : World} {n : Nat} {D D' : DataW Value} (h : Mp w W n D) (hm : W'.ownsMap Try.prog 5 selfR w.heap.size (n + 1) D') (hg : W.grownBy W' (some w.heap.size)) : Mp w W' (n + 1) D' :=
  ⟨h.bel.grown hg h.bel.size (fun j hj => by cases hj; exact Nat.le_refl _), hm⟩
set_option maxRecDepth 20000 in
set_option maxHeartbeats 4000000 in
theorem rules_any (w : World) : Calls Try.prog 13 #[] w fun e w' => ∃ b, e = .returned (.map (some b)) ∧ w'.ownsMap Try.prog 5 selfR b 8 rulesD ∧ Below w.heap.size w w' := by
  have hmm := @run_makeMap Try.prog
  have M : Mp w (w.alloc (.map #[] 0)) 0 (.map []) := ⟨b_alloc w _, World.ownsMap_made _ _ _ _⟩
  go_enter Try.func13, Try.ntmps13
  go_wp2_with (first
    | (refine wpList_insert_own _ rfl _ _ _ 34 rfl 5 24 key5 Try.underlying34 selfR _ _ _ rfl M.map (by unfold maxLen; omega) _ _ _ rfl rfl (key_byte _ (by decide) (by decide)) _ [] rfl ?_; intro w1 hm hg; replace M := M.put hm hg; clear hm hg)
    | go_in)
  go_ret
  exact ⟨_, rfl, M.map, M.bel⟩
end Go.Proofs.Ytkkgnmohhgcbiaa
