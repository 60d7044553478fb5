/-
  WALKS: the program's Of: what the map of rules says (layer 10).
-/
import Derived.Test.YtkkgnmohhgcbiaaJ2
namespace Go.Proofs.Ytkkgnmohhgcbiaa
open Go.RowKit Go.Maps

theorem put5 {w W : World} {o0 o1 o2 o3 o4 : Value} {t : TypeId} (hb : Below w.heap.size w W) (h : Bx W w.heap.size #[o0, o1, o2, o3, o4] t) (a0 a1 a2 a3 a4 : Value) :
    Bx (((((W.setCell ⟨w.heap.size, 0, none⟩ a0).setCell ⟨w.heap.size, 1, none⟩ a1).setCell ⟨w.heap.size, 2, none⟩ a2).setCell ⟨w.heap.size, 3, none⟩ a3).setCell ⟨w.heap.size, 4, none⟩ a4) w.heap.size #[a0, a1, a2, a3, a4] t ∧ Below w.heap.size w (((((W.setCell ⟨w.heap.size, 0, none⟩ a0).setCell ⟨w.heap.size, 1, none⟩ a1).setCell ⟨w.heap.size, 2, none⟩ a2).setCell ⟨w.heap.size, 3, none⟩ a3).setCell ⟨w.heap.size, 4, none⟩ a4) :=
  ⟨((((h.put 0 a0).put 1 a1).put 2 a2).put 3 a3).put 4 a4, ((((hb.setCell (p := ⟨w.heap.size, 0, none⟩) (by simp) _).setCell (p := ⟨w.heap.size, 1, none⟩) (by simp) _).setCell (p := ⟨w.heap.size, 2, none⟩) (by simp) _).setCell (p := ⟨w.heap.size, 3, none⟩) (by simp) _).setCell (p := ⟨w.heap.size, 4, none⟩) (by simp) _⟩
theorem cells5 {W : World} {b : Nat} {v0 v1 v2 v3 v4 : Value} {t : TypeId} (h : Bx W b #[v0, v1, v2, v3, v4] t) : W.cell? ⟨b, 0, none⟩ = some v0 ∧ W.cell? ⟨b, 1, none⟩ = some v1 ∧ W.cell? ⟨b, 2, none⟩ = some v2 ∧ W.cell? ⟨b, 3, none⟩ = some v3 ∧ W.cell? ⟨b, 4, none⟩ = some v4 :=
  ⟨h.cell 0 v0 rfl, h.cell 1 v1 rfl, h.cell 2 v2 rfl, h.cell 3 v3 rfl, h.cell 4 v4 rfl⟩
theorem b_then {w W W' : World} (h : Below w.heap.size w W) (b : Below W.heap.size W W') : Below w.heap.size w W' := h.trans (b.mono h.size)
/-- what the map holds of a byte, a rule and whether it is one -/
def zeroV : Value := .agg #[.string ⟨#[]⟩, .string ⟨#[]⟩, .bool false, .string ⟨#[]⟩, .bool false]
theorem zero24 (w : World) : (zeroValue 24).run Try.prog w = .ok zeroV w := by kernel_rfl
theorem look_at {W : World} {b : Nat} (h : W.ownsMap Try.prog 5 selfR b 8 rulesD) (n : Int) (h0 : 0 ≤ n) (h1 : n ≤ 255) (is : Bool) (v : Value) (hh : Maps.has rulesD (.int .u8 n) = is) (hv : rulesD.atKey (.int .u8 n) (.held zeroV) = .held v) :
    (Instr.lookup 34 (.map (some b)) (.int .u8 n) true).run Try.prog W = .ok (.tuple #[v, .bool is]) W := by
  obtain ⟨x, ps, hr, hR⟩ := h.look_ok key5 Try.underlying34 (zero24 W) (zd := .held zeroV) (zp := []) rfl (key_byte n h0 h1)
  have hx : x = v := by
    rw [hv] at hR
    unfold selfR at hR
    have e := Option.some.inj hR
    have e1 := congrArg Prod.fst e
    injection e1
  rw [hr, hh, hx]
theorem lit_ne {a b : Int} (h : a ≠ b) : (Lit.int .u8 a) ≠ .int .u8 b := by intro e; injection e; contradiction
theorem rules_no (n : Int) (h : opZ n.toNat = false) (h0 : 0 ≤ n) : Maps.has rulesD (.int .u8 n) = false := by
  have hn : n ≠ 0 ∧ n ≠ 43 ∧ n ≠ 35 ∧ n ≠ 46 ∧ n ≠ 47 ∧ n ≠ 59 ∧ n ≠ 63 ∧ n ≠ 38 := by
    refine ⟨?_, ?_, ?_, ?_, ?_, ?_, ?_, ?_⟩ <;> rintro rfl <;> exact absurd h (by decide)
  obtain ⟨n0, n1, n2, n3, n4, n5, n6, n7⟩ := hn
  unfold rulesD rowD
  rw [has_put_other (lit_ne n7), has_put_other (lit_ne n6), has_put_other (lit_ne n5), has_put_other (lit_ne n4), has_put_other (lit_ne n3), has_put_other (lit_ne n2), has_put_other (lit_ne n1), has_put_other (lit_ne n0)]
  rfl
theorem look_no {W : World} {b : Nat} (h : W.ownsMap Try.prog 5 selfR b 8 rulesD) (n : Int) (h0 : 0 ≤ n) (h1 : n ≤ 255) (ho : opZ n.toNat = false) :
    (Instr.lookup 34 (.map (some b)) (.int .u8 n) true).run Try.prog W = .ok (.tuple #[.agg #[.string ⟨#[]⟩, .string ⟨#[]⟩, .bool false, .string ⟨#[]⟩, .bool false], .bool false]) W :=
  look_at h n h0 h1 false zeroV (rules_no n ho h0) (atKey_of_not_has (rules_no n ho h0) _)
theorem look_yes {W : World} {b : Nat} (h : W.ownsMap Try.prog 5 selfR b 8 rulesD) (n : Int) (h0 : 0 ≤ n) (ho : opZ n.toNat = true) :
    (Instr.lookup 34 (.map (some b)) (.int .u8 n) true).run Try.prog W = .ok (.tuple #[rlV (rlN n.toNat), .bool true]) W := by
  obtain ⟨k, rfl⟩ : ∃ k : Nat, n = (k : Int) := ⟨n.toNat, by omega⟩
  rw [Int.toNat_natCast] at ho ⊢
  rcases op_cases ho with rfl | rfl | rfl | rfl | rfl | rfl | rfl | rfl
  all_goals exact look_at h _ (by decide) (by decide) true _ (by kernel_rfl) (by kernel_rfl)
set_option maxRecDepth 20000 in
set_option maxHeartbeats 4000000 in
theorem pof_at (n : Int) (FA SA EA : ByteArray) (nd kp is : Bool) (w : World)
    (hl : ∀ (W : World) (b : Nat), W.ownsMap Try.prog 5 selfR b 8 rulesD → (Instr.lookup 34 (.map (some b)) (.int .u8 n) true).run Try.prog W = .ok (.tuple #[.agg #[.string FA, .string SA, .bool nd, .string EA, .bool kp], .bool is]) W) :
    Calls Try.prog 9 #[.int .u8 n] w fun e w' => e = .returned (.tuple #[.agg #[.string FA, .string SA, .bool nd, .string EA, .bool kp], .bool is]) ∧ Below w.heap.size w w' := by
  have B0 := b_alloc w (.cells #[.string ⟨#[]⟩, .string ⟨#[]⟩, .bool false, .string ⟨#[]⟩, .bool false] 24)
  have X0 := Bx.made w #[.string ⟨#[]⟩, .string ⟨#[]⟩, .bool false, .string ⟨#[]⟩, .bool false] 24
  go_enter Try.func9, Try.ntmps9
  go_wp2_with (go_at_call 13; refine (rules_any _).mono ?_; rintro e w1 ⟨b, rfl, hm, bb⟩; have hlk := hl w1 b hm; clear hm; replace B0 := b_more (b_then B0 bb) (.cells #[.string FA, .string SA, .bool nd, .string EA, .bool kp] 24); replace X0 := (X0.next bb).later (.cells #[.string FA, .string SA, .bool nd, .string EA, .bool kp] 24); obtain ⟨x0, x1, x2, x3, x4⟩ := cells5 X0; have f0 := X0.free 0; have f1 := X0.free 1; have f2 := X0.free 2; have f3 := X0.free 3; have f4 := X0.free 4; have r := put5 B0 X0 (.string FA) (.string SA) (.bool nd) (.string EA) (.bool kp))
  exact bodyPost_ret (v := .tuple #[.agg #[.string FA, .string SA, .bool nd, .string EA, .bool kp], .bool is]) (ret_cell_tmp Try.results9 _ _ rfl r.1 Try.underlying24 rfl (by kernel_rfl)) rfl ⟨rfl, r.2⟩
theorem pof_no (n : Int) (w : World) (h0 : 0 ≤ n) (h1 : n ≤ 255) (h : opZ n.toNat = false) : Calls Try.prog 9 #[.int .u8 n] w fun e w' => e = .returned (.tuple #[.agg #[.string ⟨#[]⟩, .string ⟨#[]⟩, .bool false, .string ⟨#[]⟩, .bool false], .bool false]) ∧ Below w.heap.size w w' :=
  pof_at n _ _ _ _ _ _ w (fun _ _ hm => look_no hm n h0 h1 h)
theorem pof_yes (n : Int) (FA SA EA : ByteArray) (nd kp : Bool) (w : World) (h0 : 0 ≤ n) (h : opZ n.toNat = true) (hr : rlV (rlN n.toNat) = .agg #[.string FA, .string SA, .bool nd, .string EA, .bool kp]) : Calls Try.prog 9 #[.int .u8 n] w fun e w' => e = .returned (.tuple #[.agg #[.string FA, .string SA, .bool nd, .string EA, .bool kp], .bool true]) ∧ Below w.heap.size w w' :=
  pof_at n _ _ _ _ _ _ w (fun _ _ hm => by rw [← hr]; exact look_yes hm n h0 h)
end Go.Proofs.Ytkkgnmohhgcbiaa
