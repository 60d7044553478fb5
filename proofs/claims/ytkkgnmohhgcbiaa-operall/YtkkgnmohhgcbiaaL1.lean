/-
  WALKS: rules compared; what keeps the laws awake; the laws of one rule (layer 10).
-/
import Derived.Test.YtkkgnmohhgcbiaaJ4
import Derived.Laws.StructEq
namespace Go.Proofs.Ytkkgnmohhgcbiaa
open Go.RowKit

theorem fields24 : Try.prog.underlying 24 = some (.struct (Try.prog.fieldsOf 24)) := by
  unfold Program.fieldsOf; rw [Try.underlying24]
theorem held24 : Try.prog.stoodInHeld 24 = false := by kernel_rfl
theorem guard24 : Try.prog.eqGuardType Try.prog.depth 24 = false := by kernel_rfl
theorem eq24 (a a' b b' c c' : ByteArray) (m m' s s' : Bool) (w : World) : (Op.equalIn 10000 24 (.agg #[.string a, .string b, .bool m, .string c, .bool s]) (.agg #[.string a', .string b', .bool m', .string c', .bool s'])).run Try.prog w = .ok (a.toList == a'.toList && b.toList == b'.toList && m == m' && c.toList == c'.toList && s == s') w := by
  rw [show (10000 : Nat) = 9999 + 1 from rfl, run_equalIn_struct w 9999 24 _ _ fields24 held24]
  unfold Program.fieldsOf
  rw [Try.underlying24]
  go_simp
  by_cases h1 : a.toList = a'.toList <;> by_cases h2 : b.toList = b'.toList <;> by_cases h3 : m = m' <;> by_cases h4 : c.toList = c'.toList <;> by_cases h5 : s = s' <;> simp [h1, h2, h3, h4, h5]
theorem eq24_is (a a' b b' c c' : ByteArray) (m m' s s' r : Bool) (h : (a.toList == a'.toList && b.toList == b'.toList && m == m' && c.toList == c'.toList && s == s') = r) (w : World) : (Op.equalIn 10000 24 (.agg #[.string a, .string b, .bool m, .string c, .bool s]) (.agg #[.string a', .string b', .bool m', .string c', .bool s'])).run Try.prog w = .ok r w := by
  rw [eq24, h]
theorem eq24_same (a b c : ByteArray) (m s : Bool) (w : World) : (Op.equalIn 10000 24 (.agg #[.string a, .string b, .bool m, .string c, .bool s]) (.agg #[.string a, .string b, .bool m, .string c, .bool s])).run Try.prog w = .ok true w :=
  eq24_is _ _ _ _ _ _ _ _ _ _ _ (by simp) w
theorem fields27 : Try.prog.underlying 27 = some (.struct (Try.prog.fieldsOf 27)) := by
  unfold Program.fieldsOf; rw [Try.underlying27]
theorem held27 : Try.prog.stoodInHeld 27 = false := by kernel_rfl
theorem guard27 : Try.prog.eqGuardType Try.prog.depth 27 = false := by kernel_rfl
theorem eq27 (a a' b b' c c' : ByteArray) (m m' s s' : Bool) (w : World) : (Op.equalIn 10000 27 (.agg #[.string a, .string b, .bool m, .string c, .bool s]) (.agg #[.string a', .string b', .bool m', .string c', .bool s'])).run Try.prog w = .ok (a.toList == a'.toList && b.toList == b'.toList && m == m' && c.toList == c'.toList && s == s') w := by
  rw [show (10000 : Nat) = 9999 + 1 from rfl, run_equalIn_struct w 9999 27 _ _ fields27 held27]
  unfold Program.fieldsOf
  rw [Try.underlying27]
  go_simp
  by_cases h1 : a.toList = a'.toList <;> by_cases h2 : b.toList = b'.toList <;> by_cases h3 : m = m' <;> by_cases h4 : c.toList = c'.toList <;> by_cases h5 : s = s' <;> simp [h1, h2, h3, h4, h5]
theorem eq27_is (a a' b b' c c' : ByteArray) (m m' s s' r : Bool) (h : (a.toList == a'.toList && b.toList == b'.toList && m == m' && c.toList == c'.toList && s == s') = r) (w : World) : (Op.equalIn 10000 27 (.agg #[.string a, .string b, .bool m, .string c, .bool s]) (.agg #[.string a', .string b', .bool m', .string c', .bool s'])).run Try.prog w = .ok r w := by
  rw [eq27, h]
theorem eq27_same (a b c : ByteArray) (m s : Bool) (w : World) : (Op.equalIn 10000 27 (.agg #[.string a, .string b, .bool m, .string c, .bool s]) (.agg #[.string a, .string b, .bool m, .string c, .bool s])).run Try.prog w = .ok true w :=
  eq27_is _ _ _ _ _ _ _ _ _ _ _ (by simp) w
set_option maxRecDepth 20000 in
set_option maxHeartbeats 4000000 in
theorem awake_any (w : World) : Calls Try.prog 8 #[] w fun e w' => e = .returned (.bool true) ∧ Below w.heap.size w w' := by
  have B := Below.refl w.heap.size w
  have he := eq24_same
  have hg := guard24
  have T0 : Hid True := trivial
  have T1 : Hid True := trivial
  go_enter Try.func8, Try.ntmps8
  go_wp2_with (first
    | (go_at_call 9; have z := T0; refine (pof_yes 63 ⟨#[63]⟩ ⟨#[38]⟩ ⟨#[61]⟩ true false _ (by decide) (by decide) rfl).mono ?_; rintro e w2 ⟨rfl, bb⟩; replace B := b_more (b_then B bb) (.cells #[.string ⟨#[63]⟩, .string ⟨#[38]⟩, .bool true, .string ⟨#[61]⟩, .bool false] 24); have X := Bx.made w2 #[.string ⟨#[63]⟩, .string ⟨#[38]⟩, .bool true, .string ⟨#[61]⟩, .bool false] 24; obtain ⟨c0, c1, c2, c3, c4⟩ := cells5 X; clear bb z T0)
    | (go_at_call 9; have z := T1; refine (pof_no 33 _ (by decide) (by decide) (by decide)).mono ?_; rintro e w3 ⟨rfl, bb⟩; replace B := b_more (b_then B bb) (.cells #[.string ⟨#[]⟩, .string ⟨#[]⟩, .bool false, .string ⟨#[]⟩, .bool false] 24); replace X := (X.next bb).later (.cells #[.string ⟨#[]⟩, .string ⟨#[]⟩, .bool false, .string ⟨#[]⟩, .bool false] 24); have Y := Bx.made w3 #[.string ⟨#[]⟩, .string ⟨#[]⟩, .bool false, .string ⟨#[]⟩, .bool false] 24; obtain ⟨c0, c1, c2, c3, c4⟩ := cells5 X; obtain ⟨d0, d1, d2, d3, d4⟩ := cells5 Y; clear bb z T1)
    | (go_at_call 11; refine (all_any _).mono ?_; rintro e w4 ⟨g, cap, rfl, h8, bb⟩; replace B := b_then B bb; clear h8 bb))
  go_ret
  exact ⟨rfl, B⟩
set_option maxRecDepth 20000 in
set_option maxHeartbeats 4000000 in
theorem tells_no (n : Int) (w : World) (h0 : 0 ≤ n) (h1 : n ≤ 255) (ho : opZ n.toNat = false) : Calls Try.prog 3 #[.int .u8 n] w fun e w' => e = .returned (.bool true) ∧ Below w.heap.size w w' := by
  have he := eq27_same
  have hg := guard27
  go_enter Try.func3, Try.ntmps3
  go_wp2_with (first
    | (go_at_call 8; refine (awake_any _).mono ?_; rintro e w1 ⟨rfl, bb⟩; have B := bb; clear bb)
    | (go_at_call 9; refine (pof_no n _ h0 h1 ho).mono ?_; rintro e w2 ⟨rfl, bb⟩; replace B := b_more (b_then B bb) (.cells #[.string ⟨#[]⟩, .string ⟨#[]⟩, .bool false, .string ⟨#[]⟩, .bool false] 24); have X := Bx.made w2 #[.string ⟨#[]⟩, .string ⟨#[]⟩, .bool false, .string ⟨#[]⟩, .bool false] 24; obtain ⟨c0, c1, c2, c3, c4⟩ := cells5 X; clear bb)
    | (go_at_call 10; refine (rule_no n _ h0 h1 ho).mono ?_; rintro e w3 ⟨rfl, bb⟩; replace B := b_more (b_then B bb) (.cells #[.string ⟨#[]⟩, .string ⟨#[]⟩, .bool false, .string ⟨#[]⟩, .bool false] 27); replace X := (X.next bb).later (.cells #[.string ⟨#[]⟩, .string ⟨#[]⟩, .bool false, .string ⟨#[]⟩, .bool false] 27); have Y := Bx.made w3 #[.string ⟨#[]⟩, .string ⟨#[]⟩, .bool false, .string ⟨#[]⟩, .bool false] 27; obtain ⟨c0, c1, c2, c3, c4⟩ := cells5 X; obtain ⟨d0, d1, d2, d3, d4⟩ := cells5 Y; clear bb))
  go_ret
  exact ⟨rfl, B⟩
set_option maxRecDepth 20000 in
set_option maxHeartbeats 4000000 in
theorem rule_at (n : Int) (FA SA EA : ByteArray) (nd kp : Bool) (w : World) (h0 : 0 ≤ n) (ho : opZ n.toNat = true) (hr : rlV (rlN n.toNat) = .agg #[.string FA, .string SA, .bool nd, .string EA, .bool kp]) :
    Calls Try.prog 10 #[.int .u8 n] w fun e w' => e = .returned (.tuple #[.agg #[.string FA, .string SA, .bool nd, .string EA, .bool kp], .bool true]) ∧ Below w.heap.size w w' := by
  have := rule_yes n w h0 ho
  rwa [hr] at this
set_option maxRecDepth 20000 in
set_option maxHeartbeats 4000000 in
theorem tells_yes (n : Int) (FA SA EA : ByteArray) (nd kp : Bool) (w : World) (h0 : 0 ≤ n) (ho : opZ n.toNat = true) (Hr : Hid (rlV (rlN n.toNat) = .agg #[.string FA, .string SA, .bool nd, .string EA, .bool kp])) : Calls Try.prog 3 #[.int .u8 n] w fun e w' => e = .returned (.bool true) ∧ Below w.heap.size w w' := by
  have he := eq27_same
  have hg := guard27
  go_enter Try.func3, Try.ntmps3
  go_wp2_with (first
    | (go_at_call 8; refine (awake_any _).mono ?_; rintro e w1 ⟨rfl, bb⟩; have B := bb; clear bb)
    | (go_at_call 9; refine (pof_yes n FA SA EA nd kp _ h0 ho Hr.out).mono ?_; rintro e w2 ⟨rfl, bb⟩; replace B := b_more (b_then B bb) (.cells #[.string FA, .string SA, .bool nd, .string EA, .bool kp] 24); have X := Bx.made w2 #[.string FA, .string SA, .bool nd, .string EA, .bool kp] 24; obtain ⟨c0, c1, c2, c3, c4⟩ := cells5 X; clear bb)
    | (go_at_call 10; refine (rule_at n FA SA EA nd kp _ h0 ho Hr.out).mono ?_; rintro e w3 ⟨rfl, bb⟩; replace B := b_more (b_then B bb) (.cells #[.string FA, .string SA, .bool nd, .string EA, .bool kp] 27); replace X := (X.next bb).later (.cells #[.string FA, .string SA, .bool nd, .string EA, .bool kp] 27); have Y := Bx.made w3 #[.string FA, .string SA, .bool nd, .string EA, .bool kp] 27; obtain ⟨c0, c1, c2, c3, c4⟩ := cells5 X; obtain ⟨d0, d1, d2, d3, d4⟩ := cells5 Y; clear bb))
  go_ret
  exact ⟨rfl, B⟩
theorem tells_walk (n : Int) (w : World) (h0 : 0 ≤ n) (h1 : n ≤ 255) : Calls Try.prog 3 #[.int .u8 n] w fun e w' => e = .returned (.bool true) ∧ Below w.heap.size w w' := by
  cases ho : opZ n.toNat with
  | false => exact tells_no n w h0 h1 ho
  | true => exact tells_yes n _ _ _ _ _ w h0 ho rfl
set_option maxRecDepth 20000 in
set_option maxHeartbeats 4000000 in
theorem self_no (n : Int) (w : World) (h0 : 0 ≤ n) (h1 : n ≤ 255) (ho : opZ n.toNat = false) : Calls Try.prog 6 #[.int .u8 n] w fun e w' => e = .returned (.bool true) ∧ Below w.heap.size w w' := by
  have hn : n ≠ 0 ∧ n ≠ 43 ∧ n ≠ 35 ∧ n ≠ 46 ∧ n ≠ 47 ∧ n ≠ 59 ∧ n ≠ 63 ∧ n ≠ 38 := by
    refine ⟨?_, ?_, ?_, ?_, ?_, ?_, ?_, ?_⟩ <;> rintro rfl <;> exact absurd ho (by decide)
  obtain ⟨n0, n1, n2, n3, n4, n5, n6, n7⟩ := hn
  have e0 : (n == 0) = false := by simpa using n0
  have e1 : (n == 43) = false := by simpa using n1
  have e2 : (n == 35) = false := by simpa using n2
  have e3 : (n == 46) = false := by simpa using n3
  have e4 : (n == 47) = false := by simpa using n4
  have e5 : (n == 59) = false := by simpa using n5
  have e6 : (n == 63) = false := by simpa using n6
  have e7 : (n == 38) = false := by simpa using n7
  have Ho := hide ho
  clear ho n0 n1 n2 n3 n4 n5 n6 n7
  go_enter Try.func6, Try.ntmps6
  go_wp2_with (first
    | (go_at_call 8; refine (awake_any _).mono ?_; rintro e w1 ⟨rfl, bb⟩; have B := bb; clear bb)
    | (go_at_call 9; refine (pof_no n _ h0 h1 Ho.out).mono ?_; rintro e w2 ⟨rfl, bb⟩; replace B := b_more (b_then B bb) (.cells #[.string ⟨#[]⟩, .string ⟨#[]⟩, .bool false, .string ⟨#[]⟩, .bool false] 24); have X := Bx.made w2 #[.string ⟨#[]⟩, .string ⟨#[]⟩, .bool false, .string ⟨#[]⟩, .bool false] 24; obtain ⟨c0, c1, c2, c3, c4⟩ := cells5 X; clear bb))
  go_ret
  exact ⟨rfl, B⟩
set_option maxRecDepth 20000 in
set_option maxHeartbeats 4000000 in
theorem self_0 (w : World) : Calls Try.prog 6 #[.int .u8 0] w fun e w' => e = .returned (.bool true) ∧ Below w.heap.size w w' := by
  have hc := conv_at 0 (by decide) (by decide)
  go_enter Try.func6, Try.ntmps6
  go_wp2_with (first
    | (go_at_call 8; refine (awake_any _).mono ?_; rintro e w1 ⟨rfl, bb⟩; have B := bb; clear bb)
    | (go_at_call 9; refine (pof_yes 0 ⟨#[]⟩ ⟨#[44]⟩ ⟨#[]⟩ false false _ (by decide) (by decide) rfl).mono ?_; rintro e w2 ⟨rfl, bb⟩; replace B := b_more (b_then B bb) (.cells #[.string ⟨#[]⟩, .string ⟨#[44]⟩, .bool false, .string ⟨#[]⟩, .bool false] 24); have X := Bx.made w2 #[.string ⟨#[]⟩, .string ⟨#[44]⟩, .bool false, .string ⟨#[]⟩, .bool false] 24; obtain ⟨c0, c1, c2, c3, c4⟩ := cells5 X; clear bb))
  go_ret
  exact ⟨rfl, b_more B _⟩
set_option maxRecDepth 20000 in
set_option maxHeartbeats 4000000 in
theorem self_43 (w : World) : Calls Try.prog 6 #[.int .u8 43] w fun e w' => e = .returned (.bool true) ∧ Below w.heap.size w w' := by
  have hc := conv_at 43 (by decide) (by decide)
  go_enter Try.func6, Try.ntmps6
  go_wp2_with (first
    | (go_at_call 8; refine (awake_any _).mono ?_; rintro e w1 ⟨rfl, bb⟩; have B := bb; clear bb)
    | (go_at_call 9; refine (pof_yes 43 ⟨#[]⟩ ⟨#[44]⟩ ⟨#[]⟩ false true _ (by decide) (by decide) rfl).mono ?_; rintro e w2 ⟨rfl, bb⟩; replace B := b_more (b_then B bb) (.cells #[.string ⟨#[]⟩, .string ⟨#[44]⟩, .bool false, .string ⟨#[]⟩, .bool true] 24); have X := Bx.made w2 #[.string ⟨#[]⟩, .string ⟨#[44]⟩, .bool false, .string ⟨#[]⟩, .bool true] 24; obtain ⟨c0, c1, c2, c3, c4⟩ := cells5 X; clear bb))
  go_ret
  exact ⟨rfl, b_more B _⟩
set_option maxRecDepth 20000 in
set_option maxHeartbeats 4000000 in
theorem self_35 (w : World) : Calls Try.prog 6 #[.int .u8 35] w fun e w' => e = .returned (.bool true) ∧ Below w.heap.size w w' := by
  have hc := conv_at 35 (by decide) (by decide)
  go_enter Try.func6, Try.ntmps6
  go_wp2_with (first
    | (go_at_call 8; refine (awake_any _).mono ?_; rintro e w1 ⟨rfl, bb⟩; have B := bb; clear bb)
    | (go_at_call 9; refine (pof_yes 35 ⟨#[35]⟩ ⟨#[44]⟩ ⟨#[]⟩ false true _ (by decide) (by decide) rfl).mono ?_; rintro e w2 ⟨rfl, bb⟩; replace B := b_more (b_then B bb) (.cells #[.string ⟨#[35]⟩, .string ⟨#[44]⟩, .bool false, .string ⟨#[]⟩, .bool true] 24); have X := Bx.made w2 #[.string ⟨#[35]⟩, .string ⟨#[44]⟩, .bool false, .string ⟨#[]⟩, .bool true] 24; obtain ⟨c0, c1, c2, c3, c4⟩ := cells5 X; clear bb))
  go_ret
  exact ⟨rfl, b_more B _⟩
set_option maxRecDepth 20000 in
set_option maxHeartbeats 4000000 in
theorem self_46 (w : World) : Calls Try.prog 6 #[.int .u8 46] w fun e w' => e = .returned (.bool true) ∧ Below w.heap.size w w' := by
  have hc := conv_at 46 (by decide) (by decide)
  go_enter Try.func6, Try.ntmps6
  go_wp2_with (first
    | (go_at_call 8; refine (awake_any _).mono ?_; rintro e w1 ⟨rfl, bb⟩; have B := bb; clear bb)
    | (go_at_call 9; refine (pof_yes 46 ⟨#[46]⟩ ⟨#[46]⟩ ⟨#[]⟩ false false _ (by decide) (by decide) rfl).mono ?_; rintro e w2 ⟨rfl, bb⟩; replace B := b_more (b_then B bb) (.cells #[.string ⟨#[46]⟩, .string ⟨#[46]⟩, .bool false, .string ⟨#[]⟩, .bool false] 24); have X := Bx.made w2 #[.string ⟨#[46]⟩, .string ⟨#[46]⟩, .bool false, .string ⟨#[]⟩, .bool false] 24; obtain ⟨c0, c1, c2, c3, c4⟩ := cells5 X; clear bb))
  go_ret
  exact ⟨rfl, b_more B _⟩
set_option maxRecDepth 20000 in
set_option maxHeartbeats 4000000 in
theorem self_47 (w : World) : Calls Try.prog 6 #[.int .u8 47] w fun e w' => e = .returned (.bool true) ∧ Below w.heap.size w w' := by
  have hc := conv_at 47 (by decide) (by decide)
  go_enter Try.func6, Try.ntmps6
  go_wp2_with (first
    | (go_at_call 8; refine (awake_any _).mono ?_; rintro e w1 ⟨rfl, bb⟩; have B := bb; clear bb)
    | (go_at_call 9; refine (pof_yes 47 ⟨#[47]⟩ ⟨#[47]⟩ ⟨#[]⟩ false false _ (by decide) (by decide) rfl).mono ?_; rintro e w2 ⟨rfl, bb⟩; replace B := b_more (b_then B bb) (.cells #[.string ⟨#[47]⟩, .string ⟨#[47]⟩, .bool false, .string ⟨#[]⟩, .bool false] 24); have X := Bx.made w2 #[.string ⟨#[47]⟩, .string ⟨#[47]⟩, .bool false, .string ⟨#[]⟩, .bool false] 24; obtain ⟨c0, c1, c2, c3, c4⟩ := cells5 X; clear bb))
  go_ret
  exact ⟨rfl, b_more B _⟩
set_option maxRecDepth 20000 in
set_option maxHeartbeats 4000000 in
theorem self_59 (w : World) : Calls Try.prog 6 #[.int .u8 59] w fun e w' => e = .returned (.bool true) ∧ Below w.heap.size w w' := by
  have hc := conv_at 59 (by decide) (by decide)
  go_enter Try.func6, Try.ntmps6
  go_wp2_with (first
    | (go_at_call 8; refine (awake_any _).mono ?_; rintro e w1 ⟨rfl, bb⟩; have B := bb; clear bb)
    | (go_at_call 9; refine (pof_yes 59 ⟨#[59]⟩ ⟨#[59]⟩ ⟨#[]⟩ true false _ (by decide) (by decide) rfl).mono ?_; rintro e w2 ⟨rfl, bb⟩; replace B := b_more (b_then B bb) (.cells #[.string ⟨#[59]⟩, .string ⟨#[59]⟩, .bool true, .string ⟨#[]⟩, .bool false] 24); have X := Bx.made w2 #[.string ⟨#[59]⟩, .string ⟨#[59]⟩, .bool true, .string ⟨#[]⟩, .bool false] 24; obtain ⟨c0, c1, c2, c3, c4⟩ := cells5 X; clear bb))
  go_ret
  exact ⟨rfl, b_more B _⟩
set_option maxRecDepth 20000 in
set_option maxHeartbeats 4000000 in
theorem self_63 (w : World) : Calls Try.prog 6 #[.int .u8 63] w fun e w' => e = .returned (.bool true) ∧ Below w.heap.size w w' := by
  have hc := conv_at 63 (by decide) (by decide)
  go_enter Try.func6, Try.ntmps6
  go_wp2_with (first
    | (go_at_call 8; refine (awake_any _).mono ?_; rintro e w1 ⟨rfl, bb⟩; have B := bb; clear bb)
    | (go_at_call 9; refine (pof_yes 63 ⟨#[63]⟩ ⟨#[38]⟩ ⟨#[61]⟩ true false _ (by decide) (by decide) rfl).mono ?_; rintro e w2 ⟨rfl, bb⟩; replace B := b_more (b_then B bb) (.cells #[.string ⟨#[63]⟩, .string ⟨#[38]⟩, .bool true, .string ⟨#[61]⟩, .bool false] 24); have X := Bx.made w2 #[.string ⟨#[63]⟩, .string ⟨#[38]⟩, .bool true, .string ⟨#[61]⟩, .bool false] 24; obtain ⟨c0, c1, c2, c3, c4⟩ := cells5 X; clear bb))
  go_ret
  exact ⟨rfl, b_more B _⟩
set_option maxRecDepth 20000 in
set_option maxHeartbeats 4000000 in
theorem self_38 (w : World) : Calls Try.prog 6 #[.int .u8 38] w fun e w' => e = .returned (.bool true) ∧ Below w.heap.size w w' := by
  have hc := conv_at 38 (by decide) (by decide)
  go_enter Try.func6, Try.ntmps6
  go_wp2_with (first
    | (go_at_call 8; refine (awake_any _).mono ?_; rintro e w1 ⟨rfl, bb⟩; have B := bb; clear bb)
    | (go_at_call 9; refine (pof_yes 38 ⟨#[38]⟩ ⟨#[38]⟩ ⟨#[61]⟩ true false _ (by decide) (by decide) rfl).mono ?_; rintro e w2 ⟨rfl, bb⟩; replace B := b_more (b_then B bb) (.cells #[.string ⟨#[38]⟩, .string ⟨#[38]⟩, .bool true, .string ⟨#[61]⟩, .bool false] 24); have X := Bx.made w2 #[.string ⟨#[38]⟩, .string ⟨#[38]⟩, .bool true, .string ⟨#[61]⟩, .bool false] 24; obtain ⟨c0, c1, c2, c3, c4⟩ := cells5 X; clear bb))
  go_ret
  exact ⟨rfl, b_more B _⟩
theorem self_walk (n : Int) (w : World) (h0 : 0 ≤ n) (h1 : n ≤ 255) : Calls Try.prog 6 #[.int .u8 n] w fun e w' => e = .returned (.bool true) ∧ Below w.heap.size w w' := by
  cases ho : opZ n.toNat with
  | false => exact self_no n w h0 h1 ho
  | true =>
    obtain ⟨k, rfl⟩ : ∃ k : Nat, n = (k : Int) := ⟨n.toNat, by omega⟩
    rw [Int.toNat_natCast] at ho
    rcases op_cases ho with rfl | rfl | rfl | rfl | rfl | rfl | rfl | rfl
    · exact self_0 w
    · exact self_43 w
    · exact self_35 w
    · exact self_46 w
    · exact self_47 w
    · exact self_59 w
    · exact self_63 w
    · exact self_38 w
set_option maxRecDepth 20000 in
set_option maxHeartbeats 4000000 in
theorem keep_no (n : Int) (w : World) (h0 : 0 ≤ n) (h1 : n ≤ 255) (ho : opZ n.toNat = false) : Calls Try.prog 7 #[.int .u8 n] w fun e w' => e = .returned (.bool true) ∧ Below w.heap.size w w' := by
  have hn : n ≠ 0 ∧ n ≠ 43 ∧ n ≠ 35 ∧ n ≠ 46 ∧ n ≠ 47 ∧ n ≠ 59 ∧ n ≠ 63 ∧ n ≠ 38 := by
    refine ⟨?_, ?_, ?_, ?_, ?_, ?_, ?_, ?_⟩ <;> rintro rfl <;> exact absurd ho (by decide)
  obtain ⟨n0, n1, n2, n3, n4, n5, n6, n7⟩ := hn
  have e0 : (n == 0) = false := by simpa using n0
  have e1 : (n == 43) = false := by simpa using n1
  have e2 : (n == 35) = false := by simpa using n2
  have e3 : (n == 46) = false := by simpa using n3
  have e4 : (n == 47) = false := by simpa using n4
  have e5 : (n == 59) = false := by simpa using n5
  have e6 : (n == 63) = false := by simpa using n6
  have e7 : (n == 38) = false := by simpa using n7
  have Ho := hide ho
  clear ho n0 n1 n2 n3 n4 n5 n6 n7
  go_enter Try.func7, Try.ntmps7
  go_wp2_with (first
    | (go_at_call 8; refine (awake_any _).mono ?_; rintro e w1 ⟨rfl, bb⟩; have B := bb; clear bb)
    | (go_at_call 9; refine (pof_no n _ h0 h1 Ho.out).mono ?_; rintro e w2 ⟨rfl, bb⟩; replace B := b_more (b_then B bb) (.cells #[.string ⟨#[]⟩, .string ⟨#[]⟩, .bool false, .string ⟨#[]⟩, .bool false] 24); have X := Bx.made w2 #[.string ⟨#[]⟩, .string ⟨#[]⟩, .bool false, .string ⟨#[]⟩, .bool false] 24; obtain ⟨c0, c1, c2, c3, c4⟩ := cells5 X; clear bb))
  go_ret
  exact ⟨rfl, B⟩
set_option maxRecDepth 20000 in
set_option maxHeartbeats 4000000 in
theorem keep_0 (w : World) : Calls Try.prog 7 #[.int .u8 0] w fun e w' => e = .returned (.bool true) ∧ Below w.heap.size w w' := by
  have hc := conv_at 0 (by decide) (by decide)
  go_enter Try.func7, Try.ntmps7
  go_wp2_with (first
    | (go_at_call 8; refine (awake_any _).mono ?_; rintro e w1 ⟨rfl, bb⟩; have B := bb; clear bb)
    | (go_at_call 9; refine (pof_yes 0 ⟨#[]⟩ ⟨#[44]⟩ ⟨#[]⟩ false false _ (by decide) (by decide) rfl).mono ?_; rintro e w2 ⟨rfl, bb⟩; replace B := b_more (b_then B bb) (.cells #[.string ⟨#[]⟩, .string ⟨#[44]⟩, .bool false, .string ⟨#[]⟩, .bool false] 24); have X := Bx.made w2 #[.string ⟨#[]⟩, .string ⟨#[44]⟩, .bool false, .string ⟨#[]⟩, .bool false] 24; obtain ⟨c0, c1, c2, c3, c4⟩ := cells5 X; clear bb))
  go_ret
  exact ⟨rfl, B⟩
set_option maxRecDepth 20000 in
set_option maxHeartbeats 4000000 in
theorem keep_43 (w : World) : Calls Try.prog 7 #[.int .u8 43] w fun e w' => e = .returned (.bool true) ∧ Below w.heap.size w w' := by
  have hc := conv_at 43 (by decide) (by decide)
  go_enter Try.func7, Try.ntmps7
  go_wp2_with (first
    | (go_at_call 8; refine (awake_any _).mono ?_; rintro e w1 ⟨rfl, bb⟩; have B := bb; clear bb)
    | (go_at_call 9; refine (pof_yes 43 ⟨#[]⟩ ⟨#[44]⟩ ⟨#[]⟩ false true _ (by decide) (by decide) rfl).mono ?_; rintro e w2 ⟨rfl, bb⟩; replace B := b_more (b_then B bb) (.cells #[.string ⟨#[]⟩, .string ⟨#[44]⟩, .bool false, .string ⟨#[]⟩, .bool true] 24); have X := Bx.made w2 #[.string ⟨#[]⟩, .string ⟨#[44]⟩, .bool false, .string ⟨#[]⟩, .bool true] 24; obtain ⟨c0, c1, c2, c3, c4⟩ := cells5 X; clear bb))
  go_ret
  exact ⟨rfl, B⟩
set_option maxRecDepth 20000 in
set_option maxHeartbeats 4000000 in
theorem keep_35 (w : World) : Calls Try.prog 7 #[.int .u8 35] w fun e w' => e = .returned (.bool true) ∧ Below w.heap.size w w' := by
  have hc := conv_at 35 (by decide) (by decide)
  go_enter Try.func7, Try.ntmps7
  go_wp2_with (first
    | (go_at_call 8; refine (awake_any _).mono ?_; rintro e w1 ⟨rfl, bb⟩; have B := bb; clear bb)
    | (go_at_call 9; refine (pof_yes 35 ⟨#[35]⟩ ⟨#[44]⟩ ⟨#[]⟩ false true _ (by decide) (by decide) rfl).mono ?_; rintro e w2 ⟨rfl, bb⟩; replace B := b_more (b_then B bb) (.cells #[.string ⟨#[35]⟩, .string ⟨#[44]⟩, .bool false, .string ⟨#[]⟩, .bool true] 24); have X := Bx.made w2 #[.string ⟨#[35]⟩, .string ⟨#[44]⟩, .bool false, .string ⟨#[]⟩, .bool true] 24; obtain ⟨c0, c1, c2, c3, c4⟩ := cells5 X; clear bb))
  go_ret
  exact ⟨rfl, B⟩
set_option maxRecDepth 20000 in
set_option maxHeartbeats 4000000 in
theorem keep_46 (w : World) : Calls Try.prog 7 #[.int .u8 46] w fun e w' => e = .returned (.bool true) ∧ Below w.heap.size w w' := by
  have hc := conv_at 46 (by decide) (by decide)
  go_enter Try.func7, Try.ntmps7
  go_wp2_with (first
    | (go_at_call 8; refine (awake_any _).mono ?_; rintro e w1 ⟨rfl, bb⟩; have B := bb; clear bb)
    | (go_at_call 9; refine (pof_yes 46 ⟨#[46]⟩ ⟨#[46]⟩ ⟨#[]⟩ false false _ (by decide) (by decide) rfl).mono ?_; rintro e w2 ⟨rfl, bb⟩; replace B := b_more (b_then B bb) (.cells #[.string ⟨#[46]⟩, .string ⟨#[46]⟩, .bool false, .string ⟨#[]⟩, .bool false] 24); have X := Bx.made w2 #[.string ⟨#[46]⟩, .string ⟨#[46]⟩, .bool false, .string ⟨#[]⟩, .bool false] 24; obtain ⟨c0, c1, c2, c3, c4⟩ := cells5 X; clear bb))
  go_ret
  exact ⟨rfl, B⟩
set_option maxRecDepth 20000 in
set_option maxHeartbeats 4000000 in
theorem keep_47 (w : World) : Calls Try.prog 7 #[.int .u8 47] w fun e w' => e = .returned (.bool true) ∧ Below w.heap.size w w' := by
  have hc := conv_at 47 (by decide) (by decide)
  go_enter Try.func7, Try.ntmps7
  go_wp2_with (first
    | (go_at_call 8; refine (awake_any _).mono ?_; rintro e w1 ⟨rfl, bb⟩; have B := bb; clear bb)
    | (go_at_call 9; refine (pof_yes 47 ⟨#[47]⟩ ⟨#[47]⟩ ⟨#[]⟩ false false _ (by decide) (by decide) rfl).mono ?_; rintro e w2 ⟨rfl, bb⟩; replace B := b_more (b_then B bb) (.cells #[.string ⟨#[47]⟩, .string ⟨#[47]⟩, .bool false, .string ⟨#[]⟩, .bool false] 24); have X := Bx.made w2 #[.string ⟨#[47]⟩, .string ⟨#[47]⟩, .bool false, .string ⟨#[]⟩, .bool false] 24; obtain ⟨c0, c1, c2, c3, c4⟩ := cells5 X; clear bb))
  go_ret
  exact ⟨rfl, B⟩
set_option maxRecDepth 20000 in
set_option maxHeartbeats 4000000 in
theorem keep_59 (w : World) : Calls Try.prog 7 #[.int .u8 59] w fun e w' => e = .returned (.bool true) ∧ Below w.heap.size w w' := by
  have hc := conv_at 59 (by decide) (by decide)
  go_enter Try.func7, Try.ntmps7
  go_wp2_with (first
    | (go_at_call 8; refine (awake_any _).mono ?_; rintro e w1 ⟨rfl, bb⟩; have B := bb; clear bb)
    | (go_at_call 9; refine (pof_yes 59 ⟨#[59]⟩ ⟨#[59]⟩ ⟨#[]⟩ true false _ (by decide) (by decide) rfl).mono ?_; rintro e w2 ⟨rfl, bb⟩; replace B := b_more (b_then B bb) (.cells #[.string ⟨#[59]⟩, .string ⟨#[59]⟩, .bool true, .string ⟨#[]⟩, .bool false] 24); have X := Bx.made w2 #[.string ⟨#[59]⟩, .string ⟨#[59]⟩, .bool true, .string ⟨#[]⟩, .bool false] 24; obtain ⟨c0, c1, c2, c3, c4⟩ := cells5 X; clear bb))
  go_ret
  exact ⟨rfl, B⟩
set_option maxRecDepth 20000 in
set_option maxHeartbeats 4000000 in
theorem keep_63 (w : World) : Calls Try.prog 7 #[.int .u8 63] w fun e w' => e = .returned (.bool true) ∧ Below w.heap.size w w' := by
  have hc := conv_at 63 (by decide) (by decide)
  go_enter Try.func7, Try.ntmps7
  go_wp2_with (first
    | (go_at_call 8; refine (awake_any _).mono ?_; rintro e w1 ⟨rfl, bb⟩; have B := bb; clear bb)
    | (go_at_call 9; refine (pof_yes 63 ⟨#[63]⟩ ⟨#[38]⟩ ⟨#[61]⟩ true false _ (by decide) (by decide) rfl).mono ?_; rintro e w2 ⟨rfl, bb⟩; replace B := b_more (b_then B bb) (.cells #[.string ⟨#[63]⟩, .string ⟨#[38]⟩, .bool true, .string ⟨#[61]⟩, .bool false] 24); have X := Bx.made w2 #[.string ⟨#[63]⟩, .string ⟨#[38]⟩, .bool true, .string ⟨#[61]⟩, .bool false] 24; obtain ⟨c0, c1, c2, c3, c4⟩ := cells5 X; clear bb))
  go_ret
  exact ⟨rfl, B⟩
set_option maxRecDepth 20000 in
set_option maxHeartbeats 4000000 in
theorem keep_38 (w : World) : Calls Try.prog 7 #[.int .u8 38] w fun e w' => e = .returned (.bool true) ∧ Below w.heap.size w w' := by
  have hc := conv_at 38 (by decide) (by decide)
  go_enter Try.func7, Try.ntmps7
  go_wp2_with (first
    | (go_at_call 8; refine (awake_any _).mono ?_; rintro e w1 ⟨rfl, bb⟩; have B := bb; clear bb)
    | (go_at_call 9; refine (pof_yes 38 ⟨#[38]⟩ ⟨#[38]⟩ ⟨#[61]⟩ true false _ (by decide) (by decide) rfl).mono ?_; rintro e w2 ⟨rfl, bb⟩; replace B := b_more (b_then B bb) (.cells #[.string ⟨#[38]⟩, .string ⟨#[38]⟩, .bool true, .string ⟨#[61]⟩, .bool false] 24); have X := Bx.made w2 #[.string ⟨#[38]⟩, .string ⟨#[38]⟩, .bool true, .string ⟨#[61]⟩, .bool false] 24; obtain ⟨c0, c1, c2, c3, c4⟩ := cells5 X; clear bb))
  go_ret
  exact ⟨rfl, B⟩
theorem keep_walk (n : Int) (w : World) (h0 : 0 ≤ n) (h1 : n ≤ 255) : Calls Try.prog 7 #[.int .u8 n] w fun e w' => e = .returned (.bool true) ∧ Below w.heap.size w w' := by
  cases ho : opZ n.toNat with
  | false => exact keep_no n w h0 h1 ho
  | true =>
    obtain ⟨k, rfl⟩ : ∃ k : Nat, n = (k : Int) := ⟨n.toNat, by omega⟩
    rw [Int.toNat_natCast] at ho
    rcases op_cases ho with rfl | rfl | rfl | rfl | rfl | rfl | rfl | rfl
    · exact keep_0 w
    · exact keep_43 w
    · exact keep_35 w
    · exact keep_46 w
    · exact keep_47 w
    · exact keep_59 w
    · exact keep_63 w
    · exact keep_38 w
end Go.Proofs.Ytkkgnmohhgcbiaa
