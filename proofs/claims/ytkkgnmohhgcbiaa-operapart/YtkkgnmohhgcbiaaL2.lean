/-
  WALKS: the law of two rules: no two operators have the same one (layer 10).
-/
import Derived.Test.YtkkgnmohhgcbiaaL1
namespace Go.Proofs.Ytkkgnmohhgcbiaa
open Go.RowKit

set_option maxRecDepth 20000 in
set_option maxHeartbeats 4000000 in
theorem apart_nn (n m : Int) (w : World) (h0 : 0 ≤ n) (h1 : n ≤ 255) (ho : opZ n.toNat = false) (g0 : 0 ≤ m) (g1 : m ≤ 255) (go : opZ m.toNat = false) : Calls Try.prog 5 #[.int .u8 n, .int .u8 m] w fun e w' => e = .returned (.bool true) ∧ Below w.heap.size w w' := by
  have Ho := hide ho
  have Go := hide go
  clear ho go
  have hg := guard24
  have T0 : Hid True := trivial
  have T1 : Hid True := trivial
  have he := eq24_same
  go_enter Try.func5, Try.ntmps5
  go_wp2_with (first
    | (go_at_call 8; refine (awake_any _).mono ?_; rintro e w1 ⟨rfl, bb⟩; have B := bb; clear bb)
    | (go_at_call 9; have z := T0; refine (pof_no n _ h0 h1 Ho.out).mono ?_; rintro e w2 ⟨rfl, bb⟩; replace B := b_more (b_then B bb) (.cells #[.string ⟨#[]⟩, .string ⟨#[]⟩, .bool false, .string ⟨#[]⟩, .bool false] 24); have X := Bx.made w2 #[.string ⟨#[]⟩, .string ⟨#[]⟩, .bool false, .string ⟨#[]⟩, .bool false] 24; obtain ⟨c0, c1, c2, c3, c4⟩ := cells5 X; clear bb z T0)
    | (go_at_call 9; have z := T1; refine (pof_no m _ g0 g1 Go.out).mono ?_; rintro e w3 ⟨rfl, bb⟩; replace B := b_more (b_then B bb) (.cells #[.string ⟨#[]⟩, .string ⟨#[]⟩, .bool false, .string ⟨#[]⟩, .bool false] 24); replace X := (X.next bb).later (.cells #[.string ⟨#[]⟩, .string ⟨#[]⟩, .bool false, .string ⟨#[]⟩, .bool false] 24); have Y := Bx.made w3 #[.string ⟨#[]⟩, .string ⟨#[]⟩, .bool false, .string ⟨#[]⟩, .bool false] 24; obtain ⟨c0, c1, c2, c3, c4⟩ := cells5 X; obtain ⟨d0, d1, d2, d3, d4⟩ := cells5 Y; clear bb z T1))
  go_ret
  exact ⟨rfl, B⟩
set_option maxRecDepth 20000 in
set_option maxHeartbeats 4000000 in
theorem apart_ny (n m : Int) (FB SB EB : ByteArray) (nb kb : Bool) (w : World) (h0 : 0 ≤ n) (h1 : n ≤ 255) (ho : opZ n.toNat = false) (g0 : 0 ≤ m) (go : opZ m.toNat = true) (Hs : Hid (rlV (rlN m.toNat) = .agg #[.string FB, .string SB, .bool nb, .string EB, .bool kb])) : Calls Try.prog 5 #[.int .u8 n, .int .u8 m] w fun e w' => e = .returned (.bool true) ∧ Below w.heap.size w w' := by
  have Ho := hide ho
  have Go := hide go
  clear ho go
  have hg := guard24
  have T0 : Hid True := trivial
  have T1 : Hid True := trivial
  have he := eq24_same
  go_enter Try.func5, Try.ntmps5
  go_wp2_with (first
    | (go_at_call 8; refine (awake_any _).mono ?_; rintro e w1 ⟨rfl, bb⟩; have B := bb; clear bb)
    | (go_at_call 9; have z := T0; refine (pof_no n _ h0 h1 Ho.out).mono ?_; rintro e w2 ⟨rfl, bb⟩; replace B := b_more (b_then B bb) (.cells #[.string ⟨#[]⟩, .string ⟨#[]⟩, .bool false, .string ⟨#[]⟩, .bool false] 24); have X := Bx.made w2 #[.string ⟨#[]⟩, .string ⟨#[]⟩, .bool false, .string ⟨#[]⟩, .bool false] 24; obtain ⟨c0, c1, c2, c3, c4⟩ := cells5 X; clear bb z T0)
    | (go_at_call 9; have z := T1; refine (pof_yes m FB SB EB nb kb _ g0 Go.out Hs.out).mono ?_; rintro e w3 ⟨rfl, bb⟩; replace B := b_more (b_then B bb) (.cells #[.string FB, .string SB, .bool nb, .string EB, .bool kb] 24); replace X := (X.next bb).later (.cells #[.string FB, .string SB, .bool nb, .string EB, .bool kb] 24); have Y := Bx.made w3 #[.string FB, .string SB, .bool nb, .string EB, .bool kb] 24; obtain ⟨c0, c1, c2, c3, c4⟩ := cells5 X; obtain ⟨d0, d1, d2, d3, d4⟩ := cells5 Y; clear bb z T1))
  go_ret
  exact ⟨rfl, B⟩
set_option maxRecDepth 20000 in
set_option maxHeartbeats 4000000 in
theorem apart_yn (n m : Int) (FB SB EB : ByteArray) (nb kb : Bool) (w : World) (h0 : 0 ≤ n) (ho : opZ n.toNat = true) (g0 : 0 ≤ m) (g1 : m ≤ 255) (go : opZ m.toNat = false) (Hs : Hid (rlV (rlN n.toNat) = .agg #[.string FB, .string SB, .bool nb, .string EB, .bool kb])) : Calls Try.prog 5 #[.int .u8 n, .int .u8 m] w fun e w' => e = .returned (.bool true) ∧ Below w.heap.size w w' := by
  have Ho := hide ho
  have Go := hide go
  clear ho go
  have hg := guard24
  have T0 : Hid True := trivial
  have T1 : Hid True := trivial
  have he := eq24_same
  go_enter Try.func5, Try.ntmps5
  go_wp2_with (first
    | (go_at_call 8; refine (awake_any _).mono ?_; rintro e w1 ⟨rfl, bb⟩; have B := bb; clear bb)
    | (go_at_call 9; have z := T0; refine (pof_yes n FB SB EB nb kb _ h0 Ho.out Hs.out).mono ?_; rintro e w2 ⟨rfl, bb⟩; replace B := b_more (b_then B bb) (.cells #[.string FB, .string SB, .bool nb, .string EB, .bool kb] 24); have X := Bx.made w2 #[.string FB, .string SB, .bool nb, .string EB, .bool kb] 24; obtain ⟨c0, c1, c2, c3, c4⟩ := cells5 X; clear bb z T0)
    | (go_at_call 9; have z := T1; refine (pof_no m _ g0 g1 Go.out).mono ?_; rintro e w3 ⟨rfl, bb⟩; replace B := b_more (b_then B bb) (.cells #[.string ⟨#[]⟩, .string ⟨#[]⟩, .bool false, .string ⟨#[]⟩, .bool false] 24); replace X := (X.next bb).later (.cells #[.string ⟨#[]⟩, .string ⟨#[]⟩, .bool false, .string ⟨#[]⟩, .bool false] 24); have Y := Bx.made w3 #[.string ⟨#[]⟩, .string ⟨#[]⟩, .bool false, .string ⟨#[]⟩, .bool false] 24; obtain ⟨c0, c1, c2, c3, c4⟩ := cells5 X; obtain ⟨d0, d1, d2, d3, d4⟩ := cells5 Y; clear bb z T1))
  go_ret
  exact ⟨rfl, B⟩
set_option maxRecDepth 20000 in
set_option maxHeartbeats 4000000 in
theorem same_0 (w : World) : Calls Try.prog 5 #[.int .u8 0, .int .u8 0] w fun e w' => e = .returned (.bool true) ∧ Below w.heap.size w w' := by
  have hg := guard24
  have T0 : Hid True := trivial
  have T1 : Hid True := trivial
  have he := eq24_same
  go_enter Try.func5, Try.ntmps5
  go_wp2_with (first
    | (go_at_call 8; refine (awake_any _).mono ?_; rintro e w1 ⟨rfl, bb⟩; have B := bb; clear bb)
    | (go_at_call 9; have z := T0; refine (pof_yes 0 ⟨#[]⟩ ⟨#[44]⟩ ⟨#[]⟩ false false _ (by decide) (by decide) rfl).mono ?_; rintro e w2 ⟨rfl, bb⟩; replace B := b_more (b_then B bb) (.cells #[.string ⟨#[]⟩, .string ⟨#[44]⟩, .bool false, .string ⟨#[]⟩, .bool false] 24); have X := Bx.made w2 #[.string ⟨#[]⟩, .string ⟨#[44]⟩, .bool false, .string ⟨#[]⟩, .bool false] 24; obtain ⟨c0, c1, c2, c3, c4⟩ := cells5 X; clear bb z T0)
    | (go_at_call 9; have z := T1; refine (pof_yes 0 ⟨#[]⟩ ⟨#[44]⟩ ⟨#[]⟩ false false _ (by decide) (by decide) rfl).mono ?_; rintro e w3 ⟨rfl, bb⟩; replace B := b_more (b_then B bb) (.cells #[.string ⟨#[]⟩, .string ⟨#[44]⟩, .bool false, .string ⟨#[]⟩, .bool false] 24); replace X := (X.next bb).later (.cells #[.string ⟨#[]⟩, .string ⟨#[44]⟩, .bool false, .string ⟨#[]⟩, .bool false] 24); have Y := Bx.made w3 #[.string ⟨#[]⟩, .string ⟨#[44]⟩, .bool false, .string ⟨#[]⟩, .bool false] 24; obtain ⟨c0, c1, c2, c3, c4⟩ := cells5 X; obtain ⟨d0, d1, d2, d3, d4⟩ := cells5 Y; clear bb z T1))
  go_ret
  exact ⟨rfl, B⟩
theorem unlike_0 : ∀ m ∈ [0, 43, 35, 46, 47, 59, 63, 38], m ≠ 0 → ((⟨#[]⟩ : ByteArray).toList == (⟨(rlN m).first.toArray⟩ : ByteArray).toList && (⟨#[44]⟩ : ByteArray).toList == (⟨(rlN m).sep.toArray⟩ : ByteArray).toList && false == (rlN m).named && (⟨#[]⟩ : ByteArray).toList == (⟨(rlN m).empty.toArray⟩ : ByteArray).toList && false == (rlN m).keep) = false := by decide +kernel
set_option maxRecDepth 20000 in
set_option maxHeartbeats 4000000 in
theorem unlike_walk_0 (m : Int) (FB SB EB : ByteArray) (nb kb : Bool) (w : World) (g0 : 0 ≤ m) (hne : m ≠ 0) (go : opZ m.toNat = true) (Hs : Hid (rlV (rlN m.toNat) = .agg #[.string FB, .string SB, .bool nb, .string EB, .bool kb])) (hu : ((⟨#[]⟩ : ByteArray).toList == FB.toList && (⟨#[44]⟩ : ByteArray).toList == SB.toList && false == nb && (⟨#[]⟩ : ByteArray).toList == EB.toList && false == kb) = false) : Calls Try.prog 5 #[.int .u8 0, .int .u8 m] w fun e w' => e = .returned (.bool true) ∧ Below w.heap.size w w' := by
  have Go := hide go
  clear go
  have hg := guard24
  have T0 : Hid True := trivial
  have T1 : Hid True := trivial
  have he := eq24_is _ FB _ SB _ EB _ nb _ kb false hu
  clear hu
  have ht : ((0 : Int) == m) = false := by simp; omega
  go_enter Try.func5, Try.ntmps5
  go_wp2_with (first
    | (go_at_call 8; refine (awake_any _).mono ?_; rintro e w1 ⟨rfl, bb⟩; have B := bb; clear bb)
    | (go_at_call 9; have z := T0; refine (pof_yes 0 ⟨#[]⟩ ⟨#[44]⟩ ⟨#[]⟩ false false _ (by decide) (by decide) rfl).mono ?_; rintro e w2 ⟨rfl, bb⟩; replace B := b_more (b_then B bb) (.cells #[.string ⟨#[]⟩, .string ⟨#[44]⟩, .bool false, .string ⟨#[]⟩, .bool false] 24); have X := Bx.made w2 #[.string ⟨#[]⟩, .string ⟨#[44]⟩, .bool false, .string ⟨#[]⟩, .bool false] 24; obtain ⟨c0, c1, c2, c3, c4⟩ := cells5 X; clear bb z T0)
    | (go_at_call 9; have z := T1; refine (pof_yes m FB SB EB nb kb _ g0 Go.out Hs.out).mono ?_; rintro e w3 ⟨rfl, bb⟩; replace B := b_more (b_then B bb) (.cells #[.string FB, .string SB, .bool nb, .string EB, .bool kb] 24); replace X := (X.next bb).later (.cells #[.string FB, .string SB, .bool nb, .string EB, .bool kb] 24); have Y := Bx.made w3 #[.string FB, .string SB, .bool nb, .string EB, .bool kb] 24; obtain ⟨c0, c1, c2, c3, c4⟩ := cells5 X; obtain ⟨d0, d1, d2, d3, d4⟩ := cells5 Y; clear bb z T1))
  go_ret
  exact ⟨rfl, B⟩
set_option maxRecDepth 20000 in
set_option maxHeartbeats 4000000 in
theorem same_43 (w : World) : Calls Try.prog 5 #[.int .u8 43, .int .u8 43] w fun e w' => e = .returned (.bool true) ∧ Below w.heap.size w w' := by
  have hg := guard24
  have T0 : Hid True := trivial
  have T1 : Hid True := trivial
  have he := eq24_same
  go_enter Try.func5, Try.ntmps5
  go_wp2_with (first
    | (go_at_call 8; refine (awake_any _).mono ?_; rintro e w1 ⟨rfl, bb⟩; have B := bb; clear bb)
    | (go_at_call 9; have z := T0; refine (pof_yes 43 ⟨#[]⟩ ⟨#[44]⟩ ⟨#[]⟩ false true _ (by decide) (by decide) rfl).mono ?_; rintro e w2 ⟨rfl, bb⟩; replace B := b_more (b_then B bb) (.cells #[.string ⟨#[]⟩, .string ⟨#[44]⟩, .bool false, .string ⟨#[]⟩, .bool true] 24); have X := Bx.made w2 #[.string ⟨#[]⟩, .string ⟨#[44]⟩, .bool false, .string ⟨#[]⟩, .bool true] 24; obtain ⟨c0, c1, c2, c3, c4⟩ := cells5 X; clear bb z T0)
    | (go_at_call 9; have z := T1; refine (pof_yes 43 ⟨#[]⟩ ⟨#[44]⟩ ⟨#[]⟩ false true _ (by decide) (by decide) rfl).mono ?_; rintro e w3 ⟨rfl, bb⟩; replace B := b_more (b_then B bb) (.cells #[.string ⟨#[]⟩, .string ⟨#[44]⟩, .bool false, .string ⟨#[]⟩, .bool true] 24); replace X := (X.next bb).later (.cells #[.string ⟨#[]⟩, .string ⟨#[44]⟩, .bool false, .string ⟨#[]⟩, .bool true] 24); have Y := Bx.made w3 #[.string ⟨#[]⟩, .string ⟨#[44]⟩, .bool false, .string ⟨#[]⟩, .bool true] 24; obtain ⟨c0, c1, c2, c3, c4⟩ := cells5 X; obtain ⟨d0, d1, d2, d3, d4⟩ := cells5 Y; clear bb z T1))
  go_ret
  exact ⟨rfl, B⟩
theorem unlike_43 : ∀ m ∈ [0, 43, 35, 46, 47, 59, 63, 38], m ≠ 43 → ((⟨#[]⟩ : ByteArray).toList == (⟨(rlN m).first.toArray⟩ : ByteArray).toList && (⟨#[44]⟩ : ByteArray).toList == (⟨(rlN m).sep.toArray⟩ : ByteArray).toList && false == (rlN m).named && (⟨#[]⟩ : ByteArray).toList == (⟨(rlN m).empty.toArray⟩ : ByteArray).toList && true == (rlN m).keep) = false := by decide +kernel
set_option maxRecDepth 20000 in
set_option maxHeartbeats 4000000 in
theorem unlike_walk_43 (m : Int) (FB SB EB : ByteArray) (nb kb : Bool) (w : World) (g0 : 0 ≤ m) (hne : m ≠ 43) (go : opZ m.toNat = true) (Hs : Hid (rlV (rlN m.toNat) = .agg #[.string FB, .string SB, .bool nb, .string EB, .bool kb])) (hu : ((⟨#[]⟩ : ByteArray).toList == FB.toList && (⟨#[44]⟩ : ByteArray).toList == SB.toList && false == nb && (⟨#[]⟩ : ByteArray).toList == EB.toList && true == kb) = false) : Calls Try.prog 5 #[.int .u8 43, .int .u8 m] w fun e w' => e = .returned (.bool true) ∧ Below w.heap.size w w' := by
  have Go := hide go
  clear go
  have hg := guard24
  have T0 : Hid True := trivial
  have T1 : Hid True := trivial
  have he := eq24_is _ FB _ SB _ EB _ nb _ kb false hu
  clear hu
  have ht : ((43 : Int) == m) = false := by simp; omega
  go_enter Try.func5, Try.ntmps5
  go_wp2_with (first
    | (go_at_call 8; refine (awake_any _).mono ?_; rintro e w1 ⟨rfl, bb⟩; have B := bb; clear bb)
    | (go_at_call 9; have z := T0; refine (pof_yes 43 ⟨#[]⟩ ⟨#[44]⟩ ⟨#[]⟩ false true _ (by decide) (by decide) rfl).mono ?_; rintro e w2 ⟨rfl, bb⟩; replace B := b_more (b_then B bb) (.cells #[.string ⟨#[]⟩, .string ⟨#[44]⟩, .bool false, .string ⟨#[]⟩, .bool true] 24); have X := Bx.made w2 #[.string ⟨#[]⟩, .string ⟨#[44]⟩, .bool false, .string ⟨#[]⟩, .bool true] 24; obtain ⟨c0, c1, c2, c3, c4⟩ := cells5 X; clear bb z T0)
    | (go_at_call 9; have z := T1; refine (pof_yes m FB SB EB nb kb _ g0 Go.out Hs.out).mono ?_; rintro e w3 ⟨rfl, bb⟩; replace B := b_more (b_then B bb) (.cells #[.string FB, .string SB, .bool nb, .string EB, .bool kb] 24); replace X := (X.next bb).later (.cells #[.string FB, .string SB, .bool nb, .string EB, .bool kb] 24); have Y := Bx.made w3 #[.string FB, .string SB, .bool nb, .string EB, .bool kb] 24; obtain ⟨c0, c1, c2, c3, c4⟩ := cells5 X; obtain ⟨d0, d1, d2, d3, d4⟩ := cells5 Y; clear bb z T1))
  go_ret
  exact ⟨rfl, B⟩
set_option maxRecDepth 20000 in
set_option maxHeartbeats 4000000 in
theorem same_35 (w : World) : Calls Try.prog 5 #[.int .u8 35, .int .u8 35] w fun e w' => e = .returned (.bool true) ∧ Below w.heap.size w w' := by
  have hg := guard24
  have T0 : Hid True := trivial
  have T1 : Hid True := trivial
  have he := eq24_same
  go_enter Try.func5, Try.ntmps5
  go_wp2_with (first
    | (go_at_call 8; refine (awake_any _).mono ?_; rintro e w1 ⟨rfl, bb⟩; have B := bb; clear bb)
    | (go_at_call 9; have z := T0; refine (pof_yes 35 ⟨#[35]⟩ ⟨#[44]⟩ ⟨#[]⟩ false true _ (by decide) (by decide) rfl).mono ?_; rintro e w2 ⟨rfl, bb⟩; replace B := b_more (b_then B bb) (.cells #[.string ⟨#[35]⟩, .string ⟨#[44]⟩, .bool false, .string ⟨#[]⟩, .bool true] 24); have X := Bx.made w2 #[.string ⟨#[35]⟩, .string ⟨#[44]⟩, .bool false, .string ⟨#[]⟩, .bool true] 24; obtain ⟨c0, c1, c2, c3, c4⟩ := cells5 X; clear bb z T0)
    | (go_at_call 9; have z := T1; refine (pof_yes 35 ⟨#[35]⟩ ⟨#[44]⟩ ⟨#[]⟩ false true _ (by decide) (by decide) rfl).mono ?_; rintro e w3 ⟨rfl, bb⟩; replace B := b_more (b_then B bb) (.cells #[.string ⟨#[35]⟩, .string ⟨#[44]⟩, .bool false, .string ⟨#[]⟩, .bool true] 24); replace X := (X.next bb).later (.cells #[.string ⟨#[35]⟩, .string ⟨#[44]⟩, .bool false, .string ⟨#[]⟩, .bool true] 24); have Y := Bx.made w3 #[.string ⟨#[35]⟩, .string ⟨#[44]⟩, .bool false, .string ⟨#[]⟩, .bool true] 24; obtain ⟨c0, c1, c2, c3, c4⟩ := cells5 X; obtain ⟨d0, d1, d2, d3, d4⟩ := cells5 Y; clear bb z T1))
  go_ret
  exact ⟨rfl, B⟩
theorem unlike_35 : ∀ m ∈ [0, 43, 35, 46, 47, 59, 63, 38], m ≠ 35 → ((⟨#[35]⟩ : ByteArray).toList == (⟨(rlN m).first.toArray⟩ : ByteArray).toList && (⟨#[44]⟩ : ByteArray).toList == (⟨(rlN m).sep.toArray⟩ : ByteArray).toList && false == (rlN m).named && (⟨#[]⟩ : ByteArray).toList == (⟨(rlN m).empty.toArray⟩ : ByteArray).toList && true == (rlN m).keep) = false := by decide +kernel
set_option maxRecDepth 20000 in
set_option maxHeartbeats 4000000 in
theorem unlike_walk_35 (m : Int) (FB SB EB : ByteArray) (nb kb : Bool) (w : World) (g0 : 0 ≤ m) (hne : m ≠ 35) (go : opZ m.toNat = true) (Hs : Hid (rlV (rlN m.toNat) = .agg #[.string FB, .string SB, .bool nb, .string EB, .bool kb])) (hu : ((⟨#[35]⟩ : ByteArray).toList == FB.toList && (⟨#[44]⟩ : ByteArray).toList == SB.toList && false == nb && (⟨#[]⟩ : ByteArray).toList == EB.toList && true == kb) = false) : Calls Try.prog 5 #[.int .u8 35, .int .u8 m] w fun e w' => e = .returned (.bool true) ∧ Below w.heap.size w w' := by
  have Go := hide go
  clear go
  have hg := guard24
  have T0 : Hid True := trivial
  have T1 : Hid True := trivial
  have he := eq24_is _ FB _ SB _ EB _ nb _ kb false hu
  clear hu
  have ht : ((35 : Int) == m) = false := by simp; omega
  go_enter Try.func5, Try.ntmps5
  go_wp2_with (first
    | (go_at_call 8; refine (awake_any _).mono ?_; rintro e w1 ⟨rfl, bb⟩; have B := bb; clear bb)
    | (go_at_call 9; have z := T0; refine (pof_yes 35 ⟨#[35]⟩ ⟨#[44]⟩ ⟨#[]⟩ false true _ (by decide) (by decide) rfl).mono ?_; rintro e w2 ⟨rfl, bb⟩; replace B := b_more (b_then B bb) (.cells #[.string ⟨#[35]⟩, .string ⟨#[44]⟩, .bool false, .string ⟨#[]⟩, .bool true] 24); have X := Bx.made w2 #[.string ⟨#[35]⟩, .string ⟨#[44]⟩, .bool false, .string ⟨#[]⟩, .bool true] 24; obtain ⟨c0, c1, c2, c3, c4⟩ := cells5 X; clear bb z T0)
    | (go_at_call 9; have z := T1; refine (pof_yes m FB SB EB nb kb _ g0 Go.out Hs.out).mono ?_; rintro e w3 ⟨rfl, bb⟩; replace B := b_more (b_then B bb) (.cells #[.string FB, .string SB, .bool nb, .string EB, .bool kb] 24); replace X := (X.next bb).later (.cells #[.string FB, .string SB, .bool nb, .string EB, .bool kb] 24); have Y := Bx.made w3 #[.string FB, .string SB, .bool nb, .string EB, .bool kb] 24; obtain ⟨c0, c1, c2, c3, c4⟩ := cells5 X; obtain ⟨d0, d1, d2, d3, d4⟩ := cells5 Y; clear bb z T1))
  go_ret
  exact ⟨rfl, B⟩
set_option maxRecDepth 20000 in
set_option maxHeartbeats 4000000 in
theorem same_46 (w : World) : Calls Try.prog 5 #[.int .u8 46, .int .u8 46] w fun e w' => e = .returned (.bool true) ∧ Below w.heap.size w w' := by
  have hg := guard24
  have T0 : Hid True := trivial
  have T1 : Hid True := trivial
  have he := eq24_same
  go_enter Try.func5, Try.ntmps5
  go_wp2_with (first
    | (go_at_call 8; refine (awake_any _).mono ?_; rintro e w1 ⟨rfl, bb⟩; have B := bb; clear bb)
    | (go_at_call 9; have z := T0; refine (pof_yes 46 ⟨#[46]⟩ ⟨#[46]⟩ ⟨#[]⟩ false false _ (by decide) (by decide) rfl).mono ?_; rintro e w2 ⟨rfl, bb⟩; replace B := b_more (b_then B bb) (.cells #[.string ⟨#[46]⟩, .string ⟨#[46]⟩, .bool false, .string ⟨#[]⟩, .bool false] 24); have X := Bx.made w2 #[.string ⟨#[46]⟩, .string ⟨#[46]⟩, .bool false, .string ⟨#[]⟩, .bool false] 24; obtain ⟨c0, c1, c2, c3, c4⟩ := cells5 X; clear bb z T0)
    | (go_at_call 9; have z := T1; refine (pof_yes 46 ⟨#[46]⟩ ⟨#[46]⟩ ⟨#[]⟩ false false _ (by decide) (by decide) rfl).mono ?_; rintro e w3 ⟨rfl, bb⟩; replace B := b_more (b_then B bb) (.cells #[.string ⟨#[46]⟩, .string ⟨#[46]⟩, .bool false, .string ⟨#[]⟩, .bool false] 24); replace X := (X.next bb).later (.cells #[.string ⟨#[46]⟩, .string ⟨#[46]⟩, .bool false, .string ⟨#[]⟩, .bool false] 24); have Y := Bx.made w3 #[.string ⟨#[46]⟩, .string ⟨#[46]⟩, .bool false, .string ⟨#[]⟩, .bool false] 24; obtain ⟨c0, c1, c2, c3, c4⟩ := cells5 X; obtain ⟨d0, d1, d2, d3, d4⟩ := cells5 Y; clear bb z T1))
  go_ret
  exact ⟨rfl, B⟩
theorem unlike_46 : ∀ m ∈ [0, 43, 35, 46, 47, 59, 63, 38], m ≠ 46 → ((⟨#[46]⟩ : ByteArray).toList == (⟨(rlN m).first.toArray⟩ : ByteArray).toList && (⟨#[46]⟩ : ByteArray).toList == (⟨(rlN m).sep.toArray⟩ : ByteArray).toList && false == (rlN m).named && (⟨#[]⟩ : ByteArray).toList == (⟨(rlN m).empty.toArray⟩ : ByteArray).toList && false == (rlN m).keep) = false := by decide +kernel
set_option maxRecDepth 20000 in
set_option maxHeartbeats 4000000 in
theorem unlike_walk_46 (m : Int) (FB SB EB : ByteArray) (nb kb : Bool) (w : World) (g0 : 0 ≤ m) (hne : m ≠ 46) (go : opZ m.toNat = true) (Hs : Hid (rlV (rlN m.toNat) = .agg #[.string FB, .string SB, .bool nb, .string EB, .bool kb])) (hu : ((⟨#[46]⟩ : ByteArray).toList == FB.toList && (⟨#[46]⟩ : ByteArray).toList == SB.toList && false == nb && (⟨#[]⟩ : ByteArray).toList == EB.toList && false == kb) = false) : Calls Try.prog 5 #[.int .u8 46, .int .u8 m] w fun e w' => e = .returned (.bool true) ∧ Below w.heap.size w w' := by
  have Go := hide go
  clear go
  have hg := guard24
  have T0 : Hid True := trivial
  have T1 : Hid True := trivial
  have he := eq24_is _ FB _ SB _ EB _ nb _ kb false hu
  clear hu
  have ht : ((46 : Int) == m) = false := by simp; omega
  go_enter Try.func5, Try.ntmps5
  go_wp2_with (first
    | (go_at_call 8; refine (awake_any _).mono ?_; rintro e w1 ⟨rfl, bb⟩; have B := bb; clear bb)
    | (go_at_call 9; have z := T0; refine (pof_yes 46 ⟨#[46]⟩ ⟨#[46]⟩ ⟨#[]⟩ false false _ (by decide) (by decide) rfl).mono ?_; rintro e w2 ⟨rfl, bb⟩; replace B := b_more (b_then B bb) (.cells #[.string ⟨#[46]⟩, .string ⟨#[46]⟩, .bool false, .string ⟨#[]⟩, .bool false] 24); have X := Bx.made w2 #[.string ⟨#[46]⟩, .string ⟨#[46]⟩, .bool false, .string ⟨#[]⟩, .bool false] 24; obtain ⟨c0, c1, c2, c3, c4⟩ := cells5 X; clear bb z T0)
    | (go_at_call 9; have z := T1; refine (pof_yes m FB SB EB nb kb _ g0 Go.out Hs.out).mono ?_; rintro e w3 ⟨rfl, bb⟩; replace B := b_more (b_then B bb) (.cells #[.string FB, .string SB, .bool nb, .string EB, .bool kb] 24); replace X := (X.next bb).later (.cells #[.string FB, .string SB, .bool nb, .string EB, .bool kb] 24); have Y := Bx.made w3 #[.string FB, .string SB, .bool nb, .string EB, .bool kb] 24; obtain ⟨c0, c1, c2, c3, c4⟩ := cells5 X; obtain ⟨d0, d1, d2, d3, d4⟩ := cells5 Y; clear bb z T1))
  go_ret
  exact ⟨rfl, B⟩
set_option maxRecDepth 20000 in
set_option maxHeartbeats 4000000 in
theorem same_47 (w : World) : Calls Try.prog 5 #[.int .u8 47, .int .u8 47] w fun e w' => e = .returned (.bool true) ∧ Below w.heap.size w w' := by
  have hg := guard24
  have T0 : Hid True := trivial
  have T1 : Hid True := trivial
  have he := eq24_same
  go_enter Try.func5, Try.ntmps5
  go_wp2_with (first
    | (go_at_call 8; refine (awake_any _).mono ?_; rintro e w1 ⟨rfl, bb⟩; have B := bb; clear bb)
    | (go_at_call 9; have z := T0; refine (pof_yes 47 ⟨#[47]⟩ ⟨#[47]⟩ ⟨#[]⟩ false false _ (by decide) (by decide) rfl).mono ?_; rintro e w2 ⟨rfl, bb⟩; replace B := b_more (b_then B bb) (.cells #[.string ⟨#[47]⟩, .string ⟨#[47]⟩, .bool false, .string ⟨#[]⟩, .bool false] 24); have X := Bx.made w2 #[.string ⟨#[47]⟩, .string ⟨#[47]⟩, .bool false, .string ⟨#[]⟩, .bool false] 24; obtain ⟨c0, c1, c2, c3, c4⟩ := cells5 X; clear bb z T0)
    | (go_at_call 9; have z := T1; refine (pof_yes 47 ⟨#[47]⟩ ⟨#[47]⟩ ⟨#[]⟩ false false _ (by decide) (by decide) rfl).mono ?_; rintro e w3 ⟨rfl, bb⟩; replace B := b_more (b_then B bb) (.cells #[.string ⟨#[47]⟩, .string ⟨#[47]⟩, .bool false, .string ⟨#[]⟩, .bool false] 24); replace X := (X.next bb).later (.cells #[.string ⟨#[47]⟩, .string ⟨#[47]⟩, .bool false, .string ⟨#[]⟩, .bool false] 24); have Y := Bx.made w3 #[.string ⟨#[47]⟩, .string ⟨#[47]⟩, .bool false, .string ⟨#[]⟩, .bool false] 24; obtain ⟨c0, c1, c2, c3, c4⟩ := cells5 X; obtain ⟨d0, d1, d2, d3, d4⟩ := cells5 Y; clear bb z T1))
  go_ret
  exact ⟨rfl, B⟩
theorem unlike_47 : ∀ m ∈ [0, 43, 35, 46, 47, 59, 63, 38], m ≠ 47 → ((⟨#[47]⟩ : ByteArray).toList == (⟨(rlN m).first.toArray⟩ : ByteArray).toList && (⟨#[47]⟩ : ByteArray).toList == (⟨(rlN m).sep.toArray⟩ : ByteArray).toList && false == (rlN m).named && (⟨#[]⟩ : ByteArray).toList == (⟨(rlN m).empty.toArray⟩ : ByteArray).toList && false == (rlN m).keep) = false := by decide +kernel
set_option maxRecDepth 20000 in
set_option maxHeartbeats 4000000 in
theorem unlike_walk_47 (m : Int) (FB SB EB : ByteArray) (nb kb : Bool) (w : World) (g0 : 0 ≤ m) (hne : m ≠ 47) (go : opZ m.toNat = true) (Hs : Hid (rlV (rlN m.toNat) = .agg #[.string FB, .string SB, .bool nb, .string EB, .bool kb])) (hu : ((⟨#[47]⟩ : ByteArray).toList == FB.toList && (⟨#[47]⟩ : ByteArray).toList == SB.toList && false == nb && (⟨#[]⟩ : ByteArray).toList == EB.toList && false == kb) = false) : Calls Try.prog 5 #[.int .u8 47, .int .u8 m] w fun e w' => e = .returned (.bool true) ∧ Below w.heap.size w w' := by
  have Go := hide go
  clear go
  have hg := guard24
  have T0 : Hid True := trivial
  have T1 : Hid True := trivial
  have he := eq24_is _ FB _ SB _ EB _ nb _ kb false hu
  clear hu
  have ht : ((47 : Int) == m) = false := by simp; omega
  go_enter Try.func5, Try.ntmps5
  go_wp2_with (first
    | (go_at_call 8; refine (awake_any _).mono ?_; rintro e w1 ⟨rfl, bb⟩; have B := bb; clear bb)
    | (go_at_call 9; have z := T0; refine (pof_yes 47 ⟨#[47]⟩ ⟨#[47]⟩ ⟨#[]⟩ false false _ (by decide) (by decide) rfl).mono ?_; rintro e w2 ⟨rfl, bb⟩; replace B := b_more (b_then B bb) (.cells #[.string ⟨#[47]⟩, .string ⟨#[47]⟩, .bool false, .string ⟨#[]⟩, .bool false] 24); have X := Bx.made w2 #[.string ⟨#[47]⟩, .string ⟨#[47]⟩, .bool false, .string ⟨#[]⟩, .bool false] 24; obtain ⟨c0, c1, c2, c3, c4⟩ := cells5 X; clear bb z T0)
    | (go_at_call 9; have z := T1; refine (pof_yes m FB SB EB nb kb _ g0 Go.out Hs.out).mono ?_; rintro e w3 ⟨rfl, bb⟩; replace B := b_more (b_then B bb) (.cells #[.string FB, .string SB, .bool nb, .string EB, .bool kb] 24); replace X := (X.next bb).later (.cells #[.string FB, .string SB, .bool nb, .string EB, .bool kb] 24); have Y := Bx.made w3 #[.string FB, .string SB, .bool nb, .string EB, .bool kb] 24; obtain ⟨c0, c1, c2, c3, c4⟩ := cells5 X; obtain ⟨d0, d1, d2, d3, d4⟩ := cells5 Y; clear bb z T1))
  go_ret
  exact ⟨rfl, B⟩
set_option maxRecDepth 20000 in
set_option maxHeartbeats 4000000 in
theorem same_59 (w : World) : Calls Try.prog 5 #[.int .u8 59, .int .u8 59] w fun e w' => e = .returned (.bool true) ∧ Below w.heap.size w w' := by
  have hg := guard24
  have T0 : Hid True := trivial
  have T1 : Hid True := trivial
  have he := eq24_same
  go_enter Try.func5, Try.ntmps5
  go_wp2_with (first
    | (go_at_call 8; refine (awake_any _).mono ?_; rintro e w1 ⟨rfl, bb⟩; have B := bb; clear bb)
    | (go_at_call 9; have z := T0; refine (pof_yes 59 ⟨#[59]⟩ ⟨#[59]⟩ ⟨#[]⟩ true false _ (by decide) (by decide) rfl).mono ?_; rintro e w2 ⟨rfl, bb⟩; replace B := b_more (b_then B bb) (.cells #[.string ⟨#[59]⟩, .string ⟨#[59]⟩, .bool true, .string ⟨#[]⟩, .bool false] 24); have X := Bx.made w2 #[.string ⟨#[59]⟩, .string ⟨#[59]⟩, .bool true, .string ⟨#[]⟩, .bool false] 24; obtain ⟨c0, c1, c2, c3, c4⟩ := cells5 X; clear bb z T0)
    | (go_at_call 9; have z := T1; refine (pof_yes 59 ⟨#[59]⟩ ⟨#[59]⟩ ⟨#[]⟩ true false _ (by decide) (by decide) rfl).mono ?_; rintro e w3 ⟨rfl, bb⟩; replace B := b_more (b_then B bb) (.cells #[.string ⟨#[59]⟩, .string ⟨#[59]⟩, .bool true, .string ⟨#[]⟩, .bool false] 24); replace X := (X.next bb).later (.cells #[.string ⟨#[59]⟩, .string ⟨#[59]⟩, .bool true, .string ⟨#[]⟩, .bool false] 24); have Y := Bx.made w3 #[.string ⟨#[59]⟩, .string ⟨#[59]⟩, .bool true, .string ⟨#[]⟩, .bool false] 24; obtain ⟨c0, c1, c2, c3, c4⟩ := cells5 X; obtain ⟨d0, d1, d2, d3, d4⟩ := cells5 Y; clear bb z T1))
  go_ret
  exact ⟨rfl, B⟩
theorem unlike_59 : ∀ m ∈ [0, 43, 35, 46, 47, 59, 63, 38], m ≠ 59 → ((⟨#[59]⟩ : ByteArray).toList == (⟨(rlN m).first.toArray⟩ : ByteArray).toList && (⟨#[59]⟩ : ByteArray).toList == (⟨(rlN m).sep.toArray⟩ : ByteArray).toList && true == (rlN m).named && (⟨#[]⟩ : ByteArray).toList == (⟨(rlN m).empty.toArray⟩ : ByteArray).toList && false == (rlN m).keep) = false := by decide +kernel
set_option maxRecDepth 20000 in
set_option maxHeartbeats 4000000 in
theorem unlike_walk_59 (m : Int) (FB SB EB : ByteArray) (nb kb : Bool) (w : World) (g0 : 0 ≤ m) (hne : m ≠ 59) (go : opZ m.toNat = true) (Hs : Hid (rlV (rlN m.toNat) = .agg #[.string FB, .string SB, .bool nb, .string EB, .bool kb])) (hu : ((⟨#[59]⟩ : ByteArray).toList == FB.toList && (⟨#[59]⟩ : ByteArray).toList == SB.toList && true == nb && (⟨#[]⟩ : ByteArray).toList == EB.toList && false == kb) = false) : Calls Try.prog 5 #[.int .u8 59, .int .u8 m] w fun e w' => e = .returned (.bool true) ∧ Below w.heap.size w w' := by
  have Go := hide go
  clear go
  have hg := guard24
  have T0 : Hid True := trivial
  have T1 : Hid True := trivial
  have he := eq24_is _ FB _ SB _ EB _ nb _ kb false hu
  clear hu
  have ht : ((59 : Int) == m) = false := by simp; omega
  go_enter Try.func5, Try.ntmps5
  go_wp2_with (first
    | (go_at_call 8; refine (awake_any _).mono ?_; rintro e w1 ⟨rfl, bb⟩; have B := bb; clear bb)
    | (go_at_call 9; have z := T0; refine (pof_yes 59 ⟨#[59]⟩ ⟨#[59]⟩ ⟨#[]⟩ true false _ (by decide) (by decide) rfl).mono ?_; rintro e w2 ⟨rfl, bb⟩; replace B := b_more (b_then B bb) (.cells #[.string ⟨#[59]⟩, .string ⟨#[59]⟩, .bool true, .string ⟨#[]⟩, .bool false] 24); have X := Bx.made w2 #[.string ⟨#[59]⟩, .string ⟨#[59]⟩, .bool true, .string ⟨#[]⟩, .bool false] 24; obtain ⟨c0, c1, c2, c3, c4⟩ := cells5 X; clear bb z T0)
    | (go_at_call 9; have z := T1; refine (pof_yes m FB SB EB nb kb _ g0 Go.out Hs.out).mono ?_; rintro e w3 ⟨rfl, bb⟩; replace B := b_more (b_then B bb) (.cells #[.string FB, .string SB, .bool nb, .string EB, .bool kb] 24); replace X := (X.next bb).later (.cells #[.string FB, .string SB, .bool nb, .string EB, .bool kb] 24); have Y := Bx.made w3 #[.string FB, .string SB, .bool nb, .string EB, .bool kb] 24; obtain ⟨c0, c1, c2, c3, c4⟩ := cells5 X; obtain ⟨d0, d1, d2, d3, d4⟩ := cells5 Y; clear bb z T1))
  go_ret
  exact ⟨rfl, B⟩
set_option maxRecDepth 20000 in
set_option maxHeartbeats 4000000 in
theorem same_63 (w : World) : Calls Try.prog 5 #[.int .u8 63, .int .u8 63] w fun e w' => e = .returned (.bool true) ∧ Below w.heap.size w w' := by
  have hg := guard24
  have T0 : Hid True := trivial
  have T1 : Hid True := trivial
  have he := eq24_same
  go_enter Try.func5, Try.ntmps5
  go_wp2_with (first
    | (go_at_call 8; refine (awake_any _).mono ?_; rintro e w1 ⟨rfl, bb⟩; have B := bb; clear bb)
    | (go_at_call 9; have z := T0; refine (pof_yes 63 ⟨#[63]⟩ ⟨#[38]⟩ ⟨#[61]⟩ true false _ (by decide) (by decide) rfl).mono ?_; rintro e w2 ⟨rfl, bb⟩; replace B := b_more (b_then B bb) (.cells #[.string ⟨#[63]⟩, .string ⟨#[38]⟩, .bool true, .string ⟨#[61]⟩, .bool false] 24); have X := Bx.made w2 #[.string ⟨#[63]⟩, .string ⟨#[38]⟩, .bool true, .string ⟨#[61]⟩, .bool false] 24; obtain ⟨c0, c1, c2, c3, c4⟩ := cells5 X; clear bb z T0)
    | (go_at_call 9; have z := T1; refine (pof_yes 63 ⟨#[63]⟩ ⟨#[38]⟩ ⟨#[61]⟩ true false _ (by decide) (by decide) rfl).mono ?_; rintro e w3 ⟨rfl, bb⟩; replace B := b_more (b_then B bb) (.cells #[.string ⟨#[63]⟩, .string ⟨#[38]⟩, .bool true, .string ⟨#[61]⟩, .bool false] 24); replace X := (X.next bb).later (.cells #[.string ⟨#[63]⟩, .string ⟨#[38]⟩, .bool true, .string ⟨#[61]⟩, .bool false] 24); have Y := Bx.made w3 #[.string ⟨#[63]⟩, .string ⟨#[38]⟩, .bool true, .string ⟨#[61]⟩, .bool false] 24; obtain ⟨c0, c1, c2, c3, c4⟩ := cells5 X; obtain ⟨d0, d1, d2, d3, d4⟩ := cells5 Y; clear bb z T1))
  go_ret
  exact ⟨rfl, B⟩
theorem unlike_63 : ∀ m ∈ [0, 43, 35, 46, 47, 59, 63, 38], m ≠ 63 → ((⟨#[63]⟩ : ByteArray).toList == (⟨(rlN m).first.toArray⟩ : ByteArray).toList && (⟨#[38]⟩ : ByteArray).toList == (⟨(rlN m).sep.toArray⟩ : ByteArray).toList && true == (rlN m).named && (⟨#[61]⟩ : ByteArray).toList == (⟨(rlN m).empty.toArray⟩ : ByteArray).toList && false == (rlN m).keep) = false := by decide +kernel
set_option maxRecDepth 20000 in
set_option maxHeartbeats 4000000 in
theorem unlike_walk_63 (m : Int) (FB SB EB : ByteArray) (nb kb : Bool) (w : World) (g0 : 0 ≤ m) (hne : m ≠ 63) (go : opZ m.toNat = true) (Hs : Hid (rlV (rlN m.toNat) = .agg #[.string FB, .string SB, .bool nb, .string EB, .bool kb])) (hu : ((⟨#[63]⟩ : ByteArray).toList == FB.toList && (⟨#[38]⟩ : ByteArray).toList == SB.toList && true == nb && (⟨#[61]⟩ : ByteArray).toList == EB.toList && false == kb) = false) : Calls Try.prog 5 #[.int .u8 63, .int .u8 m] w fun e w' => e = .returned (.bool true) ∧ Below w.heap.size w w' := by
  have Go := hide go
  clear go
  have hg := guard24
  have T0 : Hid True := trivial
  have T1 : Hid True := trivial
  have he := eq24_is _ FB _ SB _ EB _ nb _ kb false hu
  clear hu
  have ht : ((63 : Int) == m) = false := by simp; omega
  go_enter Try.func5, Try.ntmps5
  go_wp2_with (first
    | (go_at_call 8; refine (awake_any _).mono ?_; rintro e w1 ⟨rfl, bb⟩; have B := bb; clear bb)
    | (go_at_call 9; have z := T0; refine (pof_yes 63 ⟨#[63]⟩ ⟨#[38]⟩ ⟨#[61]⟩ true false _ (by decide) (by decide) rfl).mono ?_; rintro e w2 ⟨rfl, bb⟩; replace B := b_more (b_then B bb) (.cells #[.string ⟨#[63]⟩, .string ⟨#[38]⟩, .bool true, .string ⟨#[61]⟩, .bool false] 24); have X := Bx.made w2 #[.string ⟨#[63]⟩, .string ⟨#[38]⟩, .bool true, .string ⟨#[61]⟩, .bool false] 24; obtain ⟨c0, c1, c2, c3, c4⟩ := cells5 X; clear bb z T0)
    | (go_at_call 9; have z := T1; refine (pof_yes m FB SB EB nb kb _ g0 Go.out Hs.out).mono ?_; rintro e w3 ⟨rfl, bb⟩; replace B := b_more (b_then B bb) (.cells #[.string FB, .string SB, .bool nb, .string EB, .bool kb] 24); replace X := (X.next bb).later (.cells #[.string FB, .string SB, .bool nb, .string EB, .bool kb] 24); have Y := Bx.made w3 #[.string FB, .string SB, .bool nb, .string EB, .bool kb] 24; obtain ⟨c0, c1, c2, c3, c4⟩ := cells5 X; obtain ⟨d0, d1, d2, d3, d4⟩ := cells5 Y; clear bb z T1))
  go_ret
  exact ⟨rfl, B⟩
set_option maxRecDepth 20000 in
set_option maxHeartbeats 4000000 in
theorem same_38 (w : World) : Calls Try.prog 5 #[.int .u8 38, .int .u8 38] w fun e w' => e = .returned (.bool true) ∧ Below w.heap.size w w' := by
  have hg := guard24
  have T0 : Hid True := trivial
  have T1 : Hid True := trivial
  have he := eq24_same
  go_enter Try.func5, Try.ntmps5
  go_wp2_with (first
    | (go_at_call 8; refine (awake_any _).mono ?_; rintro e w1 ⟨rfl, bb⟩; have B := bb; clear bb)
    | (go_at_call 9; have z := T0; refine (pof_yes 38 ⟨#[38]⟩ ⟨#[38]⟩ ⟨#[61]⟩ true false _ (by decide) (by decide) rfl).mono ?_; rintro e w2 ⟨rfl, bb⟩; replace B := b_more (b_then B bb) (.cells #[.string ⟨#[38]⟩, .string ⟨#[38]⟩, .bool true, .string ⟨#[61]⟩, .bool false] 24); have X := Bx.made w2 #[.string ⟨#[38]⟩, .string ⟨#[38]⟩, .bool true, .string ⟨#[61]⟩, .bool false] 24; obtain ⟨c0, c1, c2, c3, c4⟩ := cells5 X; clear bb z T0)
    | (go_at_call 9; have z := T1; refine (pof_yes 38 ⟨#[38]⟩ ⟨#[38]⟩ ⟨#[61]⟩ true false _ (by decide) (by decide) rfl).mono ?_; rintro e w3 ⟨rfl, bb⟩; replace B := b_more (b_then B bb) (.cells #[.string ⟨#[38]⟩, .string ⟨#[38]⟩, .bool true, .string ⟨#[61]⟩, .bool false] 24); replace X := (X.next bb).later (.cells #[.string ⟨#[38]⟩, .string ⟨#[38]⟩, .bool true, .string ⟨#[61]⟩, .bool false] 24); have Y := Bx.made w3 #[.string ⟨#[38]⟩, .string ⟨#[38]⟩, .bool true, .string ⟨#[61]⟩, .bool false] 24; obtain ⟨c0, c1, c2, c3, c4⟩ := cells5 X; obtain ⟨d0, d1, d2, d3, d4⟩ := cells5 Y; clear bb z T1))
  go_ret
  exact ⟨rfl, B⟩
theorem unlike_38 : ∀ m ∈ [0, 43, 35, 46, 47, 59, 63, 38], m ≠ 38 → ((⟨#[38]⟩ : ByteArray).toList == (⟨(rlN m).first.toArray⟩ : ByteArray).toList && (⟨#[38]⟩ : ByteArray).toList == (⟨(rlN m).sep.toArray⟩ : ByteArray).toList && true == (rlN m).named && (⟨#[61]⟩ : ByteArray).toList == (⟨(rlN m).empty.toArray⟩ : ByteArray).toList && false == (rlN m).keep) = false := by decide +kernel
set_option maxRecDepth 20000 in
set_option maxHeartbeats 4000000 in
theorem unlike_walk_38 (m : Int) (FB SB EB : ByteArray) (nb kb : Bool) (w : World) (g0 : 0 ≤ m) (hne : m ≠ 38) (go : opZ m.toNat = true) (Hs : Hid (rlV (rlN m.toNat) = .agg #[.string FB, .string SB, .bool nb, .string EB, .bool kb])) (hu : ((⟨#[38]⟩ : ByteArray).toList == FB.toList && (⟨#[38]⟩ : ByteArray).toList == SB.toList && true == nb && (⟨#[61]⟩ : ByteArray).toList == EB.toList && false == kb) = false) : Calls Try.prog 5 #[.int .u8 38, .int .u8 m] w fun e w' => e = .returned (.bool true) ∧ Below w.heap.size w w' := by
  have Go := hide go
  clear go
  have hg := guard24
  have T0 : Hid True := trivial
  have T1 : Hid True := trivial
  have he := eq24_is _ FB _ SB _ EB _ nb _ kb false hu
  clear hu
  have ht : ((38 : Int) == m) = false := by simp; omega
  go_enter Try.func5, Try.ntmps5
  go_wp2_with (first
    | (go_at_call 8; refine (awake_any _).mono ?_; rintro e w1 ⟨rfl, bb⟩; have B := bb; clear bb)
    | (go_at_call 9; have z := T0; refine (pof_yes 38 ⟨#[38]⟩ ⟨#[38]⟩ ⟨#[61]⟩ true false _ (by decide) (by decide) rfl).mono ?_; rintro e w2 ⟨rfl, bb⟩; replace B := b_more (b_then B bb) (.cells #[.string ⟨#[38]⟩, .string ⟨#[38]⟩, .bool true, .string ⟨#[61]⟩, .bool false] 24); have X := Bx.made w2 #[.string ⟨#[38]⟩, .string ⟨#[38]⟩, .bool true, .string ⟨#[61]⟩, .bool false] 24; obtain ⟨c0, c1, c2, c3, c4⟩ := cells5 X; clear bb z T0)
    | (go_at_call 9; have z := T1; refine (pof_yes m FB SB EB nb kb _ g0 Go.out Hs.out).mono ?_; rintro e w3 ⟨rfl, bb⟩; replace B := b_more (b_then B bb) (.cells #[.string FB, .string SB, .bool nb, .string EB, .bool kb] 24); replace X := (X.next bb).later (.cells #[.string FB, .string SB, .bool nb, .string EB, .bool kb] 24); have Y := Bx.made w3 #[.string FB, .string SB, .bool nb, .string EB, .bool kb] 24; obtain ⟨c0, c1, c2, c3, c4⟩ := cells5 X; obtain ⟨d0, d1, d2, d3, d4⟩ := cells5 Y; clear bb z T1))
  go_ret
  exact ⟨rfl, B⟩
theorem apart_walk (n m : Int) (w : World) (h0 : 0 ≤ n) (h1 : n ≤ 255) (g0 : 0 ≤ m) (g1 : m ≤ 255) : Calls Try.prog 5 #[.int .u8 n, .int .u8 m] w fun e w' => e = .returned (.bool true) ∧ Below w.heap.size w w' := by
  cases ho : opZ n.toNat with
  | false =>
    cases go : opZ m.toNat with
    | false => exact apart_nn n m w h0 h1 ho g0 g1 go
    | true => exact apart_ny n m _ _ _ _ _ w h0 h1 ho g0 go rfl
  | true =>
    cases go : opZ m.toNat with
    | false => exact apart_yn n m _ _ _ _ _ w h0 ho g0 g1 go rfl
    | true =>
      have hm : m.toNat ∈ [0, 43, 35, 46, 47, 59, 63, 38] := by
        rcases op_cases go with h | h | h | h | h | h | h | h <;> rw [h] <;> decide
      obtain ⟨k, rfl⟩ : ∃ k : Nat, n = (k : Int) := ⟨n.toNat, by omega⟩
      rw [Int.toNat_natCast] at ho
      rcases op_cases ho with rfl | rfl | rfl | rfl | rfl | rfl | rfl | rfl
      · by_cases e : m = 0
        · subst e; exact same_0 w
        · exact unlike_walk_0 m _ _ _ _ _ w g0 e go rfl (unlike_0 _ hm (by omega))
      · by_cases e : m = 43
        · subst e; exact same_43 w
        · exact unlike_walk_43 m _ _ _ _ _ w g0 e go rfl (unlike_43 _ hm (by omega))
      · by_cases e : m = 35
        · subst e; exact same_35 w
        · exact unlike_walk_35 m _ _ _ _ _ w g0 e go rfl (unlike_35 _ hm (by omega))
      · by_cases e : m = 46
        · subst e; exact same_46 w
        · exact unlike_walk_46 m _ _ _ _ _ w g0 e go rfl (unlike_46 _ hm (by omega))
      · by_cases e : m = 47
        · subst e; exact same_47 w
        · exact unlike_walk_47 m _ _ _ _ _ w g0 e go rfl (unlike_47 _ hm (by omega))
      · by_cases e : m = 59
        · subst e; exact same_59 w
        · exact unlike_walk_59 m _ _ _ _ _ w g0 e go rfl (unlike_59 _ hm (by omega))
      · by_cases e : m = 63
        · subst e; exact same_63 w
        · exact unlike_walk_63 m _ _ _ _ _ w g0 e go rfl (unlike_63 _ hm (by omega))
      · by_cases e : m = 38
        · subst e; exact same_38 w
        · exact unlike_walk_38 m _ _ _ _ _ w g0 e go rfl (unlike_38 _ hm (by omega))
end Go.Proofs.Ytkkgnmohhgcbiaa
