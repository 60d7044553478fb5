/-
  WALKS: the reference's tail and One.
-/
import Derived.Test.YtikhggdigndhoaauL6
namespace Go.Proofs.Ytikhggdigndhoaau
open Go.RowKit Go.Lib

set_option maxHeartbeats 400000 in
theorem tail0 (c : Int) (w : World) (h0 : 0 ≤ c) (h1 : c ≤ 1114111) :
    Calls Try.prog 55 #[.int .i64 c, .int .i64 0] w fun e w' => e = .returned (.int .u8 (128 + c % 64)) ∧ w' = w := by
  go_enter Try.func55, Try.ntmps55
  go_wp2
  refine wp_loop_rounds 1 ?_
  rw [rounds_succ]
  go_wp2
  go_ret
  exact ⟨rfl, rfl⟩
set_option maxHeartbeats 400000 in
theorem tail1 (c : Int) (w : World) (h0 : 0 ≤ c) (h1 : c ≤ 1114111) :
    Calls Try.prog 55 #[.int .i64 c, .int .i64 1] w fun e w' => e = .returned (.int .u8 (128 + c / 64 % 64)) ∧ w' = w := by
  go_enter Try.func55, Try.ntmps55
  go_wp2
  refine wp_loop_rounds 2 ?_
  rw [rounds_succ]
  go_wp2
  rw [rounds_succ]
  go_wp2
  go_ret
  exact ⟨rfl, rfl⟩

set_option maxHeartbeats 400000 in
theorem tail2 (c : Int) (w : World) (h0 : 0 ≤ c) (h1 : c ≤ 1114111) :
    Calls Try.prog 55 #[.int .i64 c, .int .i64 2] w fun e w' => e = .returned (.int .u8 (128 + c / 64 / 64 % 64)) ∧ w' = w := by
  go_enter Try.func55, Try.ntmps55
  go_wp2
  refine wp_loop_rounds 3 ?_
  rw [rounds_succ]
  go_wp2
  rw [rounds_succ]
  go_wp2
  rw [rounds_succ]
  go_wp2
  go_ret
  exact ⟨rfl, rfl⟩

/-- what tail answers, for the three places that One asks -/
def tailV (c n : Int) : Int := if n = 0 then 128 + c % 64 else if n = 1 then 128 + c / 64 % 64 else 128 + c / 4096 % 64
theorem tail_any (c n : Int) (w : World) (h0 : 0 ≤ c) (h1 : c ≤ 1114111) (hn : n = 0 ∨ n = 1 ∨ n = 2) :
    Calls Try.prog 55 #[.int .i64 c, .int .i64 n] w fun e w' => e = .returned (.int .u8 (tailV c n)) ∧ w' = w := by
  rcases hn with rfl | rfl | rfl
  · exact tail0 c w h0 h1
  · exact tail1 c w h0 h1
  · have e : tailV c 2 = 128 + c / 64 / 64 % 64 := by simp [tailV]; omega
    rw [e]
    exact tail2 c w h0 h1

theorem conv_rune (c : Int) (w : World) (C : Array Value) (n : Nat) (hC : C = (runeCells c).toArray) (hn : n = (encodeRune c).length) :
    (convert 59 9 (.slice (some ⟨w.heap.size, 0, none⟩) n n)).run Try.prog (w.alloc (.cells C 5)) = .ok (.string ⟨(encodeRune c).toArray⟩) (w.alloc (.cells C 5)) := by
  subst hn hC
  refine run_convert_bytes_back _ 59 9 5 ⟨w.heap.size, 0, none⟩ _ (encodeRune c) Try.underlying59 Try.underlying5 Try.underlying9 ?_
  intro j hj
  rw [show (⟨w.heap.size, 0, none⟩ : Addr).add j = ⟨w.heap.size, j, none⟩ by simp [Addr.add]; omega, World.cell?_alloc_mark, ← byteCells_encodeRune]
  simp [byteCells, hj]

set_option maxHeartbeats 400000 in
theorem one_a (c : Int) (w : World) (h0 : 0 ≤ c) (h1 : c < 128) :
    Calls Try.prog 53 #[.int .i64 c] w fun e w' => e = .returned (.string ⟨(encodeRune c).toArray⟩) ∧ Below w.heap.size w w' := by
  have ez := encodeRuneZ_one h0 (show c ≤ 127 by omega)
  have hcv := conv_rune c w #[.int .u8 c] 1 (by simp [runeCells, ez]) (by simp [encodeRune, ez])
  clear ez
  go_enter Try.func53, Try.ntmps53
  go_wp2
  go_ret
  exact ⟨rfl, (Below.refl _ _).alloc (Nat.le_refl _) _⟩
set_option maxHeartbeats 400000 in
theorem one_b (c : Int) (w : World) (h0 : 128 ≤ c) (h1 : c < 2048) :
    Calls Try.prog 53 #[.int .i64 c] w fun e w' => e = .returned (.string ⟨(encodeRune c).toArray⟩) ∧ Below w.heap.size w w' := by
  have ez := encodeRuneZ_two h0 (show c ≤ 2047 by omega)
  have hcv := conv_rune c w #[.int .u8 (192 + c / 64), .int .u8 (128 + c % 64)] 2 (by simp [runeCells, ez]) (by simp [encodeRune, ez])
  have e0 : tailV c 0 = 128 + c % 64 := rfl
  clear ez
  go_enter Try.func53, Try.ntmps53
  go_wp2_with (go_at_call 55; refine (tail_any _ _ _ (by omega) (by omega) (by omega)).mono ?_; rintro e w' ⟨rfl, hw⟩; rw [hw])
  go_ret
  exact ⟨rfl, (Below.refl _ _).alloc (Nat.le_refl _) _⟩
set_option maxHeartbeats 400000 in
theorem one_c (c : Int) (w : World) (h0 : 2048 ≤ c) (h1 : c < 65536) (hs : c < 55296 ∨ 57343 < c) :
    Calls Try.prog 53 #[.int .i64 c] w fun e w' => e = .returned (.string ⟨(encodeRune c).toArray⟩) ∧ Below w.heap.size w w' := by
  have ez := encodeRuneZ_three (r := c) (by omega)
  have hcv := conv_rune c w #[.int .u8 (224 + c / 4096), .int .u8 (128 + c / 64 % 64), .int .u8 (128 + c % 64)] 3 (by simp [runeCells, ez]) (by simp [encodeRune, ez])
  have e0 : tailV c 0 = 128 + c % 64 := rfl
  have e1 : tailV c 1 = 128 + c / 64 % 64 := rfl
  clear ez
  go_enter Try.func53, Try.ntmps53
  go_wp2_with (go_at_call 55; refine (tail_any _ _ _ (by omega) (by omega) (by omega)).mono ?_; rintro e w' ⟨rfl, hw⟩; rw [hw])
  go_ret
  exact ⟨rfl, (Below.refl _ _).alloc (Nat.le_refl _) _⟩
set_option maxHeartbeats 400000 in
theorem one_d (c : Int) (w : World) (h0 : 65536 ≤ c) (h1 : c ≤ 1114111) :
    Calls Try.prog 53 #[.int .i64 c] w fun e w' => e = .returned (.string ⟨(encodeRune c).toArray⟩) ∧ Below w.heap.size w w' := by
  have ez := encodeRuneZ_four h0 h1
  have hcv := conv_rune c w #[.int .u8 (240 + c / 262144), .int .u8 (128 + c / 4096 % 64), .int .u8 (128 + c / 64 % 64), .int .u8 (128 + c % 64)] 4 (by simp [runeCells, ez]) (by simp [encodeRune, ez])
  have e0 : tailV c 0 = 128 + c % 64 := rfl
  have e1 : tailV c 1 = 128 + c / 64 % 64 := rfl
  have e2 : tailV c 2 = 128 + c / 4096 % 64 := rfl
  clear ez
  go_enter Try.func53, Try.ntmps53
  go_wp2_with (go_at_call 55; refine (tail_any _ _ _ (by omega) (by omega) (by omega)).mono ?_; rintro e w' ⟨rfl, hw⟩; rw [hw])
  go_ret
  exact ⟨rfl, (Below.refl _ _).alloc (Nat.le_refl _) _⟩

/-- the reference's One, at a character -/
theorem one_any (c : Int) (w : World) (h : mayB c = true) :
    Calls Try.prog 53 #[.int .i64 c] w fun e w' => e = .returned (.string ⟨(encodeRune c).toArray⟩) ∧ Below w.heap.size w w' := by
  rw [mayB_iff] at h
  by_cases h1 : c < 128
  · exact one_a c w h.1 h1
  by_cases h2 : c < 2048
  · exact one_b c w (by omega) h2
  by_cases h3 : c < 65536
  · exact one_c c w (by omega) h3 h.2.2
  · exact one_d c w (by omega) h.2.1
end Go.Proofs.Ytikhggdigndhoaau
