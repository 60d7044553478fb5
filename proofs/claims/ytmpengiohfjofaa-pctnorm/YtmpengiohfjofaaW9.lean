/-
  WALKS: awake; the reference's classes.
-/
import Derived.Test.YtmpengiohfjofaaW8
namespace Go.Proofs.Ytmpengiohfjofaa
open Go.RowKit

theorem digit_len : lenQ digitQ = 10 := by decide +kernel
theorem res_len : lenQ resQ = 18 := by decide +kernel
theorem digit_list : listQ digitQ = [48, 49, 50, 51, 52, 53, 54, 55, 56, 57] := by decide +kernel
theorem digit_55 : digitQ.has (55 : Int).toNat = true := by decide +kernel
theorem digit_97 : digitQ.has (97 : Int).toNat = false := by decide +kernel

theorem digit_fin : ∀ c : Fin 256, digitQ.has c.val = decide (48 ≤ c.val ∧ c.val ≤ 57) := by decide +kernel
theorem alpha_fin : ∀ c : Fin 256, alphaQ.has c.val = decide (65 ≤ c.val ∧ c.val ≤ 90 ∨ 97 ≤ c.val ∧ c.val ≤ 122) := by decide +kernel
theorem hex_fin : ∀ c : Fin 256, hexQ.has c.val = (digitQ.has c.val || decide (65 ≤ c.val ∧ c.val ≤ 70 ∨ 97 ≤ c.val ∧ c.val ≤ 102)) := by decide +kernel
theorem word_fin : ∀ c : Fin 256, wordQ.has c.val = (alphaQ.has c.val || digitQ.has c.val || decide (c.val = 95)) := by decide +kernel
theorem unres_fin : ∀ c : Fin 256, unresQ.has c.val = (alphaQ.has c.val || digitQ.has c.val || inB unmarks c.val) := by decide +kernel
theorem res_fin : ∀ c : Fin 256, resQ.has c.val = inB remarks c.val := by decide +kernel
theorem lit_fin : ∀ c : Fin 256, litQ.has c.val = (decide (33 ≤ c.val ∧ c.val ≤ 126) && !inB nomarks c.val) := by decide +kernel

theorem digit_of (c : Int) (h0 : 0 ≤ c) (h1 : c ≤ 255) : digitQ.has c.toNat = decide (48 ≤ c ∧ c ≤ 57) := by
  have := digit_fin ⟨c.toNat, by omega⟩
  simp only at this
  rw [this, Bool.eq_iff_iff]; simp; omega
theorem alpha_of (c : Int) (h0 : 0 ≤ c) (h1 : c ≤ 255) : alphaQ.has c.toNat = decide (65 ≤ c ∧ c ≤ 90 ∨ 97 ≤ c ∧ c ≤ 122) := by
  have := alpha_fin ⟨c.toNat, by omega⟩
  simp only at this
  rw [this, Bool.eq_iff_iff]; simp; omega
theorem hex_of (c : Int) (h0 : 0 ≤ c) (h1 : c ≤ 255) : hexQ.has c.toNat = (digitQ.has c.toNat || decide (65 ≤ c ∧ c ≤ 70 ∨ 97 ≤ c ∧ c ≤ 102)) := by
  have := hex_fin ⟨c.toNat, by omega⟩
  simp only at this
  rw [this]
  congr 1
  rw [Bool.eq_iff_iff]; simp; omega
theorem word_of (c : Int) (h0 : 0 ≤ c) (h1 : c ≤ 255) : wordQ.has c.toNat = (alphaQ.has c.toNat || digitQ.has c.toNat || (c == 95)) := by
  have := word_fin ⟨c.toNat, by omega⟩
  simp only at this
  rw [this]
  congr 1
  rw [Bool.eq_iff_iff]; simp; omega
theorem unres_of (c : Int) (h0 : 0 ≤ c) (h1 : c ≤ 255) : unresQ.has c.toNat = (alphaQ.has c.toNat || digitQ.has c.toNat || inB unmarks c.toNat) := unres_fin ⟨c.toNat, by omega⟩
theorem res_of (c : Int) (h0 : 0 ≤ c) (h1 : c ≤ 255) : resQ.has c.toNat = inB remarks c.toNat := res_fin ⟨c.toNat, by omega⟩
theorem lit_of (c : Int) (h0 : 0 ≤ c) (h1 : c ≤ 255) : litQ.has c.toNat = (decide (33 ≤ c ∧ c ≤ 126) && !inB nomarks c.toNat) := by
  have := lit_fin ⟨c.toNat, by omega⟩
  simp only at this
  rw [this]
  congr 1
  rw [Bool.eq_iff_iff]; simp; omega

set_option maxHeartbeats 400000 in
theorem rdigit_any (c : Int) (w : World) (h0 : 0 ≤ c) (h1 : c ≤ 255) : Calls Try.prog 43 #[.int .u8 c] w fun e w' => e = .returned (.bool (digitQ.has c.toNat)) ∧ w' = w := by
  rw [digit_of c h0 h1]
  go_enter Try.func43, Try.ntmps43
  go_wp2
  all_goals go_ret
  all_goals refine ⟨ret_bool ?_, rfl⟩
  all_goals simp [*]
  all_goals omega
set_option maxHeartbeats 400000 in
theorem ralpha_any (c : Int) (w : World) (h0 : 0 ≤ c) (h1 : c ≤ 255) : Calls Try.prog 42 #[.int .u8 c] w fun e w' => e = .returned (.bool (alphaQ.has c.toNat)) ∧ w' = w := by
  rw [alpha_of c h0 h1]
  go_enter Try.func42, Try.ntmps42
  go_wp2
  all_goals go_ret
  all_goals refine ⟨ret_bool ?_, rfl⟩
  all_goals simp [*]
  all_goals omega
theorem rdigit_is (c : Int) (b : Bool) (w : World) (h0 : 0 ≤ c) (h1 : c ≤ 255) (h : digitQ.has c.toNat = b) : Calls Try.prog 43 #[.int .u8 c] w fun e w' => e = .returned (.bool b) ∧ w' = w := by
  subst h; exact rdigit_any c w h0 h1
theorem ralpha_is (c : Int) (b : Bool) (w : World) (h0 : 0 ≤ c) (h1 : c ≤ 255) (h : alphaQ.has c.toNat = b) : Calls Try.prog 42 #[.int .u8 c] w fun e w' => e = .returned (.bool b) ∧ w' = w := by
  subst h; exact ralpha_any c w h0 h1
theorem in_is (l : List UInt8) (a : Array UInt8) (c : Int) (b : Bool) (w : World) (hl : a.toList = l) (hs : a.size ≤ 2000) (h0 : 0 ≤ c) (h : inB l c.toNat = b) : Calls Try.prog 44 #[.string ⟨a⟩, .int .u8 c] w fun e w' => e = .returned (.bool b) ∧ w' = w := by
  subst hl h; exact in_any ⟨a⟩ c w (by show a.size ≤ _; unfold maxLen; omega) h0

set_option maxHeartbeats 400000 in
theorem rhex_any (c : Int) (w : World) (h0 : 0 ≤ c) (h1 : c ≤ 255) : Calls Try.prog 25 #[.int .u8 c] w fun e w' => e = .returned (.bool (hexQ.has c.toNat)) ∧ w' = w := by
  rw [hex_of c h0 h1]
  cases hb : digitQ.has c.toNat
  all_goals
    have Hb := hide hb
    clear hb
    go_enter Try.func25, Try.ntmps25
    go_wp2_with (go_at_call 43; refine (rdigit_is _ _ _ h0 h1 Hb.out).mono ?_; rintro e w' ⟨rfl, hw⟩; rw [hw])
    all_goals go_ret
    all_goals refine ⟨ret_bool ?_, rfl⟩
    all_goals simp [*]
    all_goals omega
set_option maxHeartbeats 400000 in
theorem runres_any (c : Int) (w : World) (h0 : 0 ≤ c) (h1 : c ≤ 255) : Calls Try.prog 23 #[.int .u8 c] w fun e w' => e = .returned (.bool (unresQ.has c.toNat)) ∧ w' = w := by
  rw [unres_of c h0 h1]
  cases ha : alphaQ.has c.toNat <;> cases hb : digitQ.has c.toNat <;> cases hc : inB unmarks c.toNat
  all_goals
    have Ha := hide ha
    have Hb := hide hb
    have Hc := hide hc
    clear hb ha hc
    go_enter Try.func23, Try.ntmps23
    go_wp2_with (first | (go_at_call 43; refine (rdigit_is _ _ _ h0 h1 Hb.out).mono ?_; rintro e w' ⟨rfl, hw⟩; rw [hw]) | (go_at_call 42; refine (ralpha_is _ _ _ h0 h1 Ha.out).mono ?_; rintro e w' ⟨rfl, hw⟩; rw [hw]) | (go_at_call 44; refine (in_is unmarks _ _ _ _ rfl (by decide) h0 Hc.out).mono ?_; rintro e w' ⟨rfl, hw⟩; rw [hw]))
    go_ret
    exact ⟨rfl, rfl⟩
set_option maxHeartbeats 400000 in
theorem rres_any (c : Int) (w : World) (h0 : 0 ≤ c) (h1 : c ≤ 255) : Calls Try.prog 24 #[.int .u8 c] w fun e w' => e = .returned (.bool (resQ.has c.toNat)) ∧ w' = w := by
  rw [res_of c h0 h1]
  cases hc : inB remarks c.toNat
  all_goals
    have Hc := hide hc
    clear hc
    go_enter Try.func24, Try.ntmps24
    go_wp2_with (go_at_call 44; refine (in_is remarks _ _ _ _ rfl (by decide) h0 Hc.out).mono ?_; rintro e w' ⟨rfl, hw⟩; rw [hw])
    go_ret
    exact ⟨rfl, rfl⟩
end Go.Proofs.Ytmpengiohfjofaa
