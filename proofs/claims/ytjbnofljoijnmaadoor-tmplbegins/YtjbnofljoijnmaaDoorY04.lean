/-
  Joined by program out of the texts uW7 uW8 uW9.
-/
import Derived.Test.YtjbnofljoijnmaaDoorY03
import Derived.Test.YtjbnofljoijnmaaDoorY01
import Derived.Deep.RegionWith
import Derived.Deep.QuietTactic
import Derived.BigQuiet
import Derived.Test.YtjbnofljoijnmaaDoorY02
/-
  WALKS: the reference's First.
-/
namespace Go.Proofs.YtjbnofljoijnmaaDooru
open Go.RowKit
open Go.Lib (encodeRune)

theorem no_next {l : List UInt8} {n : Nat} (hno : ∀ j, 1 ≤ j → j ≤ n → hit l j = false) (h : hit l (n + 1) = false) : ∀ j, 1 ≤ j → j ≤ n + 1 → hit l j = false := by
  intro j h1 h2
  by_cases e : j = n + 1
  · rw [e]; exact h
  · exact hno j h1 (by omega)
theorem miss_may {l : List UInt8} {n : Nat} {x : Int} (hx : cand l n = x) (hm : mayB x = false) : hit l n = false := by simp [hit, hx, hm]
theorem hit_is {s : ByteArray} {n : Nat} {x : Int} {b : Bool} (hx : cand s.data.toList n = x) (hm : mayB x = true) (h : (encodeRune x == (s.extract 0 n).toList) = b) : hit s.data.toList n = b := by
  rw [Lib.extract_toList] at h
  rw [← h]
  simp [hit, hx, hm]
theorem byte_getD (s : ByteArray) (n : Nat) (h : n < s.size) : s.data.toList.getD n 0 = s[n]'h := by
  rw [List.getD_eq_getElem?_getD, List.getElem?_eq_getElem (by simpa using h)]
  rfl
theorem cand_one (s : ByteArray) (h : 0 < s.size) : cand s.data.toList 1 = lead (s[0]'h).toNat := by
  rw [cand, byte_getD s 0 h]
theorem cand_next (s : ByteArray) (n : Nat) (h : n < s.size) (h1 : 1 ≤ n) : cand s.data.toList (n + 1) = 64 * cand s.data.toList n + ((s[n]'h).toNat : Int) % 64 := by
  obtain ⟨m, rfl⟩ : ∃ m, n = m + 1 := ⟨n - 1, by omega⟩
  rw [cand, byte_getD s (m + 1) h]
theorem first_end {s : ByteArray} {n : Nat} (hno : ∀ j, 1 ≤ j → j ≤ n → hit s.data.toList j = false) (h : n = 4 ∨ n = s.size) : firstC s.data.toList = 0 ∧ firstN s.data.toList = 0 := by
  apply first_miss
  intro j h1 h2 h3
  apply hno j h1
  simp at h3
  omega
theorem ret_two {a b c d : Int} (h1 : a = c) (h2 : b = d) : Ending.returned (.tuple #[.int .i64 a, .int .i64 b]) = .returned (.tuple #[.int .i64 c, .int .i64 d]) := by rw [h1, h2]

end Go.Proofs.YtjbnofljoijnmaaDooru

/-
  WALKS: the reference's May, Take, size and some (layer 4).
-/
namespace Go.Proofs.YtjbnofljoijnmaaDooru
open Go.RowKit YtjbnofljoijnmaaDoor

theorem next_bd (lo : Int) (h : lo ≤ 2000000) : lo ≤ nextU lo ∧ nextU lo ≤ 2000000 := by
  unfold nextU
  (repeat' split) <;> omega

end Go.Proofs.YtjbnofljoijnmaaDooru

/-
  WALKS: the reference's Fits (layer 4).
-/
namespace Go.Proofs.YtjbnofljoijnmaaDooru
open Go.RowKit

theorem list_one (s : ByteArray) (h : 0 < s.size) : s.data.toList = s[0] :: s.data.toList.drop 1 := by
  have e1 : s.data.toList.length = s.size := by simp
  exact (List.drop_eq_getElem_cons (l := s.data.toList) (i := 0) (by omega))
theorem list_none (s : ByteArray) (h : ¬ 0 < s.size) : s.data.toList = [] := by
  have e1 : s.data.toList.length = s.size := by simp
  exact List.eq_nil_of_length_eq_zero (by omega)
theorem eq_some (x : ByteArray) (h : 0 < x.size) : x.toList.isEmpty = false := by
  rw [Lib.toList_data, list_one x h]; rfl
theorem eq_none (x : ByteArray) (h : ¬ 0 < x.size) : x.toList.isEmpty = true := by
  rw [Lib.toList_data, list_none x h]; rfl
theorem fit_empty (s : ByteArray) (h : ¬ 0 < s.size) : fitB s.data.toList = false := by rw [list_none s h]; rfl
theorem fit_size0 (s : ByteArray) (h : 0 < s.size) (hz : sizeN s[0].toNat = 0) : fitB s.data.toList = false := by
  rw [list_one s h]; simp [fitB, hz]
theorem fit_long (s : ByteArray) (h : 0 < s.size) (hz : sizeN s[0].toNat < s.size) : fitB s.data.toList = false := by
  rw [list_one s h]
  have e1 : (s.data.toList.drop 1).length + 1 = s.size := by simp; omega
  unfold fitB
  simp only
  rw [e1, show decide (s.size ≤ sizeN s[0].toNat) = false by simp; omega]
  simp
theorem drop_snoc (s : ByteArray) (j : Nat) (h1 : 1 ≤ j) (h : j < s.size) : (s.data.toList.drop 1).take j = (s.data.toList.drop 1).take (j - 1) ++ [s[j]] := by
  obtain ⟨k, rfl⟩ : ∃ k, j = k + 1 := ⟨j - 1, by omega⟩
  rw [show k + 1 - 1 = k by omega, List.take_succ_eq_append_getElem (by simp; omega)]
  simp
  rfl
theorem fit_cont (s : ByteArray) (j : Nat) (h1 : 1 ≤ j) (h : j < s.size) (hc : contB s[j] = false) : fitB s.data.toList = false := by
  rw [list_one s (by omega)]
  have : (s.data.toList.drop 1).all contB = false := by
    rw [List.all_eq_false]
    refine ⟨s[j], ?_, by rw [hc]; simp⟩
    have := drop_snoc s j h1 h
    have hm : s[j] ∈ (s.data.toList.drop 1).take j := by rw [this]; simp
    exact List.mem_of_mem_take hm
  unfold fitB
  simp only
  rw [this]
  simp
theorem acc_snoc (c : Nat) (l : List UInt8) (x : UInt8) : accN c (l ++ [x]) = 64 * accN c l + (x.toNat - 128) := by
  unfold accN; rw [List.foldl_append]; rfl
theorem acc_le (c : Nat) (l : List UInt8) : accN c l + 3 ≤ (c + 3) * 64 ^ l.length := by
  induction l generalizing c with
  | nil => simp [accN]
  | cons x t ih =>
    have h1 : accN c (x :: t) = accN (64 * c + (x.toNat - 128)) t := by unfold accN; rw [List.foldl_cons]
    have h2 := ih (64 * c + (x.toNat - 128))
    have h3 := UInt8.toNat_lt x
    rw [h1, List.length_cons, Nat.pow_succ]
    refine Nat.le_trans h2 ?_
    rw [← Nat.mul_assoc, Nat.mul_right_comm]
    apply Nat.mul_le_mul_right
    omega
theorem acc_bd {c : Nat} {l : List UInt8} (hc : c ≤ 31) (hl : l.length ≤ 3) : accN c l ≤ 9000000 := by
  have h1 := acc_le c l
  have h2 : 64 ^ l.length ≤ 64 ^ 3 := Nat.pow_le_pow_right (by decide) hl
  have h3 : (c + 3) * 64 ^ l.length ≤ 34 * 64 ^ 3 := Nat.mul_le_mul (by omega) h2
  omega
theorem acc_pow {c : Nat} {l : List UInt8} {m : Nat} (hc : c ≤ 31) (hl : l.length + m ≤ 3) : accN c l * 64 ^ m + 64 ^ m ≤ 9000000 := by
  have h1 := acc_le c l
  have h2 : (accN c l + 1) * 64 ^ m ≤ 34 * 64 ^ l.length * 64 ^ m := Nat.mul_le_mul_right _ (by
    have : (c + 3) * 64 ^ l.length ≤ 34 * 64 ^ l.length := Nat.mul_le_mul_right _ (by omega)
    omega)
  have h3 : 64 ^ l.length * 64 ^ m ≤ 64 ^ 3 := by rw [← Nat.pow_add]; exact Nat.pow_le_pow_right (by decide) hl
  rw [Nat.mul_assoc] at h2
  have h4 : 34 * (64 ^ l.length * 64 ^ m) ≤ 34 * 64 ^ 3 := Nat.mul_le_mul_left _ h3
  rw [Nat.add_mul, Nat.one_mul] at h2
  omega
theorem lead_le {n b : Nat} (hb : sizeN b = n) (h0 : n ≠ 0) : leadN n b ≤ 31 := by
  unfold sizeN at hb
  unfold leadN
  (repeat' split at hb) <;> (repeat' split) <;> omega
theorem size_bounds {n b : Nat} (h : sizeN b = n) : (n = 2 → 192 ≤ b ∧ b < 224) ∧ (n = 3 → 224 ≤ b ∧ b < 240) ∧ (n = 4 → 240 ≤ b ∧ b ≤ 247) := by
  subst h
  exact ⟨size_two, size_three, size_four⟩
theorem pow_next (m : Nat) : 64 ^ (m + 1) = 64 * 64 ^ m := by rw [Nat.pow_succ, Nat.mul_comm]
theorem cont_no {c : UInt8} (h : contB c = false) : c.toNat < 128 ∨ 191 < c.toNat := by
  apply Classical.byContradiction
  intro hn
  have : contB c = true := by rw [cont_iff]; omega
  rw [this] at h
  cases h

/-- the whole of it -/
theorem fit_all (s : ByteArray) (h : 0 < s.size) (n : Nat) (hn : sizeN s[0].toNat = n) (h0 : n ≠ 0) (hl : s.size ≤ n) (hc : (s.data.toList.drop 1).all contB = true) (a k : Nat) (ha : accN (leadN n s[0].toNat) (s.data.toList.drop 1) = a) (hk : 64 ^ (n - s.size) = k) :
    fitB s.data.toList = someU (max (a * k : Nat) (leastN n)) (min (a * k + (k - 1) : Nat) (mostN n)) := by
  rw [list_one s h]
  have e1 : (s.data.toList.drop 1).length + 1 = s.size := by simp; omega
  unfold fitB
  simp only
  rw [hn, e1, hc, ha, hk]
  simp [h0, hl]
end Go.Proofs.YtjbnofljoijnmaaDooru
