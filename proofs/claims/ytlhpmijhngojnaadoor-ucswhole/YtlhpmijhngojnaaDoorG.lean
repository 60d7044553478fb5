/-
  PLAIN LEAN, no program in it: the nineteen ranges that the program keeps, and the numbers whose bytes begin so (layer 4).
-/
import Derived.Test.YtlhpmijhngojnaaDoorV2
namespace Go.Proofs.YtlhpmijhngojnaaDoor
open Go.Lib

/-- the nineteen ranges -/
def rangeL : List (Int × Int) := [(160, 55295), (57344, 64975), (65008, 65519), (65536, 131069), (131072, 196605), (196608, 262141), (262144, 327677), (327680, 393213), (393216, 458749), (458752, 524285), (524288, 589821), (589824, 655357), (655360, 720893), (720896, 786429), (786432, 851965), (851968, 917501), (921600, 983037), (983040, 1048573), (1048576, 1114109)]
def loR (k : Nat) : Int := (rangeL.getD k (0, 0)).1
def hiR (k : Nat) : Int := (rangeL.getD k (0, 0)).2
def hitR (lo hi : Int) (k : Nat) : Bool := decide (max lo (loR k) ≤ min hi (hiR k))
def anyR (lo hi : Int) : Bool := (List.range 19).any (hitR lo hi)

theorem hit_iff (lo hi : Int) (k : Nat) : hitR lo hi k = true ↔ (lo ≤ hi ∧ lo ≤ hiR k ∧ loR k ≤ hi ∧ loR k ≤ hiR k) := by
  unfold hitR; rw [decide_eq_true_iff]; omega
theorem k19 {k : Nat} (h : k < 19) : k = 0 ∨ k = 1 ∨ k = 2 ∨ k = 3 ∨ k = 4 ∨ k = 5 ∨ k = 6 ∨ k = 7 ∨ k = 8 ∨ k = 9 ∨ k = 10 ∨ k = 11 ∨ k = 12 ∨ k = 13 ∨ k = 14 ∨ k = 15 ∨ k = 16 ∨ k = 17 ∨ k = 18 := by omega
theorem range_le {k : Nat} (h : k < 19) : loR k ≤ hiR k ∧ 160 ≤ loR k ∧ hiR k ≤ 1114109 := by
  rcases k19 h with rfl | rfl | rfl | rfl | rfl | rfl | rfl | rfl | rfl | rfl | rfl | rfl | rfl | rfl | rfl | rfl | rfl | rfl | rfl <;> decide
theorem range_may {k : Nat} (h : k < 19) {c : Int} (h0 : loR k ≤ c) (h1 : c ≤ hiR k) : mayU c = true := by
  rw [mayU_iff]
  rcases k19 h with rfl | rfl | rfl | rfl | rfl | rfl | rfl | rfl | rfl | rfl | rfl | rfl | rfl | rfl | rfl | rfl | rfl | rfl | rfl <;>
    simp only [loR, hiR, rangeL, List.getD_cons_zero, List.getD_cons_succ] at h0 h1 <;> omega
theorem may_range {c : Int} (h : mayU c = true) : ∃ k, k < 19 ∧ loR k ≤ c ∧ c ≤ hiR k := by
  rw [mayU_iff] at h
  rcases h with h | h | h | h
  · exact ⟨0, by decide, h.1, h.2⟩
  · exact ⟨1, by decide, h.1, h.2⟩
  · exact ⟨2, by decide, h.1, h.2⟩
  · obtain ⟨p, hp⟩ : ∃ p, c / 65536 = p := ⟨_, rfl⟩
    have h16 : p = 1 ∨ p = 2 ∨ p = 3 ∨ p = 4 ∨ p = 5 ∨ p = 6 ∨ p = 7 ∨ p = 8 ∨ p = 9 ∨ p = 10 ∨ p = 11 ∨ p = 12 ∨ p = 13 ∨ p = 14 ∨ p = 15 ∨ p = 16 := by omega
    rcases h16 with rfl | rfl | rfl | rfl | rfl | rfl | rfl | rfl | rfl | rfl | rfl | rfl | rfl | rfl | rfl | rfl
    · exact ⟨3, by decide, show (65536 : Int) ≤ c by omega, show c ≤ (131069 : Int) by omega⟩
    · exact ⟨4, by decide, show (131072 : Int) ≤ c by omega, show c ≤ (196605 : Int) by omega⟩
    · exact ⟨5, by decide, show (196608 : Int) ≤ c by omega, show c ≤ (262141 : Int) by omega⟩
    · exact ⟨6, by decide, show (262144 : Int) ≤ c by omega, show c ≤ (327677 : Int) by omega⟩
    · exact ⟨7, by decide, show (327680 : Int) ≤ c by omega, show c ≤ (393213 : Int) by omega⟩
    · exact ⟨8, by decide, show (393216 : Int) ≤ c by omega, show c ≤ (458749 : Int) by omega⟩
    · exact ⟨9, by decide, show (458752 : Int) ≤ c by omega, show c ≤ (524285 : Int) by omega⟩
    · exact ⟨10, by decide, show (524288 : Int) ≤ c by omega, show c ≤ (589821 : Int) by omega⟩
    · exact ⟨11, by decide, show (589824 : Int) ≤ c by omega, show c ≤ (655357 : Int) by omega⟩
    · exact ⟨12, by decide, show (655360 : Int) ≤ c by omega, show c ≤ (720893 : Int) by omega⟩
    · exact ⟨13, by decide, show (720896 : Int) ≤ c by omega, show c ≤ (786429 : Int) by omega⟩
    · exact ⟨14, by decide, show (786432 : Int) ≤ c by omega, show c ≤ (851965 : Int) by omega⟩
    · exact ⟨15, by decide, show (851968 : Int) ≤ c by omega, show c ≤ (917501 : Int) by omega⟩
    · exact ⟨16, by decide, show (921600 : Int) ≤ c by omega, show c ≤ (983037 : Int) by omega⟩
    · exact ⟨17, by decide, show (983040 : Int) ≤ c by omega, show c ≤ (1048573 : Int) by omega⟩
    · exact ⟨18, by decide, show (1048576 : Int) ≤ c by omega, show c ≤ (1114109 : Int) by omega⟩
theorem any_iff (lo hi : Int) : anyR lo hi = true ↔ ∃ c, lo ≤ c ∧ c ≤ hi ∧ mayU c = true := by
  unfold anyR
  rw [List.any_eq_true]
  constructor
  · rintro ⟨k, hk, h⟩
    have hk := List.mem_range.1 hk
    rw [hit_iff] at h
    exact ⟨max lo (loR k), by omega, by omega, range_may hk (by omega) (by omega)⟩
  · rintro ⟨c, h0, h1, h2⟩
    obtain ⟨k, hk, h3, h4⟩ := may_range h2
    exact ⟨k, List.mem_range.2 hk, (hit_iff _ _ _).2 ⟨by omega, by omega, by omega, (range_le hk).1⟩⟩
theorem any_may (c : Int) : anyR c c = mayU c := by
  rw [Bool.eq_iff_iff, any_iff]
  constructor
  · rintro ⟨d, h0, h1, h2⟩
    obtain rfl : d = c := by omega
    exact h2
  · intro h; exact ⟨c, by omega, by omega, h⟩
/-- none so far -/
def noneR (lo hi : Int) (k : Nat) : Prop := ∀ j, j < k → hitR lo hi j = false
theorem none_next {lo hi : Int} {k : Nat} (h : noneR lo hi k) (hk : hitR lo hi k = false) : noneR lo hi (k + 1) := by
  intro j hj
  by_cases e : j = k
  · rw [e]; exact hk
  · exact h j (by omega)
theorem none_all {lo hi : Int} (h : noneR lo hi 19) : anyR lo hi = false := by
  unfold anyR
  rw [List.any_eq_false]
  intro j hj
  rw [h j (List.mem_range.1 hj)]; simp
theorem hit_any {lo hi : Int} {k : Nat} (hk : k < 19) (h : hitR lo hi k = true) : anyR lo hi = true := by
  unfold anyR
  rw [List.any_eq_true]
  exact ⟨k, List.mem_range.2 hk, h⟩

/-! ### The numbers whose bytes begin so -/
def lowN (s : List UInt8) : Int :=
  match s with
  | [] => 0
  | b :: t => if sizeN b.toNat < t.length + 1 ∨ t.all contB = false then 0 else max (accN (leadN (sizeN b.toNat) b.toNat) t * 64 ^ (sizeN b.toNat - (t.length + 1)) : Nat) (leastN (sizeN b.toNat) : Nat)
def highN (s : List UInt8) : Int :=
  match s with
  | [] => -1
  | b :: t => if sizeN b.toNat < t.length + 1 ∨ t.all contB = false then -1 else ((accN (leadN (sizeN b.toNat) b.toNat) t * 64 ^ (sizeN b.toNat - (t.length + 1)) + (64 ^ (sizeN b.toNat - (t.length + 1)) - 1) : Nat) : Int)

theorem acc_bound (c : Nat) (l : List UInt8) (h : l.all contB = true) : accN c l < (c + 1) * 64 ^ l.length := by
  unfold accN
  induction l generalizing c with
  | nil => simp
  | cons x t ih =>
    simp only [List.all_cons, Bool.and_eq_true] at h
    have hx := (cont_iff x).1 h.1
    have := ih (64 * c + (x.toNat - 128)) h.2
    simp only [List.foldl_cons, List.length_cons]
    refine Nat.lt_of_lt_of_le this ?_
    rw [Nat.pow_succ, Nat.mul_comm (64 ^ t.length) 64, ← Nat.mul_assoc]
    exact Nat.mul_le_mul_right _ (by omega)

theorem any_fit (s : List UInt8) (hne : s ≠ []) : anyR (lowN s) (highN s) = fitB s := by
  match s, hne with
  | b :: t, _ =>
    by_cases hz : sizeN b.toNat < t.length + 1
    · have e1 : lowN (b :: t) = 0 := by simp only [lowN]; rw [if_pos (.inl hz)]
      have e2 : highN (b :: t) = -1 := by simp only [highN]; rw [if_pos (.inl hz)]
      have e3 : fitB (b :: t) = false := by
        simp only [fitB]
        rw [show decide (t.length + 1 ≤ sizeN b.toNat) = false by rw [decide_eq_false_iff_not]; omega]
        simp
      rw [e1, e2, e3]
      decide +kernel
    · cases ha : t.all contB with
      | false =>
        have e1 : lowN (b :: t) = 0 := by simp only [lowN]; rw [if_pos (.inr ha)]
        have e2 : highN (b :: t) = -1 := by simp only [highN]; rw [if_pos (.inr ha)]
        have e3 : fitB (b :: t) = false := by simp only [fitB]; rw [ha]; simp
        rw [e1, e2, e3]
        decide +kernel
      | true =>
        have hn : ¬ (sizeN b.toNat < t.length + 1 ∨ t.all contB = false) := by rw [ha]; simp; omega
        simp only [lowN, highN, fitB]
        rw [if_neg hn, if_neg hn, ha, show decide (t.length + 1 ≤ sizeN b.toNat) = true by rw [decide_eq_true_iff]; omega, show decide (sizeN b.toNat ≠ 0) = true by rw [decide_eq_true_iff]; omega]
        simp only [Bool.and_true, Bool.true_and]
        have hb := acc_bound (leadN (sizeN b.toNat) b.toNat) t ha
        rw [Bool.eq_iff_iff, any_iff, some_iff _ _ (by
          have : mostN (sizeN b.toNat) < 2000000 := by unfold mostN; (repeat' split) <;> omega
          omega)]
        have hpow : 64 ^ t.length * 64 ^ (sizeN b.toNat - (t.length + 1)) = 64 ^ (sizeN b.toNat - 1) := by rw [← Nat.pow_add]; congr 1; omega
        have hhi : accN (leadN (sizeN b.toNat) b.toNat) t * 64 ^ (sizeN b.toNat - (t.length + 1)) + (64 ^ (sizeN b.toNat - (t.length + 1)) - 1) < (leadN (sizeN b.toNat) b.toNat + 1) * 64 ^ (sizeN b.toNat - 1) := by
          rw [← hpow, ← Nat.mul_assoc]
          have h1 := Nat.mul_le_mul_right (64 ^ (sizeN b.toNat - (t.length + 1))) (Nat.succ_le_of_lt hb)
          have h2 : 0 < 64 ^ (sizeN b.toNat - (t.length + 1)) := Nat.pow_pos (by decide)
          rw [Nat.succ_mul] at h1
          omega
        generalize accN (leadN (sizeN b.toNat) b.toNat) t * 64 ^ (sizeN b.toNat - (t.length + 1)) = lo at *
        generalize 64 ^ (sizeN b.toNat - (t.length + 1)) - 1 = d at *
        have hm : ∀ c, mayU c = true → c ≤ ((lo + d : Nat) : Int) → c ≤ (mostN (sizeN b.toNat) : Int) := by
          intro c hc hcd
          have := (mayU_may hc).2
          rcases size_is b.toNat with e | e | e | e
          · omega
          · have := size_two e
            rw [e] at hhi ⊢
            simp [leadN, mostN] at hhi ⊢
            omega
          · have := size_three e
            rw [e] at hhi ⊢
            simp [leadN, mostN] at hhi ⊢
            omega
          · rw [e]; simp [mostN]; omega
        constructor
        · rintro ⟨c, h0, h1, h2⟩
          exact ⟨c, h0, by have := hm c h2 h1; omega, h2⟩
        · rintro ⟨c, h0, h1, h2⟩
          exact ⟨c, h0, by omega, h2⟩
end Go.Proofs.YtlhpmijhngojnaaDoor
