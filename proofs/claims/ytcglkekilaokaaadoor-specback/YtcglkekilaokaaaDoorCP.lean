/-
  PLAIN LEAN, no program in it: how bits.OnesCount64 counts.
-/
import Derived.Test.YtcglkekilaokaaaDoorCQ
namespace Go.Proofs.YtcglkekilaokaaaDoorC

theorem and_step (r y m n : Nat) (hr : r < 256) (hm : m < 256) : (r + 256 * y) &&& (m + 256 * n) = (r &&& m) + 256 * (y &&& n) := by
  have hrm : r &&& m < 2 ^ 8 := Nat.lt_of_le_of_lt Nat.and_le_left hr
  apply Nat.eq_of_testBit_eq
  intro i
  rw [Nat.testBit_and, Nat.add_comm r, Nat.add_comm m, Nat.add_comm (r &&& m)]
  rw [show (256 : Nat) = 2 ^ 8 from rfl] at *
  rw [Nat.testBit_two_pow_mul_add y hr i, Nat.testBit_two_pow_mul_add n hm i, Nat.testBit_two_pow_mul_add _ hrm i]
  split
  · rw [Nat.testBit_and]
  · rw [Nat.testBit_and]

def f1 (m x : Nat) : Nat := (x / 2 &&& m) + (x &&& m)
def f2 (m x : Nat) : Nat := (x / 4 &&& m) + (x &&& m)
def f3 (m x : Nat) : Nat := (x / 16 + x) &&& m

theorem b1 : ∀ r : Fin 256, ∀ b : Fin 2, (r.val / 2 + 128 * b.val) &&& 85 = r.val / 2 &&& 85 := by decide +kernel
theorem b2 : ∀ r : Fin 256, ∀ b : Fin 4, (r.val / 4 + 64 * b.val) &&& 51 = r.val / 4 &&& 51 := by decide +kernel
theorem b3 : ∀ r : Fin 69, ∀ b : Fin 5, (r.val / 16 + 16 * b.val + r.val) &&& 15 = (r.val / 16 + r.val) &&& 15 := by decide +kernel

theorem f1_step (r y n : Nat) (hr : r < 256) : f1 (85 + 256 * n) (r + 256 * y) = f1 85 r + 256 * f1 n y := by
  unfold f1
  rw [show (r + 256 * y) / 2 = (r / 2 + 128 * (y % 2)) + 256 * (y / 2) by omega]
  rw [and_step _ _ _ _ (by omega) (by decide), and_step _ _ _ _ hr (by decide)]
  have := b1 ⟨r, hr⟩ ⟨y % 2, by omega⟩
  simp only at this
  rw [this]
  omega
theorem f2_step (r y n : Nat) (hr : r < 256) : f2 (51 + 256 * n) (r + 256 * y) = f2 51 r + 256 * f2 n y := by
  unfold f2
  rw [show (r + 256 * y) / 4 = (r / 4 + 64 * (y % 4)) + 256 * (y / 4) by omega]
  rw [and_step _ _ _ _ (by omega) (by decide), and_step _ _ _ _ hr (by decide)]
  have := b2 ⟨r, hr⟩ ⟨y % 4, by omega⟩
  simp only at this
  rw [this]
  omega
theorem f3_step (r y n : Nat) (hr : r < 69) (hy : y % 16 < 5) : f3 (15 + 256 * n) (r + 256 * y) = f3 15 r + 256 * f3 n y := by
  unfold f3
  rw [show (r + 256 * y) / 16 + (r + 256 * y) = (r / 16 + 16 * (y % 16) + r) + 256 * (y / 16 + y) by omega]
  rw [and_step _ _ _ _ (by omega) (by decide)]
  have := b3 ⟨r, hr⟩ ⟨y % 16, hy⟩
  simp only at this
  rw [this]

/-- how many of the first bits are 1 -/
def cnt (n x : Nat) : Nat := (List.range n).countP fun i => x.testBit i
theorem cnt_step (n r y : Nat) (hr : r < 256) : cnt (8 + n) (r + 256 * y) = cnt 8 r + cnt n y := by
  unfold cnt
  have hr' : r < 2 ^ 8 := hr
  rw [List.range_add, List.countP_append, List.countP_map]
  congr 1
  · apply List.countP_congr
    intro i hi
    have hi' : i < 8 := by simpa using hi
    rw [Nat.add_comm r, show (256 : Nat) = 2 ^ 8 from rfl, Nat.testBit_two_pow_mul_add y hr' i, if_pos hi']
  · apply List.countP_congr
    intro i _
    simp only [Function.comp]
    rw [Nat.add_comm r, show (256 : Nat) = 2 ^ 8 from rfl, Nat.testBit_two_pow_mul_add y hr' (8 + i), if_neg (by omega), show 8 + i - 8 = i by omega]

/-- of a byte -/
def g (r : Nat) : Nat := f2 51 (f1 85 r)
theorem byte_all : ∀ r : Fin 256, f1 85 r.val < 256 ∧ g r.val < 69 ∧ g r.val % 16 < 5 ∧ f3 15 (g r.val) = cnt 8 r.val ∧ cnt 8 r.val ≤ 8 := by decide +kernel

/-- a number of so many bytes -/
def val : List Nat → Nat
  | [] => 0
  | r :: l => r + 256 * val l
def mask (m : Nat) : Nat → Nat
  | 0 => 0
  | k + 1 => m + 256 * mask m k

theorem f1_val (l : List Nat) (h : ∀ r ∈ l, r < 256) : f1 (mask 85 l.length) (val l) = val (l.map (f1 85)) := by
  induction l with
  | nil => rfl
  | cons r l ih => rw [List.length_cons, mask, val, f1_step _ _ _ (h r (by simp)), ih (fun r hr => h r (by simp [hr]))]; rfl
theorem f2_val (l : List Nat) (h : ∀ r ∈ l, r < 256) : f2 (mask 51 l.length) (val l) = val (l.map (f2 51)) := by
  induction l with
  | nil => rfl
  | cons r l ih => rw [List.length_cons, mask, val, f2_step _ _ _ (h r (by simp)), ih (fun r hr => h r (by simp [hr]))]; rfl
theorem f3_val (l : List Nat) (h : ∀ r ∈ l, r < 69 ∧ r % 16 < 5) : f3 (mask 15 l.length) (val l) = val (l.map (f3 15)) := by
  induction l with
  | nil => rfl
  | cons r l ih =>
    have hy : val l % 16 < 5 := by
      cases l with
      | nil => decide
      | cons s l => have := (h s (by simp)).2; simp only [val]; omega
    rw [List.length_cons, mask, val, f3_step _ _ _ (h r (by simp)).1 hy, ih (fun r hr => h r (by simp [hr]))]; rfl
theorem cnt_val (l : List Nat) (h : ∀ r ∈ l, r < 256) : cnt (8 * l.length) (val l) = (l.map (cnt 8)).sum := by
  induction l with
  | nil => rfl
  | cons r l ih =>
    rw [List.length_cons, show 8 * (l.length + 1) = 8 + 8 * l.length by omega, val, cnt_step _ _ _ (h r (by simp)), ih (fun r hr => h r (by simp [hr])), List.map_cons, List.sum_cons]

theorem val_div (r : Nat) (l : List Nat) (h : r < 256) : val (r :: l) / 256 = val l := by simp only [val]; omega
theorem val_lt (l : List Nat) (h : ∀ r ∈ l, r < 256) : val l < 256 ^ l.length := by
  induction l with
  | nil => decide
  | cons r l ih =>
    have h1 := h r (by simp)
    have h2 := ih (fun r hr => h r (by simp [hr]))
    rw [List.length_cons, Nat.pow_succ, val]
    omega
theorem val_of (k x : Nat) (h : x < 256 ^ k) : ∃ l : List Nat, (∀ r ∈ l, r < 256) ∧ l.length = k ∧ val l = x := by
  induction k generalizing x with
  | zero => exact ⟨[], by simp, rfl, by simp [val]; omega⟩
  | succ k ih =>
    rw [Nat.pow_succ] at h
    obtain ⟨l, h1, h2, h3⟩ := ih (x / 256) (by omega)
    refine ⟨x % 256 :: l, ?_, by simp [h2], ?_⟩
    · intro r hr
      simp at hr
      rcases hr with rfl | hr
      · omega
      · exact h1 r hr
    · simp only [val, h3]; omega

theorem last (p0 p1 p2 p3 p4 p5 p6 p7 x1 x2 x3 x4 : Nat) (h0 : p0 ≤ 8) (h1 : p1 ≤ 8) (h2 : p2 ≤ 8) (h3 : p3 ≤ 8) (h4 : p4 ≤ 8) (h5 : p5 ≤ 8) (h6 : p6 ≤ 8) (h7 : p7 ≤ 8)
    (e1 : x1 = val [p0, p1, p2, p3, p4, p5, p6, p7]) (e2 : x2 = x1 + x1 / 256) (e3 : x3 = x2 + x2 / 65536) (e4 : x4 = x3 + x3 / 4294967296) :
    x1 < 18446744073709551616 ∧ x2 < 18446744073709551616 ∧ x3 < 18446744073709551616 ∧ x4 < 18446744073709551616 ∧ x4 < 9223372036854775808 ∧ x4 % 128 = p0 + p1 + p2 + p3 + p4 + p5 + p6 + p7 := by
  have k2 : x2 = val [p0 + p1, p1 + p2, p2 + p3, p3 + p4, p4 + p5, p5 + p6, p6 + p7, p7] := by
    rw [e2, e1, val_div _ _ (by omega)]; simp only [val]; omega
  have k3 : x3 = val [p0 + p1 + (p2 + p3), p1 + p2 + (p3 + p4), p2 + p3 + (p4 + p5), p3 + p4 + (p5 + p6), p4 + p5 + (p6 + p7), p5 + p6 + p7, p6 + p7, p7] := by
    rw [e3, k2, show 65536 = 256 * 256 from rfl, ← Nat.div_div_eq_div_mul, val_div _ _ (by omega), val_div _ _ (by omega)]; simp only [val]; omega
  have k4 : x4 = val [p0 + p1 + (p2 + p3) + (p4 + p5 + (p6 + p7)), p1 + p2 + (p3 + p4) + (p5 + p6 + p7), p2 + p3 + (p4 + p5) + (p6 + p7), p3 + p4 + (p5 + p6) + p7, p4 + p5 + (p6 + p7), p5 + p6 + p7, p6 + p7, p7] := by
    rw [e4, k3, show 4294967296 = 256 * 256 * 256 * 256 from rfl, ← Nat.div_div_eq_div_mul, ← Nat.div_div_eq_div_mul, ← Nat.div_div_eq_div_mul, val_div _ _ (by omega), val_div _ _ (by omega), val_div _ _ (by omega), val_div _ _ (by omega)]; simp only [val]; omega
  have lt : ∀ l : List Nat, l.length = 8 → (∀ r ∈ l, r < 256) → val l < 18446744073709551616 := fun l hl h => by have := val_lt l h; rw [hl] at this; exact this
  refine ⟨?_, ?_, ?_, ?_, ?_, ?_⟩
  · rw [e1]; apply lt _ rfl; simp only [List.mem_cons, List.not_mem_nil, or_false, forall_eq_or_imp, forall_eq]; omega
  · rw [k2]; apply lt _ rfl; simp only [List.mem_cons, List.not_mem_nil, or_false, forall_eq_or_imp, forall_eq]; omega
  · rw [k3]; apply lt _ rfl; simp only [List.mem_cons, List.not_mem_nil, or_false, forall_eq_or_imp, forall_eq]; omega
  · rw [k4]; apply lt _ rfl; simp only [List.mem_cons, List.not_mem_nil, or_false, forall_eq_or_imp, forall_eq]; omega
  · rw [k4]; simp only [val]; omega
  · rw [k4, val]
    generalize val _ = z
    omega

theorem len8 (l : List Nat) (h : l.length = 8) : ∃ r0 r1 r2 r3 r4 r5 r6 r7, l = [r0, r1, r2, r3, r4, r5, r6, r7] :=
  match l, h with
  | [r0, r1, r2, r3, r4, r5, r6, r7], _ => ⟨r0, r1, r2, r3, r4, r5, r6, r7, rfl⟩
theorem val_le (l : List Nat) (h : ∀ r ∈ l, r ≤ 68) : val l ≤ 68 * mask 1 l.length := by
  induction l with
  | nil => decide
  | cons r l ih =>
    have h1 := h r (by simp)
    have h2 := ih (fun r hr => h r (by simp [hr]))
    rw [List.length_cons, mask, val]
    omega
theorem mask_eight : mask 1 8 = 72340172838076673 := rfl

/-- the number that bits.OnesCount64 comes to -/
theorem ones (x y1 y2 y3 y4 y5 y6 : Nat) (hx : x < 18446744073709551616) (e1 : y1 = f1 6148914691236517205 x) (e2 : y2 = f2 3689348814741910323 y1) (e3 : y3 = f3 1085102592571150095 y2)
    (e4 : y4 = y3 + y3 / 256) (e5 : y5 = y4 + y4 / 65536) (e6 : y6 = y5 + y5 / 4294967296) :
    y1 < 18446744073709551616 ∧ y2 / 16 + y2 < 18446744073709551616 ∧ y2 < 18446744073709551616 ∧ y3 < 18446744073709551616 ∧ y4 < 18446744073709551616 ∧ y5 < 18446744073709551616 ∧ y6 < 18446744073709551616 ∧ y6 < 9223372036854775808 ∧ y6 % 128 = pop x := by
  obtain ⟨l, hl, hn, hv⟩ := val_of 8 x hx
  have m1 : mask 85 l.length = 6148914691236517205 := by rw [hn]; rfl
  have m2 : mask 51 l.length = 3689348814741910323 := by rw [hn]; rfl
  have m3 : mask 15 l.length = 1085102592571150095 := by rw [hn]; rfl
  have k1 : y1 = val (l.map (f1 85)) := by rw [e1, ← m1, ← hv, f1_val l hl]
  have hb : ∀ r ∈ l, f1 85 r < 256 ∧ g r < 69 ∧ g r % 16 < 5 ∧ f3 15 (g r) = cnt 8 r ∧ cnt 8 r ≤ 8 := fun r hr => byte_all ⟨r, hl r hr⟩
  have k2 : y2 = val (l.map g) := by
    rw [e2, k1, ← m2, show l.length = (l.map (f1 85)).length by simp, f2_val, List.map_map]
    · rfl
    · intro r hr
      simp at hr
      obtain ⟨s, hs, rfl⟩ := hr
      exact (hb s hs).1
  have k3 : y3 = val (l.map (cnt 8)) := by
    rw [e3, k2, ← m3, show l.length = (l.map g).length by simp, f3_val, List.map_map]
    · congr 1
      apply List.map_congr_left
      intro r hr
      exact (hb r hr).2.2.2.1
    · intro r hr
      simp at hr
      obtain ⟨s, hs, rfl⟩ := hr
      exact ⟨(hb s hs).2.1, (hb s hs).2.2.1⟩
  have k4 : pop x = (l.map (cnt 8)).sum := by
    rw [← cnt_val l hl, hn, hv]; rfl
  have w1 : y1 < 18446744073709551616 := by
    rw [k1]
    have := val_lt (l.map (f1 85)) (by intro r hr; simp at hr; obtain ⟨s, hs, rfl⟩ := hr; exact (hb s hs).1)
    rw [List.length_map, hn] at this
    exact this
  have w2 : y2 ≤ 68 * 72340172838076673 := by
    rw [k2]
    have := val_le (l.map g) (by intro r hr; simp at hr; obtain ⟨s, hs, rfl⟩ := hr; have := (hb s hs).2.1; omega)
    rw [List.length_map, hn, mask_eight] at this
    exact this
  have w3 : y2 < 18446744073709551616 := by omega
  have w4 : y2 / 16 + y2 < 18446744073709551616 := by omega
  clear m1 m2 m3 k1 k2 e1 e2 e3 hv
  obtain ⟨r0, r1, r2, r3, r4, r5, r6, r7, hl8⟩ := len8 l hn
  rw [hl8] at hb k3 k4
  have a := fun r hr => (hb r hr).2.2.2.2
  have := last (cnt 8 r0) (cnt 8 r1) (cnt 8 r2) (cnt 8 r3) (cnt 8 r4) (cnt 8 r5) (cnt 8 r6) (cnt 8 r7) y3 y4 y5 y6 (a r0 (by simp)) (a r1 (by simp)) (a r2 (by simp)) (a r3 (by simp)) (a r4 (by simp)) (a r5 (by simp)) (a r6 (by simp)) (a r7 (by simp)) k3 e4 e5 e6
  refine ⟨w1, w4, w3, this.1, this.2.1, this.2.2.1, this.2.2.2.1, this.2.2.2.2.1, ?_⟩
  rw [this.2.2.2.2.2, k4]
  simp only [List.map, List.sum_cons, List.sum_nil]
  omega
end Go.Proofs.YtcglkekilaokaaaDoorC
