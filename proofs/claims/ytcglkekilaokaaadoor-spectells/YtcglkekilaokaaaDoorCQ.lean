/-
  PLAIN LEAN, no program in it: sets of bytes as four numbers of 64 bits.
-/
namespace Go.Proofs.YtcglkekilaokaaaDoorC

/-- four numbers -/
structure Q where
  a : Nat
  b : Nat
  c : Nat
  d : Nat

/-- each of 64 bits -/
def Q.ok (q : Q) : Prop := q.a < 18446744073709551616 ∧ q.b < 18446744073709551616 ∧ q.c < 18446744073709551616 ∧ q.d < 18446744073709551616
/-- the number of a place -/
def Q.word (q : Q) (i : Nat) : Nat := if i = 0 then q.a else if i = 1 then q.b else if i = 2 then q.c else q.d
/-- a byte is in a set -/
def Q.has (q : Q) (n : Nat) : Bool := (q.word (n / 64)).testBit (n % 64)

def zeroQ : Q := ⟨0, 0, 0, 0⟩
def orQ (q r : Q) : Q := ⟨q.a ||| r.a, q.b ||| r.b, q.c ||| r.c, q.d ||| r.d⟩
def minusQ (q r : Q) : Q := ⟨q.a &&& (18446744073709551615 - r.a), q.b &&& (18446744073709551615 - r.b), q.c &&& (18446744073709551615 - r.c), q.d &&& (18446744073709551615 - r.d)⟩
def notQ (q : Q) : Q := ⟨18446744073709551615 - q.a, 18446744073709551615 - q.b, 18446744073709551615 - q.c, 18446744073709551615 - q.d⟩
def oneQ (n : Nat) : Q := ⟨if n / 64 = 0 then 2 ^ (n % 64) else 0, if n / 64 = 1 then 2 ^ (n % 64) else 0, if n / 64 = 2 then 2 ^ (n % 64) else 0, if n / 64 = 3 then 2 ^ (n % 64) else 0⟩

theorem zero_ok : zeroQ.ok := by unfold Q.ok zeroQ; simp only; omega
theorem or_lt {x y : Nat} (hx : x < 18446744073709551616) (hy : y < 18446744073709551616) : x ||| y < 18446744073709551616 := Nat.or_lt_two_pow (n := 64) hx hy
theorem and_lt {x y : Nat} (hx : x < 18446744073709551616) : x &&& y < 18446744073709551616 := Nat.lt_of_le_of_lt Nat.and_le_left hx
theorem or_ok {q r : Q} (hq : q.ok) (hr : r.ok) : (orQ q r).ok := ⟨or_lt hq.1 hr.1, or_lt hq.2.1 hr.2.1, or_lt hq.2.2.1 hr.2.2.1, or_lt hq.2.2.2 hr.2.2.2⟩
theorem minus_ok {q r : Q} (hq : q.ok) : (minusQ q r).ok := ⟨and_lt hq.1, and_lt hq.2.1, and_lt hq.2.2.1, and_lt hq.2.2.2⟩
theorem not_ok {q : Q} : (notQ q).ok := by unfold Q.ok notQ; simp only; omega
theorem pow_lt (n : Nat) : 2 ^ (n % 64) < 18446744073709551616 := by
  have h : n % 64 < 64 := Nat.mod_lt _ (by decide)
  exact (Nat.pow_lt_pow_iff_right (a := 2) (by decide)).2 h
theorem one_ok (n : Nat) : (oneQ n).ok := by
  have h := pow_lt n
  unfold Q.ok oneQ
  simp only
  refine ⟨?_, ?_, ?_, ?_⟩ <;> split <;> omega

theorem word_lt {q : Q} (h : q.ok) (i : Nat) : q.word i < 18446744073709551616 := by
  unfold Q.word
  obtain ⟨h1, h2, h3, h4⟩ := h
  repeat' split
  all_goals assumption

theorem not_bit {x : Nat} (hx : x < 18446744073709551616) (i : Nat) (hi : i < 64) : (18446744073709551615 - x).testBit i = !x.testBit i := by
  have h := Nat.testBit_two_pow_sub_succ (n := 64) hx i
  have e : 18446744073709551615 - x = 2 ^ 64 - (x + 1) := by omega
  rw [e, h]
  simp [hi]

theorem has_zero (n : Nat) : zeroQ.has n = false := by
  unfold Q.has Q.word zeroQ; simp
theorem has_or (q r : Q) (n : Nat) : (orQ q r).has n = (q.has n || r.has n) := by
  unfold Q.has Q.word orQ
  repeat' split
  all_goals simp [Nat.testBit_or]
theorem has_not (q : Q) (hq : q.ok) (n : Nat) : (notQ q).has n = !q.has n := by
  have hi : n % 64 < 64 := Nat.mod_lt _ (by decide)
  obtain ⟨h1, h2, h3, h4⟩ := hq
  unfold Q.has Q.word notQ
  repeat' split
  · exact not_bit h1 _ hi
  · exact not_bit h2 _ hi
  · exact not_bit h3 _ hi
  · exact not_bit h4 _ hi
theorem has_minus (q r : Q) (hr : r.ok) (n : Nat) : (minusQ q r).has n = (q.has n && !r.has n) := by
  have hi : n % 64 < 64 := Nat.mod_lt _ (by decide)
  obtain ⟨h1, h2, h3, h4⟩ := hr
  unfold Q.has Q.word minusQ
  repeat' split
  all_goals simp only [Nat.testBit_and]
  · rw [not_bit h1 _ hi]
  · rw [not_bit h2 _ hi]
  · rw [not_bit h3 _ hi]
  · rw [not_bit h4 _ hi]
theorem has_one (m n : Nat) (hm : m < 256) (hn : n < 256) : (oneQ m).has n = decide (n = m) := by
  have hd : m / 64 = 0 ∨ m / 64 = 1 ∨ m / 64 = 2 ∨ m / 64 = 3 := by omega
  have he : n / 64 = 0 ∨ n / 64 = 1 ∨ n / 64 = 2 ∨ n / 64 = 3 := by omega
  unfold Q.has Q.word oneQ
  rw [Bool.eq_iff_iff]
  rcases hd with h | h | h | h <;> rcases he with g | g | g | g <;> simp [h, g, Nat.testBit_two_pow] <;> omega

/-- sets with the same bytes are the same -/
theorem Q.ext' {q r : Q} (hq : q.ok) (hr : r.ok) (h : ∀ n, n < 256 → q.has n = r.has n) : q = r := by
  have hw : ∀ i, i < 4 → q.word i = r.word i := by
    intro i hi
    apply Nat.eq_of_testBit_eq
    intro j
    by_cases hj : j < 64
    · have := h (64 * i + j) (by omega)
      unfold Q.has at this
      rw [show (64 * i + j) / 64 = i by omega, show (64 * i + j) % 64 = j by omega] at this
      exact this
    · have hp : 18446744073709551616 ≤ 2 ^ j := (Nat.pow_le_pow_iff_right (a := 2) (n := 64) (m := j) (by decide)).2 (by omega)
      rw [Nat.testBit_lt_two_pow (Nat.lt_of_lt_of_le (word_lt hq i) hp), Nat.testBit_lt_two_pow (Nat.lt_of_lt_of_le (word_lt hr i) hp)]
  have h0 := hw 0 (by decide)
  have h1 := hw 1 (by decide)
  have h2 := hw 2 (by decide)
  have h3 := hw 3 (by decide)
  simp [Q.word] at h0 h1 h2 h3
  cases q; cases r
  simp_all

/-- two sets are the same -/
def eqQ (q r : Q) : Bool := (q.a == r.a) && (q.b == r.b) && (q.c == r.c) && (q.d == r.d)
theorem eqQ_iff {q r : Q} : eqQ q r = true ↔ q = r := by
  cases q; cases r
  simp [eqQ, and_assoc]
theorem eqQ_self (q : Q) : eqQ q q = true := eqQ_iff.2 rfl
theorem eqQ_not {q r : Q} (h : q ≠ r) : eqQ q r = false := by
  cases e : eqQ q r with
  | false => rfl
  | true => exact absurd (eqQ_iff.1 e) h

/-! ### Lists of bytes -/
def ofQ (l : List UInt8) : Q := l.foldl (fun s c => orQ s (oneQ c.toNat)) zeroQ
theorem of_snoc (l : List UInt8) (c : UInt8) : ofQ (l ++ [c]) = orQ (ofQ l) (oneQ c.toNat) := by unfold ofQ; rw [List.foldl_append]; rfl
theorem foldl_ok (l : List UInt8) (s : Q) (h : s.ok) : (l.foldl (fun s c => orQ s (oneQ c.toNat)) s).ok := by
  induction l generalizing s with
  | nil => exact h
  | cons c l ih => exact ih _ (or_ok h (one_ok _))
theorem of_ok (l : List UInt8) : (ofQ l).ok := foldl_ok l _ zero_ok
theorem foldl_has (l : List UInt8) (s : Q) (n : Nat) (hn : n < 256) : (l.foldl (fun s c => orQ s (oneQ c.toNat)) s).has n = (s.has n || l.any fun c => decide (n = c.toNat)) := by
  induction l generalizing s with
  | nil => simp
  | cons c l ih =>
    rw [List.foldl_cons, ih, has_or, has_one _ _ (UInt8.toNat_lt c) hn, List.any_cons, Bool.or_assoc]
theorem has_of (l : List UInt8) (n : Nat) (hn : n < 256) : (ofQ l).has n = l.any fun c => decide (n = c.toNat) := by
  unfold ofQ; rw [foldl_has l _ n hn, has_zero, Bool.false_or]

/-- all bytes from one number to another one, this one not -/
def upQ (lo hi : Nat) : Q := (List.range' lo (hi - lo)).foldl (fun s c => orQ s (oneQ c)) zeroQ
theorem up_nil (lo hi : Nat) (h : hi ≤ lo) : upQ lo hi = zeroQ := by
  unfold upQ; rw [show hi - lo = 0 by omega]; rfl
theorem up_snoc (lo hi : Nat) (h : lo ≤ hi) : upQ lo (hi + 1) = orQ (upQ lo hi) (oneQ hi) := by
  unfold upQ
  rw [show hi + 1 - lo = (hi - lo) + 1 by omega, List.range'_concat, List.foldl_append]
  simp
  rw [show lo + (hi - lo) = hi by omega]
theorem up_ok (lo hi : Nat) : (upQ lo hi).ok := by
  unfold upQ
  generalize hi - lo = k
  have : ∀ (l : List Nat) (s : Q), s.ok → (l.foldl (fun s c => orQ s (oneQ c)) s).ok := by
    intro l
    induction l with
    | nil => intro s h; exact h
    | cons c l ih => intro s h; exact ih _ (or_ok h (one_ok _))
  exact this _ _ zero_ok
theorem has_up (lo hi n : Nat) (hh : hi ≤ 256) (hn : n < 256) : (upQ lo hi).has n = decide (lo ≤ n ∧ n < hi) := by
  induction hi with
  | zero => rw [up_nil _ _ (by omega), has_zero]; simp
  | succ k ih =>
    by_cases h : lo ≤ k
    · rw [up_snoc _ _ h, has_or, ih (by omega), has_one _ _ (by omega) hn, Bool.eq_iff_iff]
      simp; omega
    · rw [up_nil _ _ (by omega), has_zero, Bool.eq_iff_iff]
      simp; omega

/-- a set's bytes below a number, rising -/
def bytesTo (q : Q) (k : Nat) : List UInt8 := ((List.range k).filter q.has).map Nat.toUInt8
def listQ (q : Q) : List UInt8 := bytesTo q 256
theorem bytes_snoc (q : Q) (k : Nat) : bytesTo q (k + 1) = bytesTo q k ++ if q.has k then [k.toUInt8] else [] := by
  unfold bytesTo
  rw [List.range_succ, List.filter_append, List.map_append]
  congr 1
  by_cases h : q.has k <;> simp [h]
theorem bytes_len (q : Q) (k : Nat) : (bytesTo q k).length ≤ k := by
  unfold bytesTo
  rw [List.length_map]
  exact Nat.le_trans (List.length_filter_le _ _) (by simp)
theorem mem_bytes (q : Q) (n : Nat) (hn : n < 256) : (listQ q).any (fun c => decide (n = c.toNat)) = q.has n := by
  unfold listQ bytesTo
  rw [Bool.eq_iff_iff]
  simp only [List.any_eq_true, List.mem_map, List.mem_filter, List.mem_range, decide_eq_true_eq]
  constructor
  · rintro ⟨c, ⟨m, ⟨hm, hb⟩, rfl⟩, hc⟩
    have : (Nat.toUInt8 m).toNat = m := by simp; omega
    rw [this] at hc
    rw [hc]; exact hb
  · intro h
    exact ⟨n.toUInt8, ⟨n, ⟨hn, h⟩, rfl⟩, by simp; omega⟩
theorem of_list (q : Q) (hq : q.ok) : ofQ (listQ q) = q := Q.ext' (of_ok _) hq fun n hn => by rw [has_of _ _ hn, mem_bytes _ _ hn]

/-- what is left of a set from a number on -/
def cutQ (q : Q) (k : Nat) : Q := minusQ q (upQ 0 k)
theorem cut_ok {q : Q} (h : q.ok) (k : Nat) : (cutQ q k).ok := minus_ok h
theorem has_cut (q : Q) (k n : Nat) (hk : k ≤ 256) (hn : n < 256) : (cutQ q k).has n = (q.has n && decide (k ≤ n)) := by
  unfold cutQ
  rw [has_minus _ _ (up_ok _ _), has_up _ _ _ hk hn]
  rw [Bool.eq_iff_iff]; simp
theorem cut_zero {q : Q} (h : q.ok) : cutQ q 0 = q := Q.ext' (cut_ok h _) h fun n hn => by rw [has_cut _ _ _ (by omega) hn]; simp
theorem cut_all {q : Q} (h : q.ok) : cutQ q 256 = zeroQ := Q.ext' (cut_ok h _) zero_ok fun n hn => by rw [has_cut _ _ _ (by omega) hn, has_zero, Bool.eq_iff_iff]; simp; omega
theorem cut_no {q : Q} (h : q.ok) (k : Nat) (hk : k < 256) (hb : q.has k = false) : cutQ q (k + 1) = cutQ q k := Q.ext' (cut_ok h _) (cut_ok h _) fun n hn => by
  rw [has_cut _ _ _ (by omega) hn, has_cut _ _ _ (by omega) hn, Bool.eq_iff_iff]
  simp only [Bool.and_eq_true, decide_eq_true_eq]
  constructor
  · rintro ⟨a, b⟩; exact ⟨a, by omega⟩
  · rintro ⟨a, b⟩
    refine ⟨a, ?_⟩
    by_cases e : n = k
    · subst e; rw [hb] at a; cases a
    · omega
theorem cut_yes {q : Q} (h : q.ok) (k : Nat) (hk : k < 256) : cutQ q (k + 1) = minusQ (cutQ q k) (oneQ k) := Q.ext' (cut_ok h _) (minus_ok (cut_ok h _)) fun n hn => by
  rw [has_cut _ _ _ (by omega) hn, has_minus _ _ (one_ok _), has_cut _ _ _ (by omega) hn, has_one _ _ hk hn, Bool.eq_iff_iff]
  simp only [Bool.and_eq_true, decide_eq_true_eq, Bool.not_eq_true', decide_eq_false_iff_not]
  constructor
  · rintro ⟨a, b⟩; exact ⟨⟨a, by omega⟩, by omega⟩
  · rintro ⟨⟨a, b⟩, c⟩; exact ⟨a, by omega⟩
theorem has_cut_at (q : Q) (k : Nat) (hk : k < 256) : (cutQ q k).has k = q.has k := by rw [has_cut _ _ _ (by omega) hk]; simp
theorem cut_end {q : Q} (k : Nat) (hk : k ≤ 256) (hz : cutQ q k = zeroQ) : bytesTo q k = listQ q := by
  have hno : ∀ n, k ≤ n → n < 256 → q.has n = false := by
    intro n h1 h2
    have := has_cut q k n hk h2
    rw [hz, has_zero] at this
    simpa [h1] using this.symm
  have : ∀ j, k + j ≤ 256 → bytesTo q (k + j) = bytesTo q k := by
    intro j
    induction j with
    | zero => intro _; rfl
    | succ j ih =>
      intro hj
      rw [show k + (j + 1) = (k + j) + 1 by omega, bytes_snoc, hno (k + j) (by omega) (by omega), ih (by omega)]
      simp
  have := this (256 - k) (by omega)
  rw [show k + (256 - k) = 256 by omega] at this
  exact this.symm

/-! ### How many -/
/-- how many bits of 64 are 1 -/
def pop (x : Nat) : Nat := (List.range 64).countP fun i => x.testBit i
def lenQ (q : Q) : Nat := pop q.a + pop q.b + pop q.c + pop q.d
theorem pop_le (x : Nat) : pop x ≤ 64 := by
  unfold pop
  exact Nat.le_trans List.countP_le_length (by simp)
theorem countP_both (l : List Nat) (p r : Nat → Bool) : l.countP (fun i => p i || r i) + l.countP (fun i => p i && r i) = l.countP p + l.countP r := by
  induction l with
  | nil => rfl
  | cons x l ih =>
    simp only [List.countP_cons]
    cases p x <;> cases r x <;> simp <;> omega
theorem pop_both (x y : Nat) (hy : y < 18446744073709551616) : pop (x ||| y) + pop (x &&& (18446744073709551615 - (18446744073709551615 - y))) = pop x + pop y := by
  rw [show 18446744073709551615 - (18446744073709551615 - y) = y by omega]
  unfold pop
  simp only [Nat.testBit_or, Nat.testBit_and]
  exact countP_both _ _ _
theorem len_both (q r : Q) (hr : r.ok) : lenQ (orQ q r) + lenQ (minusQ q (notQ r)) = lenQ q + lenQ r := by
  obtain ⟨h1, h2, h3, h4⟩ := hr
  have a := pop_both q.a r.a h1
  have b := pop_both q.b r.b h2
  have c := pop_both q.c r.c h3
  have d := pop_both q.d r.d h4
  unfold lenQ orQ minusQ notQ
  simp only
  omega
theorem range_four : List.range 256 = List.range 64 ++ ((List.range 64).map (64 + ·) ++ ((List.range 64).map (128 + ·) ++ (List.range 64).map (192 + ·))) := by decide +kernel
theorem pop_of {x : Nat} {f : Nat → Bool} (h : ∀ i, i < 64 → f i = x.testBit i) : (List.range 64).countP f = pop x := by
  unfold pop
  apply List.countP_congr
  intro i hi
  rw [h i (by simpa using hi)]
theorem list_len (q : Q) : (listQ q).length = lenQ q := by
  unfold listQ bytesTo
  rw [List.length_map, ← List.countP_eq_length_filter, range_four, List.countP_append, List.countP_append, List.countP_append, List.countP_map, List.countP_map, List.countP_map]
  rw [pop_of (x := q.a), pop_of (x := q.b), pop_of (x := q.c), pop_of (x := q.d)]
  · unfold lenQ; omega
  all_goals
    intro i hi
    simp only [Function.comp, Q.has]
  · rw [show (192 + i) / 64 = 3 by omega, show (192 + i) % 64 = i by omega]; rfl
  · rw [show (128 + i) / 64 = 2 by omega, show (128 + i) % 64 = i by omega]; rfl
  · rw [show (64 + i) / 64 = 1 by omega, show (64 + i) % 64 = i by omega]; rfl
  · rw [show i / 64 = 0 by omega, show i % 64 = i by omega]; rfl

/-! ### The laws of sets -/
theorem not_not (q : Q) (hq : q.ok) : notQ (notQ q) = q := by
  obtain ⟨h1, h2, h3, h4⟩ := hq
  cases q
  simp only [notQ, Q.mk.injEq] at *
  omega
theorem not_or (q r : Q) (hq : q.ok) (hr : r.ok) : notQ (orQ q r) = minusQ (notQ q) r := Q.ext' not_ok (minus_ok not_ok) fun n _ => by
  rw [has_not _ (or_ok hq hr), has_or, has_minus _ _ hr, has_not _ hq, Bool.not_or]
theorem or_comm' (q r : Q) : orQ q r = orQ r q := by unfold orQ; simp [Nat.or_comm]
theorem minus_or (q r : Q) (hq : q.ok) (hr : r.ok) : orQ (minusQ q r) r = orQ q r := Q.ext' (or_ok (minus_ok hq) hr) (or_ok hq hr) fun n _ => by
  rw [has_or, has_minus _ _ hr, has_or]
  cases q.has n <;> cases r.has n <;> rfl
theorem minus_self (q : Q) (hq : q.ok) : minusQ q q = zeroQ := Q.ext' (minus_ok hq) zero_ok fun n _ => by
  rw [has_minus _ _ hq, has_zero]
  cases q.has n <;> rfl
theorem zero_or (q : Q) : orQ zeroQ q = q := by unfold orQ zeroQ; simp
end Go.Proofs.YtcglkekilaokaaaDoorC
