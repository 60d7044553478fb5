/-
  Joined by program out of the texts CQ CP CW1 CW2 CW3.
-/
import Derived.Test.YtjbnofljoijnmaaDoorProg
import Derived.WalkKit
import Derived.WalkSpells
import Derived.WalkLawsBesides
import Derived.Outline
import Derived.Laws.BitsAllLaws
import Derived.LoopN
import Derived.Laws.Bits128
/-
  PLAIN LEAN, no program in it: sets of bytes as four numbers of 64 bits.
-/
namespace Go.Proofs.YtjbnofljoijnmaaDoorC

/-- four numbers -/
structure Q where
  a : Nat
  b : Nat
  c : Nat
  d : Nat

/-- each of 64 bits -/
def Q.ok (q : Q) : Prop := q.a < 18446744073709551616 ∧ q.b < 18446744073709551616 ∧ q.c < 18446744073709551616 ∧ q.d < 18446744073709551616
/-- the number of a place -/
def Q.word (q : Q) (i : Nat) : Nat := if i = 0 then q.a else if i = 1 then q.b else if i = 2 then q.c else q.d
/-- a byte is in a set -/
def Q.has (q : Q) (n : Nat) : Bool := (q.word (n / 64)).testBit (n % 64)

def zeroQ : Q := ⟨0, 0, 0, 0⟩
def orQ (q r : Q) : Q := ⟨q.a ||| r.a, q.b ||| r.b, q.c ||| r.c, q.d ||| r.d⟩
def minusQ (q r : Q) : Q := ⟨q.a &&& (18446744073709551615 - r.a), q.b &&& (18446744073709551615 - r.b), q.c &&& (18446744073709551615 - r.c), q.d &&& (18446744073709551615 - r.d)⟩
def notQ (q : Q) : Q := ⟨18446744073709551615 - q.a, 18446744073709551615 - q.b, 18446744073709551615 - q.c, 18446744073709551615 - q.d⟩
def oneQ (n : Nat) : Q := ⟨if n / 64 = 0 then 2 ^ (n % 64) else 0, if n / 64 = 1 then 2 ^ (n % 64) else 0, if n / 64 = 2 then 2 ^ (n % 64) else 0, if n / 64 = 3 then 2 ^ (n % 64) else 0⟩

theorem zero_ok : zeroQ.ok := by unfold Q.ok zeroQ; simp only; omega
theorem or_lt {x y : Nat} (hx : x < 18446744073709551616) (hy : y < 18446744073709551616) : x ||| y < 18446744073709551616 := Nat.or_lt_two_pow (n := 64) hx hy
theorem and_lt {x y : Nat} (hx : x < 18446744073709551616) : x &&& y < 18446744073709551616 := Nat.lt_of_le_of_lt Nat.and_le_left hx
theorem or_ok {q r : Q} (hq : q.ok) (hr : r.ok) : (orQ q r).ok := ⟨or_lt hq.1 hr.1, or_lt hq.2.1 hr.2.1, or_lt hq.2.2.1 hr.2.2.1, or_lt hq.2.2.2 hr.2.2.2⟩
theorem minus_ok {q r : Q} (hq : q.ok) : (minusQ q r).ok := ⟨and_lt hq.1, and_lt hq.2.1, and_lt hq.2.2.1, and_lt hq.2.2.2⟩
theorem not_ok {q : Q} : (notQ q).ok := by unfold Q.ok notQ; simp only; omega
theorem pow_lt (n : Nat) : 2 ^ (n % 64) < 18446744073709551616 := by
  have h : n % 64 < 64 := Nat.mod_lt _ (by decide)
  exact (Nat.pow_lt_pow_iff_right (a := 2) (by decide)).2 h
theorem one_ok (n : Nat) : (oneQ n).ok := by
  have h := pow_lt n
  unfold Q.ok oneQ
  simp only
  refine ⟨?_, ?_, ?_, ?_⟩ <;> split <;> omega

theorem word_lt {q : Q} (h : q.ok) (i : Nat) : q.word i < 18446744073709551616 := by
  unfold Q.word
  obtain ⟨h1, h2, h3, h4⟩ := h
  repeat' split
  all_goals assumption

theorem not_bit {x : Nat} (hx : x < 18446744073709551616) (i : Nat) (hi : i < 64) : (18446744073709551615 - x).testBit i = !x.testBit i := by
  have h := Nat.testBit_two_pow_sub_succ (n := 64) hx i
  have e : 18446744073709551615 - x = 2 ^ 64 - (x + 1) := by omega
  rw [e, h]
  simp [hi]

theorem has_zero (n : Nat) : zeroQ.has n = false := by
  unfold Q.has Q.word zeroQ; simp
theorem has_or (q r : Q) (n : Nat) : (orQ q r).has n = (q.has n || r.has n) := by
  unfold Q.has Q.word orQ
  repeat' split
  all_goals simp [Nat.testBit_or]
theorem has_not (q : Q) (hq : q.ok) (n : Nat) : (notQ q).has n = !q.has n := by
  have hi : n % 64 < 64 := Nat.mod_lt _ (by decide)
  obtain ⟨h1, h2, h3, h4⟩ := hq
  unfold Q.has Q.word notQ
  repeat' split
  · exact not_bit h1 _ hi
  · exact not_bit h2 _ hi
  · exact not_bit h3 _ hi
  · exact not_bit h4 _ hi
theorem has_minus (q r : Q) (hr : r.ok) (n : Nat) : (minusQ q r).has n = (q.has n && !r.has n) := by
  have hi : n % 64 < 64 := Nat.mod_lt _ (by decide)
  obtain ⟨h1, h2, h3, h4⟩ := hr
  unfold Q.has Q.word minusQ
  repeat' split
  all_goals simp only [Nat.testBit_and]
  · rw [not_bit h1 _ hi]
  · rw [not_bit h2 _ hi]
  · rw [not_bit h3 _ hi]
  · rw [not_bit h4 _ hi]
theorem has_one (m n : Nat) (hm : m < 256) (hn : n < 256) : (oneQ m).has n = decide (n = m) := by
  have hd : m / 64 = 0 ∨ m / 64 = 1 ∨ m / 64 = 2 ∨ m / 64 = 3 := by omega
  have he : n / 64 = 0 ∨ n / 64 = 1 ∨ n / 64 = 2 ∨ n / 64 = 3 := by omega
  unfold Q.has Q.word oneQ
  rw [Bool.eq_iff_iff]
  rcases hd with h | h | h | h <;> rcases he with g | g | g | g <;> simp [h, g, Nat.testBit_two_pow] <;> omega

/-- sets with the same bytes are the same -/
theorem Q.ext' {q r : Q} (hq : q.ok) (hr : r.ok) (h : ∀ n, n < 256 → q.has n = r.has n) : q = r := by
  have hw : ∀ i, i < 4 → q.word i = r.word i := by
    intro i hi
    apply Nat.eq_of_testBit_eq
    intro j
    by_cases hj : j < 64
    · have := h (64 * i + j) (by omega)
      unfold Q.has at this
      rw [show (64 * i + j) / 64 = i by omega, show (64 * i + j) % 64 = j by omega] at this
      exact this
    · have hp : 18446744073709551616 ≤ 2 ^ j := (Nat.pow_le_pow_iff_right (a := 2) (n := 64) (m := j) (by decide)).2 (by omega)
      rw [Nat.testBit_lt_two_pow (Nat.lt_of_lt_of_le (word_lt hq i) hp), Nat.testBit_lt_two_pow (Nat.lt_of_lt_of_le (word_lt hr i) hp)]
  have h0 := hw 0 (by decide)
  have h1 := hw 1 (by decide)
  have h2 := hw 2 (by decide)
  have h3 := hw 3 (by decide)
  simp [Q.word] at h0 h1 h2 h3
  cases q; cases r
  simp_all

/-- two sets are the same -/
def eqQ (q r : Q) : Bool := (q.a == r.a) && (q.b == r.b) && (q.c == r.c) && (q.d == r.d)
theorem eqQ_iff {q r : Q} : eqQ q r = true ↔ q = r := by
  cases q; cases r
  simp [eqQ, and_assoc]
theorem eqQ_self (q : Q) : eqQ q q = true := eqQ_iff.2 rfl
theorem eqQ_not {q r : Q} (h : q ≠ r) : eqQ q r = false := by
  cases e : eqQ q r with
  | false => rfl
  | true => exact absurd (eqQ_iff.1 e) h

/-! ### Lists of bytes -/
def ofQ (l : List UInt8) : Q := l.foldl (fun s c => orQ s (oneQ c.toNat)) zeroQ
theorem of_snoc (l : List UInt8) (c : UInt8) : ofQ (l ++ [c]) = orQ (ofQ l) (oneQ c.toNat) := by unfold ofQ; rw [List.foldl_append]; rfl
theorem foldl_ok (l : List UInt8) (s : Q) (h : s.ok) : (l.foldl (fun s c => orQ s (oneQ c.toNat)) s).ok := by
  induction l generalizing s with
  | nil => exact h
  | cons c l ih => exact ih _ (or_ok h (one_ok _))
theorem of_ok (l : List UInt8) : (ofQ l).ok := foldl_ok l _ zero_ok
theorem foldl_has (l : List UInt8) (s : Q) (n : Nat) (hn : n < 256) : (l.foldl (fun s c => orQ s (oneQ c.toNat)) s).has n = (s.has n || l.any fun c => decide (n = c.toNat)) := by
  induction l generalizing s with
  | nil => simp
  | cons c l ih =>
    rw [List.foldl_cons, ih, has_or, has_one _ _ (UInt8.toNat_lt c) hn, List.any_cons, Bool.or_assoc]
theorem has_of (l : List UInt8) (n : Nat) (hn : n < 256) : (ofQ l).has n = l.any fun c => decide (n = c.toNat) := by
  unfold ofQ; rw [foldl_has l _ n hn, has_zero, Bool.false_or]

/-- all bytes from one number to another one, this one not -/
def upQ (lo hi : Nat) : Q := (List.range' lo (hi - lo)).foldl (fun s c => orQ s (oneQ c)) zeroQ
theorem up_nil (lo hi : Nat) (h : hi ≤ lo) : upQ lo hi = zeroQ := by
  unfold upQ; rw [show hi - lo = 0 by omega]; rfl
theorem up_snoc (lo hi : Nat) (h : lo ≤ hi) : upQ lo (hi + 1) = orQ (upQ lo hi) (oneQ hi) := by
  unfold upQ
  rw [show hi + 1 - lo = (hi - lo) + 1 by omega, List.range'_concat, List.foldl_append]
  simp
  rw [show lo + (hi - lo) = hi by omega]
theorem up_ok (lo hi : Nat) : (upQ lo hi).ok := by
  unfold upQ
  generalize hi - lo = k
  have : ∀ (l : List Nat) (s : Q), s.ok → (l.foldl (fun s c => orQ s (oneQ c)) s).ok := by
    intro l
    induction l with
    | nil => intro s h; exact h
    | cons c l ih => intro s h; exact ih _ (or_ok h (one_ok _))
  exact this _ _ zero_ok
theorem has_up (lo hi n : Nat) (hh : hi ≤ 256) (hn : n < 256) : (upQ lo hi).has n = decide (lo ≤ n ∧ n < hi) := by
  induction hi with
  | zero => rw [up_nil _ _ (by omega), has_zero]; simp
  | succ k ih =>
    by_cases h : lo ≤ k
    · rw [up_snoc _ _ h, has_or, ih (by omega), has_one _ _ (by omega) hn, Bool.eq_iff_iff]
      simp; omega
    · rw [up_nil _ _ (by omega), has_zero, Bool.eq_iff_iff]
      simp; omega

/-- a set's bytes below a number, rising -/
def bytesTo (q : Q) (k : Nat) : List UInt8 := ((List.range k).filter q.has).map Nat.toUInt8
def listQ (q : Q) : List UInt8 := bytesTo q 256
theorem bytes_snoc (q : Q) (k : Nat) : bytesTo q (k + 1) = bytesTo q k ++ if q.has k then [k.toUInt8] else [] := by
  unfold bytesTo
  rw [List.range_succ, List.filter_append, List.map_append]
  congr 1
  by_cases h : q.has k <;> simp [h]
theorem bytes_len (q : Q) (k : Nat) : (bytesTo q k).length ≤ k := by
  unfold bytesTo
  rw [List.length_map]
  exact Nat.le_trans (List.length_filter_le _ _) (by simp)
theorem mem_bytes (q : Q) (n : Nat) (hn : n < 256) : (listQ q).any (fun c => decide (n = c.toNat)) = q.has n := by
  unfold listQ bytesTo
  rw [Bool.eq_iff_iff]
  simp only [List.any_eq_true, List.mem_map, List.mem_filter, List.mem_range, decide_eq_true_eq]
  constructor
  · rintro ⟨c, ⟨m, ⟨hm, hb⟩, rfl⟩, hc⟩
    have : (Nat.toUInt8 m).toNat = m := by simp; omega
    rw [this] at hc
    rw [hc]; exact hb
  · intro h
    exact ⟨n.toUInt8, ⟨n, ⟨hn, h⟩, rfl⟩, by simp; omega⟩
theorem of_list (q : Q) (hq : q.ok) : ofQ (listQ q) = q := Q.ext' (of_ok _) hq fun n hn => by rw [has_of _ _ hn, mem_bytes _ _ hn]

/-- what is left of a set from a number on -/
def cutQ (q : Q) (k : Nat) : Q := minusQ q (upQ 0 k)
theorem cut_ok {q : Q} (h : q.ok) (k : Nat) : (cutQ q k).ok := minus_ok h
theorem has_cut (q : Q) (k n : Nat) (hk : k ≤ 256) (hn : n < 256) : (cutQ q k).has n = (q.has n && decide (k ≤ n)) := by
  unfold cutQ
  rw [has_minus _ _ (up_ok _ _), has_up _ _ _ hk hn]
  rw [Bool.eq_iff_iff]; simp
theorem cut_zero {q : Q} (h : q.ok) : cutQ q 0 = q := Q.ext' (cut_ok h _) h fun n hn => by rw [has_cut _ _ _ (by omega) hn]; simp
theorem cut_all {q : Q} (h : q.ok) : cutQ q 256 = zeroQ := Q.ext' (cut_ok h _) zero_ok fun n hn => by rw [has_cut _ _ _ (by omega) hn, has_zero, Bool.eq_iff_iff]; simp; omega
theorem cut_no {q : Q} (h : q.ok) (k : Nat) (hk : k < 256) (hb : q.has k = false) : cutQ q (k + 1) = cutQ q k := Q.ext' (cut_ok h _) (cut_ok h _) fun n hn => by
  rw [has_cut _ _ _ (by omega) hn, has_cut _ _ _ (by omega) hn, Bool.eq_iff_iff]
  simp only [Bool.and_eq_true, decide_eq_true_eq]
  constructor
  · rintro ⟨a, b⟩; exact ⟨a, by omega⟩
  · rintro ⟨a, b⟩
    refine ⟨a, ?_⟩
    by_cases e : n = k
    · subst e; rw [hb] at a; cases a
    · omega
theorem cut_yes {q : Q} (h : q.ok) (k : Nat) (hk : k < 256) : cutQ q (k + 1) = minusQ (cutQ q k) (oneQ k) := Q.ext' (cut_ok h _) (minus_ok (cut_ok h _)) fun n hn => by
  rw [has_cut _ _ _ (by omega) hn, has_minus _ _ (one_ok _), has_cut _ _ _ (by omega) hn, has_one _ _ hk hn, Bool.eq_iff_iff]
  simp only [Bool.and_eq_true, decide_eq_true_eq, Bool.not_eq_true', decide_eq_false_iff_not]
  constructor
  · rintro ⟨a, b⟩; exact ⟨⟨a, by omega⟩, by omega⟩
  · rintro ⟨⟨a, b⟩, c⟩; exact ⟨a, by omega⟩
theorem has_cut_at (q : Q) (k : Nat) (hk : k < 256) : (cutQ q k).has k = q.has k := by rw [has_cut _ _ _ (by omega) hk]; simp
theorem cut_end {q : Q} (k : Nat) (hk : k ≤ 256) (hz : cutQ q k = zeroQ) : bytesTo q k = listQ q := by
  have hno : ∀ n, k ≤ n → n < 256 → q.has n = false := by
    intro n h1 h2
    have := has_cut q k n hk h2
    rw [hz, has_zero] at this
    simpa [h1] using this.symm
  have : ∀ j, k + j ≤ 256 → bytesTo q (k + j) = bytesTo q k := by
    intro j
    induction j with
    | zero => intro _; rfl
    | succ j ih =>
      intro hj
      rw [show k + (j + 1) = (k + j) + 1 by omega, bytes_snoc, hno (k + j) (by omega) (by omega), ih (by omega)]
      simp
  have := this (256 - k) (by omega)
  rw [show k + (256 - k) = 256 by omega] at this
  exact this.symm

/-! ### How many -/
/-- how many bits of 64 are 1 -/
def pop (x : Nat) : Nat := (List.range 64).countP fun i => x.testBit i
def lenQ (q : Q) : Nat := pop q.a + pop q.b + pop q.c + pop q.d
theorem pop_le (x : Nat) : pop x ≤ 64 := by
  unfold pop
  exact Nat.le_trans List.countP_le_length (by simp)
theorem countP_both (l : List Nat) (p r : Nat → Bool) : l.countP (fun i => p i || r i) + l.countP (fun i => p i && r i) = l.countP p + l.countP r := by
  induction l with
  | nil => rfl
  | cons x l ih =>
    simp only [List.countP_cons]
    cases p x <;> cases r x <;> simp <;> omega
theorem pop_both (x y : Nat) (hy : y < 18446744073709551616) : pop (x ||| y) + pop (x &&& (18446744073709551615 - (18446744073709551615 - y))) = pop x + pop y := by
  rw [show 18446744073709551615 - (18446744073709551615 - y) = y by omega]
  unfold pop
  simp only [Nat.testBit_or, Nat.testBit_and]
  exact countP_both _ _ _
theorem len_both (q r : Q) (hr : r.ok) : lenQ (orQ q r) + lenQ (minusQ q (notQ r)) = lenQ q + lenQ r := by
  obtain ⟨h1, h2, h3, h4⟩ := hr
  have a := pop_both q.a r.a h1
  have b := pop_both q.b r.b h2
  have c := pop_both q.c r.c h3
  have d := pop_both q.d r.d h4
  unfold lenQ orQ minusQ notQ
  simp only
  omega
theorem range_four : List.range 256 = List.range 64 ++ ((List.range 64).map (64 + ·) ++ ((List.range 64).map (128 + ·) ++ (List.range 64).map (192 + ·))) := by decide +kernel
theorem pop_of {x : Nat} {f : Nat → Bool} (h : ∀ i, i < 64 → f i = x.testBit i) : (List.range 64).countP f = pop x := by
  unfold pop
  apply List.countP_congr
  intro i hi
  rw [h i (by simpa using hi)]
theorem list_len (q : Q) : (listQ q).length = lenQ q := by
  unfold listQ bytesTo
  rw [List.length_map, ← List.countP_eq_length_filter, range_four, List.countP_append, List.countP_append, List.countP_append, List.countP_map, List.countP_map, List.countP_map]
  rw [pop_of (x := q.a), pop_of (x := q.b), pop_of (x := q.c), pop_of (x := q.d)]
  · unfold lenQ; omega
  all_goals
    intro i hi
    simp only [Function.comp, Q.has]
  · rw [show (192 + i) / 64 = 3 by omega, show (192 + i) % 64 = i by omega]; rfl
  · rw [show (128 + i) / 64 = 2 by omega, show (128 + i) % 64 = i by omega]; rfl
  · rw [show (64 + i) / 64 = 1 by omega, show (64 + i) % 64 = i by omega]; rfl
  · rw [show i / 64 = 0 by omega, show i % 64 = i by omega]; rfl

/-! ### The laws of sets -/
theorem not_not (q : Q) (hq : q.ok) : notQ (notQ q) = q := by
  obtain ⟨h1, h2, h3, h4⟩ := hq
  cases q
  simp only [notQ, Q.mk.injEq] at *
  omega
theorem not_or (q r : Q) (hq : q.ok) (hr : r.ok) : notQ (orQ q r) = minusQ (notQ q) r := Q.ext' not_ok (minus_ok not_ok) fun n _ => by
  rw [has_not _ (or_ok hq hr), has_or, has_minus _ _ hr, has_not _ hq, Bool.not_or]
theorem or_comm' (q r : Q) : orQ q r = orQ r q := by unfold orQ; simp [Nat.or_comm]
theorem minus_or (q r : Q) (hq : q.ok) (hr : r.ok) : orQ (minusQ q r) r = orQ q r := Q.ext' (or_ok (minus_ok hq) hr) (or_ok hq hr) fun n _ => by
  rw [has_or, has_minus _ _ hr, has_or]
  cases q.has n <;> cases r.has n <;> rfl
theorem minus_self (q : Q) (hq : q.ok) : minusQ q q = zeroQ := Q.ext' (minus_ok hq) zero_ok fun n _ => by
  rw [has_minus _ _ hq, has_zero]
  cases q.has n <;> rfl
theorem zero_or (q : Q) : orQ zeroQ q = q := by unfold orQ zeroQ; simp
end Go.Proofs.YtjbnofljoijnmaaDoorC

/-
  WALKS: chars.one, Has, Not, Minus; the reference's Has.
-/
namespace Go.Proofs.YtjbnofljoijnmaaDoorC
open Go.RowKit

theorem hide {p : Prop} (h : p) : Hid p := h
theorem ret_bool {a b : Bool} (h : a = b) : Ending.returned (.bool a) = .returned (.bool b) := by rw [h]
theorem ret_int {k : IntKind} {a b : Int} (h : a = b) : Ending.returned (.int k a) = .returned (.int k b) := by rw [h]

/-- a set as the program has it -/
def qv (q : Q) : Value := .agg #[.int .u64 q.a, .int .u64 q.b, .int .u64 q.c, .int .u64 q.d]

theorem pow_cast (c : Int) (h0 : 0 ≤ c) : IntKind.u64.wrap (2 ^ (c % 64).toNat) = ((2 ^ (c.toNat % 64) : Nat) : Int) := by
  have e : (c % 64).toNat = c.toNat % 64 := by omega
  have h := pow_lt c.toNat
  have e2 : ((2 : Int) ^ (c.toNat % 64)) = ((2 ^ (c.toNat % 64) : Nat) : Int) := by rw [Int.natCast_pow]; rfl
  rw [e, IntKind.wrap_u64, e2]
  generalize 2 ^ (c.toNat % 64) = x at *
  omega

set_option maxHeartbeats 400000 in
theorem one_any (c : Int) (w : World) (h0 : 0 ≤ c) (h1 : c ≤ 255) :
    Calls Tryd.prog 62 #[.int .u8 c] w fun e w' => e = .returned (qv (oneQ c.toNat)) ∧ Below w.heap.size w w' := by
  have hp := pow_cast c h0
  have Hp := hide hp
  clear hp
  obtain ⟨k, hk⟩ : ∃ k, c / 64 = k := ⟨_, rfl⟩
  have hd : k = 0 ∨ k = 1 ∨ k = 2 ∨ k = 3 := by omega
  rcases hd with rfl | rfl | rfl | rfl
  all_goals
    go_enter Tryd.func62, Tryd.ntmps62
    go_wp2
    have ek : c.toNat / 64 = 0 ∨ c.toNat / 64 = 1 ∨ c.toNat / 64 = 2 ∨ c.toNat / 64 = 3 := by omega
    rcases ek with ek | ek | ek | ek <;> first | (exfalso; omega) | skip
    refine bodyPost_ret (v := qv (oneQ c.toNat)) ?_ rfl ⟨rfl, ?_⟩
    · simp [results, Tryd.results62, go_sem, qv, oneQ, ek]
      exact Hp.out
    · exact ((Below.refl _ _).alloc (Nat.le_refl _) _).alloc (by simp) _

theorem bit_of (x : Nat) (c : Int) (h0 : 0 ≤ c) (hx : x < 18446744073709551616) : (bits .and .u64 ((x : Int) / 2 ^ (c % 64).toNat) 1 == 1) = x.testBit (c.toNat % 64) := by
  have e : (c % 64).toNat = c.toNat % 64 := by omega
  rw [e]
  have e2 : ((x : Int) / 2 ^ (c.toNat % 64)) = ((x / 2 ^ (c.toNat % 64) : Nat) : Int) := by
    rw [Int.natCast_ediv, Int.natCast_pow]; rfl
  have hl : x / 2 ^ (c.toNat % 64) < 18446744073709551616 := Nat.lt_of_le_of_lt (Nat.div_le_self _ _) hx
  rw [e2, show (1 : Int) = ((1 : Nat) : Int) from rfl, u64_and_nat _ _ hl (by decide), Nat.testBit_eq_decide_div_mod_eq, Nat.and_one_is_mod, Bool.eq_iff_iff]
  simp
  omega

set_option maxHeartbeats 400000 in
theorem has_any (q : Q) (c : Int) (w : World) (hq : q.ok) (h0 : 0 ≤ c) (h1 : c ≤ 255) :
    Calls Tryd.prog 36 #[qv q, .int .u8 c] w fun e w' => e = .returned (.bool (q.has c.toNat)) ∧ Below w.heap.size w w' := by
  obtain ⟨a, b, cc, d⟩ := q
  obtain ⟨g0, g1, g2, g3⟩ := hq
  simp only at g0 g1 g2 g3
  have b0 := bit_of a c h0 g0
  have b1 := bit_of b c h0 g1
  have b2 := bit_of cc c h0 g2
  have b3 := bit_of d c h0 g3
  have B0 := hide b0
  have B1 := hide b1
  have B2 := hide b2
  have B3 := hide b3
  clear b0 b1 b2 b3
  obtain ⟨k, hk⟩ : ∃ k, c / 64 = k := ⟨_, rfl⟩
  have hd : k = 0 ∨ k = 1 ∨ k = 2 ∨ k = 3 := by omega
  unfold qv Q.has Q.word
  rcases hd with rfl | rfl | rfl | rfl
  all_goals
    have ek : c.toNat / 64 = 0 ∨ c.toNat / 64 = 1 ∨ c.toNat / 64 = 2 ∨ c.toNat / 64 = 3 := by omega
    rcases ek with ek | ek | ek | ek <;> first | (exfalso; omega) | skip
    simp only [ek]
    clear ek
    go_enter Tryd.func36, Tryd.ntmps36
    go_wp2
    go_ret
    refine ⟨ret_bool ?_, (Below.refl _ _).alloc (Nat.le_refl _) _⟩
    first | exact B0.out | exact B1.out | exact B2.out | exact B3.out

theorem half (x k : Nat) : ((x / 2 ^ k : Nat) : Int) / 2 = ((x / 2 ^ (k + 1) : Nat) : Int) := by
  rw [Nat.pow_succ, ← Nat.div_div_eq_div_mul, Int.natCast_ediv (x / 2 ^ k)]; rfl
theorem bit_of' (x : Nat) (k : Nat) : (((x / 2 ^ k : Nat) : Int) % 2 == 1) = x.testBit k := by
  rw [Nat.testBit_eq_decide_div_mod_eq, Bool.eq_iff_iff]
  generalize x / 2 ^ k = y
  simp
  omega

end Go.Proofs.YtjbnofljoijnmaaDoorC

/-
  PLAIN LEAN, no program in it: how bits.OnesCount64 counts.
-/
namespace Go.Proofs.YtjbnofljoijnmaaDoorC

theorem and_step (r y m n : Nat) (hr : r < 256) (hm : m < 256) : (r + 256 * y) &&& (m + 256 * n) = (r &&& m) + 256 * (y &&& n) := by
  have hrm : r &&& m < 2 ^ 8 := Nat.lt_of_le_of_lt Nat.and_le_left hr
  apply Nat.eq_of_testBit_eq
  intro i
  rw [Nat.testBit_and, Nat.add_comm r, Nat.add_comm m, Nat.add_comm (r &&& m)]
  rw [show (256 : Nat) = 2 ^ 8 from rfl] at *
  rw [Nat.testBit_two_pow_mul_add y hr i, Nat.testBit_two_pow_mul_add n hm i, Nat.testBit_two_pow_mul_add _ hrm i]
  split
  · rw [Nat.testBit_and]
  · rw [Nat.testBit_and]

def f1 (m x : Nat) : Nat := (x / 2 &&& m) + (x &&& m)
def f2 (m x : Nat) : Nat := (x / 4 &&& m) + (x &&& m)
def f3 (m x : Nat) : Nat := (x / 16 + x) &&& m

theorem b1 : ∀ r : Fin 256, ∀ b : Fin 2, (r.val / 2 + 128 * b.val) &&& 85 = r.val / 2 &&& 85 := by decide +kernel
theorem b2 : ∀ r : Fin 256, ∀ b : Fin 4, (r.val / 4 + 64 * b.val) &&& 51 = r.val / 4 &&& 51 := by decide +kernel
theorem b3 : ∀ r : Fin 69, ∀ b : Fin 5, (r.val / 16 + 16 * b.val + r.val) &&& 15 = (r.val / 16 + r.val) &&& 15 := by decide +kernel

theorem f1_step (r y n : Nat) (hr : r < 256) : f1 (85 + 256 * n) (r + 256 * y) = f1 85 r + 256 * f1 n y := by
  unfold f1
  rw [show (r + 256 * y) / 2 = (r / 2 + 128 * (y % 2)) + 256 * (y / 2) by omega]
  rw [and_step _ _ _ _ (by omega) (by decide), and_step _ _ _ _ hr (by decide)]
  have := b1 ⟨r, hr⟩ ⟨y % 2, by omega⟩
  simp only at this
  rw [this]
  omega
theorem f2_step (r y n : Nat) (hr : r < 256) : f2 (51 + 256 * n) (r + 256 * y) = f2 51 r + 256 * f2 n y := by
  unfold f2
  rw [show (r + 256 * y) / 4 = (r / 4 + 64 * (y % 4)) + 256 * (y / 4) by omega]
  rw [and_step _ _ _ _ (by omega) (by decide), and_step _ _ _ _ hr (by decide)]
  have := b2 ⟨r, hr⟩ ⟨y % 4, by omega⟩
  simp only at this
  rw [this]
  omega
theorem f3_step (r y n : Nat) (hr : r < 69) (hy : y % 16 < 5) : f3 (15 + 256 * n) (r + 256 * y) = f3 15 r + 256 * f3 n y := by
  unfold f3
  rw [show (r + 256 * y) / 16 + (r + 256 * y) = (r / 16 + 16 * (y % 16) + r) + 256 * (y / 16 + y) by omega]
  rw [and_step _ _ _ _ (by omega) (by decide)]
  have := b3 ⟨r, hr⟩ ⟨y % 16, hy⟩
  simp only at this
  rw [this]

/-- how many of the first bits are 1 -/
def cnt (n x : Nat) : Nat := (List.range n).countP fun i => x.testBit i
theorem cnt_step (n r y : Nat) (hr : r < 256) : cnt (8 + n) (r + 256 * y) = cnt 8 r + cnt n y := by
  unfold cnt
  have hr' : r < 2 ^ 8 := hr
  rw [List.range_add, List.countP_append, List.countP_map]
  congr 1
  · apply List.countP_congr
    intro i hi
    have hi' : i < 8 := by simpa using hi
    rw [Nat.add_comm r, show (256 : Nat) = 2 ^ 8 from rfl, Nat.testBit_two_pow_mul_add y hr' i, if_pos hi']
  · apply List.countP_congr
    intro i _
    simp only [Function.comp]
    rw [Nat.add_comm r, show (256 : Nat) = 2 ^ 8 from rfl, Nat.testBit_two_pow_mul_add y hr' (8 + i), if_neg (by omega), show 8 + i - 8 = i by omega]

/-- of a byte -/
def g (r : Nat) : Nat := f2 51 (f1 85 r)
theorem byte_all : ∀ r : Fin 256, f1 85 r.val < 256 ∧ g r.val < 69 ∧ g r.val % 16 < 5 ∧ f3 15 (g r.val) = cnt 8 r.val ∧ cnt 8 r.val ≤ 8 := by decide +kernel

/-- a number of so many bytes -/
def val : List Nat → Nat
  | [] => 0
  | r :: l => r + 256 * val l
def mask (m : Nat) : Nat → Nat
  | 0 => 0
  | k + 1 => m + 256 * mask m k

theorem f1_val (l : List Nat) (h : ∀ r ∈ l, r < 256) : f1 (mask 85 l.length) (val l) = val (l.map (f1 85)) := by
  induction l with
  | nil => rfl
  | cons r l ih => rw [List.length_cons, mask, val, f1_step _ _ _ (h r (by simp)), ih (fun r hr => h r (by simp [hr]))]; rfl
theorem f2_val (l : List Nat) (h : ∀ r ∈ l, r < 256) : f2 (mask 51 l.length) (val l) = val (l.map (f2 51)) := by
  induction l with
  | nil => rfl
  | cons r l ih => rw [List.length_cons, mask, val, f2_step _ _ _ (h r (by simp)), ih (fun r hr => h r (by simp [hr]))]; rfl
theorem f3_val (l : List Nat) (h : ∀ r ∈ l, r < 69 ∧ r % 16 < 5) : f3 (mask 15 l.length) (val l) = val (l.map (f3 15)) := by
  induction l with
  | nil => rfl
  | cons r l ih =>
    have hy : val l % 16 < 5 := by
      cases l with
      | nil => decide
      | cons s l => have := (h s (by simp)).2; simp only [val]; omega
    rw [List.length_cons, mask, val, f3_step _ _ _ (h r (by simp)).1 hy, ih (fun r hr => h r (by simp [hr]))]; rfl
theorem cnt_val (l : List Nat) (h : ∀ r ∈ l, r < 256) : cnt (8 * l.length) (val l) = (l.map (cnt 8)).sum := by
  induction l with
  | nil => rfl
  | cons r l ih =>
    rw [List.length_cons, show 8 * (l.length + 1) = 8 + 8 * l.length by omega, val, cnt_step _ _ _ (h r (by simp)), ih (fun r hr => h r (by simp [hr])), List.map_cons, List.sum_cons]

theorem val_div (r : Nat) (l : List Nat) (h : r < 256) : val (r :: l) / 256 = val l := by simp only [val]; omega
theorem val_lt (l : List Nat) (h : ∀ r ∈ l, r < 256) : val l < 256 ^ l.length := by
  induction l with
  | nil => decide
  | cons r l ih =>
    have h1 := h r (by simp)
    have h2 := ih (fun r hr => h r (by simp [hr]))
    rw [List.length_cons, Nat.pow_succ, val]
    omega
theorem val_of (k x : Nat) (h : x < 256 ^ k) : ∃ l : List Nat, (∀ r ∈ l, r < 256) ∧ l.length = k ∧ val l = x := by
  induction k generalizing x with
  | zero => exact ⟨[], by simp, rfl, by simp [val]; omega⟩
  | succ k ih =>
    rw [Nat.pow_succ] at h
    obtain ⟨l, h1, h2, h3⟩ := ih (x / 256) (by omega)
    refine ⟨x % 256 :: l, ?_, by simp [h2], ?_⟩
    · intro r hr
      simp at hr
      rcases hr with rfl | hr
      · omega
      · exact h1 r hr
    · simp only [val, h3]; omega

theorem last (p0 p1 p2 p3 p4 p5 p6 p7 x1 x2 x3 x4 : Nat) (h0 : p0 ≤ 8) (h1 : p1 ≤ 8) (h2 : p2 ≤ 8) (h3 : p3 ≤ 8) (h4 : p4 ≤ 8) (h5 : p5 ≤ 8) (h6 : p6 ≤ 8) (h7 : p7 ≤ 8)
    (e1 : x1 = val [p0, p1, p2, p3, p4, p5, p6, p7]) (e2 : x2 = x1 + x1 / 256) (e3 : x3 = x2 + x2 / 65536) (e4 : x4 = x3 + x3 / 4294967296) :
    x1 < 18446744073709551616 ∧ x2 < 18446744073709551616 ∧ x3 < 18446744073709551616 ∧ x4 < 18446744073709551616 ∧ x4 < 9223372036854775808 ∧ x4 % 128 = p0 + p1 + p2 + p3 + p4 + p5 + p6 + p7 := by
  have k2 : x2 = val [p0 + p1, p1 + p2, p2 + p3, p3 + p4, p4 + p5, p5 + p6, p6 + p7, p7] := by
    rw [e2, e1, val_div _ _ (by omega)]; simp only [val]; omega
  have k3 : x3 = val [p0 + p1 + (p2 + p3), p1 + p2 + (p3 + p4), p2 + p3 + (p4 + p5), p3 + p4 + (p5 + p6), p4 + p5 + (p6 + p7), p5 + p6 + p7, p6 + p7, p7] := by
    rw [e3, k2, show 65536 = 256 * 256 from rfl, ← Nat.div_div_eq_div_mul, val_div _ _ (by omega), val_div _ _ (by omega)]; simp only [val]; omega
  have k4 : x4 = val [p0 + p1 + (p2 + p3) + (p4 + p5 + (p6 + p7)), p1 + p2 + (p3 + p4) + (p5 + p6 + p7), p2 + p3 + (p4 + p5) + (p6 + p7), p3 + p4 + (p5 + p6) + p7, p4 + p5 + (p6 + p7), p5 + p6 + p7, p6 + p7, p7] := by
    rw [e4, k3, show 4294967296 = 256 * 256 * 256 * 256 from rfl, ← Nat.div_div_eq_div_mul, ← Nat.div_div_eq_div_mul, ← Nat.div_div_eq_div_mul, val_div _ _ (by omega), val_div _ _ (by omega), val_div _ _ (by omega), val_div _ _ (by omega)]; simp only [val]; omega
  have lt : ∀ l : List Nat, l.length = 8 → (∀ r ∈ l, r < 256) → val l < 18446744073709551616 := fun l hl h => by have := val_lt l h; rw [hl] at this; exact this
  refine ⟨?_, ?_, ?_, ?_, ?_, ?_⟩
  · rw [e1]; apply lt _ rfl; simp only [List.mem_cons, List.not_mem_nil, or_false, forall_eq_or_imp, forall_eq]; omega
  · rw [k2]; apply lt _ rfl; simp only [List.mem_cons, List.not_mem_nil, or_false, forall_eq_or_imp, forall_eq]; omega
  · rw [k3]; apply lt _ rfl; simp only [List.mem_cons, List.not_mem_nil, or_false, forall_eq_or_imp, forall_eq]; omega
  · rw [k4]; apply lt _ rfl; simp only [List.mem_cons, List.not_mem_nil, or_false, forall_eq_or_imp, forall_eq]; omega
  · rw [k4]; simp only [val]; omega
  · rw [k4, val]
    generalize val _ = z
    omega

theorem len8 (l : List Nat) (h : l.length = 8) : ∃ r0 r1 r2 r3 r4 r5 r6 r7, l = [r0, r1, r2, r3, r4, r5, r6, r7] :=
  match l, h with
  | [r0, r1, r2, r3, r4, r5, r6, r7], _ => ⟨r0, r1, r2, r3, r4, r5, r6, r7, rfl⟩
theorem val_le (l : List Nat) (h : ∀ r ∈ l, r ≤ 68) : val l ≤ 68 * mask 1 l.length := by
  induction l with
  | nil => decide
  | cons r l ih =>
    have h1 := h r (by simp)
    have h2 := ih (fun r hr => h r (by simp [hr]))
    rw [List.length_cons, mask, val]
    omega
theorem mask_eight : mask 1 8 = 72340172838076673 := rfl

/-- the number that bits.OnesCount64 comes to -/
theorem ones (x y1 y2 y3 y4 y5 y6 : Nat) (hx : x < 18446744073709551616) (e1 : y1 = f1 6148914691236517205 x) (e2 : y2 = f2 3689348814741910323 y1) (e3 : y3 = f3 1085102592571150095 y2)
    (e4 : y4 = y3 + y3 / 256) (e5 : y5 = y4 + y4 / 65536) (e6 : y6 = y5 + y5 / 4294967296) :
    y1 < 18446744073709551616 ∧ y2 / 16 + y2 < 18446744073709551616 ∧ y2 < 18446744073709551616 ∧ y3 < 18446744073709551616 ∧ y4 < 18446744073709551616 ∧ y5 < 18446744073709551616 ∧ y6 < 18446744073709551616 ∧ y6 < 9223372036854775808 ∧ y6 % 128 = pop x := by
  obtain ⟨l, hl, hn, hv⟩ := val_of 8 x hx
  have m1 : mask 85 l.length = 6148914691236517205 := by rw [hn]; rfl
  have m2 : mask 51 l.length = 3689348814741910323 := by rw [hn]; rfl
  have m3 : mask 15 l.length = 1085102592571150095 := by rw [hn]; rfl
  have k1 : y1 = val (l.map (f1 85)) := by rw [e1, ← m1, ← hv, f1_val l hl]
  have hb : ∀ r ∈ l, f1 85 r < 256 ∧ g r < 69 ∧ g r % 16 < 5 ∧ f3 15 (g r) = cnt 8 r ∧ cnt 8 r ≤ 8 := fun r hr => byte_all ⟨r, hl r hr⟩
  have k2 : y2 = val (l.map g) := by
    rw [e2, k1, ← m2, show l.length = (l.map (f1 85)).length by simp, f2_val, List.map_map]
    · rfl
    · intro r hr
      simp at hr
      obtain ⟨s, hs, rfl⟩ := hr
      exact (hb s hs).1
  have k3 : y3 = val (l.map (cnt 8)) := by
    rw [e3, k2, ← m3, show l.length = (l.map g).length by simp, f3_val, List.map_map]
    · congr 1
      apply List.map_congr_left
      intro r hr
      exact (hb r hr).2.2.2.1
    · intro r hr
      simp at hr
      obtain ⟨s, hs, rfl⟩ := hr
      exact ⟨(hb s hs).2.1, (hb s hs).2.2.1⟩
  have k4 : pop x = (l.map (cnt 8)).sum := by
    rw [← cnt_val l hl, hn, hv]; rfl
  have w1 : y1 < 18446744073709551616 := by
    rw [k1]
    have := val_lt (l.map (f1 85)) (by intro r hr; simp at hr; obtain ⟨s, hs, rfl⟩ := hr; exact (hb s hs).1)
    rw [List.length_map, hn] at this
    exact this
  have w2 : y2 ≤ 68 * 72340172838076673 := by
    rw [k2]
    have := val_le (l.map g) (by intro r hr; simp at hr; obtain ⟨s, hs, rfl⟩ := hr; have := (hb s hs).2.1; omega)
    rw [List.length_map, hn, mask_eight] at this
    exact this
  have w3 : y2 < 18446744073709551616 := by omega
  have w4 : y2 / 16 + y2 < 18446744073709551616 := by omega
  clear m1 m2 m3 k1 k2 e1 e2 e3 hv
  obtain ⟨r0, r1, r2, r3, r4, r5, r6, r7, hl8⟩ := len8 l hn
  rw [hl8] at hb k3 k4
  have a := fun r hr => (hb r hr).2.2.2.2
  have := last (cnt 8 r0) (cnt 8 r1) (cnt 8 r2) (cnt 8 r3) (cnt 8 r4) (cnt 8 r5) (cnt 8 r6) (cnt 8 r7) y3 y4 y5 y6 (a r0 (by simp)) (a r1 (by simp)) (a r2 (by simp)) (a r3 (by simp)) (a r4 (by simp)) (a r5 (by simp)) (a r6 (by simp)) (a r7 (by simp)) k3 e4 e5 e6
  refine ⟨w1, w4, w3, this.1, this.2.1, this.2.2.1, this.2.2.2.1, this.2.2.2.2.1, ?_⟩
  rw [this.2.2.2.2.2, k4]
  simp only [List.map, List.sum_cons, List.sum_nil]
  omega
end Go.Proofs.YtjbnofljoijnmaaDoorC

/-
  WALKS: chars.Not, Minus, Len; bits.OnesCount64.
-/
namespace Go.Proofs.YtjbnofljoijnmaaDoorC
open Go.RowKit

theorem idx0 (x0 x1 x2 x3 : Int) (w : World) : (Instr.index 73 (.agg #[.int .u64 x0, .int .u64 x1, .int .u64 x2, .int .u64 x3]) (.int .i64 0)).run Tryd.prog w = .ok (.int .u64 x0) w := by kernel_rfl
theorem idx1 (x0 x1 x2 x3 : Int) (w : World) : (Instr.index 73 (.agg #[.int .u64 x0, .int .u64 x1, .int .u64 x2, .int .u64 x3]) (.int .i64 1)).run Tryd.prog w = .ok (.int .u64 x1) w := by kernel_rfl
theorem idx2 (x0 x1 x2 x3 : Int) (w : World) : (Instr.index 73 (.agg #[.int .u64 x0, .int .u64 x1, .int .u64 x2, .int .u64 x3]) (.int .i64 2)).run Tryd.prog w = .ok (.int .u64 x2) w := by kernel_rfl
theorem idx3 (x0 x1 x2 x3 : Int) (w : World) : (Instr.index 73 (.agg #[.int .u64 x0, .int .u64 x1, .int .u64 x2, .int .u64 x3]) (.int .i64 3)).run Tryd.prog w = .ok (.int .u64 x3) w := by kernel_rfl

theorem not_word (x : Nat) (hx : x < 18446744073709551616) : bits .xor .u64 IntKind.u64.max (x : Int) = ((18446744073709551615 - x : Nat) : Int) := by
  show IntKind.u64.wrap ((BitVec.ofInt 64 IntKind.u64.max ^^^ BitVec.ofInt 64 (x : Int)).toNat : Int) = _
  have h1 : BitVec.ofInt 64 IntKind.u64.max = BitVec.allOnes 64 := by decide
  rw [h1, BitVec.allOnes_xor, BitVec.toNat_not, ofInt_u64 x (by omega), IntKind.wrap_u64]
  omega

theorem and_div (y n : Nat) (m : Nat) (hy : y < 18446744073709551616) (hm : m < 18446744073709551616) : bits .and .u64 ((y : Int) / (n : Int)) (m : Int) = ((y / n &&& m : Nat) : Int) := by
  rw [← Int.natCast_ediv]
  exact u64_and_nat _ _ (Nat.lt_of_le_of_lt (Nat.div_le_self _ _) hy) hm
theorem wrap_is (z : Nat) (i : Int) (h : z < 18446744073709551616) (e : i = z) : IntKind.u64.wrap i = (z : Int) := by
  rw [IntKind.wrap_u64, e]; omega

theorem pop_nn (x : Nat) : (0 : Int) ≤ pop x ∧ (pop x : Int) ≤ 64 := by have := pop_le x; omega

end Go.Proofs.YtjbnofljoijnmaaDoorC

/-
  WALKS: chars.Union of none, of two and of three sets.
-/
namespace Go.Proofs.YtjbnofljoijnmaaDoorC
open Go.RowKit

set_option maxHeartbeats 1000000 in
theorem union0 (w : World) :
    Calls Tryd.prog 61 #[.slice none 0 0] w fun e w' => e = .returned (qv zeroQ) ∧ Below w.heap.size w w' := by
  go_enter Tryd.func61, Tryd.ntmps61
  go_wp2
  refine wp_loop_rounds 1 ?_
  rw [rounds_succ]; go_wp2
  refine bodyPost_ret (v := qv zeroQ) ?_ rfl ⟨rfl, ?_⟩
  · simp [results, Tryd.results61, go_sem, qv, zeroQ]
  · exact ((Below.refl _ _).alloc (Nat.le_refl _) _).alloc (by simp) _

theorem or1 (x : Nat) (hx : x < 18446744073709551616) : bits .or .u64 0 (x : Int) = (x : Int) := by
  have := u64_or_nat 0 x (by decide) hx
  rw [Nat.zero_or] at this
  exact this
theorem or2 (x y : Nat) (hx : x < 18446744073709551616) (hy : y < 18446744073709551616) : bits .or .u64 (bits .or .u64 0 (x : Int)) (y : Int) = ((x ||| y : Nat) : Int) := by
  rw [or1 x hx, u64_or_nat x y hx hy]
theorem or3 (x y z : Nat) (hx : x < 18446744073709551616) (hy : y < 18446744073709551616) (hz : z < 18446744073709551616) : bits .or .u64 (bits .or .u64 (bits .or .u64 0 (x : Int)) (y : Int)) (z : Int) = ((x ||| y ||| z : Nat) : Int) := by
  rw [or2 x y hx hy, u64_or_nat _ z (or_lt hx hy) hz]

set_option maxHeartbeats 4000000 in
theorem union2 (q r : Q) (w : World) (hq : q.ok) (hr : r.ok) :
    Calls Tryd.prog 61 #[.slice (some ⟨w.heap.size, 0, none⟩) 2 2] (w.alloc (.cells #[.int .u64 q.a, .int .u64 q.b, .int .u64 q.c, .int .u64 q.d, .int .u64 r.a, .int .u64 r.b, .int .u64 r.c, .int .u64 r.d] 73)) fun e w' => e = .returned (qv (orQ q r)) ∧ Below w.heap.size w w' := by
  obtain ⟨a, b, cc, d⟩ := q
  obtain ⟨g0, g1, g2, g3⟩ := hq
  simp only at g0 g1 g2 g3
  have i0 := idx0 a b cc d
  have i1 := idx1 a b cc d
  have i2 := idx2 a b cc d
  have i3 := idx3 a b cc d
  obtain ⟨a', b', cc', d'⟩ := r
  obtain ⟨g0', g1', g2', g3'⟩ := hr
  simp only at g0' g1' g2' g3'
  have i0' := idx0 a' b' cc' d'
  have i1' := idx1 a' b' cc' d'
  have i2' := idx2 a' b' cc' d'
  have i3' := idx3 a' b' cc' d'
  go_enter Tryd.func61, Tryd.ntmps61
  go_wp2
  refine wp_loop_rounds 3 ?_
  rw [rounds_succ]; go_wp2
  refine wp_loop_rounds 5 ?_
  rw [rounds_succ]; go_wp2
  rw [rounds_succ]; go_wp2
  rw [rounds_succ]; go_wp2
  rw [rounds_succ]; go_wp2
  rw [rounds_succ]; go_wp2
  rw [rounds_succ]; go_wp2
  refine wp_loop_rounds 5 ?_
  rw [rounds_succ]; go_wp2
  rw [rounds_succ]; go_wp2
  rw [rounds_succ]; go_wp2
  rw [rounds_succ]; go_wp2
  rw [rounds_succ]; go_wp2
  rw [rounds_succ]; go_wp2
  refine bodyPost_ret (v := qv (orQ ⟨a, b, cc, d⟩ ⟨a', b', cc', d'⟩)) ?_ rfl ⟨rfl, ?_⟩
  · simp [results, Tryd.results61, go_sem, qv, orQ]
    exact ⟨or2 a a' g0 g0', or2 b b' g1 g1', or2 cc cc' g2 g2', or2 d d' g3 g3'⟩
  · exact (((((Below.refl _ _).alloc (Nat.le_refl _) _).alloc (by simp) _).alloc (by simp; omega) _).alloc (by simp; omega) _).alloc (by simp; omega) _

set_option maxHeartbeats 4000000 in
theorem union3 (q r t : Q) (w : World) (hq : q.ok) (hr : r.ok) (ht : t.ok) :
    Calls Tryd.prog 61 #[.slice (some ⟨w.heap.size, 0, none⟩) 3 3] (w.alloc (.cells #[.int .u64 q.a, .int .u64 q.b, .int .u64 q.c, .int .u64 q.d, .int .u64 r.a, .int .u64 r.b, .int .u64 r.c, .int .u64 r.d, .int .u64 t.a, .int .u64 t.b, .int .u64 t.c, .int .u64 t.d] 73)) fun e w' => e = .returned (qv (orQ (orQ q r) t)) ∧ Below w.heap.size w w' := by
  obtain ⟨a, b, cc, d⟩ := q
  obtain ⟨g0, g1, g2, g3⟩ := hq
  simp only at g0 g1 g2 g3
  have i0 := idx0 a b cc d
  have i1 := idx1 a b cc d
  have i2 := idx2 a b cc d
  have i3 := idx3 a b cc d
  obtain ⟨a', b', cc', d'⟩ := r
  obtain ⟨g0', g1', g2', g3'⟩ := hr
  simp only at g0' g1' g2' g3'
  have i0' := idx0 a' b' cc' d'
  have i1' := idx1 a' b' cc' d'
  have i2' := idx2 a' b' cc' d'
  have i3' := idx3 a' b' cc' d'
  obtain ⟨a'', b'', cc'', d''⟩ := t
  obtain ⟨g0'', g1'', g2'', g3''⟩ := ht
  simp only at g0'' g1'' g2'' g3''
  have i0'' := idx0 a'' b'' cc'' d''
  have i1'' := idx1 a'' b'' cc'' d''
  have i2'' := idx2 a'' b'' cc'' d''
  have i3'' := idx3 a'' b'' cc'' d''
  go_enter Tryd.func61, Tryd.ntmps61
  go_wp2
  refine wp_loop_rounds 4 ?_
  rw [rounds_succ]; go_wp2
  refine wp_loop_rounds 5 ?_
  rw [rounds_succ]; go_wp2
  rw [rounds_succ]; go_wp2
  rw [rounds_succ]; go_wp2
  rw [rounds_succ]; go_wp2
  rw [rounds_succ]; go_wp2
  rw [rounds_succ]; go_wp2
  refine wp_loop_rounds 5 ?_
  rw [rounds_succ]; go_wp2
  rw [rounds_succ]; go_wp2
  rw [rounds_succ]; go_wp2
  rw [rounds_succ]; go_wp2
  rw [rounds_succ]; go_wp2
  rw [rounds_succ]; go_wp2
  refine wp_loop_rounds 5 ?_
  rw [rounds_succ]; go_wp2
  rw [rounds_succ]; go_wp2
  rw [rounds_succ]; go_wp2
  rw [rounds_succ]; go_wp2
  rw [rounds_succ]; go_wp2
  rw [rounds_succ]; go_wp2
  refine bodyPost_ret (v := qv (orQ (orQ ⟨a, b, cc, d⟩ ⟨a', b', cc', d'⟩) ⟨a'', b'', cc'', d''⟩)) ?_ rfl ⟨rfl, ?_⟩
  · simp [results, Tryd.results61, go_sem, qv, orQ]
    exact ⟨or3 a a' a'' g0 g0' g0'', or3 b b' b'' g1 g1' g1'', or3 cc cc' cc'' g2 g2' g2'', or3 d d' d'' g3 g3' g3''⟩
  · exact ((((((Below.refl _ _).alloc (Nat.le_refl _) _).alloc (by simp) _).alloc (by simp; omega) _).alloc (by simp; omega) _).alloc (by simp; omega) _).alloc (by simp; omega) _
end Go.Proofs.YtjbnofljoijnmaaDoorC
