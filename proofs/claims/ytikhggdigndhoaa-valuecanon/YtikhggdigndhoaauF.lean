/-
  PLAIN LEAN: the reference's way to find a text's first character.
-/
import Derived.Test.YtikhggdigndhoaauL6
namespace Go.Proofs.Ytikhggdigndhoaau
open Go.Lib

/-- what the first byte says, by the reference's tests -/
def lead (b : Nat) : Int := if 240 ≤ b then (b : Int) - 240 else if 224 ≤ b then (b : Int) - 224 else if 192 ≤ b then (b : Int) - 192 else b
/-- the reference's c behind so many bytes -/
def cand (l : List UInt8) : Nat → Int
  | 0 => 0
  | 1 => lead (l.getD 0 0).toNat
  | (n + 2) => 64 * cand l (n + 1) + ((l.getD (n + 1) 0).toNat : Int) % 64
/-- the reference's test -/
def hit (l : List UInt8) (n : Nat) : Bool := mayB (cand l n) && (encodeRune (cand l n) == l.take n)

theorem lead_bd (b : Nat) (h : b < 256) : 0 ≤ lead b ∧ lead b ≤ 191 := by
  unfold lead
  split
  · omega
  · split
    · omega
    · split <;> omega
theorem byte_lt (x : UInt8) : x.toNat < 256 := UInt8.toNat_lt x
theorem cand_bd (l : List UInt8) : ∀ n, n ≤ 4 → 0 ≤ cand l n ∧ cand l n ≤ 60000000 := by
  have h1 := lead_bd _ (byte_lt (l.getD 0 0))
  intro n hn
  match n, hn with
  | 0, _ => simp [cand]
  | 1, _ => simp only [cand]; omega
  | 2, _ => simp only [cand]; omega
  | 3, _ => simp only [cand]; omega
  | 4, _ => simp only [cand]; omega

/-- a hit is what is decoded -/
theorem hit_dec (l : List UInt8) (n : Nat) (hn : n ≤ l.length) (h : hit l n = true) : (decodeL l) = ((cand l n).toNat, n) ∧ badL l = false ∧ 0 ≤ cand l n := by
  unfold hit at h
  rw [Bool.and_eq_true, beq_iff_eq] at h
  have e : l = encodeRune (cand l n) ++ l.drop n := by rw [h.2, List.take_append_drop]
  have hl : (encodeRune (cand l n)).length = n := by rw [h.2, List.length_take]; omega
  have hd := dec_enc (cand l n) h.1 (l.drop n)
  have hb := not_bad_enc (cand l n) h.1 (l.drop n)
  rw [← e] at hd hb
  rw [hl] at hd
  exact ⟨hd, hb, ((mayB_iff _).1 h.1).1⟩

theorem cand_enc (c : Int) (h : mayB c = true) (t : List UInt8) : cand (encodeRune c ++ t) (encodeRune c).length = c := by
  obtain ⟨x, rfl, hx, e | ⟨h1, h2, e⟩ | ⟨h1, h2, e⟩ | ⟨h1, e⟩⟩ := enc_shape c h
  · rw [e.2]
    simp only [List.length_cons, List.length_nil, List.cons_append, List.nil_append, cand, List.getD_cons_zero, u8 x (by omega), lead]
    split
    · omega
    · split
      · omega
      · split <;> omega
  · rw [e]
    simp only [List.length_cons, List.length_nil, List.cons_append, List.nil_append, cand, List.getD_cons_zero, List.getD_cons_succ, u8 (192 + x / 64) (by omega), u8 (128 + x % 64) (by omega), lead]
    split
    · omega
    · split
      · omega
      · split <;> omega
  · rw [e]
    simp only [List.length_cons, List.length_nil, List.cons_append, List.nil_append, cand, List.getD_cons_zero, List.getD_cons_succ, u8 (224 + x / 4096) (by omega), u8 (128 + x / 64 % 64) (by omega), u8 (128 + x % 64) (by omega), lead]
    split
    · omega
    · split <;> omega
  · rw [e]
    simp only [List.length_cons, List.length_nil, List.cons_append, List.nil_append, cand, List.getD_cons_zero, List.getD_cons_succ, u8 (240 + x / 262144) (by omega), u8 (128 + x / 4096 % 64) (by omega), u8 (128 + x / 64 % 64) (by omega), u8 (128 + x % 64) (by omega), lead]
    split <;> omega

/-- where something is decoded the reference hits -/
theorem dec_hit (l : List UInt8) (hne : l ≠ []) (hb : badL l = false) : 1 ≤ (decodeL l).2 ∧ (decodeL l).2 ≤ 4 ∧ (decodeL l).2 ≤ l.length ∧ hit l (decodeL l).2 = true := by
  have hg := dec_good l hne hb
  have hm := dec_may l
  have hl := enc_len ((decodeL l).1 : Int)
  have hc := cand_enc ((decodeL l).1 : Int) hm (l.drop (decodeL l).2)
  rw [← hg.1, hg.2] at hc
  rw [hg.2] at hl
  have hle := decodeL_le l hne
  refine ⟨hl.1, hl.2, hle, ?_⟩
  unfold hit
  rw [hc, hm]
  have : l.take (decodeL l).2 = encodeRune ((decodeL l).1 : Int) := by
    rw [← hg.2]
    conv => lhs; arg 2; rw [hg.1]
    rw [List.take_left]
  simp [this]

/-- what First answers -/
def firstC (l : List UInt8) : Int := if l = [] ∨ badL l = true then 0 else ((decodeL l).1 : Int)
def firstN (l : List UInt8) : Nat := if l = [] ∨ badL l = true then 0 else (decodeL l).2

theorem first_hit (l : List UInt8) (n : Nat) (h1 : 1 ≤ n) (hn : n ≤ l.length) (h : hit l n = true) : firstC l = cand l n ∧ firstN l = n := by
  obtain ⟨hd, hb, hc⟩ := hit_dec l n hn h
  have hne : l ≠ [] := by intro e; rw [e] at hn; simp at hn; omega
  simp only [firstC, firstN, hne, hb, false_or, Bool.false_eq_true, if_false, hd]
  exact ⟨by omega, trivial⟩
theorem first_miss (l : List UInt8) (h : ∀ j, 1 ≤ j → j ≤ 4 → j ≤ l.length → hit l j = false) : firstC l = 0 ∧ firstN l = 0 := by
  by_cases hne : l = []
  · simp [firstC, firstN, hne]
  · cases hb : badL l with
    | true => simp [firstC, firstN, hb]
    | false =>
      obtain ⟨a, b, c, d⟩ := dec_hit l hne hb
      rw [h _ a b c] at d
      cases d
end Go.Proofs.Ytikhggdigndhoaau
