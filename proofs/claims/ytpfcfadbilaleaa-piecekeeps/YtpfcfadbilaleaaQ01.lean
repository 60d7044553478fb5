/-
  TEXTS JOINED: uU, uV.
-/
import Derived.Lib.MapLaws
/-
  PLAIN LEAN, no program in it: characters and their bytes, over the model's own decoder: what a text's longest valid begin is, there and back.
-/
namespace Go.Proofs.Ytpfcfadbilaleaau
open Go Go.Lib

/-- a number is a character -/
def mayB (c : Int) : Bool := decide (0 ≤ c ∧ c ≤ 1114111 ∧ (c < 55296 ∨ 57343 < c))
/-- no character stands at the begin of a text that isn't empty -/
def badL (l : List UInt8) : Bool := decide ((decodeL l).1 = 65533 ∧ (decodeL l).2 = 1)
/-- what utf.broken answers -/
def brokenB (c : Int) (l : List UInt8) : Bool := decide (c = 65533 ∧ l.take 3 ≠ [239, 191, 189])

theorem mayB_iff (c : Int) : mayB c = true ↔ 0 ≤ c ∧ c ≤ 1114111 ∧ (c < 55296 ∨ 57343 < c) := by simp [mayB]

theorem dN1 (n b0 b1 b2 b3 : Nat) (h : b0 < 128) : decodeN n b0 b1 b2 b3 = (b0, 1) := by simp [decodeN, h]
theorem dN2 (n b0 b1 b2 b3 x : Nat) (h : 128 ≤ x ∧ x < 2048) (e0 : b0 = 192 + x / 64) (e1 : b1 = 128 + x % 64) (hn : 1 < n) : decodeN n b0 b1 b2 b3 = (x, 2) := by
  have a1 : ¬ b0 < 128 := by omega
  have a2 : b0 / 32 = 6 ∧ (1 < n ∧ b1 / 64 = 2) := by omega
  have a3 : b0 % 32 * 64 + b1 % 64 = x := by omega
  unfold decodeN
  rw [if_neg a1, if_pos a2, a3, if_pos (by omega)]
theorem dN3 (n b0 b1 b2 b3 x : Nat) (h : 2048 ≤ x ∧ x < 65536) (hs : x < 55296 ∨ 57344 ≤ x) (e0 : b0 = 224 + x / 4096) (e1 : b1 = 128 + x / 64 % 64) (e2 : b2 = 128 + x % 64) (hn : 2 < n) : decodeN n b0 b1 b2 b3 = (x, 3) := by
  have a1 : ¬ b0 < 128 := by omega
  have a2 : ¬ (b0 / 32 = 6 ∧ (1 < n ∧ b1 / 64 = 2)) := by omega
  have a3 : b0 / 16 = 14 ∧ (1 < n ∧ b1 / 64 = 2) ∧ (2 < n ∧ b2 / 64 = 2) := by omega
  have a4 : b0 % 16 * 4096 + b1 % 64 * 64 + b2 % 64 = x := by omega
  unfold decodeN
  rw [if_neg a1, if_neg a2, if_pos a3, a4, if_pos (by omega)]
theorem dN4 (n b0 b1 b2 b3 x : Nat) (h : 65536 ≤ x ∧ x ≤ 1114111) (e0 : b0 = 240 + x / 262144) (e1 : b1 = 128 + x / 4096 % 64) (e2 : b2 = 128 + x / 64 % 64) (e3 : b3 = 128 + x % 64) (hn : 3 < n) : decodeN n b0 b1 b2 b3 = (x, 4) := by
  have a1 : ¬ b0 < 128 := by omega
  have a2 : ¬ (b0 / 32 = 6 ∧ (1 < n ∧ b1 / 64 = 2)) := by omega
  have a3 : ¬ (b0 / 16 = 14 ∧ (1 < n ∧ b1 / 64 = 2) ∧ (2 < n ∧ b2 / 64 = 2)) := by omega
  have a4 : b0 / 8 = 30 ∧ (1 < n ∧ b1 / 64 = 2) ∧ (2 < n ∧ b2 / 64 = 2) ∧ (3 < n ∧ b3 / 64 = 2) := by omega
  have a5 : b0 % 8 * 262144 + b1 % 64 * 4096 + b2 % 64 * 64 + b3 % 64 = x := by omega
  unfold decodeN
  rw [if_neg a1, if_neg a2, if_neg a3, if_pos a4, a5, if_pos (by omega)]

theorem u8 (n : Nat) (h : n < 256) : (n.toUInt8).toNat = n := by simp; omega

/-- a character's bytes, whatever stands behind them, are decoded to it -/
theorem dec_enc (c : Int) (h : mayB c = true) (t : List UInt8) : decodeL (encodeRune c ++ t) = (c.toNat, (encodeRune c).length) := by
  rw [mayB_iff] at h
  obtain ⟨x, rfl⟩ : ∃ x : Nat, c = x := ⟨c.toNat, by omega⟩
  rw [decodeL_N]
  unfold encodeRune
  by_cases h1 : (x : Int) ≤ 127
  · rw [encodeRuneZ_one (by omega) h1]
    simp only [List.map_cons, List.map_nil, List.cons_append, List.nil_append, List.getD_cons_zero, List.length_cons, List.length_nil, Int.toNat_natCast]
    rw [dN1 _ _ _ _ _ (by rw [u8 _ (by omega)]; omega), u8 _ (by omega)]
  · by_cases h2 : (x : Int) ≤ 2047
    · rw [encodeRuneZ_two (by omega) h2]
      simp only [List.map_cons, List.map_nil, List.cons_append, List.nil_append, List.getD_cons_zero, List.getD_cons_succ, List.length_cons, List.length_nil, Int.toNat_natCast]
      exact dN2 _ _ _ _ _ x (by omega) (by rw [u8 _ (by omega)]; omega) (by rw [u8 _ (by omega)]; omega) (by omega)
    · by_cases h3 : (x : Int) ≤ 65535
      · rw [encodeRuneZ_three (by omega)]
        simp only [List.map_cons, List.map_nil, List.cons_append, List.nil_append, List.getD_cons_zero, List.getD_cons_succ, List.length_cons, List.length_nil, Int.toNat_natCast]
        exact dN3 _ _ _ _ _ x (by omega) (by omega) (by rw [u8 _ (by omega)]; omega) (by rw [u8 _ (by omega)]; omega) (by rw [u8 _ (by omega)]; omega) (by omega)
      · rw [encodeRuneZ_four (by omega) (by omega)]
        simp only [List.map_cons, List.map_nil, List.cons_append, List.nil_append, List.getD_cons_zero, List.getD_cons_succ, List.length_cons, List.length_nil, Int.toNat_natCast]
        exact dN4 _ _ _ _ _ x (by omega) (by rw [u8 _ (by omega)]; omega) (by rw [u8 _ (by omega)]; omega) (by rw [u8 _ (by omega)]; omega) (by rw [u8 _ (by omega)]; omega) (by omega)

theorem enc_len (c : Int) : 1 ≤ (encodeRune c).length ∧ (encodeRune c).length ≤ 4 := by
  have := encodeRuneZ_length c
  simpa [encodeRune] using this
theorem enc_ne (c : Int) : encodeRune c ≠ [] := by
  intro h
  have := enc_len c
  rw [h] at this
  simp at this

theorem enc_fffd : encodeRune 65533 = [239, 191, 189] := by decide

theorem decodeN_may (n b0 b1 b2 b3 : Nat) (h0 : b0 < 256) : (decodeN n b0 b1 b2 b3).1 < 55296 ∨ (57344 ≤ (decodeN n b0 b1 b2 b3).1 ∧ (decodeN n b0 b1 b2 b3).1 ≤ 1114111) := by
  unfold decodeN
  repeat' split
  all_goals (simp only; omega)

theorem dec_may (l : List UInt8) : mayB (decodeL l).1 = true := by
  rw [mayB_iff, decodeL_N]
  have := decodeN_may l.length (l.getD 0 0).toNat (l.getD 1 0).toNat (l.getD 2 0).toNat (l.getD 3 0).toNat (UInt8.toNat_lt _)
  omega

theorem bad_iff (l : List UInt8) : badL l = true ↔ (decodeL l).1 = 65533 ∧ (decodeL l).2 = 1 := by simp [badL]

theorem not_bad_enc (c : Int) (h : mayB c = true) (t : List UInt8) : badL (encodeRune c ++ t) = false := by
  cases hb : badL (encodeRune c ++ t) with
  | false => rfl
  | true =>
    rw [bad_iff, dec_enc c h] at hb
    rw [mayB_iff] at h
    have e : c = 65533 := by simp at hb; omega
    subst e
    simp [enc_fffd] at hb

/-- what is decoded, where something is, stands there -/
theorem dec_good (l : List UInt8) (hne : l ≠ []) (hb : badL l = false) : l = encodeRune (decodeL l).1 ++ l.drop (decodeL l).2 ∧ (encodeRune (decodeL l).1).length = (decodeL l).2 := by
  have hb' : ¬ ((decodeL l).1 = 65533 ∧ (decodeL l).2 = 1) := by rw [← bad_iff, hb]; simp
  have h := encode_decode l hne hb'
  have hl := decodeL_le l hne
  rw [h]
  exact ⟨(List.take_append_drop _ _).symm, by simp; omega⟩

/-- utf.broken is right -/
theorem broken_eq (l : List UInt8) (hne : l ≠ []) : brokenB (decodeL l).1 l = badL l := by
  cases hb : badL l with
  | true =>
    rw [bad_iff] at hb
    have : l.take 3 ≠ [239, 191, 189] := by
      intro h3
      have e : l = encodeRune 65533 ++ l.drop 3 := by rw [enc_fffd, ← h3, List.take_append_drop]
      have := dec_enc 65533 (by decide) (l.drop 3)
      rw [← e] at this
      rw [this] at hb
      simp [enc_fffd] at hb
    simp [brokenB, hb.1, this]
  | false =>
    have h := dec_good l hne hb
    simp only [brokenB, decide_eq_false_iff_not, not_and, Classical.not_not]
    intro h1
    rw [h1, enc_fffd] at h
    rw [h.1]
    rfl

/-- the characters of the longest valid begin, and how many bytes it has -/
def beginF : Nat → List UInt8 → List Int × Nat
  | 0, _ => ([], 0)
  | f + 1, l => if l = [] ∨ badL l = true then ([], 0) else (((decodeL l).1 : Int) :: (beginF f (l.drop (decodeL l).2)).1, (decodeL l).2 + (beginF f (l.drop (decodeL l).2)).2)
def chars (l : List UInt8) : List Int := (beginF l.length l).1
def blen (l : List UInt8) : Nat := (beginF l.length l).2
/-- characters as a text -/
def textL : List Int → List UInt8
  | [] => []
  | c :: r => encodeRune c ++ textL r
def allMay (l : List Int) : Bool := l.all mayB

theorem textL_append (a b : List Int) : textL (a ++ b) = textL a ++ textL b := by
  induction a with
  | nil => rfl
  | cons c r ih => simp [textL, ih]
theorem textL_one (c : Int) : textL [c] = encodeRune c := by simp [textL]
theorem allMay_append (a b : List Int) : allMay (a ++ b) = (allMay a && allMay b) := by simp [allMay]
theorem allMay_cons (c : Int) (r : List Int) : allMay (c :: r) = (mayB c && allMay r) := by simp [allMay]
theorem textL_len (l : List Int) : l.length ≤ (textL l).length ∧ (textL l).length ≤ 4 * l.length := by
  induction l with
  | nil => simp [textL]
  | cons c r ih => have := enc_len c; simp [textL]; omega

theorem beginF_stop (f : Nat) (l : List UInt8) (h : l = [] ∨ badL l = true) : beginF f l = ([], 0) := by
  cases f with
  | zero => rfl
  | succ f => simp [beginF, h]

theorem beginF_text (cs : List Int) : ∀ (f : Nat) (t : List UInt8), allMay cs = true → (t = [] ∨ badL t = true) → (textL cs).length ≤ f → beginF f (textL cs ++ t) = (cs, (textL cs).length) := by
  induction cs with
  | nil => intro f t _ ht _; simpa [textL] using beginF_stop f t ht
  | cons c r ih =>
    intro f t hc ht hf
    rw [allMay_cons, Bool.and_eq_true] at hc
    have hl := enc_len c
    have hlen : (textL (c :: r)).length = (encodeRune c).length + (textL r).length := by simp [textL]
    obtain ⟨g, rfl⟩ : ∃ g, f = g + 1 := ⟨f - 1, by omega⟩
    have e : textL (c :: r) ++ t = encodeRune c ++ (textL r ++ t) := by simp [textL]
    have hd := dec_enc c hc.1 (textL r ++ t)
    have hb := not_bad_enc c hc.1 (textL r ++ t)
    have hcc : ((c.toNat : Nat) : Int) = c := by have := (mayB_iff c).1 hc.1; omega
    rw [e]
    simp only [beginF, hd, hb, List.drop_left', List.append_eq_nil_iff, enc_ne, false_and, or_self, if_false, Bool.false_eq_true, ih g t hc.2 ht (by omega), hcc]
    rw [hlen]

/-- every text is its characters, and behind them nothing, or what begins with none -/
theorem split_text (n : Nat) : ∀ l : List UInt8, l.length ≤ n → ∃ cs t, l = textL cs ++ t ∧ allMay cs = true ∧ (t = [] ∨ badL t = true) := by
  induction n with
  | zero => intro l h; exact ⟨[], l, rfl, rfl, .inl (List.eq_nil_of_length_eq_zero (by omega))⟩
  | succ n ih =>
    intro l h
    by_cases hne : l = []
    · exact ⟨[], l, rfl, rfl, .inl hne⟩
    · cases hb : badL l with
      | true => exact ⟨[], l, rfl, rfl, .inr hb⟩
      | false =>
        have hg := dec_good l hne hb
        have hw := decodeL_width l
        obtain ⟨cs, t, e, hc, ht⟩ := ih (l.drop (decodeL l).2) (by simp; omega)
        refine ⟨((decodeL l).1 : Int) :: cs, t, ?_, ?_, ht⟩
        · simp only [textL, List.append_assoc]
          rw [← e]
          exact hg.1
        · rw [allMay_cons, hc, dec_may]; rfl

theorem chars_of (cs : List Int) (t : List UInt8) (hc : allMay cs = true) (ht : t = [] ∨ badL t = true) : chars (textL cs ++ t) = cs ∧ blen (textL cs ++ t) = (textL cs).length := by
  unfold chars blen
  rw [beginF_text cs _ t hc ht (by simp)]
  exact ⟨rfl, rfl⟩

theorem chars_split (l : List UInt8) : ∃ t, l = textL (chars l) ++ t ∧ allMay (chars l) = true ∧ (t = [] ∨ badL t = true) ∧ blen l = (textL (chars l)).length := by
  obtain ⟨cs, t, e, hc, ht⟩ := split_text l.length l (Nat.le_refl _)
  have h := chars_of cs t hc ht
  rw [← e] at h
  refine ⟨t, ?_, ?_, ht, ?_⟩
  · rw [h.1]; exact e
  · rw [h.1]; exact hc
  · rw [h.1]; exact h.2

/-- characters ahead of any text -/
theorem chars_append (cs : List Int) (t : List UInt8) (hc : allMay cs = true) : chars (textL cs ++ t) = cs ++ chars t ∧ blen (textL cs ++ t) = (textL cs).length + blen t := by
  obtain ⟨u, e, hm, hu, hl⟩ := chars_split t
  have h := chars_of (cs ++ chars t) u (by rw [allMay_append, hc, hm]; rfl) hu
  rw [textL_append, List.append_assoc, ← e] at h
  refine ⟨h.1, ?_⟩
  rw [h.2, hl]
  simp

theorem blen_le (l : List UInt8) : blen l ≤ l.length := by
  obtain ⟨t, e, _, _, hl⟩ := chars_split l
  have h := congrArg List.length e
  rw [List.length_append] at h
  omega
theorem text_chars (l : List UInt8) : textL (chars l) = l.take (blen l) := by
  obtain ⟨t, e, _, _, hl⟩ := chars_split l
  have h := congrArg (List.take (textL (chars l)).length) e
  rw [List.take_left'  rfl] at h
  rw [hl, h]
theorem valid_text (l : List UInt8) (h : blen l = l.length) : textL (chars l) = l := by rw [text_chars, h, List.take_length]
theorem chars_len (l : List UInt8) : (chars l).length ≤ l.length := by
  have h1 := textL_len (chars l)
  have h2 := blen_le l
  rw [text_chars, List.length_take] at h1
  omega

end Go.Proofs.Ytpfcfadbilaleaau
/-
  PLAIN LEAN, no program in it: characters beyond ASCII that may stand in a literal, and begins of their bytes (layer 4).
-/
namespace Go.Proofs.Ytpfcfadbilaleaau
open Go.Lib

theorem enc_shape (c : Int) (h : mayB c = true) : ∃ x : Nat, c = x ∧ x ≤ 1114111 ∧
    ((x < 128 ∧ encodeRune c = [x.toUInt8]) ∨ (128 ≤ x ∧ x < 2048 ∧ encodeRune c = [(192 + x / 64).toUInt8, (128 + x % 64).toUInt8]) ∨
     (2048 ≤ x ∧ x < 65536 ∧ encodeRune c = [(224 + x / 4096).toUInt8, (128 + x / 64 % 64).toUInt8, (128 + x % 64).toUInt8]) ∨
     (65536 ≤ x ∧ encodeRune c = [(240 + x / 262144).toUInt8, (128 + x / 4096 % 64).toUInt8, (128 + x / 64 % 64).toUInt8, (128 + x % 64).toUInt8])) := by
  rw [mayB_iff] at h
  obtain ⟨x, rfl⟩ : ∃ x : Nat, c = x := ⟨c.toNat, by omega⟩
  refine ⟨x, rfl, by omega, ?_⟩
  unfold encodeRune
  by_cases h1 : (x : Int) ≤ 127
  · left
    rw [encodeRuneZ_one (by omega) h1]
    exact ⟨by omega, rfl⟩
  · by_cases h2 : (x : Int) ≤ 2047
    · right; left
      rw [encodeRuneZ_two (by omega) h2]
      refine ⟨by omega, by omega, ?_⟩
      simp only [List.map_cons, List.map_nil]
      rw [show (192 + (x : Int) / 64).toNat = 192 + x / 64 by omega, show (128 + (x : Int) % 64).toNat = 128 + x % 64 by omega]
    · by_cases h3 : (x : Int) ≤ 65535
      · right; right; left
        rw [encodeRuneZ_three (by omega)]
        refine ⟨by omega, by omega, ?_⟩
        simp only [List.map_cons, List.map_nil]
        rw [show (224 + (x : Int) / 4096).toNat = 224 + x / 4096 by omega, show (128 + (x : Int) / 64 % 64).toNat = 128 + x / 64 % 64 by omega, show (128 + (x : Int) % 64).toNat = 128 + x % 64 by omega]
      · right; right; right
        rw [encodeRuneZ_four (by omega) (by omega)]
        refine ⟨by omega, ?_⟩
        simp only [List.map_cons, List.map_nil]
        rw [show (240 + (x : Int) / 262144).toNat = 240 + x / 262144 by omega, show (128 + (x : Int) / 4096 % 64).toNat = 128 + x / 4096 % 64 by omega, show (128 + (x : Int) / 64 % 64).toNat = 128 + x / 64 % 64 by omega, show (128 + (x : Int) % 64).toNat = 128 + x % 64 by omega]
/-- how many bytes a character has whose first one is this; 0: it begins none of more than one -/
def sizeN (b : Nat) : Nat := if b < 192 ∨ 247 < b then 0 else if b < 224 then 2 else if b < 240 then 3 else 4
theorem size_three {b : Nat} (h : sizeN b = 3) : 224 ≤ b ∧ b < 240 := by unfold sizeN at h; (repeat' split at h) <;> omega
end Go.Proofs.Ytpfcfadbilaleaau
