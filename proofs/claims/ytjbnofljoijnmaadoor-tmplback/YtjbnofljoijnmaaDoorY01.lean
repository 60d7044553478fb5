/-
  Joined by program out of the texts uU uV uV2 uF uG.
-/
import Derived.Lib.MapLaws
/-
  PLAIN LEAN, no program in it: characters and their bytes, over the model's own decoder: what a text's longest valid begin is, there and back.
-/
namespace Go.Proofs.YtjbnofljoijnmaaDooru
open Go Go.Lib

/-- a number is a character -/
def mayB (c : Int) : Bool := decide (0 ≤ c ∧ c ≤ 1114111 ∧ (c < 55296 ∨ 57343 < c))
/-- no character stands at the begin of a text that isn't empty -/
def badL (l : List UInt8) : Bool := decide ((decodeL l).1 = 65533 ∧ (decodeL l).2 = 1)
/-- what utf.broken answers -/
def brokenB (c : Int) (l : List UInt8) : Bool := decide (c = 65533 ∧ l.take 3 ≠ [239, 191, 189])

theorem mayB_iff (c : Int) : mayB c = true ↔ 0 ≤ c ∧ c ≤ 1114111 ∧ (c < 55296 ∨ 57343 < c) := by simp [mayB]

theorem dN1 (n b0 b1 b2 b3 : Nat) (h : b0 < 128) : decodeN n b0 b1 b2 b3 = (b0, 1) := by simp [decodeN, h]
theorem dN2 (n b0 b1 b2 b3 x : Nat) (h : 128 ≤ x ∧ x < 2048) (e0 : b0 = 192 + x / 64) (e1 : b1 = 128 + x % 64) (hn : 1 < n) : decodeN n b0 b1 b2 b3 = (x, 2) := by
  have a1 : ¬ b0 < 128 := by omega
  have a2 : b0 / 32 = 6 ∧ (1 < n ∧ b1 / 64 = 2) := by omega
  have a3 : b0 % 32 * 64 + b1 % 64 = x := by omega
  unfold decodeN
  rw [if_neg a1, if_pos a2, a3, if_pos (by omega)]
theorem dN3 (n b0 b1 b2 b3 x : Nat) (h : 2048 ≤ x ∧ x < 65536) (hs : x < 55296 ∨ 57344 ≤ x) (e0 : b0 = 224 + x / 4096) (e1 : b1 = 128 + x / 64 % 64) (e2 : b2 = 128 + x % 64) (hn : 2 < n) : decodeN n b0 b1 b2 b3 = (x, 3) := by
  have a1 : ¬ b0 < 128 := by omega
  have a2 : ¬ (b0 / 32 = 6 ∧ (1 < n ∧ b1 / 64 = 2)) := by omega
  have a3 : b0 / 16 = 14 ∧ (1 < n ∧ b1 / 64 = 2) ∧ (2 < n ∧ b2 / 64 = 2) := by omega
  have a4 : b0 % 16 * 4096 + b1 % 64 * 64 + b2 % 64 = x := by omega
  unfold decodeN
  rw [if_neg a1, if_neg a2, if_pos a3, a4, if_pos (by omega)]
theorem dN4 (n b0 b1 b2 b3 x : Nat) (h : 65536 ≤ x ∧ x ≤ 1114111) (e0 : b0 = 240 + x / 262144) (e1 : b1 = 128 + x / 4096 % 64) (e2 : b2 = 128 + x / 64 % 64) (e3 : b3 = 128 + x % 64) (hn : 3 < n) : decodeN n b0 b1 b2 b3 = (x, 4) := by
  have a1 : ¬ b0 < 128 := by omega
  have a2 : ¬ (b0 / 32 = 6 ∧ (1 < n ∧ b1 / 64 = 2)) := by omega
  have a3 : ¬ (b0 / 16 = 14 ∧ (1 < n ∧ b1 / 64 = 2) ∧ (2 < n ∧ b2 / 64 = 2)) := by omega
  have a4 : b0 / 8 = 30 ∧ (1 < n ∧ b1 / 64 = 2) ∧ (2 < n ∧ b2 / 64 = 2) ∧ (3 < n ∧ b3 / 64 = 2) := by omega
  have a5 : b0 % 8 * 262144 + b1 % 64 * 4096 + b2 % 64 * 64 + b3 % 64 = x := by omega
  unfold decodeN
  rw [if_neg a1, if_neg a2, if_neg a3, if_pos a4, a5, if_pos (by omega)]

theorem u8 (n : Nat) (h : n < 256) : (n.toUInt8).toNat = n := by simp; omega

/-- a character's bytes, whatever stands behind them, are decoded to it -/
theorem dec_enc (c : Int) (h : mayB c = true) (t : List UInt8) : decodeL (encodeRune c ++ t) = (c.toNat, (encodeRune c).length) := by
  rw [mayB_iff] at h
  obtain ⟨x, rfl⟩ : ∃ x : Nat, c = x := ⟨c.toNat, by omega⟩
  rw [decodeL_N]
  unfold encodeRune
  by_cases h1 : (x : Int) ≤ 127
  · rw [encodeRuneZ_one (by omega) h1]
    simp only [List.map_cons, List.map_nil, List.cons_append, List.nil_append, List.getD_cons_zero, List.length_cons, List.length_nil, Int.toNat_natCast]
    rw [dN1 _ _ _ _ _ (by rw [u8 _ (by omega)]; omega), u8 _ (by omega)]
  · by_cases h2 : (x : Int) ≤ 2047
    · rw [encodeRuneZ_two (by omega) h2]
      simp only [List.map_cons, List.map_nil, List.cons_append, List.nil_append, List.getD_cons_zero, List.getD_cons_succ, List.length_cons, List.length_nil, Int.toNat_natCast]
      exact dN2 _ _ _ _ _ x (by omega) (by rw [u8 _ (by omega)]; omega) (by rw [u8 _ (by omega)]; omega) (by omega)
    · by_cases h3 : (x : Int) ≤ 65535
      · rw [encodeRuneZ_three (by omega)]
        simp only [List.map_cons, List.map_nil, List.cons_append, List.nil_append, List.getD_cons_zero, List.getD_cons_succ, List.length_cons, List.length_nil, Int.toNat_natCast]
        exact dN3 _ _ _ _ _ x (by omega) (by omega) (by rw [u8 _ (by omega)]; omega) (by rw [u8 _ (by omega)]; omega) (by rw [u8 _ (by omega)]; omega) (by omega)
      · rw [encodeRuneZ_four (by omega) (by omega)]
        simp only [List.map_cons, List.map_nil, List.cons_append, List.nil_append, List.getD_cons_zero, List.getD_cons_succ, List.length_cons, List.length_nil, Int.toNat_natCast]
        exact dN4 _ _ _ _ _ x (by omega) (by rw [u8 _ (by omega)]; omega) (by rw [u8 _ (by omega)]; omega) (by rw [u8 _ (by omega)]; omega) (by rw [u8 _ (by omega)]; omega) (by omega)

theorem enc_len (c : Int) : 1 ≤ (encodeRune c).length ∧ (encodeRune c).length ≤ 4 := by
  have := encodeRuneZ_length c
  simpa [encodeRune] using this
theorem enc_ne (c : Int) : encodeRune c ≠ [] := by
  intro h
  have := enc_len c
  rw [h] at this
  simp at this

theorem enc_fffd : encodeRune 65533 = [239, 191, 189] := by decide

theorem decodeN_may (n b0 b1 b2 b3 : Nat) (h0 : b0 < 256) : (decodeN n b0 b1 b2 b3).1 < 55296 ∨ (57344 ≤ (decodeN n b0 b1 b2 b3).1 ∧ (decodeN n b0 b1 b2 b3).1 ≤ 1114111) := by
  unfold decodeN
  repeat' split
  all_goals (simp only; omega)

theorem dec_may (l : List UInt8) : mayB (decodeL l).1 = true := by
  rw [mayB_iff, decodeL_N]
  have := decodeN_may l.length (l.getD 0 0).toNat (l.getD 1 0).toNat (l.getD 2 0).toNat (l.getD 3 0).toNat (UInt8.toNat_lt _)
  omega

theorem bad_iff (l : List UInt8) : badL l = true ↔ (decodeL l).1 = 65533 ∧ (decodeL l).2 = 1 := by simp [badL]

theorem not_bad_enc (c : Int) (h : mayB c = true) (t : List UInt8) : badL (encodeRune c ++ t) = false := by
  cases hb : badL (encodeRune c ++ t) with
  | false => rfl
  | true =>
    rw [bad_iff, dec_enc c h] at hb
    rw [mayB_iff] at h
    have e : c = 65533 := by simp at hb; omega
    subst e
    simp [enc_fffd] at hb

/-- what is decoded, where something is, stands there -/
theorem dec_good (l : List UInt8) (hne : l ≠ []) (hb : badL l = false) : l = encodeRune (decodeL l).1 ++ l.drop (decodeL l).2 ∧ (encodeRune (decodeL l).1).length = (decodeL l).2 := by
  have hb' : ¬ ((decodeL l).1 = 65533 ∧ (decodeL l).2 = 1) := by rw [← bad_iff, hb]; simp
  have h := encode_decode l hne hb'
  have hl := decodeL_le l hne
  rw [h]
  exact ⟨(List.take_append_drop _ _).symm, by simp; omega⟩

/-- utf.broken is right -/
theorem broken_eq (l : List UInt8) (hne : l ≠ []) : brokenB (decodeL l).1 l = badL l := by
  cases hb : badL l with
  | true =>
    rw [bad_iff] at hb
    have : l.take 3 ≠ [239, 191, 189] := by
      intro h3
      have e : l = encodeRune 65533 ++ l.drop 3 := by rw [enc_fffd, ← h3, List.take_append_drop]
      have := dec_enc 65533 (by decide) (l.drop 3)
      rw [← e] at this
      rw [this] at hb
      simp [enc_fffd] at hb
    simp [brokenB, hb.1, this]
  | false =>
    have h := dec_good l hne hb
    simp only [brokenB, decide_eq_false_iff_not, not_and, Classical.not_not]
    intro h1
    rw [h1, enc_fffd] at h
    rw [h.1]
    rfl

/-- the characters of the longest valid begin, and how many bytes it has -/
def beginF : Nat → List UInt8 → List Int × Nat
  | 0, _ => ([], 0)
  | f + 1, l => if l = [] ∨ badL l = true then ([], 0) else (((decodeL l).1 : Int) :: (beginF f (l.drop (decodeL l).2)).1, (decodeL l).2 + (beginF f (l.drop (decodeL l).2)).2)
def chars (l : List UInt8) : List Int := (beginF l.length l).1
def blen (l : List UInt8) : Nat := (beginF l.length l).2
/-- characters as a text -/
def textL : List Int → List UInt8
  | [] => []
  | c :: r => encodeRune c ++ textL r
def allMay (l : List Int) : Bool := l.all mayB

theorem textL_append (a b : List Int) : textL (a ++ b) = textL a ++ textL b := by
  induction a with
  | nil => rfl
  | cons c r ih => simp [textL, ih]
theorem textL_one (c : Int) : textL [c] = encodeRune c := by simp [textL]
theorem allMay_append (a b : List Int) : allMay (a ++ b) = (allMay a && allMay b) := by simp [allMay]
theorem allMay_cons (c : Int) (r : List Int) : allMay (c :: r) = (mayB c && allMay r) := by simp [allMay]
theorem textL_len (l : List Int) : l.length ≤ (textL l).length ∧ (textL l).length ≤ 4 * l.length := by
  induction l with
  | nil => simp [textL]
  | cons c r ih => have := enc_len c; simp [textL]; omega

theorem beginF_stop (f : Nat) (l : List UInt8) (h : l = [] ∨ badL l = true) : beginF f l = ([], 0) := by
  cases f with
  | zero => rfl
  | succ f => simp [beginF, h]

theorem beginF_text (cs : List Int) : ∀ (f : Nat) (t : List UInt8), allMay cs = true → (t = [] ∨ badL t = true) → (textL cs).length ≤ f → beginF f (textL cs ++ t) = (cs, (textL cs).length) := by
  induction cs with
  | nil => intro f t _ ht _; simpa [textL] using beginF_stop f t ht
  | cons c r ih =>
    intro f t hc ht hf
    rw [allMay_cons, Bool.and_eq_true] at hc
    have hl := enc_len c
    have hlen : (textL (c :: r)).length = (encodeRune c).length + (textL r).length := by simp [textL]
    obtain ⟨g, rfl⟩ : ∃ g, f = g + 1 := ⟨f - 1, by omega⟩
    have e : textL (c :: r) ++ t = encodeRune c ++ (textL r ++ t) := by simp [textL]
    have hd := dec_enc c hc.1 (textL r ++ t)
    have hb := not_bad_enc c hc.1 (textL r ++ t)
    have hcc : ((c.toNat : Nat) : Int) = c := by have := (mayB_iff c).1 hc.1; omega
    rw [e]
    simp only [beginF, hd, hb, List.drop_left', List.append_eq_nil_iff, enc_ne, false_and, or_self, if_false, Bool.false_eq_true, ih g t hc.2 ht (by omega), hcc]
    rw [hlen]

/-- every text is its characters, and behind them nothing, or what begins with none -/
theorem split_text (n : Nat) : ∀ l : List UInt8, l.length ≤ n → ∃ cs t, l = textL cs ++ t ∧ allMay cs = true ∧ (t = [] ∨ badL t = true) := by
  induction n with
  | zero => intro l h; exact ⟨[], l, rfl, rfl, .inl (List.eq_nil_of_length_eq_zero (by omega))⟩
  | succ n ih =>
    intro l h
    by_cases hne : l = []
    · exact ⟨[], l, rfl, rfl, .inl hne⟩
    · cases hb : badL l with
      | true => exact ⟨[], l, rfl, rfl, .inr hb⟩
      | false =>
        have hg := dec_good l hne hb
        have hw := decodeL_width l
        obtain ⟨cs, t, e, hc, ht⟩ := ih (l.drop (decodeL l).2) (by simp; omega)
        refine ⟨((decodeL l).1 : Int) :: cs, t, ?_, ?_, ht⟩
        · simp only [textL, List.append_assoc]
          rw [← e]
          exact hg.1
        · rw [allMay_cons, hc, dec_may]; rfl

theorem chars_of (cs : List Int) (t : List UInt8) (hc : allMay cs = true) (ht : t = [] ∨ badL t = true) : chars (textL cs ++ t) = cs ∧ blen (textL cs ++ t) = (textL cs).length := by
  unfold chars blen
  rw [beginF_text cs _ t hc ht (by simp)]
  exact ⟨rfl, rfl⟩

theorem chars_split (l : List UInt8) : ∃ t, l = textL (chars l) ++ t ∧ allMay (chars l) = true ∧ (t = [] ∨ badL t = true) ∧ blen l = (textL (chars l)).length := by
  obtain ⟨cs, t, e, hc, ht⟩ := split_text l.length l (Nat.le_refl _)
  have h := chars_of cs t hc ht
  rw [← e] at h
  refine ⟨t, ?_, ?_, ht, ?_⟩
  · rw [h.1]; exact e
  · rw [h.1]; exact hc
  · rw [h.1]; exact h.2

/-- characters ahead of any text -/
theorem chars_append (cs : List Int) (t : List UInt8) (hc : allMay cs = true) : chars (textL cs ++ t) = cs ++ chars t ∧ blen (textL cs ++ t) = (textL cs).length + blen t := by
  obtain ⟨u, e, hm, hu, hl⟩ := chars_split t
  have h := chars_of (cs ++ chars t) u (by rw [allMay_append, hc, hm]; rfl) hu
  rw [textL_append, List.append_assoc, ← e] at h
  refine ⟨h.1, ?_⟩
  rw [h.2, hl]
  simp

theorem chars_text (cs : List Int) (hc : allMay cs = true) : chars (textL cs) = cs ∧ blen (textL cs) = (textL cs).length := by
  have := chars_of cs [] hc (.inl rfl)
  simpa using this

theorem blen_le (l : List UInt8) : blen l ≤ l.length := by
  obtain ⟨t, e, _, _, hl⟩ := chars_split l
  have h := congrArg List.length e
  rw [List.length_append] at h
  omega
theorem text_chars (l : List UInt8) : textL (chars l) = l.take (blen l) := by
  obtain ⟨t, e, _, _, hl⟩ := chars_split l
  have h := congrArg (List.take (textL (chars l)).length) e
  rw [List.take_left'  rfl] at h
  rw [hl, h]
theorem chars_may (l : List UInt8) : allMay (chars l) = true := (chars_split l).choose_spec.2.1
theorem valid_text (l : List UInt8) (h : blen l = l.length) : textL (chars l) = l := by rw [text_chars, h, List.take_length]
theorem chars_len (l : List UInt8) : (chars l).length ≤ l.length := by
  have h1 := textL_len (chars l)
  have h2 := blen_le l
  rw [text_chars, List.length_take] at h1
  omega

end Go.Proofs.YtjbnofljoijnmaaDooru

/-
  PLAIN LEAN, no program in it: characters beyond ASCII that may stand in a literal, and begins of their bytes (layer 4).
-/
namespace Go.Proofs.YtjbnofljoijnmaaDooru
open Go.Lib

theorem enc_shape (c : Int) (h : mayB c = true) : ∃ x : Nat, c = x ∧ x ≤ 1114111 ∧
    ((x < 128 ∧ encodeRune c = [x.toUInt8]) ∨ (128 ≤ x ∧ x < 2048 ∧ encodeRune c = [(192 + x / 64).toUInt8, (128 + x % 64).toUInt8]) ∨
     (2048 ≤ x ∧ x < 65536 ∧ encodeRune c = [(224 + x / 4096).toUInt8, (128 + x / 64 % 64).toUInt8, (128 + x % 64).toUInt8]) ∨
     (65536 ≤ x ∧ encodeRune c = [(240 + x / 262144).toUInt8, (128 + x / 4096 % 64).toUInt8, (128 + x / 64 % 64).toUInt8, (128 + x % 64).toUInt8])) := by
  rw [mayB_iff] at h
  obtain ⟨x, rfl⟩ : ∃ x : Nat, c = x := ⟨c.toNat, by omega⟩
  refine ⟨x, rfl, by omega, ?_⟩
  unfold encodeRune
  by_cases h1 : (x : Int) ≤ 127
  · left
    rw [encodeRuneZ_one (by omega) h1]
    exact ⟨by omega, rfl⟩
  · by_cases h2 : (x : Int) ≤ 2047
    · right; left
      rw [encodeRuneZ_two (by omega) h2]
      refine ⟨by omega, by omega, ?_⟩
      simp only [List.map_cons, List.map_nil]
      rw [show (192 + (x : Int) / 64).toNat = 192 + x / 64 by omega, show (128 + (x : Int) % 64).toNat = 128 + x % 64 by omega]
    · by_cases h3 : (x : Int) ≤ 65535
      · right; right; left
        rw [encodeRuneZ_three (by omega)]
        refine ⟨by omega, by omega, ?_⟩
        simp only [List.map_cons, List.map_nil]
        rw [show (224 + (x : Int) / 4096).toNat = 224 + x / 4096 by omega, show (128 + (x : Int) / 64 % 64).toNat = 128 + x / 64 % 64 by omega, show (128 + (x : Int) % 64).toNat = 128 + x % 64 by omega]
      · right; right; right
        rw [encodeRuneZ_four (by omega) (by omega)]
        refine ⟨by omega, ?_⟩
        simp only [List.map_cons, List.map_nil]
        rw [show (240 + (x : Int) / 262144).toNat = 240 + x / 262144 by omega, show (128 + (x : Int) / 4096 % 64).toNat = 128 + x / 4096 % 64 by omega, show (128 + (x : Int) / 64 % 64).toNat = 128 + x / 64 % 64 by omega, show (128 + (x : Int) % 64).toNat = 128 + x % 64 by omega]
theorem enc_free (a b : Int) (ha : mayB a = true) (hb : mayB b = true) (h : a ≠ b) : (encodeRune b).take (encodeRune a).length ≠ encodeRune a := by
  intro e
  have e1 : encodeRune b = encodeRune a ++ (encodeRune b).drop (encodeRune a).length := by
    conv => rhs; arg 1; rw [← e]
    rw [List.take_append_drop]
  have d1 := dec_enc a ha ((encodeRune b).drop (encodeRune a).length)
  have d2 := dec_enc b hb []
  rw [← e1] at d1
  rw [List.append_nil, d1] at d2
  have := congrArg Prod.fst d2
  rw [mayB_iff] at ha hb
  simp at this
  omega

/-- a number is in one of the ranges -/
def mayU (c : Int) : Bool := decide (160 ≤ c ∧ c ≤ 55295 ∨ 57344 ≤ c ∧ c ≤ 64975 ∨ 65008 ≤ c ∧ c ≤ 65519 ∨ 65536 ≤ c ∧ c ≤ 1114109 ∧ c % 65536 ≤ 65533 ∧ ¬ (917504 ≤ c ∧ c < 921600))
theorem mayU_iff (c : Int) : mayU c = true ↔ (160 ≤ c ∧ c ≤ 55295 ∨ 57344 ≤ c ∧ c ≤ 64975 ∨ 65008 ≤ c ∧ c ≤ 65519 ∨ 65536 ≤ c ∧ c ≤ 1114109 ∧ c % 65536 ≤ 65533 ∧ ¬ (917504 ≤ c ∧ c < 921600)) := by unfold mayU; rw [decide_eq_true_iff]
theorem mayU_may {c : Int} (h : mayU c = true) : mayB c = true ∧ 160 ≤ c ∧ c ≤ 1114109 := by
  rw [mayU_iff] at h
  rw [mayB_iff]
  omega
/-- the first one from a number on; 2000000: there is none -/
def nextU (c : Int) : Int :=
  if c ≤ 160 then 160 else if c ≤ 55295 then c else if c ≤ 57344 then 57344 else if c ≤ 64975 then c else if c ≤ 65008 then 65008 else if c ≤ 65519 then c else if c ≤ 65536 then 65536
  else if 917502 ≤ c ∧ c ≤ 921600 then 921600 else if c ≤ 1114109 then (if c % 65536 ≤ 65533 then c else (c / 65536 + 1) * 65536) else 2000000
theorem next_ge (c : Int) : c ≤ nextU c ∨ 1114109 < c := by
  unfold nextU
  (repeat' split) <;> omega
theorem next_may (c : Int) : mayU (nextU c) = true ∨ nextU c = 2000000 := by
  rw [mayU_iff]
  unfold nextU
  (repeat' split) <;> omega
theorem next_least (c d : Int) (h : c ≤ d) (hd : mayU d = true) : nextU c ≤ d := by
  rw [mayU_iff] at hd
  unfold nextU
  (repeat' split) <;> omega
/-- one of them lies from low to high -/
def someU (lo hi : Int) : Bool := decide (nextU lo ≤ hi)
theorem some_iff (lo hi : Int) (hh : hi < 2000000) : someU lo hi = true ↔ ∃ c, lo ≤ c ∧ c ≤ hi ∧ mayU c = true := by
  unfold someU
  rw [decide_eq_true_iff]
  constructor
  · intro h
    rcases next_may lo with hm | hm
    · refine ⟨nextU lo, ?_, h, hm⟩
      rcases next_ge lo with hg | hg
      · exact hg
      · exfalso
        have := mayU_may hm
        have e : nextU lo = 2000000 := by unfold nextU; (repeat' split) <;> omega
        omega
    · omega
  · rintro ⟨c, h1, h2, h3⟩
    have := next_least lo c h1 h3
    omega

/-- how many bytes a character has whose first one is this; 0: it begins none of more than one -/
def sizeN (b : Nat) : Nat := if b < 192 ∨ 247 < b then 0 else if b < 224 then 2 else if b < 240 then 3 else 4
def leadN (n b : Nat) : Nat := if n = 3 then b - 224 else if n = 4 then b - 240 else b - 192
def leastN (n : Nat) : Nat := if n = 2 then 128 else if n = 3 then 2048 else 65536
def mostN (n : Nat) : Nat := if n = 2 then 2047 else if n = 3 then 65535 else 1114111
def contB (c : UInt8) : Bool := decide (128 ≤ c.toNat ∧ c.toNat ≤ 191)
/-- six bits more, byte by byte -/
def accN (c : Nat) (l : List UInt8) : Nat := l.foldl (fun a x => 64 * a + (x.toNat - 128)) c
/-- some character that may begins so: by its low and its high one -/
def fitB : List UInt8 → Bool
  | [] => false
  | b :: t => decide (sizeN b.toNat ≠ 0) && decide (t.length + 1 ≤ sizeN b.toNat) && t.all contB &&
      someU (max (accN (leadN (sizeN b.toNat) b.toNat) t * 64 ^ (sizeN b.toNat - (t.length + 1)) : Nat) (leastN (sizeN b.toNat)))
        (min (accN (leadN (sizeN b.toNat) b.toNat) t * 64 ^ (sizeN b.toNat - (t.length + 1)) + (64 ^ (sizeN b.toNat - (t.length + 1)) - 1) : Nat) (mostN (sizeN b.toNat)))

theorem cont_iff (c : UInt8) : contB c = true ↔ 128 ≤ c.toNat ∧ c.toNat ≤ 191 := by simp [contB]
theorem size_two {b : Nat} (h : sizeN b = 2) : 192 ≤ b ∧ b < 224 := by unfold sizeN at h; (repeat' split at h) <;> omega
theorem size_three {b : Nat} (h : sizeN b = 3) : 224 ≤ b ∧ b < 240 := by unfold sizeN at h; (repeat' split at h) <;> omega
theorem size_four {b : Nat} (h : sizeN b = 4) : 240 ≤ b ∧ b ≤ 247 := by unfold sizeN at h; (repeat' split at h) <;> omega
theorem size_is (b : Nat) : sizeN b = 0 ∨ sizeN b = 2 ∨ sizeN b = 3 ∨ sizeN b = 4 := by unfold sizeN; (repeat' split) <;> omega
theorem u8_eq {n : Nat} {b : UInt8} (h : n = b.toNat) : n.toUInt8 = b := by
  subst h; simp

theorem len1 {t : List UInt8} (h : t.length + 1 ≤ 2) : t = [] ∨ ∃ p, t = [p] := by
  rcases t with _ | ⟨p, _ | ⟨q, t⟩⟩
  · exact .inl rfl
  · exact .inr ⟨p, rfl⟩
  · simp at h
theorem len2 {t : List UInt8} (h : t.length + 1 ≤ 3) : t = [] ∨ (∃ p, t = [p]) ∨ ∃ p q, t = [p, q] := by
  rcases t with _ | ⟨p, _ | ⟨q, _ | ⟨r, t⟩⟩⟩
  · exact .inl rfl
  · exact .inr (.inl ⟨p, rfl⟩)
  · exact .inr (.inr ⟨p, q, rfl⟩)
  · simp at h
theorem len3 {t : List UInt8} (h : t.length + 1 ≤ 4) : t = [] ∨ (∃ p, t = [p]) ∨ (∃ p q, t = [p, q]) ∨ ∃ p q r, t = [p, q, r] := by
  rcases t with _ | ⟨p, _ | ⟨q, _ | ⟨r, _ | ⟨o, t⟩⟩⟩⟩
  · exact .inl rfl
  · exact .inr (.inl ⟨p, rfl⟩)
  · exact .inr (.inr (.inl ⟨p, q, rfl⟩))
  · exact .inr (.inr (.inr ⟨p, q, r, rfl⟩))
  · simp at h

theorem fit_to {l : List UInt8} (h : fitB l = true) : l ≠ [] ∧ ∃ c, mayU c = true ∧ l <+: encodeRune c := by
  match l, h with
  | b :: t, h =>
    refine ⟨by simp, ?_⟩
    unfold fitB at h
    simp only [Bool.and_eq_true, decide_eq_true_eq] at h
    obtain ⟨⟨⟨h0, hl⟩, hc⟩, hs⟩ := h
    rcases size_is b.toNat with e | e | e | e
    · exact absurd e h0
    · rw [e] at hl hs
      obtain ⟨c, c1, c2, c3⟩ := (some_iff _ _ (by simp [mostN]; omega)).1 hs
      have hb := size_two e
      obtain ⟨x, rfl, hx, hsh⟩ := enc_shape c (mayU_may c3).1
      refine ⟨_, c3, ?_⟩
      rcases len1 hl with rfl | ⟨p, rfl⟩
      · simp [leadN, leastN, mostN, accN] at c1 c2
        have : encodeRune (x : Int) = [(192 + x / 64).toUInt8, (128 + x % 64).toUInt8] := by
          rcases hsh with h | h | h | h <;> first | exact h.2.2 | omega
        rw [this, u8_eq (show 192 + x / 64 = b.toNat by omega)]
        exact ⟨_, rfl⟩
      · simp [leadN, leastN, mostN, accN, cont_iff] at c1 c2 hc
        have : encodeRune (x : Int) = [(192 + x / 64).toUInt8, (128 + x % 64).toUInt8] := by
          rcases hsh with h | h | h | h <;> first | exact h.2.2 | omega
        rw [this, u8_eq (show 192 + x / 64 = b.toNat by omega), u8_eq (show 128 + x % 64 = p.toNat by omega)]
        exact ⟨[], rfl⟩
    · rw [e] at hl hs
      obtain ⟨c, c1, c2, c3⟩ := (some_iff _ _ (by simp [mostN]; omega)).1 hs
      have hb := size_three e
      obtain ⟨x, rfl, hx, hsh⟩ := enc_shape c (mayU_may c3).1
      refine ⟨_, c3, ?_⟩
      rcases len2 hl with rfl | ⟨p, rfl⟩ | ⟨p, q, rfl⟩
      · simp [leadN, leastN, mostN, accN] at c1 c2
        have : encodeRune (x : Int) = [(224 + x / 4096).toUInt8, (128 + x / 64 % 64).toUInt8, (128 + x % 64).toUInt8] := by
          rcases hsh with h | h | h | h <;> first | exact h.2.2 | omega
        rw [this, u8_eq (show 224 + x / 4096 = b.toNat by omega)]
        exact ⟨_, rfl⟩
      · simp [leadN, leastN, mostN, accN, cont_iff] at c1 c2 hc
        have : encodeRune (x : Int) = [(224 + x / 4096).toUInt8, (128 + x / 64 % 64).toUInt8, (128 + x % 64).toUInt8] := by
          rcases hsh with h | h | h | h <;> first | exact h.2.2 | omega
        rw [this, u8_eq (show 224 + x / 4096 = b.toNat by omega), u8_eq (show 128 + x / 64 % 64 = p.toNat by omega)]
        exact ⟨_, rfl⟩
      · simp [leadN, leastN, mostN, accN, cont_iff] at c1 c2 hc
        have : encodeRune (x : Int) = [(224 + x / 4096).toUInt8, (128 + x / 64 % 64).toUInt8, (128 + x % 64).toUInt8] := by
          rcases hsh with h | h | h | h <;> first | exact h.2.2 | omega
        rw [this, u8_eq (show 224 + x / 4096 = b.toNat by omega), u8_eq (show 128 + x / 64 % 64 = p.toNat by omega), u8_eq (show 128 + x % 64 = q.toNat by omega)]
        exact ⟨[], rfl⟩
    · rw [e] at hl hs
      obtain ⟨c, c1, c2, c3⟩ := (some_iff _ _ (by simp [mostN]; omega)).1 hs
      have hb := size_four e
      obtain ⟨x, rfl, hx, hsh⟩ := enc_shape c (mayU_may c3).1
      refine ⟨_, c3, ?_⟩
      rcases len3 hl with rfl | ⟨p, rfl⟩ | ⟨p, q, rfl⟩ | ⟨p, q, r, rfl⟩
      · simp [leadN, leastN, mostN, accN] at c1 c2
        have : encodeRune (x : Int) = [(240 + x / 262144).toUInt8, (128 + x / 4096 % 64).toUInt8, (128 + x / 64 % 64).toUInt8, (128 + x % 64).toUInt8] := by
          rcases hsh with h | h | h | h <;> first | exact h.2 | omega
        rw [this, u8_eq (show 240 + x / 262144 = b.toNat by omega)]
        exact ⟨_, rfl⟩
      · simp [leadN, leastN, mostN, accN, cont_iff] at c1 c2 hc
        have : encodeRune (x : Int) = [(240 + x / 262144).toUInt8, (128 + x / 4096 % 64).toUInt8, (128 + x / 64 % 64).toUInt8, (128 + x % 64).toUInt8] := by
          rcases hsh with h | h | h | h <;> first | exact h.2 | omega
        rw [this, u8_eq (show 240 + x / 262144 = b.toNat by omega), u8_eq (show 128 + x / 4096 % 64 = p.toNat by omega)]
        exact ⟨_, rfl⟩
      · simp [leadN, leastN, mostN, accN, cont_iff] at c1 c2 hc
        have : encodeRune (x : Int) = [(240 + x / 262144).toUInt8, (128 + x / 4096 % 64).toUInt8, (128 + x / 64 % 64).toUInt8, (128 + x % 64).toUInt8] := by
          rcases hsh with h | h | h | h <;> first | exact h.2 | omega
        rw [this, u8_eq (show 240 + x / 262144 = b.toNat by omega), u8_eq (show 128 + x / 4096 % 64 = p.toNat by omega), u8_eq (show 128 + x / 64 % 64 = q.toNat by omega)]
        exact ⟨_, rfl⟩
      · simp [leadN, leastN, mostN, accN, cont_iff] at c1 c2 hc
        have : encodeRune (x : Int) = [(240 + x / 262144).toUInt8, (128 + x / 4096 % 64).toUInt8, (128 + x / 64 % 64).toUInt8, (128 + x % 64).toUInt8] := by
          rcases hsh with h | h | h | h <;> first | exact h.2 | omega
        rw [this, u8_eq (show 240 + x / 262144 = b.toNat by omega), u8_eq (show 128 + x / 4096 % 64 = p.toNat by omega), u8_eq (show 128 + x / 64 % 64 = q.toNat by omega), u8_eq (show 128 + x % 64 = r.toNat by omega)]
        exact ⟨[], rfl⟩

end Go.Proofs.YtjbnofljoijnmaaDooru

/-
  PLAIN LEAN, no program in it: what begins a character that may, and what follows (layer 4).
-/
namespace Go.Proofs.YtjbnofljoijnmaaDooru
open Go.Lib

theorem fit_mk (b : UInt8) (t : List UInt8) (n : Nat) (c : Int) (hn : sizeN b.toNat = n) (h0 : n ≠ 0) (hl : t.length + 1 ≤ n) (hc : t.all contB = true) (lo k : Nat) (hk : 64 ^ (n - (t.length + 1)) = k) (ha : accN (leadN n b.toNat) t * k = lo)
    (h1 : (lo : Int) ≤ c) (h2 : c ≤ (lo + (k - 1) : Nat)) (h3 : (leastN n : Int) ≤ c) (h4 : c ≤ mostN n) (hm : mayU c = true) : fitB (b :: t) = true := by
  unfold fitB
  simp only
  rw [hn, hk, ha]
  have hmost : (mostN n : Int) < 2000000 := by unfold mostN; split <;> (try split) <;> omega
  have : someU (max (lo : Int) (leastN n)) (min ((lo + (k - 1) : Nat) : Int) (mostN n)) = true := (some_iff _ _ (by omega)).2 ⟨c, by omega, by omega, hm⟩
  rw [this, hc]
  simp [h0, hl]

theorem pre_cases {l e : List UInt8} (hne : l ≠ []) (h : l <+: e) : ∃ j, j < e.length ∧ l = e.take (j + 1) := by
  obtain ⟨t, rfl⟩ := h
  refine ⟨l.length - 1, ?_, ?_⟩
  · have : 0 < l.length := List.length_pos_iff.2 hne
    rw [List.length_append]; omega
  · have : 0 < l.length := List.length_pos_iff.2 hne
    rw [show l.length - 1 + 1 = l.length by omega, List.take_left]

theorem size_a {x : Nat} (h : 128 ≤ x ∧ x < 2048) : sizeN (192 + x / 64) = 2 := by unfold sizeN; (repeat' split) <;> omega
theorem size_b {x : Nat} (h : x < 65536) : sizeN (224 + x / 4096) = 3 := by unfold sizeN; (repeat' split) <;> omega
theorem size_c {x : Nat} (h : x ≤ 1114111) : sizeN (240 + x / 262144) = 4 := by unfold sizeN; (repeat' split) <;> omega

theorem fit_of {l : List UInt8} {c : Int} (hc : mayU c = true) (hne : l ≠ []) (hp : l <+: encodeRune c) : fitB l = true := by
  obtain ⟨hb, hc1, hc2⟩ := mayU_may hc
  obtain ⟨x, rfl, hx, hsh⟩ := enc_shape c hb
  obtain ⟨j, hj, rfl⟩ := pre_cases hne hp
  clear hne hp
  rcases hsh with h | ⟨g1, g2, h⟩ | ⟨g1, g2, h⟩ | ⟨g1, h⟩
  · omega
  · rw [h] at hj ⊢
    have e0 := u8 (192 + x / 64) (by omega)
    have e1 := u8 (128 + x % 64) (by omega)
    have hj' : j = 0 ∨ j = 1 := by simp at hj; omega
    rcases hj' with rfl | rfl
    · refine fit_mk _ _ 2 (x : Int) (by rw [e0]; exact size_a ⟨g1, g2⟩) (by decide) (by simp) rfl ((x / 64) * 64) 64 rfl ?_ ?_ ?_ ?_ ?_ hc
      · rw [e0]; simp [leadN, accN]
      · omega
      · omega
      · simp [leastN]; omega
      · simp [mostN]; omega
    · refine fit_mk _ _ 2 (x : Int) (by rw [e0]; exact size_a ⟨g1, g2⟩) (by decide) (by simp) (by simp [cont_iff]; omega) x 1 rfl ?_ ?_ ?_ ?_ ?_ hc
      · rw [e0]; simp only [leadN, accN, List.take_succ_cons, List.take_zero, List.foldl_cons, List.foldl_nil]; rw [e1]; simp; omega
      · omega
      · omega
      · simp [leastN]; omega
      · simp [mostN]; omega
  · rw [h] at hj ⊢
    have e0 := u8 (224 + x / 4096) (by omega)
    have e1 := u8 (128 + x / 64 % 64) (by omega)
    have e2 := u8 (128 + x % 64) (by omega)
    have hj' : j = 0 ∨ j = 1 ∨ j = 2 := by simp at hj; omega
    rcases hj' with rfl | rfl | rfl
    · refine fit_mk _ _ 3 (x : Int) (by rw [e0]; exact size_b g2) (by decide) (by simp) rfl ((x / 4096) * 4096) 4096 rfl ?_ ?_ ?_ ?_ ?_ hc
      · rw [e0]; simp [leadN, accN]
      · omega
      · omega
      · simp [leastN]; omega
      · simp [mostN]; omega
    · refine fit_mk _ _ 3 (x : Int) (by rw [e0]; exact size_b g2) (by decide) (by simp) (by simp [cont_iff]; omega) ((x / 64) * 64) 64 rfl ?_ ?_ ?_ ?_ ?_ hc
      · rw [e0]; simp only [leadN, accN, List.take_succ_cons, List.take_zero, List.foldl_cons, List.foldl_nil]; rw [e1]; simp; omega
      · omega
      · omega
      · simp [leastN]; omega
      · simp [mostN]; omega
    · refine fit_mk _ _ 3 (x : Int) (by rw [e0]; exact size_b g2) (by decide) (by simp) (by simp [cont_iff]; omega) x 1 rfl ?_ ?_ ?_ ?_ ?_ hc
      · rw [e0]; simp only [leadN, accN, List.take_succ_cons, List.take_zero, List.foldl_cons, List.foldl_nil]; rw [e1, e2]; simp; omega
      · omega
      · omega
      · simp [leastN]; omega
      · simp [mostN]; omega
  · rw [h] at hj ⊢
    have e0 := u8 (240 + x / 262144) (by omega)
    have e1 := u8 (128 + x / 4096 % 64) (by omega)
    have e2 := u8 (128 + x / 64 % 64) (by omega)
    have e3 := u8 (128 + x % 64) (by omega)
    have hj' : j = 0 ∨ j = 1 ∨ j = 2 ∨ j = 3 := by simp at hj; omega
    rcases hj' with rfl | rfl | rfl | rfl
    · refine fit_mk _ _ 4 (x : Int) (by rw [e0]; exact size_c hx) (by decide) (by simp) rfl ((x / 262144) * 262144) 262144 rfl ?_ ?_ ?_ ?_ ?_ hc
      · rw [e0]; simp [leadN, accN]
      · omega
      · omega
      · simp [leastN]; omega
      · simp [mostN]; omega
    · refine fit_mk _ _ 4 (x : Int) (by rw [e0]; exact size_c hx) (by decide) (by simp) (by simp [cont_iff]; omega) ((x / 4096) * 4096) 4096 rfl ?_ ?_ ?_ ?_ ?_ hc
      · rw [e0]; simp only [leadN, accN, List.take_succ_cons, List.take_zero, List.foldl_cons, List.foldl_nil]; rw [e1]; simp; omega
      · omega
      · omega
      · simp [leastN]; omega
      · simp [mostN]; omega
    · refine fit_mk _ _ 4 (x : Int) (by rw [e0]; exact size_c hx) (by decide) (by simp) (by simp [cont_iff]; omega) ((x / 64) * 64) 64 rfl ?_ ?_ ?_ ?_ ?_ hc
      · rw [e0]; simp only [leadN, accN, List.take_succ_cons, List.take_zero, List.foldl_cons, List.foldl_nil]; rw [e1, e2]; simp; omega
      · omega
      · omega
      · simp [leastN]; omega
      · simp [mostN]; omega
    · refine fit_mk _ _ 4 (x : Int) (by rw [e0]; exact size_c hx) (by decide) (by simp) (by simp [cont_iff]; omega) x 1 rfl ?_ ?_ ?_ ?_ ?_ hc
      · rw [e0]; simp only [leadN, accN, List.take_succ_cons, List.take_zero, List.foldl_cons, List.foldl_nil]; rw [e1, e2, e3]; simp; omega
      · omega
      · omega
      · simp [leastN]; omega
      · simp [mostN]; omega

theorem fit_iff (l : List UInt8) : fitB l = true ↔ l ≠ [] ∧ ∃ c, mayU c = true ∧ l <+: encodeRune c :=
  ⟨fit_to, fun ⟨h, _, hc, hp⟩ => fit_of hc h hp⟩

/-! ### What follows -/
theorem enc_pre {a b : Int} (ha : mayB a = true) (hb : mayB b = true) (h : encodeRune a <+: encodeRune b) : a = b := by
  apply Classical.byContradiction
  intro hne
  obtain ⟨t, ht⟩ := h
  apply enc_free a b ha hb hne
  rw [← ht, List.take_left]
theorem fit_cut {l : List UInt8} (h : fitB l = true) (k : Nat) (hk : 1 ≤ k) : fitB (l.take k) = true := by
  obtain ⟨hne, c, hc, hp⟩ := (fit_iff l).1 h
  refine fit_of hc ?_ ((List.take_prefix k l).trans hp)
  intro e
  rcases List.take_eq_nil_iff.1 e with h | h
  · omega
  · exact hne h
theorem fit_len {l : List UInt8} (h : fitB l = true) : l.length ≤ 4 := by
  obtain ⟨_, c, _, hp⟩ := (fit_iff l).1 h
  have := hp.length_le
  have := (enc_len c).2
  omega
theorem fit_more {l : List UInt8} (hne : l ≠ []) (h : fitB l = false) (m : List UInt8) : fitB (l ++ m) = false := by
  cases hh : fitB (l ++ m) with
  | false => rfl
  | true =>
    obtain ⟨_, c, hc, hp⟩ := (fit_iff _).1 hh
    rw [fit_of hc hne ((List.prefix_append l m).trans hp)] at h
    cases h
theorem fit_enc {c : Int} (h : mayU c = true) (k : Nat) (hk : 1 ≤ k) : fitB ((encodeRune c).take k) = true := by
  refine fit_of h ?_ (List.take_prefix _ _)
  intro e
  rcases List.take_eq_nil_iff.1 e with h | h
  · omega
  · exact enc_ne c h
theorem fit_over {c : Int} (h : mayB c = true) (m : UInt8) : fitB (encodeRune c ++ [m]) = false := by
  cases hh : fitB (encodeRune c ++ [m]) with
  | false => rfl
  | true =>
    obtain ⟨_, d, hd, hp⟩ := (fit_iff _).1 hh
    have := enc_pre h (mayU_may hd).1 ((List.prefix_append _ _).trans hp)
    subst this
    have := hp.length_le
    simp at this
    omega
theorem fit_not {c : Int} (h : mayB c = true) (hu : mayU c = false) : fitB (encodeRune c) = false := by
  cases hh : fitB (encodeRune c) with
  | false => rfl
  | true =>
    obtain ⟨_, d, hd, hp⟩ := (fit_iff _).1 hh
    rw [enc_pre h (mayU_may hd).1 hp, hd] at hu
    cases hu
/-- bytes that fit: a character's, or fewer -/
theorem fit_whole {l : List UInt8} (h : fitB l = true) : (∃ c, mayU c = true ∧ l = encodeRune c ∧ ∀ m, fitB (l ++ [m]) = false) ∨ ((∀ c t, mayB c = true → l ≠ encodeRune c ++ t) ∧ ∃ m, fitB (l ++ [m]) = true) := by
  obtain ⟨hne, c, hc, t, ht⟩ := (fit_iff l).1 h
  cases t with
  | nil =>
    rw [List.append_nil] at ht
    subst ht
    exact .inl ⟨c, hc, rfl, fun m => fit_over (mayU_may hc).1 m⟩
  | cons m t =>
    refine .inr ⟨?_, m, fit_of hc (by simp) ⟨t, by rw [List.append_assoc]; exact ht⟩⟩
    intro d r hd e
    have h1 : encodeRune d <+: encodeRune c := ⟨r ++ m :: t, by rw [← ht, e, List.append_assoc]⟩
    have := enc_pre hd (mayU_may hc).1 h1
    subst this
    have h2 := congrArg List.length ht
    rw [e] at h2
    simp at h2
end Go.Proofs.YtjbnofljoijnmaaDooru

/-
  PLAIN LEAN: the reference's way to find a text's first character.
-/
namespace Go.Proofs.YtjbnofljoijnmaaDooru
open Go.Lib

/-- what the first byte says, by the reference's tests -/
def lead (b : Nat) : Int := if 240 ≤ b then (b : Int) - 240 else if 224 ≤ b then (b : Int) - 224 else if 192 ≤ b then (b : Int) - 192 else b
/-- the reference's c behind so many bytes -/
def cand (l : List UInt8) : Nat → Int
  | 0 => 0
  | 1 => lead (l.getD 0 0).toNat
  | (n + 2) => 64 * cand l (n + 1) + ((l.getD (n + 1) 0).toNat : Int) % 64
/-- the reference's test -/
def hit (l : List UInt8) (n : Nat) : Bool := mayB (cand l n) && (encodeRune (cand l n) == l.take n)

theorem lead_bd (b : Nat) (h : b < 256) : 0 ≤ lead b ∧ lead b ≤ 191 := by
  unfold lead
  split
  · omega
  · split
    · omega
    · split <;> omega
theorem byte_lt (x : UInt8) : x.toNat < 256 := UInt8.toNat_lt x
theorem cand_bd (l : List UInt8) : ∀ n, n ≤ 4 → 0 ≤ cand l n ∧ cand l n ≤ 60000000 := by
  have h1 := lead_bd _ (byte_lt (l.getD 0 0))
  intro n hn
  match n, hn with
  | 0, _ => simp [cand]
  | 1, _ => simp only [cand]; omega
  | 2, _ => simp only [cand]; omega
  | 3, _ => simp only [cand]; omega
  | 4, _ => simp only [cand]; omega

/-- a hit is what is decoded -/
theorem hit_dec (l : List UInt8) (n : Nat) (hn : n ≤ l.length) (h : hit l n = true) : (decodeL l) = ((cand l n).toNat, n) ∧ badL l = false ∧ 0 ≤ cand l n := by
  unfold hit at h
  rw [Bool.and_eq_true, beq_iff_eq] at h
  have e : l = encodeRune (cand l n) ++ l.drop n := by rw [h.2, List.take_append_drop]
  have hl : (encodeRune (cand l n)).length = n := by rw [h.2, List.length_take]; omega
  have hd := dec_enc (cand l n) h.1 (l.drop n)
  have hb := not_bad_enc (cand l n) h.1 (l.drop n)
  rw [← e] at hd hb
  rw [hl] at hd
  exact ⟨hd, hb, ((mayB_iff _).1 h.1).1⟩

theorem cand_enc (c : Int) (h : mayB c = true) (t : List UInt8) : cand (encodeRune c ++ t) (encodeRune c).length = c := by
  obtain ⟨x, rfl, hx, e | ⟨h1, h2, e⟩ | ⟨h1, h2, e⟩ | ⟨h1, e⟩⟩ := enc_shape c h
  · rw [e.2]
    simp only [List.length_cons, List.length_nil, List.cons_append, List.nil_append, cand, List.getD_cons_zero, u8 x (by omega), lead]
    split
    · omega
    · split
      · omega
      · split <;> omega
  · rw [e]
    simp only [List.length_cons, List.length_nil, List.cons_append, List.nil_append, cand, List.getD_cons_zero, List.getD_cons_succ, u8 (192 + x / 64) (by omega), u8 (128 + x % 64) (by omega), lead]
    split
    · omega
    · split
      · omega
      · split <;> omega
  · rw [e]
    simp only [List.length_cons, List.length_nil, List.cons_append, List.nil_append, cand, List.getD_cons_zero, List.getD_cons_succ, u8 (224 + x / 4096) (by omega), u8 (128 + x / 64 % 64) (by omega), u8 (128 + x % 64) (by omega), lead]
    split
    · omega
    · split <;> omega
  · rw [e]
    simp only [List.length_cons, List.length_nil, List.cons_append, List.nil_append, cand, List.getD_cons_zero, List.getD_cons_succ, u8 (240 + x / 262144) (by omega), u8 (128 + x / 4096 % 64) (by omega), u8 (128 + x / 64 % 64) (by omega), u8 (128 + x % 64) (by omega), lead]
    split <;> omega

/-- where something is decoded the reference hits -/
theorem dec_hit (l : List UInt8) (hne : l ≠ []) (hb : badL l = false) : 1 ≤ (decodeL l).2 ∧ (decodeL l).2 ≤ 4 ∧ (decodeL l).2 ≤ l.length ∧ hit l (decodeL l).2 = true := by
  have hg := dec_good l hne hb
  have hm := dec_may l
  have hl := enc_len ((decodeL l).1 : Int)
  have hc := cand_enc ((decodeL l).1 : Int) hm (l.drop (decodeL l).2)
  rw [← hg.1, hg.2] at hc
  rw [hg.2] at hl
  have hle := decodeL_le l hne
  refine ⟨hl.1, hl.2, hle, ?_⟩
  unfold hit
  rw [hc, hm]
  have : l.take (decodeL l).2 = encodeRune ((decodeL l).1 : Int) := by
    rw [← hg.2]
    conv => lhs; arg 2; rw [hg.1]
    rw [List.take_left]
  simp [this]

/-- what First answers -/
def firstC (l : List UInt8) : Int := if l = [] ∨ badL l = true then 0 else ((decodeL l).1 : Int)
def firstN (l : List UInt8) : Nat := if l = [] ∨ badL l = true then 0 else (decodeL l).2

theorem first_hit (l : List UInt8) (n : Nat) (h1 : 1 ≤ n) (hn : n ≤ l.length) (h : hit l n = true) : firstC l = cand l n ∧ firstN l = n := by
  obtain ⟨hd, hb, hc⟩ := hit_dec l n hn h
  have hne : l ≠ [] := by intro e; rw [e] at hn; simp at hn; omega
  simp only [firstC, firstN, hne, hb, false_or, Bool.false_eq_true, if_false, hd]
  exact ⟨by omega, trivial⟩
theorem first_miss (l : List UInt8) (h : ∀ j, 1 ≤ j → j ≤ 4 → j ≤ l.length → hit l j = false) : firstC l = 0 ∧ firstN l = 0 := by
  by_cases hne : l = []
  · simp [firstC, firstN, hne]
  · cases hb : badL l with
    | true => simp [firstC, firstN, hb]
    | false =>
      obtain ⟨a, b, c, d⟩ := dec_hit l hne hb
      rw [h _ a b c] at d
      cases d
end Go.Proofs.YtjbnofljoijnmaaDooru

/-
  PLAIN LEAN, no program in it: the nineteen ranges that the program keeps, and the numbers whose bytes begin so (layer 4).
-/
namespace Go.Proofs.YtjbnofljoijnmaaDooru
open Go.Lib

/-- the nineteen ranges -/
def rangeL : List (Int × Int) := [(160, 55295), (57344, 64975), (65008, 65519), (65536, 131069), (131072, 196605), (196608, 262141), (262144, 327677), (327680, 393213), (393216, 458749), (458752, 524285), (524288, 589821), (589824, 655357), (655360, 720893), (720896, 786429), (786432, 851965), (851968, 917501), (921600, 983037), (983040, 1048573), (1048576, 1114109)]
def loR (k : Nat) : Int := (rangeL.getD k (0, 0)).1
def hiR (k : Nat) : Int := (rangeL.getD k (0, 0)).2
def hitR (lo hi : Int) (k : Nat) : Bool := decide (max lo (loR k) ≤ min hi (hiR k))
def anyR (lo hi : Int) : Bool := (List.range 19).any (hitR lo hi)

theorem hit_iff (lo hi : Int) (k : Nat) : hitR lo hi k = true ↔ (lo ≤ hi ∧ lo ≤ hiR k ∧ loR k ≤ hi ∧ loR k ≤ hiR k) := by
  unfold hitR; rw [decide_eq_true_iff]; omega
theorem k19 {k : Nat} (h : k < 19) : k = 0 ∨ k = 1 ∨ k = 2 ∨ k = 3 ∨ k = 4 ∨ k = 5 ∨ k = 6 ∨ k = 7 ∨ k = 8 ∨ k = 9 ∨ k = 10 ∨ k = 11 ∨ k = 12 ∨ k = 13 ∨ k = 14 ∨ k = 15 ∨ k = 16 ∨ k = 17 ∨ k = 18 := by omega
theorem range_le {k : Nat} (h : k < 19) : loR k ≤ hiR k ∧ 160 ≤ loR k ∧ hiR k ≤ 1114109 := by
  rcases k19 h with rfl | rfl | rfl | rfl | rfl | rfl | rfl | rfl | rfl | rfl | rfl | rfl | rfl | rfl | rfl | rfl | rfl | rfl | rfl <;> decide
theorem range_may {k : Nat} (h : k < 19) {c : Int} (h0 : loR k ≤ c) (h1 : c ≤ hiR k) : mayU c = true := by
  rw [mayU_iff]
  rcases k19 h with rfl | rfl | rfl | rfl | rfl | rfl | rfl | rfl | rfl | rfl | rfl | rfl | rfl | rfl | rfl | rfl | rfl | rfl | rfl <;>
    simp only [loR, hiR, rangeL, List.getD_cons_zero, List.getD_cons_succ] at h0 h1 <;> omega
theorem may_range {c : Int} (h : mayU c = true) : ∃ k, k < 19 ∧ loR k ≤ c ∧ c ≤ hiR k := by
  rw [mayU_iff] at h
  rcases h with h | h | h | h
  · exact ⟨0, by decide, h.1, h.2⟩
  · exact ⟨1, by decide, h.1, h.2⟩
  · exact ⟨2, by decide, h.1, h.2⟩
  · obtain ⟨p, hp⟩ : ∃ p, c / 65536 = p := ⟨_, rfl⟩
    have h16 : p = 1 ∨ p = 2 ∨ p = 3 ∨ p = 4 ∨ p = 5 ∨ p = 6 ∨ p = 7 ∨ p = 8 ∨ p = 9 ∨ p = 10 ∨ p = 11 ∨ p = 12 ∨ p = 13 ∨ p = 14 ∨ p = 15 ∨ p = 16 := by omega
    rcases h16 with rfl | rfl | rfl | rfl | rfl | rfl | rfl | rfl | rfl | rfl | rfl | rfl | rfl | rfl | rfl | rfl
    · exact ⟨3, by decide, show (65536 : Int) ≤ c by omega, show c ≤ (131069 : Int) by omega⟩
    · exact ⟨4, by decide, show (131072 : Int) ≤ c by omega, show c ≤ (196605 : Int) by omega⟩
    · exact ⟨5, by decide, show (196608 : Int) ≤ c by omega, show c ≤ (262141 : Int) by omega⟩
    · exact ⟨6, by decide, show (262144 : Int) ≤ c by omega, show c ≤ (327677 : Int) by omega⟩
    · exact ⟨7, by decide, show (327680 : Int) ≤ c by omega, show c ≤ (393213 : Int) by omega⟩
    · exact ⟨8, by decide, show (393216 : Int) ≤ c by omega, show c ≤ (458749 : Int) by omega⟩
    · exact ⟨9, by decide, show (458752 : Int) ≤ c by omega, show c ≤ (524285 : Int) by omega⟩
    · exact ⟨10, by decide, show (524288 : Int) ≤ c by omega, show c ≤ (589821 : Int) by omega⟩
    · exact ⟨11, by decide, show (589824 : Int) ≤ c by omega, show c ≤ (655357 : Int) by omega⟩
    · exact ⟨12, by decide, show (655360 : Int) ≤ c by omega, show c ≤ (720893 : Int) by omega⟩
    · exact ⟨13, by decide, show (720896 : Int) ≤ c by omega, show c ≤ (786429 : Int) by omega⟩
    · exact ⟨14, by decide, show (786432 : Int) ≤ c by omega, show c ≤ (851965 : Int) by omega⟩
    · exact ⟨15, by decide, show (851968 : Int) ≤ c by omega, show c ≤ (917501 : Int) by omega⟩
    · exact ⟨16, by decide, show (921600 : Int) ≤ c by omega, show c ≤ (983037 : Int) by omega⟩
    · exact ⟨17, by decide, show (983040 : Int) ≤ c by omega, show c ≤ (1048573 : Int) by omega⟩
    · exact ⟨18, by decide, show (1048576 : Int) ≤ c by omega, show c ≤ (1114109 : Int) by omega⟩
theorem any_iff (lo hi : Int) : anyR lo hi = true ↔ ∃ c, lo ≤ c ∧ c ≤ hi ∧ mayU c = true := by
  unfold anyR
  rw [List.any_eq_true]
  constructor
  · rintro ⟨k, hk, h⟩
    have hk := List.mem_range.1 hk
    rw [hit_iff] at h
    exact ⟨max lo (loR k), by omega, by omega, range_may hk (by omega) (by omega)⟩
  · rintro ⟨c, h0, h1, h2⟩
    obtain ⟨k, hk, h3, h4⟩ := may_range h2
    exact ⟨k, List.mem_range.2 hk, (hit_iff _ _ _).2 ⟨by omega, by omega, by omega, (range_le hk).1⟩⟩
theorem any_may (c : Int) : anyR c c = mayU c := by
  rw [Bool.eq_iff_iff, any_iff]
  constructor
  · rintro ⟨d, h0, h1, h2⟩
    obtain rfl : d = c := by omega
    exact h2
  · intro h; exact ⟨c, by omega, by omega, h⟩
/-- none so far -/
def noneR (lo hi : Int) (k : Nat) : Prop := ∀ j, j < k → hitR lo hi j = false
theorem none_next {lo hi : Int} {k : Nat} (h : noneR lo hi k) (hk : hitR lo hi k = false) : noneR lo hi (k + 1) := by
  intro j hj
  by_cases e : j = k
  · rw [e]; exact hk
  · exact h j (by omega)
theorem none_all {lo hi : Int} (h : noneR lo hi 19) : anyR lo hi = false := by
  unfold anyR
  rw [List.any_eq_false]
  intro j hj
  rw [h j (List.mem_range.1 hj)]; simp
theorem hit_any {lo hi : Int} {k : Nat} (hk : k < 19) (h : hitR lo hi k = true) : anyR lo hi = true := by
  unfold anyR
  rw [List.any_eq_true]
  exact ⟨k, List.mem_range.2 hk, h⟩

/-! ### The numbers whose bytes begin so -/
def lowN (s : List UInt8) : Int :=
  match s with
  | [] => 0
  | b :: t => if sizeN b.toNat < t.length + 1 ∨ t.all contB = false then 0 else max (accN (leadN (sizeN b.toNat) b.toNat) t * 64 ^ (sizeN b.toNat - (t.length + 1)) : Nat) (leastN (sizeN b.toNat) : Nat)
def highN (s : List UInt8) : Int :=
  match s with
  | [] => -1
  | b :: t => if sizeN b.toNat < t.length + 1 ∨ t.all contB = false then -1 else ((accN (leadN (sizeN b.toNat) b.toNat) t * 64 ^ (sizeN b.toNat - (t.length + 1)) + (64 ^ (sizeN b.toNat - (t.length + 1)) - 1) : Nat) : Int)

theorem acc_bound (c : Nat) (l : List UInt8) (h : l.all contB = true) : accN c l < (c + 1) * 64 ^ l.length := by
  unfold accN
  induction l generalizing c with
  | nil => simp
  | cons x t ih =>
    simp only [List.all_cons, Bool.and_eq_true] at h
    have hx := (cont_iff x).1 h.1
    have := ih (64 * c + (x.toNat - 128)) h.2
    simp only [List.foldl_cons, List.length_cons]
    refine Nat.lt_of_lt_of_le this ?_
    rw [Nat.pow_succ, Nat.mul_comm (64 ^ t.length) 64, ← Nat.mul_assoc]
    exact Nat.mul_le_mul_right _ (by omega)

theorem any_fit (s : List UInt8) (hne : s ≠ []) : anyR (lowN s) (highN s) = fitB s := by
  match s, hne with
  | b :: t, _ =>
    by_cases hz : sizeN b.toNat < t.length + 1
    · have e1 : lowN (b :: t) = 0 := by simp only [lowN]; rw [if_pos (.inl hz)]
      have e2 : highN (b :: t) = -1 := by simp only [highN]; rw [if_pos (.inl hz)]
      have e3 : fitB (b :: t) = false := by
        simp only [fitB]
        rw [show decide (t.length + 1 ≤ sizeN b.toNat) = false by rw [decide_eq_false_iff_not]; omega]
        simp
      rw [e1, e2, e3]
      decide +kernel
    · cases ha : t.all contB with
      | false =>
        have e1 : lowN (b :: t) = 0 := by simp only [lowN]; rw [if_pos (.inr ha)]
        have e2 : highN (b :: t) = -1 := by simp only [highN]; rw [if_pos (.inr ha)]
        have e3 : fitB (b :: t) = false := by simp only [fitB]; rw [ha]; simp
        rw [e1, e2, e3]
        decide +kernel
      | true =>
        have hn : ¬ (sizeN b.toNat < t.length + 1 ∨ t.all contB = false) := by rw [ha]; simp; omega
        simp only [lowN, highN, fitB]
        rw [if_neg hn, if_neg hn, ha, show decide (t.length + 1 ≤ sizeN b.toNat) = true by rw [decide_eq_true_iff]; omega, show decide (sizeN b.toNat ≠ 0) = true by rw [decide_eq_true_iff]; omega]
        simp only [Bool.and_true, Bool.true_and]
        have hb := acc_bound (leadN (sizeN b.toNat) b.toNat) t ha
        rw [Bool.eq_iff_iff, any_iff, some_iff _ _ (by
          have : mostN (sizeN b.toNat) < 2000000 := by unfold mostN; (repeat' split) <;> omega
          omega)]
        have hpow : 64 ^ t.length * 64 ^ (sizeN b.toNat - (t.length + 1)) = 64 ^ (sizeN b.toNat - 1) := by rw [← Nat.pow_add]; congr 1; omega
        have hhi : accN (leadN (sizeN b.toNat) b.toNat) t * 64 ^ (sizeN b.toNat - (t.length + 1)) + (64 ^ (sizeN b.toNat - (t.length + 1)) - 1) < (leadN (sizeN b.toNat) b.toNat + 1) * 64 ^ (sizeN b.toNat - 1) := by
          rw [← hpow, ← Nat.mul_assoc]
          have h1 := Nat.mul_le_mul_right (64 ^ (sizeN b.toNat - (t.length + 1))) (Nat.succ_le_of_lt hb)
          have h2 : 0 < 64 ^ (sizeN b.toNat - (t.length + 1)) := Nat.pow_pos (by decide)
          rw [Nat.succ_mul] at h1
          omega
        generalize accN (leadN (sizeN b.toNat) b.toNat) t * 64 ^ (sizeN b.toNat - (t.length + 1)) = lo at *
        generalize 64 ^ (sizeN b.toNat - (t.length + 1)) - 1 = d at *
        have hm : ∀ c, mayU c = true → c ≤ ((lo + d : Nat) : Int) → c ≤ (mostN (sizeN b.toNat) : Int) := by
          intro c hc hcd
          have := (mayU_may hc).2
          rcases size_is b.toNat with e | e | e | e
          · omega
          · have := size_two e
            rw [e] at hhi ⊢
            simp [leadN, mostN] at hhi ⊢
            omega
          · have := size_three e
            rw [e] at hhi ⊢
            simp [leadN, mostN] at hhi ⊢
            omega
          · rw [e]; simp [mostN]; omega
        constructor
        · rintro ⟨c, h0, h1, h2⟩
          exact ⟨c, h0, by have := hm c h2 h1; omega, h2⟩
        · rintro ⟨c, h0, h1, h2⟩
          exact ⟨c, h0, by omega, h2⟩
end Go.Proofs.YtjbnofljoijnmaaDooru
