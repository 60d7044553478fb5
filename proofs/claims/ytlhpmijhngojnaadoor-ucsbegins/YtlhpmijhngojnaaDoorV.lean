/-
  PLAIN LEAN, no program in it: characters beyond ASCII that may stand in a literal, and begins of their bytes (layer 4).
-/
import Derived.Test.YtlhpmijhngojnaaDoorU
namespace Go.Proofs.YtlhpmijhngojnaaDoor
open Go.Lib

theorem enc_shape (c : Int) (h : mayB c = true) : ∃ x : Nat, c = x ∧ x ≤ 1114111 ∧
    ((x < 128 ∧ encodeRune c = [x.toUInt8]) ∨ (128 ≤ x ∧ x < 2048 ∧ encodeRune c = [(192 + x / 64).toUInt8, (128 + x % 64).toUInt8]) ∨
     (2048 ≤ x ∧ x < 65536 ∧ encodeRune c = [(224 + x / 4096).toUInt8, (128 + x / 64 % 64).toUInt8, (128 + x % 64).toUInt8]) ∨
     (65536 ≤ x ∧ encodeRune c = [(240 + x / 262144).toUInt8, (128 + x / 4096 % 64).toUInt8, (128 + x / 64 % 64).toUInt8, (128 + x % 64).toUInt8])) := by
  rw [mayB_iff] at h
  obtain ⟨x, rfl⟩ : ∃ x : Nat, c = x := ⟨c.toNat, by omega⟩
  refine ⟨x, rfl, by omega, ?_⟩
  unfold encodeRune
  by_cases h1 : (x : Int) ≤ 127
  · left
    rw [encodeRuneZ_one (by omega) h1]
    exact ⟨by omega, rfl⟩
  · by_cases h2 : (x : Int) ≤ 2047
    · right; left
      rw [encodeRuneZ_two (by omega) h2]
      refine ⟨by omega, by omega, ?_⟩
      simp only [List.map_cons, List.map_nil]
      rw [show (192 + (x : Int) / 64).toNat = 192 + x / 64 by omega, show (128 + (x : Int) % 64).toNat = 128 + x % 64 by omega]
    · by_cases h3 : (x : Int) ≤ 65535
      · right; right; left
        rw [encodeRuneZ_three (by omega)]
        refine ⟨by omega, by omega, ?_⟩
        simp only [List.map_cons, List.map_nil]
        rw [show (224 + (x : Int) / 4096).toNat = 224 + x / 4096 by omega, show (128 + (x : Int) / 64 % 64).toNat = 128 + x / 64 % 64 by omega, show (128 + (x : Int) % 64).toNat = 128 + x % 64 by omega]
      · right; right; right
        rw [encodeRuneZ_four (by omega) (by omega)]
        refine ⟨by omega, ?_⟩
        simp only [List.map_cons, List.map_nil]
        rw [show (240 + (x : Int) / 262144).toNat = 240 + x / 262144 by omega, show (128 + (x : Int) / 4096 % 64).toNat = 128 + x / 4096 % 64 by omega, show (128 + (x : Int) / 64 % 64).toNat = 128 + x / 64 % 64 by omega, show (128 + (x : Int) % 64).toNat = 128 + x % 64 by omega]
theorem enc_free (a b : Int) (ha : mayB a = true) (hb : mayB b = true) (h : a ≠ b) : (encodeRune b).take (encodeRune a).length ≠ encodeRune a := by
  intro e
  have e1 : encodeRune b = encodeRune a ++ (encodeRune b).drop (encodeRune a).length := by
    conv => rhs; arg 1; rw [← e]
    rw [List.take_append_drop]
  have d1 := dec_enc a ha ((encodeRune b).drop (encodeRune a).length)
  have d2 := dec_enc b hb []
  rw [← e1] at d1
  rw [List.append_nil, d1] at d2
  have := congrArg Prod.fst d2
  rw [mayB_iff] at ha hb
  simp at this
  omega

/-- a number is in one of the ranges -/
def mayU (c : Int) : Bool := decide (160 ≤ c ∧ c ≤ 55295 ∨ 57344 ≤ c ∧ c ≤ 64975 ∨ 65008 ≤ c ∧ c ≤ 65519 ∨ 65536 ≤ c ∧ c ≤ 1114109 ∧ c % 65536 ≤ 65533 ∧ ¬ (917504 ≤ c ∧ c < 921600))
theorem mayU_iff (c : Int) : mayU c = true ↔ (160 ≤ c ∧ c ≤ 55295 ∨ 57344 ≤ c ∧ c ≤ 64975 ∨ 65008 ≤ c ∧ c ≤ 65519 ∨ 65536 ≤ c ∧ c ≤ 1114109 ∧ c % 65536 ≤ 65533 ∧ ¬ (917504 ≤ c ∧ c < 921600)) := by unfold mayU; rw [decide_eq_true_iff]
theorem mayU_may {c : Int} (h : mayU c = true) : mayB c = true ∧ 160 ≤ c ∧ c ≤ 1114109 := by
  rw [mayU_iff] at h
  rw [mayB_iff]
  omega
/-- the first one from a number on; 2000000: there is none -/
def nextU (c : Int) : Int :=
  if c ≤ 160 then 160 else if c ≤ 55295 then c else if c ≤ 57344 then 57344 else if c ≤ 64975 then c else if c ≤ 65008 then 65008 else if c ≤ 65519 then c else if c ≤ 65536 then 65536
  else if 917502 ≤ c ∧ c ≤ 921600 then 921600 else if c ≤ 1114109 then (if c % 65536 ≤ 65533 then c else (c / 65536 + 1) * 65536) else 2000000
theorem next_ge (c : Int) : c ≤ nextU c ∨ 1114109 < c := by
  unfold nextU
  (repeat' split) <;> omega
theorem next_may (c : Int) : mayU (nextU c) = true ∨ nextU c = 2000000 := by
  rw [mayU_iff]
  unfold nextU
  (repeat' split) <;> omega
theorem next_least (c d : Int) (h : c ≤ d) (hd : mayU d = true) : nextU c ≤ d := by
  rw [mayU_iff] at hd
  unfold nextU
  (repeat' split) <;> omega
/-- one of them lies from low to high -/
def someU (lo hi : Int) : Bool := decide (nextU lo ≤ hi)
theorem some_iff (lo hi : Int) (hh : hi < 2000000) : someU lo hi = true ↔ ∃ c, lo ≤ c ∧ c ≤ hi ∧ mayU c = true := by
  unfold someU
  rw [decide_eq_true_iff]
  constructor
  · intro h
    rcases next_may lo with hm | hm
    · refine ⟨nextU lo, ?_, h, hm⟩
      rcases next_ge lo with hg | hg
      · exact hg
      · exfalso
        have := mayU_may hm
        have e : nextU lo = 2000000 := by unfold nextU; (repeat' split) <;> omega
        omega
    · omega
  · rintro ⟨c, h1, h2, h3⟩
    have := next_least lo c h1 h3
    omega

/-- how many bytes a character has whose first one is this; 0: it begins none of more than one -/
def sizeN (b : Nat) : Nat := if b < 192 ∨ 247 < b then 0 else if b < 224 then 2 else if b < 240 then 3 else 4
def leadN (n b : Nat) : Nat := if n = 3 then b - 224 else if n = 4 then b - 240 else b - 192
def leastN (n : Nat) : Nat := if n = 2 then 128 else if n = 3 then 2048 else 65536
def mostN (n : Nat) : Nat := if n = 2 then 2047 else if n = 3 then 65535 else 1114111
def contB (c : UInt8) : Bool := decide (128 ≤ c.toNat ∧ c.toNat ≤ 191)
/-- six bits more, byte by byte -/
def accN (c : Nat) (l : List UInt8) : Nat := l.foldl (fun a x => 64 * a + (x.toNat - 128)) c
/-- some character that may begins so: by its low and its high one -/
def fitB : List UInt8 → Bool
  | [] => false
  | b :: t => decide (sizeN b.toNat ≠ 0) && decide (t.length + 1 ≤ sizeN b.toNat) && t.all contB &&
      someU (max (accN (leadN (sizeN b.toNat) b.toNat) t * 64 ^ (sizeN b.toNat - (t.length + 1)) : Nat) (leastN (sizeN b.toNat)))
        (min (accN (leadN (sizeN b.toNat) b.toNat) t * 64 ^ (sizeN b.toNat - (t.length + 1)) + (64 ^ (sizeN b.toNat - (t.length + 1)) - 1) : Nat) (mostN (sizeN b.toNat)))

theorem cont_iff (c : UInt8) : contB c = true ↔ 128 ≤ c.toNat ∧ c.toNat ≤ 191 := by simp [contB]
theorem size_two {b : Nat} (h : sizeN b = 2) : 192 ≤ b ∧ b < 224 := by unfold sizeN at h; (repeat' split at h) <;> omega
theorem size_three {b : Nat} (h : sizeN b = 3) : 224 ≤ b ∧ b < 240 := by unfold sizeN at h; (repeat' split at h) <;> omega
theorem size_four {b : Nat} (h : sizeN b = 4) : 240 ≤ b ∧ b ≤ 247 := by unfold sizeN at h; (repeat' split at h) <;> omega
theorem size_is (b : Nat) : sizeN b = 0 ∨ sizeN b = 2 ∨ sizeN b = 3 ∨ sizeN b = 4 := by unfold sizeN; (repeat' split) <;> omega
theorem u8_eq {n : Nat} {b : UInt8} (h : n = b.toNat) : n.toUInt8 = b := by
  subst h; simp

theorem len1 {t : List UInt8} (h : t.length + 1 ≤ 2) : t = [] ∨ ∃ p, t = [p] := by
  rcases t with _ | ⟨p, _ | ⟨q, t⟩⟩
  · exact .inl rfl
  · exact .inr ⟨p, rfl⟩
  · simp at h
theorem len2 {t : List UInt8} (h : t.length + 1 ≤ 3) : t = [] ∨ (∃ p, t = [p]) ∨ ∃ p q, t = [p, q] := by
  rcases t with _ | ⟨p, _ | ⟨q, _ | ⟨r, t⟩⟩⟩
  · exact .inl rfl
  · exact .inr (.inl ⟨p, rfl⟩)
  · exact .inr (.inr ⟨p, q, rfl⟩)
  · simp at h
theorem len3 {t : List UInt8} (h : t.length + 1 ≤ 4) : t = [] ∨ (∃ p, t = [p]) ∨ (∃ p q, t = [p, q]) ∨ ∃ p q r, t = [p, q, r] := by
  rcases t with _ | ⟨p, _ | ⟨q, _ | ⟨r, _ | ⟨o, t⟩⟩⟩⟩
  · exact .inl rfl
  · exact .inr (.inl ⟨p, rfl⟩)
  · exact .inr (.inr (.inl ⟨p, q, rfl⟩))
  · exact .inr (.inr (.inr ⟨p, q, r, rfl⟩))
  · simp at h

theorem fit_to {l : List UInt8} (h : fitB l = true) : l ≠ [] ∧ ∃ c, mayU c = true ∧ l <+: encodeRune c := by
  match l, h with
  | b :: t, h =>
    refine ⟨by simp, ?_⟩
    unfold fitB at h
    simp only [Bool.and_eq_true, decide_eq_true_eq] at h
    obtain ⟨⟨⟨h0, hl⟩, hc⟩, hs⟩ := h
    rcases size_is b.toNat with e | e | e | e
    · exact absurd e h0
    · rw [e] at hl hs
      obtain ⟨c, c1, c2, c3⟩ := (some_iff _ _ (by simp [mostN]; omega)).1 hs
      have hb := size_two e
      obtain ⟨x, rfl, hx, hsh⟩ := enc_shape c (mayU_may c3).1
      refine ⟨_, c3, ?_⟩
      rcases len1 hl with rfl | ⟨p, rfl⟩
      · simp [leadN, leastN, mostN, accN] at c1 c2
        have : encodeRune (x : Int) = [(192 + x / 64).toUInt8, (128 + x % 64).toUInt8] := by
          rcases hsh with h | h | h | h <;> first | exact h.2.2 | omega
        rw [this, u8_eq (show 192 + x / 64 = b.toNat by omega)]
        exact ⟨_, rfl⟩
      · simp [leadN, leastN, mostN, accN, cont_iff] at c1 c2 hc
        have : encodeRune (x : Int) = [(192 + x / 64).toUInt8, (128 + x % 64).toUInt8] := by
          rcases hsh with h | h | h | h <;> first | exact h.2.2 | omega
        rw [this, u8_eq (show 192 + x / 64 = b.toNat by omega), u8_eq (show 128 + x % 64 = p.toNat by omega)]
        exact ⟨[], rfl⟩
    · rw [e] at hl hs
      obtain ⟨c, c1, c2, c3⟩ := (some_iff _ _ (by simp [mostN]; omega)).1 hs
      have hb := size_three e
      obtain ⟨x, rfl, hx, hsh⟩ := enc_shape c (mayU_may c3).1
      refine ⟨_, c3, ?_⟩
      rcases len2 hl with rfl | ⟨p, rfl⟩ | ⟨p, q, rfl⟩
      · simp [leadN, leastN, mostN, accN] at c1 c2
        have : encodeRune (x : Int) = [(224 + x / 4096).toUInt8, (128 + x / 64 % 64).toUInt8, (128 + x % 64).toUInt8] := by
          rcases hsh with h | h | h | h <;> first | exact h.2.2 | omega
        rw [this, u8_eq (show 224 + x / 4096 = b.toNat by omega)]
        exact ⟨_, rfl⟩
      · simp [leadN, leastN, mostN, accN, cont_iff] at c1 c2 hc
        have : encodeRune (x : Int) = [(224 + x / 4096).toUInt8, (128 + x / 64 % 64).toUInt8, (128 + x % 64).toUInt8] := by
          rcases hsh with h | h | h | h <;> first | exact h.2.2 | omega
        rw [this, u8_eq (show 224 + x / 4096 = b.toNat by omega), u8_eq (show 128 + x / 64 % 64 = p.toNat by omega)]
        exact ⟨_, rfl⟩
      · simp [leadN, leastN, mostN, accN, cont_iff] at c1 c2 hc
        have : encodeRune (x : Int) = [(224 + x / 4096).toUInt8, (128 + x / 64 % 64).toUInt8, (128 + x % 64).toUInt8] := by
          rcases hsh with h | h | h | h <;> first | exact h.2.2 | omega
        rw [this, u8_eq (show 224 + x / 4096 = b.toNat by omega), u8_eq (show 128 + x / 64 % 64 = p.toNat by omega), u8_eq (show 128 + x % 64 = q.toNat by omega)]
        exact ⟨[], rfl⟩
    · rw [e] at hl hs
      obtain ⟨c, c1, c2, c3⟩ := (some_iff _ _ (by simp [mostN]; omega)).1 hs
      have hb := size_four e
      obtain ⟨x, rfl, hx, hsh⟩ := enc_shape c (mayU_may c3).1
      refine ⟨_, c3, ?_⟩
      rcases len3 hl with rfl | ⟨p, rfl⟩ | ⟨p, q, rfl⟩ | ⟨p, q, r, rfl⟩
      · simp [leadN, leastN, mostN, accN] at c1 c2
        have : encodeRune (x : Int) = [(240 + x / 262144).toUInt8, (128 + x / 4096 % 64).toUInt8, (128 + x / 64 % 64).toUInt8, (128 + x % 64).toUInt8] := by
          rcases hsh with h | h | h | h <;> first | exact h.2 | omega
        rw [this, u8_eq (show 240 + x / 262144 = b.toNat by omega)]
        exact ⟨_, rfl⟩
      · simp [leadN, leastN, mostN, accN, cont_iff] at c1 c2 hc
        have : encodeRune (x : Int) = [(240 + x / 262144).toUInt8, (128 + x / 4096 % 64).toUInt8, (128 + x / 64 % 64).toUInt8, (128 + x % 64).toUInt8] := by
          rcases hsh with h | h | h | h <;> first | exact h.2 | omega
        rw [this, u8_eq (show 240 + x / 262144 = b.toNat by omega), u8_eq (show 128 + x / 4096 % 64 = p.toNat by omega)]
        exact ⟨_, rfl⟩
      · simp [leadN, leastN, mostN, accN, cont_iff] at c1 c2 hc
        have : encodeRune (x : Int) = [(240 + x / 262144).toUInt8, (128 + x / 4096 % 64).toUInt8, (128 + x / 64 % 64).toUInt8, (128 + x % 64).toUInt8] := by
          rcases hsh with h | h | h | h <;> first | exact h.2 | omega
        rw [this, u8_eq (show 240 + x / 262144 = b.toNat by omega), u8_eq (show 128 + x / 4096 % 64 = p.toNat by omega), u8_eq (show 128 + x / 64 % 64 = q.toNat by omega)]
        exact ⟨_, rfl⟩
      · simp [leadN, leastN, mostN, accN, cont_iff] at c1 c2 hc
        have : encodeRune (x : Int) = [(240 + x / 262144).toUInt8, (128 + x / 4096 % 64).toUInt8, (128 + x / 64 % 64).toUInt8, (128 + x % 64).toUInt8] := by
          rcases hsh with h | h | h | h <;> first | exact h.2 | omega
        rw [this, u8_eq (show 240 + x / 262144 = b.toNat by omega), u8_eq (show 128 + x / 4096 % 64 = p.toNat by omega), u8_eq (show 128 + x / 64 % 64 = q.toNat by omega), u8_eq (show 128 + x % 64 = r.toNat by omega)]
        exact ⟨[], rfl⟩

end Go.Proofs.YtlhpmijhngojnaaDoor
