/-
  TEXTS JOINED: Z, N, N2, X, CQ, CP, N3.
-/
/-
  PLAIN LEAN, no program in it: bytes as triplets (layer 3): encoded, decoded, in great letters; what follows.
-/
namespace Go.Proofs.Ytpfcfadbilaleaa

/-- a byte's classes, by its number -/
def unN (n : Nat) : Bool := decide (48 ≤ n ∧ n ≤ 57 ∨ 65 ≤ n ∧ n ≤ 90 ∨ 97 ≤ n ∧ n ≤ 122 ∨ n = 45 ∨ n = 46 ∨ n = 95 ∨ n = 126)
def reN (n : Nat) : Bool := [58, 47, 63, 35, 91, 93, 64, 33, 36, 38, 39, 40, 41, 42, 43, 44, 59, 61].contains n
def hexN (n : Nat) : Bool := decide (48 ≤ n ∧ n ≤ 57 ∨ 65 ≤ n ∧ n ≤ 70 ∨ 97 ≤ n ∧ n ≤ 102)
/-- a digit's number -/
def digN (n : Nat) : Nat := if 48 ≤ n ∧ n ≤ 57 then n - 48 else if 65 ≤ n ∧ n ≤ 70 then n - 55 else if 97 ≤ n ∧ n ≤ 102 then n - 87 else 0
/-- a number's digit, in great letters -/
def upN (n : Nat) : Nat := if n < 10 then 48 + n else 55 + n
/-- a digit in great letters -/
def bigN (n : Nat) : Nat := if 97 ≤ n ∧ n ≤ 102 then n - 32 else n

def hexB (c : UInt8) : Bool := hexN c.toNat
def digV (c : UInt8) : Nat := digN c.toNat
def stayB (keep : Bool) (c : UInt8) : Bool := unN c.toNat || (keep && reN c.toNat)
def bigB (c : UInt8) : UInt8 := (bigN c.toNat).toUInt8
/-- a byte's triplet -/
def oneL (c : UInt8) : List UInt8 := [37, (upN (c.toNat / 16)).toUInt8, (upN (c.toNat % 16)).toUInt8]
/-- a text begins with a triplet -/
def tripB : List UInt8 → Bool
  | a :: b :: c :: _ => a == 37 && hexB b && hexB c
  | _ => false
/-- the byte that two digits are -/
def pairV (b c : UInt8) : UInt8 := (16 * digV b + digV c).toUInt8

/-- encoded: so many bytes more are taken as they are -/
def encS (keep : Bool) : Nat → List UInt8 → List UInt8
  | _, [] => []
  | k + 1, a :: t => a :: encS keep k t
  | 0, a :: t => if keep && tripB (a :: t) then a :: encS keep 2 t else (if stayB keep a then [a] else oneL a) ++ encS keep 0 t
def encL (keep : Bool) (l : List UInt8) : List UInt8 := encS keep 0 l
/-- decoded: 0: ahead of any byte; 1, 2: within a triplet, behind its first, its second byte -/
def decS : Nat → Nat → List UInt8 → Option (List UInt8)
  | 0, _, [] => some []
  | _ + 1, _, [] => none
  | 0, _, a :: t => if a = 37 then decS 1 0 t else (decS 0 0 t).map (a :: ·)
  | 1, _, a :: t => if hexB a then decS 2 (digV a) t else none
  | _ + 2, h, a :: t => if hexB a then (decS 0 0 t).map ((16 * h + digV a).toUInt8 :: ·) else none
def decL (l : List UInt8) : Option (List UInt8) := decS 0 0 l
/-! ### Bytes, one by one -/
theorem byte_fin : ∀ n : Fin 256, hexN (upN (n.val / 16)) = true ∧ hexN (upN (n.val % 16)) = true ∧ 16 * digN (upN (n.val / 16)) + digN (upN (n.val % 16)) = n.val ∧ upN (n.val / 16) < 256 ∧ upN (n.val % 16) < 256
    ∧ bigN (upN (n.val / 16)) = upN (n.val / 16) ∧ bigN (upN (n.val % 16)) = upN (n.val % 16) ∧ unN (upN (n.val / 16)) = true ∧ unN (upN (n.val % 16)) = true := by decide +kernel
theorem hex_fin0 : ∀ n : Fin 256, hexN n.val = true → unN n.val = true ∧ hexN (bigN n.val) = true ∧ digN (bigN n.val) = digN n.val ∧ bigN n.val < 256 ∧ bigN (bigN n.val) = bigN n.val ∧ digN n.val < 16 ∧ n.val ≠ 37 := by decide +kernel
theorem stay_fin0 : ∀ n : Fin 256, (unN n.val = true ∨ reN n.val = true) → n.val ≠ 37 := by decide +kernel

theorem u8_of (n : Nat) (h : n < 256) : (n.toUInt8).toNat = n := by simp; omega
theorem ne37 {c : UInt8} (h : c.toNat ≠ 37) : c ≠ 37 := fun e => h (by rw [e]; rfl)
theorem stay_ne {keep : Bool} {c : UInt8} (h : stayB keep c = true) : c ≠ 37 := by
  apply ne37
  apply stay_fin0 ⟨c.toNat, UInt8.toNat_lt c⟩
  unfold stayB at h
  simp at h
  rcases h with h | h
  · exact .inl h
  · exact .inr h.2
theorem hex_un {c : UInt8} (h : hexB c = true) : unN c.toNat = true := (hex_fin0 ⟨c.toNat, UInt8.toNat_lt c⟩ h).1
theorem one_hex (c : UInt8) : ∃ x y, oneL c = [37, x, y] ∧ hexB x = true ∧ hexB y = true ∧ pairV x y = c ∧ bigB x = x ∧ bigB y = y := by
  obtain ⟨h1, h2, h3, h4, h5, h6, h7, _, _⟩ := byte_fin ⟨c.toNat, UInt8.toNat_lt c⟩
  simp only at h1 h2 h3 h4 h5 h6 h7
  refine ⟨_, _, rfl, ?_, ?_, ?_, ?_, ?_⟩
  · unfold hexB; rw [u8_of _ h4]; exact h1
  · unfold hexB; rw [u8_of _ h5]; exact h2
  · unfold pairV digV; rw [u8_of _ h4, u8_of _ h5, h3]; simp
  · unfold bigB; rw [u8_of _ h4, h6]
  · unfold bigB; rw [u8_of _ h5, h7]

/-! ### Step by step -/
theorem trip_three (b c : UInt8) (r : List UInt8) : tripB (37 :: b :: c :: r) = (hexB b && hexB c) := by simp [tripB]
/-- what a text that begins with a triplet is -/
theorem trip_is {l : List UInt8} (h : tripB l = true) : ∃ b c r, l = 37 :: b :: c :: r ∧ hexB b = true ∧ hexB c = true := by
  match l, h with
  | a :: b :: c :: r, h =>
    simp [tripB] at h
    exact ⟨b, c, r, by rw [h.1.1], h.1.2, h.2⟩

theorem enc_nil (keep : Bool) : encL keep [] = [] := rfl
theorem enc_trip {b c : UInt8} {r : List UInt8} (hb : hexB b = true) (hc : hexB c = true) : encL true (37 :: b :: c :: r) = 37 :: b :: c :: encL true r := by
  unfold encL
  rw [encS, trip_three, hb, hc]
  rfl
theorem enc_byte {keep : Bool} {a : UInt8} {t : List UInt8} (h : (keep && tripB (a :: t)) = false) : encL keep (a :: t) = (if stayB keep a then [a] else oneL a) ++ encL keep t := by
  unfold encL
  rw [encS, h]
  rfl
theorem dec_nil : decL [] = some [] := rfl
theorem dec_byte {a : UInt8} (h : a ≠ 37) (t : List UInt8) : decL (a :: t) = (decL t).map (a :: ·) := by
  unfold decL
  rw [decS, if_neg h]
theorem dec_trip {b c : UInt8} (hb : hexB b = true) (hc : hexB c = true) (r : List UInt8) : decL (37 :: b :: c :: r) = (decL r).map (pairV b c :: ·) := by
  unfold decL
  rw [decS, if_pos rfl, decS, if_pos hb, decS, if_pos hc]
  rfl
theorem dec_bad {t : List UInt8} (h : tripB (37 :: t) = false) : decL (37 :: t) = none := by
  unfold decL
  rw [decS, if_pos rfl]
  match t with
  | [] => rfl
  | [b] =>
    rw [decS]
    split <;> rfl
  | b :: c :: r =>
    rw [trip_three] at h
    rw [decS]
    split
    · rename_i hb
      rw [hb] at h
      rw [decS]
      split
      · rename_i hc
        rw [hc] at h
        cases h
      · rfl
    · rfl
/-- by what a text begins with: nothing, a triplet, or another byte -/
theorem by_begin {P : List UInt8 → Prop} (h0 : P []) (h1 : ∀ b c r, hexB b = true → hexB c = true → P r → P (37 :: b :: c :: r)) (h2 : ∀ a t, tripB (a :: t) = false → P t → P (a :: t)) (l : List UInt8) : P l := by
  induction hn : l.length using Nat.strongRecOn generalizing l with
  | _ n ih =>
    match l with
    | [] => exact h0
    | a :: t =>
      cases hb : tripB (a :: t) with
      | false => exact h2 a t hb (ih t.length (by simp at hn; omega) t rfl)
      | true =>
        obtain ⟨b, c, r, e, hb', hc'⟩ := trip_is hb
        rw [e] at hn ⊢
        exact h1 b c r hb' hc' (ih r.length (by simp at hn; omega) r rfl)

/-! ### What follows -/
theorem enc_false_byte (a : UInt8) (t : List UInt8) : encL false (a :: t) = (if stayB false a then [a] else oneL a) ++ encL false t := enc_byte (by simp)
/-- a piece is decoded to its byte -/
theorem dec_piece (keep : Bool) (a : UInt8) (t : List UInt8) : decL ((if stayB keep a then [a] else oneL a) ++ t) = (decL t).map (a :: ·) := by
  split
  · rename_i h
    exact dec_byte (stay_ne h) t
  · obtain ⟨x, y, e, hx, hy, hp, _, _⟩ := one_hex a
    rw [e]
    show decL (37 :: x :: y :: t) = _
    rw [dec_trip hx hy, hp]
theorem back_false (s : List UInt8) : decL (encL false s) = some s := by
  induction s with
  | nil => rfl
  | cons a t ih => rw [enc_false_byte, dec_piece, ih]; rfl
/-- each byte may stand in a URI -/
def uriB (keep : Bool) : List UInt8 → Bool
  | [] => true
  | a :: t => (unN a.toNat || (keep && reN a.toNat) || tripB (a :: t)) && uriB keep t
theorem uri_at {keep : Bool} {l : List UInt8} (h : uriB keep l = true) (i : Nat) (hi : i < l.length) : (unN l[i].toNat || (keep && reN l[i].toNat) || tripB (l.drop i)) = true := by
  induction l generalizing i with
  | nil => simp at hi
  | cons a t ih =>
    rw [uriB, Bool.and_eq_true] at h
    cases i with
    | zero => exact h.1
    | succ i => simpa using ih h.2 i (by simpa using hi)
theorem uri_byte {keep : Bool} {a : UInt8} {t : List UInt8} (h : stayB keep a = true) : uriB keep (a :: t) = uriB keep t := by
  unfold stayB at h
  rw [uriB, h]
  rfl
theorem uri_hex {keep : Bool} {a : UInt8} {t : List UInt8} (h : hexB a = true) : uriB keep (a :: t) = uriB keep t := by
  rw [uriB, hex_un h]
  rfl
theorem uri_trip {keep : Bool} {b c : UInt8} {r : List UInt8} (hb : hexB b = true) (hc : hexB c = true) : uriB keep (37 :: b :: c :: r) = uriB keep r := by
  rw [uriB, trip_three, hb, hc, uri_hex hb, uri_hex hc]
  simp
theorem uri_piece (keep : Bool) (a : UInt8) (t : List UInt8) : uriB keep ((if stayB keep a then [a] else oneL a) ++ t) = uriB keep t := by
  split
  · rename_i h
    exact uri_byte h
  · obtain ⟨x, y, e, hx, hy, _, _, _⟩ := one_hex a
    rw [e]
    exact uri_trip hx hy
theorem enc_uri (keep : Bool) (s : List UInt8) : uriB keep (encL keep s) = true := by
  refine by_begin (P := fun s => uriB keep (encL keep s) = true) rfl ?_ ?_ s
  · intro b c r hb hc ih
    cases keep with
    | true => rw [enc_trip hb hc, uri_trip hb hc]; exact ih
    | false =>
      rw [enc_false_byte, uri_piece, enc_false_byte, uri_piece, enc_false_byte, uri_piece]
      exact ih
  · intro a t h ih
    rw [enc_byte (by rw [h]; simp), uri_piece]
    exact ih

theorem piece_len (keep : Bool) (a : UInt8) : 1 ≤ (if stayB keep a then [a] else oneL a).length ∧ (if stayB keep a then [a] else oneL a).length ≤ 3 := by
  split
  · simp
  · simp [oneL]
theorem enc_len (keep : Bool) (s : List UInt8) : s.length ≤ (encL keep s).length ∧ (encL keep s).length ≤ 3 * s.length := by
  refine by_begin (P := fun s => s.length ≤ (encL keep s).length ∧ (encL keep s).length ≤ 3 * s.length) (by simp [enc_nil]) ?_ ?_ s
  · intro b c r hb hc ih
    cases keep with
    | true => rw [enc_trip hb hc]; simp only [List.length_cons]; omega
    | false =>
      have h1 := piece_len false 37
      have h2 := piece_len false b
      have h3 := piece_len false c
      rw [enc_false_byte, enc_false_byte, enc_false_byte]
      simp only [List.length_append, List.length_cons]
      omega
  · intro a t h ih
    have h1 := piece_len keep a
    rw [enc_byte (by rw [h]; simp)]
    simp only [List.length_append, List.length_cons]
    omega

/-! ### Great letters -/
/-! ### One behind the other -/
theorem enc_joins (a b : List UInt8) : encL false (a ++ b) = encL false a ++ encL false b := by
  induction a with
  | nil => rfl
  | cons x t ih => rw [List.cons_append, enc_false_byte, enc_false_byte, ih, List.append_assoc]
end Go.Proofs.Ytpfcfadbilaleaa
/-
  PLAIN LEAN, no program in it: names of variables (layer 5), byte by byte: where one stands in a name; what follows.
-/
namespace Go.Proofs.Ytpfcfadbilaleaa

/-- a letter, a figure, or a low line -/
def wordN (n : Nat) : Bool := decide (48 ≤ n ∧ n ≤ 57 ∨ 65 ≤ n ∧ n ≤ 90 ∨ 97 ≤ n ∧ n ≤ 122 ∨ n = 95)
def wordB (c : UInt8) : Bool := wordN c.toNat
/-- where one stands: 0: at the begin, or behind a point; 1: behind a character; 2, 3: within a triplet, behind its first, its second byte; 4: there is no name -/
def stepN (q : Nat) (c : UInt8) : Nat :=
  if q = 2 then (if hexB c then 3 else 4) else if q = 3 then (if hexB c then 1 else 4) else if 4 ≤ q then 4
  else if wordB c then 1 else if c = 37 then 2 else if c = 46 ∧ q = 1 then 0 else 4
def runN (q : Nat) (l : List UInt8) : Nat := l.foldl stepN q
/-- a text is a name -/
def nameB (l : List UInt8) : Bool := decide (runN 0 l = 1)
/-- how many bytes one may go -/
def goN : Nat → List UInt8 → Nat
  | _, [] => 0
  | q, a :: t => if stepN q a = 4 then 0 else goN (stepN q a) t + 1
def badN (l : List UInt8) : Nat := goN 0 l
/-- the longest begin, of k bytes at most, that is a name -/
def endK (l : List UInt8) : Nat → Nat
  | 0 => 0
  | k + 1 => if nameB (l.take (k + 1)) then k + 1 else endK l k
def endN (l : List UInt8) : Nat := endK l l.length

theorem run_nil (q : Nat) : runN q [] = q := rfl
theorem run_cons (q : Nat) (a : UInt8) (t : List UInt8) : runN q (a :: t) = runN (stepN q a) t := rfl
theorem run_app (q : Nat) (a b : List UInt8) : runN q (a ++ b) = runN (runN q a) b := by unfold runN; rw [List.foldl_append]
theorem step_dead (c : UInt8) : stepN 4 c = 4 := by simp [stepN]
theorem run_dead (l : List UInt8) : runN 4 l = 4 := by
  induction l with
  | nil => rfl
  | cons a t ih => rw [run_cons, step_dead, ih]
/-! ### Step by step, by characters -/
theorem run_word {q : Nat} (hq : q ≤ 1) {a : UInt8} (h : wordB a = true) (t : List UInt8) : runN q (a :: t) = runN 1 t := by
  rw [run_cons]; unfold stepN
  rw [if_neg (by omega), if_neg (by omega), if_neg (by omega), if_pos h]
theorem run_trip {q : Nat} (hq : q ≤ 1) {b c : UInt8} (hb : hexB b = true) (hc : hexB c = true) (r : List UInt8) : runN q (37 :: b :: c :: r) = runN 1 r := by
  rw [run_cons, run_cons, run_cons]
  have h1 : stepN q 37 = 2 := by
    unfold stepN
    rw [if_neg (by omega), if_neg (by omega), if_neg (by omega), if_neg (by decide), if_pos rfl]
  have h2 : stepN 2 b = 3 := by simp [stepN, hb]
  have h3 : stepN 3 c = 1 := by simp [stepN, hc]
  rw [h1, h2, h3]
theorem run_point (t : List UInt8) : runN 1 (46 :: t) = runN 0 t ∧ runN 0 (46 :: t) = 4 := by
  constructor
  · rw [run_cons]; rfl
  · rw [run_cons]
    show runN 4 t = 4
    exact run_dead t
/-- a % that begins no triplet -/
theorem run_half {q : Nat} (hq : q ≤ 1) {t : List UInt8} (h : tripB (37 :: t) = false) : runN q (37 :: t) ≠ 1 := by
  rw [run_cons]
  have h1 : stepN q 37 = 2 := by
    unfold stepN
    rw [if_neg (by omega), if_neg (by omega), if_neg (by omega), if_neg (by decide), if_pos rfl]
  rw [h1]
  match t with
  | [] => decide
  | [b] =>
    rw [run_cons, run_nil]
    unfold stepN
    (repeat' split) <;> omega
  | b :: c :: r =>
    rw [trip_three] at h
    rw [run_cons, run_cons]
    cases hb : hexB b with
    | false =>
      have : stepN 2 b = 4 := by simp [stepN, hb]
      rw [this, step_dead, run_dead]; decide
    | true =>
      rw [hb] at h
      have h2 : stepN 2 b = 3 := by simp [stepN, hb]
      have h3 : stepN 3 c = 4 := by
        cases hc : hexB c with
        | false => simp [stepN, hc]
        | true => rw [hc] at h; cases h
      rw [h2, h3, run_dead]; decide
theorem run_other {q : Nat} (hq : q ≤ 1) {a : UInt8} (hw : wordB a = false) (h37 : a ≠ 37) (h46 : a ≠ 46 ∨ q = 0) (t : List UInt8) : runN q (a :: t) = 4 := by
  rw [run_cons]
  have : stepN q a = 4 := by
    unfold stepN
    rw [if_neg (by omega), if_neg (by omega), if_neg (by omega), if_neg (by rw [hw]; simp), if_neg h37, if_neg (by rintro ⟨h1, h2⟩; rcases h46 with h | h; exact h h1; omega)]
  rw [this, run_dead]

/-! ### Begins -/
/-! ### The longest name -/
theorem end_le (l : List UInt8) (k : Nat) : endK l k ≤ k := by
  induction k with
  | zero => exact Nat.le_refl _
  | succ k ih => unfold endK; split <;> omega
theorem end_name (l : List UInt8) (k : Nat) (h : endK l k ≠ 0) : nameB (l.take (endK l k)) = true := by
  induction k with
  | zero => exact absurd rfl h
  | succ k ih =>
    unfold endK at h ⊢
    split
    · rename_i hn; exact hn
    · rename_i hn
      rw [if_neg hn] at h
      exact ih h
theorem end_most (l : List UInt8) (k j : Nat) (hj : 1 ≤ j) (hjk : j ≤ k) (h : nameB (l.take j) = true) : j ≤ endK l k := by
  induction k with
  | zero => omega
  | succ k ih =>
    unfold endK
    split
    · omega
    · rename_i hn
      by_cases e : j = k + 1
      · subst e; exact absurd h hn
      · exact ih (by omega)
theorem name_run {l : List UInt8} : nameB l = true ↔ runN 0 l = 1 := by simp [nameB]
theorem name_ne {l : List UInt8} (h : nameB l = true) : l ≠ [] := by
  intro e; rw [e] at h; cases h
theorem end_whole (l : List UInt8) : nameB l = (decide (endN l = l.length) && decide (0 < endN l)) := by
  cases h : nameB l with
  | true =>
    have h1 : 1 ≤ l.length := by have := List.length_pos_iff.2 (name_ne h); omega
    have h2 := end_most l l.length l.length h1 (Nat.le_refl _) (by rw [List.take_length]; exact h)
    have h3 := end_le l l.length
    have h4 : endN l = l.length := by unfold endN; omega
    rw [h4]; simp; omega
  | false =>
    symm
    apply Classical.byContradiction
    intro hc
    simp at hc
    have h1 := end_name l l.length (by unfold endN at hc; omega)
    have h2 : endK l l.length = l.length := hc.1
    rw [h2, List.take_length, h] at h1
    cases h1
end Go.Proofs.Ytpfcfadbilaleaa
/-
  PLAIN LEAN, no program in it: names of variables (layer 5): joined, cut at their points, with other letters.
-/
namespace Go.Proofs.Ytpfcfadbilaleaa

/-- is what is left a name's end? -/
def mayS (behind : Bool) (l : List UInt8) : Bool := decide (runN (if behind then 1 else 0) l = 1)
theorem b_le (b : Bool) : (if b then 1 else 0) ≤ 1 := by cases b <;> decide
theorem mayS_nil (b : Bool) : mayS b [] = b := by cases b <;> rfl
theorem mayS_word (b : Bool) {a : UInt8} (h : wordB a = true) (t : List UInt8) : mayS b (a :: t) = mayS true t := by
  unfold mayS; rw [run_word (b_le b) h]; rfl
theorem mayS_trip (b : Bool) {x y : UInt8} (hx : hexB x = true) (hy : hexB y = true) (r : List UInt8) : mayS b (37 :: x :: y :: r) = mayS true r := by
  unfold mayS; rw [run_trip (b_le b) hx hy]; rfl
theorem mayS_point (t : List UInt8) : mayS true (46 :: t) = mayS false t ∧ mayS false (46 :: t) = false := by
  unfold mayS
  refine ⟨?_, ?_⟩
  · rw [if_pos rfl, (run_point t).1]; rfl
  · rw [if_neg (by simp), (run_point t).2]; rfl
theorem mayS_else (b : Bool) {a : UInt8} {t : List UInt8} (hw : wordB a = false) (ht : tripB (a :: t) = false) (h : a ≠ 46) : mayS b (a :: t) = false := by
  unfold mayS
  by_cases h37 : a = 37
  · subst h37
    rw [decide_eq_false_iff_not]
    exact run_half (b_le b) ht
  · rw [run_other (b_le b) hw h37 (.inl h)]; rfl

/-! ### Joined -/
/-! ### A byte that is none of a name's -/
/-! ### Other letters -/
/-! ### Cut at the points -/
end Go.Proofs.Ytpfcfadbilaleaa
/-
  PLAIN LEAN, no program in it: variables in expressions (layer 6): a name, a star, a prefix.
-/
namespace Go.Proofs.Ytpfcfadbilaleaa

/-! ### Figures -/
/-! ### The machine: 0 to 4 as a name's; 5: behind a star; 6: behind a colon; 7 to 10: behind so many figures -/
/-! ### Back, by the last byte -/
/-! ### A variable: its name, its prefix, its star -/
structure Sp where
  name : List UInt8
  max : Int
  star : Bool
def mayX (x : Sp) : Bool := nameB x.name && decide (0 ≤ x.max ∧ x.max ≤ 9999) && (!x.star || decide (x.max = 0))
theorem may_iff (x : Sp) : mayX x = true ↔ nameB x.name = true ∧ 0 ≤ x.max ∧ x.max ≤ 9999 ∧ (x.star = true → x.max = 0) := by
  unfold mayX
  cases x.star <;> simp [and_assoc]
end Go.Proofs.Ytpfcfadbilaleaa
/-
  PLAIN LEAN, no program in it: sets of bytes as four numbers of 64 bits.
-/
namespace Go.Proofs.YtpfcfadbilaleaaC

/-- four numbers -/
structure Q where
  a : Nat
  b : Nat
  c : Nat
  d : Nat

/-- each of 64 bits -/
def Q.ok (q : Q) : Prop := q.a < 18446744073709551616 ∧ q.b < 18446744073709551616 ∧ q.c < 18446744073709551616 ∧ q.d < 18446744073709551616
/-- the number of a place -/
def Q.word (q : Q) (i : Nat) : Nat := if i = 0 then q.a else if i = 1 then q.b else if i = 2 then q.c else q.d
/-- a byte is in a set -/
def Q.has (q : Q) (n : Nat) : Bool := (q.word (n / 64)).testBit (n % 64)

def zeroQ : Q := ⟨0, 0, 0, 0⟩
def orQ (q r : Q) : Q := ⟨q.a ||| r.a, q.b ||| r.b, q.c ||| r.c, q.d ||| r.d⟩
def notQ (q : Q) : Q := ⟨18446744073709551615 - q.a, 18446744073709551615 - q.b, 18446744073709551615 - q.c, 18446744073709551615 - q.d⟩
def oneQ (n : Nat) : Q := ⟨if n / 64 = 0 then 2 ^ (n % 64) else 0, if n / 64 = 1 then 2 ^ (n % 64) else 0, if n / 64 = 2 then 2 ^ (n % 64) else 0, if n / 64 = 3 then 2 ^ (n % 64) else 0⟩

theorem zero_ok : zeroQ.ok := by unfold Q.ok zeroQ; simp only; omega
theorem or_lt {x y : Nat} (hx : x < 18446744073709551616) (hy : y < 18446744073709551616) : x ||| y < 18446744073709551616 := Nat.or_lt_two_pow (n := 64) hx hy
theorem or_ok {q r : Q} (hq : q.ok) (hr : r.ok) : (orQ q r).ok := ⟨or_lt hq.1 hr.1, or_lt hq.2.1 hr.2.1, or_lt hq.2.2.1 hr.2.2.1, or_lt hq.2.2.2 hr.2.2.2⟩
theorem pow_lt (n : Nat) : 2 ^ (n % 64) < 18446744073709551616 := by
  have h : n % 64 < 64 := Nat.mod_lt _ (by decide)
  exact (Nat.pow_lt_pow_iff_right (a := 2) (by decide)).2 h
theorem one_ok (n : Nat) : (oneQ n).ok := by
  have h := pow_lt n
  unfold Q.ok oneQ
  simp only
  refine ⟨?_, ?_, ?_, ?_⟩ <;> split <;> omega

/-! ### Lists of bytes -/
def ofQ (l : List UInt8) : Q := l.foldl (fun s c => orQ s (oneQ c.toNat)) zeroQ
theorem of_snoc (l : List UInt8) (c : UInt8) : ofQ (l ++ [c]) = orQ (ofQ l) (oneQ c.toNat) := by unfold ofQ; rw [List.foldl_append]; rfl
theorem foldl_ok (l : List UInt8) (s : Q) (h : s.ok) : (l.foldl (fun s c => orQ s (oneQ c.toNat)) s).ok := by
  induction l generalizing s with
  | nil => exact h
  | cons c l ih => exact ih _ (or_ok h (one_ok _))
theorem of_ok (l : List UInt8) : (ofQ l).ok := foldl_ok l _ zero_ok
/-- all bytes from one number to another one, this one not -/
def upQ (lo hi : Nat) : Q := (List.range' lo (hi - lo)).foldl (fun s c => orQ s (oneQ c)) zeroQ
theorem up_nil (lo hi : Nat) (h : hi ≤ lo) : upQ lo hi = zeroQ := by
  unfold upQ; rw [show hi - lo = 0 by omega]; rfl
theorem up_snoc (lo hi : Nat) (h : lo ≤ hi) : upQ lo (hi + 1) = orQ (upQ lo hi) (oneQ hi) := by
  unfold upQ
  rw [show hi + 1 - lo = (hi - lo) + 1 by omega, List.range'_concat, List.foldl_append]
  simp
  rw [show lo + (hi - lo) = hi by omega]
theorem up_ok (lo hi : Nat) : (upQ lo hi).ok := by
  unfold upQ
  generalize hi - lo = k
  have : ∀ (l : List Nat) (s : Q), s.ok → (l.foldl (fun s c => orQ s (oneQ c)) s).ok := by
    intro l
    induction l with
    | nil => intro s h; exact h
    | cons c l ih => intro s h; exact ih _ (or_ok h (one_ok _))
  exact this _ _ zero_ok
/-! ### How many -/
/-! ### The laws of sets -/
theorem not_not (q : Q) (hq : q.ok) : notQ (notQ q) = q := by
  obtain ⟨h1, h2, h3, h4⟩ := hq
  cases q
  simp only [notQ, Q.mk.injEq] at *
  omega
theorem zero_or (q : Q) : orQ zeroQ q = q := by unfold orQ zeroQ; simp
end Go.Proofs.YtpfcfadbilaleaaC
/-
  PLAIN LEAN, no program in it: how bits.OnesCount64 counts.
-/
namespace Go.Proofs.YtpfcfadbilaleaaC

def f1 (m x : Nat) : Nat := (x / 2 &&& m) + (x &&& m)
def f2 (m x : Nat) : Nat := (x / 4 &&& m) + (x &&& m)
def f3 (m x : Nat) : Nat := (x / 16 + x) &&& m

theorem b1 : ∀ r : Fin 256, ∀ b : Fin 2, (r.val / 2 + 128 * b.val) &&& 85 = r.val / 2 &&& 85 := by decide +kernel
theorem b2 : ∀ r : Fin 256, ∀ b : Fin 4, (r.val / 4 + 64 * b.val) &&& 51 = r.val / 4 &&& 51 := by decide +kernel
theorem b3 : ∀ r : Fin 69, ∀ b : Fin 5, (r.val / 16 + 16 * b.val + r.val) &&& 15 = (r.val / 16 + r.val) &&& 15 := by decide +kernel

/-- of a byte -/
def g (r : Nat) : Nat := f2 51 (f1 85 r)
/-- a number of so many bytes -/
def val : List Nat → Nat
  | [] => 0
  | r :: l => r + 256 * val l
theorem val_div (r : Nat) (l : List Nat) (h : r < 256) : val (r :: l) / 256 = val l := by simp only [val]; omega
theorem val_lt (l : List Nat) (h : ∀ r ∈ l, r < 256) : val l < 256 ^ l.length := by
  induction l with
  | nil => decide
  | cons r l ih =>
    have h1 := h r (by simp)
    have h2 := ih (fun r hr => h r (by simp [hr]))
    rw [List.length_cons, Nat.pow_succ, val]
    omega
theorem last (p0 p1 p2 p3 p4 p5 p6 p7 x1 x2 x3 x4 : Nat) (h0 : p0 ≤ 8) (h1 : p1 ≤ 8) (h2 : p2 ≤ 8) (h3 : p3 ≤ 8) (h4 : p4 ≤ 8) (h5 : p5 ≤ 8) (h6 : p6 ≤ 8) (h7 : p7 ≤ 8)
    (e1 : x1 = val [p0, p1, p2, p3, p4, p5, p6, p7]) (e2 : x2 = x1 + x1 / 256) (e3 : x3 = x2 + x2 / 65536) (e4 : x4 = x3 + x3 / 4294967296) :
    x1 < 18446744073709551616 ∧ x2 < 18446744073709551616 ∧ x3 < 18446744073709551616 ∧ x4 < 18446744073709551616 ∧ x4 < 9223372036854775808 ∧ x4 % 128 = p0 + p1 + p2 + p3 + p4 + p5 + p6 + p7 := by
  have k2 : x2 = val [p0 + p1, p1 + p2, p2 + p3, p3 + p4, p4 + p5, p5 + p6, p6 + p7, p7] := by
    rw [e2, e1, val_div _ _ (by omega)]; simp only [val]; omega
  have k3 : x3 = val [p0 + p1 + (p2 + p3), p1 + p2 + (p3 + p4), p2 + p3 + (p4 + p5), p3 + p4 + (p5 + p6), p4 + p5 + (p6 + p7), p5 + p6 + p7, p6 + p7, p7] := by
    rw [e3, k2, show 65536 = 256 * 256 from rfl, ← Nat.div_div_eq_div_mul, val_div _ _ (by omega), val_div _ _ (by omega)]; simp only [val]; omega
  have k4 : x4 = val [p0 + p1 + (p2 + p3) + (p4 + p5 + (p6 + p7)), p1 + p2 + (p3 + p4) + (p5 + p6 + p7), p2 + p3 + (p4 + p5) + (p6 + p7), p3 + p4 + (p5 + p6) + p7, p4 + p5 + (p6 + p7), p5 + p6 + p7, p6 + p7, p7] := by
    rw [e4, k3, show 4294967296 = 256 * 256 * 256 * 256 from rfl, ← Nat.div_div_eq_div_mul, ← Nat.div_div_eq_div_mul, ← Nat.div_div_eq_div_mul, val_div _ _ (by omega), val_div _ _ (by omega), val_div _ _ (by omega), val_div _ _ (by omega)]; simp only [val]; omega
  have lt : ∀ l : List Nat, l.length = 8 → (∀ r ∈ l, r < 256) → val l < 18446744073709551616 := fun l hl h => by have := val_lt l h; rw [hl] at this; exact this
  refine ⟨?_, ?_, ?_, ?_, ?_, ?_⟩
  · rw [e1]; apply lt _ rfl; simp only [List.mem_cons, List.not_mem_nil, or_false, forall_eq_or_imp, forall_eq]; omega
  · rw [k2]; apply lt _ rfl; simp only [List.mem_cons, List.not_mem_nil, or_false, forall_eq_or_imp, forall_eq]; omega
  · rw [k3]; apply lt _ rfl; simp only [List.mem_cons, List.not_mem_nil, or_false, forall_eq_or_imp, forall_eq]; omega
  · rw [k4]; apply lt _ rfl; simp only [List.mem_cons, List.not_mem_nil, or_false, forall_eq_or_imp, forall_eq]; omega
  · rw [k4]; simp only [val]; omega
  · rw [k4, val]
    generalize val _ = z
    omega

end Go.Proofs.YtpfcfadbilaleaaC
/-
  PLAIN LEAN, no program in it: how far a text goes and where its longest name ends, told in one going over its characters.
-/
namespace Go.Proofs.Ytpfcfadbilaleaa

/-- where the longest name ends, from a place k of a text on, where q says where one stands, and e is the last end so far -/
def endS : Nat → Nat → Nat → List UInt8 → Nat
  | _, _, e, [] => e
  | q, k, e, a :: t => if stepN q a = 4 then e else endS (stepN q a) (k + 1) (if stepN q a = 1 then k + 1 else e) t

theorem endK_snoc_same (l : List UInt8) (n j : Nat) (h : ∀ i, j < i → i ≤ n → nameB (l.take i) = false) (hj : j ≤ n) : endK l n = endK l j := by
  induction n with
  | zero => have : j = 0 := by omega
            subst this; rfl
  | succ n ih =>
    by_cases e : j = n + 1
    · subst e; rfl
    · rw [endK, if_neg (by rw [h (n + 1) (by omega) (Nat.le_refl _)]; decide)]
      exact ih (fun i h1 h2 => h i h1 (by omega)) (by omega)
theorem name_dead (l : List UInt8) (k i : Nat) (h : runN 0 (l.take k) = 4) (hi : k ≤ i) : nameB (l.take i) = false := by
  have e : l.take i = l.take k ++ (l.drop k).take (i - k) := by
    have : i = k + (i - k) := by omega
    conv => lhs; rw [this]
    exact List.take_add
  rw [e, nameB, run_app, h, run_dead]; rfl
theorem endS_is (l : List UInt8) : ∀ (t : List UInt8) (k q : Nat), l.drop k = t → k ≤ l.length → runN 0 (l.take k) = q → endS q k (endK l k) t = endN l := by
  intro t
  induction t with
  | nil =>
    intro k q hd hk hq
    have : l.length ≤ k := by
      have := congrArg List.length hd
      simp at this; omega
    have : k = l.length := by omega
    subst this
    rfl
  | cons a t ih =>
    intro k q hd hk hq
    have hlt : k < l.length := by
      have := congrArg List.length hd
      simp at this; omega
    have ha : l[k] = a ∧ l.drop (k + 1) = t := by
      rw [List.drop_eq_getElem_cons hlt] at hd
      exact ⟨(List.cons.inj hd).1, (List.cons.inj hd).2⟩
    have htk : l.take (k + 1) = l.take k ++ [a] := by rw [List.take_succ_eq_append_getElem hlt, ha.1]
    have hr : runN 0 (l.take (k + 1)) = stepN q a := by rw [htk, run_app, hq]; rfl
    unfold endS
    split
    next h4 =>
      rw [h4] at hr
      show _ = endK l l.length
      exact (endK_snoc_same l l.length k (fun i h1 h2 => name_dead l (k + 1) i hr (by omega)) hk).symm
    next h4 =>
      have e2 : (if stepN q a = 1 then k + 1 else endK l k) = endK l (k + 1) := by
        rw [endK]
        unfold nameB
        rw [hr]
        by_cases h1 : stepN q a = 1 <;> simp [h1]
      rw [e2]
      exact ih (k + 1) (stepN q a) ha.2 hlt hr
theorem endS_end (l : List UInt8) : endS 0 0 0 l = endN l := endS_is l l 0 0 rfl (Nat.zero_le _) rfl

/-! ### By characters -/
theorem st_word {q : Nat} (hq : q ≤ 1) {a : UInt8} (h : wordB a = true) : stepN q a = 1 := by
  unfold stepN
  rw [if_neg (by omega), if_neg (by omega), if_neg (by omega), if_pos h]
theorem st_pct {q : Nat} (hq : q ≤ 1) : stepN q 37 = 2 := by
  unfold stepN
  rw [if_neg (by omega), if_neg (by omega), if_neg (by omega), if_neg (by decide), if_pos rfl]
theorem st_2 {b : UInt8} : stepN 2 b = if hexB b then 3 else 4 := by simp [stepN]
theorem st_3 {b : UInt8} : stepN 3 b = if hexB b then 1 else 4 := by simp [stepN]
theorem sc_word {q : Nat} (hq : q ≤ 1) (k e : Nat) {a : UInt8} (h : wordB a = true) (t : List UInt8) : goN q (a :: t) = goN 1 t + 1 ∧ endS q k e (a :: t) = endS 1 (k + 1) (k + 1) t := by
  constructor
  · simp [goN, st_word hq h]
  · simp [endS, st_word hq h]
theorem sc_trip {q : Nat} (hq : q ≤ 1) (k e : Nat) {b c : UInt8} (hb : hexB b = true) (hc : hexB c = true) (r : List UInt8) : goN q (37 :: b :: c :: r) = goN 1 r + 3 ∧ endS q k e (37 :: b :: c :: r) = endS 1 (k + 3) (k + 3) r := by
  constructor
  · simp [goN, st_pct hq, st_2, st_3, hb, hc]
  · simp [endS, st_pct hq, st_2, st_3, hb, hc]
theorem sc_point (k e : Nat) (t : List UInt8) : goN 1 (46 :: t) = goN 0 t + 1 ∧ endS 1 k e (46 :: t) = endS 0 (k + 1) e t := by
  have : stepN 1 46 = 0 := by decide
  constructor
  · simp [goN, this]
  · simp [endS, this]
/-- how many first bytes could begin a triplet -/
def brokN : List UInt8 → Nat
  | [] => 0
  | a :: t => if a ≠ 37 then 0 else match t with
    | [] => 1
    | b :: _ => if hexB b then 2 else 1
theorem sc_else {q : Nat} (hq : q ≤ 1) (k e : Nat) {a : UInt8} {t : List UInt8} (hw : wordB a = false) (ht : tripB (a :: t) = false) (h : a ≠ 46 ∨ q = 0) : goN q (a :: t) = brokN (a :: t) ∧ endS q k e (a :: t) = e := by
  by_cases h37 : a = 37
  · subst h37
    match t, ht with
    | [], _ => simp [goN, endS, brokN, st_pct hq]
    | [b], _ => by_cases hb : hexB b = true <;> simp [goN, endS, brokN, st_pct hq, st_2, hb]
    | b :: c :: r, ht =>
      by_cases hb : hexB b = true
      · have hc : hexB c = false := by
          have : tripB (37 :: b :: c :: r) = ((37 : UInt8) == 37 && hexN b.toNat && hexN c.toNat) := rfl
          rw [this] at ht
          have e1 : hexN b.toNat = true := hb
          rw [e1] at ht
          exact ht
        simp [goN, endS, brokN, st_pct hq, st_2, st_3, hb, hc]
      · simp [goN, endS, brokN, st_pct hq, st_2, hb]
  · have h4 : stepN q a = 4 := by
      unfold stepN
      rw [if_neg (by omega), if_neg (by omega), if_neg (by omega), if_neg (by rw [hw]; decide), if_neg h37, if_neg]
      rintro ⟨x, y⟩
      rcases h with h | h
      · exact h x
      · omega
    simp [goN, endS, brokN, h4, h37]

/-! ### Parts, cut at the points -/
end Go.Proofs.Ytpfcfadbilaleaa
