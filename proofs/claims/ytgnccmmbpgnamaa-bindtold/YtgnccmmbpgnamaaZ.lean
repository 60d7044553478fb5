/-
  PLAIN LEAN, no program in it: bytes as triplets (layer 3): encoded, decoded, in great letters; what follows.
-/
namespace Go.Proofs.Ytgnccmmbpgnamaa

/-- a byte's classes, by its number -/
def unN (n : Nat) : Bool := decide (48 ≤ n ∧ n ≤ 57 ∨ 65 ≤ n ∧ n ≤ 90 ∨ 97 ≤ n ∧ n ≤ 122 ∨ n = 45 ∨ n = 46 ∨ n = 95 ∨ n = 126)
def reN (n : Nat) : Bool := [58, 47, 63, 35, 91, 93, 64, 33, 36, 38, 39, 40, 41, 42, 43, 44, 59, 61].contains n
def hexN (n : Nat) : Bool := decide (48 ≤ n ∧ n ≤ 57 ∨ 65 ≤ n ∧ n ≤ 70 ∨ 97 ≤ n ∧ n ≤ 102)
/-- a digit's number -/
def digN (n : Nat) : Nat := if 48 ≤ n ∧ n ≤ 57 then n - 48 else if 65 ≤ n ∧ n ≤ 70 then n - 55 else if 97 ≤ n ∧ n ≤ 102 then n - 87 else 0
/-- a number's digit, in great letters -/
def upN (n : Nat) : Nat := if n < 10 then 48 + n else 55 + n
/-- a digit in great letters -/
def bigN (n : Nat) : Nat := if 97 ≤ n ∧ n ≤ 102 then n - 32 else n

def hexB (c : UInt8) : Bool := hexN c.toNat
def digV (c : UInt8) : Nat := digN c.toNat
def stayB (keep : Bool) (c : UInt8) : Bool := unN c.toNat || (keep && reN c.toNat)
def bigB (c : UInt8) : UInt8 := (bigN c.toNat).toUInt8
/-- a byte's triplet -/
def oneL (c : UInt8) : List UInt8 := [37, (upN (c.toNat / 16)).toUInt8, (upN (c.toNat % 16)).toUInt8]
/-- a text begins with a triplet -/
def tripB : List UInt8 → Bool
  | a :: b :: c :: _ => a == 37 && hexB b && hexB c
  | _ => false
/-- the byte that two digits are -/
def pairV (b c : UInt8) : UInt8 := (16 * digV b + digV c).toUInt8

/-- encoded: so many bytes more are taken as they are -/
def encS (keep : Bool) : Nat → List UInt8 → List UInt8
  | _, [] => []
  | k + 1, a :: t => a :: encS keep k t
  | 0, a :: t => if keep && tripB (a :: t) then a :: encS keep 2 t else (if stayB keep a then [a] else oneL a) ++ encS keep 0 t
def encL (keep : Bool) (l : List UInt8) : List UInt8 := encS keep 0 l
/-- decoded: 0: ahead of any byte; 1, 2: within a triplet, behind its first, its second byte -/
def decS : Nat → Nat → List UInt8 → Option (List UInt8)
  | 0, _, [] => some []
  | _ + 1, _, [] => none
  | 0, _, a :: t => if a = 37 then decS 1 0 t else (decS 0 0 t).map (a :: ·)
  | 1, _, a :: t => if hexB a then decS 2 (digV a) t else none
  | _ + 2, h, a :: t => if hexB a then (decS 0 0 t).map ((16 * h + digV a).toUInt8 :: ·) else none
def decL (l : List UInt8) : Option (List UInt8) := decS 0 0 l
/-- in great letters: so many bytes more are digits of a triplet -/
def normS : Nat → List UInt8 → List UInt8
  | _, [] => []
  | k + 1, a :: t => bigB a :: normS k t
  | 0, a :: t => if tripB (a :: t) then a :: normS 2 t else a :: normS 0 t
def normL (l : List UInt8) : List UInt8 := normS 0 l

/-! ### Bytes, one by one -/
theorem byte_fin : ∀ n : Fin 256, hexN (upN (n.val / 16)) = true ∧ hexN (upN (n.val % 16)) = true ∧ 16 * digN (upN (n.val / 16)) + digN (upN (n.val % 16)) = n.val ∧ upN (n.val / 16) < 256 ∧ upN (n.val % 16) < 256
    ∧ bigN (upN (n.val / 16)) = upN (n.val / 16) ∧ bigN (upN (n.val % 16)) = upN (n.val % 16) ∧ unN (upN (n.val / 16)) = true ∧ unN (upN (n.val % 16)) = true := by decide +kernel
theorem hex_fin0 : ∀ n : Fin 256, hexN n.val = true → unN n.val = true ∧ hexN (bigN n.val) = true ∧ digN (bigN n.val) = digN n.val ∧ bigN n.val < 256 ∧ bigN (bigN n.val) = bigN n.val ∧ digN n.val < 16 ∧ n.val ≠ 37 := by decide +kernel
theorem stay_fin0 : ∀ n : Fin 256, (unN n.val = true ∨ reN n.val = true) → n.val ≠ 37 := by decide +kernel

theorem u8_of (n : Nat) (h : n < 256) : (n.toUInt8).toNat = n := by simp; omega
theorem ne37 {c : UInt8} (h : c.toNat ≠ 37) : c ≠ 37 := fun e => h (by rw [e]; rfl)
theorem stay_ne {keep : Bool} {c : UInt8} (h : stayB keep c = true) : c ≠ 37 := by
  apply ne37
  apply stay_fin0 ⟨c.toNat, UInt8.toNat_lt c⟩
  unfold stayB at h
  simp at h
  rcases h with h | h
  · exact .inl h
  · exact .inr h.2
theorem hex_ne {c : UInt8} (h : hexB c = true) : c ≠ 37 := ne37 (hex_fin0 ⟨c.toNat, UInt8.toNat_lt c⟩ h).2.2.2.2.2.2
theorem hex_un {c : UInt8} (h : hexB c = true) : unN c.toNat = true := (hex_fin0 ⟨c.toNat, UInt8.toNat_lt c⟩ h).1
theorem hex_big {c : UInt8} (h : hexB c = true) : hexB (bigB c) = true ∧ digV (bigB c) = digV c ∧ bigB (bigB c) = bigB c := by
  obtain ⟨_, h2, h3, h4, h5, _, _⟩ := hex_fin0 ⟨c.toNat, UInt8.toNat_lt c⟩ h
  simp only at h2 h3 h4 h5
  unfold hexB digV bigB
  rw [u8_of _ h4, h5]
  exact ⟨h2, h3, rfl⟩
theorem one_hex (c : UInt8) : ∃ x y, oneL c = [37, x, y] ∧ hexB x = true ∧ hexB y = true ∧ pairV x y = c ∧ bigB x = x ∧ bigB y = y := by
  obtain ⟨h1, h2, h3, h4, h5, h6, h7, _, _⟩ := byte_fin ⟨c.toNat, UInt8.toNat_lt c⟩
  simp only at h1 h2 h3 h4 h5 h6 h7
  refine ⟨_, _, rfl, ?_, ?_, ?_, ?_, ?_⟩
  · unfold hexB; rw [u8_of _ h4]; exact h1
  · unfold hexB; rw [u8_of _ h5]; exact h2
  · unfold pairV digV; rw [u8_of _ h4, u8_of _ h5, h3]; simp
  · unfold bigB; rw [u8_of _ h4, h6]
  · unfold bigB; rw [u8_of _ h5, h7]

/-! ### Step by step -/
theorem trip_three (b c : UInt8) (r : List UInt8) : tripB (37 :: b :: c :: r) = (hexB b && hexB c) := by simp [tripB]
theorem trip_not {a : UInt8} (h : a ≠ 37) (t : List UInt8) : tripB (a :: t) = false := by
  match t with
  | [] => rfl
  | [_] => rfl
  | _ :: _ :: _ => simp [tripB, h]
/-- what a text that begins with a triplet is -/
theorem trip_is {l : List UInt8} (h : tripB l = true) : ∃ b c r, l = 37 :: b :: c :: r ∧ hexB b = true ∧ hexB c = true := by
  match l, h with
  | a :: b :: c :: r, h =>
    simp [tripB] at h
    exact ⟨b, c, r, by rw [h.1.1], h.1.2, h.2⟩

theorem enc_nil (keep : Bool) : encL keep [] = [] := rfl
theorem enc_trip {b c : UInt8} {r : List UInt8} (hb : hexB b = true) (hc : hexB c = true) : encL true (37 :: b :: c :: r) = 37 :: b :: c :: encL true r := by
  unfold encL
  rw [encS, trip_three, hb, hc]
  rfl
theorem enc_byte {keep : Bool} {a : UInt8} {t : List UInt8} (h : (keep && tripB (a :: t)) = false) : encL keep (a :: t) = (if stayB keep a then [a] else oneL a) ++ encL keep t := by
  unfold encL
  rw [encS, h]
  rfl
theorem dec_nil : decL [] = some [] := rfl
theorem dec_byte {a : UInt8} (h : a ≠ 37) (t : List UInt8) : decL (a :: t) = (decL t).map (a :: ·) := by
  unfold decL
  rw [decS, if_neg h]
theorem dec_trip {b c : UInt8} (hb : hexB b = true) (hc : hexB c = true) (r : List UInt8) : decL (37 :: b :: c :: r) = (decL r).map (pairV b c :: ·) := by
  unfold decL
  rw [decS, if_pos rfl, decS, if_pos hb, decS, if_pos hc]
  rfl
theorem dec_bad {t : List UInt8} (h : tripB (37 :: t) = false) : decL (37 :: t) = none := by
  unfold decL
  rw [decS, if_pos rfl]
  match t with
  | [] => rfl
  | [b] =>
    rw [decS]
    split <;> rfl
  | b :: c :: r =>
    rw [trip_three] at h
    rw [decS]
    split
    · rename_i hb
      rw [hb] at h
      rw [decS]
      split
      · rename_i hc
        rw [hc] at h
        cases h
      · rfl
    · rfl
theorem norm_nil : normL [] = [] := rfl
theorem norm_trip {b c : UInt8} {r : List UInt8} (hb : hexB b = true) (hc : hexB c = true) : normL (37 :: b :: c :: r) = 37 :: bigB b :: bigB c :: normL r := by
  unfold normL
  rw [normS, trip_three, hb, hc]
  rfl
theorem norm_byte {a : UInt8} {t : List UInt8} (h : tripB (a :: t) = false) : normL (a :: t) = a :: normL t := by
  unfold normL
  rw [normS, h]
  rfl

/-- by what a text begins with: nothing, a triplet, or another byte -/
theorem by_begin {P : List UInt8 → Prop} (h0 : P []) (h1 : ∀ b c r, hexB b = true → hexB c = true → P r → P (37 :: b :: c :: r)) (h2 : ∀ a t, tripB (a :: t) = false → P t → P (a :: t)) (l : List UInt8) : P l := by
  induction hn : l.length using Nat.strongRecOn generalizing l with
  | _ n ih =>
    match l with
    | [] => exact h0
    | a :: t =>
      cases hb : tripB (a :: t) with
      | false => exact h2 a t hb (ih t.length (by simp at hn; omega) t rfl)
      | true =>
        obtain ⟨b, c, r, e, hb', hc'⟩ := trip_is hb
        rw [e] at hn ⊢
        exact h1 b c r hb' hc' (ih r.length (by simp at hn; omega) r rfl)

/-! ### What follows -/
theorem enc_false_byte (a : UInt8) (t : List UInt8) : encL false (a :: t) = (if stayB false a then [a] else oneL a) ++ encL false t := enc_byte (by simp)
/-- a piece is decoded to its byte -/
theorem dec_piece (keep : Bool) (a : UInt8) (t : List UInt8) : decL ((if stayB keep a then [a] else oneL a) ++ t) = (decL t).map (a :: ·) := by
  split
  · rename_i h
    exact dec_byte (stay_ne h) t
  · obtain ⟨x, y, e, hx, hy, hp, _, _⟩ := one_hex a
    rw [e]
    show decL (37 :: x :: y :: t) = _
    rw [dec_trip hx hy, hp]
theorem back_false (s : List UInt8) : decL (encL false s) = some s := by
  induction s with
  | nil => rfl
  | cons a t ih => rw [enc_false_byte, dec_piece, ih]; rfl
/-- what is encoded with keep can be decoded -/
theorem back_true (s : List UInt8) : ∃ x, decL (encL true s) = some x ∧ ((∀ c ∈ s, c ≠ 37) → x = s) := by
  refine by_begin (P := fun s => ∃ x, decL (encL true s) = some x ∧ ((∀ c ∈ s, c ≠ 37) → x = s)) ⟨[], rfl, fun _ => rfl⟩ ?_ ?_ s
  · rintro b c r hb hc ⟨x, hx, _⟩
    rw [enc_trip hb hc, dec_trip hb hc, hx]
    exact ⟨_, rfl, fun h => absurd rfl (h 37 (by simp))⟩
  · rintro a t h ⟨x, hx, hp⟩
    rw [enc_byte (by rw [h]; rfl), dec_piece, hx]
    exact ⟨_, rfl, fun h => by rw [hp (fun c hc => h c (by simp [hc]))]⟩

/-- each byte may stand in a URI -/
def uriB (keep : Bool) : List UInt8 → Bool
  | [] => true
  | a :: t => (unN a.toNat || (keep && reN a.toNat) || tripB (a :: t)) && uriB keep t
theorem uri_at {keep : Bool} {l : List UInt8} (h : uriB keep l = true) (i : Nat) (hi : i < l.length) : (unN l[i].toNat || (keep && reN l[i].toNat) || tripB (l.drop i)) = true := by
  induction l generalizing i with
  | nil => simp at hi
  | cons a t ih =>
    rw [uriB, Bool.and_eq_true] at h
    cases i with
    | zero => exact h.1
    | succ i => simpa using ih h.2 i (by simpa using hi)
theorem uri_byte {keep : Bool} {a : UInt8} {t : List UInt8} (h : stayB keep a = true) : uriB keep (a :: t) = uriB keep t := by
  unfold stayB at h
  rw [uriB, h]
  rfl
theorem uri_hex {keep : Bool} {a : UInt8} {t : List UInt8} (h : hexB a = true) : uriB keep (a :: t) = uriB keep t := by
  rw [uriB, hex_un h]
  rfl
theorem uri_trip {keep : Bool} {b c : UInt8} {r : List UInt8} (hb : hexB b = true) (hc : hexB c = true) : uriB keep (37 :: b :: c :: r) = uriB keep r := by
  rw [uriB, trip_three, hb, hc, uri_hex hb, uri_hex hc]
  simp
theorem uri_piece (keep : Bool) (a : UInt8) (t : List UInt8) : uriB keep ((if stayB keep a then [a] else oneL a) ++ t) = uriB keep t := by
  split
  · rename_i h
    exact uri_byte h
  · obtain ⟨x, y, e, hx, hy, _, _, _⟩ := one_hex a
    rw [e]
    exact uri_trip hx hy
theorem enc_uri (keep : Bool) (s : List UInt8) : uriB keep (encL keep s) = true := by
  refine by_begin (P := fun s => uriB keep (encL keep s) = true) rfl ?_ ?_ s
  · intro b c r hb hc ih
    cases keep with
    | true => rw [enc_trip hb hc, uri_trip hb hc]; exact ih
    | false =>
      rw [enc_false_byte, uri_piece, enc_false_byte, uri_piece, enc_false_byte, uri_piece]
      exact ih
  · intro a t h ih
    rw [enc_byte (by rw [h]; simp), uri_piece]
    exact ih

/-- what is a piece is a piece again -/
theorem enc_piece (keep : Bool) (a : UInt8) (t : List UInt8) : encL true ((if stayB keep a then [a] else oneL a) ++ t) = (if stayB keep a then [a] else oneL a) ++ encL true t := by
  split
  · rename_i h
    show encL true (a :: t) = _
    have hs : stayB true a = true := by
      unfold stayB at h ⊢
      simp at h ⊢
      rcases h with h | h
      · exact .inl h
      · exact .inr h.2
    rw [enc_byte (by rw [trip_not (stay_ne h)]; rfl), hs]
    rfl
  · obtain ⟨x, y, e, hx, hy, _, _, _⟩ := one_hex a
    rw [e]
    exact enc_trip hx hy
theorem enc_again (keep : Bool) (s : List UInt8) : encL true (encL keep s) = encL keep s := by
  refine by_begin (P := fun s => encL true (encL keep s) = encL keep s) rfl ?_ ?_ s
  · intro b c r hb hc ih
    cases keep with
    | true => rw [enc_trip hb hc, enc_trip hb hc, ih]
    | false =>
      rw [enc_false_byte, enc_piece, enc_false_byte, enc_piece, enc_false_byte, enc_piece, ih]
  · intro a t h ih
    rw [enc_byte (by rw [h]; simp), enc_piece, ih]
theorem piece_len (keep : Bool) (a : UInt8) : 1 ≤ (if stayB keep a then [a] else oneL a).length ∧ (if stayB keep a then [a] else oneL a).length ≤ 3 := by
  split
  · simp
  · simp [oneL]
theorem enc_len (keep : Bool) (s : List UInt8) : s.length ≤ (encL keep s).length ∧ (encL keep s).length ≤ 3 * s.length := by
  refine by_begin (P := fun s => s.length ≤ (encL keep s).length ∧ (encL keep s).length ≤ 3 * s.length) (by simp [enc_nil]) ?_ ?_ s
  · intro b c r hb hc ih
    cases keep with
    | true => rw [enc_trip hb hc]; simp only [List.length_cons]; omega
    | false =>
      have h1 := piece_len false 37
      have h2 := piece_len false b
      have h3 := piece_len false c
      rw [enc_false_byte, enc_false_byte, enc_false_byte]
      simp only [List.length_append, List.length_cons]
      omega
  · intro a t h ih
    have h1 := piece_len keep a
    rw [enc_byte (by rw [h]; simp)]
    simp only [List.length_append, List.length_cons]
    omega

/-! ### Great letters -/
theorem norm_len (s : List UInt8) : (normL s).length = s.length := by
  refine by_begin (P := fun s => (normL s).length = s.length) rfl ?_ ?_ s
  · intro b c r hb hc ih
    rw [norm_trip hb hc]; simp [ih]
  · intro a t h ih
    rw [norm_byte h]; simp [ih]
/-- a triplet begins where one began -/
theorem norm_head (t : List UInt8) : (normL t).head? = t.head? := by
  refine by_begin (P := fun t => (normL t).head? = t.head?) rfl ?_ ?_ t
  · intro b c r hb hc _; rw [norm_trip hb hc]; rfl
  · intro a t h _; rw [norm_byte h]; rfl
theorem head_one {l m : List UInt8} (h : l.head? = m.head?) : (l = [] ∧ m = []) ∨ ∃ a x y, l = a :: x ∧ m = a :: y := by
  cases l <;> cases m <;> simp at h
  · exact .inl ⟨rfl, rfl⟩
  · subst h; exact .inr ⟨_, _, _, rfl, rfl⟩
theorem trip_norm (t : List UInt8) : tripB (37 :: normL t) = tripB (37 :: t) := by
  match t with
  | [] => rfl
  | b :: t' =>
    cases hb : tripB (b :: t') with
    | true =>
      obtain ⟨x, y, r, e, hx, hy⟩ := trip_is hb
      rw [e, norm_trip hx hy, trip_three, trip_three]
      rfl
    | false =>
      rw [norm_byte hb]
      rcases head_one (norm_head t') with ⟨h1, h2⟩ | ⟨a, x, y, h1, h2⟩
      · rw [h1, h2]
      · rw [h1, h2, trip_three, trip_three]
theorem trip_norm' (a : UInt8) (t : List UInt8) : tripB (a :: normL t) = tripB (a :: t) := by
  by_cases h : a = 37
  · subst h; exact trip_norm t
  · rw [trip_not h, trip_not h]
theorem norm_again (s : List UInt8) : normL (normL s) = normL s := by
  refine by_begin (P := fun s => normL (normL s) = normL s) rfl ?_ ?_ s
  · intro b c r hb hc ih
    obtain ⟨h1, _, h3⟩ := hex_big hb
    obtain ⟨g1, _, g3⟩ := hex_big hc
    rw [norm_trip hb hc, norm_trip h1 g1, h3, g3, ih]
  · intro a t h ih
    rw [norm_byte h, norm_byte (by rw [trip_norm']; exact h), ih]
theorem dec_norm (s : List UInt8) : decL (normL s) = decL s := by
  refine by_begin (P := fun s => decL (normL s) = decL s) rfl ?_ ?_ s
  · intro b c r hb hc ih
    obtain ⟨h1, h2, _⟩ := hex_big hb
    obtain ⟨g1, g2, _⟩ := hex_big hc
    rw [norm_trip hb hc, dec_trip h1 g1, dec_trip hb hc, ih]
    unfold pairV
    rw [h2, g2]
  · intro a t h ih
    rw [norm_byte h]
    by_cases ha : a = 37
    · subst ha
      rw [dec_bad h, dec_bad (by rw [trip_norm]; exact h)]
    · rw [dec_byte ha, dec_byte ha, ih]
theorem norm_piece (a : UInt8) (t : List UInt8) : normL ((if stayB false a then [a] else oneL a) ++ t) = (if stayB false a then [a] else oneL a) ++ normL t := by
  split
  · rename_i h
    exact norm_byte (trip_not (stay_ne h) t)
  · obtain ⟨x, y, e, hx, hy, _, bx, by'⟩ := one_hex a
    rw [e]
    show normL (37 :: x :: y :: t) = _
    rw [norm_trip hx hy, bx, by']
    rfl
theorem norm_enc (s : List UInt8) : normL (encL false s) = encL false s := by
  induction s with
  | nil => rfl
  | cons a t ih => rw [enc_false_byte, norm_piece, ih]

/-! ### One behind the other -/
theorem enc_joins (a b : List UInt8) : encL false (a ++ b) = encL false a ++ encL false b := by
  induction a with
  | nil => rfl
  | cons x t ih => rw [List.cons_append, enc_false_byte, enc_false_byte, ih, List.append_assoc]
theorem dec_joins (a b x y : List UInt8) (hx : decL a = some x) (hy : decL b = some y) : decL (a ++ b) = some (x ++ y) := by
  refine by_begin (P := fun a => ∀ x, decL a = some x → decL (a ++ b) = some (x ++ y)) ?_ ?_ ?_ a x hx
  · intro x hx
    rw [dec_nil] at hx
    cases hx
    exact hy
  · intro c d r hc hd ih x hx
    rw [dec_trip hc hd] at hx
    cases hr : decL r with
    | none => rw [hr] at hx; cases hx
    | some z =>
      rw [hr] at hx
      cases hx
      show decL (37 :: c :: d :: (r ++ b)) = _
      rw [dec_trip hc hd, ih z hr]
      rfl
  · intro c t h ih x hx
    by_cases hc : c = 37
    · subst hc
      rw [dec_bad h] at hx
      cases hx
    · rw [dec_byte hc] at hx
      cases hr : decL t with
      | none => rw [hr] at hx; cases hx
      | some z =>
        rw [hr] at hx
        cases hx
        show decL (c :: (t ++ b)) = _
        rw [dec_byte hc, ih z hr]
        rfl
/-- what is decoded is no longer -/
theorem dec_len (s x : List UInt8) (h : decL s = some x) : x.length ≤ s.length := by
  refine by_begin (P := fun s => ∀ x, decL s = some x → x.length ≤ s.length) ?_ ?_ ?_ s x h
  · intro x hx
    rw [dec_nil] at hx
    cases hx
    simp
  · intro c d r hc hd ih x hx
    rw [dec_trip hc hd] at hx
    cases hr : decL r with
    | none => rw [hr] at hx; cases hx
    | some z =>
      rw [hr] at hx
      cases hx
      have := ih z hr
      simp
      omega
  · intro c t h ih x hx
    by_cases hc : c = 37
    · subst hc
      rw [dec_bad h] at hx
      cases hx
    · rw [dec_byte hc] at hx
      cases hr : decL t with
      | none => rw [hr] at hx; cases hx
      | some z =>
        rw [hr] at hx
        cases hx
        have := ih z hr
        simp
        omega
end Go.Proofs.Ytgnccmmbpgnamaa
