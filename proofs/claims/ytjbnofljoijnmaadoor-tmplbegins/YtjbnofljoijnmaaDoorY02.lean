/-
  Joined by program out of the texts T0 F2 T1 T2 T3 T4 T5 T6 T7.
-/
import Derived.Test.YtjbnofljoijnmaaDoorY01
import Derived.Test.YtjbnofljoijnmaaDoorX2
import Derived.Lib.IndexAny
/-
  PLAIN LEAN, no program in it: machines that eat a text byte by byte, their states whatever, one of them dead.
-/
namespace Go.Proofs.YtjbnofljoijnmaaDoor

def runS {σ : Type} (st : σ → UInt8 → σ) (q : σ) (l : List UInt8) : σ := l.foldl st q
/-- how many bytes one may go -/
def goS {σ : Type} [DecidableEq σ] (st : σ → UInt8 → σ) (d : σ) : σ → List UInt8 → Nat
  | _, [] => 0
  | q, a :: t => if st q a = d then 0 else goS st d (st q a) t + 1
section
set_option linter.unusedSectionVars false
variable {σ : Type} [DecidableEq σ] {st : σ → UInt8 → σ} {d : σ}
theorem runS_nil (q : σ) : runS st q [] = q := rfl
theorem runS_cons (q : σ) (a : UInt8) (t : List UInt8) : runS st q (a :: t) = runS st (st q a) t := rfl
theorem runS_app (q : σ) (a b : List UInt8) : runS st q (a ++ b) = runS st (runS st q a) b := by unfold runS; rw [List.foldl_append]
theorem runS_dead (hd : ∀ c, st d c = d) (l : List UInt8) : runS st d l = d := by
  induction l with
  | nil => rfl
  | cons a t ih => rw [runS_cons, hd, ih]
theorem goS_le (q : σ) (l : List UInt8) : goS st d q l ≤ l.length := by
  induction l generalizing q with
  | nil => simp [goS]
  | cons a t ih =>
    simp only [goS, List.length_cons]
    split
    · omega
    · have := ih (st q a); omega
theorem goS_iff (hd : ∀ c, st d c = d) (q : σ) (hq : q ≠ d) (l : List UInt8) (k : Nat) (hk : k ≤ l.length) : runS st q (l.take k) ≠ d ↔ k ≤ goS st d q l := by
  induction l generalizing q k with
  | nil => simp at hk; subst hk; simp [goS, runS_nil, hq]
  | cons a t ih =>
    cases k with
    | zero => simp [runS_nil, hq]
    | succ k =>
      simp only [List.take_succ_cons, runS_cons, goS]
      by_cases h : st q a = d
      · rw [h, runS_dead hd, if_pos rfl]; simp
      · rw [if_neg h, ih (st q a) h k (by simpa using hk)]; omega
theorem goS_all (hd : ∀ c, st d c = d) {q : σ} {l : List UInt8} (h : runS st q l ≠ d) : goS st d q l = l.length := by
  have hq : q ≠ d := by intro e; rw [e, runS_dead hd] at h; exact h rfl
  have h1 := goS_le (st := st) (d := d) q l
  have h2 := (goS_iff hd q hq l l.length (Nat.le_refl _)).1 (by rw [List.take_length]; exact h)
  omega
theorem goS_part (hd : ∀ c, st d c = d) {q : σ} (hq : q ≠ d) {l : List UInt8} (h : runS st q l = d) : goS st d q l < l.length := by
  have h1 := goS_le (st := st) (d := d) q l
  have h2 := (goS_iff hd q hq l l.length (Nat.le_refl _)).2
  rw [List.take_length] at h2
  apply Classical.byContradiction
  intro hn
  exact h2 (by omega) h
theorem goS_app (hd : ∀ c, st d c = d) {q : σ} {a : List UInt8} (b : List UInt8) (h : runS st q a ≠ d) : goS st d q (a ++ b) = a.length + goS st d (runS st q a) b := by
  induction a generalizing q with
  | nil => simp [runS_nil]
  | cons x t ih =>
    rw [runS_cons] at h ⊢
    have hx : st q x ≠ d := by intro e; rw [e, runS_dead hd] at h; exact h rfl
    simp only [List.cons_append, goS, List.length_cons]
    rw [if_neg hx, ih h]
    omega
theorem goS_take (hd : ∀ c, st d c = d) {q : σ} (hq : q ≠ d) (l : List UInt8) : goS st d q (l.take (goS st d q l)) = goS st d q l := by
  have h1 := (goS_iff hd q hq l _ (goS_le q l)).2 (Nat.le_refl _)
  rw [goS_all hd h1, List.length_take, Nat.min_eq_left (goS_le q l)]
theorem goS_more (hd : ∀ c, st d c = d) {q : σ} (hq : q ≠ d) (l m : List UInt8) (h : goS st d q l ≠ l.length) : goS st d q (l ++ m) = goS st d q l := by
  have hlt : goS st d q l < l.length := by have := goS_le (st := st) (d := d) q l; omega
  have h1 : goS st d q l ≤ goS st d q (l ++ m) := (goS_iff hd q hq (l ++ m) _ (by simp; omega)).1 (by
    rw [List.take_append_of_le_length (by omega)]
    exact (goS_iff hd q hq l _ (by omega)).2 (Nat.le_refl _))
  have h2 : ¬ goS st d q l + 1 ≤ goS st d q (l ++ m) := by
    intro h2
    have h3 := (goS_iff hd q hq (l ++ m) _ (by simp; omega)).2 h2
    rw [List.take_append_of_le_length (by omega)] at h3
    have := (goS_iff hd q hq l _ (by omega)).1 h3
    omega
  omega
end
end Go.Proofs.YtjbnofljoijnmaaDoor

/-
  PLAIN LEAN, no program in it: the character that may, with whose bytes a text begins.
-/
namespace Go.Proofs.YtjbnofljoijnmaaDoor
open Go.Lib YtjbnofljoijnmaaDooru

/-- the character that may, with whose bytes a text begins -/
def takeC (l : List UInt8) : Int := if firstN l = 0 ∨ mayU (firstC l) = false then 0 else firstC l
def takeN (l : List UInt8) : Nat := if firstN l = 0 ∨ mayU (firstC l) = false then 0 else firstN l
theorem take_enc {c : Int} (h : mayU c = true) (t : List UInt8) : takeN (encodeRune c ++ t) = (encodeRune c).length := by
  have hm := (mayU_may h).1
  have h1 : firstC (encodeRune c ++ t) = c ∧ firstN (encodeRune c ++ t) = (encodeRune c).length := by
    unfold firstC firstN
    have hn : ¬ (encodeRune c ++ t = [] ∨ badL (encodeRune c ++ t) = true) := by
      rw [not_bad_enc c hm t]
      intro e
      rcases e with e | e
      · exact enc_ne c (List.append_eq_nil_iff.1 e).1
      · cases e
    rw [if_neg hn, if_neg hn, dec_enc c hm t]
    have := (mayB_iff c).1 hm
    exact ⟨by show ((c.toNat : Nat) : Int) = c; omega, rfl⟩
  unfold takeN
  rw [h1.1, h1.2, if_neg]
  have := (YtjbnofljoijnmaaDooru.enc_len c).1
  intro e
  rcases e with e | e
  · omega
  · rw [h] at e; cases e
theorem take_pos {l : List UInt8} (h : takeN l ≠ 0) : ∃ c t, mayU c = true ∧ l = encodeRune c ++ t ∧ takeN l = (encodeRune c).length := by
  have h1 : ¬ (firstN l = 0 ∨ mayU (firstC l) = false) := by
    intro e; unfold takeN at h; rw [if_pos e] at h; exact h rfl
  have hf : firstN l ≠ 0 := fun e => h1 (.inl e)
  have hu : mayU (firstC l) = true := by
    cases hb : mayU (firstC l) with
    | true => rfl
    | false => exact absurd (.inr hb) h1
  have hn : ¬ (l = [] ∨ badL l = true) := by
    intro e; unfold firstN at hf; rw [if_pos e] at hf; exact hf rfl
  have hne : l ≠ [] := fun e => hn (.inl e)
  have hb : badL l = false := by
    cases hb : badL l with
    | false => rfl
    | true => exact absurd (.inr hb) hn
  have hc : firstC l = ((decodeL l).1 : Int) := by unfold firstC; rw [if_neg hn]
  obtain ⟨e1, e2⟩ := dec_good l hne hb
  rw [hc] at hu
  refine ⟨_, _, hu, e1, ?_⟩
  rw [e2]
  unfold takeN
  rw [if_neg h1]
  unfold firstN
  rw [if_neg hn]

end Go.Proofs.YtjbnofljoijnmaaDoor

/-
  PLAIN LEAN, no program in it: literals of templates, piece by piece.
-/
namespace Go.Proofs.YtjbnofljoijnmaaDoor
open Go.Lib YtjbnofljoijnmaaDooru

def litN (n : Nat) : Bool := decide (33 ≤ n ∧ n ≤ 126) && ![34, 39, 37, 60, 62, 92, 94, 96, 123, 124, 125].contains n
def litB (c : UInt8) : Bool := litN c.toNat
/-- an operator, none excepted -/
def opN (n : Nat) : Bool := [43, 35, 46, 47, 59, 63, 38].contains n
def opB (c : UInt8) : Bool := opN c.toNat
/-- how many bytes the piece of a literal has with which a text begins -/
def pieceL : List UInt8 → Nat
  | [] => 0
  | a :: t => if litB a then 1 else if tripB (a :: t) then 3 else takeN (a :: t)
theorem piece_cons (a : UInt8) (t : List UInt8) : pieceL (a :: t) = if litB a then 1 else if tripB (a :: t) then 3 else takeN (a :: t) := rfl
/-- a piece -/
def Pc (p : List UInt8) : Prop := (∃ a, p = [a] ∧ litB a = true) ∨ (∃ b c, p = [37, b, c] ∧ hexB b = true ∧ hexB c = true) ∨ (∃ c, mayU c = true ∧ p = encodeRune c)
theorem enc_head {c : Int} (h : mayU c = true) : ∃ a t, encodeRune c = a :: t ∧ 194 ≤ a.toNat ∧ a.toNat ≤ 244 ∧ t ≠ [] := by
  have hm := mayU_may h
  obtain ⟨x, rfl, hx, e | ⟨h1, h2, e⟩ | ⟨h1, h2, e⟩ | ⟨h1, e⟩⟩ := enc_shape c hm.1
  · omega
  · exact ⟨_, _, e, by rw [u8 _ (by omega)]; omega, by rw [u8 _ (by omega)]; omega, by simp⟩
  · exact ⟨_, _, e, by rw [u8 _ (by omega)]; omega, by rw [u8 _ (by omega)]; omega, by simp⟩
  · exact ⟨_, _, e, by rw [u8 _ (by omega)]; omega, by rw [u8 _ (by omega)]; omega, by simp⟩
theorem lit_fin : ∀ n : Fin 256, (litN n.val = true → 33 ≤ n.val ∧ n.val ≤ 126 ∧ n.val ≠ 37 ∧ n.val ≠ 123 ∧ n.val ≠ 125) := by decide +kernel
theorem lit_not {a : UInt8} (h : 127 ≤ a.toNat ∨ a = 37 ∨ a = 123 ∨ a = 125) : litB a = false := by
  cases hl : litB a with
  | false => rfl
  | true =>
    have := lit_fin ⟨a.toNat, UInt8.toNat_lt a⟩ hl
    simp only at this
    rcases h with h | h | h | h
    · omega
    · rw [h] at this; simp at this
    · rw [h] at this; simp at this
    · rw [h] at this; simp at this
theorem take_small {a : UInt8} (t : List UInt8) (h : a.toNat < 194) : takeN (a :: t) = 0 := by
  apply Classical.byContradiction
  intro hn
  obtain ⟨c, r, hc, e, _⟩ := take_pos hn
  obtain ⟨b, u, e2, h1, _, _⟩ := enc_head hc
  rw [e2] at e
  have := (List.cons.inj e).1
  rw [this] at h
  omega
theorem trip_of {b c : UInt8} (hb : hexB b = true) (hc : hexB c = true) (r : List UInt8) : tripB (37 :: b :: c :: r) = true := by
  show ((37 : UInt8) == 37 && hexN b.toNat && hexN c.toNat) = true
  have e1 : hexN b.toNat = true := hb
  have e2 : hexN c.toNat = true := hc
  rw [e1, e2]; rfl
theorem trip_to {l : List UInt8} (h : tripB l = true) : ∃ b c r, l = 37 :: b :: c :: r ∧ hexB b = true ∧ hexB c = true := by
  match l, h with
  | a :: b :: c :: r, h =>
    have : tripB (a :: b :: c :: r) = (a == 37 && hexN b.toNat && hexN c.toNat) := rfl
    rw [this] at h
    simp only [Bool.and_eq_true, beq_iff_eq] at h
    exact ⟨b, c, r, by rw [h.1.1], h.1.2, h.2⟩
theorem pc_ne {p : List UInt8} (h : Pc p) : p ≠ [] := by
  rcases h with ⟨a, rfl, _⟩ | ⟨b, c, rfl, _, _⟩ | ⟨c, _, rfl⟩
  · simp
  · simp
  · exact enc_ne c
theorem piece_of {p : List UInt8} (h : Pc p) (r : List UInt8) : pieceL (p ++ r) = p.length := by
  rcases h with ⟨a, rfl, h⟩ | ⟨b, c, rfl, hb, hc⟩ | ⟨c, hc, rfl⟩
  · simp [pieceL, h]
  · show (if litB 37 then 1 else if tripB (37 :: b :: c :: r) then 3 else takeN (37 :: b :: c :: r)) = 3
    rw [if_neg (by decide), if_pos (trip_of hb hc r)]
  · obtain ⟨a, t, e, h1, h2, _⟩ := enc_head hc
    have ht := take_enc hc r
    rw [e] at ht ⊢
    show (if litB a then 1 else if tripB (a :: (t ++ r)) then 3 else takeN (a :: (t ++ r))) = _
    rw [if_neg (by rw [lit_not (.inl (by omega))]; decide), if_neg, ← ht]
    · rfl
    · intro hh
      obtain ⟨b, c', r', e', _, _⟩ := trip_to hh
      have := (List.cons.inj e').1
      rw [this] at h1
      simp at h1
theorem piece_to {l : List UInt8} (h : pieceL l ≠ 0) : ∃ p r, Pc p ∧ l = p ++ r ∧ pieceL l = p.length := by
  match l, h with
  | a :: t, h =>
    rw [piece_cons] at h ⊢
    by_cases h1 : litB a = true
    · rw [if_pos h1] at h ⊢
      exact ⟨[a], t, .inl ⟨a, rfl, h1⟩, rfl, rfl⟩
    · rw [if_neg h1] at h ⊢
      by_cases h2 : tripB (a :: t) = true
      · rw [if_pos h2]
        obtain ⟨b, c, r, e, hb, hc⟩ := trip_to h2
        exact ⟨[37, b, c], r, .inr (.inl ⟨b, c, rfl, hb, hc⟩), by rw [e]; rfl, rfl⟩
      · rw [if_neg h2] at h ⊢
        obtain ⟨c, r, hc, e, e2⟩ := take_pos h
        exact ⟨encodeRune c, r, .inr (.inr ⟨c, hc, rfl⟩), e, e2⟩
theorem piece_brace (t : List UInt8) : pieceL (123 :: t) = 0 := by
  rw [piece_cons]
  rw [if_neg (by decide), if_neg, take_small t (by decide)]
  intro h
  obtain ⟨b, c, r, e, _⟩ := trip_to h
  have := (List.cons.inj e).1
  exact absurd this (by decide)

/-- how many bytes of a text are pieces, one behind the other -/
def litF : Nat → List UInt8 → Nat
  | 0, _ => 0
  | f + 1, l => if pieceL l = 0 then 0 else pieceL l + litF f (l.drop (pieceL l))
def litLen (l : List UInt8) : Nat := litF l.length l
def literalB (l : List UInt8) : Bool := decide (l ≠ []) && decide (litLen l = l.length)
theorem litF_flat (r : List UInt8) (hr : pieceL r = 0) : ∀ (ps : List (List UInt8)) (f : Nat), (∀ p ∈ ps, Pc p) → ps.flatten.length ≤ f → litF f (ps.flatten ++ r) = ps.flatten.length := by
  intro ps
  induction ps with
  | nil =>
    intro f _ _
    cases f with
    | zero => rfl
    | succ f => simp [litF, hr]
  | cons p ps ih =>
    intro f hp hf
    have hpc := hp p (by simp)
    have hl : 1 ≤ p.length := by
      cases p with
      | nil => exact absurd rfl (pc_ne hpc)
      | cons a t => simp
    simp only [List.flatten_cons, List.length_append] at hf ⊢
    match f, hf with
    | f + 1, hf =>
      unfold litF
      rw [List.append_assoc, piece_of hpc, if_neg (by omega), List.drop_left, ih f (fun q hq => hp q (by simp [hq])) (by omega)]
    | 0, hf => omega
theorem litLen_flat {ps : List (List UInt8)} {r : List UInt8} (hp : ∀ p ∈ ps, Pc p) (hr : pieceL r = 0) : litLen (ps.flatten ++ r) = ps.flatten.length :=
  litF_flat r hr ps _ hp (by simp)
theorem lit_split (n : Nat) : ∀ l : List UInt8, l.length ≤ n → ∃ (ps : List (List UInt8)) (r : List UInt8), l = ps.flatten ++ r ∧ (∀ p ∈ ps, Pc p) ∧ pieceL r = 0 := by
  induction n with
  | zero =>
    intro l hl
    have : l = [] := List.eq_nil_of_length_eq_zero (by omega)
    subst this
    exact ⟨[], [], rfl, by simp, rfl⟩
  | succ n ih =>
    intro l hl
    by_cases h : pieceL l = 0
    · exact ⟨[], l, rfl, by simp, h⟩
    · obtain ⟨p, r, hp, e, _⟩ := piece_to h
      have h1 : 1 ≤ p.length := by
        cases p with
        | nil => exact absurd rfl (pc_ne hp)
        | cons a t => simp
      have h2 : r.length ≤ n := by rw [e] at hl; simp at hl; omega
      obtain ⟨ps, r2, e2, h3, h4⟩ := ih r h2
      refine ⟨p :: ps, r2, by rw [e, e2]; simp, ?_, h4⟩
      intro q hq
      rcases List.mem_cons.1 hq with h | h
      · rw [h]; exact hp
      · exact h3 q h
theorem litLen_split (l : List UInt8) : ∃ (ps : List (List UInt8)) (r : List UInt8), l = ps.flatten ++ r ∧ (∀ p ∈ ps, Pc p) ∧ pieceL r = 0 ∧ litLen l = ps.flatten.length := by
  obtain ⟨ps, r, e, h1, h2⟩ := lit_split l.length l (Nat.le_refl _)
  exact ⟨ps, r, e, h1, h2, by rw [e]; exact litLen_flat h1 h2⟩
theorem litLen_le (l : List UInt8) : litLen l ≤ l.length := by
  obtain ⟨ps, r, e, _, _, h⟩ := litLen_split l
  rw [h, e]; simp
theorem literal_iff (l : List UInt8) : literalB l = true ↔ ∃ ps : List (List UInt8), ps ≠ [] ∧ (∀ p ∈ ps, Pc p) ∧ l = ps.flatten := by
  constructor
  · intro h
    simp only [literalB, Bool.and_eq_true, decide_eq_true_eq] at h
    obtain ⟨ps, r, e, h1, h2, h3⟩ := litLen_split l
    have : r = [] := by
      have := congrArg List.length e
      rw [List.length_append] at this
      exact List.eq_nil_of_length_eq_zero (by omega)
    subst this
    rw [List.append_nil] at e
    refine ⟨ps, ?_, h1, e⟩
    intro hp
    subst hp
    exact h.1 e
  · rintro ⟨ps, hne, hp, rfl⟩
    simp only [literalB, Bool.and_eq_true, decide_eq_true_eq]
    constructor
    · intro e
      cases ps with
      | nil => exact hne rfl
      | cons p ps =>
        have := List.append_eq_nil_iff.1 (by simpa using e : p ++ ps.flatten = [])
        exact pc_ne (hp p (by simp)) this.1
    · have := litLen_flat (r := []) hp rfl
      simpa using this
/-- the pieces of a text go on one by one -/
theorem litLen_next {l : List UInt8} (h : pieceL l ≠ 0) : litLen l = pieceL l + litLen (l.drop (pieceL l)) := by
  obtain ⟨p, r, hp, e, e2⟩ := piece_to h
  obtain ⟨ps, r2, e3, h1, h2, h3⟩ := litLen_split r
  have : l.drop (pieceL l) = r := by rw [e2, e, List.drop_left]
  rw [this, e2, h3, e, e3, ← List.append_assoc]
  have hx : p ++ ps.flatten = (p :: ps).flatten := by simp
  rw [hx, litLen_flat (fun q hq => ?_) h2]
  · simp
  · rcases List.mem_cons.1 hq with h | h
    · rw [h]; exact hp
    · exact h1 q h
theorem litLen_zero {l : List UInt8} (h : pieceL l = 0) : litLen l = 0 := by
  have := litLen_flat (ps := []) (r := l) (by simp) h
  simpa using this
end Go.Proofs.YtjbnofljoijnmaaDoor

/-
  PLAIN LEAN, no program in it: templates: what may be, how it is written, how a text is read.
-/
namespace Go.Proofs.YtjbnofljoijnmaaDoor
open Go.Lib YtjbnofljoijnmaaDooru

/-- a part -/
structure Pt where
  lit : List UInt8
  op : UInt8
  specs : List Sp

def operB (c : UInt8) : Bool := c == 0 || opB c
def mayPt (x : Pt) : Bool := if x.specs.isEmpty then x.op == 0 && literalB x.lit else x.lit.isEmpty && operB x.op && x.specs.all mayX
def mayF : Bool → List Pt → Bool
  | _, [] => true
  | prev, x :: r => mayPt x && !(prev && x.specs.isEmpty) && mayF x.specs.isEmpty r
def mayT (ts : List Pt) : Bool := mayF false ts

/-- with commas between -/
def joinC : List (List UInt8) → List UInt8
  | [] => []
  | [p] => p
  | p :: q :: r => p ++ 44 :: joinC (q :: r)
def opL (c : UInt8) : List UInt8 := if c = 0 then [] else [c]
def bodyL (x : Pt) : List UInt8 := opL x.op ++ joinC (x.specs.map putL)
def putPt (x : Pt) : List UInt8 := x.lit ++ if x.specs.isEmpty then [] else 123 :: (bodyL x ++ [125])
def putF (ts : List Pt) : List UInt8 := (ts.map putPt).flatten
def putT (ts : List Pt) : List UInt8 := if mayT ts then putF ts else []

/-- pieces between commas; one: what stands there of the piece already -/
def goC : List UInt8 → List UInt8 → List (List UInt8)
  | one, [] => [one]
  | one, a :: t => if a = 44 then one :: goC [] t else goC (one ++ [a]) t
theorem goC_cons (one : List UInt8) (a : UInt8) (t : List UInt8) : goC one (a :: t) = if a = 44 then one :: goC [] t else goC (one ++ [a]) t := rfl
def headOp : List UInt8 → UInt8 × List UInt8
  | [] => (0, [])
  | a :: t => if opB a then (a, t) else (0, a :: t)
theorem headOp_cons (a : UInt8) (t : List UInt8) : headOp (a :: t) = if opB a then (a, t) else (0, a :: t) := rfl
def insT (l : List UInt8) : Option Pt :=
  if (goC [] (headOp l).2).all isX then some ⟨[], (headOp l).1, (goC [] (headOp l).2).map specX⟩ else none
/-- how many bytes stand ahead of the first brace that shuts -/
def shutN (l : List UInt8) : Nat := (l.takeWhile (· ≠ 125)).length
def isF : Nat → List UInt8 → Option (List Pt)
  | _, [] => some []
  | 0, _ :: _ => none
  | f + 1, a :: t =>
    if a = 123 then (if shutN t < t.length then (insT (t.take (shutN t))).bind fun x => (isF f (t.drop (shutN t + 1))).map (x :: ·) else none)
    else if litLen (a :: t) = 0 then none else (isF f ((a :: t).drop (litLen (a :: t)))).map (⟨(a :: t).take (litLen (a :: t)), 0, []⟩ :: ·)
def isT (l : List UInt8) : Option (List Pt) := isF l.length l

/-! ### Fuel -/
theorem isF_more : ∀ (f g : Nat) (l : List UInt8), l.length ≤ f → l.length ≤ g → isF f l = isF g l := by
  intro f
  induction f with
  | zero =>
    intro g l h _
    have : l = [] := List.eq_nil_of_length_eq_zero (by omega)
    subst this
    cases g <;> rfl
  | succ f ih =>
    intro g l h1 h2
    match l, g, h1, h2 with
    | [], 0, _, _ => rfl
    | [], g + 1, _, _ => rfl
    | a :: t, g + 1, h1, h2 =>
      simp only [List.length_cons] at h1 h2
      unfold isF
      by_cases ha : a = 123
      · rw [if_pos ha, if_pos ha]
        by_cases hs : shutN t < t.length
        · rw [if_pos hs, if_pos hs, ih g (t.drop (shutN t + 1)) (by rw [List.length_drop]; omega) (by rw [List.length_drop]; omega)]
        · rw [if_neg hs, if_neg hs]
      · rw [if_neg ha, if_neg ha]
        by_cases hl : litLen (a :: t) = 0
        · rw [if_pos hl, if_pos hl]
        · rw [if_neg hl, if_neg hl, ih g ((a :: t).drop (litLen (a :: t))) (by rw [List.length_drop, List.length_cons]; omega) (by rw [List.length_drop, List.length_cons]; omega)]
    | a :: t, 0, _, h2 => simp at h2
theorem isT_nil : isT [] = some [] := rfl
theorem isT_brace (t : List UInt8) : isT (123 :: t) = if shutN t < t.length then (insT (t.take (shutN t))).bind fun x => (isT (t.drop (shutN t + 1))).map (x :: ·) else none := by
  show isF (t.length + 1) (123 :: t) = _
  unfold isF isT
  rw [if_pos rfl]
  by_cases hs : shutN t < t.length
  · rw [if_pos hs, if_pos hs, isF_more t.length (t.drop (shutN t + 1)).length _ (by rw [List.length_drop]; omega) (Nat.le_refl _)]
  · rw [if_neg hs, if_neg hs]
theorem isT_lit {l : List UInt8} (hne : l ≠ []) (hb : ∀ t, l ≠ 123 :: t) : isT l = if litLen l = 0 then none else (isT (l.drop (litLen l))).map (⟨l.take (litLen l), 0, []⟩ :: ·) := by
  match l, hne, hb with
  | a :: t, _, hb =>
    have ha : a ≠ 123 := fun e => hb t (by rw [e])
    show isF (t.length + 1) (a :: t) = _
    unfold isF isT
    rw [if_neg ha]
    by_cases hl : litLen (a :: t) = 0
    · rw [if_pos hl, if_pos hl]
    · rw [if_neg hl, if_neg hl, isF_more t.length ((a :: t).drop (litLen (a :: t))).length _ (by rw [List.length_drop, List.length_cons]; omega) (Nat.le_refl _)]

/-! ### Commas -/
theorem goC_free {p : List UInt8} (h : 44 ∉ p) : ∀ one, goC one p = [one ++ p] := by
  induction p with
  | nil => intro one; simp [goC]
  | cons a t ih =>
    intro one
    have ha : a ≠ 44 := fun e => h (by rw [e]; simp)
    unfold goC
    rw [if_neg ha, ih (fun hm => h (by simp [hm]))]
    simp
theorem goC_comma {p : List UInt8} (h : 44 ∉ p) (r : List UInt8) : ∀ one, goC one (p ++ 44 :: r) = (one ++ p) :: goC [] r := by
  induction p with
  | nil => intro one; simp [goC]
  | cons a t ih =>
    intro one
    have ha : a ≠ 44 := fun e => h (by rw [e]; simp)
    show goC one (a :: (t ++ 44 :: r)) = _
    rw [goC_cons, if_neg ha, ih (fun hm => h (by simp [hm]))]
    simp
theorem goC_join : ∀ (ps : List (List UInt8)), ps ≠ [] → (∀ p ∈ ps, 44 ∉ p) → goC [] (joinC ps) = ps := by
  intro ps
  induction ps with
  | nil => intro h; exact absurd rfl h
  | cons p r ih =>
    intro _ hp
    cases r with
    | nil =>
      show goC [] p = [p]
      rw [goC_free (hp p (by simp))]; rfl
    | cons q r =>
      show goC [] (p ++ 44 :: joinC (q :: r)) = _
      rw [goC_comma (hp p (by simp)), ih (by simp) (fun x hx => hp x (by simp [List.mem_cons.1 hx]))]
      rfl
theorem goC_ne (one l : List UInt8) : goC one l ≠ [] := by
  induction l generalizing one with
  | nil => simp [goC]
  | cons a t ih =>
    unfold goC
    split
    · simp
    · exact ih _
theorem join_goC : ∀ (l one : List UInt8), joinC (goC one l) = one ++ l := by
  intro l
  induction l with
  | nil => intro one; simp [goC, joinC]
  | cons a t ih =>
    intro one
    unfold goC
    by_cases ha : a = 44
    · rw [if_pos ha]
      obtain ⟨q, r, e⟩ : ∃ q r, goC [] t = q :: r := by
        cases h : goC [] t with
        | nil => exact absurd h (goC_ne _ _)
        | cons q r => exact ⟨q, r, rfl⟩
      have := ih []
      rw [e] at this ⊢
      show one ++ 44 :: joinC (q :: r) = _
      rw [this, ha]; rfl
    · rw [if_neg ha, ih]; simp

/-! ### What a variable's text has -/
theorem stepX_sep (q : Nat) (c : UInt8) (h : c = 44 ∨ c = 125 ∨ c = 123) : stepX q c = 4 := by
  have hn : stepN q c = 4 := by
    unfold stepN
    have h1 : hexB c = false := by rcases h with rfl | rfl | rfl <;> decide
    have h2 : wordB c = false := by rcases h with rfl | rfl | rfl <;> decide
    have h3 : c ≠ 37 := by rcases h with rfl | rfl | rfl <;> decide
    have h4 : c ≠ 46 := by rcases h with rfl | rfl | rfl <;> decide
    rw [h1, h2]
    simp [h3, h4]
  have h5 : ¬ (48 ≤ c.toNat ∧ c.toNat ≤ 57) := by rcases h with rfl | rfl | rfl <;> decide
  have h6 : ¬ (49 ≤ c.toNat ∧ c.toNat ≤ 57) := by rcases h with rfl | rfl | rfl <;> decide
  have h7 : ¬ (q = 1 ∧ c = 42) := by rintro ⟨_, e⟩; rcases h with rfl | rfl | rfl <;> exact absurd e (by decide)
  have h8 : ¬ (q = 1 ∧ c = 58) := by rintro ⟨_, e⟩; rcases h with rfl | rfl | rfl <;> exact absurd e (by decide)
  unfold stepX
  rw [if_neg h5, if_neg h6, if_neg h7, if_neg h8, hn]
  simp
theorem alive_free : ∀ (x : List UInt8) (q : Nat), runX q x ≠ 4 → ∀ c ∈ x, c ≠ 44 ∧ c ≠ 125 ∧ c ≠ 123 := by
  intro x
  induction x with
  | nil => intro q _ c hc; cases hc
  | cons a t ih =>
    intro q h c hc
    have h1 : runX q (a :: t) = runX (stepX q a) t := rfl
    have ha : ¬ (a = 44 ∨ a = 125 ∨ a = 123) := by
      intro e
      rw [h1, stepX_sep q a e] at h
      exact h (runM_dead stepX_dead t)
    rcases List.mem_cons.1 hc with e | e
    · rw [e]
      exact ⟨fun e => ha (.inl e), fun e => ha (.inr (.inl e)), fun e => ha (.inr (.inr e))⟩
    · exact ih _ (by rw [← h1]; exact h) c e
theorem acc_alive {q : Nat} (h : accX q = true) : q ≠ 4 := by
  intro e; rw [e] at h; exact absurd h (by decide)
theorem isX_free {x : List UInt8} (h : isX x = true) : 44 ∉ x ∧ 125 ∉ x ∧ 123 ∉ x ∧ x ≠ [] := by
  rw [is_run] at h
  have hf := alive_free x 0 (acc_alive h)
  refine ⟨fun hm => (hf _ hm).1 rfl, fun hm => (hf _ hm).2.1 rfl, fun hm => (hf _ hm).2.2 rfl, ?_⟩
  intro e; rw [e] at h; exact absurd h (by decide)
theorem op_fin : ∀ n : Fin 256, opN n.val = true → stepX 0 n.val.toUInt8 = 4 ∧ n.val ≠ 0 ∧ n.val ≠ 125 ∧ n.val ≠ 44 := by decide +kernel
theorem op_dead {a : UInt8} (h : opB a = true) : stepX 0 a = 4 ∧ a ≠ 0 ∧ a ≠ 125 ∧ a ≠ 44 := by
  have := op_fin ⟨a.toNat, UInt8.toNat_lt a⟩ h
  simp only at this
  have e : a.toNat.toUInt8 = a := by simp
  rw [e] at this
  refine ⟨this.1, ?_, ?_, ?_⟩
  · intro e; rw [e] at this; exact this.2.1 rfl
  · intro e; rw [e] at this; exact this.2.2.1 rfl
  · intro e; rw [e] at this; exact this.2.2.2 rfl
theorem isX_op {a : UInt8} {t : List UInt8} (h : isX (a :: t) = true) : opB a = false := by
  cases ho : opB a with
  | false => rfl
  | true =>
    rw [is_run] at h
    have h1 : runX 0 (a :: t) = runX (stepX 0 a) t := rfl
    rw [h1, (op_dead ho).1] at h
    have : runX 4 t = 4 := runM_dead stepX_dead t
    rw [this] at h
    exact absurd h (by decide)

/-! ### Expressions, there and back -/
theorem join_head {a : UInt8} {t l : List UInt8} {ps : List (List UInt8)} (h : joinC ((a :: t) :: ps) = l) : ∃ r, l = a :: r := by
  cases ps with
  | nil => exact ⟨t, h.symm⟩
  | cons q r => exact ⟨t ++ 44 :: joinC (q :: r), h.symm⟩
theorem body_head {x : Pt} (hne : x.specs ≠ []) (ho : operB x.op = true) (hs : x.specs.all mayX = true) : headOp (bodyL x) = (x.op, joinC (x.specs.map putL)) := by
  have hX : ∀ p ∈ x.specs.map putL, isX p = true := by
    intro p hp
    obtain ⟨y, hy, rfl⟩ := List.mem_map.1 hp
    exact is_put (List.all_eq_true.1 hs y hy)
  obtain ⟨y, r, e⟩ : ∃ y r, x.specs = y :: r := by
    cases h : x.specs with
    | nil => exact absurd h hne
    | cons y r => exact ⟨y, r, rfl⟩
  have hy : isX (putL y) = true := hX _ (by rw [e]; simp)
  unfold bodyL opL
  by_cases h0 : x.op = 0
  · rw [if_pos h0, List.nil_append, h0]
    obtain ⟨a, t, ea⟩ : ∃ a t, putL y = a :: t := by
      cases h : putL y with
      | nil => exact absurd h (isX_free hy).2.2.2
      | cons a t => exact ⟨a, t, rfl⟩
    obtain ⟨l, hl⟩ : ∃ l, joinC (x.specs.map putL) = l := ⟨_, rfl⟩
    have hl2 := hl
    rw [e, List.map_cons, ea] at hl2
    obtain ⟨r2, er⟩ := join_head hl2
    rw [hl, er, headOp_cons]
    rw [ea] at hy
    rw [if_neg (by rw [isX_op hy]; decide)]
  · rw [if_neg h0]
    have : opB x.op = true := by
      simp only [operB, Bool.or_eq_true, beq_iff_eq] at ho
      rcases ho with h | h
      · exact absurd h h0
      · exact h
    show headOp (x.op :: joinC (x.specs.map putL)) = _
    rw [headOp_cons, if_pos this]
theorem ins_body {x : Pt} (hne : x.specs ≠ []) (hl : x.lit = []) (ho : operB x.op = true) (hs : x.specs.all mayX = true) : insT (bodyL x) = some x := by
  have hX : ∀ p ∈ x.specs.map putL, isX p = true := by
    intro p hp
    obtain ⟨y, hy, rfl⟩ := List.mem_map.1 hp
    exact is_put (List.all_eq_true.1 hs y hy)
  have hg : goC [] (joinC (x.specs.map putL)) = x.specs.map putL := goC_join _ (by simpa using hne) (fun p hp => (isX_free (hX p hp)).1)
  unfold insT
  rw [body_head hne ho hs]
  simp only
  rw [hg, if_pos (List.all_eq_true.2 hX), List.map_map]
  have : x.specs.map (specX ∘ putL) = x.specs := by
    have h2 : ∀ y ∈ x.specs, (specX ∘ putL) y = y := fun y hy => (spec_put (List.all_eq_true.1 hs y hy)).1
    rw [List.map_congr_left h2]; simp
  rw [this, ← hl]
theorem body_ins {l : List UInt8} {x : Pt} (h : insT l = some x) : x.specs ≠ [] ∧ x.lit = [] ∧ operB x.op = true ∧ x.specs.all mayX = true ∧ bodyL x = l := by
  unfold insT at h
  split at h
  · rename_i hall
    cases h
    have hall2 := List.all_eq_true.1 hall
    refine ⟨?_, rfl, ?_, ?_, ?_⟩
    · simp only [ne_eq, List.map_eq_nil_iff]; exact goC_ne _ _
    · unfold headOp
      split
      · rfl
      · split
        · rename_i ho; simp [operB, ho]
        · rfl
    · rw [List.all_eq_true]
      intro y hy
      obtain ⟨p, hp, rfl⟩ := List.mem_map.1 hy
      exact ((is_iff p).1 (hall2 p hp)).2.1
    · unfold bodyL
      simp only [List.map_map]
      have : (goC [] (headOp l).2).map (putL ∘ specX) = goC [] (headOp l).2 := by
        have h2 : ∀ p ∈ goC [] (headOp l).2, (putL ∘ specX) p = p := fun p hp => ((is_iff p).1 (hall2 p hp)).2.2
        rw [List.map_congr_left h2]; simp
      rw [this, join_goC, List.nil_append]
      unfold headOp
      split
      · rfl
      · split
        · rename_i a t ho
          show opL a ++ t = a :: t
          unfold opL
          rw [if_neg (op_dead ho).2.1]; rfl
        · rfl
  · cases h
theorem body_shut {x : Pt} (ho : operB x.op = true) (hs : x.specs.all mayX = true) : 125 ∉ bodyL x := by
  have hj : ∀ ps : List (List UInt8), (∀ p ∈ ps, (125 : UInt8) ∉ p) → (125 : UInt8) ∉ joinC ps := by
    intro ps
    induction ps with
    | nil => intro _ h; cases h
    | cons p r ih =>
      intro hp
      cases r with
      | nil => exact hp p (by simp)
      | cons q r =>
        intro hm
        rcases List.mem_append.1 (show (125 : UInt8) ∈ p ++ 44 :: joinC (q :: r) from hm) with h | h
        · exact hp p (by simp) h
        · rcases List.mem_cons.1 h with h | h
          · exact absurd h (by decide)
          · exact ih (fun x hx => hp x (by simp [List.mem_cons.1 hx])) h
  intro hm
  rcases List.mem_append.1 hm with h | h
  · unfold opL at h
    split at h
    · cases h
    · rename_i h0
      simp only [List.mem_singleton] at h
      simp only [operB, Bool.or_eq_true, beq_iff_eq] at ho
      rcases ho with h1 | h1
      · exact h0 h1
      · exact (op_dead h1).2.2.1 h.symm
  · refine hj _ ?_ h
    intro p hp
    obtain ⟨y, hy, rfl⟩ := List.mem_map.1 hp
    exact (isX_free (is_put (List.all_eq_true.1 hs y hy))).2.1
theorem shut_app {b : List UInt8} (h : 125 ∉ b) (r : List UInt8) : shutN (b ++ 125 :: r) = b.length := by
  unfold shutN
  rw [List.takeWhile_append_of_pos (fun a ha => by simp; intro e; exact h (by rw [← e]; exact ha))]
  simp
theorem shut_split {t : List UInt8} (h : shutN t < t.length) : ∃ b r, t = b ++ 125 :: r ∧ 125 ∉ b ∧ shutN t = b.length := by
  induction t with
  | nil => simp [shutN] at h
  | cons a t ih =>
    by_cases ha : a = 125
    · subst ha
      exact ⟨[], t, rfl, by simp, by simp [shutN]⟩
    · have e : shutN (a :: t) = shutN t + 1 := by simp [shutN, ha]
      rw [e] at h
      obtain ⟨b, r, e1, e2, e3⟩ := ih (by simpa using h)
      refine ⟨a :: b, r, by rw [e1]; rfl, ?_, by rw [e, e3]; rfl⟩
      intro hm
      rcases List.mem_cons.1 hm with h | h
      · exact ha h.symm
      · exact e2 h

/-! ### Templates, there and back -/
theorem put_expr {x : Pt} (h : x.specs.isEmpty = false) (hm : mayPt x = true) : x.specs ≠ [] ∧ x.lit = [] ∧ operB x.op = true ∧ x.specs.all mayX = true ∧ putPt x = 123 :: (bodyL x ++ [125]) := by
  unfold mayPt at hm
  rw [if_neg (by rw [h]; decide)] at hm
  simp only [Bool.and_eq_true, List.isEmpty_iff] at hm
  refine ⟨?_, hm.1.1, hm.1.2, hm.2, ?_⟩
  · intro e; rw [e] at h; cases h
  · unfold putPt
    rw [if_neg (by rw [h]; decide), hm.1.1]; rfl
theorem put_lit {x : Pt} (h : x.specs.isEmpty = true) (hm : mayPt x = true) : x.specs = [] ∧ x.op = 0 ∧ literalB x.lit = true ∧ putPt x = x.lit := by
  unfold mayPt at hm
  rw [if_pos h] at hm
  simp only [Bool.and_eq_true, beq_iff_eq] at hm
  refine ⟨List.isEmpty_iff.1 h, hm.1, hm.2, ?_⟩
  unfold putPt
  rw [if_pos h]; simp
/-- what stands behind a literal begins with a brace, or is empty -/
theorem put_stop {ts : List Pt} (h : mayF true ts = true) : pieceL (putF ts) = 0 := by
  cases ts with
  | nil => rfl
  | cons x r =>
    simp only [mayF, Bool.and_eq_true, Bool.not_eq_true', Bool.true_and] at h
    obtain ⟨_, _, _, _, e⟩ := put_expr h.1.2 h.1.1
    show pieceL (putPt x ++ putF r) = 0
    rw [e]
    exact piece_brace _
theorem literal_head {l : List UInt8} (h : literalB l = true) : l ≠ [] ∧ ∀ t, l ≠ 123 :: t := by
  obtain ⟨ps, hne, hp, e⟩ := (literal_iff l).1 h
  have h1 : l ≠ [] := by
    intro e2
    simp [literalB, e2] at h
  refine ⟨h1, ?_⟩
  intro t e2
  cases ps with
  | nil => exact hne rfl
  | cons p ps =>
    have := piece_of (hp p (by simp)) (ps.flatten)
    have e3 : p ++ ps.flatten = 123 :: t := by rw [← e2, e]; simp
    rw [e3, piece_brace] at this
    exact pc_ne (hp p (by simp)) (List.eq_nil_of_length_eq_zero this.symm)
theorem is_putF : ∀ (ts : List Pt) (prev : Bool), mayF prev ts = true → isT (putF ts) = some ts := by
  intro ts
  induction ts with
  | nil => intro _ _; rfl
  | cons x r ih =>
    intro prev h
    simp only [mayF, Bool.and_eq_true] at h
    have hr := ih _ h.2
    cases hx : x.specs.isEmpty with
    | false =>
      obtain ⟨hne, hl, ho, hs, e⟩ := put_expr hx h.1.1
      show isT (putPt x ++ putF r) = _
      have hsh := shut_app (body_shut ho hs) (putF r)
      have e2 : putPt x ++ putF r = 123 :: (bodyL x ++ 125 :: putF r) := by rw [e]; simp
      rw [e2, isT_brace, hsh, if_pos (by simp), List.take_left, ins_body hne hl ho hs]
      have e3 : (bodyL x ++ 125 :: putF r).drop ((bodyL x).length + 1) = putF r := by
        rw [List.drop_append]; simp
      rw [e3, hr]
      rfl
    | true =>
      obtain ⟨hs, ho, hl, e⟩ := put_lit hx h.1.1
      have hst := put_stop (by rw [hx] at h; exact h.2)
      show isT (putPt x ++ putF r) = _
      rw [e]
      obtain ⟨ps, hne, hp, ep⟩ := (literal_iff _).1 hl
      obtain ⟨hn1, hn2⟩ := literal_head hl
      have hlen : litLen (x.lit ++ putF r) = x.lit.length := by rw [ep]; exact litLen_flat hp hst
      have hpos : x.lit.length ≠ 0 := fun e => hn1 (List.eq_nil_of_length_eq_zero e)
      rw [isT_lit (by intro e; exact hn1 (List.append_eq_nil_iff.1 e).1) ?_, hlen, if_neg hpos, List.drop_left, hr, List.take_left]
      · show some (⟨x.lit, 0, []⟩ :: r) = some (x :: r)
        have : (⟨x.lit, 0, []⟩ : Pt) = x := by
          cases x; simp at hs ho; rw [hs, ho]
        rw [this]
      · intro t et
        cases hxl : x.lit with
        | nil => exact hn1 hxl
        | cons a u =>
          rw [hxl] at et
          have ea : a = 123 := (List.cons.inj et).1
          exact hn2 u (by rw [hxl, ea])
theorem is_putT {ts : List Pt} (h : mayT ts = true) : isT (putT ts) = some ts := by
  unfold putT
  rw [if_pos h]
  exact is_putF ts false h
end Go.Proofs.YtjbnofljoijnmaaDoor

/-
  PLAIN LEAN, no program in it: what is read is written so; templates one behind the other; their variables.
-/
namespace Go.Proofs.YtjbnofljoijnmaaDoor
open Go.Lib YtjbnofljoijnmaaDooru

theorem put_litl (l : List UInt8) (rs : List Pt) : putF (⟨l, 0, []⟩ :: rs) = l ++ putF rs := by
  have : putPt ⟨l, 0, []⟩ = l := by simp [putPt]
  show putPt ⟨l, 0, []⟩ ++ putF rs = _
  rw [this]
theorem put_isN (n : Nat) : ∀ (l : List UInt8), l.length ≤ n → ∀ ts, isT l = some ts → putF ts = l ∧ mayF false ts = true ∧ (pieceL l = 0 → mayF true ts = true) := by
  induction n with
  | zero =>
    intro l hl ts h
    have : l = [] := List.eq_nil_of_length_eq_zero (by omega)
    subst this
    cases h
    exact ⟨rfl, rfl, fun _ => rfl⟩
  | succ n ih =>
    intro l hl ts h
    match l, hl, h with
    | [], _, h =>
      cases h
      exact ⟨rfl, rfl, fun _ => rfl⟩
    | a :: t, hl, h =>
      by_cases ha : a = 123
      · subst ha
        rw [isT_brace] at h
        split at h
        · rename_i hs
          obtain ⟨b, r, e1, e2, e3⟩ := shut_split hs
          have e4 : t.take (shutN t) = b := by rw [e3, e1, List.take_left]
          have e5 : t.drop (shutN t + 1) = r := by rw [e3, e1, List.drop_append]; simp
          rw [e4, e5] at h
          cases hb : insT b with
          | none => rw [hb] at h; cases h
          | some x =>
            rw [hb] at h
            cases hr : isT r with
            | none => rw [hr] at h; cases h
            | some rs =>
              rw [hr] at h
              cases h
              obtain ⟨h1, h2, h3, h4, h5⟩ := body_ins hb
              have hlr : r.length ≤ n := by rw [e1] at hl; simp at hl; omega
              obtain ⟨k1, k2, _⟩ := ih r hlr rs hr
              have hne : x.specs.isEmpty = false := by
                cases hx : x.specs with
                | nil => exact absurd hx h1
                | cons y z => rfl
              have hm : mayPt x = true := by
                unfold mayPt
                rw [if_neg (by rw [hne]; decide), h2, h3, h4]; rfl
              refine ⟨?_, ?_, fun _ => ?_⟩
              · show putPt x ++ putF rs = _
                rw [(put_expr hne hm).2.2.2.2, h5, k1, e1]; simp
              · simp [mayF, hm, hne, k2]
              · simp [mayF, hm, hne, k2]
        · cases h
      · have hb : ∀ u, a :: t ≠ 123 :: u := fun u e => ha (List.cons.inj e).1
        rw [isT_lit (by simp) hb] at h
        split at h
        · cases h
        · rename_i h0
          obtain ⟨ps, r, e1, e2, e3, e4⟩ := litLen_split (a :: t)
          have e5 : (a :: t).take (litLen (a :: t)) = ps.flatten := by rw [e4, e1, List.take_left]
          have e6 : (a :: t).drop (litLen (a :: t)) = r := by rw [e4, e1, List.drop_left]
          rw [e5, e6] at h
          cases hr : isT r with
          | none => rw [hr] at h; cases h
          | some rs =>
            rw [hr] at h
            cases h
            have hlr : r.length ≤ n := by
              have := congrArg List.length e1
              rw [List.length_append] at this
              omega
            obtain ⟨k1, _, k3⟩ := ih r hlr rs hr
            have hlit : literalB ps.flatten = true := by
              rw [literal_iff]
              refine ⟨ps, ?_, e2, rfl⟩
              intro e
              rw [e] at e4
              exact h0 e4
            refine ⟨?_, ?_, ?_⟩
            · show putF (⟨ps.flatten, 0, []⟩ :: rs) = _
              rw [put_litl, k1, e1]
            · simp [mayF, mayPt, hlit, k3 e3]
            · intro h1
              exact absurd (litLen_zero h1) h0
theorem put_is {l : List UInt8} {ts : List Pt} (h : isT l = some ts) : mayT ts = true ∧ putT ts = l := by
  obtain ⟨h1, h2, _⟩ := put_isN l.length l (Nat.le_refl _) ts h
  exact ⟨h2, by unfold putT; rw [if_pos (show mayT ts = true from h2)]; exact h1⟩
theorem is_iffT (l : List UInt8) : (isT l).isSome = true ↔ ∃ ts, mayT ts = true ∧ putF ts = l := by
  constructor
  · intro h
    obtain ⟨ts, e⟩ := Option.isSome_iff_exists.1 h
    obtain ⟨h1, h2, _⟩ := put_isN l.length l (Nat.le_refl _) ts e
    exact ⟨ts, h2, h1⟩
  · rintro ⟨ts, h1, h2⟩
    rw [← h2, is_putF ts false h1]; rfl

/-! ### Variables -/
def varsT (ts : List Pt) : List (List UInt8) := ts.flatMap fun x => x.specs.map (·.name)
def addName (out : List (List UInt8)) (n : List UInt8) : List (List UInt8) := if out.contains n then out else out ++ [n]
def namesT (ts : List Pt) : List (List UInt8) := (varsT ts).foldl addName []
def manyT (ts : List Pt) : Nat := (varsT ts).length
def onceT (ts : List Pt) : Bool := decide ((namesT ts).length = manyT ts)

/-! ### One behind the other -/
def glue : List Pt → List Pt → List Pt
  | [], y => y
  | [p], [] => [p]
  | [p], q :: r => if p.specs.isEmpty && q.specs.isEmpty then ⟨p.lit ++ q.lit, 0, []⟩ :: r else p :: q :: r
  | p :: p2 :: x, y => p :: glue (p2 :: x) y
theorem literal_app {a b : List UInt8} (ha : literalB a = true) (hb : literalB b = true) : literalB (a ++ b) = true := by
  obtain ⟨ps, h1, h2, rfl⟩ := (literal_iff a).1 ha
  obtain ⟨qs, h3, h4, rfl⟩ := (literal_iff b).1 hb
  rw [literal_iff]
  refine ⟨ps ++ qs, by simp [h1], ?_, by simp⟩
  intro p hp
  rcases List.mem_append.1 hp with h | h
  · exact h2 p h
  · exact h4 p h
theorem may_weak {ts : List Pt} (h : mayF true ts = true) : mayF false ts = true := by
  cases ts with
  | nil => rfl
  | cons x r => simp [mayF] at h ⊢; exact ⟨h.1.1, h.2⟩
theorem glue_ok : ∀ (x y : List Pt) (prev : Bool), mayF prev x = true → mayF false y = true → (x = [] → mayF prev y = true) →
    mayF prev (glue x y) = true ∧ putF (glue x y) = putF x ++ putF y ∧ varsT (glue x y) = varsT x ++ varsT y := by
  intro x
  induction x with
  | nil =>
    intro y prev _ _ h3
    exact ⟨h3 rfl, rfl, rfl⟩
  | cons p x ih =>
    intro y prev h1 h2 _
    cases x with
    | nil =>
      cases y with
      | nil => exact ⟨h1, by simp [glue, putF], by simp [glue, varsT]⟩
      | cons q r =>
        simp only [mayF, Bool.and_eq_true, Bool.not_eq_true'] at h1 h2
        by_cases hb : p.specs.isEmpty && q.specs.isEmpty
        · have hb2 := hb
          rw [Bool.and_eq_true] at hb2
          obtain ⟨s1, s2, s3, s4⟩ := put_lit hb2.1 h1.1.1
          obtain ⟨t1, t2, t3, t4⟩ := put_lit hb2.2 h2.1.1
          have e : glue [p] (q :: r) = ⟨p.lit ++ q.lit, 0, []⟩ :: r := by simp only [glue]; rw [if_pos hb]
          rw [e]
          refine ⟨?_, ?_, ?_⟩
          · have hr := h2.2
            rw [hb2.2] at hr
            have hp := h1.1.2
            rw [hb2.1] at hp
            simp [mayF, mayPt, literal_app s3 t3, hr] at hp ⊢
            exact hp
          · show _ = (putPt p ++ []) ++ (putPt q ++ putF r)
            rw [put_litl, s4, t4]; simp
          · show ([] ++ varsT r) = (p.specs.map (·.name) ++ []) ++ (q.specs.map (·.name) ++ varsT r)
            rw [s1, t1]; simp
        · have e : glue [p] (q :: r) = p :: q :: r := by simp only [glue]; rw [if_neg hb]
          rw [e]
          refine ⟨?_, by simp [putF], by simp [varsT]⟩
          simp only [mayF, Bool.and_eq_true, Bool.not_eq_true']
          refine ⟨h1.1, ⟨h2.1.1, ?_⟩, h2.2⟩
          cases h : p.specs.isEmpty && q.specs.isEmpty with
          | true => exact absurd h hb
          | false => rfl
    | cons p2 x =>
      have h1' := h1
      rw [mayF, Bool.and_eq_true] at h1'
      have h := ih y p.specs.isEmpty h1'.2 h2 (fun e => by cases e)
      refine ⟨?_, ?_, ?_⟩
      · show (mayPt p && !(prev && p.specs.isEmpty) && mayF p.specs.isEmpty (glue (p2 :: x) y)) = true
        rw [h1'.1, h.1]; rfl
      · show putPt p ++ putF (glue (p2 :: x) y) = (putPt p ++ putF (p2 :: x)) ++ putF y
        rw [h.2.1]; simp
      · show p.specs.map (·.name) ++ varsT (glue (p2 :: x) y) = (p.specs.map (·.name) ++ varsT (p2 :: x)) ++ varsT y
        rw [h.2.2]; simp
theorem vars_app (x y : List Pt) : varsT (x ++ y) = varsT x ++ varsT y := by simp [varsT]
theorem is_joins {a b : List UInt8} {x y : List Pt} (ha : isT a = some x) (hb : isT b = some y) : ∃ z, isT (a ++ b) = some z ∧ namesT z = namesT (x ++ y) ∧ onceT z = onceT (x ++ y) := by
  obtain ⟨h1, h2, _⟩ := put_isN a.length a (Nat.le_refl _) x ha
  obtain ⟨k1, k2, _⟩ := put_isN b.length b (Nat.le_refl _) y hb
  obtain ⟨g1, g2, g3⟩ := glue_ok x y false h2 k2 (fun _ => k2)
  have hv : varsT (glue x y) = varsT (x ++ y) := by rw [g3, vars_app]
  refine ⟨glue x y, ?_, ?_, ?_⟩
  · rw [← h1, ← k1, ← g2]
    exact is_putF _ false g1
  · unfold namesT; rw [hv]
  · unfold onceT namesT manyT; rw [hv]
end Go.Proofs.YtjbnofljoijnmaaDoor

/-
  PLAIN LEAN, no program in it: the machine that eats templates.
-/
namespace Go.Proofs.YtjbnofljoijnmaaDoor
open Go.Lib YtjbnofljoijnmaaDooru

/-! (0, []): between pieces; (1, p): within a character, behind its bytes p; (2, []), (3, []): within a triplet; (4, []): behind a brace that opens; (5 + q, []): within a variable, at its machine's q; (9, []) is dead -/
def wholeB (p : List UInt8) : Bool := decide (takeN p = p.length)
def deadT : Nat × List UInt8 := (9, [])
def outT : Nat × List UInt8 := (0, [])
def stepT (s : Nat × List UInt8) (c : UInt8) : Nat × List UInt8 :=
  if s.1 = 0 then (if litB c then (0, []) else if c = 37 then (2, []) else if c = 123 then (4, []) else if fitB [c] then (1, [c]) else (9, []))
  else if s.1 = 1 then (if fitB (s.2 ++ [c]) then (if wholeB (s.2 ++ [c]) then (0, []) else (1, s.2 ++ [c])) else (9, []))
  else if s.1 = 2 then (if hexB c then (3, []) else (9, []))
  else if s.1 = 3 then (if hexB c then (0, []) else (9, []))
  else if s.1 = 4 ∧ opB c then (5, [])
  else if (c = 44 ∨ c = 125) ∧ accX (s.1 - 5) then (if c = 44 then (5, []) else (0, []))
  else (5 + stepX (s.1 - 5) c, [])
def runT (s : Nat × List UInt8) (l : List UInt8) : Nat × List UInt8 := runS stepT s l
def badT (l : List UInt8) : Nat := goS stepT deadT outT l
theorem stepT_dead (c : UInt8) : stepT deadT c = deadT := by
  unfold stepT deadT
  simp only
  rw [if_neg (by omega), if_neg (by omega), if_neg (by omega), if_neg (by omega), if_neg (by omega), if_neg]
  · rw [show 9 - 5 = 4 from rfl, stepX_dead]
  · rintro ⟨_, h⟩; exact absurd h (by decide)
theorem runT_dead (l : List UInt8) : runT deadT l = deadT := runS_dead stepT_dead l
theorem runT_app (s : Nat × List UInt8) (a b : List UInt8) : runT s (a ++ b) = runT (runT s a) b := runS_app s a b
theorem runT_cons (s : Nat × List UInt8) (a : UInt8) (t : List UInt8) : runT s (a :: t) = runT (stepT s a) t := rfl
theorem runT_alive {s : Nat × List UInt8} {a b : List UInt8} (h : runT s (a ++ b) ≠ deadT) : runT s a ≠ deadT := by
  intro e; rw [runT_app, e, runT_dead] at h; exact h rfl
theorem step0 (c : UInt8) : stepT outT c = if litB c then (0, []) else if c = 37 then (2, []) else if c = 123 then (4, []) else if fitB [c] then (1, [c]) else (9, []) := rfl
theorem step1 (p : List UInt8) (c : UInt8) : stepT (1, p) c = if fitB (p ++ [c]) then (if wholeB (p ++ [c]) then (0, []) else (1, p ++ [c])) else (9, []) := rfl
theorem step2 (c : UInt8) : stepT (2, []) c = if hexB c then (3, []) else (9, []) := rfl
theorem step3 (c : UInt8) : stepT (3, []) c = if hexB c then (0, []) else (9, []) := rfl
theorem step4 (c : UInt8) : stepT (4, []) c = if opB c then (5, []) else (5 + stepX 0 c, []) := by
  unfold stepT
  simp only
  rw [if_neg (by omega), if_neg (by omega), if_neg (by omega), if_neg (by omega)]
  by_cases h : opB c = true
  · rw [if_pos ⟨trivial, h⟩, if_pos h]
  · rw [if_neg (fun e => h e.2), if_neg h, if_neg]
    rintro ⟨_, h2⟩; exact absurd h2 (by decide)
theorem step5 (q : Nat) (c : UInt8) : stepT (5 + q, []) c = if (c = 44 ∨ c = 125) ∧ accX q then (if c = 44 then (5, []) else (0, [])) else (5 + stepX q c, []) := by
  unfold stepT
  simp only
  rw [if_neg (by omega), if_neg (by omega), if_neg (by omega), if_neg (by omega), if_neg (by omega), Nat.add_sub_cancel_left]

/-! ### A character -/
theorem whole_enc {c : Int} (h : mayU c = true) : wholeB (encodeRune c) = true := by
  have := take_enc h []
  rw [List.append_nil] at this
  simp [wholeB, this]
theorem whole_part {c : Int} (h : mayU c = true) {p t : List UInt8} (hp : p ≠ []) (ht : t ≠ []) (e : p ++ t = encodeRune c) : wholeB p = false := by
  cases hw : wholeB p with
  | false => rfl
  | true =>
    simp only [wholeB, decide_eq_true_eq] at hw
    have h0 : takeN p ≠ 0 := by
      rw [hw]; intro e; exact hp (List.eq_nil_of_length_eq_zero e)
    obtain ⟨d, r, hd, e2, e3⟩ := take_pos h0
    have : encodeRune d <+: encodeRune c := ⟨r ++ t, by rw [← e, e2]; simp⟩
    have := enc_pre (mayU_may hd).1 (mayU_may h).1 this
    subst this
    have e4 := congrArg List.length e
    rw [List.length_append, ← e3, hw] at e4
    exact absurd (List.eq_nil_of_length_eq_zero (by omega)) ht
theorem run_char {c : Int} (h : mayU c = true) : ∀ (t p : List UInt8), p ≠ [] → t ≠ [] → p ++ t = encodeRune c → runT (1, p) t = outT := by
  intro t
  induction t with
  | nil => intro p _ ht; exact absurd rfl ht
  | cons a t ih =>
    intro p hp _ e
    have e2 : (p ++ [a]) ++ t = encodeRune c := by rw [← e]; simp
    have hf : fitB (p ++ [a]) = true := fit_of h (by simp) ⟨t, e2⟩
    rw [runT_cons, step1, if_pos hf]
    cases t with
    | nil =>
      rw [List.append_nil] at e2
      rw [e2, if_pos (whole_enc h)]; rfl
    | cons b t =>
      rw [if_neg (by rw [whole_part h (by simp) (by simp) e2]; decide)]
      exact ih (p ++ [a]) (by simp) (by simp) e2
theorem run_enc {c : Int} (h : mayU c = true) : runT outT (encodeRune c) = outT := by
  obtain ⟨a, t, e, h1, h2, ht⟩ := enc_head h
  have hf : fitB [a] = true := fit_of h (by simp) ⟨t, by rw [e]; rfl⟩
  rw [e, runT_cons, step0, if_neg (by rw [lit_not (.inl (by omega))]; decide), if_neg (by intro e; rw [e] at h1; exact absurd h1 (by decide)), if_neg (by intro e; rw [e] at h1; exact absurd h1 (by decide)), if_pos hf]
  exact run_char h t [a] (by simp) ht (by rw [e]; rfl)
theorem run_pc {p : List UInt8} (h : Pc p) : runT outT p = outT := by
  rcases h with ⟨a, rfl, h⟩ | ⟨b, c, rfl, hb, hc⟩ | ⟨c, hc, rfl⟩
  · rw [runT_cons, step0, if_pos h]; rfl
  · rw [runT_cons, step0, if_neg (by decide), if_pos rfl, runT_cons, step2, if_pos hb, runT_cons, step3, if_pos hc]; rfl
  · exact run_enc hc
theorem run_pcs {ps : List (List UInt8)} (h : ∀ p ∈ ps, Pc p) : runT outT ps.flatten = outT := by
  induction ps with
  | nil => rfl
  | cons p ps ih =>
    rw [List.flatten_cons, runT_app, run_pc (h p (by simp))]
    exact ih fun q hq => h q (by simp [hq])
theorem run_literal {l : List UInt8} (h : literalB l = true) : runT outT l = outT := by
  obtain ⟨ps, _, hp, rfl⟩ := (literal_iff l).1 h
  exact run_pcs hp

/-! ### Expressions -/
theorem run_spec : ∀ (x : List UInt8) (q : Nat), runX q x ≠ 4 → runT (5 + q, []) x = (5 + runX q x, []) := by
  intro x
  induction x with
  | nil => intro q _; rfl
  | cons a t ih =>
    intro q h
    have h1 : runX q (a :: t) = runX (stepX q a) t := rfl
    have hf := alive_free (a :: t) q h a (by simp)
    rw [runT_cons, step5, if_neg (fun e => e.1.elim hf.1 hf.2.1), h1]
    exact ih _ (by rw [← h1]; exact h)
theorem run_join : ∀ (ps : List (List UInt8)), ps ≠ [] → (∀ p ∈ ps, isX p = true) → runT (5, []) (joinC ps ++ [125]) = outT := by
  intro ps
  induction ps with
  | nil => intro h; exact absurd rfl h
  | cons p r ih =>
    intro _ hp
    have ha := hp p (by simp)
    rw [is_run] at ha
    have hr := run_spec p 0 (acc_alive ha)
    cases r with
    | nil =>
      show runT (5, []) (p ++ [125]) = outT
      rw [runT_app, hr, runT_cons, step5, if_pos ⟨.inr rfl, ha⟩, if_neg (by decide)]; rfl
    | cons q r =>
      have e : joinC (p :: q :: r) ++ [125] = p ++ 44 :: (joinC (q :: r) ++ [125]) := by simp [joinC]
      rw [e, runT_app, hr, runT_cons, step5, if_pos ⟨.inl rfl, ha⟩, if_pos rfl]
      exact ih (by simp) (fun x hx => hp x (by simp [List.mem_cons.1 hx]))
theorem four_five {a : UInt8} {t : List UInt8} (h : opB a = false) : runT (4, []) (a :: t) = runT (5, []) (a :: t) := by
  rw [runT_cons, runT_cons, step4, if_neg (by rw [h]; decide)]
  have := step5 0 a
  rw [this, if_neg]
  rintro ⟨_, h2⟩; exact absurd h2 (by decide)
theorem run_expr {x : Pt} (h : x.specs.isEmpty = false) (hm : mayPt x = true) : runT outT (putPt x) = outT := by
  obtain ⟨hne, hl, ho, hs, e⟩ := put_expr h hm
  have hX : ∀ p ∈ x.specs.map putL, isX p = true := by
    intro p hp
    obtain ⟨y, hy, rfl⟩ := List.mem_map.1 hp
    exact is_put (List.all_eq_true.1 hs y hy)
  have hj := run_join (x.specs.map putL) (by simpa using hne) hX
  rw [e, runT_cons, step0, if_neg (by decide), if_neg (by decide), if_pos rfl]
  unfold bodyL opL
  by_cases h0 : x.op = 0
  · rw [if_pos h0, List.nil_append]
    have hb := body_head hne ho hs
    unfold bodyL opL at hb
    rw [if_pos h0, List.nil_append] at hb
    obtain ⟨l, hl2⟩ : ∃ l, joinC (x.specs.map putL) = l := ⟨_, rfl⟩
    rw [hl2] at hb hj ⊢
    cases l with
    | nil =>
      have : runT (5, []) [125] = outT := hj
      rw [runT_cons, step5 0 125, if_neg (by rintro ⟨_, h2⟩; exact absurd h2 (by decide)), stepX_sep 0 125 (.inr (.inl rfl))] at this
      exact absurd this (by decide)
    | cons a t =>
      rw [headOp_cons] at hb
      have hop : opB a = false := by
        cases hop : opB a with
        | false => rfl
        | true =>
          rw [if_pos hop] at hb
          have := (Prod.mk.inj hb).1
          rw [h0] at this
          exact absurd this (op_dead hop).2.1
      show runT (4, []) (a :: (t ++ [125])) = outT
      rw [four_five hop]
      exact hj
  · rw [if_neg h0]
    have hop : opB x.op = true := by
      simp only [operB, Bool.or_eq_true, beq_iff_eq] at ho
      rcases ho with h | h
      · exact absurd h h0
      · exact h
    show runT (4, []) (x.op :: (joinC (x.specs.map putL) ++ [125])) = outT
    rw [runT_cons, step4, if_pos hop]
    exact hj
theorem run_putT : ∀ (ts : List Pt) (prev : Bool), mayF prev ts = true → runT outT (putF ts) = outT := by
  intro ts
  induction ts with
  | nil => intro _ _; rfl
  | cons x r ih =>
    intro prev h
    simp only [mayF, Bool.and_eq_true] at h
    show runT outT (putPt x ++ putF r) = outT
    rw [runT_app]
    have hx : runT outT (putPt x) = outT := by
      cases hs : x.specs.isEmpty with
      | false => exact run_expr hs h.1.1
      | true =>
        obtain ⟨_, _, hl, e⟩ := put_lit hs h.1.1
        rw [e]
        exact run_literal hl
    rw [hx]
    exact ih _ h.2
end Go.Proofs.YtjbnofljoijnmaaDoor

/-
  PLAIN LEAN, no program in it: what the machine takes is a template; what it does not refuse begins one.
-/
namespace Go.Proofs.YtjbnofljoijnmaaDoor
open Go.Lib YtjbnofljoijnmaaDooru

theorem out_ne : outT ≠ deadT := by decide
/-! ### Taken apart -/
theorem run_split : ∀ (l : List UInt8) (q : Nat), runT (5 + q, []) l = outT → ∃ x c r, l = x ++ c :: r ∧ accX (runX q x) = true ∧ (c = 44 ∧ runT (5, []) r = outT ∨ c = 125 ∧ runT outT r = outT) := by
  intro l
  induction l with
  | nil =>
    intro q h
    have := congrArg Prod.fst (show (5 + q, ([] : List UInt8)) = (0, []) from h)
    simp at this
  | cons a t ih =>
    intro q h
    rw [runT_cons, step5] at h
    split at h
    · rename_i hc
      refine ⟨[], a, t, rfl, hc.2, ?_⟩
      by_cases h44 : a = 44
      · rw [if_pos h44] at h
        exact .inl ⟨h44, h⟩
      · rw [if_neg h44] at h
        exact .inr ⟨hc.1.resolve_left h44, h⟩
    · obtain ⟨x, c, r, e, h1, h2⟩ := ih _ h
      exact ⟨a :: x, c, r, by rw [e]; rfl, h1, h2⟩
theorem run_body (n : Nat) : ∀ l : List UInt8, l.length ≤ n → runT (5, []) l = outT → ∃ ps r, ps ≠ [] ∧ (∀ p ∈ ps, isX p = true) ∧ l = joinC ps ++ 125 :: r ∧ runT outT r = outT := by
  induction n with
  | zero =>
    intro l hl h
    have : l = [] := List.eq_nil_of_length_eq_zero (by omega)
    subst this
    exact absurd h (by decide)
  | succ n ih =>
    intro l hl h
    obtain ⟨x, c, r, e, h1, h2⟩ := run_split l 0 h
    have hx : isX x = true := by rw [is_run]; exact h1
    rcases h2 with ⟨rfl, h3⟩ | ⟨rfl, h3⟩
    · have hr : r.length ≤ n := by rw [e] at hl; simp at hl; omega
      obtain ⟨ps, r2, k1, k2, k3, k4⟩ := ih r hr h3
      obtain ⟨p, qs, ep⟩ : ∃ p qs, ps = p :: qs := by
        cases ps with
        | nil => exact absurd rfl k1
        | cons p qs => exact ⟨p, qs, rfl⟩
      refine ⟨x :: ps, r2, by simp, ?_, ?_, k4⟩
      · intro p hp
        rcases List.mem_cons.1 hp with h | h
        · rw [h]; exact hx
        · exact k2 p h
      · rw [e, k3, ep]
        simp [joinC]
    · exact ⟨[x], r, by simp, by intro p hp; rw [List.mem_singleton.1 hp]; exact hx, e, h3⟩
theorem run_open {l : List UInt8} (h : runT (4, []) l = outT) : ∃ x r, x.specs.isEmpty = false ∧ mayPt x = true ∧ 123 :: l = putPt x ++ r ∧ runT outT r = outT := by
  have key : ∀ (o : UInt8) (m : List UInt8), operB o = true → runT (5, []) m = outT → ∃ x r, x.specs.isEmpty = false ∧ mayPt x = true ∧ 123 :: (opL o ++ m) = putPt x ++ r ∧ runT outT r = outT := by
    intro o m ho hm
    obtain ⟨ps, r, k1, k2, k3, k4⟩ := run_body m.length m (Nat.le_refl _) hm
    have hs : (ps.map specX).isEmpty = false := by
      cases ps with
      | nil => exact absurd rfl k1
      | cons p q => rfl
    have hmap : (ps.map specX).map putL = ps := by
      rw [List.map_map]
      have h2 : ∀ p ∈ ps, (putL ∘ specX) p = p := fun p hp => ((is_iff p).1 (k2 p hp)).2.2
      rw [List.map_congr_left h2]; simp
    have hall : (ps.map specX).all mayX = true := by
      rw [List.all_eq_true]
      intro y hy
      obtain ⟨p, hp, rfl⟩ := List.mem_map.1 hy
      exact ((is_iff p).1 (k2 p hp)).2.1
    have hmay : mayPt ⟨[], o, ps.map specX⟩ = true := by
      unfold mayPt
      rw [if_neg (by show ¬ (ps.map specX).isEmpty = true; rw [hs]; decide)]
      show (true && operB o && (ps.map specX).all mayX) = true
      rw [ho, hall]; rfl
    refine ⟨⟨[], o, ps.map specX⟩, r, hs, hmay, ?_, k4⟩
    rw [(put_expr (x := ⟨[], o, ps.map specX⟩) hs hmay).2.2.2.2]
    unfold bodyL
    show 123 :: (opL o ++ m) = 123 :: (opL o ++ joinC ((ps.map specX).map putL) ++ [125]) ++ r
    rw [hmap, k3]; simp
  cases l with
  | nil => exact absurd h (by decide)
  | cons a t =>
    cases ho : opB a with
    | true =>
      rw [runT_cons, step4, if_pos ho] at h
      have := key a t (by simp [operB, ho]) h
      have e : opL a ++ t = a :: t := by unfold opL; rw [if_neg (op_dead ho).2.1]; rfl
      rw [e] at this
      exact this
    | false =>
      rw [four_five ho] at h
      have := key 0 (a :: t) (by decide) h
      exact this
theorem run_one {p t : List UInt8} (hp : p ≠ []) (h : runT (1, p) t = outT) : ∃ c r, mayU c = true ∧ p ++ t = encodeRune c ++ r ∧ p.length < (encodeRune c).length ∧ runT outT r = outT := by
  induction t generalizing p with
  | nil => exact absurd (congrArg Prod.fst (show ((1 : Nat), p) = (0, []) from h)) (by simp)
  | cons a t ih =>
    rw [runT_cons, step1] at h
    split at h
    · split at h
      · rename_i hf hw
        simp only [wholeB, decide_eq_true_eq] at hw
        have h0 : takeN (p ++ [a]) ≠ 0 := by rw [hw]; simp
        obtain ⟨c, r, hc, e1, e2⟩ := take_pos h0
        have : r = [] := by
          have := congrArg List.length e1
          rw [List.length_append (as := encodeRune c), ← e2, hw] at this
          exact List.eq_nil_of_length_eq_zero (by omega)
        subst this
        rw [List.append_nil] at e1
        refine ⟨c, t, hc, by rw [← e1]; simp, by rw [← e1]; simp, h⟩
      · obtain ⟨c, r, hc, e1, e2, e3⟩ := ih (p := p ++ [a]) (by simp) h
        refine ⟨c, r, hc, by rw [← e1]; simp, ?_, e3⟩
        simp at e2; omega
    · have : runT deadT t = outT := h
      rw [runT_dead] at this
      exact absurd this.symm out_ne
theorem dead_out {l : List UInt8} (h : runT (9, []) l = outT) : False := by
  have : runT deadT l = outT := h
  rw [runT_dead] at this
  exact absurd this.symm out_ne
/-- a piece ahead of a template is a template -/
theorem lit_ahead {p : List UInt8} (hp : Pc p) {ts : List Pt} (h : mayF false ts = true) : ∃ us, mayF false us = true ∧ putF us = p ++ putF ts := by
  have hl : literalB p = true := (literal_iff p).2 ⟨[p], by simp, by intro q hq; rw [List.mem_singleton.1 hq]; exact hp, by simp⟩
  have h1 : mayF false [⟨p, 0, []⟩] = true := by simp [mayF, mayPt, hl]
  obtain ⟨g1, g2, _⟩ := glue_ok [⟨p, 0, []⟩] ts false h1 h (fun e => by cases e)
  refine ⟨_, g1, ?_⟩
  rw [g2, put_litl]; simp [putF]
theorem run_isN (n : Nat) : ∀ l : List UInt8, l.length ≤ n → runT outT l = outT → ∃ ts, mayF false ts = true ∧ putF ts = l := by
  induction n with
  | zero =>
    intro l hl _
    have : l = [] := List.eq_nil_of_length_eq_zero (by omega)
    subst this
    exact ⟨[], rfl, rfl⟩
  | succ n ih =>
    intro l hl h
    cases l with
    | nil => exact ⟨[], rfl, rfl⟩
    | cons a t =>
      simp only [List.length_cons] at hl
      rw [runT_cons, step0] at h
      by_cases h1 : litB a = true
      · rw [if_pos h1] at h
        obtain ⟨ts, k1, k2⟩ := ih t (by omega) h
        obtain ⟨us, k3, k4⟩ := lit_ahead (.inl ⟨a, rfl, h1⟩ : Pc [a]) k1
        exact ⟨us, k3, by rw [k4, k2]; rfl⟩
      · rw [if_neg h1] at h
        by_cases h2 : a = 37
        · rw [if_pos h2] at h
          match t, h, hl with
          | [], h, _ => exact absurd h (by decide)
          | [b], h, _ =>
            rw [runT_cons, step2] at h
            split at h
            · exact absurd h (by decide)
            · exact (dead_out h).elim
          | b :: c :: r, h, hl =>
            rw [runT_cons, step2] at h
            split at h
            · rename_i hb
              rw [runT_cons, step3] at h
              split at h
              · rename_i hc
                simp only [List.length_cons] at hl
                obtain ⟨ts, k1, k2⟩ := ih r (by omega) h
                obtain ⟨us, k3, k4⟩ := lit_ahead (.inr (.inl ⟨b, c, rfl, hb, hc⟩) : Pc [37, b, c]) k1
                exact ⟨us, k3, by rw [k4, k2, h2]; rfl⟩
              · exact (dead_out h).elim
            · exact (dead_out h).elim
        · rw [if_neg h2] at h
          by_cases h3 : a = 123
          · rw [if_pos h3] at h
            obtain ⟨x, r, k1, k2, k3, k4⟩ := run_open h
            have hr : r.length ≤ n := by
              have := congrArg List.length k3
              rw [(put_expr k1 k2).2.2.2.2] at this
              simp at this; omega
            obtain ⟨ts, m1, m2⟩ := ih r hr k4
            refine ⟨x :: ts, ?_, ?_⟩
            · simp [mayF, k2, k1, m1]
            · show putPt x ++ putF ts = _
              rw [m2, ← k3, h3]
          · rw [if_neg h3] at h
            split at h
            · obtain ⟨c, r, hc, e1, e2, e3⟩ := run_one (p := [a]) (by simp) h
              have e4 : a :: t = encodeRune c ++ r := e1
              have hr : r.length ≤ n := by
                have := congrArg List.length e4
                rw [List.length_append, List.length_cons] at this
                simp at e2; omega
              obtain ⟨ts, k1, k2⟩ := ih r hr e3
              obtain ⟨us, k3, k4⟩ := lit_ahead (.inr (.inr ⟨c, hc, rfl⟩) : Pc (encodeRune c)) k1
              exact ⟨us, k3, by rw [k4, k2, e4]⟩
            · exact (dead_out h).elim
theorem is_runT (l : List UInt8) : (isT l).isSome = true ↔ runT outT l = outT := by
  rw [is_iffT]
  constructor
  · rintro ⟨ts, h1, h2⟩
    rw [← h2]; exact run_putT ts false h1
  · intro h
    exact run_isN l.length l (Nat.le_refl _) h

/-! ### Begins -/
def okT (s : Nat × List UInt8) : Prop := s = (0, []) ∨ s = (2, []) ∨ s = (3, []) ∨ s = (4, []) ∨ (∃ p, s = (1, p) ∧ fitB p = true ∧ wholeB p = false) ∨ (∃ q, s = (5 + q, []) ∧ q ≤ 10)
theorem ok_dead : okT (9, []) := .inr (.inr (.inr (.inr (.inr ⟨4, rfl, by omega⟩))))
theorem fit_one {c : UInt8} (_h : fitB [c] = true) : wholeB [c] = false := by
  cases hw : wholeB [c] with
  | false => rfl
  | true =>
    simp only [wholeB, decide_eq_true_eq] at hw
    obtain ⟨d, r, hd, e1, e2⟩ := take_pos (l := [c]) (by rw [hw]; simp)
    obtain ⟨a, t, e, _, _, ht⟩ := enc_head hd
    have h3 : (encodeRune d).length = 1 := by rw [← e2, hw]; rfl
    rw [e, List.length_cons] at h3
    exact absurd (List.eq_nil_of_length_eq_zero (by omega)) ht
theorem ok_step {s : Nat × List UInt8} (h : okT s) (c : UInt8) : okT (stepT s c) := by
  rcases h with rfl | rfl | rfl | rfl | ⟨p, rfl, h1, h2⟩ | ⟨q, rfl, hq⟩
  · have := step0 c
    unfold outT at this
    rw [this]
    split
    · exact .inl rfl
    · split
      · exact .inr (.inl rfl)
      · split
        · exact .inr (.inr (.inr (.inl rfl)))
        · split
          · rename_i hf
            exact .inr (.inr (.inr (.inr (.inl ⟨[c], rfl, hf, fit_one hf⟩))))
          · exact ok_dead
  · rw [step2]; split
    · exact .inr (.inr (.inl rfl))
    · exact ok_dead
  · rw [step3]; split
    · exact .inl rfl
    · exact ok_dead
  · rw [step4]; split
    · exact .inr (.inr (.inr (.inr (.inr ⟨0, rfl, by omega⟩))))
    · exact .inr (.inr (.inr (.inr (.inr ⟨_, rfl, stepX_le 0 c (by omega)⟩))))
  · rw [step1]; split
    · split
      · exact .inl rfl
      · rename_i hf hw
        exact .inr (.inr (.inr (.inr (.inl ⟨_, rfl, hf, by cases h : wholeB (p ++ [c]) with | false => rfl | true => exact absurd h hw⟩))))
    · exact ok_dead
  · rw [step5]; split
    · split
      · exact .inr (.inr (.inr (.inr (.inr ⟨0, rfl, by omega⟩))))
      · exact .inl rfl
    · exact .inr (.inr (.inr (.inr (.inr ⟨_, rfl, stepX_le q c hq⟩))))
theorem ok_run (l : List UInt8) : ∀ s, okT s → okT (runT s l) := by
  induction l with
  | nil => intro s h; exact h
  | cons a t ih => intro s h; exact ih _ (ok_step h a)
/-- behind a character's begin stands a template, ahead of it -/
theorem run_back (l : List UInt8) : ∀ p, runT outT l = (1, p) → ∃ l', l = l' ++ p ∧ runT outT l' = outT := by
  induction l using snoc_induct with
  | h0 => intro p h; exact absurd (congrArg Prod.fst h) (by simp [runT, runS, outT])
  | h1 l a ih =>
    intro p h
    rw [runT_app] at h
    have hok := ok_run l outT (.inl rfl)
    have h' : stepT (runT outT l) a = (1, p) := h
    rcases hok with e | e | e | e | ⟨r, e, h1, h2⟩ | ⟨q, e, hq⟩
    · rw [e] at h'
      have := step0 a
      unfold outT at this
      rw [this] at h'
      by_cases c1 : litB a = true
      · rw [if_pos c1] at h'; exact absurd (congrArg Prod.fst h') (by simp)
      rw [if_neg c1] at h'
      by_cases c2 : a = 37
      · rw [if_pos c2] at h'; exact absurd (congrArg Prod.fst h') (by simp)
      rw [if_neg c2] at h'
      by_cases c3 : a = 123
      · rw [if_pos c3] at h'; exact absurd (congrArg Prod.fst h') (by simp)
      rw [if_neg c3] at h'
      by_cases c4 : fitB [a] = true
      · rw [if_pos c4] at h'
        have e2 : [a] = p := (Prod.mk.inj h').2
        exact ⟨l, by rw [e2], e⟩
      · rw [if_neg c4] at h'; exact absurd (congrArg Prod.fst h') (by simp)
    · rw [e, step2] at h'
      split at h' <;> exact absurd (congrArg Prod.fst h') (by simp)
    · rw [e, step3] at h'
      split at h' <;> exact absurd (congrArg Prod.fst h') (by simp)
    · rw [e, step4] at h'
      split at h'
      · exact absurd (congrArg Prod.fst h') (by simp)
      · have := congrArg Prod.fst h'; simp at this; omega
    · rw [e, step1] at h'
      split at h'
      · split at h'
        · exact absurd (congrArg Prod.fst h') (by simp)
        · have e2 : r ++ [a] = p := (Prod.mk.inj h').2
          obtain ⟨l', e3, e4⟩ := ih r e
          exact ⟨l', by rw [e3, ← e2]; simp, e4⟩
      · exact absurd (congrArg Prod.fst h') (by simp)
    · rw [e, step5] at h'
      split at h'
      · split at h' <;> exact absurd (congrArg Prod.fst h') (by simp)
      · have := congrArg Prod.fst h'; simp at this; omega
def endsT : List (List UInt8) := [[], [52, 49], [49], [97, 125], [125], [49, 125], [52, 49, 125]]
/-- the reference's words for a begin -/
def beginT (l : List UInt8) : Bool := endsT.any (fun e => (isT (l ++ e)).isSome) || [1, 2, 3].any (fun n => decide (n ≤ l.length) && ((isT (l.take (l.length - n))).isSome && fitB (l.drop (l.length - n))))
theorem fit_alive {p : List UInt8} (h : fitB p = true) : runT outT p ≠ deadT := by
  obtain ⟨_, c, hc, t, e⟩ := fit_to h
  have h2 : runT outT (p ++ t) ≠ deadT := by rw [e, run_enc hc]; exact out_ne
  exact runT_alive h2
theorem ends_fin : ∀ q : Fin 11, q.val ≠ 4 → endsT.any (fun e => decide (runT (5 + q.val, []) e = outT)) = true := by decide +kernel
theorem end_of {l e : List UInt8} (he : e ∈ endsT) (h : runT (runT outT l) e = outT) : beginT l = true := by
  unfold beginT
  rw [Bool.or_eq_true]
  refine .inl (List.any_eq_true.2 ⟨e, he, ?_⟩)
  rw [is_runT, runT_app]; exact h
theorem begin_isT (l : List UInt8) : beginT l = decide (runT outT l ≠ deadT) := by
  rw [Bool.eq_iff_iff]
  simp only [decide_eq_true_eq]
  constructor
  · intro h
    unfold beginT at h
    rw [Bool.or_eq_true, List.any_eq_true, List.any_eq_true] at h
    rcases h with ⟨e, _, h⟩ | ⟨n, _, h⟩
    · rw [is_runT] at h
      exact runT_alive (b := e) (by rw [h]; exact out_ne)
    · simp only [Bool.and_eq_true, decide_eq_true_eq] at h
      rw [is_runT] at h
      have e : l = l.take (l.length - n) ++ l.drop (l.length - n) := (List.take_append_drop _ _).symm
      rw [e, runT_app, h.2.1]
      exact fit_alive h.2.2
  · intro h
    rcases ok_run l outT (.inl rfl) with e | e | e | e | ⟨p, e, h1, h2⟩ | ⟨q, e, hq⟩
    · exact end_of (e := []) (by decide) e
    · exact end_of (e := [52, 49]) (by decide) (by rw [e]; decide)
    · exact end_of (e := [49]) (by decide) (by rw [e]; decide)
    · exact end_of (e := [97, 125]) (by decide) (by rw [e]; decide +kernel)
    · obtain ⟨l', e2, e3⟩ := run_back l p e
      have hp : p ≠ [] := ((fit_iff p).1 h1).1
      have hl : p.length ≤ 3 := by
        rcases fit_whole h1 with ⟨c, hc, ec, _⟩ | ⟨_, m, hm⟩
        · rw [ec, whole_enc hc] at h2; cases h2
        · have := fit_len hm; simp at this; omega
      have hl1 : 1 ≤ p.length := by
        cases p with
        | nil => exact absurd rfl hp
        | cons a t => simp
      unfold beginT
      rw [Bool.or_eq_true]
      refine .inr (List.any_eq_true.2 ⟨p.length, ?_, ?_⟩)
      · simp; omega
      · have hlen : l.length = l'.length + p.length := by rw [e2]; simp
        have e4 : l.length - p.length = l'.length := by omega
        rw [e4]
        have e5 : l.take l'.length = l' := by rw [e2, List.take_left]
        have e6 : l.drop l'.length = p := by rw [e2, List.drop_left]
        rw [e5, e6, h1]
        simp only [Bool.and_true, Bool.and_eq_true, decide_eq_true_eq]
        exact ⟨by omega, (is_runT l').2 e3⟩
    · have hq4 : q ≠ 4 := by
        intro e2; rw [e2] at e; exact h e
      have := ends_fin ⟨q, by omega⟩ hq4
      rw [List.any_eq_true] at this
      obtain ⟨x, hx, hx2⟩ := this
      exact end_of hx (by rw [e]; simpa using hx2)

/-! ### How far -/
theorem badT_le (l : List UInt8) : badT l ≤ l.length := goS_le outT l
theorem badT_iff (l : List UInt8) (k : Nat) (hk : k ≤ l.length) : beginT (l.take k) = true ↔ k ≤ badT l := by
  rw [begin_isT, decide_eq_true_eq]
  exact goS_iff stepT_dead outT out_ne l k hk
theorem badT_is {l : List UInt8} (h : (isT l).isSome = true) : badT l = l.length :=
  goS_all stepT_dead (by rw [is_runT] at h; show runT outT l ≠ deadT; rw [h]; exact out_ne)
theorem is_badT {l : List UInt8} (h : badT l ≠ l.length) : isT l = none := by
  cases hi : isT l with
  | none => rfl
  | some ts => exact absurd (badT_is (by rw [hi]; rfl)) h
theorem badT_take (l : List UInt8) : badT (l.take (badT l)) = badT l := goS_take stepT_dead out_ne l
theorem badT_more (l m : List UInt8) (h : badT l ≠ l.length) : badT (l ++ m) = badT l := goS_more stepT_dead out_ne l m h
theorem is_moreT (l m : List UInt8) (h : badT l ≠ l.length) : isT (l ++ m) = none := by
  apply is_badT
  rw [badT_more l m h]
  have := badT_le l
  simp; omega
end Go.Proofs.YtjbnofljoijnmaaDoor

/-
  PLAIN LEAN, no program in it: how the program reads a template: literals, variables, and where it stops.
-/
namespace Go.Proofs.YtjbnofljoijnmaaDoor
open Go.Lib YtjbnofljoijnmaaDooru

/-- how many bytes one may go from a state -/
def goT (q : Nat × List UInt8) (l : List UInt8) : Nat := goS stepT deadT q l
theorem goT_nil (q : Nat × List UInt8) : goT q [] = 0 := rfl
theorem goT_cons (q : Nat × List UInt8) (a : UInt8) (t : List UInt8) : goT q (a :: t) = if stepT q a = deadT then 0 else goT (stepT q a) t + 1 := rfl
theorem goT_app {q : Nat × List UInt8} {a : List UInt8} (b : List UInt8) (h : runT q a ≠ deadT) : goT q (a ++ b) = a.length + goT (runT q a) b := goS_app stepT_dead b h
theorem goT_iff (q : Nat × List UInt8) (hq : q ≠ deadT) (l : List UInt8) (k : Nat) (hk : k ≤ l.length) : runT q (l.take k) ≠ deadT ↔ k ≤ goT q l := goS_iff stepT_dead q hq l k hk
theorem goT_le (q : Nat × List UInt8) (l : List UInt8) : goT q l ≤ l.length := goS_le q l

/-! ### Literals -/
theorem lit_go (l : List UInt8) : goT outT l = litLen l + goT outT (l.drop (litLen l)) := by
  obtain ⟨ps, r, e, hp, hr, hn⟩ := litLen_split l
  have h := run_pcs hp
  rw [hn]
  subst e
  rw [List.drop_left, goT_app _ (by rw [h]; exact out_ne), h]
theorem fit_small {a : UInt8} (t : List UInt8) (h : a.toNat < 194) : fitB (a :: t) = false := by
  cases hf : fitB (a :: t) with
  | false => rfl
  | true =>
    obtain ⟨_, c, hc, hp⟩ := fit_to hf
    obtain ⟨b, u, e, h1, _⟩ := enc_head hc
    rw [e] at hp
    have := (List.cons_prefix_cons.1 hp).1
    rw [this] at h
    omega
/-- whether bytes begin a piece of a literal -/
def beginsB (q : List UInt8) : Bool := tripB (q ++ [48, 48]) || fitB q
theorem trip_head {a : UInt8} (t : List UInt8) (h : a ≠ 37) : tripB (a :: t) = false := by
  cases ht : tripB (a :: t) with
  | false => rfl
  | true =>
    obtain ⟨b, c, r, e, _⟩ := trip_to ht
    exact absurd (List.cons.inj e).1 h
theorem piece_zero {a : UInt8} {t : List UInt8} (h : pieceL (a :: t) = 0) : litB a = false ∧ tripB (a :: t) = false ∧ takeN (a :: t) = 0 := by
  rw [piece_cons] at h
  cases h1 : litB a with
  | true => rw [h1] at h; simp at h
  | false =>
    cases h2 : tripB (a :: t) with
    | true => rw [h1, h2] at h; simp at h
    | false => rw [h1, h2] at h; exact ⟨rfl, rfl, by simpa using h⟩
theorem trip_hex (b c : UInt8) (r : List UInt8) : tripB (37 :: b :: c :: r) = (hexB b && hexB c) := by
  show ((37 : UInt8) == 37 && hexN b.toNat && hexN c.toNat) = _
  rfl
theorem alive_pct {t : List UInt8} (h : tripB (37 :: t) = false) (k : Nat) : beginsB (37 :: t.take k) = true ↔ runT outT (37 :: t.take k) ≠ deadT := by
  have hs : stepT outT 37 = (2, []) := by decide +kernel
  rw [runT_cons, hs]
  have hf : ∀ x, fitB (37 :: x) = false := fun x => fit_small x (by decide)
  unfold beginsB
  rw [hf, Bool.or_false]
  generalize hx : t.take k = x
  match x, hx with
  | [], _ => exact ⟨fun _ => by decide, fun _ => by decide +kernel⟩
  | [b], _ =>
    show tripB (37 :: b :: 48 :: [48]) = true ↔ _
    rw [trip_hex, runT_cons, step2]
    cases hb : hexB b with
    | true => exact ⟨fun _ => by simp only [if_true]; decide, fun _ => by decide +kernel⟩
    | false => simp [runT, runS, deadT]
  | b :: c :: r, hx =>
    have e : t = b :: c :: (r ++ t.drop k) := by
      have := List.take_append_drop k t
      rw [hx] at this
      exact this.symm
    rw [e, trip_hex] at h
    show tripB (37 :: b :: c :: (r ++ [48, 48])) = true ↔ _
    rw [trip_hex, h, runT_cons, step2]
    cases hb : hexB b with
    | false =>
      have := runT_dead (c :: r)
      simp only [deadT] at this ⊢
      simp [this]
    | true =>
      rw [hb] at h
      have hc : hexB c = false := by simpa using h
      rw [if_pos rfl, runT_cons, step3, hc]
      have := runT_dead r
      simp only [deadT] at this ⊢
      simp [this]
theorem take_snocL {l : List UInt8} {k : Nat} (h : k < l.length) : l.take (k + 1) = l.take k ++ [l[k]] := List.take_succ_eq_append_getElem h
theorem fit_run {a : UInt8} {t : List UInt8} (ha : a ≠ 37) (hb : a ≠ 123) (hl : litB a = false) (hn : takeN (a :: t) = 0) :
    ∀ k, k ≤ t.length → fitB ((a :: t).take (k + 1)) = true → runT outT ((a :: t).take (k + 1)) = (1, (a :: t).take (k + 1)) := by
  intro k
  induction k with
  | zero =>
    intro _ hf
    simp only [List.take_succ_cons, List.take_zero] at hf ⊢
    rw [runT_cons, step0, hl, if_neg (by decide), if_neg ha, if_neg hb, hf]
    rfl
  | succ k ih =>
    intro hk hf
    have h1 := fit_cut hf (k + 1) (by omega)
    rw [List.take_take, Nat.min_eq_left (by omega)] at h1
    have h2 := ih (by omega) h1
    have hlt : k + 1 < (a :: t).length := by simp; omega
    rw [take_snocL hlt] at hf ⊢
    rw [runT_app, h2, runT_cons, step1, hf, if_pos rfl]
    have hw : wholeB ((a :: t).take (k + 1) ++ [(a :: t)[k + 1]]) = false := by
      cases hw : wholeB ((a :: t).take (k + 1) ++ [(a :: t)[k + 1]]) with
      | false => rfl
      | true =>
        have hw := of_decide_eq_true hw
        rw [← take_snocL hlt] at hw
        obtain ⟨c, r, hc, e, _⟩ := take_pos (l := (a :: t).take (k + 1 + 1)) (by rw [hw]; simp)
        have e2 := List.take_append_drop (k + 1 + 1) (a :: t)
        rw [e, List.append_assoc] at e2
        rw [← e2, YtjbnofljoijnmaaDoor.take_enc hc] at hn
        have := (YtjbnofljoijnmaaDooru.enc_len c).1
        omega
    rw [hw]
    rfl
theorem fit_dead {a : UInt8} {t : List UInt8} (ha : a ≠ 37) (hb : a ≠ 123) (hl : litB a = false) (hn : takeN (a :: t) = 0) :
    ∀ k, k ≤ t.length → fitB ((a :: t).take (k + 1)) = false → runT outT ((a :: t).take (k + 1)) = deadT := by
  intro k
  induction k with
  | zero =>
    intro _ hf
    simp only [List.take_succ_cons, List.take_zero] at hf ⊢
    rw [runT_cons, step0, hl, if_neg (by decide), if_neg ha, if_neg hb, hf]
    rfl
  | succ k ih =>
    intro hk hf
    have hlt : k + 1 < (a :: t).length := by simp; omega
    rw [take_snocL hlt] at hf ⊢
    rw [runT_app]
    cases h1 : fitB ((a :: t).take (k + 1)) with
    | false => rw [ih (by omega) h1]; exact runT_dead _
    | true =>
      rw [fit_run ha hb hl hn k (by omega) h1, runT_cons, step1, hf]
      rfl
theorem begins_alive {l : List UInt8} (hne : l ≠ []) (hb : ∀ t, l ≠ 123 :: t) (hp : pieceL l = 0) (k : Nat) (h1 : 1 ≤ k) (h2 : k ≤ l.length) : beginsB (l.take k) = true ↔ k ≤ goT outT l := by
  rw [← goT_iff outT out_ne l k h2]
  match l, hne with
  | a :: t, _ =>
    obtain ⟨hl, ht, hn⟩ := piece_zero hp
    match k, h1 with
    | k + 1, _ =>
      by_cases ha : a = 37
      · subst ha
        exact alive_pct ht k
      · have hb' : a ≠ 123 := fun e => hb t (by rw [e])
        have e : beginsB ((a :: t).take (k + 1)) = fitB ((a :: t).take (k + 1)) := by
          unfold beginsB
          rw [List.take_succ_cons, List.cons_append, trip_head _ ha, Bool.false_or]
        rw [e]
        have hk : k ≤ t.length := by simpa using h2
        constructor
        · intro hf; rw [fit_run ha hb' hl hn k hk hf]; simp [deadT]
        · intro hf
          cases h : fitB ((a :: t).take (k + 1)) with
          | true => rfl
          | false => exact absurd (fit_dead ha hb' hl hn k hk h) hf

/-! ### Where a variable ends -/
def sepB (c : UInt8) : Bool := c == 44 || c == 125
def endC (l : List UInt8) : Nat := (l.takeWhile (fun c => !sepB c)).length
theorem end_split (l : List UInt8) : (endC l = l.length ∧ ∀ c ∈ l, sepB c = false) ∨ ∃ h c r, l = h ++ c :: r ∧ endC l = h.length ∧ sepB c = true ∧ ∀ x ∈ h, sepB x = false := by
  induction l with
  | nil => exact .inl ⟨rfl, fun c hc => by cases hc⟩
  | cons a t ih =>
    unfold endC
    rw [List.takeWhile_cons]
    cases ha : sepB a with
    | true => exact .inr ⟨[], a, t, rfl, by simp, ha, fun x hx => by cases hx⟩
    | false =>
      simp only [Bool.not_false, if_true, List.length_cons]
      rcases ih with ⟨h1, h2⟩ | ⟨h, c, r, h1, h2, h3, h4⟩
      · exact .inl ⟨by rw [show (t.takeWhile fun c => !sepB c).length = t.length from h1], fun c hc => by
          rcases List.mem_cons.1 hc with rfl | hc
          · exact ha
          · exact h2 c hc⟩
      · exact .inr ⟨a :: h, c, r, by rw [h1]; rfl, by rw [show (t.takeWhile fun c => !sepB c).length = h.length from h2]; rfl, h3, fun x hx => by
          rcases List.mem_cons.1 hx with rfl | hx
          · exact ha
          · exact h4 x hx⟩
theorem contains_sep (a : UInt8) : ([44, 125] : List UInt8).contains a = sepB a := by
  unfold sepB
  rw [Bool.eq_iff_iff]
  simp
theorem index_end (l : List UInt8) : Lib.indexAny l [44, 125] = if endC l < l.length then (endC l : Int) else -1 := by
  induction l with
  | nil => rfl
  | cons a t ih =>
    unfold Lib.indexAny
    rw [contains_sep]
    unfold endC
    rw [List.takeWhile_cons]
    cases ha : sepB a with
    | true => simp
    | false =>
      simp only [Bool.not_false, if_true, List.length_cons, Bool.false_eq_true, if_false]
      rw [ih]
      have e : (t.takeWhile fun c => !sepB c).length = endC t := rfl
      rw [e]
      by_cases h : endC t < t.length
      · have h2 : endC t + 1 < t.length + 1 := by omega
        have h3 : ¬ ((endC t : Int) == -1) = true := by simp
        simp only [if_pos h, if_pos h2, if_neg h3]
        push_cast
        rfl
      · have h2 : ¬ endC t + 1 < t.length + 1 := by omega
        simp only [if_neg h, if_neg h2]
        rfl
theorem endC_le (l : List UInt8) : endC l ≤ l.length := by
  rcases end_split l with ⟨h, _⟩ | ⟨h, c, r, h1, h2, _⟩
  · omega
  · rw [h2, h1]; simp

/-! ### Variables -/
/-- what an expression and all behind it come to, whose variables so far are xs -/
def finT (o : UInt8) (xs : List Sp) (r : List UInt8) : Option (List Pt) :=
  if shutN r < r.length then (if (goC [] (r.take (shutN r))).all isX then (isT (r.drop (shutN r + 1))).map (⟨[], o, xs ++ (goC [] (r.take (shutN r))).map specX⟩ :: ·) else none) else none
theorem shut_cons {a : UInt8} (t : List UInt8) (h : a ≠ 125) : shutN (a :: t) = shutN t + 1 := by
  unfold shutN
  rw [List.takeWhile_cons]
  simp [h]
theorem head_take {l : List UInt8} (h : (headOp l).1 = 0) (hl : headOp l = (0, l)) (s : Nat) : headOp (l.take s) = (0, l.take s) := by
  cases l with
  | nil => simp [headOp]
  | cons a t =>
    cases s with
    | zero => simp [headOp]
    | succ s =>
      rw [headOp_cons] at hl
      rw [List.take_succ_cons, headOp_cons]
      cases ha : opB a with
      | true => rw [ha, if_pos rfl] at hl; have := (Prod.mk.inj hl).2; exact absurd (congrArg List.length this) (by simp)
      | false => rfl
theorem fin_start (t : List UInt8) : isT (123 :: t) = finT (headOp t).1 [] (headOp t).2 := by
  rw [isT_brace]
  cases t with
  | nil => rfl
  | cons a t =>
    rw [headOp_cons]
    cases ha : opB a with
    | true =>
      obtain ⟨_, _, h2, _⟩ := op_dead ha
      rw [if_pos rfl, shut_cons t h2]
      unfold finT insT
      rw [List.take_succ_cons, headOp_cons, ha, if_pos rfl]
      simp only [List.length_cons, List.drop_succ_cons, List.nil_append]
      by_cases h : shutN t < t.length
      · rw [if_pos h, if_pos (by omega)]
        split <;> simp
      · rw [if_neg h, if_neg (by omega)]
    | false =>
      have e : headOp (a :: t) = (0, a :: t) := by rw [headOp_cons, ha]; rfl
      rw [show (if false = true then (a, t) else ((0 : UInt8), a :: t)) = (0, a :: t) from rfl]
      unfold finT insT
      rw [head_take (by rw [e]) e]
      simp only [List.nil_append]
      by_cases h : shutN (a :: t) < (a :: t).length
      · rw [if_pos h, if_pos h]
        split <;> simp
      · rw [if_neg h, if_neg h]
theorem free_of {h : List UInt8} (hf : ∀ x ∈ h, sepB x = false) : 44 ∉ h ∧ 125 ∉ h := by
  constructor
  · intro hm; have := hf _ hm; revert this; decide
  · intro hm; have := hf _ hm; revert this; decide
theorem shut_all {r : List UInt8} (h : 125 ∉ r) : shutN r = r.length := by
  induction r with
  | nil => rfl
  | cons a t ih =>
    rw [shut_cons t (fun e => h (by rw [e]; exact List.mem_cons_self)), ih (fun hm => h (List.mem_cons_of_mem _ hm))]
    rfl
theorem fin_none (o : UInt8) (xs : List Sp) {r : List UInt8} (h : ∀ c ∈ r, sepB c = false) : finT o xs r = none := by
  unfold finT
  rw [shut_all (free_of h).2, if_neg (by omega)]
theorem shut_past {h : List UInt8} (hf : 125 ∉ h) (r : List UInt8) : shutN (h ++ 44 :: r) = h.length + 1 + shutN r := by
  induction h with
  | nil => rw [List.nil_append, shut_cons r (by decide)]; simp; omega
  | cons a t ih =>
    rw [List.cons_append, shut_cons _ (fun e => hf (by rw [e]; exact List.mem_cons_self)), ih (fun hm => hf (List.mem_cons_of_mem _ hm))]
    simp; omega
theorem fin_bad (o : UInt8) (xs : List Sp) {h r : List UInt8} {c : UInt8} (hf : ∀ x ∈ h, sepB x = false) (hc : sepB c = true) (hx : isX h = false) : finT o xs (h ++ c :: r) = none := by
  obtain ⟨f1, f2⟩ := free_of hf
  have : c = 44 ∨ c = 125 := by unfold sepB at hc; simpa using hc
  unfold finT
  rcases this with rfl | rfl
  · rw [shut_past f2]
    split
    · have e : (h ++ 44 :: r).take (h.length + 1 + shutN r) = h ++ 44 :: r.take (shutN r) := by
        rw [List.take_append, List.take_of_length_le (by omega), show h.length + 1 + shutN r - h.length = shutN r + 1 by omega, List.take_succ_cons]
      rw [e, goC_comma f1]
      simp [hx]
    · rfl
  · rw [shut_app f2]
    split
    · rw [List.take_left, goC_free f1]
      simp [hx]
    · rfl
theorem fin_last (o : UInt8) (xs : List Sp) {h r : List UInt8} (hf : ∀ x ∈ h, sepB x = false) (hx : isX h = true) : finT o xs (h ++ 125 :: r) = (isT r).map (⟨[], o, xs ++ [specX h]⟩ :: ·) := by
  obtain ⟨f1, f2⟩ := free_of hf
  unfold finT
  rw [shut_app f2, if_pos (by simp), List.take_left, goC_free f1]
  have e : (h ++ 125 :: r).drop (h.length + 1) = r := by rw [List.drop_append]; simp
  rw [e]
  simp [hx]
theorem fin_more (o : UInt8) (xs : List Sp) {h r : List UInt8} (hf : ∀ x ∈ h, sepB x = false) (hx : isX h = true) : finT o xs (h ++ 44 :: r) = finT o (xs ++ [specX h]) r := by
  obtain ⟨f1, f2⟩ := free_of hf
  unfold finT
  rw [shut_past f2]
  by_cases hs : shutN r < r.length
  · rw [if_pos hs, if_pos (by simp; omega)]
    have e : (h ++ 44 :: r).take (h.length + 1 + shutN r) = h ++ 44 :: r.take (shutN r) := by
      rw [List.take_append, List.take_of_length_le (by omega), show h.length + 1 + shutN r - h.length = shutN r + 1 by omega, List.take_succ_cons]
    have e2 : (h ++ 44 :: r).drop (h.length + 1 + shutN r + 1) = r.drop (shutN r + 1) := by
      rw [List.drop_append, show h.length + 1 + shutN r + 1 - h.length = shutN r + 1 + 1 by omega, List.drop_succ_cons, List.drop_of_length_le (by omega), List.nil_append]
    rw [e, e2, goC_comma f1]
    simp [hx]
  · rw [if_neg hs, if_neg (by simp; omega)]

/-! ### How far -/
theorem op_len (t : List UInt8) : t.length = (opL (headOp t).1).length + (headOp t).2.length := by
  cases t with
  | nil => rfl
  | cons a t =>
    rw [headOp_cons]
    cases ha : opB a with
    | true => rw [if_pos rfl]; unfold opL; rw [if_neg (op_dead ha).2.1]; simp; omega
    | false => simp [opL]
theorem go_open (t : List UInt8) : goT outT (123 :: t) = 1 + (opL (headOp t).1).length + goT (5, []) (headOp t).2 := by
  have hs : stepT outT 123 = (4, []) := by decide +kernel
  rw [goT_cons, hs, if_neg (by decide)]
  cases t with
  | nil => rfl
  | cons a t =>
    rw [headOp_cons, goT_cons, step4]
    cases ha : opB a with
    | true =>
      rw [if_pos rfl, if_pos rfl, if_neg (by decide)]
      unfold opL
      rw [if_neg (op_dead ha).2.1]
      simp; omega
    | false =>
      rw [show (if false = true then (a, t) else ((0 : UInt8), a :: t)) = (0, a :: t) from rfl, show (if false = true then ((5, []) : Nat × List UInt8) else (5 + stepX 0 a, [])) = (5 + stepX 0 a, []) from rfl, goT_cons (5, [])]
      have e : stepT (5, []) a = (5 + stepX 0 a, []) := by
        rw [show ((5, []) : Nat × List UInt8) = (5 + 0, []) from rfl, step5, if_neg (by intro h; exact absurd h.2 (by decide))]
      rw [e]
      simp [opL]; omega
theorem step_in {q : Nat} {c : UInt8} (h : sepB c = false) : stepT (5 + q, []) c = (5 + stepX q c, []) := by
  rw [step5, if_neg]
  intro hh
  rcases hh.1 with e | e <;> (rw [e] at h; revert h; decide)
theorem dead_five (q : Nat) : ((5 + q, []) : Nat × List UInt8) = deadT ↔ q = 4 := by
  unfold deadT
  simp only [Prod.mk.injEq, and_true]
  omega
theorem go_in (h : List UInt8) : ∀ q, (∀ x ∈ h, sepB x = false) → goT (5 + q, []) h = goM stepX 4 q h := by
  induction h with
  | nil => intro q _; rfl
  | cons a t ih =>
    intro q hf
    rw [goT_cons, step_in (hf a List.mem_cons_self)]
    show _ = if stepX q a = 4 then 0 else goM stepX 4 (stepX q a) t + 1
    by_cases h4 : stepX q a = 4
    · rw [if_pos h4, if_pos ((dead_five _).2 h4)]
    · rw [if_neg h4, if_neg (fun e => h4 ((dead_five _).1 e)), ih _ (fun x hx => hf x (List.mem_cons_of_mem _ hx))]
theorem run_in {h : List UInt8} : ∀ q, (∀ x ∈ h, sepB x = false) → runT (5 + q, []) h = (5 + runX q h, []) := by
  induction h with
  | nil => intro q _; rfl
  | cons a t ih =>
    intro q hf
    rw [runT_cons, step_in (hf a List.mem_cons_self), ih _ (fun x hx => hf x (List.mem_cons_of_mem _ hx))]
    rfl
theorem go_none {r : List UInt8} (h : ∀ c ∈ r, sepB c = false) : goT (5, []) r = badX r := go_in r 0 h
theorem go_stop {h r : List UInt8} {c : UInt8} (hf : ∀ x ∈ h, sepB x = false) (hc : sepB c = true) (hx : isX h = false) : goT (5, []) (h ++ c :: r) = badX h := by
  have hr := run_in (h := h) 0 hf
  by_cases h4 : runX 0 h = 4
  · have hp : goT (5, []) h < h.length := goS_part stepT_dead (by decide) (by show runT (5 + 0, []) h = _; rw [hr]; exact (dead_five _).2 h4)
    have := goS_more stepT_dead (q := (5, [])) (by decide) h (c :: r) (by show goT (5, []) h ≠ _; omega)
    exact this.trans (go_none hf)
  · have ha : runT (5, []) h ≠ deadT := by
      show runT (5 + 0, []) h ≠ _
      rw [hr]
      exact fun e => h4 ((dead_five _).1 e)
    rw [goT_app _ ha]
    show _ + goT (runT (5 + 0, []) h) _ = _
    have hacc : accX (runX 0 h) = false := by rw [← is_run]; exact hx
    have hc' : c = 44 ∨ c = 125 := by unfold sepB at hc; simpa using hc
    have hst : stepT (5 + runX 0 h, []) c = deadT := by
      rw [step5, if_neg (fun hh => by rw [hacc] at hh; exact absurd hh.2 (by decide)), stepX_sep _ _ (by rcases hc' with e | e <;> simp [e])]
      rfl
    rw [hr, goT_cons, hst, if_pos rfl]
    have := goM_all stepX_dead (q := 0) (l := h) h4
    unfold badX
    omega
theorem go_next {h r : List UInt8} {c : UInt8} (hf : ∀ x ∈ h, sepB x = false) (hc : c = 44 ∨ c = 125) (hx : isX h = true) : goT (5, []) (h ++ c :: r) = h.length + 1 + goT (if c = 44 then (5, []) else outT) r := by
  have hr := run_in (h := h) 0 hf
  have hacc : accX (runX 0 h) = true := by rw [← is_run]; exact hx
  have ha : runT (5, []) h ≠ deadT := by
    show runT (5 + 0, []) h ≠ _
    rw [hr]
    exact fun e => acc_alive hacc ((dead_five _).1 e)
  rw [goT_app _ ha]
  show _ + goT (runT (5 + 0, []) h) _ = _
  have hst : stepT (5 + runX 0 h, []) c = if c = 44 then (5, []) else outT := by
    rw [step5, if_pos ⟨hc, hacc⟩]
    rfl
  rw [hr, goT_cons, hst]
  have hne : (if c = 44 then (5, []) else outT) ≠ deadT := by split <;> decide
  rw [if_neg hne]
  omega
end Go.Proofs.YtjbnofljoijnmaaDoor

/-
  PLAIN LEAN, no program in it: what stands behind a brace that opens.
-/
namespace Go.Proofs.YtjbnofljoijnmaaDoor
open Go.Lib YtjbnofljoijnmaaDooru

theorem brace_fin : ∀ n : Fin 256, decide (runT (4, []) [n.val.toUInt8, 97, 125] = outT) = (opB n.val.toUInt8 || nameB [n.val.toUInt8, 97]) := by decide +kernel
theorem brace_stop : ∀ n : Fin 256, (opB n.val.toUInt8 || nameB [n.val.toUInt8, 97]) = false → n.val = 37 ∨ stepT (4, []) n.val.toUInt8 = deadT := by decide +kernel
theorem u8_self (c : UInt8) : c.toNat.toUInt8 = c := by simp
theorem reserved_is {lit : List UInt8} (h : literalB lit = true) (c : UInt8) : (isT (lit ++ 123 :: c :: [97, 125])).isSome = (opB c || nameB [c, 97]) := by
  have h1 := brace_fin ⟨c.toNat, UInt8.toNat_lt c⟩
  simp only [u8_self] at h1
  rw [← h1, Bool.eq_iff_iff, decide_eq_true_eq, is_runT, runT_app, run_literal h, runT_cons, step0, if_neg (by decide), if_neg (by decide), if_pos rfl]
theorem reserved_bad {lit : List UInt8} (h : literalB lit = true) (c : UInt8) (hr : (opB c || nameB [c, 97]) = false) : c = 37 ∨ badT (lit ++ 123 :: c :: [97, 125]) = lit.length + 1 := by
  have h1 := brace_stop ⟨c.toNat, UInt8.toNat_lt c⟩
  simp only [u8_self] at h1
  rcases h1 hr with h2 | h2
  · exact .inl (UInt8.toNat_inj.1 h2)
  · right
    have h3 : runT outT (lit ++ [123]) = (4, []) := by
      rw [runT_app, run_literal h, runT_cons, step0, if_neg (by decide), if_neg (by decide), if_pos rfl]; rfl
    have h4 := goS_app (st := stepT) (d := deadT) stepT_dead (q := outT) (a := lit ++ [123]) (c :: [97, 125]) (by show runT outT (lit ++ [123]) ≠ deadT; rw [h3]; decide)
    have e : lit ++ 123 :: c :: [97, 125] = (lit ++ [123]) ++ c :: [97, 125] := by simp
    unfold badT
    rw [e, h4]
    have h5 : runS stepT outT (lit ++ [123]) = (4, []) := h3
    rw [h5]
    simp [goS, h2]
end Go.Proofs.YtjbnofljoijnmaaDoor
