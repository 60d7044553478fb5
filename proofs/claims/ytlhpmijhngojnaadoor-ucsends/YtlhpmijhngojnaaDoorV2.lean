/-
  PLAIN LEAN, no program in it: what begins a character that may, and what follows (layer 4).
-/
import Derived.Test.YtlhpmijhngojnaaDoorV
namespace Go.Proofs.YtlhpmijhngojnaaDoor
open Go.Lib

theorem fit_mk (b : UInt8) (t : List UInt8) (n : Nat) (c : Int) (hn : sizeN b.toNat = n) (h0 : n ≠ 0) (hl : t.length + 1 ≤ n) (hc : t.all contB = true) (lo k : Nat) (hk : 64 ^ (n - (t.length + 1)) = k) (ha : accN (leadN n b.toNat) t * k = lo)
    (h1 : (lo : Int) ≤ c) (h2 : c ≤ (lo + (k - 1) : Nat)) (h3 : (leastN n : Int) ≤ c) (h4 : c ≤ mostN n) (hm : mayU c = true) : fitB (b :: t) = true := by
  unfold fitB
  simp only
  rw [hn, hk, ha]
  have hmost : (mostN n : Int) < 2000000 := by unfold mostN; split <;> (try split) <;> omega
  have : someU (max (lo : Int) (leastN n)) (min ((lo + (k - 1) : Nat) : Int) (mostN n)) = true := (some_iff _ _ (by omega)).2 ⟨c, by omega, by omega, hm⟩
  rw [this, hc]
  simp [h0, hl]

theorem pre_cases {l e : List UInt8} (hne : l ≠ []) (h : l <+: e) : ∃ j, j < e.length ∧ l = e.take (j + 1) := by
  obtain ⟨t, rfl⟩ := h
  refine ⟨l.length - 1, ?_, ?_⟩
  · have : 0 < l.length := List.length_pos_iff.2 hne
    rw [List.length_append]; omega
  · have : 0 < l.length := List.length_pos_iff.2 hne
    rw [show l.length - 1 + 1 = l.length by omega, List.take_left]

theorem size_a {x : Nat} (h : 128 ≤ x ∧ x < 2048) : sizeN (192 + x / 64) = 2 := by unfold sizeN; (repeat' split) <;> omega
theorem size_b {x : Nat} (h : x < 65536) : sizeN (224 + x / 4096) = 3 := by unfold sizeN; (repeat' split) <;> omega
theorem size_c {x : Nat} (h : x ≤ 1114111) : sizeN (240 + x / 262144) = 4 := by unfold sizeN; (repeat' split) <;> omega

theorem fit_of {l : List UInt8} {c : Int} (hc : mayU c = true) (hne : l ≠ []) (hp : l <+: encodeRune c) : fitB l = true := by
  obtain ⟨hb, hc1, hc2⟩ := mayU_may hc
  obtain ⟨x, rfl, hx, hsh⟩ := enc_shape c hb
  obtain ⟨j, hj, rfl⟩ := pre_cases hne hp
  clear hne hp
  rcases hsh with h | ⟨g1, g2, h⟩ | ⟨g1, g2, h⟩ | ⟨g1, h⟩
  · omega
  · rw [h] at hj ⊢
    have e0 := u8 (192 + x / 64) (by omega)
    have e1 := u8 (128 + x % 64) (by omega)
    have hj' : j = 0 ∨ j = 1 := by simp at hj; omega
    rcases hj' with rfl | rfl
    · refine fit_mk _ _ 2 (x : Int) (by rw [e0]; exact size_a ⟨g1, g2⟩) (by decide) (by simp) rfl ((x / 64) * 64) 64 rfl ?_ ?_ ?_ ?_ ?_ hc
      · rw [e0]; simp [leadN, accN]
      · omega
      · omega
      · simp [leastN]; omega
      · simp [mostN]; omega
    · refine fit_mk _ _ 2 (x : Int) (by rw [e0]; exact size_a ⟨g1, g2⟩) (by decide) (by simp) (by simp [cont_iff]; omega) x 1 rfl ?_ ?_ ?_ ?_ ?_ hc
      · rw [e0]; simp only [leadN, accN, List.take_succ_cons, List.take_zero, List.foldl_cons, List.foldl_nil]; rw [e1]; simp; omega
      · omega
      · omega
      · simp [leastN]; omega
      · simp [mostN]; omega
  · rw [h] at hj ⊢
    have e0 := u8 (224 + x / 4096) (by omega)
    have e1 := u8 (128 + x / 64 % 64) (by omega)
    have e2 := u8 (128 + x % 64) (by omega)
    have hj' : j = 0 ∨ j = 1 ∨ j = 2 := by simp at hj; omega
    rcases hj' with rfl | rfl | rfl
    · refine fit_mk _ _ 3 (x : Int) (by rw [e0]; exact size_b g2) (by decide) (by simp) rfl ((x / 4096) * 4096) 4096 rfl ?_ ?_ ?_ ?_ ?_ hc
      · rw [e0]; simp [leadN, accN]
      · omega
      · omega
      · simp [leastN]; omega
      · simp [mostN]; omega
    · refine fit_mk _ _ 3 (x : Int) (by rw [e0]; exact size_b g2) (by decide) (by simp) (by simp [cont_iff]; omega) ((x / 64) * 64) 64 rfl ?_ ?_ ?_ ?_ ?_ hc
      · rw [e0]; simp only [leadN, accN, List.take_succ_cons, List.take_zero, List.foldl_cons, List.foldl_nil]; rw [e1]; simp; omega
      · omega
      · omega
      · simp [leastN]; omega
      · simp [mostN]; omega
    · refine fit_mk _ _ 3 (x : Int) (by rw [e0]; exact size_b g2) (by decide) (by simp) (by simp [cont_iff]; omega) x 1 rfl ?_ ?_ ?_ ?_ ?_ hc
      · rw [e0]; simp only [leadN, accN, List.take_succ_cons, List.take_zero, List.foldl_cons, List.foldl_nil]; rw [e1, e2]; simp; omega
      · omega
      · omega
      · simp [leastN]; omega
      · simp [mostN]; omega
  · rw [h] at hj ⊢
    have e0 := u8 (240 + x / 262144) (by omega)
    have e1 := u8 (128 + x / 4096 % 64) (by omega)
    have e2 := u8 (128 + x / 64 % 64) (by omega)
    have e3 := u8 (128 + x % 64) (by omega)
    have hj' : j = 0 ∨ j = 1 ∨ j = 2 ∨ j = 3 := by simp at hj; omega
    rcases hj' with rfl | rfl | rfl | rfl
    · refine fit_mk _ _ 4 (x : Int) (by rw [e0]; exact size_c hx) (by decide) (by simp) rfl ((x / 262144) * 262144) 262144 rfl ?_ ?_ ?_ ?_ ?_ hc
      · rw [e0]; simp [leadN, accN]
      · omega
      · omega
      · simp [leastN]; omega
      · simp [mostN]; omega
    · refine fit_mk _ _ 4 (x : Int) (by rw [e0]; exact size_c hx) (by decide) (by simp) (by simp [cont_iff]; omega) ((x / 4096) * 4096) 4096 rfl ?_ ?_ ?_ ?_ ?_ hc
      · rw [e0]; simp only [leadN, accN, List.take_succ_cons, List.take_zero, List.foldl_cons, List.foldl_nil]; rw [e1]; simp; omega
      · omega
      · omega
      · simp [leastN]; omega
      · simp [mostN]; omega
    · refine fit_mk _ _ 4 (x : Int) (by rw [e0]; exact size_c hx) (by decide) (by simp) (by simp [cont_iff]; omega) ((x / 64) * 64) 64 rfl ?_ ?_ ?_ ?_ ?_ hc
      · rw [e0]; simp only [leadN, accN, List.take_succ_cons, List.take_zero, List.foldl_cons, List.foldl_nil]; rw [e1, e2]; simp; omega
      · omega
      · omega
      · simp [leastN]; omega
      · simp [mostN]; omega
    · refine fit_mk _ _ 4 (x : Int) (by rw [e0]; exact size_c hx) (by decide) (by simp) (by simp [cont_iff]; omega) x 1 rfl ?_ ?_ ?_ ?_ ?_ hc
      · rw [e0]; simp only [leadN, accN, List.take_succ_cons, List.take_zero, List.foldl_cons, List.foldl_nil]; rw [e1, e2, e3]; simp; omega
      · omega
      · omega
      · simp [leastN]; omega
      · simp [mostN]; omega

theorem fit_iff (l : List UInt8) : fitB l = true ↔ l ≠ [] ∧ ∃ c, mayU c = true ∧ l <+: encodeRune c :=
  ⟨fit_to, fun ⟨h, _, hc, hp⟩ => fit_of hc h hp⟩

/-! ### What follows -/
theorem enc_pre {a b : Int} (ha : mayB a = true) (hb : mayB b = true) (h : encodeRune a <+: encodeRune b) : a = b := by
  apply Classical.byContradiction
  intro hne
  obtain ⟨t, ht⟩ := h
  apply enc_free a b ha hb hne
  rw [← ht, List.take_left]
theorem fit_cut {l : List UInt8} (h : fitB l = true) (k : Nat) (hk : 1 ≤ k) : fitB (l.take k) = true := by
  obtain ⟨hne, c, hc, hp⟩ := (fit_iff l).1 h
  refine fit_of hc ?_ ((List.take_prefix k l).trans hp)
  intro e
  rcases List.take_eq_nil_iff.1 e with h | h
  · omega
  · exact hne h
theorem fit_len {l : List UInt8} (h : fitB l = true) : l.length ≤ 4 := by
  obtain ⟨_, c, _, hp⟩ := (fit_iff l).1 h
  have := hp.length_le
  have := (enc_len c).2
  omega
theorem fit_more {l : List UInt8} (hne : l ≠ []) (h : fitB l = false) (m : List UInt8) : fitB (l ++ m) = false := by
  cases hh : fitB (l ++ m) with
  | false => rfl
  | true =>
    obtain ⟨_, c, hc, hp⟩ := (fit_iff _).1 hh
    rw [fit_of hc hne ((List.prefix_append l m).trans hp)] at h
    cases h
theorem fit_enc {c : Int} (h : mayU c = true) (k : Nat) (hk : 1 ≤ k) : fitB ((encodeRune c).take k) = true := by
  refine fit_of h ?_ (List.take_prefix _ _)
  intro e
  rcases List.take_eq_nil_iff.1 e with h | h
  · omega
  · exact enc_ne c h
theorem fit_over {c : Int} (h : mayB c = true) (m : UInt8) : fitB (encodeRune c ++ [m]) = false := by
  cases hh : fitB (encodeRune c ++ [m]) with
  | false => rfl
  | true =>
    obtain ⟨_, d, hd, hp⟩ := (fit_iff _).1 hh
    have := enc_pre h (mayU_may hd).1 ((List.prefix_append _ _).trans hp)
    subst this
    have := hp.length_le
    simp at this
    omega
theorem fit_not {c : Int} (h : mayB c = true) (hu : mayU c = false) : fitB (encodeRune c) = false := by
  cases hh : fitB (encodeRune c) with
  | false => rfl
  | true =>
    obtain ⟨_, d, hd, hp⟩ := (fit_iff _).1 hh
    rw [enc_pre h (mayU_may hd).1 hp, hd] at hu
    cases hu
/-- bytes that fit: a character's, or fewer -/
theorem fit_whole {l : List UInt8} (h : fitB l = true) : (∃ c, mayU c = true ∧ l = encodeRune c ∧ ∀ m, fitB (l ++ [m]) = false) ∨ ((∀ c t, mayB c = true → l ≠ encodeRune c ++ t) ∧ ∃ m, fitB (l ++ [m]) = true) := by
  obtain ⟨hne, c, hc, t, ht⟩ := (fit_iff l).1 h
  cases t with
  | nil =>
    rw [List.append_nil] at ht
    subst ht
    exact .inl ⟨c, hc, rfl, fun m => fit_over (mayU_may hc).1 m⟩
  | cons m t =>
    refine .inr ⟨?_, m, fit_of hc (by simp) ⟨t, by rw [List.append_assoc]; exact ht⟩⟩
    intro d r hd e
    have h1 : encodeRune d <+: encodeRune c := ⟨r ++ m :: t, by rw [← ht, e, List.append_assoc]⟩
    have := enc_pre hd (mayU_may hc).1 h1
    subst this
    have h2 := congrArg List.length ht
    rw [e] at h2
    simp at h2
end Go.Proofs.YtlhpmijhngojnaaDoor
