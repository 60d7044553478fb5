/-
  THE WALK of UtfOne.
-/
import Derived.Test.YtikhggdigndhoaauL4
namespace Go.Proofs.Ytikhggdigndhoaau
open Go.RowKit Go.Lib

theorem enc_shape (c : Int) (h : mayB c = true) : ∃ x : Nat, c = x ∧ x ≤ 1114111 ∧
    ((x < 128 ∧ encodeRune c = [x.toUInt8]) ∨ (128 ≤ x ∧ x < 2048 ∧ encodeRune c = [(192 + x / 64).toUInt8, (128 + x % 64).toUInt8]) ∨
     (2048 ≤ x ∧ x < 65536 ∧ encodeRune c = [(224 + x / 4096).toUInt8, (128 + x / 64 % 64).toUInt8, (128 + x % 64).toUInt8]) ∨
     (65536 ≤ x ∧ encodeRune c = [(240 + x / 262144).toUInt8, (128 + x / 4096 % 64).toUInt8, (128 + x / 64 % 64).toUInt8, (128 + x % 64).toUInt8])) := by
  rw [mayB_iff] at h
  obtain ⟨x, rfl⟩ : ∃ x : Nat, c = x := ⟨c.toNat, by omega⟩
  refine ⟨x, rfl, by omega, ?_⟩
  unfold encodeRune
  by_cases h1 : (x : Int) ≤ 127
  · left
    rw [encodeRuneZ_one (by omega) h1]
    exact ⟨by omega, rfl⟩
  · by_cases h2 : (x : Int) ≤ 2047
    · right; left
      rw [encodeRuneZ_two (by omega) h2]
      refine ⟨by omega, by omega, ?_⟩
      simp only [List.map_cons, List.map_nil]
      rw [show (192 + (x : Int) / 64).toNat = 192 + x / 64 by omega, show (128 + (x : Int) % 64).toNat = 128 + x % 64 by omega]
    · by_cases h3 : (x : Int) ≤ 65535
      · right; right; left
        rw [encodeRuneZ_three (by omega)]
        refine ⟨by omega, by omega, ?_⟩
        simp only [List.map_cons, List.map_nil]
        rw [show (224 + (x : Int) / 4096).toNat = 224 + x / 4096 by omega, show (128 + (x : Int) / 64 % 64).toNat = 128 + x / 64 % 64 by omega, show (128 + (x : Int) % 64).toNat = 128 + x % 64 by omega]
      · right; right; right
        rw [encodeRuneZ_four (by omega) (by omega)]
        refine ⟨by omega, ?_⟩
        simp only [List.map_cons, List.map_nil]
        rw [show (240 + (x : Int) / 262144).toNat = 240 + x / 262144 by omega, show (128 + (x : Int) / 4096 % 64).toNat = 128 + x / 4096 % 64 by omega, show (128 + (x : Int) / 64 % 64).toNat = 128 + x / 64 % 64 by omega, show (128 + (x : Int) % 64).toNat = 128 + x % 64 by omega]

theorem bl_lt {m n : Nat} {X Y : List UInt8} (hm : m < 256) (hn : n < 256) (h : m < n) : Op.bytesLess (m.toUInt8 :: X) (n.toUInt8 :: Y) = true := by
  have e : m.toUInt8 < n.toUInt8 := by rw [UInt8.lt_iff_toNat_lt, u8 m hm, u8 n hn]; exact h
  simp only [Op.bytesLess, e, decide_true, Bool.true_or]
theorem bl_eq {m n : Nat} {X Y : List UInt8} (h : m = n) (r : Op.bytesLess X Y = true) : Op.bytesLess (m.toUInt8 :: X) (n.toUInt8 :: Y) = true := by
  subst h
  simp [Op.bytesLess, r]

theorem enc_less (a b : Int) (ha : mayB a = true) (hb : mayB b = true) (h : a < b) : Op.bytesLess (encodeRune a) (encodeRune b) = true ∧ (encodeRune a).length ≤ (encodeRune b).length := by
  obtain ⟨x, rfl, hx, ex⟩ := enc_shape a ha
  obtain ⟨y, rfl, hy, ey⟩ := enc_shape b hb
  rcases ex with ⟨x1, e1⟩ | ⟨x1, x2, e1⟩ | ⟨x1, x2, e1⟩ | ⟨x1, e1⟩ <;> rcases ey with ⟨y1, e2⟩ | ⟨y1, y2, e2⟩ | ⟨y1, y2, e2⟩ | ⟨y1, e2⟩ <;> first | (exfalso; omega) | (rw [e1, e2]; refine ⟨?_, by simp⟩)
  · exact bl_lt (by omega) (by omega) (by omega)
  · exact bl_lt (by omega) (by omega) (by omega)
  · exact bl_lt (by omega) (by omega) (by omega)
  · exact bl_lt (by omega) (by omega) (by omega)
  · by_cases q : x / 64 = y / 64
    · exact bl_eq (by omega) (bl_lt (by omega) (by omega) (by omega))
    · exact bl_lt (by omega) (by omega) (by omega)
  · exact bl_lt (by omega) (by omega) (by omega)
  · exact bl_lt (by omega) (by omega) (by omega)
  · by_cases q : x / 4096 = y / 4096
    · by_cases q2 : x / 64 % 64 = y / 64 % 64
      · exact bl_eq (by omega) (bl_eq (by omega) (bl_lt (by omega) (by omega) (by omega)))
      · exact bl_eq (by omega) (bl_lt (by omega) (by omega) (by omega))
    · exact bl_lt (by omega) (by omega) (by omega)
  · exact bl_lt (by omega) (by omega) (by omega)
  · by_cases q : x / 262144 = y / 262144
    · by_cases q2 : x / 4096 % 64 = y / 4096 % 64
      · by_cases q3 : x / 64 % 64 = y / 64 % 64
        · exact bl_eq (by omega) (bl_eq (by omega) (bl_eq (by omega) (bl_lt (by omega) (by omega) (by omega))))
        · exact bl_eq (by omega) (bl_eq (by omega) (bl_lt (by omega) (by omega) (by omega)))
      · exact bl_eq (by omega) (bl_lt (by omega) (by omega) (by omega))
    · exact bl_lt (by omega) (by omega) (by omega)

theorem enc_free (a b : Int) (ha : mayB a = true) (hb : mayB b = true) (h : a ≠ b) : (encodeRune b).take (encodeRune a).length ≠ encodeRune a := by
  intro e
  have e1 : encodeRune b = encodeRune a ++ (encodeRune b).drop (encodeRune a).length := by
    conv => rhs; arg 1; rw [← e]
    rw [List.take_append_drop]
  have d1 := dec_enc a ha ((encodeRune b).drop (encodeRune a).length)
  have d2 := dec_enc b hb []
  rw [← e1] at d1
  rw [List.append_nil, d1] at d2
  have := congrArg Prod.fst d2
  rw [mayB_iff] at ha hb
  simp at this
  omega

theorem free_form (a b : Int) (ha : mayB a = true) (hb : mayB b = true) (h : a ≠ b) : (((⟨(encodeRune b).toArray⟩ : ByteArray).extract 0 (encodeRune a).length).toList == encodeRune a) = false := by
  rw [Lib.extract_toList]
  have := enc_free a b ha hb h
  simpa using this

end Go.Proofs.Ytikhggdigndhoaau
