/-
  WALKS: the reference's less (layer 8).
-/
import Derived.Test.YtikhggdigndhoaaV5
import Derived.WalkLawsBesides
namespace Go.Proofs.Ytikhggdigndhoaa
open Go.RowKit

theorem bytes_lt : ∀ x y : List UInt8, Op.bytesLess x y = ltB x y
  | [], [] => rfl
  | _ :: _, [] => rfl
  | [], _ :: _ => rfl
  | a :: x, b :: y => by
    show (decide (a < b) || (a == b && Op.bytesLess x y)) = if a = b then ltB x y else decide (a.toNat < b.toNat)
    rw [bytes_lt x y]
    by_cases e : a = b
    · subst e
      rw [if_pos rfl]
      simp
    · rw [if_neg e]
      have e2 : (a == b) = false := by simpa using e
      rw [e2, Bool.false_and, Bool.or_false]
      rfl
theorem less_end (a b : List (List UInt8)) (k : Nat) (h : b.length ≤ k) : lessL (a.drop k) (b.drop k) = false := by
  rw [List.drop_eq_nil_of_le h]
  cases a.drop k <;> rfl
theorem less_short (a b : List (List UInt8)) (k : Nat) (h : k < b.length) (ha : a.length ≤ k) : lessL (a.drop k) (b.drop k) = true := by
  rw [List.drop_eq_nil_of_le ha, List.drop_eq_getElem_cons h]
  rfl
theorem less_at (a b : List (List UInt8)) (k : Nat) (h : k < b.length) (ha : k < a.length) : lessL (a.drop k) (b.drop k) = if a[k] = b[k] then lessL (a.drop (k + 1)) (b.drop (k + 1)) else ltB a[k] b[k] := by
  rw [List.drop_eq_getElem_cons h, List.drop_eq_getElem_cons ha]
  rfl
set_option maxRecDepth 20000 in
set_option maxHeartbeats 1000000 in
theorem rless_any (u v : Value) (a b : List (List UInt8)) (w : World) (hu : StrsAt w u a) (hv : StrsAt w v b) (ha : a.length ≤ 2000) (_hb : b.length ≤ 2000) : Calls Try.prog 36 #[u, v] w fun e w' => e = .returned (.bool (lessL a b)) ∧ Below w.heap.size w w' := by
  obtain ⟨ua, uc, rfl⟩ := hu.form
  obtain ⟨va, vc, rfl⟩ := hv.form
  obtain ⟨r, hr⟩ : ∃ r, lessL a b = r := ⟨_, rfl⟩
  rw [hr]
  have Hr := hide hr
  have HU := hide hu
  have HV := hide hv
  clear hr hu hv
  go_enter Try.func36, Try.ntmps36
  go_wp2
  go_loopw [5] (fun i wr => ∃ (k q : Nat), k ≤ a.length ∧ k ≤ b.length ∧ i = .int .i64 k ∧ wr = w.drewN q ∧ r = lessL (a.drop k) (b.drop k)) (fun i _ => b.length - (intOf i).toNat)
  case atStart => exact ⟨0, 0, Nat.zero_le _, Nat.zero_le _, rfl, rfl, Hr.out.symm⟩
  case round =>
    obtain ⟨k, q, hk, hkb, rfl, hw, ht⟩ := hrel
    subst hw
    by_cases hlt : k < b.length
    · by_cases hla : k < a.length
      · obtain ⟨b1, o1, c1, e1, _, g1⟩ := HU.out.at k hla
        cases e1
        obtain ⟨b2, o2, c2, e2, _, g2⟩ := HV.out.at k hlt
        cases e2
        rw [less_at a b k hlt hla] at ht
        obtain ⟨x, hx⟩ : ∃ x, a[k] = x := ⟨_, rfl⟩
        obtain ⟨y, hy⟩ : ∃ y, b[k] = y := ⟨_, rfl⟩
        rw [hx] at g1 ht
        rw [hy] at g2 ht
        have hxy := arr_eq (x := x) (y := y)
        have hless := bytes_lt x y
        have ex : (⟨x.toArray⟩ : ByteArray).toList = x := by rw [Lib.toList_data]
        have ey : (⟨y.toArray⟩ : ByteArray).toList = y := by rw [Lib.toList_data]
        rw [← ex, ← ey] at hless
        have hltx : ltB (⟨x.toArray⟩ : ByteArray).toList (⟨y.toArray⟩ : ByteArray).toList = ltB x y := by rw [ex, ey]
        rw [hltx] at hless
        generalize (⟨x.toArray⟩ : ByteArray) = X at *
        generalize (⟨y.toArray⟩ : ByteArray) = Y at *
        have hne : ((k : Int) == (a.length : Int)) = false := by rw [beq_eq_false_iff_ne]; omega
        have Ht := hide ht
        have Hxy := hide hxy
        have Hless := hide hless
        clear ht hx hy hxy hless ex ey hltx
        go_wp2
        go_quiet (fail)
        go_wp2
        · have hh : (!(X.toList == Y.toList)) = true := by assumption
          have hne2 : x ≠ y := by
            rw [Hxy.out] at hh
            simpa using hh
          go_quiet (fail)
          go_wp2
          all_goals go_ret
          all_goals refine ⟨ret_bool ?_, below_drewN (below_drewN (below_drewN (Below.refl _ _) _) _) _⟩
          all_goals rw [Hless.out, Ht.out, if_neg hne2]
        · have hh : (!(X.toList == Y.toList)) = false := by assumption
          have he : x = y := by
            rw [Hxy.out] at hh
            simpa using hh
          go_roundw
          case rel => exact ⟨k + 1, _, by omega, by omega, by go_num, rfl, by rw [Ht.out, if_pos he]⟩
          case measure => simp [intOf]; omega
      · have hke : k = a.length := by omega
        have hr : r = true := by rw [ht]; exact less_short a b k hlt (by omega)
        have hne : ((k : Int) == (a.length : Int)) = true := by rw [beq_iff_eq]; omega
        have Hr2 := hide hr
        clear ht hr hke
        go_wp2
        all_goals go_ret
        all_goals exact ⟨ret_bool Hr2.out.symm, below_drewN (Below.refl _ _) _⟩
    · have hr : r = false := by rw [ht]; exact less_end a b k (by omega)
      have Hr2 := hide hr
      clear ht hr
      go_wp2
      all_goals go_ret
      all_goals exact ⟨ret_bool Hr2.out.symm, below_drewN (Below.refl _ _) _⟩
end Go.Proofs.Ytikhggdigndhoaa
