/-
  THE WALK of UtfChars, and the reference's Chars and Prefix.
-/
import Derived.Test.YteplnfncpidglaaW8
import Derived.Test.YteplnfncpidglaaL5
namespace Go.Proofs.Yteplnfncpidglaa
open Go.RowKit
open Go.Lib (encodeRune)

theorem begin_row (s : ByteArray) (w : World) (hs : s.size ≤ 17592186044415) :
    Calls Try.prog 12 #[.string s] w fun e w' => ∃ a cap, e = .returned (.tuple #[.slice a (chars s.data.toList).length cap, .int .i64 (blen s.data.toList)]) ∧ IntsAt w' (.slice a (chars s.data.toList).length cap) (chars s.data.toList) ∧ Below w.heap.size w w' := by
  refine (begin_any s w hs).mono ?_
  rintro e w' ⟨v, rfl, hown, hb⟩
  have hi := IntsAt.of_owns hown
  obtain ⟨a, cap, rfl⟩ := slice_of hi
  exact ⟨a, cap, rfl, hi, hb⟩

/-- what both Chars answer: the characters, if the text is valid -/
def charsV (l : List UInt8) : List Int := if validB l = true then chars l else []

theorem uchars_any (s : ByteArray) (w : World) (hs : s.size ≤ 17592186044415) :
    Calls Try.prog 10 #[.string s] w fun e w' => ∃ a cap, e = .returned (.tuple #[.slice a (charsV s.data.toList).length cap, .bool (validB s.data.toList)]) ∧ IntsAt w' (.slice a (charsV s.data.toList).length cap) (charsV s.data.toList) ∧ Below w.heap.size w w' := by
  cases hv : validB s.data.toList with
  | true =>
    simp only [charsV, hv, if_true]
    exact chars_row s w hs hv
  | false =>
    simp only [charsV, hv, Bool.false_eq_true, if_false]
    refine (chars_no s w hs hv).mono ?_
    rintro e w' ⟨rfl, hb⟩
    exact ⟨none, 0, rfl, .inl ⟨rfl, _, _, rfl⟩, hb⟩

set_option maxHeartbeats 400000 in
theorem rchars_yes (s : ByteArray) (w : World) (hs : s.size ≤ 17592186044415) (hv : validB s.data.toList = true) :
    Calls Try.prog 11 #[.string s] w fun e w' => ∃ a cap, e = .returned (.tuple #[.slice a (chars s.data.toList).length cap, .bool true]) ∧ IntsAt w' (.slice a (chars s.data.toList).length cap) (chars s.data.toList) ∧ Below w.heap.size w w' := by
  have hb : blen s.data.toList = s.size := by simpa [validB] using hv
  have ht : ((blen s.data.toList : Int) != (s.size : Int)) = false := by simp [hb]
  have Hb := hide hb
  clear hb hv
  go_enter Try.func11, Try.ntmps11
  go_wp2_with (go_at_call 12; refine (begin_row _ _ hs).mono ?_)
  rintro e w1 ⟨a, cap, rfl, h, b1⟩
  go_wp2
  go_ret2
  exact ⟨a, cap, rfl, h, b1⟩
set_option maxHeartbeats 400000 in
theorem rchars_no (s : ByteArray) (w : World) (hs : s.size ≤ 17592186044415) (hv : validB s.data.toList = false) :
    Calls Try.prog 11 #[.string s] w fun e w' => e = .returned (.tuple #[.slice none 0 0, .bool false]) ∧ Below w.heap.size w w' := by
  have hb : blen s.data.toList ≠ s.size := by simpa [validB] using hv
  have ht : ((blen s.data.toList : Int) != (s.size : Int)) = true := by simp; omega
  clear hb hv
  go_enter Try.func11, Try.ntmps11
  go_wp2_with (go_at_call 12; refine (begin_row _ _ hs).mono ?_)
  rintro e w1 ⟨a, cap, rfl, h, b1⟩
  go_wp2
  go_ret2
  exact ⟨rfl, b1⟩
theorem rchars_any (s : ByteArray) (w : World) (hs : s.size ≤ 17592186044415) :
    Calls Try.prog 11 #[.string s] w fun e w' => ∃ a cap, e = .returned (.tuple #[.slice a (charsV s.data.toList).length cap, .bool (validB s.data.toList)]) ∧ IntsAt w' (.slice a (charsV s.data.toList).length cap) (charsV s.data.toList) ∧ Below w.heap.size w w' := by
  cases hv : validB s.data.toList with
  | true =>
    simp only [charsV, hv, if_true]
    exact rchars_yes s w hs hv
  | false =>
    simp only [charsV, hv, Bool.false_eq_true, if_false]
    refine (rchars_no s w hs hv).mono ?_
    rintro e w' ⟨rfl, hb⟩
    exact ⟨none, 0, rfl, .inl ⟨rfl, _, _, rfl⟩, hb⟩

theorem pref_end {zs : List Int} {k : Nat} {m : Int} (h : k = zs.length ∨ m ≤ k) (hk : k = 0 ∨ (k : Int) ≤ m) : zs.take k = zs.take m.toNat := by
  rcases h with h | h
  · rw [List.take_of_length_le (by omega), ]
    rcases hk with h0 | h0
    · have : zs = [] := List.eq_nil_of_length_eq_zero (by omega)
      simp [this]
    · rw [List.take_of_length_le (by omega)]
  · rcases hk with h0 | h0
    · rw [h0]; congr 1; omega
    · congr 1; omega

set_option maxHeartbeats 1000000 in
theorem rprefix_any (s : ByteArray) (m : Int) (w : World) (hs : s.size ≤ 17592186044415) :
    Calls Try.prog 18 #[.string s, .int .i64 m] w fun e w' => e = .returned (.string ⟨(prefL s.data.toList m).toArray⟩) ∧ Below w.heap.size w w' := by
  have hcl := chars_len s.data.toList
  simp only [Array.length_toList, ByteArray.size_data] at hcl
  have hmay := chars_may s.data.toList
  have hdef : prefL s.data.toList m = textL ((chars s.data.toList).take m.toNat) := rfl
  generalize hP : prefL s.data.toList m = P at hdef ⊢
  have HP := hide hdef
  clear hdef hP
  go_enter Try.func18, Try.ntmps18
  go_wp2_with (go_at_call 12; refine (begin_row _ _ hs).mono ?_)
  rintro e w1 ⟨a, cap, rfl, hI, b1⟩
  generalize chars s.data.toList = zs at hcl hmay HP hI ⊢
  have Hmay := hide hmay
  have HI := hide hI
  clear hmay hI
  go_wp2
  go_loopw [7, 8] (fun t i wr => ∃ k : Nat, k ≤ zs.length ∧ (k = 0 ∨ (k : Int) ≤ m) ∧ i = .int .i64 k ∧ t = .string ⟨(textL (zs.take k)).toArray⟩ ∧ Below w1.heap.size w1 wr) (fun _ i _ => zs.length - (intOf i).toNat)
  case atStart => exact ⟨0, Nat.zero_le _, .inl rfl, rfl, rfl, Below.refl _ _⟩
  case round =>
    obtain ⟨k, hk, hkm, rfl, rfl, hB⟩ := hrel
    have Hkm := hide hkm
    clear hkm
    by_cases hlt : k < zs.length
    · by_cases hlm : (k : Int) < m
      · rcases HI.out with ⟨h, _⟩ | ⟨hp, b, off, cap', he, hc⟩
        · rw [h] at hlt; simp at hlt
        · injection he with e1 e2 e3
          subst e1 e3
          have hcx : wr.cell? ⟨b, off + k, none⟩ = some (.int .i64 (zs.getD k 0)) := (hB.cell (p := ⟨b, off + k, none⟩) (lt_of_cell (hc 0 hp))).trans (hc k hlt)
          generalize hcc : zs.getD k 0 = c at hcx
          have hmc : mayB c = true := by
            have h := Hmay.out
            unfold allMay at h
            rw [List.all_eq_true] at h
            rw [← hcc]
            exact h _ (by rw [List.getD_eq_getElem?_getD, List.getElem?_eq_getElem hlt]; simp)
          have Hcc := hide hcc
          have Hmc := hide hmc
          have hl4 := (textL_len (zs.take k)).2
          have hl5 : (zs.take k).length ≤ k := List.length_take_le _ _
          have hl6 := enc_len c
          clear hcc hmc hc e2
          go_wp2_with (go_at_call 30; refine (one_any _ _ Hmc.out).mono ?_; rintro e w2 ⟨rfl, b2⟩)
          go_roundw
          case rel =>
            refine ⟨k + 1, hlt, .inr (by omega), by go_num, ?_, hB.trans (b2.mono hB.size)⟩
            rw [take_snoc zs k hlt, Hcc.out, textL_append, textL_one, string_add]
          case measure => simp [intOf]; omega
      · go_wp2
        go_ret
        refine ⟨?_, b1.trans (hB.mono b1.size)⟩
        rw [HP.out, ← pref_end (k := k) (.inr (by omega)) Hkm.out]
        rfl
    · go_wp2
      all_goals go_ret
      all_goals refine ⟨?_, b1.trans (hB.mono b1.size)⟩
      all_goals rw [HP.out, ← pref_end (k := k) (.inl (by omega)) Hkm.out]
      all_goals rfl

set_option maxHeartbeats 2000000 in
theorem chars_walk (s : ByteArray) (m : Int) (w : World) :
    Calls Try.prog 3 #[.string s, .int .i64 m] w fun e w' => e = .returned (.bool true) ∧ Below w.heap.size w w' := by
  have b := Below.refl w.heap.size w
  by_cases h0 : 2000 < s.size
  · go_enter Try.func3, Try.ntmps3
    go_wp2_with (go_at_call 9; refine (awake_any _).mono ?_; rintro e w' ⟨rfl, bv⟩; replace b := b.trans (bv.mono b.size))
    go_ret
    exact ⟨rfl, b⟩
  · have hcl := chars_len s.data.toList
    simp only [Array.length_toList, ByteArray.size_data] at hcl
    have hcv : (charsV s.data.toList).length ≤ 2000 := by
      unfold charsV
      split
      · omega
      · simp
    go_enter Try.func3, Try.ntmps3
    go_wp2_with (go_at_call 9; refine (awake_any _).mono ?_; rintro e w' ⟨rfl, bv⟩; replace b := b.trans (bv.mono b.size))
    refine (uchars_any s _ (by omega)).mono ?_
    rintro e w2 ⟨a, cap, rfl, hi, b2⟩
    replace b := b.trans (b2.mono b.size)
    have Hi := hide hi
    clear hi
    go_wp2_with fail
    refine (rchars_any s _ (by omega)).mono ?_
    rintro e w3 ⟨a', cap', rfl, hi', b3⟩
    replace b := b.trans (b3.mono b.size)
    have Hi2 := hide (Hi.out.later b3)
    have Hi' := hide hi'
    clear hi'
    go_wp2_with fail
    refine (begin_row s _ (by omega)).mono ?_
    rintro e w4 ⟨a'', cap'', rfl, _, b4⟩
    replace b := b.trans (b4.mono b.size)
    have Hi3 := hide (Hi2.out.later b4)
    have Hi4 := hide (Hi'.out.later b4)
    go_wp2_with fail
    refine (same_yes _ _ _ _ (by omega) Hi3.out Hi4.out).mono ?_
    rintro e w5 ⟨rfl, b5⟩
    replace b := b.trans (b5.mono b.size)
    go_wp2_with (first | (go_at_call 14; refine (valid_any _ _).mono ?_; rintro e w' ⟨rfl, bv⟩; replace b := b.trans (bv.mono b.size)) | (go_at_call 15; refine (bad_any _ _).mono ?_; rintro e w' ⟨rfl, bv⟩; replace b := b.trans (bv.mono b.size)) | (go_at_call 16; refine (count_any _ _ (by omega)).mono ?_; rintro e w' ⟨rfl, bv⟩; replace b := b.trans (bv.mono b.size)) | (go_at_call 17; refine (prefix_any _ _ _ (by omega)).mono ?_; rintro e w' ⟨rfl, bv⟩; replace b := b.trans (bv.mono b.size)) | (go_at_call 18; refine (rprefix_any _ _ _ (by omega)).mono ?_; rintro e w' ⟨rfl, bv⟩; replace b := b.trans (bv.mono b.size)))
    go_ret
    exact ⟨rfl, b⟩
end Go.Proofs.Yteplnfncpidglaa
