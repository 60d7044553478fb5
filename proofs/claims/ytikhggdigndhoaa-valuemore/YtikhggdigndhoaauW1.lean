/-
  WALKS: utf.May and the reference's May; utf.broken; utf.each, whatever closure it is handed.
-/
import Derived.Test.YtikhggdigndhoaaProg
import Derived.Test.YtikhggdigndhoaauU
import Derived.WalkKit
import Derived.WalkSpells
import Derived.WalkLawsBesides
import Derived.Lib.OthersKept
import Derived.Shelf.RegionOpenPlain
namespace Go.Proofs.Ytikhggdigndhoaau
open Go.RowKit

theorem hide {p : Prop} (h : p) : Hid p := h
theorem ret_bool {a b : Bool} (h : a = b) : Ending.returned (.bool a) = .returned (.bool b) := by rw [h]
theorem ret_int {k : IntKind} {a b : Int} (h : a = b) : Ending.returned (.int k a) = .returned (.int k b) := by rw [h]

set_option maxHeartbeats 400000 in
theorem rmay_any (c : Int) (w : World) :
    Calls Try.prog 52 #[.int .i64 c] w fun e w' => e = .returned (.bool (mayB c)) ∧ w' = w := by
  go_enter Try.func52, Try.ntmps52
  go_wp2
  all_goals go_ret
  all_goals refine ⟨ret_bool ?_, rfl⟩
  all_goals unfold mayB; simp [*]
  all_goals omega

set_option maxHeartbeats 400000 in
theorem broken_any (c : Int) (s : ByteArray) (w : World) :
    Calls Try.prog 51 #[.int .i32 c, .string s] w fun e w' => e = .returned (.bool (brokenB c s.data.toList)) ∧ w' = w := by
  have hx : (s.extract 0 3).toList = s.data.toList.take 3 := by rw [Lib.extract_toList]; rfl
  have hl : s.data.toList.length = s.size := by simp
  go_enter Try.func51, Try.ntmps51
  go_wp2
  · go_ret
    refine ⟨ret_bool ?_, rfl⟩
    unfold brokenB
    rw [Bool.eq_iff_iff]
    simp [*]
  · go_ret
    refine ⟨ret_bool ?_, rfl⟩
    unfold brokenB
    have : s.data.toList.take 3 ≠ [239, 191, 189] := by
      intro h
      have := congrArg List.length h
      simp at this
      omega
    simp [this]
  · go_ret
    refine ⟨ret_bool ?_, rfl⟩
    unfold brokenB
    simp
    intro h
    simp [h] at *


theorem drop_ne {s : ByteArray} {pos : Nat} (hp : pos < s.size) : s.data.toList.drop pos ≠ [] := by
  intro h
  have := congrArg List.length h
  simp at this
  omega
theorem extract_rest (s : ByteArray) (pos : Nat) : (s.extract pos s.size).data.toList = s.data.toList.drop pos := by
  rw [← Lib.toList_data, Lib.extract_toList]
  apply List.take_of_length_le
  simp

theorem broken_is (c : Int) (s : ByteArray) (w : World) (b : Bool) (h : brokenB c s.data.toList = b) :
    Calls Try.prog 51 #[.int .i32 c, .string s] w fun e w' => e = .returned (.bool b) ∧ w' = w := by
  subst h
  exact broken_any c s w

theorem chars_at {l : List UInt8} {cs : List Int} {t : List UInt8} (h : l = textL cs ++ t) (hm : allMay cs = true) (ht : t = [] ∨ badL t = true) : chars l = cs ∧ blen l = (textL cs).length := by
  rw [h]; exact chars_of cs t hm ht

set_option maxHeartbeats 1000000 in
/-- utf.each over any closure: 'Inv cs W': what the world is like when just the characters cs have been taken; 'Stop cs c W': when behind them c was refused. -/
theorem each_any (g : Nat) (lb : Array Value) (eg : ∀ args w, (callFunc g args).run Try.prog w = .ok (.enter g args) w) (s : ByteArray) (w : World)
    (Inv : List Int → World → Prop) (Stop : List Int → Int → World → Prop)
    (h0 : Inv [] (w.iter s 0))
    (hmove : ∀ cs W pos pos', Inv cs W → W.heap[w.heap.size]? = some (.stringIter s pos) → Inv cs (W.iterAt w.heap.size s pos'))
    (hstep : ∀ cs c W pos, Inv cs W → W.heap[w.heap.size]? = some (.stringIter s pos) → mayB c = true → cs.length < s.size →
      Calls Try.prog g (#[.int .i32 c] ++ lb) W fun e w' => ∃ b, e = .returned (.bool b) ∧ w'.heap[w.heap.size]? = some (.stringIter s pos) ∧ (b = true → Inv (cs ++ [c]) w') ∧ (b = false → Stop cs c w')) :
    Calls Try.prog 47 #[.string s, .func (.func g) #[] lb] w fun e w' =>
      (e = .returned (.int .i64 (blen s.data.toList)) ∧ Inv (chars s.data.toList) w') ∨
      (∃ cs c r, chars s.data.toList = cs ++ c :: r ∧ e = .returned (.int .i64 (textL cs).length) ∧ Stop cs c w') := by
  have Hm := hide hmove
  have Hs := hide hstep
  clear hmove hstep
  go_enter Try.func47, Try.ntmps47
  go_wp2
  go_loopw [] (fun wr => ∃ (cs : List Int) (t : List UInt8), wr.heap[w.heap.size]? = some (.stringIter s (textL cs).length) ∧ s.data.toList = textL cs ++ t ∧ allMay cs = true ∧ Inv cs wr) (fun wr => s.size - wr.iterPos (w.heap.size))
  case atStart => exact ⟨[], s.data.toList, World.iter_heap w s 0, rfl, rfl, h0⟩
  case round =>
    obtain ⟨cs, t, hit, hst, hm, hI⟩ := hrel
    have hlen : s.size = (textL cs).length + t.length := by
      have := congrArg List.length hst
      simpa using this
    have hcl := (textL_len cs).1
    generalize hpe : (textL cs).length = pos at hit hlen hcl
    have hdr : s.data.toList.drop pos = t := by rw [hst, ← hpe, List.drop_left]
    have hdd : Lib.decodeL t = Utf8.decode s pos := by rw [← hdr]; exact Lib.decodeL_drop s pos
    have hrest : (s.extract pos s.size).data.toList = t := by rw [extract_rest, hdr]
    have Hst := hide hst
    have Hpe := hide hpe
    have Hdd := hide hdd
    have Hrest := hide hrest
    have Hlen := hide hlen
    have hm1 := dec_may t
    rw [hdd] at hm1
    have Hm1 := hide hm1
    clear hst hdr hpe hdd hrest hlen hm1
    by_cases hp : pos < s.size
    · have hne : t ≠ [] := by intro h; have := Hlen.out; rw [h] at this; simp at this; omega
      have hbr := broken_eq t hne
      rw [Hdd.out] at hbr
      have Hbr := hide hbr
      have Hne := hide hne
      clear hbr hne
      have hnx : ∀ ty, (Instr.next (.pointer (some ⟨w.heap.size, 0, none⟩)) true ty).run Try.prog wr = _ := fun ty => Lib.run_next_any_at wr (w.heap.size) s pos ty hit hp
      have hit2 := Lib.iterAt_heap wr w.heap.size s pos (pos + (Utf8.decode s pos).2) hit
      have hI2 := Hm.out cs wr pos (pos + (Utf8.decode s pos).2) hI hit
      cases hb : badL t with
      | true =>
        have Hb := hide hb
        clear hb
        go_wp2_with (go_at_call 51; refine (broken_is _ _ _ true (by rw [Hrest.out, Hbr.out]; exact Hb.out)).mono ?_; rintro e w' ⟨rfl, hw⟩; rw [hw])
        go_ret
        obtain ⟨hc1, hc2⟩ := chars_at Hst.out hm (.inr Hb.out)
        exact .inl ⟨by rw [hc2, Hpe.out]; rfl, by rw [hc1]; exact hI2⟩
      | false =>
        have Hb := hide hb
        clear hb
        go_wp2_with (first | (go_at_call 51; refine (broken_is _ _ _ false (by rw [Hrest.out, Hbr.out]; exact Hb.out)).mono ?_; rintro e w' ⟨rfl, hw⟩; rw [hw]) | (go_at_fn g; refine (Hs.out cs _ _ _ hI2 hit2 Hm1.out (by omega)).mono ?_))
        rintro e w1 ⟨b, rfl, hit3, hT, hF⟩
        have hg := dec_good t Hne.out Hb.out
        rw [Hdd.out] at hg
        have hst2 : s.data.toList = textL (cs ++ [((Utf8.decode s pos).1 : Int)]) ++ t.drop (Utf8.decode s pos).2 := by
          rw [textL_append, textL_one, List.append_assoc, ← hg.1]; exact Hst.out
        have hm2 : allMay (cs ++ [((Utf8.decode s pos).1 : Int)]) = true := by
          rw [allMay_append, hm, allMay_cons, Hm1.out]; rfl
        have hpos2 : (textL (cs ++ [((Utf8.decode s pos).1 : Int)])).length = pos + (Utf8.decode s pos).2 := by
          rw [textL_append, textL_one, List.length_append, Hpe.out, hg.2]
        have hwd := Lib.width_pos s pos
        have Hst2 := hide hst2
        have Hpos2 := hide hpos2
        clear hst2 hpos2 hg
        cases b with
        | true =>
          have hI3 := hT rfl
          clear hT hF
          go_wp2
          go_roundw
          case rel => exact ⟨_, _, by rw [Hpos2.out]; exact hit3, Hst2.out, hm2, hI3⟩
          case measure =>
            simp only [World.iterPos, hit3, hit]
            omega
        | false =>
          have hS := hF rfl
          clear hT hF
          go_wp2
          go_ret
          refine .inr ⟨cs, ((Utf8.decode s pos).1 : Int), chars (t.drop (Utf8.decode s pos).2), ?_, by rw [Hpe.out]; rfl, hS⟩
          have := (chars_append _ (t.drop (Utf8.decode s pos).2) hm2).1
          rw [← Hst2.out] at this
          rw [this]
          simp
    · have hnx : ∀ ty, (Instr.next (.pointer (some ⟨w.heap.size, 0, none⟩)) true ty).run Try.prog wr = _ := fun ty => Lib.run_next_end_at wr (w.heap.size) s pos ty hit hp
      have ht : t = [] := List.eq_nil_of_length_eq_zero (by have := Hlen.out; omega)
      obtain ⟨hc1, hc2⟩ := chars_at Hst.out hm (.inl ht)
      have e1 : s.size = pos := by have := Hlen.out; rw [ht] at this; simpa using this
      have He := hide e1
      have Ht := hide ht
      have Hc1 := hide hc1
      have Hc2 := hide hc2
      clear e1 ht hc1 hc2
      go_wp2
      go_ret
      exact .inl ⟨by rw [Hc2.out, Hpe.out]; exact ret_int (by rw [He.out]), by rw [Hc1.out]; exact hI⟩
end Go.Proofs.Ytikhggdigndhoaau
