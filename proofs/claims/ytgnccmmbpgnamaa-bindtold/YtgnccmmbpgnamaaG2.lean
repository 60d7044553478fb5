/-
  WALKS: the program's rising (layer 9).
-/
import Derived.Test.YtgnccmmbpgnamaaG1
import Derived.Test.YtgnccmmbpgnamaaL1
namespace Go.Proofs.Ytgnccmmbpgnamaa
open Go.RowKit

theorem law9 : Maps.Keyed Try.prog 9 := Maps.string_keyed Try.underlying9
theorem map_later {H : Type} {W W' : World} {P : Program} {k : TypeId} {R : Value → Option (DataW H × List MemPlace)} {b n : Nat} {D : DataW H} (h : W.ownsMap P k R b n D) (bb : Below W.heap.size W W') : W'.ownsMap P k R b n D := by
  have hl := h.lt
  unfold World.ownsMap at *
  rw [bb.block b hl]
  exact h
theorem sorted_told {H : Type} (b nn : Nat) (D : DataW H) (R : Value → Option (DataW H × List MemPlace)) (names : List (List UInt8)) (w : World) (hown : w.ownsMap Try.prog 9 R b nn D) (hn : nn ≤ 1000000) (hr : Rises names) (hm : ∀ x, x ∈ names ↔ Maps.has D (.string x) = true) :
    Calls Try.prog 40 #[.func (.func 50) #[] #[.pointer (some ⟨w.heap.size, 0, none⟩)]] (w.alloc (.cells #[.map (some b)] 50)) fun e w' => ∃ a c, e = .returned (.slice a names.length c) ∧ StrsAt w' (.slice a names.length c) names ∧ Below w.heap.size w w' := by
  have hsz := size_own hown
  have bA := b_alloc w (.cells #[.map (some b)] 50)
  refine (sorted_any b nn w.heap.size D R _ (map_later hown bA) (by simp) ((Bx.made w #[.map (some b)] 50).cell 0 _ rfl) (by unfold maxLen; omega) (by omega)).mono ?_
  rintro e w' ⟨v, ss, rfl, hp, hrow, _, bb⟩
  have he := sorted_names hown law9 hr hm hp
  rw [he] at hrow
  have hl : ss.length = names.length := by rw [← he]; exact (List.length_mergeSort ss).symm
  rw [hl] at hrow
  have hs : StrsAt w' v names := StrsAt.of_owns hrow
  obtain ⟨a, c, rfl⟩ := hs.form
  exact ⟨a, c, rfl, hs, bA.trans (bb.mono bA.size)⟩
set_option maxRecDepth 20000 in
set_option maxHeartbeats 4000000 in
theorem rising_any {H : Type} (b nn : Nat) (D : DataW H) (R : Value → Option (DataW H × List MemPlace)) (names : List (List UInt8)) (w : World) (hown : w.ownsMap Try.prog 9 R b nn D) (hn : nn ≤ 1000000) (hr : Rises names) (hm : ∀ x, x ∈ names ↔ Maps.has D (.string x) = true)
    (hl : names.length ≤ 1000) (hs : ∀ x ∈ names, x.length ≤ 1000) : Calls Try.prog 30 #[.map (some b)] w fun e w' => TextsPost w names e w' := by
  obtain ⟨i0, hi, hz0, hz1, hz2⟩ := info_parts info9
  have HS := hide (sorted_told b nn D R names w hown hn hr hm)
  have Hs := hide hs
  clear hown hr hm hs
  go_enter Try.func30, Try.ntmps30
  go_wp2_with (first
    | (go_at_call 41; refine (keys_any _ _).mono ?_; rintro e w1 ⟨rfl, rfl⟩)
    | (go_at_call 40; refine HS.out.mono ?_; rintro e w2 ⟨va, vc, rfl, T, bb⟩; clear HS))
  have HT := hide T
  clear T
  go_loopw [3, 10] (fun o i wr => ∃ (q : Nat) (ms : List (List UInt8)) (a2 : Option Addr) (c2 : Nat), q ≤ names.length ∧ i = .int .i64 q ∧ names.take q = ms ∧ ms.length = q ∧ o = .slice a2 ms.length c2 ∧ Sr w2 wr (.slice a2 ms.length c2) ms) (fun _ i _ => names.length - (intOf i).toNat)
  case atStart => exact ⟨0, [], none, 0, Nat.zero_le _, rfl, rfl, rfl, rfl, Sr.nil _⟩
  case round =>
    obtain ⟨q, ms, a2, c2, hq, rfl, htk, hml, rfl, R2⟩ := hrel
    by_cases hlt : q < names.length
    · obtain ⟨b2, o2, c3, e, hb2, g0⟩ := HT.out.at q hlt
      cases e
      have hnx : names.take (q + 1) = ms ++ [names[q]] := by rw [List.take_succ_eq_append_getElem hlt, htk]
      have hxl := Hs.out _ (List.getElem_mem hlt)
      obtain ⟨x, hx⟩ : ∃ x, names[q] = x := ⟨_, rfl⟩
      rw [hx] at g0 hnx hxl
      obtain ⟨X, hX⟩ : ∃ X : ByteArray, (⟨x.toArray⟩ : ByteArray) = X := ⟨_, rfl⟩
      have hXs : X.size ≤ 281474976710656 := by rw [← hX]; show x.toArray.size ≤ _; simp; omega
      rw [hX] at g0
      have HXd : Hid (X.data.toList = x) := hide (by rw [← hX])
      have g1 := (R2.bel.cell (p := ⟨b2, o2 + q, none⟩) hb2).trans g0
      have hml2 : ms.length ≤ 1000 := by omega
      have Hnx := hide hnx
      have Hml := hide hml
      clear hnx hxl hx hX htk g0 hml
      go_wp2_with (first
        | (go_at_call 42; refine (clone_any X _ hXs).mono ?_; rintro e w4 ⟨rfl, b4⟩; have R4 := hide (R2.next b4))
        | (at_builtin; refine wpList_append_lies _ rfl _ _ 25 rfl w2.heap.size 9 i0 (.string ⟨#[]⟩) 1 16 Try.underlying25 hi hz0 hz1 hz2 rfl (by decide) _ ms.length (strsV ms) rfl (R4.out.alloc (.cells #[.string X] 9)).row ⟨w4.heap.size, 0, none⟩ 1 1 [.string X] rfl rfl news1 ?c2 (by decide) ?c3 ?c4 ?c5 _ rfl ?_))
      case c2 => intro u hu; simp at hu; subst hu; rfl
      case c3 => unfold maxLen; omega
      case c4 => omega
      case c5 => have := R4.out.bel.size; simp; omega
      intro g cap w5 hown hgrow hat hlt4
      have R5 := R4.out.snoc HXd.out hgrow hown
      have hl4 : (ms ++ [x]).length = ms.length + 1 := by simp
      have HR5 := hide R5
      clear hown hgrow hat hlt4 R5
      go_wp2
      go_roundw
      case rel => exact ⟨q + 1, ms ++ [x], some ⟨g, 0, none⟩, cap, by omega, by go_num, Hnx.out, by have := Hml.out; omega, by rw [hl4], HR5.out⟩
      case measure => simp [intOf]; omega
    · have he : ms = names := by rw [← htk]; exact List.take_of_length_le (by omega)
      have He := hide he
      have HR := hide R2
      clear he htk hml R2
      go_wp2
      go_ret
      rw [← He.out]
      exact ⟨_, _, rfl, StrsAt.of_owns HR.out.row, bb.trans (HR.out.bel.mono bb.size)⟩
end Go.Proofs.Ytgnccmmbpgnamaa
