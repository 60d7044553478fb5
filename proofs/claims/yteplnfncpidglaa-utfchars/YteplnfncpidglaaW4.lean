/-
  WALKS: awake: the statements' own first look.
-/
import Derived.Test.YteplnfncpidglaaW3
namespace Go.Proofs.Yteplnfncpidglaa
open Go.RowKit

theorem v1 : validB [195, 169] = true := by decide
theorem c1 : chars [195, 169] = [233] := by decide
theorem t1 : textR [233] = .tuple #[.string ⟨#[195, 169]⟩, .bool true] := by
  have a : allMay [233] = true := by decide
  have b : textL [233] = [195, 169] := by decide
  simp [textR, a, b]
theorem v2 : validB [195] = false := by decide
theorem c2 : (chars [97, 195, 169]).length = 2 := by decide

theorem chars_awake (w : World) :
    Calls Try.prog 10 #[.string ⟨#[195, 169]⟩] w fun e w' => ∃ g cap, e = .returned (.tuple #[.slice (some ⟨g, 0, none⟩) 1 cap, .bool true]) ∧ w'.cell? ⟨g, 0, none⟩ = some (.int .i64 233) ∧ Below w.heap.size w w' := by
  refine (chars_yes ⟨#[195, 169]⟩ w (by decide) v1).mono ?_
  rintro e w' ⟨v, rfl, hown, hb⟩
  have e1 : chars (⟨#[195, 169]⟩ : ByteArray).data.toList = [233] := c1
  rw [e1] at hown
  rcases IntsAt.of_owns hown with ⟨h, _⟩ | ⟨_, b, off, cap, rfl, hc⟩
  · cases h
  · rcases hown.2 with ⟨h, _⟩ | ⟨g, cap', cur, h, _⟩
    · cases h
    · injection h with h1 h2 h3
      injection h1 with h1
      injection h1 with h4 h5
      subst h4 h5
      exact ⟨b, cap, rfl, hc 0 (by simp), hb⟩

theorem text_awake (b : Nat) (w : World) (hc : w.cell? ⟨b, 0, none⟩ = some (.int .i64 233)) :
    Calls Try.prog 19 #[.slice (some ⟨b, 0, none⟩) 1 1] w fun e w' => e = .returned (.tuple #[.string ⟨#[195, 169]⟩, .bool true]) ∧ Below w.heap.size w w' := by
  have h := text_row [233] b 0 1 w (by simp) (by simp) (fun k hk => by
    have : k = 0 := by simp at hk; omega
    subst this
    exact hc)
  rw [t1] at h
  exact h

theorem valid_awake (w : World) : Calls Try.prog 14 #[.string ⟨#[195]⟩] w fun e w' => e = .returned (.bool false) ∧ Below w.heap.size w w' := by
  have h := valid_any ⟨#[195]⟩ w
  rw [show validB (⟨#[195]⟩ : ByteArray).data.toList = false from v2] at h
  exact h
theorem count_awake (w : World) : Calls Try.prog 16 #[.string ⟨#[97, 195, 169]⟩] w fun e w' => e = .returned (.int .i64 2) ∧ Below w.heap.size w w' := by
  have h := count_any ⟨#[97, 195, 169]⟩ w (by decide)
  rw [show (chars (⟨#[97, 195, 169]⟩ : ByteArray).data.toList).length = 2 from c2] at h
  exact h

set_option maxHeartbeats 1000000 in
theorem awake_any (w : World) : Calls Try.prog 9 #[] w fun e w' => e = .returned (.bool true) ∧ Below w.heap.size w w' := by
  go_enter Try.func9, Try.ntmps9
  go_wp2_with (go_at_call 10; refine (chars_awake _).mono ?_)
  rintro e w1 ⟨g, cap, rfl, hg, hb1⟩
  go_wp2_with (go_at_call 19; refine (text_awake w1.heap.size _ (by simp)).mono ?_)
  rintro e w2 ⟨rfl, hb2⟩
  have hg2 : w2.cell? ⟨g, 0, none⟩ = some (.int .i64 233) := by
    rw [hb2.cell (p := ⟨g, 0, none⟩) (by have := lt_of_cell hg; simp; omega)]
    rw [World.cell?_of_block (w := w1) (a := ⟨g, 0, none⟩) (Below.heap_alloc _ _ _ (lt_of_cell hg))]
    exact hg
  have hz1 := hb1.size
  have hz2 := hb2.size
  simp at hz2
  go_wp2_with (first | (go_at_call 14; refine (valid_awake _).mono ?_) | (go_at_call 16; refine (count_awake _).mono ?_))
  rintro e w3 ⟨rfl, hb3⟩
  have hz3 := hb3.size
  go_wp2_with (go_at_call 16; refine (count_awake _).mono ?_)
  rintro e w4 ⟨rfl, hb4⟩
  go_wp2
  go_ret
  have b2 : Below w.heap.size w w2 := (hb1.alloc hz1 _).trans (hb2.mono (by simp; omega))
  exact ⟨rfl, (b2.trans (hb3.mono (by omega))).trans (hb4.mono (by omega))⟩
end Go.Proofs.Yteplnfncpidglaa
