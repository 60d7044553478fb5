/-
  WALKS: two variables compared; awake (layer 6).
-/
import Derived.Test.YtcglkekilaokaaaDoorW7
import Derived.Laws.StructEq
namespace Go.Proofs.YtcglkekilaokaaaDoor
open Go.RowKit

theorem fields23 : Tryd.prog.underlying 23 = some (.struct (Tryd.prog.fieldsOf 23)) := by
  unfold Program.fieldsOf; rw [Tryd.underlying23]
theorem held23 : Tryd.prog.stoodInHeld 23 = false := by kernel_rfl
theorem guard23 : Tryd.prog.eqGuardType Tryd.prog.depth 23 = false := by kernel_rfl
theorem eq23 (a a' : ByteArray) (m m' : Int) (s s' : Bool) (w : World) : (Op.equalIn 10000 23 (.agg #[.string a, .int .i64 m, .bool s]) (.agg #[.string a', .int .i64 m', .bool s'])).run Tryd.prog w = .ok (a.toList == a'.toList && m == m' && s == s') w := by
  rw [show (10000 : Nat) = 9999 + 1 from rfl, run_equalIn_struct w 9999 23 _ _ fields23 held23]
  unfold Program.fieldsOf
  rw [Tryd.underlying23]
  go_simp
  by_cases h1 : a.toList = a'.toList <;> by_cases h2 : m = m' <;> by_cases h3 : s = s' <;> simp [h1, h2, h3]
/-- variables that are the same -/
theorem eq23_same (a : ByteArray) (m : Int) (s : Bool) (w : World) : (Op.equalIn 10000 23 (.agg #[.string a, .int .i64 m, .bool s]) (.agg #[.string a, .int .i64 m, .bool s])).run Tryd.prog w = .ok true w := by
  rw [eq23]; simp
theorem aw1 : isX [97, 58, 51] = true := by decide +kernel
theorem aw2 : isX [97, 58, 48] = false := by decide +kernel
theorem aw3 : badX [97, 58, 48] = 2 := by decide +kernel
theorem aw4 : endN [97, 58, 51] = 1 := by decide +kernel
theorem aw5 : specX [97, 58, 51] = ⟨[97], 3, false⟩ := by
  unfold specX restX; rw [aw4]; rfl
theorem aw6 : putL ⟨[98], 0, true⟩ = [98, 42] := by decide +kernel

set_option maxRecDepth 20000 in
set_option maxHeartbeats 1000000 in
theorem awake_any (w : World) (RN : Ran w) : Calls Tryd.prog 9 #[] w fun e w' => e = .returned (.bool true) ∧ Below w.heap.size w w' := by
  have B := Below.refl w.heap.size w
  have hg := guard23
  have he := eq23_same
  obtain ⟨s1, e1⟩ : ∃ s : ByteArray, s = ⟨#[97, 58, 51]⟩ := ⟨_, rfl⟩
  have k1 : isX s1.data.toList = true := by rw [e1]; exact aw1
  have n1 : tkN s1 = ⟨#[97]⟩ := by
    unfold tkN; rw [k1, if_pos rfl]; apply arr_ext; rw [nmX_list, e1]
    show List.take (endN [97, 58, 51]) [97, 58, 51] = _
    rw [aw4]; rfl
  have m1 : tkM s1 = 3 := by
    unfold tkM; rw [k1, if_pos rfl, e1]
    show (specX [97, 58, 51]).max = 3
    rw [aw5]
  have t1 : tkS s1 = false := by
    unfold tkS; rw [k1, if_pos rfl, e1]
    show (specX [97, 58, 51]).star = false
    rw [aw5]
  have b1 : (badX s1.data.toList : Int) = 3 := by rw [badX_is k1, e1]; rfl
  have r1 : tkE s1 = 0 := by unfold tkE; rw [k1, if_pos rfl]
  rw [e1] at k1 n1 m1 t1 b1 r1
  have H1 := hide n1
  have H2 := hide m1
  have H3 := hide t1
  have H4 := hide b1
  have H5 := hide r1
  have k2 : isX (⟨#[97, 58, 48]⟩ : ByteArray).data.toList = false := aw2
  have G1 : Hid (tkN ⟨#[97, 58, 48]⟩ = ⟨#[]⟩) := by show _ = _; unfold tkN; rw [k2]; rfl
  have G2 : Hid (tkM ⟨#[97, 58, 48]⟩ = 0) := by show _ = _; unfold tkM; rw [k2]; rfl
  have G3 : Hid (tkS ⟨#[97, 58, 48]⟩ = false) := by show _ = _; unfold tkS; rw [k2]; rfl
  have G4 : Hid ((badX (⟨#[97, 58, 48]⟩ : ByteArray).data.toList : Int) = 2) := by show _ = _; exact congrArg Nat.cast aw3
  have G5 : Hid (tkE ⟨#[97, 58, 48]⟩ = 2) := by show _ = _; unfold tkE; rw [k2]; rfl
  clear k1 n1 m1 t1 b1 r1 k2
  have T0 : Hid True := trivial
  go_enter Tryd.func9, Tryd.ntmps9
  go_wp2_with (first
    | (go_at_call 10; have z := T0; refine (pxtk_is ⟨#[97, 58, 51]⟩ ⟨#[97]⟩ 3 false 3 0 _ (by decide) H1.out H2.out H3.out H4.out H5.out (by first | with_reducible exact RN.at B | with_reducible exact RN.at (B.alloc B.size _) | with_reducible exact RN.at T.below | with_reducible exact RN.at T.drew.below | with_reducible exact RN.alloc _ | with_reducible exact RN)).mono ?_; rintro e w1 ⟨rfl, bb⟩; replace B := B.trans (bb.mono B.size); clear bb T0 z)
    | (go_at_call 10; refine (pxtk_is ⟨#[97, 58, 48]⟩ ⟨#[]⟩ 0 false 2 2 _ (by decide) G1.out G2.out G3.out G4.out G5.out (by first | with_reducible exact RN.at B | with_reducible exact RN.at (B.alloc B.size _) | with_reducible exact RN.at T.below | with_reducible exact RN.at T.drew.below | with_reducible exact RN.alloc _ | with_reducible exact RN)).mono ?_; rintro e w1 ⟨rfl, bb⟩; have X := (Bx.made _ #[.string ⟨#[97]⟩, .int .i64 3, .bool false] 23).next bb; replace B := bel_alloc B bb; clear bb; have x0 := fun o => (X.later o).cell 0 _ rfl; have x1 := fun o => (X.later o).cell 1 _ rfl; have x2 := fun o => (X.later o).cell 2 _ rfl)
    | (go_at_call 14; refine (pxput_is ⟨#[98]⟩ 0 true ⟨#[98, 42]⟩ _ (by decide) aw6.symm (by first | with_reducible exact RN.at B | with_reducible exact RN.at (B.alloc B.size _) | with_reducible exact RN.at T.below | with_reducible exact RN.at T.drew.below | with_reducible exact RN.alloc _ | with_reducible exact RN)).mono ?_; rintro e w1 ⟨rfl, bb⟩; replace B := bel_alloc B bb; clear bb))
  go_ret
  exact ⟨rfl, B⟩
end Go.Proofs.YtcglkekilaokaaaDoor
