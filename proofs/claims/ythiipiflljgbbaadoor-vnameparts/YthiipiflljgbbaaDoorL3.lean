/-
  THE WALK of VnameParts.
-/
import Derived.Test.YthiipiflljgbbaaDoorW7
namespace Go.Proofs.YthiipiflljgbbaaDoor
open Go.RowKit

theorem join_le (ps : List (List UInt8)) : ∀ p ∈ ps, p.length ≤ (joinP ps).length := by
  induction ps with
  | nil => simp
  | cons x t ih =>
    cases t with
    | nil => intro p hp; simp at hp; subst hp; exact Nat.le_refl _
    | cons y r =>
      intro p hp
      have e : (joinP (x :: y :: r)).length = x.length + 1 + (joinP (y :: r)).length := by
        show (x ++ 46 :: joinP (y :: r)).length = _
        simp; omega
      rcases List.mem_cons.1 hp with h | h
      · rw [h]; omega
      · have := ih p h; omega
theorem join_next {ps : List (List UInt8)} {k : Nat} (h : k < ps.length) : joinP (ps.take (k + 1)) = if k = 0 then ps.getD k [] else joinP (ps.take k) ++ 46 :: ps.getD k [] := by
  rw [list_snoc h]
  split
  · rename_i h0; subst h0; rfl
  · rename_i h0
    exact join_snoc _ _ (by intro e; rcases List.take_eq_nil_iff.1 e with e | e; exact h0 e; rw [e] at h; simp at h)
theorem getD_mem {ps : List (List UInt8)} {k : Nat} (h : k < ps.length) : ps.getD k [] ∈ ps := by
  rw [List.getD_eq_getElem?_getD, List.getElem?_eq_getElem h]; exact List.getElem_mem h
/-- the texts in memory -/
def CellsP (W : World) (b off : Nat) (ps : List (List UInt8)) : Prop := ∀ k, k < ps.length → W.cell? ⟨b, off + k, none⟩ = some (.string ⟨(ps.getD k []).toArray⟩)
theorem CellsP.later {W W' : World} {b off : Nat} {ps : List (List UInt8)} (h : CellsP W b off ps) (bb : Below W.heap.size W W') : CellsP W' b off ps :=
  fun k hk => (bb.cell (p := ⟨b, off + k, none⟩) (lt_of_cell (h k hk))).trans (h k hk)

theorem psplit_ne (s : ByteArray) (ps : List (List UInt8)) (w : World) (hs : s.size ≤ 100000) (hp : 0 < ps.length) (h : splitL s.data.toList = ps) :
    Calls Tryd.prog 17 #[.string s] w fun e w' => ∃ b off cap, e = .returned (.slice (some ⟨b, off, none⟩) ps.length cap) ∧ CellsP w' b off ps ∧ Below w.heap.size w w' := by
  refine (psplit_is s ps w hs h).mono ?_
  rintro e w' ⟨a, cap, rfl, S, bb⟩
  rcases S with ⟨h0, _⟩ | ⟨_, b, off, cap2, hv, hc⟩
  · rw [h0] at hp; simp at hp
  · rw [hv]
    exact ⟨b, off, cap2, rfl, hc, bb⟩

set_option maxRecDepth 20000 in
set_option maxHeartbeats 2000000 in
theorem parts_walk (s : ByteArray) (w : World) :
    Calls Tryd.prog 5 #[.string s] w fun e w' => e = .returned (.bool true) ∧ Below w.heap.size w w' := by
  have B := Below.refl w.heap.size w
  by_cases hbig : 200 < s.size
  · go_enter Tryd.func5, Tryd.ntmps5
    go_wp2_with (first
      | (go_at_call 9; refine (awake_any _).mono ?_; rintro e w1 ⟨rfl, bb⟩; replace B := B.trans (bb.mono B.size); clear bb))
    go_ret
    exact ⟨rfl, B⟩
  have hs : s.size ≤ 100000 := by omega
  cases hn : nameB s.data.toList with
  | false =>
    have hsp : splitL s.data.toList = [] := by unfold splitL; rw [if_neg (by rw [hn]; simp)]
    have Hn := hide hn
    have Hsp := hide hsp
    clear hn hsp
    go_enter Tryd.func5, Tryd.ntmps5
    go_wp2_with (first
      | (go_at_call 9; refine (awake_any _).mono ?_; rintro e w1 ⟨rfl, bb⟩; replace B := B.trans (bb.mono B.size); clear bb)
      | (go_at_call 17; refine (psplit_is s [] _ hs Hsp.out).mono ?_; rintro e w1 ⟨a1, cap1, rfl, S1, bb⟩; replace B := B.trans (bb.mono B.size); clear bb S1)
      | (go_at_call 10; refine (pmay_is s false _ hs Hn.out).mono ?_; rintro e w1 ⟨rfl, bb⟩; replace B := B.trans (bb.mono B.size); clear bb))
    go_ret
    first | exact ⟨rfl, B⟩ | exact ⟨ret_bool (by simp; omega), B⟩
  | true =>
    obtain ⟨ps, hps⟩ : ∃ ps, partsL s.data.toList = ps := ⟨_, rfl⟩
    have hsp : splitL s.data.toList = ps := by unfold splitL; rw [if_pos hn]; exact hps
    have hne : ps ≠ [] := by rw [← hps]; exact parts_ne _
    have hpos : 0 < ps.length := List.length_pos_iff.2 hne
    have hj : joinP ps = s.data.toList := by rw [← hps]; exact parts_join _
    have hnm : ∀ p ∈ ps, nameB p = true ∧ 46 ∉ p := by rw [← hps]; exact parts_name hn
    have hpl : ps.length ≤ 201 := by
      rw [← hps, parts_len]
      have h1 := List.count_le_length (a := (46 : UInt8)) (l := s.data.toList)
      rw [← size_list] at h1
      omega
    have hle := join_le ps
    rw [hj, ← size_list] at hle
    have Hle := hide hle
    have Hnm := hide hnm
    have Hj := hide hj
    have Hn := hide hn
    have Hsp := hide hsp
    clear hn hsp hps hne hj hnm hle
    go_enter Tryd.func5, Tryd.ntmps5
    go_wp2_with (first
      | (go_at_call 9; refine (awake_any _).mono ?_; rintro e w1 ⟨rfl, bb⟩; replace B := B.trans (bb.mono B.size); clear bb)
      | (go_at_call 17; refine (psplit_ne s ps _ hs hpos Hsp.out).mono ?_; rintro e w1 ⟨b, off, cap1, rfl, hcs, bb⟩; replace B := B.trans (bb.mono B.size); clear bb)
      | (go_at_call 10; refine (pmay_is s true _ hs Hn.out).mono ?_; rintro e w2 ⟨rfl, bb⟩; replace hcs := hcs.later bb; replace B := B.trans (bb.mono B.size); clear bb))
    go_loopw [5, 6] (fun o i wr => ∃ (k : Nat) (y : ByteArray), k ≤ ps.length ∧ o = .string y ∧ i = .int .i64 k ∧ y.size ≤ 300 * k ∧ y.data.toList = joinP (ps.take k) ∧ CellsP wr b off ps ∧ Below w.heap.size w wr) (fun _ i _ => ps.length - (intOf i).toNat)
    case atStart => exact ⟨0, ⟨#[]⟩, Nat.zero_le _, rfl, rfl, Nat.zero_le _, rfl, hcs, B⟩
    case round =>
      clear B hcs
      obtain ⟨k, y, hk, rfl, rfl, hys, hyl, hcs, B⟩ := hrel
      by_cases hlt : k < ps.length
      · have hcell := hcs k hlt
        obtain ⟨p, hp⟩ : ∃ p, ps.getD k [] = p := ⟨_, rfl⟩
        have hnx := join_next hlt
        rw [hp] at hcell hnx
        have hmem : p ∈ ps := by rw [← hp]; exact getD_mem hlt
        have hpn := Hnm.out p hmem
        have hpz := Hle.out p hmem
        obtain ⟨P, hP⟩ : ∃ P : ByteArray, P = ⟨p.toArray⟩ := ⟨_, rfl⟩
        have hPl : P.data.toList = p := by rw [hP]
        have hPz : P.size ≤ 200 := by rw [hP]; show p.toArray.size ≤ 200; simp; omega
        have hPs : P.size ≤ 100000 := by omega
        rw [← hP] at hcell
        have HP : Hid (nameB P.data.toList = true) := by show nameB P.data.toList = true; rw [hPl]; exact hpn.1
        have HPs : Hid (splitL P.data.toList = [p]) := by show splitL P.data.toList = [p]; unfold splitL; rw [hPl, if_pos hpn.1]; exact parts_one hpn.2
        by_cases h0 : k = 0
        · have hkn : ¬ (0 : Int) < (k : Int) := by omega
          have Hy : Hid ((y ++ P).data.toList = joinP (ps.take (k + 1))) := by
            show (y ++ P).data.toList = joinP (ps.take (k + 1))
            rw [hnx, if_pos h0, app_list, hyl, hPl, h0]; rfl
          have hk1 : k ≤ 0 := by omega
          clear hnx hyl hp hP hPl hpn hmem h0
          go_wp2_with (first
            | (go_at_call 10; refine (pmay_is P true _ hPs HP.out).mono ?_; rintro e w1 ⟨rfl, bb⟩; have hc1 := (bb.cell (p := ⟨b, off + k, none⟩) (lt_of_cell hcell)).trans hcell; replace hcs := hcs.later bb; replace B := B.trans (bb.mono B.size); clear bb)
            | (go_at_call 17; refine (psplit_is P [p] _ hPs HPs.out).mono ?_; rintro e w2 ⟨a2, cap2, rfl, S2, bb⟩; have hc2 := (bb.cell (p := ⟨b, off + k, none⟩) (lt_of_cell hc1)).trans hc1; replace hcs := hcs.later bb; replace B := B.trans (bb.mono B.size); clear bb S2))
          go_roundw
          case rel => exact ⟨k + 1, y ++ P, by omega, rfl, by go_num, by rw [ByteArray.size_append]; omega, Hy.out, hcs, B⟩
          case measure => simp [intOf]; omega
        · have hkp : (0 : Int) < (k : Int) := by omega
          have Hy : Hid (((y ++ ⟨#[46]⟩) ++ P).data.toList = joinP (ps.take (k + 1))) := by
            show ((y ++ ⟨#[46]⟩) ++ P).data.toList = joinP (ps.take (k + 1))
            rw [hnx, if_neg h0, app_list, app_list, hyl, hPl, List.append_assoc]; rfl
          have hyz : (y ++ ⟨#[46]⟩ : ByteArray).size = y.size + 1 := by rw [ByteArray.size_append]; rfl
          clear hnx hyl hp hP hPl hpn hmem
          go_wp2_with (first
            | (go_at_call 10; refine (pmay_is P true _ hPs HP.out).mono ?_; rintro e w1 ⟨rfl, bb⟩; have hc1 := (bb.cell (p := ⟨b, off + k, none⟩) (lt_of_cell hcell)).trans hcell; replace hcs := hcs.later bb; replace B := B.trans (bb.mono B.size); clear bb)
            | (go_at_call 17; refine (psplit_is P [p] _ hPs HPs.out).mono ?_; rintro e w2 ⟨a2, cap2, rfl, S2, bb⟩; have hc2 := (bb.cell (p := ⟨b, off + k, none⟩) (lt_of_cell hc1)).trans hc1; replace hcs := hcs.later bb; replace B := B.trans (bb.mono B.size); clear bb S2))
          go_roundw
          case rel => exact ⟨k + 1, (y ++ ⟨#[46]⟩) ++ P, by omega, rfl, by go_num, by rw [ByteArray.size_append, hyz]; omega, Hy.out, hcs, B⟩
          case measure => simp [intOf]; omega
      · have hke : ps.take k = ps := List.take_of_length_le (by omega)
        rw [hke, Hj.out] at hyl
        have hyS : y = s := by
          have h2 : ∀ x : ByteArray, x = ⟨x.data.toList.toArray⟩ := fun x => rfl
          rw [h2 y, hyl]
        subst hyS
        clear hyl hke
        go_wp2
        go_ret
        first | exact ⟨rfl, B⟩ | exact ⟨ret_bool (by simp; omega), B⟩
end Go.Proofs.YthiipiflljgbbaaDoor
