/-
  WALKS: the reference's Is (layer 6).
-/
import Derived.Test.YtjbnofljoijnmaaGreatDoorW3
import Derived.Test.YtjbnofljoijnmaaGreatDoorB
import Derived.RegionTactic
import Derived.ChangeAlike
import Derived.Deep.RegionHeld3
namespace Go.Proofs.YtjbnofljoijnmaaGreatDoor
open Go.RowKit Go.Lib

theorem val_bd (l : List UInt8) : -(23 * 10 ^ l.length : Nat) ≤ valZ l - 23 ∧ valZ l + 23 ≤ (23 * 10 ^ l.length : Nat) := by
  refine snoc_induct (P := fun l => -(23 * 10 ^ l.length : Nat) ≤ valZ l - 23 ∧ valZ l + 23 ≤ (23 * 10 ^ l.length : Nat)) (by simp [valZ]) ?_ l
  intro l a ih
  have ha := UInt8.toNat_lt a
  rw [val_snoc, List.length_append, List.length_singleton, Nat.pow_succ]
  generalize 10 ^ l.length = p at *
  omega
theorem val_five {l : List UInt8} (h : l.length ≤ 5) : -3000000 ≤ valZ l ∧ valZ l ≤ 3000000 := by
  have := val_bd l
  have hp : 10 ^ l.length ≤ 10 ^ 5 := Nat.pow_le_pow_right (by decide) h
  generalize 10 ^ l.length = p at *
  omega
def nmX (s : ByteArray) : ByteArray := s.extract 0 (endN s.data.toList)
def rsX (s : ByteArray) : ByteArray := s.extract (endN s.data.toList) s.size
theorem nmX_list (s : ByteArray) : (nmX s).data.toList = s.data.toList.take (endN s.data.toList) := head_list s _
theorem rsX_list (s : ByteArray) : (rsX s).data.toList = restX s.data.toList := cut_list s _
theorem spX (s : ByteArray) : spA (nmX s) (specX s.data.toList).max (specX s.data.toList).star = specX s.data.toList := by
  unfold spA; rw [nmX_list]; rfl
theorem take_next (r : ByteArray) (j : Nat) (h1 : 1 ≤ j) (h : j < r.size) : (r.data.toList.drop 1).take j = (r.data.toList.drop 1).take (j - 1) ++ [r[j]] := by
  have hl : j - 1 < (r.data.toList.drop 1).length := by simp; omega
  conv => lhs; rw [show j = (j - 1) + 1 by omega, List.take_succ_eq_append_getElem hl]
  congr 2
  rw [List.getElem_drop]
  simp only [show 1 + (j - 1) = j by omega]
  rfl

theorem ret_two {a : Value} {b b' : Bool} (h : b = b') : Ending.returned (.tuple #[a, .bool b]) = .returned (.tuple #[a, .bool b']) := by rw [h]
set_option maxRecDepth 20000 in
set_option maxHeartbeats 40000000 in
theorem ris_any (s : ByteArray) (w : World) (hs : s.size ≤ 100000) :
    Calls Tryz.prog 63 #[.string s] w fun e w' => e = .returned (.tuple #[.agg #[.string (nmX s), .int .i64 (specX s.data.toList).max, .bool (specX s.data.toList).star], .bool (isX s.data.toList)]) ∧ Below w.heap.size w w' := by
  have hen := end_le s.data.toList s.data.toList.length
  obtain ⟨n, hn⟩ : ∃ n, endN s.data.toList = n := ⟨_, rfl⟩
  have hn2 : endK s.data.toList s.data.toList.length = n := hn
  rw [hn2, ← size_list] at hen
  have Hend : Hid (∀ w, Calls Tryz.prog 82 #[.string s] w fun e w' => e = .returned (.int .i64 n) ∧ w' = w) := fun w => by
    have := rend_any s w hs
    rwa [hn] at this
  obtain ⟨NM, hNM⟩ : ∃ x, nmX s = x := ⟨_, rfl⟩
  obtain ⟨RS, hRS⟩ : ∃ x, rsX s = x := ⟨_, rfl⟩
  have hNM2 : s.extract 0 n = NM := by rw [← hNM, ← hn]; rfl
  have hRS2 : s.extract n s.size = RS := by rw [← hRS, ← hn]; rfl
  have hrl : RS.data.toList = restX s.data.toList := by rw [← hRS]; exact rsX_list s
  obtain ⟨MX, hMX⟩ : ∃ x, (specX s.data.toList).max = x := ⟨_, rfl⟩
  obtain ⟨ST, hST⟩ : ∃ x, (specX s.data.toList).star = x := ⟨_, rfl⟩
  have hM2 : MX = valZ ((RS.data.toList.drop 1).take 5) := by rw [← hMX, hrl]; rfl
  have hS2 : ST = decide (RS.data.toList = [42]) := by rw [← hST, hrl]; rfl
  have hrz : RS.size ≤ s.size := by rw [← hRS2]; simp
  have hsp := spX s
  rw [hNM, hMX, hST] at hsp
  have his : isX s.data.toList = (decide (0 < n) && mayX (spA NM MX ST) && decide (putL (spA NM MX ST) = s.data.toList)) := by
    unfold isX; rw [hn, ← hsp]
  rw [hNM, hMX, hST, his]
  clear hn hn2 hNM hRS hrl hMX hST hsp his
  have hq : (RS.toList == [42]) = ST := by
    rw [hS2, Lib.toList_data, Bool.eq_iff_iff]; simp
  have hend : ∀ j, 1 ≤ j → j ≤ 6 → ¬ (j < RS.size ∧ j < 6) → valZ ((RS.data.toList.drop 1).take (j - 1)) = MX := by
    intro j h1 h2 h3
    rw [hM2]
    congr 1
    by_cases h6 : j = 6
    · subst h6; rfl
    · have hl : (RS.data.toList.drop 1).length = RS.size - 1 := by simp
      rw [List.take_of_length_le (by omega), List.take_of_length_le (by omega)]
  have hnx : ∀ j, 1 ≤ j → (h : j < RS.size) → valZ ((RS.data.toList.drop 1).take j) = 10 * valZ ((RS.data.toList.drop 1).take (j - 1)) + (RS[j].toNat : Int) - 48 := by
    intro j h1 h2
    rw [take_next RS j h1 h2, val_snoc]
  have hbd : ∀ j, j ≤ 6 → -3000000 ≤ valZ ((RS.data.toList.drop 1).take (j - 1)) ∧ valZ ((RS.data.toList.drop 1).take (j - 1)) ≤ 3000000 := by
    intro j hj
    apply val_five
    have := List.length_take_le (j - 1) (RS.data.toList.drop 1)
    omega
  have Hend2 := hide hend
  have Hnx := hide hnx
  have Hbd := hide hbd
  clear hend hnx hbd hM2 hS2
  have v0 : valZ ((RS.data.toList.drop 1).take (1 - 1)) = 0 := by simp [valZ]
  have V0 := hide v0
  clear v0
  generalize hV : (fun j => valZ ((RS.data.toList.drop 1).take j)) = V at *
  have Hnx2 : Hid (∀ j, 1 ≤ j → (h : j < RS.size) → V j = 10 * V (j - 1) + (RS[j].toNat : Int) - 48) := by subst hV; exact Hnx
  have Hend3 : Hid (∀ j, 1 ≤ j → j ≤ 6 → ¬ (j < RS.size ∧ j < 6) → V (j - 1) = MX) := by subst hV; exact Hend2
  have Hbd2 : Hid (∀ j, j ≤ 6 → -3000000 ≤ V (j - 1) ∧ V (j - 1) ≤ 3000000) := by subst hV; exact Hbd
  have V1 : Hid (V 0 = 0) := by subst hV; exact V0
  clear hV Hnx Hend2 Hbd V0
  obtain ⟨YM, hYM⟩ : ∃ b, mayX (spA NM MX ST) = b := ⟨_, rfl⟩
  obtain ⟨P, hP⟩ : ∃ P : ByteArray, P.data.toList = putL (spA NM MX ST) := ⟨⟨(putL (spA NM MX ST)).toArray⟩, rfl⟩
  rw [hYM, ← hP]
  have HM := hide hYM
  have HP := hide hP
  clear hYM hP
  have hnz : NM.size ≤ 1000000 := by rw [← hNM2]; simp; omega
  obtain ⟨R, hR⟩ : ∃ b, (decide (0 < n) && YM && decide (P.data.toList = s.data.toList)) = b := ⟨_, rfl⟩
  rw [hR]
  have HR := hide hR
  clear hR
  obtain ⟨S2, hS3⟩ : ∃ b, b = ST := ⟨_, rfl⟩
  rw [← hS3] at HM HP ⊢
  have HS2 := hide hS3
  clear hS3
  cases ST
  all_goals
    go_enter Tryz.func63, Tryz.ntmps63
    go_wp2_with (go_at_call 82; refine (Hend.out _).mono ?_; rintro e w' ⟨rfl, hw⟩; rw [hw]; clear hw)
    go_loopw [7] (fun i wr => ∃ j : Nat, 1 ≤ j ∧ j ≤ 6 ∧ i = .int .i64 j ∧ Below w.heap.size w wr ∧ Bx wr w.heap.size #[.string ⟨#[]⟩, .int .i64 0, .bool false] 45 ∧ Bx wr (w.heap.size + 1) #[.string NM, .int .i64 (V (j - 1)), .bool S2] 45) (fun i _ => 6 - (intOf i).toNat)
    case atStart =>
      refine ⟨1, Nat.le_refl _, by omega, rfl, ((Below.refl _ _).alloc (Nat.le_refl _) _).alloc (by simp) _, (Bx.made w _ _).later _, ?_⟩
      rw [show 1 - 1 = 0 from rfl, V1.out, HS2.out]
      have := fun b => Bx.made (w.alloc (.cells #[.string ⟨#[]⟩, .int .i64 0, .bool false] 45)) #[.string NM, .int .i64 0, .bool b] 45
      simpa using this _
    case round =>
      obtain ⟨j, h1, h6, rfl, B, X, Y⟩ := hrel
      by_cases hlt : j < RS.size ∧ j < 6
      · obtain ⟨g1, g2⟩ := hlt
        have hv := Hnx2.out j h1 g1
        have hb := Hbd2.out j h6
        have hu := UInt8.toNat_lt RS[j]
        have HV := hide hv
        clear hv
        generalize V (j - 1) = v at *
        have y1 := Y.cell 1 _ rfl
        have yf := Y.free 1
        have q1 : (j : Int) < RS.size := by omega
        have q2 : (0 : Int) ≤ j := by omega
        have q3 : (j : Int) < 6 := by omega
        have f1 : IntKind.i64.wrap (10 * v) = 10 * v := by rw [IntKind.wrap_i64]; omega
        have f2 : IntKind.i64.wrap (10 * v + (RS[j].toNat : Int)) = 10 * v + (RS[j].toNat : Int) := by rw [IntKind.wrap_i64]; omega
        have f3 : IntKind.i64.wrap (10 * v + (RS[j].toNat : Int) - 48) = 10 * v + (RS[j].toNat : Int) - 48 := by rw [IntKind.wrap_i64]; omega
        have Hb := hide hb
        clear hb
        go_wp2
        go_region
        go_wp2
        go_roundw
        case rel =>
          refine ⟨j + 1, by omega, by omega, by go_num, (B.setCell (p := ⟨w.heap.size + 1, 1, none⟩) (by simp) _).drew, (X.other (by simp) _ _).drew, ?_⟩
          rw [show j + 1 - 1 = j by omega, HV.out]
          exact Y.put 1 _
        case measure => simp [intOf]; omega
      · have he := Hend3.out j h1 h6 hlt
        rw [he] at Y
        have y0 := Y.cell 0 (.string NM) rfl
        have y1 := Y.cell 1 (.int .i64 MX) rfl
        have y2 := Y.cell 2 (.bool S2) rfl
        have x0 := X.cell 0 (.string ⟨#[]⟩) rfl
        have x1 := X.cell 1 (.int .i64 0) rfl
        have x2 := X.cell 2 (.bool false) rfl
        have z0 := X.free 0
        have z1 := X.free 1
        have z2 := X.free 2
        have h6' : ¬ ((j : Int) < RS.size) ∨ ((j : Int) < RS.size ∧ ¬ ((j : Int) < 6)) := by omega
        rcases h6' with h6' | ⟨h5', h6'⟩
        all_goals
          by_cases hn0 : n = 0
          · subst hn0
            go_wp2
            go_region
            go_wp2
            have X3 := ((X.put 0 (.string NM)).put 1 (.int .i64 MX)).put 2 (.bool S2)
            refine bodyPost_ret (v := .tuple #[.agg #[.string NM, .int .i64 MX, .bool S2], .bool false]) (ret_cell_tmp Tryz.results63 _ _ rfl X3.drew Tryz.underlying45 rfl (by kernel_rfl)) rfl ⟨ret_two (by rw [← HR.out]; simp), ?_⟩
            exact ((((B.setCell (p := ⟨w.heap.size, 0, none⟩) (Nat.le_refl _) _).setCell (p := ⟨w.heap.size, 1, none⟩) (Nat.le_refl _) _).setCell (p := ⟨w.heap.size, 2, none⟩) (Nat.le_refl _) _)).drew
          · have hn1 : (0 : Int) < n := by omega
            have hn4 : 0 < n := by omega
            have hn5 : decide (0 < n) = true := decide_eq_true hn4
            cases YM with
            | false =>
              go_wp2
              (first | go_region_with (go_at_call 31; refine (rxmay_is NM MX S2 false _ HM.out).mono ?_; rintro e w1 ⟨rfl, bb⟩; replace B := B.trans ((below_drew bb).mono B.size); replace Y := Y.next (below_drew bb); replace X := X.next (below_drew bb); clear bb; have y0 := Y.cell 0 (.string NM) rfl; have y1 := Y.cell 1 (.int .i64 MX) rfl; have y2 := Y.cell 2 (.bool S2) rfl; have x0 := X.cell 0 (.string ⟨#[]⟩) rfl; have x1 := X.cell 1 (.int .i64 0) rfl; have x2 := X.cell 2 (.bool false) rfl; have z0 := X.free 0; have z1 := X.free 1; have z2 := X.free 2) | fail)
              all_goals go_wp2
              all_goals
                have X3 := ((X.put 0 (.string NM)).put 1 (.int .i64 MX)).put 2 (.bool S2)
                refine bodyPost_ret (v := .tuple #[.agg #[.string NM, .int .i64 MX, .bool S2], .bool false]) (ret_cell_tmp Tryz.results63 _ _ rfl X3 Tryz.underlying45 rfl (by kernel_rfl)) rfl ⟨ret_two (by rw [← HR.out]; simp), ?_⟩
                exact ((((B.setCell (p := ⟨w.heap.size, 0, none⟩) (Nat.le_refl _) _).setCell (p := ⟨w.heap.size, 1, none⟩) (Nat.le_refl _) _).setCell (p := ⟨w.heap.size, 2, none⟩) (Nat.le_refl _) _))
            | true =>
              obtain ⟨E, hE⟩ : ∃ b, (P.toList == s.toList) = b := ⟨_, rfl⟩
              have hE2 : decide (P.data.toList = s.data.toList) = E := by
                rw [← hE, Lib.toList_data, Lib.toList_data, Bool.eq_iff_iff]; simp
              have HE := hide hE2
              clear hE2
              go_wp2
              go_region_held3 (fun W => W.cell? ⟨w.heap.size + 1, 0, none⟩ = some (.string NM) ∧ W.cell? ⟨w.heap.size + 1, 1, none⟩ = some (.int .i64 MX) ∧ W.cell? ⟨w.heap.size + 1, 2, none⟩ = some (.bool S2)) (first | exact cells3 Y | exact cells3 (((Y.other (by simp) _ _).other (by simp) _ _).other (by simp) _ _)) (first | (go_at_call 31; refine (rxmay_is NM MX S2 true _ HM.out).mono ?_; rintro e w1 ⟨rfl, bb⟩; replace B := B.trans ((below_drew bb).mono B.size); replace Y := Y.next (below_drew bb); replace X := X.next (below_drew bb); clear bb; have y0 := Y.cell 0 (.string NM) rfl; have y1 := Y.cell 1 (.int .i64 MX) rfl; have y2 := Y.cell 2 (.bool S2) rfl; have x0 := X.cell 0 (.string ⟨#[]⟩) rfl; have x1 := X.cell 1 (.int .i64 0) rfl; have x2 := X.cell 2 (.bool false) rfl; have z0 := X.free 0; have z1 := X.free 1; have z2 := X.free 2) | (go_at_call 35; refine (rxput_is NM MX S2 P _ hnz HP.out).mono ?_; rintro e w2 ⟨rfl, bb⟩; replace B := B.trans (bb.mono B.size); replace Y := Y.next bb; replace X := X.next bb; clear bb; have y0 := Y.cell 0 (.string NM) rfl; have y1 := Y.cell 1 (.int .i64 MX) rfl; have y2 := Y.cell 2 (.bool S2) rfl; have x0 := X.cell 0 (.string ⟨#[]⟩) rfl; have x1 := X.cell 1 (.int .i64 0) rfl; have x2 := X.cell 2 (.bool false) rfl; have z0 := X.free 0; have z1 := X.free 1; have z2 := X.free 2))
              all_goals go_wp2
              all_goals
                have X3 := ((X.put 0 (.string NM)).put 1 (.int .i64 MX)).put 2 (.bool S2)
                refine bodyPost_ret (v := .tuple #[.agg #[.string NM, .int .i64 MX, .bool S2], .bool E]) (ret_cell_tmp Tryz.results63 _ _ rfl X3 Tryz.underlying45 rfl (by kernel_rfl)) rfl ⟨ret_two (by rw [← HR.out]; rw [hn5, HE.out]; rfl), ?_⟩
                exact ((((B.setCell (p := ⟨w.heap.size, 0, none⟩) (Nat.le_refl _) _).setCell (p := ⟨w.heap.size, 1, none⟩) (Nat.le_refl _) _).setCell (p := ⟨w.heap.size, 2, none⟩) (Nat.le_refl _) _))
end Go.Proofs.YtjbnofljoijnmaaGreatDoor
