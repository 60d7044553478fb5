/-
  WALKS: the reference's figures, May, Put (layer 6).
-/
import Derived.Test.YtjbnofljoijnmaaGreatDoorW2
import Derived.Test.YtjbnofljoijnmaaGreatDoorX2
import Derived.Below
import Derived.Laws.BytesString
import Derived.Deep.RegionWith
namespace Go.Proofs.YtjbnofljoijnmaaGreatDoor
open Go.RowKit Go.Lib

/-- bytes of a new block as a text -/
theorem conv_bytes (w : World) (l : List UInt8) (C : Array Value) (n : Nat) (hC : C = (byteCells l).toArray) (hn : n = l.length) :
    (convert 39 9 (.slice (some ⟨w.heap.size, 0, none⟩) n n)).run Tryz.prog (w.alloc (.cells C 5)) = .ok (.string ⟨l.toArray⟩) (w.alloc (.cells C 5)) := by
  subst hn hC
  refine run_convert_bytes_back _ 39 9 5 ⟨w.heap.size, 0, none⟩ _ l Tryz.underlying39 Tryz.underlying5 Tryz.underlying9 ?_
  intro j hj
  rw [show (⟨w.heap.size, 0, none⟩ : Addr).add j = ⟨w.heap.size, j, none⟩ by simp [Addr.add]; omega, World.cell?_alloc_mark]
  simp [byteCells, hj]
/-- one byte made a text -/
theorem conv_one (w : World) (x : Int) (h0 : 0 ≤ x) (h1 : x ≤ 255) :
    (convert 39 9 (.slice (some ⟨w.heap.size, 0, none⟩) 1 1)).run Tryz.prog (w.alloc (.cells #[.int .u8 x] 5)) = .ok (.string ⟨#[x.toNat.toUInt8]⟩) (w.alloc (.cells #[.int .u8 x] 5)) := by
  refine conv_bytes w [x.toNat.toUInt8] _ 1 ?_ rfl
  have : x.toNat.toUInt8.toNat = x.toNat := u8_of _ (by omega)
  simp only [byteCells, List.map_cons, List.map_nil, this]
  rw [show ((x.toNat : Nat) : Int) = x by omega]
/-- one byte made a text, other memory made meanwhile -/
theorem conv_kept (w w1 : World) (x : Int) (h0 : 0 ≤ x) (h1 : x ≤ 255) (bb : Below (w.heap.size + 1) (w.alloc (.cells #[.int .u8 x] 5)) w1) :
    (convert 39 9 (.slice (some ⟨w.heap.size, 0, none⟩) 1 1)).run Tryz.prog w1 = .ok (.string ⟨#[x.toNat.toUInt8]⟩) w1 := by
  refine run_convert_bytes_back _ 39 9 5 ⟨w.heap.size, 0, none⟩ _ [x.toNat.toUInt8] Tryz.underlying39 Tryz.underlying5 Tryz.underlying9 ?_
  intro j hj
  have hj : j = 0 := by simpa using hj
  subst hj
  have : x.toNat.toUInt8.toNat = x.toNat := u8_of _ (by omega)
  rw [show (⟨w.heap.size, 0, none⟩ : Addr).add 0 = ⟨w.heap.size, 0, none⟩ by simp [Addr.add], bb.cell (by simp), World.cell?_alloc_mark]
  simp [this]
  omega
theorem str_add (a b : ByteArray) (h : a.size + b.size ≤ maxLen) (W : World) : (Op.stringOp .add a b).run Tryz.prog W = .ok (.string (a ++ b)) W := by
  unfold maxLen at h
  simp [Op.stringOp]
  omega
theorem below_drew {B : Nat} {x y : World} (h : Below B x.drew y) : Below B x y := ⟨h.os, h.tape, h.output, h.size, h.block⟩
theorem ret_str {a b : ByteArray} (h : a = b) : Ending.returned (.string a) = .returned (.string b) := by rw [h]
theorem arr_ext {a b : ByteArray} (h : a.data.toList = b.data.toList) : a = b := ByteArray.ext (Array.toList_inj.1 h)

set_option maxRecDepth 20000 in
set_option maxHeartbeats 1000000 in
theorem figures_any (k : Nat) : ∀ (n : Nat) (w : World), n ≤ k → n ≤ 1000000 →
    Calls Tryz.prog 51 #[.int .i64 n] w fun e w' => e = .returned (.string ⟨(figL n).toArray⟩) ∧ Below w.heap.size w w' := by
  induction k with
  | zero =>
    intro n w h _
    obtain rfl : n = 0 := by omega
    have hcv := conv_one w 48 (by omega) (by omega)
    go_enter Tryz.func51, Tryz.ntmps51
    go_wp2
    go_ret
    exact ⟨ret_str (by rw [fig_one (by decide)]; rfl), (Below.refl _ _).alloc (Nat.le_refl _) _⟩
  | succ k ih =>
    intro n w h hm
    by_cases h1 : n < 10
    · have hcv := conv_one w (48 + n) (by omega) (by omega)
      have e : (⟨#[((48 : Int) + n).toNat.toUInt8]⟩ : ByteArray) = ⟨(figL n).toArray⟩ := by
        rw [fig_one h1, show ((48 : Int) + n).toNat = 48 + n by omega]
      rw [e] at hcv
      clear ih e
      generalize figL n = F at *
      go_enter Tryz.func51, Tryz.ntmps51
      go_wp2
      go_ret
      exact ⟨rfl, (Below.refl _ _).alloc (Nat.le_refl _) _⟩
    · obtain ⟨A, hA⟩ : ∃ A : ByteArray, A = ⟨(figL (n / 10)).toArray⟩ := ⟨_, rfl⟩
      obtain ⟨O, hO⟩ : ∃ O : ByteArray, O = ⟨#[((48 : Int) + (n % 10 : Nat)).toNat.toUInt8]⟩ := ⟨_, rfl⟩
      have Ih : Hid (∀ (a : Int) (w : World), a = (n / 10 : Nat) → Calls Tryz.prog 51 #[.int .i64 a] w fun e w' => e = .returned (.string A) ∧ Below w.heap.size w w') := fun a w e => by
        subst e hA; exact ih (n / 10) w (by omega) (by omega)
      have hcv : ∀ W : World, _ := fun W => conv_one W (48 + (n % 10 : Nat)) (by omega) (by omega)
      have Hk : Hid (∀ (W w1 : World), Below (W.heap.size + 1) (W.alloc (.cells #[.int .u8 (48 + ((n % 10 : Nat) : Int))] 5)) w1 → (convert 39 9 (.slice (some ⟨W.heap.size, 0, none⟩) 1 1)).run Tryz.prog w1 = .ok (.string O) w1) := fun W w1 b => by
        rw [hO]; exact conv_kept W w1 _ (by omega) (by omega) b
      rw [← hO] at hcv
      have hcd := Hk.out w (w.alloc (.cells #[.int .u8 (48 + ((n % 10 : Nat) : Int))] 5)).drew (Below.refl _ _).drew
      have e : A ++ O = ⟨(figL n).toArray⟩ := by
        rw [hA, hO]
        apply arr_ext
        rw [app_list, fig_more h1, show ((48 : Int) + (n % 10 : Nat)).toNat = 48 + n % 10 by omega]
      have hz : A.size + O.size ≤ maxLen := by
        have e1 : A.size = (figL (n / 10)).length := by rw [hA]; show (figL (n / 10)).toArray.size = _; simp
        have e2 : O.size = 1 := by rw [hO]; rfl
        have := fig_len (n / 10) 6 (by omega)
        unfold maxLen
        omega
      have hadd := str_add A O hz
      have f1 : IntKind.i64.wrap ((n : Int) / 10) = ((n / 10 : Nat) : Int) := by rw [IntKind.wrap_i64]; omega
      have f2 : (n : Int).tmod 10 = ((n % 10 : Nat) : Int) := by rw [Int.tmod_eq_emod_of_nonneg (by omega)]; omega
      have f3 : IntKind.i64.wrap (48 + ((n % 10 : Nat) : Int)) = 48 + ((n % 10 : Nat) : Int) := by rw [IntKind.wrap_i64]; omega
      have f4 : IntKind.u8.wrap (48 + ((n % 10 : Nat) : Int)) = 48 + ((n % 10 : Nat) : Int) := by rw [IntKind.wrap_u8]; omega
      have He := hide e
      clear ih e hA hO hz
      generalize figL n = F at *
      generalize n % 10 = D at *
      generalize n / 10 = V at *
      go_enter Tryz.func51, Tryz.ntmps51
      go_wp2
      go_region_with (go_at_call 51; refine (Ih.out _ _ rfl).mono ?_; rintro e w1 ⟨rfl, bb⟩; try have hk := Hk.out w w1 (below_drew (bb.mono (by simp))))
      all_goals go_wp2
      all_goals go_ret
      all_goals (first
        | exact ⟨ret_str He.out, (below_drew bb).alloc (below_drew bb).size _⟩
        | exact ⟨ret_str He.out, ((Below.refl _ _).alloc (Nat.le_refl _) _).trans ((below_drew bb).mono (by simp))⟩)
theorem figures_is (n : Int) (f : ByteArray) (w : World) (h0 : 0 ≤ n) (h1 : n ≤ 1000000) (h : f = ⟨(figL n.toNat).toArray⟩) :
    Calls Tryz.prog 51 #[.int .i64 n] w fun e w' => e = .returned (.string f) ∧ Below w.heap.size w w' := by
  subst h
  have := figures_any n.toNat n.toNat w (Nat.le_refl _) (by omega)
  rwa [show ((n.toNat : Nat) : Int) = n by omega] at this

/-- a variable as the program has it -/
def spA (nm : ByteArray) (m : Int) (st : Bool) : Sp := ⟨nm.data.toList, m, st⟩
set_option maxHeartbeats 1000000 in
theorem rxmay_any (nm : ByteArray) (m : Int) (st : Bool) (w : World) :
    Calls Tryz.prog 31 #[.agg #[.string nm, .int .i64 m, .bool st]] w fun e w' => e = .returned (.bool (mayX (spA nm m st))) ∧ Below w.heap.size w w' := by
  have hm : mayX (spA nm m st) = (nameB nm.data.toList && decide (0 ≤ m ∧ m ≤ 9999) && (!st || decide (m = 0))) := rfl
  rw [hm]
  clear hm
  obtain ⟨b, hb⟩ : ∃ b, nameB nm.data.toList = b := ⟨_, rfl⟩
  rw [hb]
  have Hb := hide hb
  clear hb
  cases b <;> cases st
  all_goals
    go_enter Tryz.func31, Tryz.ntmps31
    go_wp2_with (go_at_call 23; refine (rmay_is _ _ _ Hb.out).mono ?_; rintro e w' ⟨rfl, hw⟩; rw [hw]; clear hw)
  all_goals
    go_ret
    refine ⟨ret_bool ?_, (Below.refl _ _).alloc (Nat.le_refl _) _⟩
    first
      | rfl
      | (simp; done)
      | (simp; omega)
      | (rw [Bool.eq_iff_iff]; simp; omega)
theorem rxmay_is (nm : ByteArray) (m : Int) (st b : Bool) (w : World) (h : mayX (spA nm m st) = b) :
    Calls Tryz.prog 31 #[.agg #[.string nm, .int .i64 m, .bool st]] w fun e w' => e = .returned (.bool b) ∧ Below w.heap.size w w' := by
  subst h; exact rxmay_any nm m st w
/-- how a variable is written -/
def putA (nm : ByteArray) (m : Int) (st : Bool) : ByteArray := ⟨(putL (spA nm m st)).toArray⟩
/-- three cells of a block just made stay -/
theorem cells_kept {w w1 : World} {a b c : Value} {t : TypeId} (bb : Below (w.alloc (.cells #[a, b, c] t)).heap.size (w.alloc (.cells #[a, b, c] t)) w1) :
    Below w.heap.size w w1 ∧ w1.cell? ⟨w.heap.size, 0, none⟩ = some a ∧ w1.cell? ⟨w.heap.size, 1, none⟩ = some b ∧ w1.cell? ⟨w.heap.size, 2, none⟩ = some c := by
  refine ⟨((Below.refl _ _).alloc (Nat.le_refl _) _).trans (bb.mono (by simp)), ?_, ?_, ?_⟩
  all_goals rw [bb.cell (by simp)]; simp
set_option maxRecDepth 20000 in
set_option maxHeartbeats 1000000 in
theorem rxput_any (nm : ByteArray) (m : Int) (st : Bool) (w : World) (hs : nm.size ≤ 1000000) :
    Calls Tryz.prog 35 #[.agg #[.string nm, .int .i64 m, .bool st]] w fun e w' => e = .returned (.string (putA nm m st)) ∧ Below w.heap.size w w' := by
  cases hm : mayX (spA nm m st) with
  | false =>
    have e : putA nm m st = ⟨#[]⟩ := by unfold putA; rw [put_none hm]
    rw [e]
    have Hm := hide hm
    clear hm e
    go_enter Tryz.func35, Tryz.ntmps35
    go_wp2_with (go_at_call 31; refine (rxmay_is _ _ _ _ _ Hm.out).mono ?_; rintro e w1 ⟨rfl, bb⟩)
    go_ret
    exact ⟨rfl, (cells_kept bb).1⟩
  | true =>
    obtain ⟨h1, h2, h3, h4⟩ := (may_iff _).1 hm
    have Hm := hide hm
    have h2 : 0 ≤ m := h2
    have h3 : m ≤ 9999 := h3
    cases st with
    | true =>
      have e : putA nm m true = nm ++ ⟨#[42]⟩ := by unfold putA; apply arr_ext; rw [put_star hm rfl, app_list]; rfl
      rw [e]
      clear hm e h1 h4
      go_enter Tryz.func35, Tryz.ntmps35
      go_wp2_with (go_at_call 31; refine (rxmay_is _ _ _ _ _ Hm.out).mono ?_; rintro e w1 ⟨rfl, bb⟩; obtain ⟨bb, c0, c1, c2⟩ := cells_kept bb)
      go_ret
      exact ⟨rfl, bb⟩
    | false =>
      by_cases hp : 0 < m
      · obtain ⟨F, hF⟩ : ∃ F : ByteArray, F = ⟨(figL m.toNat).toArray⟩ := ⟨_, rfl⟩
        have e : putA nm m false = nm ++ ⟨#[58]⟩ ++ F := by rw [hF]; unfold putA; apply arr_ext; rw [put_colon hm rfl hp, app_list, app_list]; simp [spA]
        have hz : (nm ++ ⟨#[58]⟩).size + F.size ≤ maxLen := by
          have e1 : F.size = (figL m.toNat).length := by rw [hF]; show (figL m.toNat).toArray.size = _; simp
          have e2 : (nm ++ ⟨#[58]⟩ : ByteArray).size = nm.size + 1 := by rw [ByteArray.size_append]; rfl
          have := fig_len m.toNat 3 (by omega)
          unfold maxLen
          omega
        have a1 := str_add nm ⟨#[58]⟩ (by show nm.size + 1 ≤ maxLen; unfold maxLen; omega)
        have a2 := str_add (nm ++ ⟨#[58]⟩) F hz
        rw [e]
        have HF := hide hF
        clear hm e h1 h4 hF hz
        go_enter Tryz.func35, Tryz.ntmps35
        go_wp2_with (go_at_call 31; refine (rxmay_is _ _ _ _ _ Hm.out).mono ?_; rintro e w1 ⟨rfl, bb⟩; obtain ⟨bb, c0, c1, c2⟩ := cells_kept bb)
        go_region_with (go_at_call 51; refine (figures_is _ F _ h2 (by omega) HF.out).mono ?_; rintro e w2 ⟨rfl, bb2⟩; have d0 := ((below_drew bb2).cell (World.block_lt_of_cell? _ _ c0)).trans c0; have bz := bb.size; replace bb := bb.trans ((below_drew bb2).mono bz))
        all_goals go_wp2
        all_goals go_ret
        all_goals exact ⟨rfl, bb⟩
      · have e : putA nm m false = nm := by unfold putA; apply arr_ext; rw [put_name hm rfl hp]; rfl
        rw [e]
        clear hm e h1 h4
        go_enter Tryz.func35, Tryz.ntmps35
        go_wp2_with (go_at_call 31; refine (rxmay_is _ _ _ _ _ Hm.out).mono ?_; rintro e w1 ⟨rfl, bb⟩; obtain ⟨bb, c0, c1, c2⟩ := cells_kept bb)
        go_ret
        exact ⟨rfl, bb⟩
theorem rxput_is (nm : ByteArray) (m : Int) (st : Bool) (p : ByteArray) (w : World) (hs : nm.size ≤ 1000000) (h : p.data.toList = putL (spA nm m st)) :
    Calls Tryz.prog 35 #[.agg #[.string nm, .int .i64 m, .bool st]] w fun e w' => e = .returned (.string p) ∧ Below w.heap.size w w' := by
  have e : p = putA nm m st := arr_ext h
  subst e; exact rxput_any nm m st w hs
end Go.Proofs.YtjbnofljoijnmaaGreatDoor
