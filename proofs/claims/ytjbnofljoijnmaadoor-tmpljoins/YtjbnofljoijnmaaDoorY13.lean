/-
  Joined by program out of the texts H1.
-/
import Derived.Test.YtjbnofljoijnmaaDoorY02
import Derived.Test.YtjbnofljoijnmaaDoorY10
import Derived.Test.YtjbnofljoijnmaaDoorY06
import Derived.Test.YtjbnofljoijnmaaDoorY08
import Derived.Test.YtjbnofljoijnmaaDoorY09
import Derived.Test.YtjbnofljoijnmaaDoorY12
/-
  WALKS: the program's small functions of layer 7: operators; what a reader has left, takes, and fails with.
-/
namespace Go.Proofs.YtjbnofljoijnmaaDoor
open Go.RowKit

/-- what the walks ask of the world -/
structure Rans (w : World) : Prop where
  tab : Ran w
  rng : YtjbnofljoijnmaaDooru.Ran w
theorem Rans.next {w W : World} (h : Rans w) (b : Below w.heap.size w W) : Rans W := ⟨h.tab.at b, h.rng.next b⟩
theorem Rans.alloc {w : World} (h : Rans w) (o : Obj) : Rans (w.alloc o) := h.next ((Below.refl _ _).alloc (Nat.le_refl _) _)

/-! ### Operators -/
theorem op_index : ∀ n : Fin 256, decide (0 ≤ Lib.indexByte [43, 35, 46, 47, 59, 63, 38] n.val.toUInt8) = opN n.val := by decide +kernel
theorem written_is (c : Int) (b : Bool) (w : World) (h0 : 0 ≤ c) (h1 : c ≤ 255) (h : opN c.toNat = b) :
    Calls Tryd.prog 39 #[.int .u8 c] w fun e w' => e = .returned (.bool b) ∧ w' = w := by
  have e := op_index ⟨c.toNat, by omega⟩
  rw [h] at e
  have E := hide e
  clear e
  go_enter Tryd.func39, Tryd.ntmps39
  go_wp2_with (go_at_call 55; refine (strings_IndexByte _ _ _).mono ?_; rintro e w' ⟨rfl, hw⟩; rw [hw])
  go_ret
  exact ⟨ret_bool E.out, rfl⟩
theorem oper_fin : ∀ n : Fin 256, operB n.val.toUInt8 = (decide (n.val = 0) || opN n.val) := by decide +kernel
theorem oper_nat (c : UInt8) : operB c = (decide (c.toNat = 0) || opN c.toNat) := by
  have e := oper_fin ⟨c.toNat, UInt8.toNat_lt c⟩
  simpa only [Nat.toUInt8_eq, UInt8.ofNat_toNat] using e
theorem poper_any (c : UInt8) (w : World) : Calls Tryd.prog 26 #[.int .u8 (c.toNat : Int)] w fun e w' => e = .returned (.bool (operB c)) ∧ w' = w := by
  rw [oper_nat c]
  have h1 := UInt8.toNat_lt c
  generalize c.toNat = n at *
  by_cases hc : n = 0
  · subst hc
    go_enter Tryd.func26, Tryd.ntmps26
    go_wp2
    go_ret
    exact ⟨rfl, rfl⟩
  · have hz : ((n : Int) == 0) = false := by simp; omega
    have E : Hid (opN (n : Int).toNat = opN n) := rfl
    go_enter Tryd.func26, Tryd.ntmps26
    go_wp2_with (go_at_call 39; refine (written_is _ _ _ (by omega) (by omega) E.out).mono ?_; rintro e w' ⟨rfl, hw⟩; rw [hw])
    go_ret
    exact ⟨ret_bool (by simp [hc]), rfl⟩

/-! ### Readers -/
/-- a reader of a text, at a place -/
def Rd (W : World) (b : Nat) (s : ByteArray) (p : Nat) : Prop := Bx W b #[.string s, .int .i64 p] 56
/-- what is left of what lay there: all but the reader's own block -/
structure Mv (b : Nat) (W W' : World) : Prop where
  bel : Below b W W'
  kept : ∀ i, i < W.heap.size → i ≠ b → W'.heap[i]? = W.heap[i]?
theorem Mv.refl (b : Nat) (W : World) : Mv b W W := ⟨Below.refl _ _, fun _ _ _ => rfl⟩
theorem Mv.of {b : Nat} {W W' : World} (h : Below W.heap.size W W') (hb : b < W.heap.size) : Mv b W W' := ⟨h.mono (Nat.le_of_lt hb), fun i hi _ => h.block i hi⟩
theorem Mv.trans {b : Nat} {W V U : World} (h : Mv b W V) (g : Mv b V U) : Mv b W U :=
  ⟨h.bel.trans g.bel, fun i hi hb => (g.kept i (Nat.lt_of_lt_of_le hi h.bel.size) hb).trans (h.kept i hi hb)⟩
theorem Mv.set (b j : Nat) (W : World) (v : Value) : Mv b W (W.setCell ⟨b, j, none⟩ v) :=
  ⟨(Below.refl _ _).setCell (p := ⟨b, j, none⟩) (Nat.le_refl _) _, fun _ _ hb => heap_setCell_other _ _ _ _ hb⟩
theorem Mv.drew {b : Nat} {W V : World} (h : Mv b W V) : Mv b W V.drew := ⟨h.bel.drew, h.kept⟩
theorem left_any (b : Nat) (s f : ByteArray) (p : Nat) (w : World) (hr : Rd w b s p) (hp : p ≤ s.size) (hf : f.data.toList = s.data.toList.drop p) :
    Calls Tryd.prog 31 #[.pointer (some ⟨b, 0, none⟩)] w fun e w' => e = .returned (.string f) ∧ Below w.heap.size w w' := by
  have ef : f = s.extract p s.size := arr_ext (hf.trans (cut_list s p).symm)
  subst ef
  clear hf
  have x0 : w.cell? ⟨b, 0, none⟩ = some (.string s) := hr.cell 0 _ rfl
  have x1 : w.cell? ⟨b, 1, none⟩ = some (.int .i64 p) := hr.cell 1 _ rfl
  go_enter Tryd.func31, Tryd.ntmps31
  go_wp2
  go_region
  all_goals go_wp2
  all_goals go_ret
  all_goals exact ⟨rfl, (Below.refl _ _).drew⟩
/-- so many bytes are taken -/
theorem take_any (b : Nat) (s f : ByteArray) (p n : Nat) (w : World) (hr : Rd w b s p) (hp : p + n ≤ s.size) (hs : s.size ≤ 1000000) (hf : f.data.toList = (s.data.toList.drop p).take n) :
    Calls Tryd.prog 43 #[.pointer (some ⟨b, 0, none⟩), .int .i64 n] w fun e w' => e = .returned (.string f) ∧ Mv b w w' ∧ Rd w' b s (p + n) := by
  obtain ⟨L, hL⟩ : ∃ L : ByteArray, L.data.toList = s.data.toList.drop p := ⟨⟨(s.data.toList.drop p).toArray⟩, rfl⟩
  have hLs : L.size = s.size - p := by rw [size_list, hL, List.length_drop, ← size_list]
  have ef : L.extract 0 n = f := arr_ext (by rw [head_list, hL, hf])
  have hfs : f.size ≤ 2000000 := by rw [size_list, hf, List.length_take, List.length_drop, ← size_list]; omega
  have HL := hide hL
  clear hL hf
  have hn : (n : Int) ≤ (L.size : Int) := by omega
  go_enter Tryd.func43, Tryd.ntmps43
  go_wp2_with (first
    | (go_at_call 31; refine (left_any b s L p _ hr (by omega) HL.out).mono ?_; rintro e w1 ⟨rfl, b1⟩; have M := Mv.of b1 hr.lt; replace hr := hr.next b1)
    | (go_at_call 23; refine (clone_any f _ hfs).mono ?_; rintro e w2 ⟨rfl, b2⟩; replace M := M.trans (Mv.of b2 hr.lt); replace hr := hr.next b2; have x1 : w2.cell? ⟨b, 1, none⟩ = some (.int .i64 p) := hr.cell 1 _ rfl; have f1 := hr.free 1))
  go_ret
  refine ⟨rfl, M.trans (Mv.set b 1 _ _), ?_⟩
  have := Bx.put hr 1 (.int .i64 ((p : Int) + n))
  unfold Rd
  rw [Int.natCast_add]
  exact this
theorem fail_any (b : Nat) (s : ByteArray) (p n : Nat) (w : World) (hr : Rd w b s p) (hp : p ≤ 1000000) (hn : n ≤ 1000000) :
    Calls Tryd.prog 46 #[.pointer (some ⟨b, 0, none⟩), .int .i64 n] w fun e w' => e = .panicked [{ v := .iface 52 (.agg #[.int .i64 ((p + n : Nat) : Int)]), recovered := false }] ∧ Below w.heap.size w w' := by
  have x0 : w.cell? ⟨b, 0, none⟩ = some (.string s) := hr.cell 0 _ rfl
  have x1 : w.cell? ⟨b, 1, none⟩ = some (.int .i64 p) := hr.cell 1 _ rfl
  go_enter Tryd.func46, Tryd.ntmps46
  go_wp2
  exact ⟨rfl, by rw [Int.natCast_add], Below.refl _ _⟩
/-- a fault at a place -/
def fault (n : Nat) : Ending := .panicked [{ v := .iface 52 (.agg #[.int .i64 (n : Int)]), recovered := false }]

/-! ### Pieces of literals -/
theorem lit_fin2 : ∀ n : Fin 256, YtjbnofljoijnmaaDoorC.litQ.has n.val = litN n.val := by decide +kernel
theorem piece_at {l : List UInt8} {n : Nat} (h : n < l.length) : pieceL (l.drop n) = if litB l[n] then 1 else if tripB (l.drop n) then 3 else takeN (l.drop n) := by
  rw [List.drop_eq_getElem_cons h, piece_cons]
theorem trip_size {l : List UInt8} (h : tripB l = true) : 3 ≤ l.length := by
  obtain ⟨b, c, r, e, _⟩ := trip_to h
  rw [e]; simp
set_option maxRecDepth 20000 in
set_option maxHeartbeats 1000000 in
theorem pieces_any (s : ByteArray) (w : World) (R : Rans w) (hs : s.size ≤ 1000000) :
    Calls Tryd.prog 25 #[.string s] w fun e w' => e = .returned (.int .i64 (litLen s.data.toList)) ∧ Below w.heap.size w w' := by
  have B := Below.refl w.heap.size w
  obtain ⟨N, hN⟩ : ∃ N, litLen s.data.toList = N := ⟨_, rfl⟩
  rw [hN]
  have HN := hide hN
  clear hN
  go_enter Tryd.func25, Tryd.ntmps25
  go_wp2_with (go_at_call 35; refine (YtjbnofljoijnmaaDoorC.lit_any _).mono ?_; rintro e w1 ⟨rfl, bb⟩; replace B := B.trans (bb.mono B.size); clear bb; simp only [YtjbnofljoijnmaaDoorC.qv])
  have X0 : YtjbnofljoijnmaaDoorC.Box (w1.alloc (.cells #[.int .u64 YtjbnofljoijnmaaDoorC.litQ.a, .int .u64 YtjbnofljoijnmaaDoorC.litQ.b, .int .u64 YtjbnofljoijnmaaDoorC.litQ.c, .int .u64 YtjbnofljoijnmaaDoorC.litQ.d] 73)) w1.heap.size YtjbnofljoijnmaaDoorC.litQ := YtjbnofljoijnmaaDoorC.Box.made w1 _
  have B0 := B.alloc B.size (.cells #[.int .u64 YtjbnofljoijnmaaDoorC.litQ.a, .int .u64 YtjbnofljoijnmaaDoorC.litQ.b, .int .u64 YtjbnofljoijnmaaDoorC.litQ.c, .int .u64 YtjbnofljoijnmaaDoorC.litQ.d] 73)
  have hok := YtjbnofljoijnmaaDoorC.lit_ok
  have HF := hide lit_fin2
  generalize YtjbnofljoijnmaaDoorC.litQ = q at *
  go_loopw [4] (fun i wr => ∃ k : Nat, k ≤ s.size ∧ i = .int .i64 k ∧ k + litLen (s.data.toList.drop k) = N ∧ Below w.heap.size w wr ∧ YtjbnofljoijnmaaDoorC.Box wr w1.heap.size q) (fun i _ => s.size - (intOf i).toNat)
  case atStart => exact ⟨0, Nat.zero_le _, rfl, by rw [List.drop_zero, Nat.zero_add]; exact HN.out, B0, X0⟩
  case round =>
    clear X0 B0 B
    obtain ⟨k, hk, rfl, hkN, B, X⟩ := hrel
    obtain ⟨c0, c1, c2, c3⟩ := X.cells
    have fr := X.free
    by_cases hlt : k < s.size
    · have hlti : (k : Int) < (s.size : Int) := by omega
      have hpc := piece_at (l := s.data.toList) (n := k) (by rw [← size_list]; exact hlt)
      have hg : s.data.toList[k]'(by rw [← size_list]; exact hlt) = s[k] := rfl
      rw [hg] at hpc
      obtain ⟨c, hc⟩ : ∃ c : UInt8, s[k] = c := ⟨_, rfl⟩
      rw [hc] at hpc
      have hu := UInt8.toNat_lt c
      have hhas : q.has (c.toNat : Int).toNat = litB c := HF.out ⟨c.toNat, hu⟩
      obtain ⟨S, hS⟩ : ∃ S : ByteArray, s.extract k s.size = S := ⟨_, rfl⟩
      have hSl : S.data.toList = s.data.toList.drop k := by rw [← hS]; exact cut_list s k
      have hSs : S.size ≤ 1000000 := by rw [size_list, hSl, List.length_drop, ← size_list]; omega
      rw [← hSl] at hpc
      have hnext := fun h => litLen_next (l := s.data.toList.drop k) h
      have hzero := fun h => litLen_zero (l := s.data.toList.drop k) h
      rw [← hSl] at hnext hzero hkN
      have hSz : S.size = s.size - k := by rw [size_list, hSl, List.length_drop, ← size_list]
      have hdrop : ∀ m, S.data.toList.drop m = s.data.toList.drop (k + m) := fun m => by rw [hSl, List.drop_drop]
      have RW := R.next (B : Below w.heap.size w wr)
      have Hnext := hide hnext
      have Hzero := hide hzero
      have Hdrop := hide hdrop
      have HkN := hide hkN
      have HSl := hide hSl
      clear hnext hzero hdrop hkN hSl hg HF
      cases hl : litB c with
      | true =>
        rw [hl, if_pos rfl] at hpc
        have Hpc := hide hpc
        have Hh := hide (hhas.trans hl)
        clear hpc hhas
        go_wp2
        go_region_with (go_at_call 36; refine (YtjbnofljoijnmaaDoorC.has_is q _ true _ hok (by omega) (by omega) Hh.out).mono ?_; rintro e w2 ⟨rfl, bb⟩)
        all_goals
          have B2 := B.drew.trans (bb.mono B.size)
          have X2 := X.drew.below bb X.lt
          go_wp2
          go_roundw
          case rel =>
            refine ⟨k + 1, by omega, by go_num, ?_, B2, X2⟩
            have h1 := Hnext.out (by rw [Hpc.out]; decide)
            rw [Hpc.out, Hdrop.out] at h1
            have := HkN.out
            omega
          case measure => simp [intOf]; omega
      | false =>
        rw [hl, if_neg (by decide)] at hpc
        have Hh := hide (hhas.trans hl)
        clear hhas
        cases ht : tripB S.data.toList with
        | true =>
          have h3 := trip_size ht
          rw [← size_list] at h3
          rw [ht, if_pos rfl] at hpc
          have Hpc := hide hpc
          have Ht := hide ht
          clear hpc ht
          go_wp2
          go_region_with (go_at_call 36; refine (YtjbnofljoijnmaaDoorC.has_is q _ false _ hok (by omega) (by omega) Hh.out).mono ?_; rintro e w2 ⟨rfl, bb⟩)
          all_goals
            have B2 := B.drew.trans (bb.mono B.size)
            have X2 := X.drew.below bb X.lt
            go_wp2_with (go_at_call 37; refine (ptrip_is S true _ Ht.out).mono ?_; rintro e w3 ⟨rfl, hw3⟩; rw [hw3])
            go_roundw
            case rel =>
              refine ⟨k + 3, by omega, by go_num, ?_, B2, X2⟩
              have h1 := Hnext.out (by rw [Hpc.out]; decide)
              rw [Hpc.out, Hdrop.out] at h1
              have := HkN.out
              omega
            case measure => simp [intOf]; omega
        | false =>
          rw [ht, if_neg (by decide)] at hpc
          obtain ⟨m, hm⟩ : ∃ m, takeN S.data.toList = m := ⟨_, rfl⟩
          obtain ⟨z, hz⟩ : ∃ z, takeC S.data.toList = z := ⟨_, rfl⟩
          rw [hm] at hpc
          have hmi : (takeN S.data.toList : Int) = (m : Int) := by rw [hm]
          have Hpc := hide hpc
          have Ht := hide ht
          have Hm := hide hmi
          have Hz := hide hz
          have hle : m ≤ S.size := by
            by_cases h0 : m = 0
            · omega
            · obtain ⟨p, r, _, e, hp⟩ := piece_to (l := S.data.toList) (by rw [hpc]; exact h0)
              rw [size_list, e, List.length_append, ← hp, hpc]
              omega
          clear hpc ht hm hmi hz
          go_wp2
          go_region_with (go_at_call 36; refine (YtjbnofljoijnmaaDoorC.has_is q _ false _ hok (by omega) (by omega) Hh.out).mono ?_; rintro e w2 ⟨rfl, bb⟩)
          all_goals
            have B2 := B.drew.trans (bb.mono B.size)
            have X2 := X.drew.below bb X.lt
            have R2 := R.next B2
            by_cases h0 : m = 0
            · subst h0
              go_wp2_with (first
                | (go_at_call 37; refine (ptrip_is S false _ Ht.out).mono ?_; rintro e w3 ⟨rfl, hw3⟩; rw [hw3])
                | (go_at_call 38; refine (YtjbnofljoijnmaaDooru.ptake_is S z 0 _ R2.rng hSs Hz.out Hm.out).mono ?_; rintro e w3 ⟨rfl, b3⟩))
              go_ret
              refine ⟨?_, B2.trans (b3.mono B2.size)⟩
              have h1 := Hzero.out Hpc.out
              have h2 := HkN.out
              rw [h1] at h2
              rw [← h2]
              rfl
            · have hmz : ((m : Int) == 0) = false := by simp; omega
              go_wp2_with (first
                | (go_at_call 37; refine (ptrip_is S false _ Ht.out).mono ?_; rintro e w3 ⟨rfl, hw3⟩; rw [hw3])
                | (go_at_call 38; refine (YtjbnofljoijnmaaDooru.ptake_is S z m _ R2.rng hSs Hz.out Hm.out).mono ?_; rintro e w3 ⟨rfl, b3⟩))
              go_roundw
              case rel =>
                refine ⟨k + m, by omega, by go_num, ?_, B2.trans (b3.mono B2.size), X2.below b3 X2.lt⟩
                have h1 := Hnext.out (by rw [Hpc.out]; exact h0)
                rw [Hpc.out, Hdrop.out] at h1
                have := HkN.out
                omega
              case measure => simp [intOf]; omega
    · have hke : k = s.size := by omega
      have hkN2 : k = N := by
        have : litLen (s.data.toList.drop k) = 0 := litLen_zero (by rw [List.drop_of_length_le (by rw [← size_list]; omega)]; rfl)
        omega
      have HkN := hide hkN2
      clear hkN2 hkN
      go_wp2
      go_ret
      exact ⟨by rw [HkN.out]; rfl, B⟩
end Go.Proofs.YtjbnofljoijnmaaDoor
