/-
  Joined by program out of the texts H2 H3.
-/
import Derived.Test.YtjbnofljoijnmaaDoorY13
import Derived.Test.YtjbnofljoijnmaaDoorY22
import Derived.StillTailTactics
import Derived.Test.YtjbnofljoijnmaaDoorY17
/-
  WALKS: the program's reader of layer 7: begun pieces, literals, operators, variables.
-/
namespace Go.Proofs.YtjbnofljoijnmaaDoor
open Go.RowKit

set_option maxRecDepth 20000 in
set_option maxHeartbeats 1000000 in
theorem begins_is (s : ByteArray) (b : Bool) (w : World) (R : Rans w) (hs : s.size ≤ 1000000) (h : beginsB s.data.toList = b) :
    Calls Tryd.prog 60 #[.string s] w fun e w' => e = .returned (.bool b) ∧ Below w.heap.size w w' := by
  subst h
  unfold beginsB
  have hz : ¬ 9223372036854775807 < s.size + 2 := by omega
  obtain ⟨x, hx⟩ : ∃ x, tripB (s.data.toList ++ [48, 48]) = x := ⟨_, rfl⟩
  obtain ⟨y, hy⟩ : ∃ y, YtjbnofljoijnmaaDooru.fitB s.data.toList = y := ⟨_, rfl⟩
  obtain ⟨S, hS⟩ : ∃ S : ByteArray, s ++ ⟨#[48, 48]⟩ = S := ⟨_, rfl⟩
  have hSx : tripB S.data.toList = x := by rw [← hS, app_list]; exact hx
  rw [hx, hy]
  have Hx := hide hSx
  have Hy := hide hy
  have r0 := R.rng
  clear hx hy hSx
  cases x with
  | true =>
    go_enter Tryd.func60, Tryd.ntmps60
    go_wp2_with (go_at_call 37; refine (ptrip_is S true _ Hx.out).mono ?_; rintro e w1 ⟨rfl, hw⟩; rw [hw])
    go_ret
    exact ⟨rfl, by first | exact Below.refl _ _ | exact (Below.refl _ _).alloc (Nat.le_refl _) _⟩
  | false =>
    go_enter Tryd.func60, Tryd.ntmps60
    go_wp2_with (first
      | (go_at_call 37; refine (ptrip_is S false _ Hx.out).mono ?_; rintro e w1 ⟨rfl, hw⟩; rw [hw])
      | (go_at_call 75; refine (YtjbnofljoijnmaaDooru.pfits_is s y _ (by first | exact r0 | exact r0.next ((Below.refl _ _).alloc (Nat.le_refl _) _)) Hy.out).mono ?_; rintro e w2 ⟨rfl, bb⟩))
    go_ret
    exact ⟨rfl, by first | exact bb | exact ((Below.refl _ _).alloc (Nat.le_refl _) _).trans (bb.mono (by simp))⟩
set_option maxRecDepth 20000 in
set_option maxHeartbeats 1000000 in
theorem begun_is (s : ByteArray) (n : Nat) (w : World) (R : Rans w) (hs : s.size ≤ 1000000) (hne : s.data.toList ≠ []) (hb : ∀ t, s.data.toList ≠ 123 :: t) (hp : pieceL s.data.toList = 0) (hn : goT outT s.data.toList = n) :
    Calls Tryd.prog 47 #[.string s] w fun e w' => e = .returned (.int .i64 n) ∧ Below w.heap.size w w' := by
  have hle := goT_le outT s.data.toList
  rw [hn, ← size_list] at hle
  have hif : ∀ k, 1 ≤ k → k ≤ s.size → (beginsB (s.extract 0 k).data.toList = true ↔ k ≤ n) := by
    intro k h1 h2
    rw [head_list, ← hn]
    exact begins_alive hne hb hp k h1 (by rw [← size_list]; exact h2)
  have Hif := hide hif
  clear hif hn hne hb hp
  go_enter Tryd.func47, Tryd.ntmps47
  go_wp2
  go_loopw [3] (fun i wr => ∃ k : Nat, k ≤ n ∧ i = .int .i64 k ∧ Below w.heap.size w wr) (fun i _ => s.size - (intOf i).toNat)
  case atStart => exact ⟨0, Nat.zero_le _, rfl, Below.refl _ _⟩
  case round =>
    obtain ⟨k, hk, rfl, B⟩ := hrel
    have RW := R.next B
    by_cases hlt : k < s.size
    · have hxs : (s.extract 0 (k + 1)).size ≤ 1000000 := by rw [size_list, head_list, List.length_take, ← size_list]; omega
      by_cases hN : k + 1 ≤ n
      · have Hb := hide ((Hif.out (k + 1) (by omega) (by omega)).2 hN)
        go_wp2_with (go_at_call 60; refine (begins_is _ true _ RW hxs Hb.out).mono ?_; rintro e w2 ⟨rfl, bb⟩)
        go_roundw
        case rel => exact ⟨k + 1, hN, by go_num, B.trans (bb.mono B.size)⟩
        case measure => simp [intOf]; omega
      · have Hb : Hid (beginsB (s.extract 0 (k + 1)).data.toList = false) := by
          show beginsB (s.extract 0 (k + 1)).data.toList = false
          cases h : beginsB (s.extract 0 (k + 1)).data.toList with
          | false => rfl
          | true => exact absurd ((Hif.out (k + 1) (by omega) (by omega)).1 h) hN
        have hkn : k = n := by omega
        have HK := hide hkn
        clear hkn
        go_wp2_with (go_at_call 60; refine (begins_is _ false _ RW hxs Hb.out).mono ?_; rintro e w2 ⟨rfl, bb⟩)
        go_ret
        exact ⟨by rw [HK.out]; rfl, B.trans (bb.mono B.size)⟩
    · have hkn : k = n := by omega
      have HK := hide hkn
      clear hkn
      go_wp2
      go_ret
      exact ⟨by rw [HK.out]; rfl, B⟩
theorem fault_is (b : Nat) (s : ByteArray) (p n m : Nat) (w : World) (hr : Rd w b s p) (hp : p ≤ 1000000) (hn : n ≤ 1000000) (hm : p + n = m) :
    Calls Tryd.prog 46 #[.pointer (some ⟨b, 0, none⟩), .int .i64 n] w fun e w' => e = fault m ∧ Below w.heap.size w w' := by
  subst hm; exact fail_any b s p n w hr hp hn
theorem Bx.moved {W W' : World} {k b : Nat} {cs : Array Value} {t : TypeId} (h : Bx W k cs t) (m : Mv b W W') (hk : k ≠ b) : Bx W' k cs t := (m.kept k h.lt hk).trans h
theorem Mv.put {w W : World} {b k : Nat} (h : Mv b w W) (hk : w.heap.size ≤ k) (hb : b ≤ k) (j : Nat) (v : Value) : Mv b w (W.setCell ⟨k, j, none⟩ v) :=
  ⟨h.bel.setCell (p := ⟨k, j, none⟩) hb _, fun i hi hn => (heap_setCell_other _ _ _ _ (show i ≠ k by omega)).trans (h.kept i hi hn)⟩
/-- what reading a literal comes to -/
def LitPost (b : Nat) (s : ByteArray) (p : Nat) (w : World) (e : Ending) (w' : World) : Prop :=
  Mv b w w' ∧ if litLen (s.data.toList.drop p) = 0 then e = fault (p + goT outT (s.data.toList.drop p))
    else e = .returned (.agg #[.string ⟨((s.data.toList.drop p).take (litLen (s.data.toList.drop p))).toArray⟩, .int .u8 0, .slice none 0 0]) ∧ Rd w' b s (p + litLen (s.data.toList.drop p))
set_option maxRecDepth 20000 in
set_option maxHeartbeats 1000000 in
theorem literal_any (b : Nat) (s : ByteArray) (p : Nat) (w : World) (R : Rans w) (hr : Rd w b s p) (hp : p < s.size) (hs : s.size ≤ 1000000) (hb : ∀ t, s.data.toList.drop p ≠ 123 :: t) :
    Calls Tryd.prog 33 #[.pointer (some ⟨b, 0, none⟩)] w fun e w' => LitPost b s p w e w' := by
  have hne : s.data.toList.drop p ≠ [] := by
    intro e
    have := congrArg List.length e
    rw [List.length_drop, ← size_list] at this
    simp at this
    omega
  obtain ⟨L, hL⟩ : ∃ L : ByteArray, L.data.toList = s.data.toList.drop p := ⟨⟨(s.data.toList.drop p).toArray⟩, rfl⟩
  have hLs : L.size = s.size - p := by rw [size_list, hL, List.length_drop, ← size_list]
  have hLm : L.size ≤ 1000000 := by omega
  unfold LitPost
  rw [← hL] at hne hb ⊢
  have hle := litLen_le L.data.toList
  rw [← size_list] at hle
  obtain ⟨n, hn⟩ : ∃ n, litLen L.data.toList = n := ⟨_, rfl⟩
  have HL := hide hL
  have T0 : Hid True := trivial
  have T1 : Hid True := trivial
  by_cases h0 : n = 0
  · subst h0
    obtain ⟨m, hm⟩ : ∃ m, goT outT L.data.toList = m := ⟨_, rfl⟩
    suffices hc : Calls Tryd.prog 33 #[.pointer (some ⟨b, 0, none⟩)] w fun e w' => e = fault (p + m) ∧ Mv b w w' from hc.mono fun e w' hh => ⟨hh.2, by rw [hn, if_pos rfl, hm]; exact hh.1⟩
    have hml := goT_le outT L.data.toList
    rw [hm, ← size_list] at hml
    have hpz : pieceL L.data.toList = 0 := by
      apply Classical.byContradiction
      intro h
      have := litLen_next h
      omega
    have Hn : Hid (litLen L.data.toList = ((0 : Nat))) := hn
    have Hne := hide hne
    have Hb := hide hb
    have Hm := hide hm
    have Hpz := hide hpz
    clear hne hb hm hpz hn hL
    have X := Bx.made w #[.string ⟨#[]⟩, .int .u8 0, .slice none 0 0] 37
    have hkb : w.heap.size ≠ b := by have := hr.lt; omega
    have hbl : b ≤ w.heap.size := Nat.le_of_lt hr.lt
    have M : Mv b w (w.alloc (.cells #[.string ⟨#[]⟩, .int .u8 0, .slice none 0 0] 37)) := Mv.of ((Below.refl _ _).alloc (Nat.le_refl _) _) hr.lt
    replace hr : Rd _ b s p := hr.later (.cells #[.string ⟨#[]⟩, .int .u8 0, .slice none 0 0] 37)
    replace R := R.alloc (.cells #[.string ⟨#[]⟩, .int .u8 0, .slice none 0 0] 37)
    have pany : Hid (∀ w, Rans w → Calls Tryd.prog 25 #[.string L] w fun e w' => e = .returned (.int .i64 0) ∧ Below w.heap.size w w') := by
      intro w R
      have := pieces_any L w R hLm
      rw [Hn.out] at this
      exact this
    go_enter Tryd.func33, Tryd.ntmps33
    go_wp2_with (first
      | (go_at_call 31; refine (left_any b s L p _ hr (by omega) HL.out).mono ?_; rintro e w1 ⟨rfl, bb⟩; replace M := M.trans (Mv.of bb hr.lt); replace hr := hr.next bb; replace R := R.next bb; clear bb)
      | (go_at_call 25; refine (pany.out _ R).mono ?_; rintro e w1 ⟨rfl, bb⟩; replace M := M.trans (Mv.of bb hr.lt); replace hr := hr.next bb; replace R := R.next bb; clear bb))
    replace hr : Rd _ b s p := hr.drew
    replace R := R.next ((Below.refl _ _).drew)
    replace M := M.drew
    refine wp_region_any (by kernel_rfl) ?_
    change wpAny _ _ _ _ _ _ _ (World.drew _)
    refine wpAny_take (i := 0) (v := ?_) rfl (by kernel_rfl) (by kernel_rfl) (by kernel_rfl) (fun _ _ _ h => h) (Or.inl ⟨by rfl, ?_⟩) ?_
    rotate_left
    · intro w; go_simp; try with_reducible rfl
    refine wpAny_take (i := 1) (v := ?_) rfl (by kernel_rfl) (by kernel_rfl) (by kernel_rfl) (fun _ _ _ h => h) (Or.inl ⟨by rfl, ?_⟩) ?_
    rotate_left
    · intro w; go_simp; try with_reducible rfl
    refine wpAny_take (i := 2) (v := ?_) rfl (by kernel_rfl) (by kernel_rfl) (by kernel_rfl) (fun _ _ _ h => h) (Or.inl ⟨by rfl, ?_⟩) ?_
    rotate_left
    · intro w; go_simp; try with_reducible rfl
    refine wpAny_take (i := 3) (v := ?_) rfl (by kernel_rfl) (by kernel_rfl) (by kernel_rfl) (fun _ _ _ h => h) (Or.inl ⟨by rfl, ?_⟩) ?_
    rotate_left
    · intro w; go_simp; try with_reducible rfl
    refine wpAny_take (i := 4) (v := ?_) rfl (by kernel_rfl) (by kernel_rfl) (by kernel_rfl) (fun _ _ _ h => h) (Or.inl ⟨by rfl, ?_⟩) ?_
    rotate_left
    · intro w; go_simp; try with_reducible rfl
    refine wpAny_take (i := 5) (v := ?_) rfl (by kernel_rfl) (by kernel_rfl) (by kernel_rfl) (fun _ _ _ h => h) (Or.inl ⟨by rfl, ?_⟩) ?_
    rotate_left
    · intro w; go_simp; try with_reducible rfl
    refine wpAny_ready (rs := [6]) (by kernel_rfl) (by simp) ?_
    refine AllReady.cons rfl (fun K hK => ?_) AllReady.nil
    go_simp
    go_wp2_with (go_at_call 31; refine (left_any b s L p _ hr (by omega) HL.out).mono ?_; rintro e w1 ⟨rfl, bb⟩; replace M := M.trans (Mv.of bb hr.lt); replace hr := hr.next bb; replace R := R.next bb; clear bb)
    first | (refine hK _ _ ?_; clear hK K) | skip
    refine wpAny_ready (rs := [7]) (by kernel_rfl) (by simp) ?_
    refine AllReady.cons rfl (fun K hK => ?_) AllReady.nil
    go_simp
    go_wp2_with (go_at_call 47; refine (begun_is L m _ R hLm Hne.out Hb.out Hpz.out Hm.out).mono ?_; rintro e w1 ⟨rfl, bb⟩; replace M := M.trans (Mv.of bb hr.lt); replace hr := hr.next bb; replace R := R.next bb; clear bb)
    first | (refine hK _ _ ?_; clear hK K) | skip
    refine wpAny_ready (rs := [8]) (by kernel_rfl) (by simp) ?_
    refine AllReady.cons rfl (fun K hK => ?_) AllReady.nil
    go_simp
    go_wp2_with (go_at_call 46; refine (fault_is b s p m (p + m) _ hr (by omega) (by omega) rfl).mono ?_; rintro e w1 ⟨he, bb⟩; unfold fault at he; subst he; replace M := M.trans (Mv.of bb hr.lt))
    exact ⟨rfl, by rw [← Int.natCast_add]; rfl, M⟩
  · suffices hc : Calls Tryd.prog 33 #[.pointer (some ⟨b, 0, none⟩)] w fun e w' => e = .returned (.agg #[.string ⟨(L.data.toList.take n).toArray⟩, .int .u8 0, .slice none 0 0]) ∧ Mv b w w' ∧ Rd w' b s (p + n) from hc.mono fun e w' hh => ⟨hh.2.1, by rw [hn, if_neg h0]; exact ⟨hh.1, hh.2.2⟩⟩
    have hnz : ((n : Int) == 0) = false := by simp; omega
    have hle2 : n ≤ L.size := by omega
    have pany : Hid (∀ w, Rans w → Calls Tryd.prog 25 #[.string L] w fun e w' => e = .returned (.int .i64 n) ∧ Below w.heap.size w w') := by
      intro w R
      have := pieces_any L w R hLm
      rw [hn] at this
      exact this
    have Hf : Hid ((⟨(L.data.toList.take n).toArray⟩ : ByteArray).data.toList = (s.data.toList.drop p).take n) := by
      show (L.data.toList.take n) = _
      rw [hL]
    clear hne hb hn hL hle
    have X := Bx.made w #[.string ⟨#[]⟩, .int .u8 0, .slice none 0 0] 37
    have hkb : w.heap.size ≠ b := by have := hr.lt; omega
    have hbl : b ≤ w.heap.size := Nat.le_of_lt hr.lt
    have M : Mv b w (w.alloc (.cells #[.string ⟨#[]⟩, .int .u8 0, .slice none 0 0] 37)) := Mv.of ((Below.refl _ _).alloc (Nat.le_refl _) _) hr.lt
    replace hr : Rd _ b s p := hr.later (.cells #[.string ⟨#[]⟩, .int .u8 0, .slice none 0 0] 37)
    replace R := R.alloc (.cells #[.string ⟨#[]⟩, .int .u8 0, .slice none 0 0] 37)
    generalize (⟨(L.data.toList.take n).toArray⟩ : ByteArray) = F at *
    go_enter Tryd.func33, Tryd.ntmps33
    go_wp2_with (first
      | (go_at_call 31; refine (left_any b s L p _ hr (by omega) HL.out).mono ?_; rintro e w1 ⟨rfl, bb⟩; replace M := M.trans (Mv.of bb hr.lt); replace hr := hr.next bb; replace R := R.next bb; replace X := X.next bb; clear bb)
      | (go_at_call 25; refine (pany.out _ R).mono ?_; rintro e w1 ⟨rfl, bb⟩; replace M := M.trans (Mv.of bb hr.lt); replace hr := hr.next bb; replace R := R.next bb; replace X := X.next bb; clear bb)
      | (go_at_call 43; refine (take_any b s F p n _ hr (by omega) hs Hf.out).mono ?_; rintro e w1 ⟨rfl, m1, hr1⟩; replace M := M.trans m1; replace X := X.moved m1 hkb; obtain ⟨x0, x1, x2⟩ := cells3 X; have f0 := X.free 0; have f1 := X.free 1; have f2 := X.free 2))
    have X3 := ((X.put 0 (.string F)).put 1 (.int .u8 0)).put 2 (.slice none 0 0)
    obtain ⟨z0, z1, z2⟩ := cells3 (x := .string F) (y := .int .u8 0) (z := .slice none 0 0) X3
    refine bodyPost_ret (v := .agg #[.string F, .int .u8 0, .slice none 0 0]) ?_ rfl ⟨rfl, ((M.put (Nat.le_refl _) hbl 0 _).put (Nat.le_refl _) hbl 1 _).put (Nat.le_refl _) hbl 2 _, ?_⟩
    · simp [results, Tryd.results33, go_sem, z0, z1, z2]
    · exact ((hr1.other (Ne.symm hkb) 0 _).other (Ne.symm hkb) 1 _).other (Ne.symm hkb) 2 _
end Go.Proofs.YtjbnofljoijnmaaDoor

/-
  WALKS: the program's reader of layer 7: operators and variables.
-/
namespace Go.Proofs.YtjbnofljoijnmaaDoor
open Go.RowKit

theorem byte_list {f : ByteArray} {a : UInt8} (h : f.data.toList = [a]) : ∃ hs : 0 < f.size, f[0] = a := by
  have hs : f.size = 1 := by rw [size_list, h]; rfl
  refine ⟨by omega, ?_⟩
  have : f.data.toList[0]'(by rw [h]; simp) = a := by simp [h]
  exact this
set_option maxRecDepth 20000 in
set_option maxHeartbeats 1000000 in
theorem operator_any (b : Nat) (s : ByteArray) (p : Nat) (w : World) (hr : Rd w b s p) (hp : p ≤ s.size) (hs : s.size ≤ 1000000) :
    Calls Tryd.prog 44 #[.pointer (some ⟨b, 0, none⟩)] w fun e w' => e = .returned (.int .u8 ((headOp (s.data.toList.drop p)).1.toNat : Int)) ∧ Mv b w w' ∧ Rd w' b s (p + (opL (headOp (s.data.toList.drop p)).1).length) := by
  obtain ⟨L, hL⟩ : ∃ L : ByteArray, L.data.toList = s.data.toList.drop p := ⟨⟨(s.data.toList.drop p).toArray⟩, rfl⟩
  have hLs : L.size = s.size - p := by rw [size_list, hL, List.length_drop, ← size_list]
  rw [← hL]
  have HL := hide hL
  have M := Mv.refl b w
  have T0 : Hid True := trivial
  have T1 : Hid True := trivial
  by_cases h0 : 0 < L.size
  · have hh := head_some h0
    have hc := UInt8.toNat_lt L[0]
    have hns : L.toList.isEmpty = false := by
      rw [Lib.toList_data]
      cases h : L.data.toList with
      | nil => rw [size_list, h] at h0; simp at h0
      | cons _ _ => rfl
    cases ho : opB L[0] with
    | false =>
      rw [hh, ho]
      have Ho : Hid (opN ((L[0].toNat : Int)).toNat = false) := ho
      clear hL hh ho
      show Calls _ _ _ _ fun e w' => e = .returned (.int .u8 ((0 : UInt8).toNat : Int)) ∧ Mv b w w' ∧ Rd w' b s (p + 0)
      go_enter Tryd.func44, Tryd.ntmps44
      go_wp2_with (first
        | (go_at_call 31; have z := T0; refine (left_any b s L p _ hr (by omega) HL.out).mono ?_; rintro e w1 ⟨rfl, bb⟩; replace M := M.trans (Mv.of bb hr.lt); replace hr := hr.next bb; clear T0 z bb)
        | (go_at_call 31; have z := T1; refine (left_any b s L p _ hr (by omega) HL.out).mono ?_; rintro e w1 ⟨rfl, bb⟩; replace M := M.trans (Mv.of bb hr.lt); replace hr := hr.next bb; clear T1 z bb)
        | (go_at_call 39; refine (written_is _ false _ (by omega) (by omega) Ho.out).mono ?_; rintro e w1 ⟨rfl, hw⟩; rw [hw]))
      go_ret
      exact ⟨rfl, M, hr⟩
    | true =>
      rw [hh, ho]
      have h1 := (op_dead ho).2.1
      have e1 : (opL L[0]).length = 1 := by unfold opL; rw [if_neg h1]; rfl
      have Ho : Hid (opN ((L[0].toNat : Int)).toNat = true) := ho
      have hf : ([L[0]] : List UInt8) = (s.data.toList.drop p).take 1 := by
        rw [← hL]
        obtain ⟨a, t, e⟩ : ∃ a t, L.data.toList = a :: t := by
          cases h : L.data.toList with
          | nil => rw [size_list, h] at h0; simp at h0
          | cons a t => exact ⟨a, t, rfl⟩
        have : L.data.toList[0]'(by rw [e]; simp) = a := by simp [e]
        rw [show L[0] = a from this, e]
        rfl
      obtain ⟨c, hc2⟩ : ∃ c, L[0] = c := ⟨_, rfl⟩
      rw [hc2] at hf e1
      have hcu := UInt8.toNat_lt c
      replace Ho : Hid (opN ((c.toNat : Int)).toNat = true) := by rw [← hc2]; exact Ho.out
      obtain ⟨F, hF⟩ : ∃ F : ByteArray, F.data.toList = [c] := ⟨⟨#[c]⟩, rfl⟩
      obtain ⟨hF0, hFc⟩ := byte_list hF
      have Hf : Hid (F.data.toList = (s.data.toList.drop p).take 1) := hF.trans hf
      clear hL hh ho hf hF
      suffices hcl : Calls Tryd.prog 44 #[.pointer (some ⟨b, 0, none⟩)] w fun e w' => e = .returned (.int .u8 (c.toNat : Int)) ∧ Mv b w w' ∧ Rd w' b s (p + 1) from hcl.mono fun e w' hh => by
        rw [hc2]
        show e = .returned (.int .u8 (c.toNat : Int)) ∧ Mv b w w' ∧ Rd w' b s (p + (opL c).length)
        rw [e1]
        exact hh
      go_enter Tryd.func44, Tryd.ntmps44
      go_wp2_with (first
        | (go_at_call 31; have z := T0; refine (left_any b s L p _ hr (by omega) HL.out).mono ?_; rintro e w1 ⟨rfl, bb⟩; replace M := M.trans (Mv.of bb hr.lt); replace hr := hr.next bb; clear T0 z bb)
        | (go_at_call 31; have z := T1; refine (left_any b s L p _ hr (by omega) HL.out).mono ?_; rintro e w1 ⟨rfl, bb⟩; replace M := M.trans (Mv.of bb hr.lt); replace hr := hr.next bb; clear T1 z bb)
        | (go_at_call 39; refine (written_is _ true _ (by omega) (by omega) Ho.out).mono ?_; rintro e w1 ⟨rfl, hw⟩; rw [hw])
        | (go_at_call 43; refine (take_any b s F p 1 _ hr (by omega) hs Hf.out).mono ?_; rintro e w1 ⟨rfl, m1, hr1⟩; replace M := M.trans m1))
      go_ret
      exact ⟨by rw [← hFc]; rfl, M, hr1⟩
  · have hz : L.data.toList = [] := by
      cases h : L.data.toList with
      | nil => rfl
      | cons a t => rw [size_list, h] at h0; simp at h0
    have hns : L.toList.isEmpty = true := by rw [Lib.toList_data, hz]; rfl
    rw [hz]
    clear hz hL
    show Calls _ _ _ _ fun e w' => e = .returned (.int .u8 ((0 : UInt8).toNat : Int)) ∧ Mv b w w' ∧ Rd w' b s (p + 0)
    go_enter Tryd.func44, Tryd.ntmps44
    go_wp2_with (go_at_call 31; refine (left_any b s L p _ hr (by omega) HL.out).mono ?_; rintro e w1 ⟨rfl, bb⟩; replace M := M.trans (Mv.of bb hr.lt); replace hr := hr.next bb; clear bb)
    go_ret
    exact ⟨rfl, M, hr⟩
/-- what reading a variable comes to -/
def VarPost (b : Nat) (s : ByteArray) (p : Nat) (w : World) (e : Ending) (w' : World) : Prop :=
  Mv b w w' ∧ if endC (s.data.toList.drop p) < (s.data.toList.drop p).length ∧ isX ((s.data.toList.drop p).take (endC (s.data.toList.drop p))) = true then
      e = .returned (.agg (spV (specX ((s.data.toList.drop p).take (endC (s.data.toList.drop p))))).toArray) ∧ Rd w' b s (p + endC (s.data.toList.drop p))
    else e = fault (p + badX ((s.data.toList.drop p).take (endC (s.data.toList.drop p))))
theorem tk_yes {S : ByteArray} (h : isX S.data.toList = true) : tkN S = ⟨(specX S.data.toList).name.toArray⟩ ∧ tkM S = (specX S.data.toList).max ∧ tkS S = (specX S.data.toList).star ∧ tkE S = 0 := by
  unfold tkN tkM tkS tkE
  rw [h]
  refine ⟨?_, rfl, rfl, rfl⟩
  rw [if_pos rfl]
  exact arr_ext (nmX_list S)
set_option maxRecDepth 20000 in
set_option maxHeartbeats 1000000 in
theorem variable_any (b : Nat) (s : ByteArray) (p : Nat) (w : World) (R : Rans w) (hr : Rd w b s p) (hp : p ≤ s.size) (hs : s.size ≤ 1000000) :
    Calls Tryd.prog 45 #[.pointer (some ⟨b, 0, none⟩)] w fun e w' => VarPost b s p w e w' := by
  obtain ⟨L, hL⟩ : ∃ L : ByteArray, L.data.toList = s.data.toList.drop p := ⟨⟨(s.data.toList.drop p).toArray⟩, rfl⟩
  have hLs : L.size = s.size - p := by rw [size_list, hL, List.length_drop, ← size_list]
  have hLm : L.size ≤ 1000000 := by omega
  unfold VarPost
  rw [← hL]
  have HL := hide hL
  have X := Bx.made w #[.string ⟨#[]⟩, .int .i64 0, .bool false] 39
  have hkb : w.heap.size ≠ b := by have := hr.lt; omega
  have hbl : b ≤ w.heap.size := Nat.le_of_lt hr.lt
  have M : Mv b w (w.alloc (.cells #[.string ⟨#[]⟩, .int .i64 0, .bool false] 39)) := Mv.of ((Below.refl _ _).alloc (Nat.le_refl _) _) hr.lt
  replace hr : Rd _ b s p := hr.later (.cells #[.string ⟨#[]⟩, .int .i64 0, .bool false] 39)
  replace R := R.alloc (.cells #[.string ⟨#[]⟩, .int .i64 0, .bool false] 39)
  have hle := endC_le L.data.toList
  obtain ⟨n, hn⟩ : ∃ n, endC L.data.toList = n := ⟨_, rfl⟩
  obtain ⟨S, hS⟩ : ∃ S : ByteArray, S.data.toList = L.data.toList.take n := ⟨⟨(L.data.toList.take n).toArray⟩, rfl⟩
  have hSs : S.size ≤ 1000000 := by rw [size_list, hS, List.length_take, ← size_list]; omega
  rw [hn, ← size_list] at hle
  have hbx := badX_le S.data.toList
  rw [← size_list] at hbx
  rw [hn, ← hS]
  obtain ⟨m, hm⟩ : ∃ m, badX S.data.toList = m := ⟨_, rfl⟩
  have hmi : (badX S.data.toList : Int) = (m : Int) := by rw [hm]
  have Hm := hide hmi
  rw [hm] at hbx ⊢
  by_cases hlt : n < L.size
  · have hkk : (if endC L.data.toList < L.data.toList.length then (endC L.data.toList : Int) else -1) = (n : Int) := by rw [hn, if_pos (by rw [← size_list]; exact hlt)]
    have Hkk := hide hkk
    have eS : L.extract 0 n = S := arr_ext (by rw [head_list, hS])
    have hge : (0 : Int) ≤ n := by omega
    have hnl : (n : Int) ≤ (L.size : Int) := by omega
    cases hx : isX S.data.toList with
    | true =>
      obtain ⟨t1, t2, t3, t4⟩ := tk_yes hx
      obtain ⟨nm, hnm⟩ : ∃ nm : ByteArray, (⟨(specX S.data.toList).name.toArray⟩ : ByteArray) = nm := ⟨_, rfl⟩
      obtain ⟨mx, hmx⟩ : ∃ mx, (specX S.data.toList).max = mx := ⟨_, rfl⟩
      obtain ⟨st, hst⟩ : ∃ st, (specX S.data.toList).star = st := ⟨_, rfl⟩
      suffices hcl : Calls Tryd.prog 45 #[.pointer (some ⟨b, 0, none⟩)] w fun e w' => e = .returned (.agg #[.string nm, .int .i64 mx, .bool st]) ∧ Mv b w w' ∧ Rd w' b s (p + n) from hcl.mono fun e w' hh => by
        refine ⟨hh.2.1, ?_⟩
        rw [if_pos ⟨by rw [← size_list]; exact hlt, rfl⟩]
        refine ⟨?_, hh.2.2⟩
        rw [hh.1, ← hnm, ← hmx, ← hst]
        rfl
      rw [hnm] at t1
      rw [hmx] at t2
      rw [hst] at t3
      have H1 := hide t1
      have H2 := hide t2
      have H3 := hide t3
      have H4 := hide t4
      obtain ⟨F, hF⟩ : ∃ F : ByteArray, F.data.toList = (s.data.toList.drop p).take n := ⟨⟨((s.data.toList.drop p).take n).toArray⟩, rfl⟩
      have HF := hide hF
      clear t1 t2 t3 t4 hx hnm hmx hst hkk hm hmi hS hn hL hF
      go_enter Tryd.func45, Tryd.ntmps45
      go_wp2_with (first
        | (go_at_call 31; refine (left_any b s L p _ hr (by omega) HL.out).mono ?_; rintro e w1 ⟨rfl, bb⟩; replace M := M.trans (Mv.of bb hr.lt); replace hr := hr.next bb; replace R := R.next bb; replace X := X.next bb; clear bb)
        | (go_at_call 58; refine (any_is L n _ hLm Hkk.out).mono ?_; rintro e w1 ⟨rfl, bb⟩; replace M := M.trans (Mv.of bb hr.lt); replace hr := hr.next bb; replace R := R.next bb; replace X := X.next bb; clear bb)
        | (go_at_call 59; refine (pxtk_is S nm mx st m 0 _ hSs H1.out H2.out H3.out Hm.out H4.out R.tab).mono ?_; rintro e w2 ⟨rfl, bb⟩; replace M := M.trans (Mv.of bb hr.lt); replace hr := hr.next bb; replace R := R.next bb; replace X := X.next bb; clear bb))
      have Y : Bx (w2.alloc (.cells #[.string nm, .int .i64 mx, .bool st] 39)) w2.heap.size #[.string nm, .int .i64 mx, .bool st] 39 := Bx.made w2 _ _
      have hkb2 : w2.heap.size ≠ b := by have := hr.lt; omega
      have hwk : w.heap.size < w2.heap.size := X.lt
      go_wp2_with (go_at_call 43; refine (take_any b s F p n _ (hr.later _) (by omega) hs HF.out).mono ?_; rintro e w3 ⟨rfl, m1, hr1⟩; replace M := (M.trans (Mv.of ((Below.refl _ _).alloc (Nat.le_refl _) _) hr.lt)).trans m1; replace X := (X.later _).moved m1 hkb; replace Y := Y.moved m1 hkb2; obtain ⟨x0, x1, x2⟩ := cells3 X; obtain ⟨y0, y1, y2⟩ := cells3 Y; have f0 := X.free 0; have f1 := X.free 1; have f2 := X.free 2)
      have X3 := ((X.put 0 (.string nm)).put 1 (.int .i64 mx)).put 2 (.bool st)
      obtain ⟨z0, z1, z2⟩ := cells3 (x := .string nm) (y := .int .i64 mx) (z := .bool st) X3
      refine bodyPost_ret (v := .agg #[.string nm, .int .i64 mx, .bool st]) ?_ rfl ⟨rfl, ((M.put (Nat.le_refl _) hbl 0 _).put (Nat.le_refl _) hbl 1 _).put (Nat.le_refl _) hbl 2 _, ?_⟩
      · simp [results, Tryd.results45, go_sem, z0, z1, z2]
      · exact ((hr1.other (Ne.symm hkb) 0 _).other (Ne.symm hkb) 1 _).other (Ne.symm hkb) 2 _
    | false =>
      suffices hcl : Calls Tryd.prog 45 #[.pointer (some ⟨b, 0, none⟩)] w fun e w' => e = fault (p + m) ∧ Mv b w w' from hcl.mono fun e w' hh => ⟨hh.2, by rw [if_neg (fun h => by have := h.2; cases this)]; exact hh.1⟩
      have H4 : Hid (tkE S = 2) := by show tkE S = 2; unfold tkE; rw [hx]; rfl
      clear hkk hm hmi hS hn hL hx
      go_enter Tryd.func45, Tryd.ntmps45
      go_wp2_with (first
        | (go_at_call 31; refine (left_any b s L p _ hr (by omega) HL.out).mono ?_; rintro e w1 ⟨rfl, bb⟩; replace M := M.trans (Mv.of bb hr.lt); replace hr := hr.next bb; replace R := R.next bb; replace X := X.next bb; clear bb)
        | (go_at_call 58; refine (any_is L n _ hLm Hkk.out).mono ?_; rintro e w1 ⟨rfl, bb⟩; replace M := M.trans (Mv.of bb hr.lt); replace hr := hr.next bb; replace R := R.next bb; replace X := X.next bb; clear bb)
        | (go_at_call 59; refine (pxtk_is S (tkN S) (tkM S) (tkS S) m 2 _ hSs rfl rfl rfl Hm.out H4.out R.tab).mono ?_; rintro e w2 ⟨rfl, bb⟩; replace M := M.trans (Mv.of bb hr.lt); replace hr := hr.next bb; replace R := R.next bb; replace X := X.next bb; clear bb)
        | (go_at_call 46; refine (fault_is b s p m (p + m) _ (hr.later _) (by omega) (by omega) rfl).mono ?_; rintro e w3 ⟨he, bb⟩; unfold fault at he; subst he; replace M := M.trans (Mv.of (((Below.refl _ _).alloc (Nat.le_refl _) _).trans (bb.mono (by simp))) hr.lt)))
      exact ⟨rfl, by rw [← Int.natCast_add]; rfl, M⟩
  · have hkk : (if endC L.data.toList < L.data.toList.length then (endC L.data.toList : Int) else -1) = (-1 : Int) := by rw [hn, if_neg (by rw [← size_list]; exact hlt)]
    have Hkk := hide hkk
    have eS : S = L := arr_ext (by rw [hS, List.take_of_length_le (by rw [← size_list]; omega)])
    subst eS
    suffices hcl : Calls Tryd.prog 45 #[.pointer (some ⟨b, 0, none⟩)] w fun e w' => e = fault (p + m) ∧ Mv b w w' from hcl.mono fun e w' hh => ⟨hh.2, by rw [if_neg (fun h => hlt (by have := h.1; rw [← size_list] at this; exact this))]; exact hh.1⟩
    obtain ⟨ee, he⟩ : ∃ ee, tkE S = ee := ⟨_, rfl⟩
    have hee : ee = 0 ∨ ee = 2 := by rw [← he]; unfold tkE; split <;> simp
    have H4 := hide he
    clear hkk hm hmi hS hn hL he
    rcases hee with rfl | rfl
    · skip
      go_enter Tryd.func45, Tryd.ntmps45
      go_wp2_with (first
        | (go_at_call 31; refine (left_any b s S p _ hr (by omega) HL.out).mono ?_; rintro e w1 ⟨rfl, bb⟩; replace M := M.trans (Mv.of bb hr.lt); replace hr := hr.next bb; replace R := R.next bb; replace X := X.next bb; clear bb)
        | (go_at_call 58; refine (any_is S (-1) _ hLm Hkk.out).mono ?_; rintro e w1 ⟨rfl, bb⟩; replace M := M.trans (Mv.of bb hr.lt); replace hr := hr.next bb; replace R := R.next bb; replace X := X.next bb; clear bb)
        | (go_at_call 59; refine (pxtk_is S (tkN S) (tkM S) (tkS S) m 0 _ hSs rfl rfl rfl Hm.out H4.out R.tab).mono ?_; rintro e w2 ⟨rfl, bb⟩; replace M := M.trans (Mv.of bb hr.lt); replace hr := hr.next bb; replace R := R.next bb; replace X := X.next bb; clear bb)
        | (go_at_call 46; refine (fault_is b s p m (p + m) _ (hr.later _) (by omega) (by omega) rfl).mono ?_; rintro e w3 ⟨he, bb⟩; unfold fault at he; subst he; replace M := M.trans (Mv.of (((Below.refl _ _).alloc (Nat.le_refl _) _).trans (bb.mono (by simp))) hr.lt)))
      exact ⟨rfl, by rw [← Int.natCast_add]; rfl, M⟩
    · skip
      go_enter Tryd.func45, Tryd.ntmps45
      go_wp2_with (first
        | (go_at_call 31; refine (left_any b s S p _ hr (by omega) HL.out).mono ?_; rintro e w1 ⟨rfl, bb⟩; replace M := M.trans (Mv.of bb hr.lt); replace hr := hr.next bb; replace R := R.next bb; replace X := X.next bb; clear bb)
        | (go_at_call 58; refine (any_is S (-1) _ hLm Hkk.out).mono ?_; rintro e w1 ⟨rfl, bb⟩; replace M := M.trans (Mv.of bb hr.lt); replace hr := hr.next bb; replace R := R.next bb; replace X := X.next bb; clear bb)
        | (go_at_call 59; refine (pxtk_is S (tkN S) (tkM S) (tkS S) m 2 _ hSs rfl rfl rfl Hm.out H4.out R.tab).mono ?_; rintro e w2 ⟨rfl, bb⟩; replace M := M.trans (Mv.of bb hr.lt); replace hr := hr.next bb; replace R := R.next bb; replace X := X.next bb; clear bb)
        | (go_at_call 46; refine (fault_is b s p m (p + m) _ (hr.later _) (by omega) (by omega) rfl).mono ?_; rintro e w3 ⟨he, bb⟩; unfold fault at he; subst he; replace M := M.trans (Mv.of (((Below.refl _ _).alloc (Nat.le_refl _) _).trans (bb.mono (by simp))) hr.lt)))
      exact ⟨rfl, by rw [← Int.natCast_add]; rfl, M⟩
end Go.Proofs.YtjbnofljoijnmaaDoor
