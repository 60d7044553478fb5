/-
  WALKS: the reference's Norm; plain; awake.
-/
import Derived.Test.YtmpengiohfjofaaW19
namespace Go.Proofs.Ytmpengiohfjofaa
open Go.RowKit

theorem arr_list (x : ByteArray) : (⟨x.data.toList.toArray⟩ : ByteArray) = x := rfl
theorem same_list {x y : ByteArray} (h : x.data.toList = y.data.toList) : x = y := by
  rw [← arr_list x, ← arr_list y, h]
theorem dec_is (s : ByteArray) (v : Value) (w : World) (hs : s.size ≤ 1000000) (h : decR (decL s.data.toList) = v) :
    Calls Try.prog 16 #[.string s] w fun e w' => e = .returned v ∧ Below w.heap.size w w' := by subst h; exact dec_any s w hs
theorem rdec_is (s : ByteArray) (v : Value) (w : World) (hs : s.size ≤ 1000000) (h : decR (decL s.data.toList) = v) :
    Calls Try.prog 17 #[.string s] w fun e w' => e = .returned v ∧ Below w.heap.size w w' := by subst h; exact rdec_any s w hs
theorem enc_is (s : ByteArray) (keep : Bool) (m : ByteArray) (w : World) (hs : s.size ≤ 300000) (h : m.data.toList = encL keep s.data.toList) :
    Calls Try.prog 18 #[.string s, .bool keep] w fun e w' => e = .returned (.string m) ∧ Below w.heap.size w w' := by
  have := enc_any s keep w hs
  rw [← h] at this
  exact this
theorem renc_is (s : ByteArray) (keep : Bool) (m : ByteArray) (w : World) (hs : s.size ≤ 300000) (h : m.data.toList = encL keep s.data.toList) :
    Calls Try.prog 19 #[.string s, .bool keep] w fun e w' => e = .returned (.string m) ∧ Below w.heap.size w w' := by
  have := renc_any keep s w hs
  rw [← h] at this
  exact this
theorem norm_is (s : ByteArray) (m : ByteArray) (w : World) (hs : s.size ≤ 1000000) (h : m.data.toList = normL s.data.toList) :
    Calls Try.prog 20 #[.string s] w fun e w' => e = .returned (.string m) ∧ Below w.heap.size w w' := by
  have := norm_any s w hs
  rw [← h] at this
  exact this

theorem norm_head' (x : ByteArray) (hp : 0 < x.size) (h : tripB x.data.toList = false) : normL x.data.toList = (x.extract 0 1).data.toList ++ normL (x.extract 1 x.size).data.toList := by
  rw [cut_list, head_one' x hp]
  have e := list_one x hp
  rw [e] at h
  have := norm_byte h
  rw [← e] at this
  exact this
theorem norm_head3 (x : ByteArray) (h3 : 3 ≤ x.size) (h : tripB x.data.toList = true) : normL x.data.toList = oneL (pairV x[1] x[2]) ++ normL (x.extract 3 x.size).data.toList ∧ decL (x.extract 0 3).data.toList = some [pairV x[1] x[2]] := by
  rw [cut_list, head_list]
  have e := list_three x h3
  rw [trip_at x h3] at h
  simp at h
  have h1 := norm_trip (b := x[1]) (c := x[2]) (r := x.data.toList.drop 3) h.1.2 h.2
  rw [h.1.1] at e
  rw [← e] at h1
  refine ⟨?_, ?_⟩
  · rw [h1, one_pair h.1.2 h.2]; rfl
  · rw [e]
    show decL [37, x[1], x[2]] = _
    rw [dec_trip h.1.2 h.2]; rfl
theorem norm_round {s x y z r : ByteArray} (hE : normL s.data.toList = y.data.toList ++ normL x.data.toList) (hH : normL x.data.toList = z.data.toList ++ normL r.data.toList) : normL s.data.toList = (y ++ z).data.toList ++ normL r.data.toList := by
  rw [hE, hH, app_list, List.append_assoc]

set_option maxRecDepth 20000 in
set_option maxHeartbeats 1000000 in
theorem rnorm_any (s : ByteArray) (w : World) (hs : s.size ≤ 1000000) :
    Calls Try.prog 21 #[.string s] w fun e w' => e = .returned (.string ⟨(normL s.data.toList).toArray⟩) ∧ Below w.heap.size w w' := by
  go_enter Try.func21, Try.ntmps21
  go_wp2
  go_loopw [0, 3] (fun v o wr => ∃ x y : ByteArray, v = .string x ∧ o = .string y ∧ Below w.heap.size w wr ∧ w.heap.size ≤ wr.heap.size ∧ y.size + 3 * x.size ≤ 3 * s.size ∧ normL s.data.toList = y.data.toList ++ normL x.data.toList) (fun v _ _ => lenOf v)
  case atStart => exact ⟨s, ⟨#[]⟩, rfl, rfl, Below.refl _ _, Nat.le_refl _, by show 0 + _ ≤ _; omega, rfl⟩
  case round =>
    obtain ⟨x, y, rfl, rfl, hB, hsz, hlen, hE⟩ := hrel
    have HE := hide hE
    clear hE
    by_cases hp : 0 < x.size
    · have hne := ne_some x hp
      cases htr : tripB x.data.toList with
      | true =>
        have h3 : 3 ≤ x.size := Classical.byContradiction fun h' => by rw [trip_short x h'] at htr; cases htr
        obtain ⟨hh, hd⟩ := norm_head3 x h3 htr
        obtain ⟨d, hdd⟩ : ∃ d : ByteArray, d = ⟨[pairV x[1] x[2]].toArray⟩ := ⟨_, rfl⟩
        have Hd : Hid (decR (decL (x.extract 0 3).data.toList) = .tuple #[.string d, .bool true]) := by show decR (decL (x.extract 0 3).data.toList) = _; rw [hd, hdd]; rfl
        have hds : d.size = 1 := by rw [hdd]; rfl
        have hd0 : d[0] = pairV x[1] x[2] := by subst hdd; rfl
        have hb0 := UInt8.toNat_lt d[0]
        have hi0 : (0 : Int) ≤ d[0].toNat := by omega
        have hi1 : (d[0].toNat : Int) ≤ 255 := by omega
        obtain ⟨m, hm⟩ : ∃ m : ByteArray, m = ⟨(oneN (d[0].toNat : Int).toNat).toArray⟩ := ⟨_, rfl⟩
        have hml : m.data.toList = oneL (pairV x[1] x[2]) := by rw [hm, one_N, ← hd0]; rfl
        have hm3 : m.size = 3 := by rw [size_list, hml]; rfl
        rw [← hml] at hh
        have HR := hide (norm_round HE.out hh)
        have hx3s : (x.extract 0 3).size = 3 := by simp; omega
        have hsr3 : (x.extract 3 x.size).size = x.size - 3 := by simp
        have Hm := hide hm
        have Htr := hide htr
        have T1 : Hid ((x.extract 0 3).size ≤ 1000000) := by show (x.extract 0 3).size ≤ 1000000; omega
        clear hm hml hh hd hdd hd0 htr
        go_wp2_with (first
          | (go_at_call 15; refine (rtrip_is _ _ _ Htr.out).mono ?_; rintro e w4 ⟨rfl, hw4⟩; rw [hw4])
          | (go_at_call 17; refine (rdec_is _ _ _ T1.out Hd.out).mono ?_; rintro e w1 ⟨rfl, b1⟩)
          | (go_at_call 13; refine (rone3_is _ m _ hi0 hi1 Hm.out).mono ?_; rintro e w2 ⟨rfl, b2⟩))
        go_roundw
        case rel => exact ⟨_, _, rfl, rfl, (hB.trans (b1.mono hsz)).trans (b2.mono (Nat.le_trans hsz b1.size)), Nat.le_trans (Nat.le_trans hsz b1.size) b2.size, by rw [ByteArray.size_append]; omega, HR.out⟩
        case measure => simp only [lenOf]; omega
      | false =>
        have HR := hide (norm_round HE.out (norm_head' x hp htr))
        have hx1s : (x.extract 0 1).size = 1 := by rw [size_list, head_one' x hp]; rfl
        have hsr1 : (x.extract 1 x.size).size = x.size - 1 := by simp
        have Htr := hide htr
        clear htr
        go_wp2_with (first
          | (go_at_call 15; refine (rtrip_is _ _ _ Htr.out).mono ?_; rintro e w4 ⟨rfl, hw4⟩; rw [hw4]))
        go_roundw
        case rel => exact ⟨_, _, rfl, rfl, hB, hsz, by rw [ByteArray.size_append]; omega, HR.out⟩
        case measure => simp only [lenOf]; omega
    · have hne := ne_none x hp
      have hx := list_none x hp
      have HE2 : Hid (normL s.data.toList = y.data.toList) := by show normL s.data.toList = y.data.toList; rw [HE.out, hx, norm_nil, List.append_nil]
      clear hx
      go_wp2
      go_ret
      refine ⟨?_, hB⟩
      rw [HE2.out]
      rfl
theorem rnorm_is (s : ByteArray) (m : ByteArray) (w : World) (hs : s.size ≤ 1000000) (h : m.data.toList = normL s.data.toList) :
    Calls Try.prog 21 #[.string s] w fun e w' => e = .returned (.string m) ∧ Below w.heap.size w w' := by
  have := rnorm_any s w hs
  rw [← h] at this
  exact this

/-- a text has no % -/
def plainB (l : List UInt8) : Bool := l.all fun c => c != 37
theorem plain_snoc (l : List UInt8) (c : UInt8) : plainB (l ++ [c]) = (plainB l && c != 37) := by unfold plainB; simp
theorem plain_more (l : List UInt8) (k : Nat) (h : plainB (l.take k) = false) : plainB l = false := by
  unfold plainB at *
  rw [List.all_eq_false] at *
  obtain ⟨x, hx, hc⟩ := h
  exact ⟨x, List.mem_of_mem_take hx, hc⟩

set_option maxRecDepth 20000 in
set_option maxHeartbeats 1000000 in
theorem plain_any (s : ByteArray) (w : World) (hs : s.size ≤ 1000000) :
    Calls Try.prog 22 #[.string s] w fun e w' => e = .returned (.bool (plainB s.data.toList)) ∧ w' = w := by
  go_enter Try.func22, Try.ntmps22
  go_wp2
  go_loop [3] (fun i => ∃ k : Nat, k ≤ s.size ∧ i = .int .i64 k ∧ plainB (s.data.toList.take k) = true) (fun i => s.size - (intOf i).toNat)
  case atStart => exact ⟨0, Nat.zero_le _, rfl, rfl⟩
  case round =>
    obtain ⟨k, hk, rfl, hno⟩ := hrel
    have Hno := hide hno
    clear hno
    by_cases hlt : k < s.size
    · have HS : Hid (plainB (s.data.toList.take (k + 1)) = (plainB (s.data.toList.take k) && s[k] != 37)) := by show plainB (s.data.toList.take (k + 1)) = _; rw [take_snoc s k hlt]; exact plain_snoc _ _
      have hmore : Hid (plainB (s.data.toList.take (k + 1)) = false → plainB s.data.toList = false) := plain_more _ _
      by_cases hcc : s[k] = 37
      · have ht : ((s[k].toNat : Int) == 37) = true := by simp [hcc]
        have Hcc := hide hcc
        clear hcc
        go_wp2
        go_ret
        refine ⟨ret_bool ?_, rfl⟩
        rw [hmore.out (by rw [HS.out, Hcc.out]; simp)]
      · have ht : ((s[k].toNat : Int) == 37) = false := by
          have : s[k].toNat ≠ 37 := fun e => hcc (UInt8.toNat_inj.1 e)
          simp; omega
        have Hcc := hide hcc
        clear hcc
        go_wp2
        go_round
        case rel => exact ⟨k + 1, by omega, by go_num, by rw [HS.out, Hno.out]; simp [Hcc.out]⟩
        case measure => simp [intOf]; omega
    · go_wp2
      go_ret
      refine ⟨ret_bool ?_, rfl⟩
      rw [← Hno.out, List.take_of_length_le (by simp; omega)]
theorem plain_is (s : ByteArray) (b : Bool) (w : World) (hs : s.size ≤ 1000000) (h : plainB s.data.toList = b) :
    Calls Try.prog 22 #[.string s] w fun e w' => e = .returned (.bool b) ∧ w' = w := by subst h; exact plain_any s w hs

set_option maxRecDepth 20000 in
set_option maxHeartbeats 1000000 in
theorem awake_any (w : World) : Calls Try.prog 9 #[] w fun e w' => e = .returned (.bool true) ∧ Below w.heap.size w w' := by
  have B := Below.refl w.heap.size w
  go_enter Try.func9, Try.ntmps9
  go_wp2_with (first
    | (go_at_call 16; refine (dec_is ⟨#[37, 50, 48, 37, 101, 57]⟩ (.tuple #[.string ⟨#[32, 233]⟩, .bool true]) _ (by decide) (by rfl)).mono ?_; rintro e w1 ⟨rfl, bb⟩; replace B := B.trans (bb.mono B.size); clear bb)
    | (go_at_call_of 18 (Value.bool true); refine (enc_is ⟨#[32, 47, 37, 52, 49]⟩ true ⟨#[37, 50, 48, 47, 37, 52, 49]⟩ _ (by decide) (by decide +kernel)).mono ?_; rintro e w1 ⟨rfl, bb⟩; replace B := B.trans (bb.mono B.size); clear bb)
    | (go_at_call_of 18 (Value.bool false); refine (enc_is ⟨#[32, 47, 37, 52, 49]⟩ false ⟨#[37, 50, 48, 37, 50, 70, 37, 50, 53, 52, 49]⟩ _ (by decide) (by decide +kernel)).mono ?_; rintro e w1 ⟨rfl, bb⟩; replace B := B.trans (bb.mono B.size); clear bb)
    | (go_at_call 20; refine (norm_is ⟨#[37, 101, 57, 37, 103]⟩ ⟨#[37, 69, 57, 37, 103]⟩ _ (by decide) (by decide +kernel)).mono ?_; rintro e w1 ⟨rfl, bb⟩; replace B := B.trans (bb.mono B.size); clear bb)
    | (go_at_call_of 14 (Value.string { data := #[37, 97, 70] }); refine (trip_is' _ true _ (by decide +kernel)).mono ?_; rintro e w1 ⟨rfl, hw⟩; rw [hw])
    | (go_at_call_of 14 (Value.string { data := #[37, 97, 71] }); refine (trip_is' _ false _ (by decide +kernel)).mono ?_; rintro e w1 ⟨rfl, hw⟩; rw [hw]))
  go_ret
  exact ⟨rfl, B⟩
end Go.Proofs.Ytmpengiohfjofaa
