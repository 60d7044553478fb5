/-
  THE WALK of VnameLetters.
-/
import Derived.Test.YthiipiflljgbbaaDoorW7
namespace Go.Proofs.YthiipiflljgbbaaDoor
open Go.RowKit

theorem conv_one (w : World) (x : Int) (h0 : 0 ≤ x) (h1 : x ≤ 255) :
    (convert 31 9 (.slice (some ⟨w.heap.size, 0, none⟩) 1 1)).run Tryd.prog (w.alloc (.cells #[.int .u8 x] 5)) = .ok (.string ⟨([x.toNat.toUInt8] : List UInt8).toArray⟩) (w.alloc (.cells #[.int .u8 x] 5)) := by
  refine run_convert_bytes_back _ 31 9 5 ⟨w.heap.size, 0, none⟩ 1 [x.toNat.toUInt8] Tryd.underlying31 Tryd.underlying5 Tryd.underlying9 ?_
  intro j hj
  have e : j = 0 := by simp at hj; omega
  subst e
  have hx : x.toNat.toUInt8.toNat = x.toNat := u8_of _ (by omega)
  rw [show (⟨w.heap.size, 0, none⟩ : Addr).add 0 = ⟨w.heap.size, 0, none⟩ by simp [Addr.add], World.cell?_alloc_mark]
  simp only [List.getElem_cons_zero, hx]
  rw [show ((x.toNat : Nat) : Int) = x by omega]
  rfl
theorem bel_alloc {w W W' : World} {o : Obj} (B : Below w.heap.size w W) (bb : Below (W.alloc o).heap.size (W.alloc o) W') : Below w.heap.size w W' :=
  (B.alloc B.size o).trans (bb.mono (B.alloc B.size o).size)
theorem other_is (c : Int) (n : Int) (w : World) (h0 : 0 ≤ c) (h1 : c ≤ 255) (h : (otherN c.toNat : Int) = n) : Calls Tryd.prog 19 #[.int .u8 c] w fun e w' => e = .returned (.int .u8 n) ∧ w' = w := by
  subst h; exact other_any c w h0 h1

set_option maxRecDepth 20000 in
set_option maxHeartbeats 2000000 in
theorem letters_walk (s : ByteArray) (w : World) :
    Calls Tryd.prog 8 #[.string s] w fun e w' => e = .returned (.bool true) ∧ Below w.heap.size w w' := by
  have B := Below.refl w.heap.size w
  by_cases hbig : 200 < s.size
  · go_enter Tryd.func8, Tryd.ntmps8
    go_wp2_with (first
      | (go_at_call 9; refine (awake_any _).mono ?_; rintro e w1 ⟨rfl, bb⟩; replace B := B.trans (bb.mono B.size); clear bb))
    go_ret
    exact ⟨rfl, B⟩
  · have hs : s.size ≤ 100000 := by omega
    go_enter Tryd.func8, Tryd.ntmps8
    go_wp2_with (first
      | (go_at_call 9; refine (awake_any _).mono ?_; rintro e w1 ⟨rfl, bb⟩; replace B := B.trans (bb.mono B.size); clear bb))
    go_loopw [4, 5] (fun o i wr => ∃ (k : Nat) (y : ByteArray), k ≤ s.size ∧ o = .string y ∧ i = .int .i64 k ∧ y.size = k ∧ y.data.toList = (s.data.toList.take k).map otherB ∧ Below w.heap.size w wr) (fun _ i _ => s.size - (intOf i).toNat)
    case atStart => exact ⟨0, ⟨#[]⟩, Nat.zero_le _, rfl, rfl, rfl, rfl, B⟩
    case round =>
      clear B
      obtain ⟨k, y, hk, rfl, rfl, hys, hyl, B⟩ := hrel
      by_cases hlt : k < s.size
      · have hu := UInt8.toNat_lt s[k]
        have hi0 : (0 : Int) ≤ s[k].toNat := by omega
        have hi1 : (s[k].toNat : Int) ≤ 255 := by omega
        obtain ⟨n, hn⟩ : ∃ n : Int, (otherN (s[k].toNat : Int).toNat : Int) = n := ⟨_, rfl⟩
        have hof := (other_fin0 ⟨s[k].toNat, hu⟩).1
        simp only at hof
        have hn0 : 0 ≤ n := by rw [← hn]; omega
        have hn1 : n ≤ 255 := by rw [← hn, Int.toNat_natCast]; omega
        have hnb : n.toNat.toUInt8 = otherB s[k] := by rw [← hn, Int.toNat_natCast, Int.toNat_natCast]; rfl
        have hcv := fun W => conv_one W n hn0 hn1
        obtain ⟨o, ho⟩ : ∃ m : ByteArray, (⟨([n.toNat.toUInt8] : List UInt8).toArray⟩ : ByteArray) = m := ⟨_, rfl⟩
        rw [ho] at hcv
        have hos : o.size = 1 := by rw [← ho]; rfl
        have Hyl : Hid ((y ++ o).data.toList = (s.data.toList.take (k + 1)).map otherB) := by
          show (y ++ o).data.toList = (s.data.toList.take (k + 1)).map otherB
          rw [app_list, hyl, ← ho, take_snoc s k hlt, List.map_append, hnb]
          rfl
        have Hn := hide hn
        clear hn ho hyl hnb hof
        go_wp2_with (first | (go_at_call 19; refine (other_is _ n _ hi0 hi1 Hn.out).mono ?_; rintro e w1 ⟨rfl, hw⟩; rw [hw]; clear hw))
        go_roundw
        case rel => exact ⟨k + 1, y ++ o, by omega, rfl, by go_num, by rw [ByteArray.size_append]; omega, Hyl.out, B.alloc B.size _⟩
        case measure => simp [intOf]; omega
      · have hke : s.data.toList.take k = s.data.toList := List.take_of_length_le (by rw [← size_list]; omega)
        rw [hke] at hyl
        have hy : y.size ≤ 100000 := by omega
        obtain ⟨m, hm⟩ : ∃ b, nameB s.data.toList = b := ⟨_, rfl⟩
        obtain ⟨n, hn⟩ : ∃ b : Int, (badN s.data.toList : Int) = b := ⟨_, rfl⟩
        obtain ⟨e, he⟩ : ∃ b : Int, (endN s.data.toList : Int) = b := ⟨_, rfl⟩
        obtain ⟨ps, hps⟩ : ∃ ps, splitL s.data.toList = ps := ⟨_, rfl⟩
        obtain ⟨qs, hqs⟩ : ∃ ps, splitL y.data.toList = ps := ⟨_, rfl⟩
        have hpq : qs.length = ps.length := by rw [← hqs, ← hps, hyl, other_split]
        have Hm2 : Hid (nameB y.data.toList = m) := by show nameB y.data.toList = m; rw [hyl, other_name]; exact hm
        have Hn2 : Hid ((badN y.data.toList : Int) = n) := by show (badN y.data.toList : Int) = n; rw [hyl, other_bad]; exact hn
        have He2 : Hid ((endN y.data.toList : Int) = e) := by show (endN y.data.toList : Int) = e; rw [hyl, other_end]; exact he
        have Hm := hide hm
        have Hn := hide hn
        have He := hide he
        have Hps := hide hps
        have Hqs := hide hqs
        have T0 : Hid True := trivial
        have T1 : Hid True := trivial
        have T2 : Hid True := trivial
        have T3 : Hid True := trivial
        clear hm hn he hps hqs hyl hke
        go_wp2_with (first
          | (go_at_call 10; have z := T0; refine (pmay_is y m _ hy Hm2.out).mono ?_; rintro e w1 ⟨rfl, bb⟩; replace B := B.trans (bb.mono B.size); clear bb T0 z)
          | (go_at_call 10; refine (pmay_is s m _ hs Hm.out).mono ?_; rintro e w1 ⟨rfl, bb⟩; replace B := B.trans (bb.mono B.size); clear bb)
          | (go_at_call 12; have z := T1; refine (pbad_is y n _ hy Hn2.out).mono ?_; rintro e w1 ⟨rfl, bb⟩; replace B := B.trans (bb.mono B.size); clear bb T1 z)
          | (go_at_call 12; refine (pbad_is s n _ hs Hn.out).mono ?_; rintro e w1 ⟨rfl, bb⟩; replace B := B.trans (bb.mono B.size); clear bb)
          | (go_at_call 14; have z := T2; refine (pend_is y e _ hy He2.out).mono ?_; rintro e w1 ⟨rfl, bb⟩; replace B := B.trans (bb.mono B.size); clear bb T2 z)
          | (go_at_call 14; refine (pend_is s e _ hs He.out).mono ?_; rintro e w1 ⟨rfl, bb⟩; replace B := B.trans (bb.mono B.size); clear bb)
          | (go_at_call 17; have z := T3; refine (psplit_is y qs _ hy Hqs.out).mono ?_; rintro e w1 ⟨a1, cap1, rfl, S1, bb⟩; rw [hpq]; replace B := B.trans (bb.mono B.size); clear bb S1 T3 z)
          | (go_at_call 17; refine (psplit_is s ps _ hs Hps.out).mono ?_; rintro e w2 ⟨a2, cap2, rfl, S2, bb⟩; replace B := B.trans (bb.mono B.size); clear bb S2))
        go_ret
        first | exact ⟨rfl, B⟩ | exact ⟨ret_bool (by simp; omega), B⟩
end Go.Proofs.YthiipiflljgbbaaDoor
