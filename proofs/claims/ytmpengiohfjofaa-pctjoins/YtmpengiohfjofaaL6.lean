/-
  THE WALK of PctJoins.
-/
import Derived.Test.YtmpengiohfjofaaL3
namespace Go.Proofs.Ytmpengiohfjofaa
open Go.RowKit

set_option maxRecDepth 20000 in
set_option maxHeartbeats 2000000 in
theorem joins_walk (a b : ByteArray) (w : World) :
    Calls Try.prog 8 #[.string a, .string b] w fun e w' => e = .returned (.bool true) ∧ Below w.heap.size w w' := by
  have B := Below.refl w.heap.size w
  by_cases hbig : 2000 < a.size
  · go_enter Try.func8, Try.ntmps8
    go_wp2_with (first
      | (go_at_call 9; refine (awake_any _).mono ?_; rintro e w1 ⟨rfl, bb⟩; replace B := B.trans (bb.mono B.size); clear bb))
    go_ret
    exact ⟨rfl, B⟩
  by_cases hbig2 : 2000 < b.size
  · go_enter Try.func8, Try.ntmps8
    go_wp2_with (first
      | (go_at_call 9; refine (awake_any _).mono ?_; rintro e w1 ⟨rfl, bb⟩; replace B := B.trans (bb.mono B.size); clear bb))
    go_ret
    exact ⟨rfl, B⟩
  · have ha1 : a.size ≤ 300000 := by omega
    have ha2 : a.size ≤ 1000000 := by omega
    have hb1 : b.size ≤ 300000 := by omega
    have hb2 : b.size ≤ 1000000 := by omega
    have hz1 : (a ++ b).size ≤ 300000 := by rw [ByteArray.size_append]; omega
    have hz2 : (a ++ b).size ≤ 1000000 := by omega
    obtain ⟨m1, hm1⟩ : ∃ m : ByteArray, m.data.toList = encL false a.data.toList := ⟨⟨(encL false a.data.toList).toArray⟩, rfl⟩
    obtain ⟨m2, hm2⟩ : ∃ m : ByteArray, m.data.toList = encL false b.data.toList := ⟨⟨(encL false b.data.toList).toArray⟩, rfl⟩
    have Hm3 : Hid ((m1 ++ m2).data.toList = encL false (a ++ b).data.toList) := by show (m1 ++ m2).data.toList = encL false (a ++ b).data.toList; rw [app_list, app_list, enc_joins, hm1, hm2]
    have y1 := (enc_size hm1).2
    have y2 := (enc_size hm2).2
    have Hm1 := hide hm1
    have Hm2 := hide hm2
    clear hm1 hm2
    have hboth : (∃ d1 d2 : ByteArray, d1.size ≤ 1000000 ∧ d2.size ≤ 1000000 ∧ decR (decL a.data.toList) = .tuple #[.string d1, .bool true] ∧ decR (decL b.data.toList) = .tuple #[.string d2, .bool true] ∧ decR (decL (a ++ b).data.toList) = .tuple #[.string (d1 ++ d2), .bool true]) ∨
        (∃ (d1 d2 d3 : ByteArray) (x y z : Bool), decR (decL a.data.toList) = .tuple #[.string d1, .bool x] ∧ decR (decL b.data.toList) = .tuple #[.string d2, .bool y] ∧ decR (decL (a ++ b).data.toList) = .tuple #[.string d3, .bool z] ∧ (x && y) = false) := by
      have hsome : ∀ o : Option (List UInt8), ∃ (d : ByteArray) (x : Bool), decR o = .tuple #[.string d, .bool x] := by intro o; cases o <;> exact ⟨_, _, rfl⟩
      obtain ⟨d3, z, h3⟩ := hsome (decL (a ++ b).data.toList)
      cases h1 : decL a.data.toList with
      | none =>
        obtain ⟨d2, y, h2⟩ := hsome (decL b.data.toList)
        exact .inr ⟨_, d2, d3, _, y, z, rfl, h2, h3, rfl⟩
      | some p =>
        cases h2 : decL b.data.toList with
        | none => exact .inr ⟨_, _, d3, _, _, z, rfl, rfl, h3, rfl⟩
        | some q =>
          have l1 := dec_len _ _ h1
          have l2 := dec_len _ _ h2
          rw [← size_list] at l1 l2
          refine .inl ⟨⟨p.toArray⟩, ⟨q.toArray⟩, ?_, ?_, rfl, rfl, ?_⟩
          · show p.toArray.size ≤ _; simp; omega
          · show q.toArray.size ≤ _; simp; omega
          · rw [app_list, dec_joins _ _ _ _ h1 h2]
            show Value.tuple #[.string ⟨(p ++ q).toArray⟩, .bool true] = _
            rw [same_list (x := ⟨(p ++ q).toArray⟩) (y := (⟨p.toArray⟩ ++ ⟨q.toArray⟩ : ByteArray)) (by rw [app_list])]
    rcases hboth with ⟨d1, d2, g1, g2, h1, h2, h3⟩ | ⟨d1, d2, d3, x, y, z, h1, h2, h3, hxy⟩
    · have Hd1 := hide h1
      have Hd2 := hide h2
      have Hd3 := hide h3
      clear h1 h2 h3
      go_enter Try.func8, Try.ntmps8
      go_wp2_with (first
        | (go_at_call 9; refine (awake_any _).mono ?_; rintro e w1 ⟨rfl, bb⟩; replace B := B.trans (bb.mono B.size); clear bb)
        | (go_at_call_of 16 (Value.string (a ++ b)); refine (dec_is (a ++ b) _ _ hz2 Hd3.out).mono ?_; rintro e w1 ⟨rfl, bb⟩; replace B := B.trans (bb.mono B.size); clear bb)
        | (go_at_call_of 16 (Value.string a); refine (dec_is a _ _ ha2 Hd1.out).mono ?_; rintro e w1 ⟨rfl, bb⟩; replace B := B.trans (bb.mono B.size); clear bb)
        | (go_at_call_of 16 (Value.string b); refine (dec_is b _ _ hb2 Hd2.out).mono ?_; rintro e w1 ⟨rfl, bb⟩; replace B := B.trans (bb.mono B.size); clear bb)
        | (go_at_call_of 18 (Value.string (a ++ b)); refine (enc_is (a ++ b) false (m1 ++ m2) _ hz1 Hm3.out).mono ?_; rintro e w1 ⟨rfl, bb⟩; replace B := B.trans (bb.mono B.size); clear bb)
        | (go_at_call_of 18 (Value.string a); refine (enc_is a false m1 _ ha1 Hm1.out).mono ?_; rintro e w1 ⟨rfl, bb⟩; replace B := B.trans (bb.mono B.size); clear bb)
        | (go_at_call_of 18 (Value.string b); refine (enc_is b false m2 _ hb1 Hm2.out).mono ?_; rintro e w1 ⟨rfl, bb⟩; replace B := B.trans (bb.mono B.size); clear bb))
      go_ret
      exact ⟨rfl, B⟩
    · have Hd1 := hide h1
      have Hd2 := hide h2
      have Hd3 := hide h3
      clear h1 h2 h3
      cases x <;> cases y <;> first | (cases hxy; done) | skip
      all_goals
        clear hxy
        go_enter Try.func8, Try.ntmps8
        go_wp2_with (first
          | (go_at_call 9; refine (awake_any _).mono ?_; rintro e w1 ⟨rfl, bb⟩; replace B := B.trans (bb.mono B.size); clear bb)
          | (go_at_call_of 16 (Value.string (a ++ b)); refine (dec_is (a ++ b) _ _ hz2 Hd3.out).mono ?_; rintro e w1 ⟨rfl, bb⟩; replace B := B.trans (bb.mono B.size); clear bb)
          | (go_at_call_of 16 (Value.string a); refine (dec_is a _ _ ha2 Hd1.out).mono ?_; rintro e w1 ⟨rfl, bb⟩; replace B := B.trans (bb.mono B.size); clear bb)
          | (go_at_call_of 16 (Value.string b); refine (dec_is b _ _ hb2 Hd2.out).mono ?_; rintro e w1 ⟨rfl, bb⟩; replace B := B.trans (bb.mono B.size); clear bb)
          | (go_at_call_of 18 (Value.string (a ++ b)); refine (enc_is (a ++ b) false (m1 ++ m2) _ hz1 Hm3.out).mono ?_; rintro e w1 ⟨rfl, bb⟩; replace B := B.trans (bb.mono B.size); clear bb)
          | (go_at_call_of 18 (Value.string a); refine (enc_is a false m1 _ ha1 Hm1.out).mono ?_; rintro e w1 ⟨rfl, bb⟩; replace B := B.trans (bb.mono B.size); clear bb)
          | (go_at_call_of 18 (Value.string b); refine (enc_is b false m2 _ hb1 Hm2.out).mono ?_; rintro e w1 ⟨rfl, bb⟩; replace B := B.trans (bb.mono B.size); clear bb))
        go_ret
        exact ⟨rfl, B⟩
end Go.Proofs.Ytmpengiohfjofaa
