/-
  THE WALK of CharsApart.
-/
import Derived.Test.YthflhfpbbnlddaaH
namespace Go.Proofs.Ythflhfpbbnlddaa
open Go.RowKit

theorem res_lit : minusQ resQ litQ = ofQ [39] := eqQ_iff.1 (by decide +kernel)
theorem apart_fin : ∀ c : Fin 256, (unresQ.has c.val && resQ.has c.val) = false ∧ (!wordQ.has c.val || unresQ.has c.val) = true ∧ (!hexQ.has c.val || unresQ.has c.val) = true ∧ (!litQ.has c.val || unresQ.has c.val || resQ.has c.val) = true := by decide +kernel

set_option maxHeartbeats 4000000 in
theorem apart_at (c : Int) (u r d h l : Bool) (w : World) (h0 : 0 ≤ c) (h1 : c ≤ 255) (Hunres : Hid (unresQ.has c.toNat = u)) (Hres : Hid (resQ.has c.toNat = r)) (Hword : Hid (wordQ.has c.toNat = d)) (Hhex : Hid (hexQ.has c.toNat = h)) (Hlit : Hid (litQ.has c.toNat = l))
    (k : (u && r) = false ∧ (!d || u) = true ∧ (!h || u) = true ∧ (!l || u || r) = true) :
    Calls Try.prog 8 #[.int .u8 c] w fun e w' => e = .returned (.bool true) ∧ Below w.heap.size w w' := by
  have hgd := guard25
  have he : ∀ (s : Q) W, (Op.equalIn 10000 25 (.agg #[.int .u64 s.a, .int .u64 s.b, .int .u64 s.c, .int .u64 s.d]) (.agg #[.int .u64 s.a, .int .u64 s.b, .int .u64 s.c, .int .u64 s.d])).run Try.prog W = .ok true W := fun s W => by rw [eqv, eqQ_self]
  have S1 : Hid True := trivial
  cases u <;> cases r <;> cases d <;> cases h <;> cases l <;> simp at k
  all_goals
    go_enter Try.func8, Try.ntmps8
    go_wp2_with (first | (go_at_call 9; refine (awake_any _).mono ?_; rintro e w1 ⟨rfl, bb⟩; have B := bb; clear bb) | (go_at_call 29; refine (unres_any _).mono ?_; rintro e w2 ⟨rfl, bb⟩; replace B := B.trans (bb.mono B.size); replace B := B.alloc B.size (.cells #[.int .u64 unresQ.a, .int .u64 unresQ.b, .int .u64 unresQ.c, .int .u64 unresQ.d] 25); have X := Hold.made w2 unresQ 25; clear bb; simp only [qv]) | (go_at_call 31; have z := S1; refine (res_any _).mono ?_; rintro e w3 ⟨rfl, bb⟩; replace B := B.trans (bb.mono B.size); replace B := B.alloc B.size (.cells #[.int .u64 resQ.a, .int .u64 resQ.b, .int .u64 resQ.c, .int .u64 resQ.d] 25); replace X := (X.next bb).alloc (.cells #[.int .u64 resQ.a, .int .u64 resQ.b, .int .u64 resQ.c, .int .u64 resQ.d] 25); have Y := Hold.made w3 resQ 25; have P : Pair _ _ _ _ _ _ := ⟨B, X, Y⟩; obtain ⟨x0, x1, x2, x3⟩ := P.first.cells; obtain ⟨y0, y1, y2, y3⟩ := P.second.cells; clear bb z S1 B X Y; simp only [qv]) | (go_at_call 31; refine (res_any _).mono ?_; rintro e w2 ⟨rfl, bb⟩; replace P := P.next bb; clear bb; obtain ⟨x0, x1, x2, x3⟩ := P.first.cells; obtain ⟨y0, y1, y2, y3⟩ := P.second.cells; simp only [qv]) | (go_at_call 27; refine (word_any _).mono ?_; rintro e w2 ⟨rfl, bb⟩; replace P := P.next bb; clear bb; obtain ⟨x0, x1, x2, x3⟩ := P.first.cells; obtain ⟨y0, y1, y2, y3⟩ := P.second.cells; simp only [qv]) | (go_at_call 25; refine (hex_any _).mono ?_; rintro e w2 ⟨rfl, bb⟩; replace P := P.next bb; clear bb; obtain ⟨x0, x1, x2, x3⟩ := P.first.cells; obtain ⟨y0, y1, y2, y3⟩ := P.second.cells; simp only [qv]) | (go_at_call 33; refine (lit_any _).mono ?_; rintro e w2 ⟨rfl, bb⟩; replace P := P.next bb; clear bb; obtain ⟨x0, x1, x2, x3⟩ := P.first.cells; obtain ⟨y0, y1, y2, y3⟩ := P.second.cells; simp only [qv]) | (go_at_call 19; refine (minus_is resQ litQ (ofQ [39]) _ res_ok lit_ok res_lit).mono ?_; rintro e w2 ⟨rfl, bb⟩; replace P := P.next bb; clear bb; obtain ⟨x0, x1, x2, x3⟩ := P.first.cells; obtain ⟨y0, y1, y2, y3⟩ := P.second.cells; simp only [qv]) | (go_at_call 15; refine (of_is [39] (ofQ [39]) _ _ rfl rfl (by decide)).mono ?_; rintro e w2 ⟨rfl, bb⟩; replace P := P.next bb; clear bb; obtain ⟨x0, x1, x2, x3⟩ := P.first.cells; obtain ⟨y0, y1, y2, y3⟩ := P.second.cells; simp only [qv]) | (go_at_call_of 11 unresQ.a; refine (has_is unresQ _ _ _ unres_ok h0 h1 Hunres.out).mono ?_; rintro e w2 ⟨rfl, bb⟩; replace P := P.next bb; clear bb; obtain ⟨x0, x1, x2, x3⟩ := P.first.cells; obtain ⟨y0, y1, y2, y3⟩ := P.second.cells) | (go_at_call_of 11 resQ.a; refine (has_is resQ _ _ _ res_ok h0 h1 Hres.out).mono ?_; rintro e w2 ⟨rfl, bb⟩; replace P := P.next bb; clear bb; obtain ⟨x0, x1, x2, x3⟩ := P.first.cells; obtain ⟨y0, y1, y2, y3⟩ := P.second.cells) | (go_at_call_of 11 wordQ.a; refine (has_is wordQ _ _ _ word_ok h0 h1 Hword.out).mono ?_; rintro e w2 ⟨rfl, bb⟩; replace P := P.next bb; clear bb; obtain ⟨x0, x1, x2, x3⟩ := P.first.cells; obtain ⟨y0, y1, y2, y3⟩ := P.second.cells) | (go_at_call_of 11 hexQ.a; refine (has_is hexQ _ _ _ hex_ok h0 h1 Hhex.out).mono ?_; rintro e w2 ⟨rfl, bb⟩; replace P := P.next bb; clear bb; obtain ⟨x0, x1, x2, x3⟩ := P.first.cells; obtain ⟨y0, y1, y2, y3⟩ := P.second.cells) | (go_at_call_of 11 litQ.a; refine (has_is litQ _ _ _ lit_ok h0 h1 Hlit.out).mono ?_; rintro e w2 ⟨rfl, bb⟩; replace P := P.next bb; clear bb; obtain ⟨x0, x1, x2, x3⟩ := P.first.cells; obtain ⟨y0, y1, y2, y3⟩ := P.second.cells))
    go_ret
    exact ⟨rfl, P.below⟩
theorem apart_walk (c : Int) (w : World) (h0 : 0 ≤ c) (h1 : c ≤ 255) :
    Calls Try.prog 8 #[.int .u8 c] w fun e w' => e = .returned (.bool true) ∧ Below w.heap.size w w' :=
  apart_at c _ _ _ _ _ w h0 h1 (hide rfl) (hide rfl) (hide rfl) (hide rfl) (hide rfl) (apart_fin ⟨c.toNat, by omega⟩)
end Go.Proofs.Ythflhfpbbnlddaa
