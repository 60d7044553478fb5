/-
  WALKS: pct.walk, whatever closures it is handed.
-/
import Derived.Test.YtmpengiohfjofaaW12
import Derived.Lib.Strings
import Derived.Lib.OthersKept
import Derived.Shelf.RegionOpenPlain
namespace Go.Proofs.Ytmpengiohfjofaa
open Go.RowKit

/-- how long a text in a slot is -/
def lenOf : Value → Nat
  | .string s => s.size
  | _ => 0

theorem trip_is' (s : ByteArray) (b : Bool) (w : World) (h : tripB s.data.toList = b) : Calls Try.prog 14 #[.string s] w fun e w' => e = .returned (.bool b) ∧ w' = w := by
  subst h; exact trip_any s w
theorem rtrip_is (s : ByteArray) (b : Bool) (w : World) (h : tripB s.data.toList = b) : Calls Try.prog 15 #[.string s] w fun e w' => e = .returned (.bool b) ∧ w' = w := by
  subst h; exact rtrip_any s w

theorem cut_list (s : ByteArray) (k : Nat) : (s.extract k s.size).data.toList = s.data.toList.drop k := by
  rw [← Lib.toList_data, Lib.extract_toList]
  apply List.take_of_length_le
  simp
theorem head_list (s : ByteArray) (k : Nat) : (s.extract 0 k).data.toList = s.data.toList.take k := by
  rw [← Lib.toList_data, Lib.extract_toList]; rfl
theorem list_one (s : ByteArray) (h : 0 < s.size) : s.data.toList = s[0] :: s.data.toList.drop 1 := by
  have e1 : s.data.toList.length = s.size := by simp
  exact (List.drop_eq_getElem_cons (l := s.data.toList) (i := 0) (by omega))
theorem list_none (s : ByteArray) (h : ¬ 0 < s.size) : s.data.toList = [] := by
  have e1 : s.data.toList.length = s.size := by simp
  exact List.eq_nil_of_length_eq_zero (by omega)

set_option maxRecDepth 20000 in
set_option maxHeartbeats 1000000 in
theorem walk_any (g1 g2 : Nat) (lb1 lb2 : Array Value) (eg1 : ∀ args w, (callFunc g1 args).run Try.prog w = .ok (.enter g1 args) w) (eg2 : ∀ args w, (callFunc g2 args).run Try.prog w = .ok (.enter g2 args) w) (s : ByteArray) (w : World)
    (Inv : List UInt8 → World → Prop) (h0 : Inv s.data.toList w)
    (ht : ∀ b c r W t, Inv (37 :: b :: c :: r) W → hexB b = true → hexB c = true → t.data.toList = [37, b, c] → Calls Try.prog g1 (#[.string t] ++ lb1) W fun e w' => e = .returned (.tuple #[]) ∧ Inv r w')
    (ho : ∀ a r W, Inv (a :: r) W → tripB (a :: r) = false → Calls Try.prog g2 (#[.int .u8 (a.toNat : Int)] ++ lb2) W fun e w' => e = .returned (.tuple #[]) ∧ Inv r w') :
    Calls Try.prog 26 #[.string s, .func (.func g1) #[] lb1, .func (.func g2) #[] lb2] w fun e w' => e = .returned (.tuple #[]) ∧ Inv [] w' := by
  have Ht := hide ht
  have Ho := hide ho
  clear ht ho
  go_enter Try.func26, Try.ntmps26
  go_wp2
  go_loopw [0] (fun v wr => ∃ x : ByteArray, v = .string x ∧ Inv x.data.toList wr) (fun v _ => lenOf v)
  case atStart => exact ⟨s, rfl, h0⟩
  case round =>
    obtain ⟨x, rfl, hI⟩ := hrel
    by_cases hp : 0 < x.size
    · cases hb : tripB x.data.toList with
      | true =>
        have h3 : 3 ≤ x.size := Classical.byContradiction fun h => by rw [trip_short x h] at hb; cases hb
        obtain ⟨b, c, r, hl, hhb, hhc⟩ := trip_is hb
        have HI : Hid (Inv (37 :: b :: c :: r) wr) := by rw [← hl]; exact hI
        have Hr : Hid ((x.extract 3 x.size).data.toList = r) := by show (x.extract 3 x.size).data.toList = r; rw [cut_list, hl]; rfl
        have Hh : Hid ((x.extract 0 3).data.toList = [37, b, c]) := by show (x.extract 0 3).data.toList = [37, b, c]; rw [head_list, hl]; rfl
        have Hb := hide hb
        have Hhb := hide hhb
        have Hhc := hide hhc
        clear hb hl hI hhb hhc
        go_wp2_with (first | (go_at_call 14; refine (trip_is' _ true _ Hb.out).mono ?_; rintro e w' ⟨rfl, hw⟩; rw [hw]) | (go_at_fn g1; refine (Ht.out b c r _ _ HI.out Hhb.out Hhc.out Hh.out).mono ?_))
        rintro e w1 ⟨rfl, hI1⟩
        go_wp2
        go_roundw
        case rel => exact ⟨_, rfl, by rw [Hr.out]; exact hI1⟩
        case measure => simp [lenOf]; omega
      | false =>
        have hl := list_one x hp
        have HI : Hid (Inv (x[0] :: x.data.toList.drop 1) wr) := by rw [← hl]; exact hI
        have Hc : Hid (tripB (x[0] :: x.data.toList.drop 1) = false) := by rw [← hl]; exact hb
        have Hr : Hid ((x.extract 1 x.size).data.toList = x.data.toList.drop 1) := cut_list x 1
        have Hb := hide hb
        clear hb hl hI
        go_wp2_with (first | (go_at_call 14; refine (trip_is' _ false _ Hb.out).mono ?_; rintro e w' ⟨rfl, hw⟩; rw [hw]) | (go_at_fn g2; refine (Ho.out x[0] (x.data.toList.drop 1) _ HI.out Hc.out).mono ?_))
        rintro e w1 ⟨rfl, hI1⟩
        go_wp2
        go_roundw
        case rel => exact ⟨_, rfl, by rw [Hr.out]; exact hI1⟩
        case measure => simp [lenOf]; omega
    · have hl := list_none x hp
      have HI : Hid (Inv [] wr) := by rw [← hl]; exact hI
      clear hl hI
      go_wp2
      exact bodyPost_end (v := .tuple #[]) (results_none Try.results26 _ _ _) rfl ⟨rfl, HI.out⟩
end Go.Proofs.Ytmpengiohfjofaa
