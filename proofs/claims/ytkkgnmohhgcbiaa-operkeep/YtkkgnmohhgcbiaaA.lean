/-
  WALKS: what is an operator (layer 10): the reference's.
-/
import Derived.Test.YtkkgnmohhgcbiaaProg
import Derived.Test.YtkkgnmohhgcbiaaB
import Derived.WalkKit
import Derived.WalkSpells
import Derived.WalkLawsBesides
import Derived.Outline
import Derived.OwnWalk
import Derived.RegionTactic
import Derived.Deep.RegionWith
import Derived.Deep.QuietTactic
import Derived.BigQuiet
import Derived.Below
import Derived.Laws.BytesString
namespace Go.Proofs.Ytkkgnmohhgcbiaa
open Go.RowKit Go.Lib

theorem hide {p : Prop} (h : p) : Hid p := h
theorem ret_bool {a b : Bool} (h : a = b) : Ending.returned (.bool a) = .returned (.bool b) := by rw [h]
theorem size_list (x : ByteArray) : x.size = x.data.toList.length := by simp
theorem take_snoc (s : ByteArray) (k : Nat) (h : k < s.size) : s.data.toList.take (k + 1) = s.data.toList.take k ++ [s[k]] := by
  rw [List.take_succ_eq_append_getElem (by simpa using h)]; rfl

theorem u8_of (n : Nat) (h : n < 256) : (n.toUInt8).toNat = n := by simp; omega
/-- an operator, none excepted -/
def opN (n : Nat) : Bool := [43, 35, 46, 47, 59, 63, 38].contains n
def opB (c : UInt8) : Bool := opN c.toNat
def operB (c : UInt8) : Bool := c == 0 || opB c
/-- what is an operator, by its number (0: none) -/
def opZ (n : Nat) : Bool := [0, 43, 35, 46, 47, 59, 63, 38].contains n
structure Rl where
  first : List UInt8
  sep : List UInt8
  named : Bool
  empty : List UInt8
  keep : Bool
/-- an operator's rule -/
def rlN (n : Nat) : Rl :=
  ⟨if n = 0 ∨ n = 43 then [] else [n.toUInt8], if n = 63 then [38] else if n = 46 ∨ n = 47 ∨ n = 59 ∨ n = 38 then [n.toUInt8] else [44],
    decide (n = 59 ∨ n = 63 ∨ n = 38), if n = 63 ∨ n = 38 then [61] else [], decide (n = 43 ∨ n = 35)⟩
theorem op_cases {n : Nat} (h : opZ n = true) : n = 0 ∨ n = 43 ∨ n = 35 ∨ n = 46 ∨ n = 47 ∨ n = 59 ∨ n = 63 ∨ n = 38 := by simpa [opZ] using h
theorem b_alloc (W : World) (o : Obj) : Below W.heap.size W (W.alloc o) := (Below.refl _ _).alloc (Nat.le_refl _) _
def inB (l : List UInt8) (n : Nat) : Bool := l.any fun c => decide (n = c.toNat)
theorem in_snoc (l : List UInt8) (c : UInt8) (n : Nat) : inB (l ++ [c]) n = (inB l n || decide (n = c.toNat)) := by unfold inB; simp
theorem in_more (l : List UInt8) (k n : Nat) (h : inB (l.take k) n = true) : inB l n = true := by
  unfold inB at *
  rw [List.any_eq_true] at *
  obtain ⟨x, hx, hc⟩ := h
  exact ⟨x, List.mem_of_mem_take hx, hc⟩

set_option maxHeartbeats 1000000 in
theorem in_any (s : ByteArray) (c : Int) (w : World) (hs : s.size ≤ maxLen) (h0 : 0 ≤ c) :
    Calls Try.prog 15 #[.string s, .int .u8 c] w fun e w' => e = .returned (.bool (inB s.data.toList c.toNat)) ∧ w' = w := by
  unfold maxLen at hs
  go_enter Try.func15, Try.ntmps15
  go_wp2
  go_loop [5] (fun i => ∃ k : Nat, k ≤ s.size ∧ i = .int .i64 k ∧ inB (s.data.toList.take k) c.toNat = false) (fun i => s.size - (intOf i).toNat)
  case atStart => exact ⟨0, Nat.zero_le _, rfl, rfl⟩
  case round =>
    obtain ⟨k, hk, rfl, hno⟩ := hrel
    have Hno := hide hno
    clear hno
    by_cases hlt : k < s.size
    · have hts := take_snoc s k hlt
      have HS : Hid (inB (s.data.toList.take (k + 1)) c.toNat = (inB (s.data.toList.take k) c.toNat || decide (c.toNat = s[k].toNat))) := by rw [hts]; exact in_snoc _ _ _
      have hmore : Hid (inB (s.data.toList.take (k + 1)) c.toNat = true → inB s.data.toList c.toNat = true) := in_more _ _ _
      clear hts
      by_cases hcc : c = (s[k].toNat : Int)
      · have hc : c.toNat = s[k].toNat := by omega
        have Hc := hide hc
        clear hc
        have ht : ((s[k].toNat : Int) == c) = true := by simp [hcc]
        go_wp2
        go_ret
        refine ⟨ret_bool ?_, rfl⟩
        rw [← Hc.out, hmore.out (by rw [HS.out, Hc.out]; simp)]
      · have hc : ¬ c.toNat = s[k].toNat := by omega
        have ht : ((s[k].toNat : Int) == c) = false := by simp; omega
        go_wp2
        go_round
        case rel => exact ⟨k + 1, by omega, by go_num, by rw [HS.out, Hno.out]; simp [hc]⟩
        case measure => simp [intOf]; omega
    · go_wp2
      go_ret
      refine ⟨ret_bool ?_, rfl⟩
      rw [← Hno.out, List.take_of_length_le (by simp; omega)]
theorem in_is (s : ByteArray) (c : Int) (b : Bool) (w : World) (hs : s.size ≤ 1000) (h0 : 0 ≤ c) (h : inB s.data.toList c.toNat = b) :
    Calls Try.prog 15 #[.string s, .int .u8 c] w fun e w' => e = .returned (.bool b) ∧ w' = w := by
  subst h; exact in_any s c w (by unfold maxLen; omega) h0
theorem op_in : ∀ n : Fin 256, inB [43, 35, 46, 47, 59, 63, 38] n.val = opN n.val := by decide +kernel
set_option maxHeartbeats 1000000 in
theorem roper_any (c : UInt8) (w : World) : Calls Try.prog 12 #[.int .u8 (c.toNat : Int)] w fun e w' => e = .returned (.bool (operB c)) ∧ w' = w := by
  have hl := UInt8.toNat_lt c
  obtain ⟨b, hb⟩ : ∃ b, opB c = b := ⟨_, rfl⟩
  have hi : inB [43, 35, 46, 47, 59, 63, 38] ((c.toNat : Int).toNat) = b := by
    rw [Int.toNat_natCast, op_in ⟨c.toNat, hl⟩]; exact hb
  have Hi := hide hi
  clear hi
  by_cases h0 : c = 0
  · subst h0
    have hx : operB 0 = true := rfl
    rw [hx]
    go_enter Try.func12, Try.ntmps12
    go_wp2
    all_goals go_ret
    all_goals exact ⟨rfl, rfl⟩
  · have h0' : ((c.toNat : Int) == 0) = false := by
      have : c.toNat ≠ 0 := fun e => h0 (UInt8.toNat_inj.1 e)
      simp; omega
    have hx : operB c = b := by
      have : (c == 0) = false := by simp [h0]
      unfold operB; rw [this, hb]; rfl
    rw [hx]
    clear hx hb h0
    go_enter Try.func12, Try.ntmps12
    go_wp2_with (go_at_call 15; refine (in_is _ _ b _ (by decide) (by omega) Hi.out).mono ?_; rintro e w1 ⟨rfl, hw⟩; rw [hw])
    all_goals go_ret
    all_goals exact ⟨rfl, rfl⟩
/-- bytes of a new block as a text -/
theorem conv_bytes (w : World) (l : List UInt8) (C : Array Value) (n : Nat) (hC : C = (byteCells l).toArray) (hn : n = l.length) :
    (convert 31 9 (.slice (some ⟨w.heap.size, 0, none⟩) n n)).run Try.prog (w.alloc (.cells C 5)) = .ok (.string ⟨l.toArray⟩) (w.alloc (.cells C 5)) := by
  subst hn hC
  refine run_convert_bytes_back _ 31 9 5 ⟨w.heap.size, 0, none⟩ _ l Try.underlying31 Try.underlying5 Try.underlying9 ?_
  intro j hj
  rw [show (⟨w.heap.size, 0, none⟩ : Addr).add j = ⟨w.heap.size, j, none⟩ by simp [Addr.add]; omega, World.cell?_alloc_mark]
  simp [byteCells, hj]
/-- one byte made a text -/
theorem conv_one (w : World) (x : Int) (h0 : 0 ≤ x) (h1 : x ≤ 255) :
    (convert 31 9 (.slice (some ⟨w.heap.size, 0, none⟩) 1 1)).run Try.prog (w.alloc (.cells #[.int .u8 x] 5)) = .ok (.string ⟨#[x.toNat.toUInt8]⟩) (w.alloc (.cells #[.int .u8 x] 5)) := by
  refine conv_bytes w [x.toNat.toUInt8] _ 1 ?_ rfl
  have : x.toNat.toUInt8.toNat = x.toNat := u8_of _ (by omega)
  simp only [byteCells, List.map_cons, List.map_nil, this]
  rw [show ((x.toNat : Nat) : Int) = x by omega]
end Go.Proofs.Ytkkgnmohhgcbiaa
