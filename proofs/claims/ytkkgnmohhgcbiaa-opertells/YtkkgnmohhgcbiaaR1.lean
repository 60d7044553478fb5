/-
  WALKS: the reference's rule of an operator (layer 10).
-/
import Derived.Test.YtkkgnmohhgcbiaaA
namespace Go.Proofs.Ytkkgnmohhgcbiaa
open Go.RowKit
theorem roper_is (n : Int) (b : Bool) (w : World) (h0 : 0 ≤ n) (h1 : n ≤ 255) (h : opZ n.toNat = b) : Calls Try.prog 12 #[.int .u8 n] w fun e w' => e = .returned (.bool b) ∧ w' = w := by
  have e : n = ((n.toNat.toUInt8).toNat : Int) := by rw [u8_of _ (by omega)]; omega
  have hb : operB n.toNat.toUInt8 = b := by
    rw [← h]
    have : ∀ k : Fin 256, operB k.val.toUInt8 = opZ k.val := by decide +kernel
    exact this ⟨n.toNat, by omega⟩
  have := roper_any n.toNat.toUInt8 w
  rw [← e, hb] at this
  exact this
theorem conv_at (x : Int) (h0 : 0 ≤ x) (h1 : x ≤ 255) (W : World) (n : Nat) (h : n = W.heap.size) :
    (convert 31 9 (.slice (some ⟨n, 0, none⟩) 1 1)).run Try.prog (W.alloc (.cells #[.int .u8 x] 5)) = .ok (.string ⟨#[x.toNat.toUInt8]⟩) (W.alloc (.cells #[.int .u8 x] 5)) := by
  subst h; exact conv_one W x h0 h1
theorem b_more {w W : World} (h : Below w.heap.size w W) (o : Obj) : Below w.heap.size w (W.alloc o) := h.alloc h.size o
def rlV (r : Rl) : Value := .agg #[.string ⟨r.first.toArray⟩, .string ⟨r.sep.toArray⟩, .bool r.named, .string ⟨r.empty.toArray⟩, .bool r.keep]
set_option maxRecDepth 20000 in
set_option maxHeartbeats 4000000 in
theorem rule_0 (w : World) : Calls Try.prog 10 #[.int .u8 0] w fun e w' => e = .returned (.tuple #[.agg #[.string ⟨#[]⟩, .string ⟨#[44]⟩, .bool false, .string ⟨#[]⟩, .bool false], .bool true]) ∧ Below w.heap.size w w' := by
  have hc := conv_at 0 (by decide) (by decide)
  go_enter Try.func10, Try.ntmps10
  go_wp2_with (go_at_call 12; refine (roper_is 0 true _ (by decide) (by decide) (by decide)).mono ?_; rintro e w1 ⟨rfl, rfl⟩)
  exact bodyPost_ret (v := .tuple #[.agg #[.string ⟨#[]⟩, .string ⟨#[44]⟩, .bool false, .string ⟨#[]⟩, .bool false], .bool true]) (ret_cell_tmp Try.results10 _ _ rfl ((Bx.made w _ _).later _) Try.underlying27 rfl (by kernel_rfl)) rfl ⟨rfl, b_more (b_alloc w _) _⟩
set_option maxRecDepth 20000 in
set_option maxHeartbeats 4000000 in
theorem rule_43 (w : World) : Calls Try.prog 10 #[.int .u8 43] w fun e w' => e = .returned (.tuple #[.agg #[.string ⟨#[]⟩, .string ⟨#[44]⟩, .bool false, .string ⟨#[]⟩, .bool true], .bool true]) ∧ Below w.heap.size w w' := by
  have hc := conv_at 43 (by decide) (by decide)
  go_enter Try.func10, Try.ntmps10
  go_wp2_with (go_at_call 12; refine (roper_is 43 true _ (by decide) (by decide) (by decide)).mono ?_; rintro e w1 ⟨rfl, rfl⟩)
  exact bodyPost_ret (v := .tuple #[.agg #[.string ⟨#[]⟩, .string ⟨#[44]⟩, .bool false, .string ⟨#[]⟩, .bool true], .bool true]) (ret_cell_tmp Try.results10 _ _ rfl ((Bx.made w _ _).later _) Try.underlying27 rfl (by kernel_rfl)) rfl ⟨rfl, b_more (b_alloc w _) _⟩
set_option maxRecDepth 20000 in
set_option maxHeartbeats 4000000 in
theorem rule_35 (w : World) : Calls Try.prog 10 #[.int .u8 35] w fun e w' => e = .returned (.tuple #[.agg #[.string ⟨#[35]⟩, .string ⟨#[44]⟩, .bool false, .string ⟨#[]⟩, .bool true], .bool true]) ∧ Below w.heap.size w w' := by
  have hc := conv_at 35 (by decide) (by decide)
  go_enter Try.func10, Try.ntmps10
  go_wp2_with (go_at_call 12; refine (roper_is 35 true _ (by decide) (by decide) (by decide)).mono ?_; rintro e w1 ⟨rfl, rfl⟩)
  exact bodyPost_ret (v := .tuple #[.agg #[.string ⟨#[35]⟩, .string ⟨#[44]⟩, .bool false, .string ⟨#[]⟩, .bool true], .bool true]) (ret_cell_tmp Try.results10 _ _ rfl (((Bx.made w _ _).later _).later _) Try.underlying27 rfl (by kernel_rfl)) rfl ⟨rfl, b_more (b_more (b_alloc w _) _) _⟩
set_option maxRecDepth 20000 in
set_option maxHeartbeats 4000000 in
theorem rule_46 (w : World) : Calls Try.prog 10 #[.int .u8 46] w fun e w' => e = .returned (.tuple #[.agg #[.string ⟨#[46]⟩, .string ⟨#[46]⟩, .bool false, .string ⟨#[]⟩, .bool false], .bool true]) ∧ Below w.heap.size w w' := by
  have hc := conv_at 46 (by decide) (by decide)
  go_enter Try.func10, Try.ntmps10
  go_wp2_with (go_at_call 12; refine (roper_is 46 true _ (by decide) (by decide) (by decide)).mono ?_; rintro e w1 ⟨rfl, rfl⟩)
  exact bodyPost_ret (v := .tuple #[.agg #[.string ⟨#[46]⟩, .string ⟨#[46]⟩, .bool false, .string ⟨#[]⟩, .bool false], .bool true]) (ret_cell_tmp Try.results10 _ _ rfl ((((Bx.made w _ _).later _).later _).later _) Try.underlying27 rfl (by kernel_rfl)) rfl ⟨rfl, b_more (b_more (b_more (b_alloc w _) _) _) _⟩
set_option maxRecDepth 20000 in
set_option maxHeartbeats 4000000 in
theorem rule_47 (w : World) : Calls Try.prog 10 #[.int .u8 47] w fun e w' => e = .returned (.tuple #[.agg #[.string ⟨#[47]⟩, .string ⟨#[47]⟩, .bool false, .string ⟨#[]⟩, .bool false], .bool true]) ∧ Below w.heap.size w w' := by
  have hc := conv_at 47 (by decide) (by decide)
  go_enter Try.func10, Try.ntmps10
  go_wp2_with (go_at_call 12; refine (roper_is 47 true _ (by decide) (by decide) (by decide)).mono ?_; rintro e w1 ⟨rfl, rfl⟩)
  exact bodyPost_ret (v := .tuple #[.agg #[.string ⟨#[47]⟩, .string ⟨#[47]⟩, .bool false, .string ⟨#[]⟩, .bool false], .bool true]) (ret_cell_tmp Try.results10 _ _ rfl ((((Bx.made w _ _).later _).later _).later _) Try.underlying27 rfl (by kernel_rfl)) rfl ⟨rfl, b_more (b_more (b_more (b_alloc w _) _) _) _⟩
set_option maxRecDepth 20000 in
set_option maxHeartbeats 4000000 in
theorem rule_59 (w : World) : Calls Try.prog 10 #[.int .u8 59] w fun e w' => e = .returned (.tuple #[.agg #[.string ⟨#[59]⟩, .string ⟨#[59]⟩, .bool true, .string ⟨#[]⟩, .bool false], .bool true]) ∧ Below w.heap.size w w' := by
  have hc := conv_at 59 (by decide) (by decide)
  go_enter Try.func10, Try.ntmps10
  go_wp2_with (go_at_call 12; refine (roper_is 59 true _ (by decide) (by decide) (by decide)).mono ?_; rintro e w1 ⟨rfl, rfl⟩)
  exact bodyPost_ret (v := .tuple #[.agg #[.string ⟨#[59]⟩, .string ⟨#[59]⟩, .bool true, .string ⟨#[]⟩, .bool false], .bool true]) (ret_cell_tmp Try.results10 _ _ rfl ((((Bx.made w _ _).later _).later _).later _) Try.underlying27 rfl (by kernel_rfl)) rfl ⟨rfl, b_more (b_more (b_more (b_alloc w _) _) _) _⟩
set_option maxRecDepth 20000 in
set_option maxHeartbeats 4000000 in
theorem rule_63 (w : World) : Calls Try.prog 10 #[.int .u8 63] w fun e w' => e = .returned (.tuple #[.agg #[.string ⟨#[63]⟩, .string ⟨#[38]⟩, .bool true, .string ⟨#[61]⟩, .bool false], .bool true]) ∧ Below w.heap.size w w' := by
  have hc := conv_at 63 (by decide) (by decide)
  go_enter Try.func10, Try.ntmps10
  go_wp2_with (go_at_call 12; refine (roper_is 63 true _ (by decide) (by decide) (by decide)).mono ?_; rintro e w1 ⟨rfl, rfl⟩)
  exact bodyPost_ret (v := .tuple #[.agg #[.string ⟨#[63]⟩, .string ⟨#[38]⟩, .bool true, .string ⟨#[61]⟩, .bool false], .bool true]) (ret_cell_tmp Try.results10 _ _ rfl (((Bx.made w _ _).later _).later _) Try.underlying27 rfl (by kernel_rfl)) rfl ⟨rfl, b_more (b_more (b_alloc w _) _) _⟩
set_option maxRecDepth 20000 in
set_option maxHeartbeats 4000000 in
theorem rule_38 (w : World) : Calls Try.prog 10 #[.int .u8 38] w fun e w' => e = .returned (.tuple #[.agg #[.string ⟨#[38]⟩, .string ⟨#[38]⟩, .bool true, .string ⟨#[61]⟩, .bool false], .bool true]) ∧ Below w.heap.size w w' := by
  have hc := conv_at 38 (by decide) (by decide)
  go_enter Try.func10, Try.ntmps10
  go_wp2_with (go_at_call 12; refine (roper_is 38 true _ (by decide) (by decide) (by decide)).mono ?_; rintro e w1 ⟨rfl, rfl⟩)
  exact bodyPost_ret (v := .tuple #[.agg #[.string ⟨#[38]⟩, .string ⟨#[38]⟩, .bool true, .string ⟨#[61]⟩, .bool false], .bool true]) (ret_cell_tmp Try.results10 _ _ rfl ((((Bx.made w _ _).later _).later _).later _) Try.underlying27 rfl (by kernel_rfl)) rfl ⟨rfl, b_more (b_more (b_more (b_alloc w _) _) _) _⟩
set_option maxRecDepth 20000 in
set_option maxHeartbeats 4000000 in
theorem rule_no (n : Int) (w : World) (h0 : 0 ≤ n) (h1 : n ≤ 255) (h : opZ n.toNat = false) : Calls Try.prog 10 #[.int .u8 n] w fun e w' => e = .returned (.tuple #[.agg #[.string ⟨#[]⟩, .string ⟨#[]⟩, .bool false, .string ⟨#[]⟩, .bool false], .bool false]) ∧ Below w.heap.size w w' := by
  go_enter Try.func10, Try.ntmps10
  go_wp2_with (go_at_call 12; refine (roper_is n false _ h0 h1 h).mono ?_; rintro e w1 ⟨rfl, rfl⟩)
  exact bodyPost_ret (v := .tuple #[.agg #[.string ⟨#[]⟩, .string ⟨#[]⟩, .bool false, .string ⟨#[]⟩, .bool false], .bool false]) (ret_cell_tmp Try.results10 _ _ rfl (Bx.made w _ _) Try.underlying27 rfl (by kernel_rfl)) rfl ⟨rfl, b_alloc w _⟩
theorem rule_yes (n : Int) (w : World) (h0 : 0 ≤ n) (h : opZ n.toNat = true) : Calls Try.prog 10 #[.int .u8 n] w fun e w' => e = .returned (.tuple #[rlV (rlN n.toNat), .bool true]) ∧ Below w.heap.size w w' := by
  obtain ⟨k, rfl⟩ : ∃ k : Nat, n = (k : Int) := ⟨n.toNat, by omega⟩
  rw [Int.toNat_natCast] at h ⊢
  rcases op_cases h with rfl | rfl | rfl | rfl | rfl | rfl | rfl | rfl
  · exact rule_0 w
  · exact rule_43 w
  · exact rule_35 w
  · exact rule_46 w
  · exact rule_47 w
  · exact rule_59 w
  · exact rule_63 w
  · exact rule_38 w
end Go.Proofs.Ytkkgnmohhgcbiaa
