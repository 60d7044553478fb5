/-
  WALKS: pct.One; the reference's One.
-/
import Derived.Test.YtmpengiohfjofaaW10
namespace Go.Proofs.Ytmpengiohfjofaa
open Go.RowKit

/-- a byte's triplet, by its number -/
def oneN (n : Nat) : List UInt8 := [37, (upN (n / 16)).toUInt8, (upN (n % 16)).toUInt8]
theorem one_N (c : UInt8) : oneL c = oneN c.toNat := rfl

theorem tab0 (W : World) : (Instr.index 9 (.string ⟨#[48, 49, 50, 51, 52, 53, 54, 55, 56, 57, 65, 66, 67, 68, 69, 70]⟩) (.int .u8 ((0 : Nat) : Int))).run Try.prog W = .ok (.int .u8 (upN 0 : Int)) W := by kernel_rfl
theorem tab1 (W : World) : (Instr.index 9 (.string ⟨#[48, 49, 50, 51, 52, 53, 54, 55, 56, 57, 65, 66, 67, 68, 69, 70]⟩) (.int .u8 ((1 : Nat) : Int))).run Try.prog W = .ok (.int .u8 (upN 1 : Int)) W := by kernel_rfl
theorem tab2 (W : World) : (Instr.index 9 (.string ⟨#[48, 49, 50, 51, 52, 53, 54, 55, 56, 57, 65, 66, 67, 68, 69, 70]⟩) (.int .u8 ((2 : Nat) : Int))).run Try.prog W = .ok (.int .u8 (upN 2 : Int)) W := by kernel_rfl
theorem tab3 (W : World) : (Instr.index 9 (.string ⟨#[48, 49, 50, 51, 52, 53, 54, 55, 56, 57, 65, 66, 67, 68, 69, 70]⟩) (.int .u8 ((3 : Nat) : Int))).run Try.prog W = .ok (.int .u8 (upN 3 : Int)) W := by kernel_rfl
theorem tab4 (W : World) : (Instr.index 9 (.string ⟨#[48, 49, 50, 51, 52, 53, 54, 55, 56, 57, 65, 66, 67, 68, 69, 70]⟩) (.int .u8 ((4 : Nat) : Int))).run Try.prog W = .ok (.int .u8 (upN 4 : Int)) W := by kernel_rfl
theorem tab5 (W : World) : (Instr.index 9 (.string ⟨#[48, 49, 50, 51, 52, 53, 54, 55, 56, 57, 65, 66, 67, 68, 69, 70]⟩) (.int .u8 ((5 : Nat) : Int))).run Try.prog W = .ok (.int .u8 (upN 5 : Int)) W := by kernel_rfl
theorem tab6 (W : World) : (Instr.index 9 (.string ⟨#[48, 49, 50, 51, 52, 53, 54, 55, 56, 57, 65, 66, 67, 68, 69, 70]⟩) (.int .u8 ((6 : Nat) : Int))).run Try.prog W = .ok (.int .u8 (upN 6 : Int)) W := by kernel_rfl
theorem tab7 (W : World) : (Instr.index 9 (.string ⟨#[48, 49, 50, 51, 52, 53, 54, 55, 56, 57, 65, 66, 67, 68, 69, 70]⟩) (.int .u8 ((7 : Nat) : Int))).run Try.prog W = .ok (.int .u8 (upN 7 : Int)) W := by kernel_rfl
theorem tab8 (W : World) : (Instr.index 9 (.string ⟨#[48, 49, 50, 51, 52, 53, 54, 55, 56, 57, 65, 66, 67, 68, 69, 70]⟩) (.int .u8 ((8 : Nat) : Int))).run Try.prog W = .ok (.int .u8 (upN 8 : Int)) W := by kernel_rfl
theorem tab9 (W : World) : (Instr.index 9 (.string ⟨#[48, 49, 50, 51, 52, 53, 54, 55, 56, 57, 65, 66, 67, 68, 69, 70]⟩) (.int .u8 ((9 : Nat) : Int))).run Try.prog W = .ok (.int .u8 (upN 9 : Int)) W := by kernel_rfl
theorem tab10 (W : World) : (Instr.index 9 (.string ⟨#[48, 49, 50, 51, 52, 53, 54, 55, 56, 57, 65, 66, 67, 68, 69, 70]⟩) (.int .u8 ((10 : Nat) : Int))).run Try.prog W = .ok (.int .u8 (upN 10 : Int)) W := by kernel_rfl
theorem tab11 (W : World) : (Instr.index 9 (.string ⟨#[48, 49, 50, 51, 52, 53, 54, 55, 56, 57, 65, 66, 67, 68, 69, 70]⟩) (.int .u8 ((11 : Nat) : Int))).run Try.prog W = .ok (.int .u8 (upN 11 : Int)) W := by kernel_rfl
theorem tab12 (W : World) : (Instr.index 9 (.string ⟨#[48, 49, 50, 51, 52, 53, 54, 55, 56, 57, 65, 66, 67, 68, 69, 70]⟩) (.int .u8 ((12 : Nat) : Int))).run Try.prog W = .ok (.int .u8 (upN 12 : Int)) W := by kernel_rfl
theorem tab13 (W : World) : (Instr.index 9 (.string ⟨#[48, 49, 50, 51, 52, 53, 54, 55, 56, 57, 65, 66, 67, 68, 69, 70]⟩) (.int .u8 ((13 : Nat) : Int))).run Try.prog W = .ok (.int .u8 (upN 13 : Int)) W := by kernel_rfl
theorem tab14 (W : World) : (Instr.index 9 (.string ⟨#[48, 49, 50, 51, 52, 53, 54, 55, 56, 57, 65, 66, 67, 68, 69, 70]⟩) (.int .u8 ((14 : Nat) : Int))).run Try.prog W = .ok (.int .u8 (upN 14 : Int)) W := by kernel_rfl
theorem tab15 (W : World) : (Instr.index 9 (.string ⟨#[48, 49, 50, 51, 52, 53, 54, 55, 56, 57, 65, 66, 67, 68, 69, 70]⟩) (.int .u8 ((15 : Nat) : Int))).run Try.prog W = .ok (.int .u8 (upN 15 : Int)) W := by kernel_rfl
theorem tab_nat (n : Nat) (h : n < 16) (W : World) : (Instr.index 9 (.string ⟨#[48, 49, 50, 51, 52, 53, 54, 55, 56, 57, 65, 66, 67, 68, 69, 70]⟩) (.int .u8 (n : Int))).run Try.prog W = .ok (.int .u8 (upN n : Int)) W := by
  have e : n = 0 ∨ n = 1 ∨ n = 2 ∨ n = 3 ∨ n = 4 ∨ n = 5 ∨ n = 6 ∨ n = 7 ∨ n = 8 ∨ n = 9 ∨ n = 10 ∨ n = 11 ∨ n = 12 ∨ n = 13 ∨ n = 14 ∨ n = 15 := by omega
  rcases e with rfl | rfl | rfl | rfl | rfl | rfl | rfl | rfl | rfl | rfl | rfl | rfl | rfl | rfl | rfl | rfl
  · exact tab0 W
  · exact tab1 W
  · exact tab2 W
  · exact tab3 W
  · exact tab4 W
  · exact tab5 W
  · exact tab6 W
  · exact tab7 W
  · exact tab8 W
  · exact tab9 W
  · exact tab10 W
  · exact tab11 W
  · exact tab12 W
  · exact tab13 W
  · exact tab14 W
  · exact tab15 W
theorem tab_is (k : Int) (n : Nat) (h : n < 16) (e : k = n) (W : World) : (Instr.index 9 (.string ⟨#[48, 49, 50, 51, 52, 53, 54, 55, 56, 57, 65, 66, 67, 68, 69, 70]⟩) (.int .u8 k)).run Try.prog W = .ok (.int .u8 (upN n : Int)) W := by
  subst e; exact tab_nat n h W

theorem cell_of {W : World} {n : Nat} {cs : Array Value} {t : TypeId} {fz : Nat × Nat} (h : W.heap[n]? = some (.cells cs t fz)) (k : Nat) : W.cell? ⟨n, k, none⟩ = cs[k]? := by simp [World.cell?, h]
/-- three bytes of a new block as a text -/
theorem three_conv (w : World) (x y : Nat) (hx : x < 256) (hy : y < 256) : (convert 36 9 (.slice (some ⟨w.heap.size, 0, none⟩) 3 3)).run Try.prog (w.alloc (.cells #[.int .u8 37, .int .u8 (x : Int), .int .u8 (y : Int)] 5)).drew = .ok (.string ⟨([37, x.toUInt8, y.toUInt8] : List UInt8).toArray⟩) (w.alloc (.cells #[.int .u8 37, .int .u8 (x : Int), .int .u8 (y : Int)] 5)).drew := by
  refine run_convert_bytes_back _ 36 9 5 ⟨w.heap.size, 0, none⟩ 3 [37, x.toUInt8, y.toUInt8] Try.underlying36 Try.underlying5 Try.underlying9 ?_
  intro j hj
  have hx2 : (x.toUInt8).toNat = x := u8_of x hx
  have hy2 : (y.toUInt8).toNat = y := u8_of y hy
  have e : j = 0 ∨ j = 1 ∨ j = 2 := by simp at hj; omega
  have hc : ∀ j : Nat, (⟨w.heap.size, 0, none⟩ : Addr).add j = ⟨w.heap.size, j, none⟩ := by intro j; simp [Addr.add]; omega
  have hh : ∀ o, (w.alloc o).drew.heap[w.heap.size]? = some o := by intro o; show (w.heap.push o)[w.heap.size]? = _; simp
  rw [hc, cell_of (hh _)]
  rcases e with rfl | rfl | rfl
  · rfl
  · show some (Value.int .u8 (x : Int)) = some (.int .u8 ((x.toUInt8).toNat : Int)); rw [hx2]
  · show some (Value.int .u8 (y : Int)) = some (.int .u8 ((y.toUInt8).toNat : Int)); rw [hy2]
theorem up_lt (n : Nat) (h : n < 16) : upN n < 256 := by unfold upN; split <;> omega

set_option maxHeartbeats 1000000 in
theorem one3_any (c : Int) (w : World) (h0 : 0 ≤ c) (h1 : c ≤ 255) :
    Calls Try.prog 12 #[.int .u8 c] w fun e w' => e = .returned (.string ⟨(oneN c.toNat).toArray⟩) ∧ Below w.heap.size w w' := by
  have k1 : ∀ W, _ := tab_is (c / 16) (c.toNat / 16) (by omega) (by omega)
  have k2 : ∀ W, _ := tab_is (c % 16) (c.toNat % 16) (by omega) (by omega)
  have k3 := three_conv w _ _ (up_lt (c.toNat / 16) (by omega)) (up_lt (c.toNat % 16) (by omega))
  have k4 := below_new w (.cells #[.int .u8 37, .int .u8 (upN (c.toNat / 16) : Int), .int .u8 (upN (c.toNat % 16) : Int)] 5)
  have K4 := hide k4
  clear k4
  unfold oneN
  generalize upN (c.toNat / 16) = x at *
  generalize upN (c.toNat % 16) = y at *
  go_enter Try.func12, Try.ntmps12
  go_wp2
  go_region
  go_wp2
  go_ret
  exact ⟨rfl, below_drewN K4.out 1⟩

set_option maxHeartbeats 1000000 in
theorem rone3_any (c : Int) (w : World) (h0 : 0 ≤ c) (h1 : c ≤ 255) :
    Calls Try.prog 13 #[.int .u8 c] w fun e w' => e = .returned (.string ⟨(oneN c.toNat).toArray⟩) ∧ Below w.heap.size w w' := by
  have k1 : ∀ W, _ := tab_is (c / 16) (c.toNat / 16) (by omega) (by omega)
  have k2 : ∀ W, _ := tab_is (c % 16) (c.toNat % 16) (by omega) (by omega)
  have k3 := three_conv w _ _ (up_lt (c.toNat / 16) (by omega)) (up_lt (c.toNat % 16) (by omega))
  have k4 := below_new w (.cells #[.int .u8 37, .int .u8 (upN (c.toNat / 16) : Int), .int .u8 (upN (c.toNat % 16) : Int)] 5)
  have K4 := hide k4
  clear k4
  unfold oneN
  generalize upN (c.toNat / 16) = x at *
  generalize upN (c.toNat % 16) = y at *
  go_enter Try.func13, Try.ntmps13
  go_wp2
  go_region
  go_wp2
  go_ret
  exact ⟨rfl, below_drewN K4.out 1⟩


end Go.Proofs.Ytmpengiohfjofaa
