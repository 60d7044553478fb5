/-
  TEXTS JOINED: A1, A2, K9, K11, K12, K13, uW7.
-/
import Derived.BigQuiet
import Derived.Deep.QuietTactic
import Derived.Deep.RegionWith
import Derived.Lib.OthersKept
import Derived.Lib.Strings
import Derived.Shelf.RegionOpenPlain
import Derived.Test.YtpfcfadbilaleaaQ02
import Derived.Test.YtpfcfadbilaleaaQ04
import Derived.Test.YtpfcfadbilaleaaQ05
import Derived.Test.YtpfcfadbilaleaaQ06
/-
  Templates in memory; WALKS: the reference's Many.
-/
namespace Go.Proofs.Ytpfcfadbilaleaa
open Go.RowKit

/-- variables, one behind the other, in cells -/
def SpecsAt (w : World) (v : Value) (xs : List Sp) : Prop :=
  (xs = [] ∧ ∃ ao cap, v = .slice ao 0 cap) ∨ (0 < xs.length ∧ ∃ b off cap, v = .slice (some ⟨b, off, none⟩) xs.length cap ∧ ∀ k (h : k < xs.length), w.cell? ⟨b, off + k * 3, none⟩ = some (.string ⟨xs[k].name.toArray⟩) ∧ w.cell? ⟨b, off + k * 3 + 1, none⟩ = some (.int .i64 xs[k].max) ∧ w.cell? ⟨b, off + k * 3 + 2, none⟩ = some (.bool xs[k].star))
/-- parts, one behind the other, in cells -/
def PtsAt (w : World) (v : Value) (ts : List Pt) : Prop :=
  (ts = [] ∧ ∃ ao cap, v = .slice ao 0 cap) ∨ (0 < ts.length ∧ ∃ b off cap, v = .slice (some ⟨b, off, none⟩) ts.length cap ∧ ∀ k (h : k < ts.length), w.cell? ⟨b, off + k * 3, none⟩ = some (.string ⟨ts[k].lit.toArray⟩) ∧ w.cell? ⟨b, off + k * 3 + 1, none⟩ = some (.int .u8 ts[k].op.toNat) ∧ ∃ sv, w.cell? ⟨b, off + k * 3 + 2, none⟩ = some sv ∧ SpecsAt w sv ts[k].specs)
theorem SpecsAt.form {w : World} {v : Value} {xs : List Sp} (h : SpecsAt w v xs) : ∃ a cap, v = .slice a xs.length cap := by
  rcases h with ⟨rfl, ao, cap, rfl⟩ | ⟨hp, b, off, cap, rfl, hc⟩
  · exact ⟨_, _, rfl⟩
  · exact ⟨_, _, rfl⟩
theorem PtsAt.form {w : World} {v : Value} {ts : List Pt} (h : PtsAt w v ts) : ∃ a cap, v = .slice a ts.length cap := by
  rcases h with ⟨rfl, ao, cap, rfl⟩ | ⟨hp, b, off, cap, rfl, hc⟩
  · exact ⟨_, _, rfl⟩
  · exact ⟨_, _, rfl⟩
theorem SpecsAt.later {w w' : World} {v : Value} {xs : List Sp} (h : SpecsAt w v xs) (hb : Below w.heap.size w w') : SpecsAt w' v xs := by
  rcases h with h | ⟨hp, b, off, cap, rfl, hc⟩
  · exact .inl h
  · have hl : b < w.heap.size := lt_of_cell (hc 0 hp).1
    exact .inr ⟨hp, b, off, cap, rfl, fun k hk => ⟨(hb.cell (p := ⟨b, _, none⟩) hl).trans (hc k hk).1, (hb.cell (p := ⟨b, _, none⟩) hl).trans (hc k hk).2.1, (hb.cell (p := ⟨b, _, none⟩) hl).trans (hc k hk).2.2⟩⟩
theorem PtsAt.later {w w' : World} {v : Value} {ts : List Pt} (h : PtsAt w v ts) (hb : Below w.heap.size w w') : PtsAt w' v ts := by
  rcases h with h | ⟨hp, b, off, cap, rfl, hc⟩
  · exact .inl h
  · have hl : b < w.heap.size := lt_of_cell (hc 0 hp).1
    refine .inr ⟨hp, b, off, cap, rfl, fun k hk => ?_⟩
    obtain ⟨h1, h2, sv, h3, h4⟩ := hc k hk
    exact ⟨(hb.cell (p := ⟨b, _, none⟩) hl).trans h1, (hb.cell (p := ⟨b, _, none⟩) hl).trans h2, sv, (hb.cell (p := ⟨b, _, none⟩) hl).trans h3, h4.later hb⟩
/-- what one part's cells hold -/
theorem PtsAt.at {w : World} {v : Value} {ts : List Pt} (h : PtsAt w v ts) (k : Nat) (hk : k < ts.length) : ∃ b off cap a n, v = .slice (some ⟨b, off, none⟩) ts.length cap ∧ b < w.heap.size ∧ w.cell? ⟨b, off + k * 3, none⟩ = some (.string ⟨ts[k].lit.toArray⟩) ∧ w.cell? ⟨b, off + k * 3 + 1, none⟩ = some (.int .u8 ts[k].op.toNat) ∧ w.cell? ⟨b, off + k * 3 + 2, none⟩ = some (.slice a ts[k].specs.length n) ∧ SpecsAt w (.slice a ts[k].specs.length n) ts[k].specs := by
  rcases h with ⟨rfl, _⟩ | ⟨hp, b, off, cap, rfl, hc⟩
  · simp at hk
  · obtain ⟨h1, h2, sv, h3, h4⟩ := hc k hk
    obtain ⟨a, n, rfl⟩ := h4.form
    exact ⟨b, off, cap, a, n, rfl, lt_of_cell h1, h1, h2, h3, h4⟩

end Go.Proofs.Ytpfcfadbilaleaa
/-
  WALKS: the reference's In, Operator, Literal (a class).
-/
namespace Go.Proofs.Ytpfcfadbilaleaa
open Go.RowKit

def inB (l : List UInt8) (n : Nat) : Bool := l.any fun c => decide (n = c.toNat)
theorem in_snoc (l : List UInt8) (c : UInt8) (n : Nat) : inB (l ++ [c]) n = (inB l n || decide (n = c.toNat)) := by unfold inB; simp
theorem in_more (l : List UInt8) (k n : Nat) (h : inB (l.take k) n = true) : inB l n = true := by
  unfold inB at *
  rw [List.any_eq_true] at *
  obtain ⟨x, hx, hc⟩ := h
  exact ⟨x, List.mem_of_mem_take hx, hc⟩

set_option maxHeartbeats 1000000 in
theorem in_any (s : ByteArray) (c : Int) (w : World) (hs : s.size ≤ maxLen) (h0 : 0 ≤ c) :
    Calls Try.prog 29 #[.string s, .int .u8 c] w fun e w' => e = .returned (.bool (inB s.data.toList c.toNat)) ∧ w' = w := by
  unfold maxLen at hs
  go_enter Try.func29, Try.ntmps29
  go_wp2
  go_loop [5] (fun i => ∃ k : Nat, k ≤ s.size ∧ i = .int .i64 k ∧ inB (s.data.toList.take k) c.toNat = false) (fun i => s.size - (intOf i).toNat)
  case atStart => exact ⟨0, Nat.zero_le _, rfl, rfl⟩
  case round =>
    obtain ⟨k, hk, rfl, hno⟩ := hrel
    have Hno := hide hno
    clear hno
    by_cases hlt : k < s.size
    · have hts := take_snoc s k hlt
      have HS : Hid (inB (s.data.toList.take (k + 1)) c.toNat = (inB (s.data.toList.take k) c.toNat || decide (c.toNat = s[k].toNat))) := by rw [hts]; exact in_snoc _ _ _
      have hmore : Hid (inB (s.data.toList.take (k + 1)) c.toNat = true → inB s.data.toList c.toNat = true) := in_more _ _ _
      clear hts
      by_cases hcc : c = (s[k].toNat : Int)
      · have hc : c.toNat = s[k].toNat := by omega
        have Hc := hide hc
        clear hc
        have ht : ((s[k].toNat : Int) == c) = true := by simp [hcc]
        go_wp2
        go_ret
        refine ⟨ret_bool ?_, rfl⟩
        rw [← Hc.out, hmore.out (by rw [HS.out, Hc.out]; simp)]
      · have hc : ¬ c.toNat = s[k].toNat := by omega
        have ht : ((s[k].toNat : Int) == c) = false := by simp; omega
        go_wp2
        go_round
        case rel => exact ⟨k + 1, by omega, by go_num, by rw [HS.out, Hno.out]; simp [hc]⟩
        case measure => simp [intOf]; omega
    · go_wp2
      go_ret
      refine ⟨ret_bool ?_, rfl⟩
      rw [← Hno.out, List.take_of_length_le (by simp; omega)]
theorem in_is (s : ByteArray) (c : Int) (b : Bool) (w : World) (hs : s.size ≤ 1000) (h0 : 0 ≤ c) (h : inB s.data.toList c.toNat = b) :
    Calls Try.prog 29 #[.string s, .int .u8 c] w fun e w' => e = .returned (.bool b) ∧ w' = w := by
  subst h; exact in_any s c w (by unfold maxLen; omega) h0
theorem op_in : ∀ n : Fin 256, inB [43, 35, 46, 47, 59, 63, 38] n.val = opN n.val := by decide +kernel
set_option maxHeartbeats 1000000 in
theorem roper_any (c : UInt8) (w : World) : Calls Try.prog 41 #[.int .u8 (c.toNat : Int)] w fun e w' => e = .returned (.bool (operB c)) ∧ w' = w := by
  have hl := UInt8.toNat_lt c
  obtain ⟨b, hb⟩ : ∃ b, opB c = b := ⟨_, rfl⟩
  have hi : inB [43, 35, 46, 47, 59, 63, 38] ((c.toNat : Int).toNat) = b := by
    rw [Int.toNat_natCast, op_in ⟨c.toNat, hl⟩]; exact hb
  have Hi := hide hi
  clear hi
  by_cases h0 : c = 0
  · subst h0
    have hx : operB 0 = true := rfl
    rw [hx]
    go_enter Try.func41, Try.ntmps41
    go_wp2
    all_goals go_ret
    all_goals exact ⟨rfl, rfl⟩
  · have h0' : ((c.toNat : Int) == 0) = false := by
      have : c.toNat ≠ 0 := fun e => h0 (UInt8.toNat_inj.1 e)
      simp; omega
    have hx : operB c = b := by
      have : (c == 0) = false := by simp [h0]
      unfold operB; rw [this, hb]; rfl
    rw [hx]
    clear hx hb h0
    go_enter Try.func41, Try.ntmps41
    go_wp2_with (go_at_call 29; refine (in_is _ _ b _ (by decide) (by omega) Hi.out).mono ?_; rintro e w1 ⟨rfl, hw⟩; rw [hw])
    all_goals go_ret
    all_goals exact ⟨rfl, rfl⟩
end Go.Proofs.Ytpfcfadbilaleaa
/-
  WALKS: the reference's Unreserved, Reserved (layer 2).
-/
namespace Go.Proofs.Ytpfcfadbilaleaa
open Go.RowKit

def pieceK (keep : Bool) (a : UInt8) : List UInt8 := if stayB keep a then [a] else oneL a
theorem below_new (w : World) (o : Obj) : Below w.heap.size w (w.alloc o) := (Below.refl _ _).alloc (Nat.le_refl _) _
theorem un_in : ∀ n : Fin 256, (alphN n.val || digN' n.val || inB [45, 46, 95, 126] n.val) = unN n.val := by decide +kernel
theorem re_in : ∀ n : Fin 256, inB [58, 47, 63, 35, 91, 93, 64, 33, 36, 38, 39, 40, 41, 42, 43, 44, 59, 61] n.val = reN n.val := by decide +kernel
set_option maxHeartbeats 400000 in
theorem runres_is (c : Int) (b : Bool) (w : World) (h0 : 0 ≤ c) (h1 : c ≤ 255) (h : unN c.toNat = b) : Calls Try.prog 11 #[.int .u8 c] w fun e w' => e = .returned (.bool b) ∧ w' = w := by
  subst h
  obtain ⟨a, ha⟩ : ∃ d, alphN c.toNat = d := ⟨_, rfl⟩
  obtain ⟨d, hd⟩ : ∃ d, digN' c.toNat = d := ⟨_, rfl⟩
  obtain ⟨i, hi⟩ : ∃ d, inB [45, 46, 95, 126] c.toNat = d := ⟨_, rfl⟩
  have e : unN c.toNat = (a || d || i) := by rw [← ha, ← hd, ← hi]; exact (un_in ⟨c.toNat, by omega⟩).symm
  rw [e]
  have Ha := hide ha
  have Hd := hide hd
  have Hi := hide hi
  clear ha hd hi e
  cases a <;> cases d
  all_goals
    go_enter Try.func11, Try.ntmps11
    go_wp2_with (first
      | (go_at_call 27; refine (ralpha_is _ _ _ h0 Ha.out).mono ?_; rintro e w' ⟨rfl, hw⟩; rw [hw])
      | (go_at_call 28; refine (rdigit_is _ _ _ h0 Hd.out).mono ?_; rintro e w' ⟨rfl, hw⟩; rw [hw])
      | (go_at_call 29; refine (in_is _ _ i _ (by decide) h0 Hi.out).mono ?_; rintro e w' ⟨rfl, hw⟩; rw [hw]))
    all_goals go_ret
    all_goals exact ⟨rfl, rfl⟩
theorem rres_is (c : Int) (b : Bool) (w : World) (h0 : 0 ≤ c) (h1 : c ≤ 255) (h : reN c.toNat = b) : Calls Try.prog 12 #[.int .u8 c] w fun e w' => e = .returned (.bool b) ∧ w' = w := by
  have hi : inB [58, 47, 63, 35, 91, 93, 64, 33, 36, 38, 39, 40, 41, 42, 43, 44, 59, 61] c.toNat = b := by rw [re_in ⟨c.toNat, by omega⟩]; exact h
  have Hi := hide hi
  clear hi h
  go_enter Try.func12, Try.ntmps12
  go_wp2_with (go_at_call 29; refine (in_is _ _ b _ (by decide) h0 Hi.out).mono ?_; rintro e w' ⟨rfl, hw⟩; rw [hw])
  go_ret
  exact ⟨rfl, rfl⟩
end Go.Proofs.Ytpfcfadbilaleaa
/-
  WALKS: pct.One; the reference's One.
-/
namespace Go.Proofs.Ytpfcfadbilaleaa
open Go.RowKit

/-- a byte's triplet, by its number -/
def oneN (n : Nat) : List UInt8 := [37, (upN (n / 16)).toUInt8, (upN (n % 16)).toUInt8]
theorem one_N (c : UInt8) : oneL c = oneN c.toNat := rfl

theorem tab0 (W : World) : (Instr.index 9 (.string ⟨#[48, 49, 50, 51, 52, 53, 54, 55, 56, 57, 65, 66, 67, 68, 69, 70]⟩) (.int .u8 ((0 : Nat) : Int))).run Try.prog W = .ok (.int .u8 (upN 0 : Int)) W := by kernel_rfl
theorem tab1 (W : World) : (Instr.index 9 (.string ⟨#[48, 49, 50, 51, 52, 53, 54, 55, 56, 57, 65, 66, 67, 68, 69, 70]⟩) (.int .u8 ((1 : Nat) : Int))).run Try.prog W = .ok (.int .u8 (upN 1 : Int)) W := by kernel_rfl
theorem tab2 (W : World) : (Instr.index 9 (.string ⟨#[48, 49, 50, 51, 52, 53, 54, 55, 56, 57, 65, 66, 67, 68, 69, 70]⟩) (.int .u8 ((2 : Nat) : Int))).run Try.prog W = .ok (.int .u8 (upN 2 : Int)) W := by kernel_rfl
theorem tab3 (W : World) : (Instr.index 9 (.string ⟨#[48, 49, 50, 51, 52, 53, 54, 55, 56, 57, 65, 66, 67, 68, 69, 70]⟩) (.int .u8 ((3 : Nat) : Int))).run Try.prog W = .ok (.int .u8 (upN 3 : Int)) W := by kernel_rfl
theorem tab4 (W : World) : (Instr.index 9 (.string ⟨#[48, 49, 50, 51, 52, 53, 54, 55, 56, 57, 65, 66, 67, 68, 69, 70]⟩) (.int .u8 ((4 : Nat) : Int))).run Try.prog W = .ok (.int .u8 (upN 4 : Int)) W := by kernel_rfl
theorem tab5 (W : World) : (Instr.index 9 (.string ⟨#[48, 49, 50, 51, 52, 53, 54, 55, 56, 57, 65, 66, 67, 68, 69, 70]⟩) (.int .u8 ((5 : Nat) : Int))).run Try.prog W = .ok (.int .u8 (upN 5 : Int)) W := by kernel_rfl
theorem tab6 (W : World) : (Instr.index 9 (.string ⟨#[48, 49, 50, 51, 52, 53, 54, 55, 56, 57, 65, 66, 67, 68, 69, 70]⟩) (.int .u8 ((6 : Nat) : Int))).run Try.prog W = .ok (.int .u8 (upN 6 : Int)) W := by kernel_rfl
theorem tab7 (W : World) : (Instr.index 9 (.string ⟨#[48, 49, 50, 51, 52, 53, 54, 55, 56, 57, 65, 66, 67, 68, 69, 70]⟩) (.int .u8 ((7 : Nat) : Int))).run Try.prog W = .ok (.int .u8 (upN 7 : Int)) W := by kernel_rfl
theorem tab8 (W : World) : (Instr.index 9 (.string ⟨#[48, 49, 50, 51, 52, 53, 54, 55, 56, 57, 65, 66, 67, 68, 69, 70]⟩) (.int .u8 ((8 : Nat) : Int))).run Try.prog W = .ok (.int .u8 (upN 8 : Int)) W := by kernel_rfl
theorem tab9 (W : World) : (Instr.index 9 (.string ⟨#[48, 49, 50, 51, 52, 53, 54, 55, 56, 57, 65, 66, 67, 68, 69, 70]⟩) (.int .u8 ((9 : Nat) : Int))).run Try.prog W = .ok (.int .u8 (upN 9 : Int)) W := by kernel_rfl
theorem tab10 (W : World) : (Instr.index 9 (.string ⟨#[48, 49, 50, 51, 52, 53, 54, 55, 56, 57, 65, 66, 67, 68, 69, 70]⟩) (.int .u8 ((10 : Nat) : Int))).run Try.prog W = .ok (.int .u8 (upN 10 : Int)) W := by kernel_rfl
theorem tab11 (W : World) : (Instr.index 9 (.string ⟨#[48, 49, 50, 51, 52, 53, 54, 55, 56, 57, 65, 66, 67, 68, 69, 70]⟩) (.int .u8 ((11 : Nat) : Int))).run Try.prog W = .ok (.int .u8 (upN 11 : Int)) W := by kernel_rfl
theorem tab12 (W : World) : (Instr.index 9 (.string ⟨#[48, 49, 50, 51, 52, 53, 54, 55, 56, 57, 65, 66, 67, 68, 69, 70]⟩) (.int .u8 ((12 : Nat) : Int))).run Try.prog W = .ok (.int .u8 (upN 12 : Int)) W := by kernel_rfl
theorem tab13 (W : World) : (Instr.index 9 (.string ⟨#[48, 49, 50, 51, 52, 53, 54, 55, 56, 57, 65, 66, 67, 68, 69, 70]⟩) (.int .u8 ((13 : Nat) : Int))).run Try.prog W = .ok (.int .u8 (upN 13 : Int)) W := by kernel_rfl
theorem tab14 (W : World) : (Instr.index 9 (.string ⟨#[48, 49, 50, 51, 52, 53, 54, 55, 56, 57, 65, 66, 67, 68, 69, 70]⟩) (.int .u8 ((14 : Nat) : Int))).run Try.prog W = .ok (.int .u8 (upN 14 : Int)) W := by kernel_rfl
theorem tab15 (W : World) : (Instr.index 9 (.string ⟨#[48, 49, 50, 51, 52, 53, 54, 55, 56, 57, 65, 66, 67, 68, 69, 70]⟩) (.int .u8 ((15 : Nat) : Int))).run Try.prog W = .ok (.int .u8 (upN 15 : Int)) W := by kernel_rfl
theorem tab_nat (n : Nat) (h : n < 16) (W : World) : (Instr.index 9 (.string ⟨#[48, 49, 50, 51, 52, 53, 54, 55, 56, 57, 65, 66, 67, 68, 69, 70]⟩) (.int .u8 (n : Int))).run Try.prog W = .ok (.int .u8 (upN n : Int)) W := by
  have e : n = 0 ∨ n = 1 ∨ n = 2 ∨ n = 3 ∨ n = 4 ∨ n = 5 ∨ n = 6 ∨ n = 7 ∨ n = 8 ∨ n = 9 ∨ n = 10 ∨ n = 11 ∨ n = 12 ∨ n = 13 ∨ n = 14 ∨ n = 15 := by omega
  rcases e with rfl | rfl | rfl | rfl | rfl | rfl | rfl | rfl | rfl | rfl | rfl | rfl | rfl | rfl | rfl | rfl
  · exact tab0 W
  · exact tab1 W
  · exact tab2 W
  · exact tab3 W
  · exact tab4 W
  · exact tab5 W
  · exact tab6 W
  · exact tab7 W
  · exact tab8 W
  · exact tab9 W
  · exact tab10 W
  · exact tab11 W
  · exact tab12 W
  · exact tab13 W
  · exact tab14 W
  · exact tab15 W
theorem tab_is (k : Int) (n : Nat) (h : n < 16) (e : k = n) (W : World) : (Instr.index 9 (.string ⟨#[48, 49, 50, 51, 52, 53, 54, 55, 56, 57, 65, 66, 67, 68, 69, 70]⟩) (.int .u8 k)).run Try.prog W = .ok (.int .u8 (upN n : Int)) W := by
  subst e; exact tab_nat n h W

theorem cell_of {W : World} {n : Nat} {cs : Array Value} {t : TypeId} {fz : Nat × Nat} (h : W.heap[n]? = some (.cells cs t fz)) (k : Nat) : W.cell? ⟨n, k, none⟩ = cs[k]? := by simp [World.cell?, h]
/-- three bytes of a new block as a text -/
theorem three_conv (w : World) (x y : Nat) (hx : x < 256) (hy : y < 256) : (convert 62 9 (.slice (some ⟨w.heap.size, 0, none⟩) 3 3)).run Try.prog (w.alloc (.cells #[.int .u8 37, .int .u8 (x : Int), .int .u8 (y : Int)] 5)).drew = .ok (.string ⟨([37, x.toUInt8, y.toUInt8] : List UInt8).toArray⟩) (w.alloc (.cells #[.int .u8 37, .int .u8 (x : Int), .int .u8 (y : Int)] 5)).drew := by
  refine run_convert_bytes_back _ 62 9 5 ⟨w.heap.size, 0, none⟩ 3 [37, x.toUInt8, y.toUInt8] Try.underlying62 Try.underlying5 Try.underlying9 ?_
  intro j hj
  have hx2 : (x.toUInt8).toNat = x := u8_of x hx
  have hy2 : (y.toUInt8).toNat = y := u8_of y hy
  have e : j = 0 ∨ j = 1 ∨ j = 2 := by simp at hj; omega
  have hc : ∀ j : Nat, (⟨w.heap.size, 0, none⟩ : Addr).add j = ⟨w.heap.size, j, none⟩ := by intro j; simp [Addr.add]; omega
  have hh : ∀ o, (w.alloc o).drew.heap[w.heap.size]? = some o := by intro o; show (w.heap.push o)[w.heap.size]? = _; simp
  rw [hc, cell_of (hh _)]
  rcases e with rfl | rfl | rfl
  · rfl
  · show some (Value.int .u8 (x : Int)) = some (.int .u8 ((x.toUInt8).toNat : Int)); rw [hx2]
  · show some (Value.int .u8 (y : Int)) = some (.int .u8 ((y.toUInt8).toNat : Int)); rw [hy2]
theorem up_lt (n : Nat) (h : n < 16) : upN n < 256 := by unfold upN; split <;> omega

set_option maxHeartbeats 1000000 in
theorem one3_any (c : Int) (w : World) (h0 : 0 ≤ c) (h1 : c ≤ 255) :
    Calls Try.prog 67 #[.int .u8 c] w fun e w' => e = .returned (.string ⟨(oneN c.toNat).toArray⟩) ∧ Below w.heap.size w w' := by
  have k1 : ∀ W, _ := tab_is (c / 16) (c.toNat / 16) (by omega) (by omega)
  have k2 : ∀ W, _ := tab_is (c % 16) (c.toNat % 16) (by omega) (by omega)
  have k3 := three_conv w _ _ (up_lt (c.toNat / 16) (by omega)) (up_lt (c.toNat % 16) (by omega))
  have k4 := below_new w (.cells #[.int .u8 37, .int .u8 (upN (c.toNat / 16) : Int), .int .u8 (upN (c.toNat % 16) : Int)] 5)
  have K4 := hide k4
  clear k4
  unfold oneN
  generalize upN (c.toNat / 16) = x at *
  generalize upN (c.toNat % 16) = y at *
  go_enter Try.func67, Try.ntmps67
  go_wp2
  go_region
  go_wp2
  go_ret
  exact ⟨rfl, below_drewN K4.out 1⟩

end Go.Proofs.Ytpfcfadbilaleaa
/-
  WALKS: pct.Triplet, byteOf; the reference's Triplet.
-/
namespace Go.Proofs.Ytpfcfadbilaleaa
open Go.RowKit

set_option maxRecDepth 20000 in
set_option maxHeartbeats 1000000 in
theorem byteOf_any (s : ByteArray) (w : World) (h : 3 ≤ s.size) :
    Calls Try.prog 38 #[.string s] w fun e w' => e = .returned (.int .u8 ((16 * digN s[1].toNat + digN s[2].toNat : Nat) : Int)) ∧ w' = w := by
  have b1 := UInt8.toNat_lt s[1]
  have b2 := UInt8.toNat_lt s[2]
  have d1 := dig_le s[1].toNat
  have d2 := dig_le s[2].toNat
  obtain ⟨x, hx⟩ : ∃ x, digN s[1].toNat = x := ⟨_, rfl⟩
  obtain ⟨y, hy⟩ : ∃ y, digN s[2].toNat = y := ⟨_, rfl⟩
  rw [hx] at d1
  rw [hy] at d2
  have Hx := hide hx
  have Hy := hide hy
  rw [hx, hy]
  clear hx hy
  go_enter Try.func38, Try.ntmps38
  go_wp2_with (first | (go_at_call 59; refine (dig_is _ (x : Int) _ _ (by omega) (by omega) (by rw [Int.toNat_natCast]; exact congrArg Nat.cast Hx.out) rfl).mono ?_; rintro e w' ⟨rfl, hw⟩; rw [hw]) | (go_at_call 59; refine (dig_is _ (y : Int) _ _ (by omega) (by omega) (by rw [Int.toNat_natCast]; exact congrArg Nat.cast Hy.out) rfl).mono ?_; rintro e w' ⟨rfl, hw⟩; rw [hw]))
  go_ret
  exact ⟨ret_int (by omega), rfl⟩
end Go.Proofs.Ytpfcfadbilaleaa
/-
  WALKS: pct.walk, whatever closures it is handed.
-/
namespace Go.Proofs.Ytpfcfadbilaleaa
open Go.RowKit

/-- how long a text in a slot is -/
def lenOf : Value → Nat
  | .string s => s.size
  | _ => 0

theorem trip_is' (s : ByteArray) (b : Bool) (w : World) (h : tripB s.data.toList = b) : Calls Try.prog 57 #[.string s] w fun e w' => e = .returned (.bool b) ∧ w' = w := by
  subst h; exact trip_any s w
set_option maxRecDepth 20000 in
set_option maxHeartbeats 1000000 in
theorem walk_any (g1 g2 : Nat) (lb1 lb2 : Array Value) (eg1 : ∀ args w, (callFunc g1 args).run Try.prog w = .ok (.enter g1 args) w) (eg2 : ∀ args w, (callFunc g2 args).run Try.prog w = .ok (.enter g2 args) w) (s : ByteArray) (w : World)
    (Inv : List UInt8 → World → Prop) (h0 : Inv s.data.toList w)
    (ht : ∀ b c r W t, Inv (37 :: b :: c :: r) W → hexB b = true → hexB c = true → t.data.toList = [37, b, c] → Calls Try.prog g1 (#[.string t] ++ lb1) W fun e w' => e = .returned (.tuple #[]) ∧ Inv r w')
    (ho : ∀ a r W, Inv (a :: r) W → tripB (a :: r) = false → Calls Try.prog g2 (#[.int .u8 (a.toNat : Int)] ++ lb2) W fun e w' => e = .returned (.tuple #[]) ∧ Inv r w') :
    Calls Try.prog 35 #[.string s, .func (.func g1) #[] lb1, .func (.func g2) #[] lb2] w fun e w' => e = .returned (.tuple #[]) ∧ Inv [] w' := by
  have Ht := hide ht
  have Ho := hide ho
  clear ht ho
  go_enter Try.func35, Try.ntmps35
  go_wp2
  go_loopw [0] (fun v wr => ∃ x : ByteArray, v = .string x ∧ Inv x.data.toList wr) (fun v _ => lenOf v)
  case atStart => exact ⟨s, rfl, h0⟩
  case round =>
    obtain ⟨x, rfl, hI⟩ := hrel
    by_cases hp : 0 < x.size
    · cases hb : tripB x.data.toList with
      | true =>
        have h3 : 3 ≤ x.size := Classical.byContradiction fun h => by rw [trip_short x h] at hb; cases hb
        obtain ⟨b, c, r, hl, hhb, hhc⟩ := trip_is hb
        have HI : Hid (Inv (37 :: b :: c :: r) wr) := by rw [← hl]; exact hI
        have Hr : Hid ((x.extract 3 x.size).data.toList = r) := by show (x.extract 3 x.size).data.toList = r; rw [cut_list, hl]; rfl
        have Hh : Hid ((x.extract 0 3).data.toList = [37, b, c]) := by show (x.extract 0 3).data.toList = [37, b, c]; rw [head_list, hl]; rfl
        have Hb := hide hb
        have Hhb := hide hhb
        have Hhc := hide hhc
        clear hb hl hI hhb hhc
        go_wp2_with (first | (go_at_call 57; refine (trip_is' _ true _ Hb.out).mono ?_; rintro e w' ⟨rfl, hw⟩; rw [hw]) | (go_at_fn g1; refine (Ht.out b c r _ _ HI.out Hhb.out Hhc.out Hh.out).mono ?_))
        rintro e w1 ⟨rfl, hI1⟩
        go_wp2
        go_roundw
        case rel => exact ⟨_, rfl, by rw [Hr.out]; exact hI1⟩
        case measure => simp [lenOf]; omega
      | false =>
        have hl := list_one x hp
        have HI : Hid (Inv (x[0] :: x.data.toList.drop 1) wr) := by rw [← hl]; exact hI
        have Hc : Hid (tripB (x[0] :: x.data.toList.drop 1) = false) := by rw [← hl]; exact hb
        have Hr : Hid ((x.extract 1 x.size).data.toList = x.data.toList.drop 1) := cut_list x 1
        have Hb := hide hb
        clear hb hl hI
        go_wp2_with (first | (go_at_call 57; refine (trip_is' _ false _ Hb.out).mono ?_; rintro e w' ⟨rfl, hw⟩; rw [hw]) | (go_at_fn g2; refine (Ho.out x[0] (x.data.toList.drop 1) _ HI.out Hc.out).mono ?_))
        rintro e w1 ⟨rfl, hI1⟩
        go_wp2
        go_roundw
        case rel => exact ⟨_, rfl, by rw [Hr.out]; exact hI1⟩
        case measure => simp [lenOf]; omega
    · have hl := list_none x hp
      have HI : Hid (Inv [] wr) := by rw [← hl]; exact hI
      clear hl hI
      go_wp2
      exact bodyPost_end (v := .tuple #[]) (results_none Try.results35 _ _ _) rfl ⟨rfl, HI.out⟩
end Go.Proofs.Ytpfcfadbilaleaa
/-
  WALKS: the reference's First.
-/
namespace Go.Proofs.Ytpfcfadbilaleaau
open Go.RowKit
open Go.Lib (encodeRune)
theorem no_next {l : List UInt8} {n : Nat} (hno : ∀ j, 1 ≤ j → j ≤ n → hit l j = false) (h : hit l (n + 1) = false) : ∀ j, 1 ≤ j → j ≤ n + 1 → hit l j = false := by
  intro j h1 h2
  by_cases e : j = n + 1
  · rw [e]; exact h
  · exact hno j h1 (by omega)
theorem miss_may {l : List UInt8} {n : Nat} {x : Int} (hx : cand l n = x) (hm : mayB x = false) : hit l n = false := by simp [hit, hx, hm]
theorem hit_is {s : ByteArray} {n : Nat} {x : Int} {b : Bool} (hx : cand s.data.toList n = x) (hm : mayB x = true) (h : (encodeRune x == (s.extract 0 n).toList) = b) : hit s.data.toList n = b := by
  rw [Lib.extract_toList] at h
  rw [← h]
  simp [hit, hx, hm]
theorem byte_getD (s : ByteArray) (n : Nat) (h : n < s.size) : s.data.toList.getD n 0 = s[n]'h := by
  rw [List.getD_eq_getElem?_getD, List.getElem?_eq_getElem (by simpa using h)]
  rfl
theorem cand_one (s : ByteArray) (h : 0 < s.size) : cand s.data.toList 1 = lead (s[0]'h).toNat := by
  rw [cand, byte_getD s 0 h]
theorem cand_next (s : ByteArray) (n : Nat) (h : n < s.size) (h1 : 1 ≤ n) : cand s.data.toList (n + 1) = 64 * cand s.data.toList n + ((s[n]'h).toNat : Int) % 64 := by
  obtain ⟨m, rfl⟩ : ∃ m, n = m + 1 := ⟨n - 1, by omega⟩
  rw [cand, byte_getD s (m + 1) h]
theorem first_end {s : ByteArray} {n : Nat} (hno : ∀ j, 1 ≤ j → j ≤ n → hit s.data.toList j = false) (h : n = 4 ∨ n = s.size) : firstC s.data.toList = 0 ∧ firstN s.data.toList = 0 := by
  apply first_miss
  intro j h1 h2 h3
  apply hno j h1
  simp at h3
  omega
theorem ret_two {a b c d : Int} (h1 : a = c) (h2 : b = d) : Ending.returned (.tuple #[.int .i64 a, .int .i64 b]) = .returned (.tuple #[.int .i64 c, .int .i64 d]) := by rw [h1, h2]

set_option maxRecDepth 20000 in
set_option maxHeartbeats 4000000 in
theorem first_any (s : ByteArray) (w : World) (hs : s.size ≤ 9223372036854775807) :
    Calls Try.prog 79 #[.string s] w fun e w' => e = .returned (.tuple #[.int .i64 (firstC s.data.toList), .int .i64 (firstN s.data.toList)]) ∧ Below w.heap.size w w' := by
  go_enter Try.func79, Try.ntmps79
  go_wp2
  go_loopw [4, 5] (fun c i wr => ∃ n : Nat, n ≤ 4 ∧ n ≤ s.size ∧ i = .int .i64 (n + 1 : Nat) ∧ c = .int .i64 (cand s.data.toList n) ∧ Below w.heap.size w wr ∧ (∀ j, 1 ≤ j → j ≤ n → hit s.data.toList j = false)) (fun _ i _ => 5 - (intOf i).toNat)
  case atStart => exact ⟨0, by omega, by omega, rfl, rfl, Below.refl _ _, fun j h1 h2 => by omega⟩
  case round =>
    obtain ⟨n, hn4, hns, rfl, rfl, hB, hno⟩ := hrel
    have Hno := hide hno
    clear hno
    by_cases h4 : n < 4
    · by_cases hlt : n < s.size
      · have cb := cand_bd s.data.toList n hn4
        by_cases h1 : n = 0
        · have h1' : ((n : Int) + 1 == 1) = true := by subst h1; rfl
          have hx : cand s.data.toList (n + 1) = lead (s[n]'hlt).toNat := by subst h1; exact cand_one s hlt
          clear cb h1
          have hby0 : (0 : Int) ≤ ((s[n]'hlt).toNat : Int) := by omega
          have hby1 : ((s[n]'hlt).toNat : Int) ≤ 255 := by have := byte_lt (s[n]'hlt); omega
          unfold lead at hx
          by_cases q1 : 240 ≤ (s[n]'hlt).toNat
          · rw [if_pos q1] at hx
            have Hx := hide hx
            clear hx
            go_wp2
            have hx := Hx.out
            generalize hX : ((s[n]'hlt).toNat : Int) - 240 = x
            rw [hX] at hx
            have HX := hide hx
            clear hX hx
            cases hm : mayB x with
            | false =>
              have Hm := hide hm
              clear hm
              go_quiet ((go_at_call 90; exact Calls.quiet_of_same (rmay_is x _ false Hm.out)))
              all_goals go_wp2
              go_roundw
              case rel => exact ⟨(n + 1), by omega, by omega, by go_num, by rw [HX.out], below_drewN hB _, no_next Hno.out (miss_may HX.out Hm.out)⟩
              case measure => simp [intOf]; omega
            | true =>
              have Hm := hide hm
              clear hm
              go_region_with (first | (go_at_call 90; refine (rmay_is x _ true Hm.out).mono ?_; rintro e w' ⟨rfl, hw⟩; rw [hw]) | (go_at_call 91; refine (one_any x _ Hm.out).mono ?_; rintro e w1 ⟨rfl, b1⟩))
              all_goals have hB1 := hB.drew.trans (b1.mono hB.size)
              all_goals go_wp2
              all_goals first
                | (have ht : (encodeRune x == (s.extract 0 (n + 1)).toList) = true := by assumption
                   have hh := first_hit s.data.toList (n + 1) (by omega) (by simp; omega) (hit_is HX.out Hm.out ht)
                   go_ret2
                   exact ⟨ret_two (by rw [hh.1, HX.out]) (by rw [hh.2]; (try omega)), hB1⟩)
                | (have hf : (encodeRune x == (s.extract 0 (n + 1)).toList) = false := by assumption
                   go_roundw
                   case rel => exact ⟨(n + 1), by omega, by omega, by go_num, by rw [HX.out], hB1, no_next Hno.out (hit_is HX.out Hm.out hf)⟩
                   case measure => simp [intOf]; omega)
          · rw [if_neg q1] at hx
            by_cases q2 : 224 ≤ (s[n]'hlt).toNat
            · rw [if_pos q2] at hx
              have Hx := hide hx
              clear hx
              go_wp2
              have hx := Hx.out
              generalize hX : ((s[n]'hlt).toNat : Int) - 224 = x
              rw [hX] at hx
              have HX := hide hx
              clear hX hx
              cases hm : mayB x with
              | false =>
                have Hm := hide hm
                clear hm
                go_quiet ((go_at_call 90; exact Calls.quiet_of_same (rmay_is x _ false Hm.out)))
                all_goals go_wp2
                go_roundw
                case rel => exact ⟨(n + 1), by omega, by omega, by go_num, by rw [HX.out], below_drewN hB _, no_next Hno.out (miss_may HX.out Hm.out)⟩
                case measure => simp [intOf]; omega
              | true =>
                have Hm := hide hm
                clear hm
                go_region_with (first | (go_at_call 90; refine (rmay_is x _ true Hm.out).mono ?_; rintro e w' ⟨rfl, hw⟩; rw [hw]) | (go_at_call 91; refine (one_any x _ Hm.out).mono ?_; rintro e w1 ⟨rfl, b1⟩))
                all_goals have hB1 := hB.drew.trans (b1.mono hB.size)
                all_goals go_wp2
                all_goals first
                  | (have ht : (encodeRune x == (s.extract 0 (n + 1)).toList) = true := by assumption
                     have hh := first_hit s.data.toList (n + 1) (by omega) (by simp; omega) (hit_is HX.out Hm.out ht)
                     go_ret2
                     exact ⟨ret_two (by rw [hh.1, HX.out]) (by rw [hh.2]; (try omega)), hB1⟩)
                  | (have hf : (encodeRune x == (s.extract 0 (n + 1)).toList) = false := by assumption
                     go_roundw
                     case rel => exact ⟨(n + 1), by omega, by omega, by go_num, by rw [HX.out], hB1, no_next Hno.out (hit_is HX.out Hm.out hf)⟩
                     case measure => simp [intOf]; omega)
            · rw [if_neg q2] at hx
              by_cases q3 : 192 ≤ (s[n]'hlt).toNat
              · rw [if_pos q3] at hx
                have Hx := hide hx
                clear hx
                go_wp2
                have hx := Hx.out
                generalize hX : ((s[n]'hlt).toNat : Int) - 192 = x
                rw [hX] at hx
                have HX := hide hx
                clear hX hx
                cases hm : mayB x with
                | false =>
                  have Hm := hide hm
                  clear hm
                  go_quiet ((go_at_call 90; exact Calls.quiet_of_same (rmay_is x _ false Hm.out)))
                  all_goals go_wp2
                  go_roundw
                  case rel => exact ⟨(n + 1), by omega, by omega, by go_num, by rw [HX.out], below_drewN hB _, no_next Hno.out (miss_may HX.out Hm.out)⟩
                  case measure => simp [intOf]; omega
                | true =>
                  have Hm := hide hm
                  clear hm
                  go_region_with (first | (go_at_call 90; refine (rmay_is x _ true Hm.out).mono ?_; rintro e w' ⟨rfl, hw⟩; rw [hw]) | (go_at_call 91; refine (one_any x _ Hm.out).mono ?_; rintro e w1 ⟨rfl, b1⟩))
                  all_goals have hB1 := hB.drew.trans (b1.mono hB.size)
                  all_goals go_wp2
                  all_goals first
                    | (have ht : (encodeRune x == (s.extract 0 (n + 1)).toList) = true := by assumption
                       have hh := first_hit s.data.toList (n + 1) (by omega) (by simp; omega) (hit_is HX.out Hm.out ht)
                       go_ret2
                       exact ⟨ret_two (by rw [hh.1, HX.out]) (by rw [hh.2]; (try omega)), hB1⟩)
                    | (have hf : (encodeRune x == (s.extract 0 (n + 1)).toList) = false := by assumption
                       go_roundw
                       case rel => exact ⟨(n + 1), by omega, by omega, by go_num, by rw [HX.out], hB1, no_next Hno.out (hit_is HX.out Hm.out hf)⟩
                       case measure => simp [intOf]; omega)
              · rw [if_neg q3] at hx
                have Hx := hide hx
                clear hx
                go_wp2
                have hx := Hx.out
                generalize hX : ((s[n]'hlt).toNat : Int) = x
                rw [hX] at hx
                have HX := hide hx
                clear hX hx
                cases hm : mayB x with
                | false =>
                  have Hm := hide hm
                  clear hm
                  go_quiet ((go_at_call 90; exact Calls.quiet_of_same (rmay_is x _ false Hm.out)))
                  all_goals go_wp2
                  go_roundw
                  case rel => exact ⟨(n + 1), by omega, by omega, by go_num, by rw [HX.out], below_drewN hB _, no_next Hno.out (miss_may HX.out Hm.out)⟩
                  case measure => simp [intOf]; omega
                | true =>
                  have Hm := hide hm
                  clear hm
                  go_region_with (first | (go_at_call 90; refine (rmay_is x _ true Hm.out).mono ?_; rintro e w' ⟨rfl, hw⟩; rw [hw]) | (go_at_call 91; refine (one_any x _ Hm.out).mono ?_; rintro e w1 ⟨rfl, b1⟩))
                  all_goals have hB1 := hB.drew.trans (b1.mono hB.size)
                  all_goals go_wp2
                  all_goals first
                    | (have ht : (encodeRune x == (s.extract 0 (n + 1)).toList) = true := by assumption
                       have hh := first_hit s.data.toList (n + 1) (by omega) (by simp; omega) (hit_is HX.out Hm.out ht)
                       go_ret2
                       exact ⟨ret_two (by rw [hh.1, HX.out]) (by rw [hh.2]; (try omega)), hB1⟩)
                    | (have hf : (encodeRune x == (s.extract 0 (n + 1)).toList) = false := by assumption
                       go_roundw
                       case rel => exact ⟨(n + 1), by omega, by omega, by go_num, by rw [HX.out], hB1, no_next Hno.out (hit_is HX.out Hm.out hf)⟩
                       case measure => simp [intOf]; omega)
        · have h1' : 1 ≤ n := by omega
          have hx := cand_next s n hlt h1'
          generalize hcc : cand s.data.toList n = c at cb hx
          have Hcc := hide hcc
          clear h1 hcc
          have hby0 : (0 : Int) ≤ ((s[n]'hlt).toNat : Int) := by omega
          have hby1 : ((s[n]'hlt).toNat : Int) ≤ 255 := by have := byte_lt (s[n]'hlt); omega
          have Hx := hide hx
          clear hx
          go_wp2
          have hx := Hx.out
          generalize hX : 64 * c + ((s[n]'hlt).toNat : Int) % 64 = x
          rw [hX] at hx
          have HX := hide hx
          clear hX hx
          cases hm : mayB x with
          | false =>
            have Hm := hide hm
            clear hm
            go_quiet ((go_at_call 90; exact Calls.quiet_of_same (rmay_is x _ false Hm.out)))
            all_goals go_wp2
            go_roundw
            case rel => exact ⟨(n + 1), by omega, by omega, by go_num, by rw [HX.out], below_drewN hB _, no_next Hno.out (miss_may HX.out Hm.out)⟩
            case measure => simp [intOf]; omega
          | true =>
            have Hm := hide hm
            clear hm
            go_region_with (first | (go_at_call 90; refine (rmay_is x _ true Hm.out).mono ?_; rintro e w' ⟨rfl, hw⟩; rw [hw]) | (go_at_call 91; refine (one_any x _ Hm.out).mono ?_; rintro e w1 ⟨rfl, b1⟩))
            all_goals have hB1 := hB.drew.trans (b1.mono hB.size)
            all_goals go_wp2
            all_goals first
              | (have ht : (encodeRune x == (s.extract 0 (n + 1)).toList) = true := by assumption
                 have hh := first_hit s.data.toList (n + 1) (by omega) (by simp; omega) (hit_is HX.out Hm.out ht)
                 go_ret2
                 exact ⟨ret_two (by rw [hh.1, HX.out]) (by rw [hh.2]; (try omega)), hB1⟩)
              | (have hf : (encodeRune x == (s.extract 0 (n + 1)).toList) = false := by assumption
                 go_roundw
                 case rel => exact ⟨(n + 1), by omega, by omega, by go_num, by rw [HX.out], hB1, no_next Hno.out (hit_is HX.out Hm.out hf)⟩
                 case measure => simp [intOf]; omega)
      · obtain ⟨e1, e2⟩ := first_end Hno.out (.inr (by omega))
        have E1 := hide e1
        have E2 := hide e2
        clear e1 e2
        go_wp2
        go_ret2
        exact ⟨ret_two (by rw [E1.out]) (by rw [E2.out]; rfl), hB⟩
    · obtain ⟨e1, e2⟩ := first_end Hno.out (.inl (by omega))
      have E1 := hide e1
      have E2 := hide e2
      clear e1 e2
      go_wp2
      go_ret2
      exact ⟨ret_two (by rw [E1.out]) (by rw [E2.out]; rfl), hB⟩
end Go.Proofs.Ytpfcfadbilaleaau
