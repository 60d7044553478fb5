/-
  WALKS: the law ValueOf (layer 8).
-/
import Derived.Test.YtikhggdigndhoaaL1
namespace Go.Proofs.Ytikhggdigndhoaa
open Go.RowKit

theorem of_lens {k : Int} {l : List (List UInt8)} {c : Vl} (h : ofV k l = some c) : c.l.length ≤ l.length ∧ c.p.length ≤ l.length := by
  unfold ofV at h
  split at h
  · cases h; simp
  · split at h
    · cases h; simp
    · split at h
      · cases h
      · cases h
        have := pairs_len l
        simp only [List.length_nil]
        omega
theorem rof_yes (k : Int) (ua : Option Addr) (uc : Nat) (l : List (List UInt8)) (c : Vl) (w : World) (H : StrsAt w (.slice ua l.length uc) l) (hl : l.length ≤ 2000) (ho : ofV k l = some c) :
    Calls Try.prog 25 #[.int .i64 k, .slice ua l.length uc] w fun e w' => ∃ la lc pa pc, e = .returned (.tuple #[.agg #[.int .i64 c.kind, .string ⟨c.s.toArray⟩, .slice la c.l.length lc, .slice pa c.p.length pc], .bool true]) ∧ StrsAt w' (.slice la c.l.length lc) c.l ∧ PairsAt w' (.slice pa c.p.length pc) c.p ∧ Below w.heap.size w w' := by
  refine (rof_any k (.slice ua l.length uc) l w H hl).mono ?_
  rintro e w' ⟨hB, he⟩
  rw [ho] at he
  obtain ⟨x, rfl, ⟨sl, sp, rfl, h1, h2⟩, _⟩ := he
  obtain ⟨la, lc, rfl⟩ := h1.form
  obtain ⟨pa, pc, rfl⟩ := h2.form
  exact ⟨la, lc, pa, pc, rfl, h1, h2, hB⟩
theorem rof_no (k : Int) (ua : Option Addr) (uc : Nat) (l : List (List UInt8)) (w : World) (H : StrsAt w (.slice ua l.length uc) l) (hl : l.length ≤ 2000) (ho : ofV k l = none) :
    Calls Try.prog 25 #[.int .i64 k, .slice ua l.length uc] w fun e w' => e = .returned (.tuple #[.agg #[.int .i64 0, .string ⟨#[]⟩, .slice none 0 0, .slice none 0 0], .bool false]) ∧ Below w.heap.size w w' := by
  refine (rof_any k (.slice ua l.length uc) l w H hl).mono ?_
  rintro e w' ⟨hB, he⟩
  rw [ho] at he
  exact ⟨he, hB⟩
theorem very_is (x y : Value) (v : Vl) (w : World) (HA : VlAt w x v) (HB : VlAt w y v) (hl : v.l.length ≤ 1000000) (hp : v.p.length ≤ 1000000) : Calls Try.prog 15 #[x, y] w fun e w' => e = .returned (.bool true) ∧ Below w.heap.size w w' := very_any x y v w HA HB hl hp
theorem texts_same (ts : List (List UInt8)) (u v : Value) (w : World) (hmax : ts.length ≤ 1000000000000) (h1 : StrsAt w u ts) (h2 : StrsAt w v ts) : Calls Try.prog 13 #[u, v] w fun e w' => e = .returned (.bool true) ∧ Below w.heap.size w w' := by
  have := texts_any ts ts u v w hmax h1 h2
  simpa using this
set_option maxRecDepth 20000 in
set_option maxHeartbeats 8000000 in
theorem of_walk (k : Int) (ua : Option Addr) (uc : Nat) (l : List (List UInt8)) (w : World) (H : StrsAt w (.slice ua l.length uc) l) (hm : l.length ≤ 9223372036854775807) (hms : ∀ y ∈ l, y.length ≤ 9223372036854775807) :
    Calls Try.prog 4 #[.int .i64 k, .slice ua l.length uc] w fun e w' => e = .returned (.bool true) ∧ Below w.heap.size w w' := by
  have H1 := hide H
  have Hms := hide hms
  clear H hms
  by_cases h60 : 60 < l.length
  · have h60i : (60 : Int) < l.length := by omega
    go_enter Try.func4, Try.ntmps4
    go_wp2_with (go_at_call 9; refine (awake_any _).mono ?_; rintro e w1 ⟨rfl, bb⟩)
    go_ret
    exact ⟨rfl, bb⟩
  · have h60i : (l.length : Int) ≤ 60 := by omega
    go_enter Try.func4, Try.ntmps4
    go_wp2_with (go_at_call 9; refine (awake_any _).mono ?_; rintro e w1 ⟨rfl, bb⟩; have B1 := bb; clear bb)
    go_loopw [6] (fun i wr => ∃ q : Nat, q ≤ l.length ∧ i = .int .i64 q ∧ (l.take q).all (fun x => decide (x.length ≤ 200)) = true ∧ wr = w1) (fun i _ => l.length - (intOf i).toNat)
    case atStart => exact ⟨0, Nat.zero_le _, rfl, by simp, rfl⟩
    case round =>
      obtain ⟨q, hq, rfl, hall, hw⟩ := hrel
      subst hw
      by_cases hlt : q < l.length
      · obtain ⟨b, off, cap, e, hb, g1⟩ := (H1.out.later B1).at q hlt
        cases e
        have hsn := all_snoc (fun x : List UInt8 => decide (x.length ≤ 200)) l q hlt
        rw [hall, Bool.true_and] at hsn
        have hy := Hms.out _ (List.getElem_mem hlt)
        obtain ⟨y, ey⟩ : ∃ y, l[q] = y := ⟨_, rfl⟩
        rw [ey] at g1 hsn hy
        obtain ⟨N, hN⟩ : ∃ N : ByteArray, (⟨y.toArray⟩ : ByteArray) = N := ⟨_, rfl⟩
        have hNs : N.size = y.length := by rw [← hN]; simp [ByteArray.size]
        rw [hN] at g1
        rw [← hNs] at hsn hy
        have Hsn := hide hsn
        clear hsn ey hN hNs hall
        by_cases h2 : 200 < N.size
        · go_wp2
          all_goals go_ret
          all_goals exact ⟨rfl, B1⟩
        · have hg : (l.take (q + 1)).all (fun x => decide (x.length ≤ 200)) = true := by rw [Hsn.out]; simp; omega
          have Hg := hide hg
          clear hg
          go_wp2
          go_roundw
          case rel => exact ⟨q + 1, by omega, by go_num, Hg.out, by first | rfl | trivial⟩
          case measure => simp [intOf]; omega
      · rw [List.take_of_length_le (by omega), List.all_eq_true] at hall
        have Hts : Hid (∀ y ∈ l, y.length ≤ 140737488355328) := hide (fun y hy => by have := hall y hy; simp at this; omega)
        clear hall
        have hl2 : l.length ≤ 2000 := by omega
        have hl3 : l.length ≤ 100000 := by omega
        cases ho : ofV k l with
        | none =>
          have Ho := hide ho
          have T0 := H1.out.later B1
          have Z0 := fun W : World => zero_at W 0
          clear ho
          go_wp2_with (fail)
          go_at_call 24
          refine (of_no_is k ua uc l _ T0 hl3 Hts.out Ho.out).mono ?_
          rintro e w2 ⟨rfl, b2⟩
          have B2 := (B1.trans (b2.mono B1.size)).alloc (by have := (B1.trans (b2.mono B1.size)).size; exact this) (.cells #[.int .i64 0, .string ⟨#[]⟩, .slice none 0 0, .slice none 0 0] 25)
          have X2 := Bx.made w2 #[.int .i64 0, .string ⟨#[]⟩, .slice none 0 0, .slice none 0 0] 25
          have T2 := H1.out.later B2
          clear b2 T0
          go_wp2_with (fail)
          generalize w2.alloc (.cells #[.int .i64 0, .string ⟨#[]⟩, .slice none 0 0, .slice none 0 0] 25) = W2 at B2 X2 T2 ⊢
          go_at_call 25
          refine (rof_no k ua uc l _ T2 hl2 Ho.out).mono ?_
          rintro e w3 ⟨rfl, b3⟩
          have X3 := (X2.next b3).later (.cells #[.int .i64 0, .string ⟨#[]⟩, .slice none 0 0, .slice none 0 0] 25)
          have Y3 := Bx.made w3 #[.int .i64 0, .string ⟨#[]⟩, .slice none 0 0, .slice none 0 0] 25
          have B3 := (B2.trans (b3.mono B2.size)).alloc (by have := (B2.trans (b3.mono B2.size)).size; exact this) (.cells #[.int .i64 0, .string ⟨#[]⟩, .slice none 0 0, .slice none 0 0] 25)
          clear b3 X2 T2
          obtain ⟨c0, c1, c2, c3⟩ := cells4 X3
          obtain ⟨d0, d1, d2, d3⟩ := cells4 Y3
          go_wp2_with (go_at_call 15; refine (very_is _ _ ⟨0, [], [], []⟩ _ (zero_at _ _) (zero_at _ _) (by simp) (by simp)).mono ?_; rintro e w4 ⟨rfl, b4⟩)
          go_ret
          exact ⟨rfl, B3.trans (b4.mono B3.size)⟩
        | some c =>
          have Ho := hide ho
          obtain ⟨ht, hk, _⟩ := of_texts ho
          obtain ⟨n1, n2⟩ := of_lens ho
          have Ht := hide ht
          have T0 := H1.out.later B1
          have e1 : c.l.length ≤ 1000000 := by omega
          have e2 : c.p.length ≤ 1000000 := by omega
          have e3 : c.l.length ≤ 100000 := by omega
          have e4 : c.p.length ≤ 100000 := by omega
          have Htc : Hid (∀ y ∈ textsV c, y.length ≤ 140737488355328) := by rw [ht]; exact Hts
          obtain ⟨S, hS⟩ : ∃ S : ByteArray, (⟨c.s.toArray⟩ : ByteArray) = S := ⟨_, rfl⟩
          have HS := hide hS
          clear ho ht hS
          go_wp2_with (fail)
          go_at_call 24
          refine (of_yes_is k ua uc l c _ T0 hl3 Hts.out Ho.out).mono ?_
          rintro e w2 ⟨la, lc, pa, pc, rfl, R1, R2, b2⟩
          have V2 := (VlAt.mk R1 R2).later (b_alloc w2 (.cells #[.int .i64 c.kind, .string ⟨c.s.toArray⟩, .slice la c.l.length lc, .slice pa c.p.length pc] 25))
          have B2 := (B1.trans (b2.mono B1.size)).alloc (by have := (B1.trans (b2.mono B1.size)).size; exact this) (.cells #[.int .i64 c.kind, .string ⟨c.s.toArray⟩, .slice la c.l.length lc, .slice pa c.p.length pc] 25)
          have X2 := Bx.made w2 #[.int .i64 c.kind, .string ⟨c.s.toArray⟩, .slice la c.l.length lc, .slice pa c.p.length pc] 25
          have T2 := H1.out.later B2
          rw [hk, HS.out] at B2 X2 T2 V2 ⊢
          obtain ⟨W2, hW2⟩ : ∃ W2, w2.alloc (.cells #[.int .i64 k, .string S, .slice la c.l.length lc, .slice pa c.p.length pc] 25) = W2 := ⟨_, rfl⟩
          rw [hW2] at B2 X2 T2 V2
          clear b2 T0 R1 R2
          go_wp2_with (fail)
          go_at_call 25
          refine (rof_yes k ua uc l c _ T2 hl2 Ho.out).mono ?_
          rintro e w3 ⟨ma, mc, na, nc, rfl, R3, R4, b3⟩
          have V3 := (VlAt.mk R3 R4).later (b_alloc w3 (.cells #[.int .i64 c.kind, .string ⟨c.s.toArray⟩, .slice ma c.l.length mc, .slice na c.p.length nc] 25))
          have X3 := (X2.next b3).later (.cells #[.int .i64 c.kind, .string ⟨c.s.toArray⟩, .slice ma c.l.length mc, .slice na c.p.length nc] 25)
          have Y3 := Bx.made w3 #[.int .i64 c.kind, .string ⟨c.s.toArray⟩, .slice ma c.l.length mc, .slice na c.p.length nc] 25
          have B3 := (B2.trans (b3.mono B2.size)).alloc (by have := (B2.trans (b3.mono B2.size)).size; exact this) (.cells #[.int .i64 c.kind, .string ⟨c.s.toArray⟩, .slice ma c.l.length mc, .slice na c.p.length nc] 25)
          have V4 := (V2.later b3).later (b_alloc w3 (.cells #[.int .i64 c.kind, .string ⟨c.s.toArray⟩, .slice ma c.l.length mc, .slice na c.p.length nc] 25))
          rw [hk, HS.out] at B3 X3 Y3 V3 V4 ⊢
          obtain ⟨W3, hW3⟩ : ∃ W3, w3.alloc (.cells #[.int .i64 k, .string S, .slice ma c.l.length mc, .slice na c.p.length nc] 25) = W3 := ⟨_, rfl⟩
          rw [hW3] at B3 X3 Y3 V3 V4
          clear hW2 b3 X2 T2 V2 R3 R4
          obtain ⟨c0, c1, c2, c3⟩ := cells4 X3
          obtain ⟨d0, d1, d2, d3⟩ := cells4 Y3
          go_wp2_with (first | (go_at_call 15; refine (very_is _ _ c _ V4 V3 e1 e2).mono ?_; rintro e w4 ⟨rfl, b4⟩; replace X3 := X3.next b4; replace V4 := V4.later b4; replace B3 := B3.trans (b4.mono B3.size); clear b4; obtain ⟨c0, c1, c2, c3⟩ := cells4 X3) | (go_at_call 14; refine (texts_any' _ c l _ V4 e3 e4 Htc.out Ht.out).mono ?_; rintro e w5 ⟨ta, tc, rfl, T5, _, b5⟩; replace X3 := X3.next b5; replace B3 := B3.trans (b5.mono B3.size); clear b5) | (go_at_call 13; refine (texts_same l _ _ _ (by omega) T5 (H1.out.later B3)).mono ?_; rintro e w6 ⟨rfl, b6⟩; replace X3 := X3.next b6; replace B3 := B3.trans (b6.mono B3.size); clear b6; obtain ⟨c0, c1, c2, c3⟩ := cells4 X3))
          go_ret
          exact ⟨ret_bool (by first | rfl | simp), B3⟩
end Go.Proofs.Ytikhggdigndhoaa
