/-
  TEXTS JOINED: uA2.
-/
import Derived.Test.YtpfcfadbilaleaaQ02
import Derived.Test.YtpfcfadbilaleaaQ08
/-
  WALKS: the four closures that utf.each is handed; utf.Bad, Valid, Count, Prefix, Chars.
-/
namespace Go.Proofs.Ytpfcfadbilaleaau
open Go.RowKit Ytpfcfadbilaleaa

theorem enters28 : ∀ args w, (callFunc 88 args).run Try.prog w = .ok (.enter 88 args) w := enters_of Try.func88 (by kernel_rfl) rfl

/-! ### utf.Bad, utf.Valid -/
/-! ### utf.Count -/
/-! ### utf.Prefix -/
set_option maxHeartbeats 400000 in
theorem prefix1 (c : Int) (b a : Nat) (n : Nat) (m : Int) (w : World) (hb : w.heap[b]? = some (.cells #[.int .i64 n] 3 (0, 0))) (ha : w.heap[a]? = some (.cells #[.int .i64 m] 3 (0, 0))) (hab : a ≠ b) (hn : n < 9223372036854775807) :
    Calls Try.prog 88 #[.int .i32 c, .pointer (some ⟨b, 0, none⟩), .pointer (some ⟨a, 0, none⟩)] w fun e w' => e = .returned (.bool (decide ((n + 1 : Nat) ≤ m))) ∧ w' = w.setCell ⟨b, 0, none⟩ (.int .i64 (n + 1 : Nat)) := by
  have h1 := cell_of_one hb
  have h2 := free_of_one hb
  have h3 := cell_of_one ha
  have h4 : (w.setCell ⟨b, 0, none⟩ (.int .i64 (n + 1))).cell? ⟨a, 0, none⟩ = some (.int .i64 m) := (World.cell?_of_block (w := w) (a := ⟨a, 0, none⟩) (Below.heap_setCell w ⟨b, 0, none⟩ _ a hab)).trans h3
  go_enter Try.func88, Try.ntmps88
  go_wp2
  all_goals go_ret
  all_goals exact ⟨rfl, rfl⟩

theorem each_prefix (s : ByteArray) (m : Int) (w : World) (hs : s.size ≤ 9223372036854775807) :
    Calls Try.prog 86 #[.string s, .func (.func 88) #[] #[.pointer (some ⟨w.heap.size + 1, 0, none⟩), .pointer (some ⟨w.heap.size, 0, none⟩)]] ((w.alloc (.cells #[.int .i64 m] 3)).alloc (.cells #[.int .i64 0] 3)) fun e w' => e = .returned (.int .i64 (textL ((chars s.data.toList).take m.toNat)).length) ∧ Below w.heap.size w w' := by
  have hz : ((w.alloc (.cells #[.int .i64 m] 3)).alloc (.cells #[.int .i64 0] 3)).heap.size = w.heap.size + 2 := by simp
  have hz1 : (w.alloc (.cells #[.int .i64 m] 3)).heap.size = w.heap.size + 1 := by simp
  refine (each_any 88 _ enters28 s _ (PrefixInv w m) (fun cs _ W => ¬ ((cs.length + 1 : Nat) : Int) ≤ m ∧ (cs = [] ∨ (cs.length : Int) ≤ m) ∧ Below w.heap.size w W) ?_ ?_ ?_).mono ?_
  · refine ⟨(((Below.refl _ _).alloc (Nat.le_refl _) _).alloc (by simp) _).alloc (by omega) _, ?_, ?_, .inl rfl⟩
    · show (((w.alloc (.cells #[.int .i64 m] 3)).alloc (.cells #[.int .i64 0] 3)).alloc (.stringIter s 0)).heap[w.heap.size]? = _
      rw [Below.heap_alloc _ _ _ (by omega), Below.heap_alloc _ _ _ (by omega)]
      exact new_box w _ _
    · show (((w.alloc (.cells #[.int .i64 m] 3)).alloc (.cells #[.int .i64 0] 3)).alloc (.stringIter s 0)).heap[w.heap.size + 1]? = _
      rw [Below.heap_alloc _ _ _ (by omega), ← hz1]
      exact new_box _ _ _
  · intro cs W pos pos' h hit
    rw [hz] at hit ⊢
    exact ⟨Lib.below_iterAt h.1 (by omega) s pos', box_iterAt h.2.1 (by omega), box_iterAt h.2.2.1 (by omega), h.2.2.2⟩
  · intro cs c W pos h hit _ hlt
    rw [hz] at hit ⊢
    refine (prefix1 c (w.heap.size + 1) w.heap.size cs.length m W h.2.2.1 h.2.1 (by omega) (by omega)).mono ?_
    rintro e w' ⟨rfl, rfl⟩
    refine ⟨_, rfl, ?_, fun hd => ⟨h.1.setCell (by simp) _, ?_, ?_, .inr ?_⟩, fun hd => ⟨by simpa using hd, h.2.2.2, h.1.setCell (by simp) _⟩⟩
    · rw [Below.heap_setCell _ _ _ _ (by simp)]; exact hit
    · rw [Below.heap_setCell _ _ _ _ (by simp)]; exact h.2.1
    · rw [one_setCell h.2.2.1]; simp
    · simpa using hd
  · rintro e w' (⟨rfl, h⟩ | ⟨cs, c, r, hc, rfl, h1, h2, h3⟩)
    · refine ⟨?_, h.1⟩
      rw [take_all h.2.2.2]
      obtain ⟨t, _, _, _, hl⟩ := chars_split s.data.toList
      rw [hl]
    · exact ⟨by rw [take_pre hc h2 h1], h3⟩

theorem clone_any (s : ByteArray) (w : World) (hlim : s.size ≤ 281474976710656) :
    Calls Try.prog 60 #[.string s] w fun e w' => e = .returned (.string s) ∧ Below w.heap.size w w' := by
  go_enter Try.func60, Try.ntmps60
  go_wp2_with (go_at_call 81; refine (stringslite_Clone _ _ hlim).mono ?_)
  rintro e w' ⟨rfl, h⟩
  go_wp2
  go_ret
  exact ⟨rfl, h⟩

set_option maxHeartbeats 400000 in
theorem prefix_any (s : ByteArray) (m : Int) (w : World) (hs : s.size ≤ 281474976710656) :
    Calls Try.prog 74 #[.string s, .int .i64 m] w fun e w' => e = .returned (.string ⟨(prefL s.data.toList m).toArray⟩) ∧ Below w.heap.size w w' := by
  have hle := prefL_le s.data.toList m
  have hle2 : (textL ((chars s.data.toList).take m.toNat)).length ≤ s.size := by
    have : s.data.toList.length = s.size := by simp
    unfold prefL at hle
    omega
  have He := hide (extract_pref s m)
  have hsz : (s.extract 0 (textL ((chars s.data.toList).take m.toNat)).length).size ≤ 281474976710656 := by simp; omega
  clear hle
  go_enter Try.func74, Try.ntmps74
  go_wp2_with (go_at_call 86; refine (each_prefix _ _ _ (by omega)).mono ?_)
  rintro e w1 ⟨rfl, h⟩
  go_wp2_with (go_at_call 60; refine (clone_any _ _ hsz).mono ?_)
  rintro e w2 ⟨rfl, h2⟩
  go_wp2
  go_ret
  exact ⟨by rw [← He.out]; rfl, h.trans (h2.mono h.size)⟩

/-! ### utf.Chars -/
end Go.Proofs.Ytpfcfadbilaleaau
