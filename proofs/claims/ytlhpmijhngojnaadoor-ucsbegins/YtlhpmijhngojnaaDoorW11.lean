/-
  WALKS: what the laws of layer 4 need beside the program's own functions: One of a number that is no character; bytes made a text; the document's answers in their short forms.
-/
import Derived.Test.YtlhpmijhngojnaaDoorW10
namespace Go.Proofs.YtlhpmijhngojnaaDoor
open Go.RowKit Go.Lib

/-- bytes of a new block as a text -/
theorem conv_bytes (w : World) (l : List UInt8) (C : Array Value) (n : Nat) (hC : C = (byteCells l).toArray) (hn : n = l.length) :
    (convert 29 9 (.slice (some ⟨w.heap.size, 0, none⟩) n n)).run Tryd.prog (w.alloc (.cells C 5)) = .ok (.string ⟨l.toArray⟩) (w.alloc (.cells C 5)) := by
  subst hn hC
  refine run_convert_bytes_back _ 29 9 5 ⟨w.heap.size, 0, none⟩ _ l Tryd.underlying29 Tryd.underlying5 Tryd.underlying9 ?_
  intro j hj
  rw [show (⟨w.heap.size, 0, none⟩ : Addr).add j = ⟨w.heap.size, j, none⟩ by simp [Addr.add]; omega, World.cell?_alloc_mark]
  simp [byteCells, hj]
/-- one byte made a text -/
theorem conv_one (w : World) (x : Int) (h0 : 0 ≤ x) (h1 : x ≤ 255) :
    (convert 29 9 (.slice (some ⟨w.heap.size, 0, none⟩) 1 1)).run Tryd.prog (w.alloc (.cells #[.int .u8 x] 5)) = .ok (.string ⟨#[x.toNat.toUInt8]⟩) (w.alloc (.cells #[.int .u8 x] 5)) := by
  refine conv_bytes w [x.toNat.toUInt8] _ 1 ?_ rfl
  have : x.toNat.toUInt8.toNat = x.toNat := u8 _ (by omega)
  simp only [byteCells, List.map_cons, List.map_nil, this]
  rw [show ((x.toNat : Nat) : Int) = x by omega]

/-- One of a surrogate's number -/
def surL (c : Int) : List UInt8 := [(224 + c / 4096).toNat.toUInt8, (128 + c / 64 % 64).toNat.toUInt8, (128 + c % 64).toNat.toUInt8]
set_option maxHeartbeats 1000000 in
theorem one_sur (c : Int) (w : World) (h0 : 2048 ≤ c) (h1 : c < 65536) :
    Calls Tryd.prog 16 #[.int .i64 c] w fun e w' => e = .returned (.string ⟨(surL c).toArray⟩) ∧ Below w.heap.size w w' := by
  have hcv := conv_bytes w (surL c) #[.int .u8 (224 + c / 4096), .int .u8 (128 + c / 64 % 64), .int .u8 (128 + c % 64)] 3 (by
    have a0 : (224 + c / 4096).toNat.toUInt8.toNat = (224 + c / 4096).toNat := u8 _ (by omega)
    have a1 : (128 + c / 64 % 64).toNat.toUInt8.toNat = (128 + c / 64 % 64).toNat := u8 _ (by omega)
    have a2 : (128 + c % 64).toNat.toUInt8.toNat = (128 + c % 64).toNat := u8 _ (by omega)
    simp only [surL, byteCells, List.map_cons, List.map_nil, a0, a1, a2]
    rw [show (((224 + c / 4096).toNat : Nat) : Int) = 224 + c / 4096 by omega, show (((128 + c / 64 % 64).toNat : Nat) : Int) = 128 + c / 64 % 64 by omega, show (((128 + c % 64).toNat : Nat) : Int) = 128 + c % 64 by omega]) rfl
  have e0 : tailV c 0 = 128 + c % 64 := rfl
  have e1 : tailV c 1 = 128 + c / 64 % 64 := rfl
  generalize surL c = m at *
  go_enter Tryd.func16, Tryd.ntmps16
  go_wp2_with (go_at_call 24; refine (tail_any _ _ _ (by omega) (by omega) (by omega)).mono ?_; rintro e w' ⟨rfl, hw⟩; rw [hw])
  go_ret
  exact ⟨rfl, (Below.refl _ _).alloc (Nat.le_refl _) _⟩

theorem one_is (c : Int) (m : ByteArray) (w : World) (h : mayB c = true) (hm : m = ⟨(encodeRune c).toArray⟩) :
    Calls Tryd.prog 16 #[.int .i64 c] w fun e w' => e = .returned (.string m) ∧ Below w.heap.size w w' := by
  subst hm; exact one_any c w h
theorem sur_is (c : Int) (m : ByteArray) (w : World) (h0 : 2048 ≤ c) (h1 : c < 65536) (hm : m = ⟨(surL c).toArray⟩) :
    Calls Tryd.prog 16 #[.int .i64 c] w fun e w' => e = .returned (.string m) ∧ Below w.heap.size w w' := by
  subst hm; exact one_sur c w h0 h1
theorem rtake_is (s : ByteArray) (c n : Int) (w : World) (hs : s.size ≤ 100000) (hc : takeC s.data.toList = c) (hn : (takeN s.data.toList : Int) = n) :
    Calls Tryd.prog 11 #[.string s] w fun e w' => e = .returned (.tuple #[.int .i64 c, .int .i64 n]) ∧ Below w.heap.size w w' := by
  subst hc hn; exact rtake_any s w (by omega)

/-! ### What is taken -/
theorem take_enc (c : Int) (h : mayU c = true) (t : List UInt8) : takeC (encodeRune c ++ t) = c ∧ takeN (encodeRune c ++ t) = (encodeRune c).length := by
  have hb := (mayU_may h).1
  have hd := dec_enc c hb t
  have hg := not_bad_enc c hb t
  have hne : encodeRune c ++ t ≠ [] := by simp [enc_ne c]
  have h0 := (mayB_iff c).1 hb
  have f1 : firstC (encodeRune c ++ t) = c := by unfold firstC; rw [if_neg (by simp [hne, hg]), hd]; simp; omega
  have f2 : firstN (encodeRune c ++ t) = (encodeRune c).length := by unfold firstN; rw [if_neg (by simp [hne, hg]), hd]
  have h3 := (enc_len c).1
  unfold takeC takeN
  have hn : ¬ ((encodeRune c).length = 0 ∨ mayU c = false) := by
    intro hh
    rcases hh with hh | hh
    · omega
    · rw [h] at hh; cases hh
  rw [f1, f2, if_neg hn, if_neg hn]
  exact ⟨rfl, rfl⟩
theorem take_none {l : List UInt8} (h : ∀ c t, mayB c = true → l ≠ encodeRune c ++ t) : takeC l = 0 ∧ takeN l = 0 := by
  have hb : l = [] ∨ badL l = true := by
    apply Classical.byContradiction
    intro hn
    have hne : l ≠ [] := fun e => hn (.inl e)
    have hg : badL l = false := by cases hh : badL l with | false => rfl | true => exact absurd (.inr hh) hn
    exact h _ _ (dec_may l) (dec_good l hne hg).1
  unfold takeC takeN firstN
  rw [if_pos hb]
  simp
end Go.Proofs.YtlhpmijhngojnaaDoor
