/-
  Joined by program out of the texts uR4 uW10 uW11 uA1 uA2 uW12.
-/
import Derived.Test.YtjbnofljoijnmaaDoorY04
import Derived.Deep.QuietTactic
import Derived.BigQuiet
import Derived.Test.YtjbnofljoijnmaaDoorY05
import Derived.Test.YtjbnofljoijnmaaDoorShelf
/-
  WALKS: the reference's Fits (layer 4), where the first byte begins 4.
-/
namespace Go.Proofs.YtjbnofljoijnmaaDooru
open Go.RowKit

theorem tables_at (w : World) : ((w.alloc (.cells #[.int .i64 0, .int .i64 0, .int .i64 128, .int .i64 2048, .int .i64 65536] 3)).alloc (.cells #[.int .i64 0, .int .i64 0, .int .i64 2047, .int .i64 65535, .int .i64 1114111] 3)).cell? ⟨w.heap.size, 4, none⟩ = some (.int .i64 65536) ∧ ((w.alloc (.cells #[.int .i64 0, .int .i64 0, .int .i64 128, .int .i64 2048, .int .i64 65536] 3)).alloc (.cells #[.int .i64 0, .int .i64 0, .int .i64 2047, .int .i64 65535, .int .i64 1114111] 3)).cell? ⟨w.heap.size + 1, 4, none⟩ = some (.int .i64 1114111) := by
  constructor
  · have h1 := Below.heap_alloc (w.alloc (.cells #[.int .i64 0, .int .i64 0, .int .i64 128, .int .i64 2048, .int .i64 65536] 3)) (.cells #[.int .i64 0, .int .i64 0, .int .i64 2047, .int .i64 65535, .int .i64 1114111] 3) w.heap.size (by simp)
    have h2 := heap_alloc_new w (.cells #[.int .i64 0, .int .i64 0, .int .i64 128, .int .i64 2048, .int .i64 65536] 3)
    rw [h2] at h1
    simp only [World.cell?, h1]
    rfl
  · have h2 := heap_alloc_new (w.alloc (.cells #[.int .i64 0, .int .i64 0, .int .i64 128, .int .i64 2048, .int .i64 65536] 3)) (.cells #[.int .i64 0, .int .i64 0, .int .i64 2047, .int .i64 65535, .int .i64 1114111] 3)
    rw [show (w.alloc (.cells #[.int .i64 0, .int .i64 0, .int .i64 128, .int .i64 2048, .int .i64 65536] 3)).heap.size = w.heap.size + 1 by simp] at h2
    simp only [World.cell?, h2]
    rfl

end Go.Proofs.YtjbnofljoijnmaaDooru

/-
  WALKS: the reference's Fits (layer 4).
-/
namespace Go.Proofs.YtjbnofljoijnmaaDooru
open Go.RowKit

end Go.Proofs.YtjbnofljoijnmaaDooru

/-
  WALKS: what the laws of layer 4 need beside the program's own functions: One of a number that is no character; bytes made a text; the document's answers in their short forms.
-/
namespace Go.Proofs.YtjbnofljoijnmaaDooru
open Go.RowKit Go.Lib YtjbnofljoijnmaaDoor

/-- bytes of a new block as a text -/
theorem conv_bytes (w : World) (l : List UInt8) (C : Array Value) (n : Nat) (hC : C = (byteCells l).toArray) (hn : n = l.length) :
    (convert 42 9 (.slice (some ⟨w.heap.size, 0, none⟩) n n)).run Tryd.prog (w.alloc (.cells C 5)) = .ok (.string ⟨l.toArray⟩) (w.alloc (.cells C 5)) := by
  subst hn hC
  refine run_convert_bytes_back _ 42 9 5 ⟨w.heap.size, 0, none⟩ _ l Tryd.underlying42 Tryd.underlying5 Tryd.underlying9 ?_
  intro j hj
  rw [show (⟨w.heap.size, 0, none⟩ : Addr).add j = ⟨w.heap.size, j, none⟩ by simp [Addr.add]; omega, World.cell?_alloc_mark]
  simp [byteCells, hj]
/-- one byte made a text -/
theorem conv_one (w : World) (x : Int) (h0 : 0 ≤ x) (h1 : x ≤ 255) :
    (convert 42 9 (.slice (some ⟨w.heap.size, 0, none⟩) 1 1)).run Tryd.prog (w.alloc (.cells #[.int .u8 x] 5)) = .ok (.string ⟨#[x.toNat.toUInt8]⟩) (w.alloc (.cells #[.int .u8 x] 5)) := by
  refine conv_bytes w [x.toNat.toUInt8] _ 1 ?_ rfl
  have : x.toNat.toUInt8.toNat = x.toNat := u8 _ (by omega)
  simp only [byteCells, List.map_cons, List.map_nil, this]
  rw [show ((x.toNat : Nat) : Int) = x by omega]

/-- One of a surrogate's number -/
def surL (c : Int) : List UInt8 := [(224 + c / 4096).toNat.toUInt8, (128 + c / 64 % 64).toNat.toUInt8, (128 + c % 64).toNat.toUInt8]
/-! ### What is taken -/
theorem take_enc (c : Int) (h : mayU c = true) (t : List UInt8) : YtjbnofljoijnmaaDoor.takeC (encodeRune c ++ t) = c ∧ takeN (encodeRune c ++ t) = (encodeRune c).length := by
  have hb := (mayU_may h).1
  have hd := dec_enc c hb t
  have hg := not_bad_enc c hb t
  have hne : encodeRune c ++ t ≠ [] := by simp [enc_ne c]
  have h0 := (mayB_iff c).1 hb
  have f1 : firstC (encodeRune c ++ t) = c := by unfold firstC; rw [if_neg (by simp [hne, hg]), hd]; simp; omega
  have f2 : firstN (encodeRune c ++ t) = (encodeRune c).length := by unfold firstN; rw [if_neg (by simp [hne, hg]), hd]
  have h3 := (enc_len c).1
  unfold YtjbnofljoijnmaaDoor.takeC takeN
  have hn : ¬ ((encodeRune c).length = 0 ∨ mayU c = false) := by
    intro hh
    rcases hh with hh | hh
    · omega
    · rw [h] at hh; cases hh
  rw [f1, f2, if_neg hn, if_neg hn]
  exact ⟨rfl, rfl⟩
theorem take_none {l : List UInt8} (h : ∀ c t, mayB c = true → l ≠ encodeRune c ++ t) : YtjbnofljoijnmaaDoor.takeC l = 0 ∧ takeN l = 0 := by
  have hb : l = [] ∨ badL l = true := by
    apply Classical.byContradiction
    intro hn
    have hne : l ≠ [] := fun e => hn (.inl e)
    have hg : badL l = false := by cases hh : badL l with | false => rfl | true => exact absurd (.inr hh) hn
    exact h _ _ (dec_may l) (dec_good l hne hg).1
  unfold YtjbnofljoijnmaaDoor.takeC takeN firstN
  rw [if_pos hb]
  simp
end Go.Proofs.YtjbnofljoijnmaaDooru

/-
  WALKS: utf.May and the reference's May; utf.broken; utf.each, whatever closure it is handed.
-/
namespace Go.Proofs.YtjbnofljoijnmaaDooru
open Go.RowKit YtjbnofljoijnmaaDoor

set_option maxHeartbeats 400000 in
theorem broken_any (c : Int) (s : ByteArray) (w : World) :
    Calls Tryd.prog 76 #[.int .i32 c, .string s] w fun e w' => e = .returned (.bool (brokenB c s.data.toList)) ∧ w' = w := by
  have hx : (s.extract 0 3).toList = s.data.toList.take 3 := by rw [Lib.extract_toList]; rfl
  have hl : s.data.toList.length = s.size := by simp
  go_enter Tryd.func76, Tryd.ntmps76
  go_wp2
  · go_ret
    refine ⟨ret_bool ?_, rfl⟩
    unfold brokenB
    rw [Bool.eq_iff_iff]
    simp [*]
  · go_ret
    refine ⟨ret_bool ?_, rfl⟩
    unfold brokenB
    have : s.data.toList.take 3 ≠ [239, 191, 189] := by
      intro h
      have := congrArg List.length h
      simp at this
      omega
    simp [this]
  · go_ret
    refine ⟨ret_bool ?_, rfl⟩
    unfold brokenB
    simp
    intro h
    simp [h] at *



theorem broken_is (c : Int) (s : ByteArray) (w : World) (b : Bool) (h : brokenB c s.data.toList = b) :
    Calls Tryd.prog 76 #[.int .i32 c, .string s] w fun e w' => e = .returned (.bool b) ∧ w' = w := by
  subst h
  exact broken_any c s w


set_option maxHeartbeats 1000000 in
/-- utf.each over any closure: 'Inv cs W': what the world is like when just the characters cs have been taken; 'Stop cs c W': when behind them c was refused. -/
theorem each_any (g : Nat) (lb : Array Value) (eg : ∀ args w, (callFunc g args).run Tryd.prog w = .ok (.enter g args) w) (s : ByteArray) (w : World)
    (Inv : List Int → World → Prop) (Stop : List Int → Int → World → Prop)
    (h0 : Inv [] (w.iter s 0))
    (hmove : ∀ cs W pos pos', Inv cs W → W.heap[w.heap.size]? = some (.stringIter s pos) → Inv cs (W.iterAt w.heap.size s pos'))
    (hstep : ∀ cs c W pos, Inv cs W → W.heap[w.heap.size]? = some (.stringIter s pos) → mayB c = true → cs.length < s.size →
      Calls Tryd.prog g (#[.int .i32 c] ++ lb) W fun e w' => ∃ b, e = .returned (.bool b) ∧ w'.heap[w.heap.size]? = some (.stringIter s pos) ∧ (b = true → Inv (cs ++ [c]) w') ∧ (b = false → Stop cs c w')) :
    Calls Tryd.prog 63 #[.string s, .func (.func g) #[] lb] w fun e w' =>
      (e = .returned (.int .i64 (blen s.data.toList)) ∧ Inv (chars s.data.toList) w') ∨
      (∃ cs c r, chars s.data.toList = cs ++ c :: r ∧ e = .returned (.int .i64 (textL cs).length) ∧ Stop cs c w') := by
  have Hm := hide hmove
  have Hs := hide hstep
  clear hmove hstep
  go_enter Tryd.func63, Tryd.ntmps63
  go_wp2
  go_loopw [] (fun wr => ∃ (cs : List Int) (t : List UInt8), wr.heap[w.heap.size]? = some (.stringIter s (textL cs).length) ∧ s.data.toList = textL cs ++ t ∧ allMay cs = true ∧ Inv cs wr) (fun wr => s.size - wr.iterPos (w.heap.size))
  case atStart => exact ⟨[], s.data.toList, World.iter_heap w s 0, rfl, rfl, h0⟩
  case round =>
    obtain ⟨cs, t, hit, hst, hm, hI⟩ := hrel
    have hlen : s.size = (textL cs).length + t.length := by
      have := congrArg List.length hst
      simpa using this
    have hcl := (textL_len cs).1
    generalize hpe : (textL cs).length = pos at hit hlen hcl
    have hdr : s.data.toList.drop pos = t := by rw [hst, ← hpe, List.drop_left]
    have hdd : Lib.decodeL t = Utf8.decode s pos := by rw [← hdr]; exact Lib.decodeL_drop s pos
    have hrest : (s.extract pos s.size).data.toList = t := by rw [extract_rest, hdr]
    have Hst := hide hst
    have Hpe := hide hpe
    have Hdd := hide hdd
    have Hrest := hide hrest
    have Hlen := hide hlen
    have hm1 := dec_may t
    rw [hdd] at hm1
    have Hm1 := hide hm1
    clear hst hdr hpe hdd hrest hlen hm1
    by_cases hp : pos < s.size
    · have hne : t ≠ [] := by intro h; have := Hlen.out; rw [h] at this; simp at this; omega
      have hbr := broken_eq t hne
      rw [Hdd.out] at hbr
      have Hbr := hide hbr
      have Hne := hide hne
      clear hbr hne
      have hnx : ∀ ty, (Instr.next (.pointer (some ⟨w.heap.size, 0, none⟩)) true ty).run Tryd.prog wr = _ := fun ty => Lib.run_next_any_at wr (w.heap.size) s pos ty hit hp
      have hit2 := Lib.iterAt_heap wr w.heap.size s pos (pos + (Utf8.decode s pos).2) hit
      have hI2 := Hm.out cs wr pos (pos + (Utf8.decode s pos).2) hI hit
      cases hb : badL t with
      | true =>
        have Hb := hide hb
        clear hb
        go_wp2_with (go_at_call 76; refine (broken_is _ _ _ true (by rw [Hrest.out, Hbr.out]; exact Hb.out)).mono ?_; rintro e w' ⟨rfl, hw⟩; rw [hw])
        go_ret
        obtain ⟨hc1, hc2⟩ := chars_at Hst.out hm (.inr Hb.out)
        exact .inl ⟨by rw [hc2, Hpe.out]; rfl, by rw [hc1]; exact hI2⟩
      | false =>
        have Hb := hide hb
        clear hb
        go_wp2_with (first | (go_at_call 76; refine (broken_is _ _ _ false (by rw [Hrest.out, Hbr.out]; exact Hb.out)).mono ?_; rintro e w' ⟨rfl, hw⟩; rw [hw]) | (go_at_fn g; refine (Hs.out cs _ _ _ hI2 hit2 Hm1.out (by omega)).mono ?_))
        rintro e w1 ⟨b, rfl, hit3, hT, hF⟩
        have hg := dec_good t Hne.out Hb.out
        rw [Hdd.out] at hg
        have hst2 : s.data.toList = textL (cs ++ [((Utf8.decode s pos).1 : Int)]) ++ t.drop (Utf8.decode s pos).2 := by
          rw [textL_append, textL_one, List.append_assoc, ← hg.1]; exact Hst.out
        have hm2 : allMay (cs ++ [((Utf8.decode s pos).1 : Int)]) = true := by
          rw [allMay_append, hm, allMay_cons, Hm1.out]; rfl
        have hpos2 : (textL (cs ++ [((Utf8.decode s pos).1 : Int)])).length = pos + (Utf8.decode s pos).2 := by
          rw [textL_append, textL_one, List.length_append, Hpe.out, hg.2]
        have hwd := Lib.width_pos s pos
        have Hst2 := hide hst2
        have Hpos2 := hide hpos2
        clear hst2 hpos2 hg
        cases b with
        | true =>
          have hI3 := hT rfl
          clear hT hF
          go_wp2
          go_roundw
          case rel => exact ⟨_, _, by rw [Hpos2.out]; exact hit3, Hst2.out, hm2, hI3⟩
          case measure =>
            simp only [World.iterPos, hit3, hit]
            omega
        | false =>
          have hS := hF rfl
          clear hT hF
          go_wp2
          go_ret
          refine .inr ⟨cs, ((Utf8.decode s pos).1 : Int), chars (t.drop (Utf8.decode s pos).2), ?_, by rw [Hpe.out]; rfl, hS⟩
          have := (chars_append _ (t.drop (Utf8.decode s pos).2) hm2).1
          rw [← Hst2.out] at this
          rw [this]
          simp
    · have hnx : ∀ ty, (Instr.next (.pointer (some ⟨w.heap.size, 0, none⟩)) true ty).run Tryd.prog wr = _ := fun ty => Lib.run_next_end_at wr (w.heap.size) s pos ty hit hp
      have ht : t = [] := List.eq_nil_of_length_eq_zero (by have := Hlen.out; omega)
      obtain ⟨hc1, hc2⟩ := chars_at Hst.out hm (.inl ht)
      have e1 : s.size = pos := by have := Hlen.out; rw [ht] at this; simpa using this
      have He := hide e1
      have Ht := hide ht
      have Hc1 := hide hc1
      have Hc2 := hide hc2
      clear e1 ht hc1 hc2
      go_wp2
      go_ret
      exact .inl ⟨by rw [Hc2.out, Hpe.out]; exact ret_int (by rw [He.out]), by rw [Hc1.out]; exact hI⟩
end Go.Proofs.YtjbnofljoijnmaaDooru

/-
  WALKS: the four closures that utf.each is handed; utf.Bad, Valid, Count, Prefix, Chars.
-/
namespace Go.Proofs.YtjbnofljoijnmaaDooru
open Go.RowKit YtjbnofljoijnmaaDoor

theorem enters24 : ∀ args w, (callFunc 65 args).run Tryd.prog w = .ok (.enter 65 args) w := enters_of Tryd.func65 (by kernel_rfl) rfl
theorem enters28 : ∀ args w, (callFunc 64 args).run Tryd.prog w = .ok (.enter 64 args) w := enters_of Tryd.func64 (by kernel_rfl) rfl

theorem box_iterAt {W : World} {b k : Nat} {o : Obj} {s : ByteArray} {pos : Nat} (h : W.heap[b]? = some o) (hbk : b ≠ k) : (W.iterAt k s pos).heap[b]? = some o := by
  rw [Lib.iterAt_other W k b s pos hbk]; exact h

/-! ### utf.Bad, utf.Valid -/
/-- a text is valid -/
def validB (l : List UInt8) : Bool := decide (blen l = l.length)

/-! ### utf.Count -/
theorem new_box (w : World) (v : Value) (t : TypeId) : (w.alloc (.cells #[v] t)).heap[w.heap.size]? = some (.cells #[v] t (0, 0)) := by
  show (w.heap.push _)[w.heap.size]? = _
  simp

/-! ### utf.Prefix -/
set_option maxHeartbeats 400000 in
theorem prefix1 (c : Int) (b a : Nat) (n : Nat) (m : Int) (w : World) (hb : w.heap[b]? = some (.cells #[.int .i64 n] 3 (0, 0))) (ha : w.heap[a]? = some (.cells #[.int .i64 m] 3 (0, 0))) (hab : a ≠ b) (hn : n < 9223372036854775807) :
    Calls Tryd.prog 64 #[.int .i32 c, .pointer (some ⟨b, 0, none⟩), .pointer (some ⟨a, 0, none⟩)] w fun e w' => e = .returned (.bool (decide ((n + 1 : Nat) ≤ m))) ∧ w' = w.setCell ⟨b, 0, none⟩ (.int .i64 (n + 1 : Nat)) := by
  have h1 := cell_of_one hb
  have h2 := free_of_one hb
  have h3 := cell_of_one ha
  have h4 : (w.setCell ⟨b, 0, none⟩ (.int .i64 (n + 1))).cell? ⟨a, 0, none⟩ = some (.int .i64 m) := (World.cell?_of_block (w := w) (a := ⟨a, 0, none⟩) (Below.heap_setCell w ⟨b, 0, none⟩ _ a hab)).trans h3
  go_enter Tryd.func64, Tryd.ntmps64
  go_wp2
  all_goals go_ret
  all_goals exact ⟨rfl, rfl⟩

/-- the two blocks behind so many characters: how many may be taken, how many were -/
def PrefixInv (w : World) (m : Int) (cs : List Int) (W : World) : Prop :=
  Below w.heap.size w W ∧ W.heap[w.heap.size]? = some (.cells #[.int .i64 m] 3 (0, 0)) ∧ W.heap[w.heap.size + 1]? = some (.cells #[.int .i64 cs.length] 3 (0, 0)) ∧ (cs = [] ∨ (cs.length : Int) ≤ m)

theorem take_pre {cs : List Int} {c : Int} {r l : List Int} {m : Int} (h : l = cs ++ c :: r) (h1 : cs = [] ∨ (cs.length : Int) ≤ m) (h2 : ¬ ((cs.length + 1 : Nat) : Int) ≤ m) : l.take m.toNat = cs := by
  have e : m.toNat = cs.length := by
    rcases h1 with rfl | h1
    · simp at h2 ⊢; omega
    · omega
  rw [h, e]
  simp
theorem take_all {cs : List Int} {m : Int} (h1 : cs = [] ∨ (cs.length : Int) ≤ m) : cs.take m.toNat = cs := by
  rcases h1 with rfl | h1
  · simp
  · apply List.take_of_length_le; omega

theorem each_prefix (s : ByteArray) (m : Int) (w : World) (hs : s.size ≤ 9223372036854775807) :
    Calls Tryd.prog 63 #[.string s, .func (.func 64) #[] #[.pointer (some ⟨w.heap.size + 1, 0, none⟩), .pointer (some ⟨w.heap.size, 0, none⟩)]] ((w.alloc (.cells #[.int .i64 m] 3)).alloc (.cells #[.int .i64 0] 3)) fun e w' => e = .returned (.int .i64 (textL ((chars s.data.toList).take m.toNat)).length) ∧ Below w.heap.size w w' := by
  have hz : ((w.alloc (.cells #[.int .i64 m] 3)).alloc (.cells #[.int .i64 0] 3)).heap.size = w.heap.size + 2 := by simp
  have hz1 : (w.alloc (.cells #[.int .i64 m] 3)).heap.size = w.heap.size + 1 := by simp
  refine (each_any 64 _ enters28 s _ (PrefixInv w m) (fun cs _ W => ¬ ((cs.length + 1 : Nat) : Int) ≤ m ∧ (cs = [] ∨ (cs.length : Int) ≤ m) ∧ Below w.heap.size w W) ?_ ?_ ?_).mono ?_
  · refine ⟨(((Below.refl _ _).alloc (Nat.le_refl _) _).alloc (by simp) _).alloc (by omega) _, ?_, ?_, .inl rfl⟩
    · show (((w.alloc (.cells #[.int .i64 m] 3)).alloc (.cells #[.int .i64 0] 3)).alloc (.stringIter s 0)).heap[w.heap.size]? = _
      rw [Below.heap_alloc _ _ _ (by omega), Below.heap_alloc _ _ _ (by omega)]
      exact new_box w _ _
    · show (((w.alloc (.cells #[.int .i64 m] 3)).alloc (.cells #[.int .i64 0] 3)).alloc (.stringIter s 0)).heap[w.heap.size + 1]? = _
      rw [Below.heap_alloc _ _ _ (by omega), ← hz1]
      exact new_box _ _ _
  · intro cs W pos pos' h hit
    rw [hz] at hit ⊢
    exact ⟨Lib.below_iterAt h.1 (by omega) s pos', box_iterAt h.2.1 (by omega), box_iterAt h.2.2.1 (by omega), h.2.2.2⟩
  · intro cs c W pos h hit _ hlt
    rw [hz] at hit ⊢
    refine (prefix1 c (w.heap.size + 1) w.heap.size cs.length m W h.2.2.1 h.2.1 (by omega) (by omega)).mono ?_
    rintro e w' ⟨rfl, rfl⟩
    refine ⟨_, rfl, ?_, fun hd => ⟨h.1.setCell (by simp) _, ?_, ?_, .inr ?_⟩, fun hd => ⟨by simpa using hd, h.2.2.2, h.1.setCell (by simp) _⟩⟩
    · rw [Below.heap_setCell _ _ _ _ (by simp)]; exact hit
    · rw [Below.heap_setCell _ _ _ _ (by simp)]; exact h.2.1
    · rw [one_setCell h.2.2.1]; simp
    · simpa using hd
  · rintro e w' (⟨rfl, h⟩ | ⟨cs, c, r, hc, rfl, h1, h2, h3⟩)
    · refine ⟨?_, h.1⟩
      rw [take_all h.2.2.2]
      obtain ⟨t, _, _, _, hl⟩ := chars_split s.data.toList
      rw [hl]
    · exact ⟨by rw [take_pre hc h2 h1], h3⟩

theorem text_take (l : List UInt8) (k : Nat) : textL ((chars l).take k) = l.take (textL ((chars l).take k)).length := by
  obtain ⟨t, e, _, _, _⟩ := chars_split l
  have e2 : l = textL ((chars l).take k) ++ (textL ((chars l).drop k) ++ t) := by
    rw [← List.append_assoc, ← textL_append, List.take_append_drop]; exact e
  have h := congrArg (List.take (textL ((chars l).take k)).length) e2
  rw [List.take_left' rfl] at h
  exact h.symm

/-- a text's first characters -/
def prefL (l : List UInt8) (m : Int) : List UInt8 := textL ((chars l).take m.toNat)
theorem prefL_le (l : List UInt8) (m : Int) : (prefL l m).length ≤ l.length := by
  unfold prefL
  rw [text_take, List.length_take]
  omega
theorem extract_pref (s : ByteArray) (m : Int) : s.extract 0 (textL ((chars s.data.toList).take m.toNat)).length = ⟨(prefL s.data.toList m).toArray⟩ := by
  apply ByteArray.ext
  apply Array.toList_inj.1
  rw [← Lib.toList_data, Lib.extract_toList]
  show _ = prefL s.data.toList m
  unfold prefL
  conv => rhs; rw [text_take]
  simp

set_option maxHeartbeats 400000 in
theorem clone_any (s : ByteArray) (w : World) (hlim : s.size ≤ 281474976710656) :
    Calls Tryd.prog 23 #[.string s] w fun e w' => e = .returned (.string s) ∧ Below w.heap.size w w' := by
  go_enter Tryd.func23, Tryd.ntmps23
  go_wp2_with (go_at_call 34; refine (stringslite_Clone _ _ hlim).mono ?_)
  rintro e w' ⟨rfl, h⟩
  go_wp2
  go_ret
  exact ⟨rfl, h⟩

set_option maxHeartbeats 400000 in
theorem prefix_any (s : ByteArray) (m : Int) (w : World) (hs : s.size ≤ 281474976710656) :
    Calls Tryd.prog 52 #[.string s, .int .i64 m] w fun e w' => e = .returned (.string ⟨(prefL s.data.toList m).toArray⟩) ∧ Below w.heap.size w w' := by
  have hle := prefL_le s.data.toList m
  have hle2 : (textL ((chars s.data.toList).take m.toNat)).length ≤ s.size := by
    have : s.data.toList.length = s.size := by simp
    unfold prefL at hle
    omega
  have He := hide (extract_pref s m)
  have hsz : (s.extract 0 (textL ((chars s.data.toList).take m.toNat)).length).size ≤ 281474976710656 := by simp; omega
  clear hle
  go_enter Tryd.func52, Tryd.ntmps52
  go_wp2_with (go_at_call 63; refine (each_prefix _ _ _ (by omega)).mono ?_)
  rintro e w1 ⟨rfl, h⟩
  go_wp2_with (go_at_call 23; refine (clone_any _ _ hsz).mono ?_)
  rintro e w2 ⟨rfl, h2⟩
  go_wp2
  go_ret
  exact ⟨by rw [← He.out]; rfl, h.trans (h2.mono h.size)⟩

/-! ### utf.Chars -/
theorem info3 : (Tryd.prog.info? 3).map (fun i => (i.zero, i.size, i.bytes)) = some (some (.int .i64 0), 1, 8) := by kernel_rfl
theorem mapsnoc (cs : List Int) (c : Int) : (cs ++ [c]).map (Value.int .i64) = cs.map (Value.int .i64) ++ [.int .i64 c] := by simp

/-- the slice's block behind so many characters, and what it owns -/
def CharsInv (w : World) (cs : List Int) (W : World) : Prop :=
  Below w.heap.size w W ∧ w.heap.size + 1 < W.heap.size ∧ ∃ v, W.heap[w.heap.size]? = some (.cells #[v] 91 (0, 0)) ∧ W.ownsRow (w.heap.size + 2) 3 1 v cs.length (cs.map (Value.int .i64))

theorem chars_step {w W w1 : World} {cs : List Int} {c : Int} {v v' : Value} {s : ByteArray} {pos : Nat} {o : Obj} (hb : Below w.heap.size w W) (hsz : w.heap.size + 1 < W.heap.size) (hbox : W.heap[w.heap.size]? = some (.cells #[v] 91 (0, 0)))
    (hit : W.heap[w.heap.size + 1]? = some (.stringIter s pos)) (hown : W.ownsRow (w.heap.size + 2) 3 1 v cs.length (cs.map (Value.int .i64)))
    (hown' : w1.ownsRow (w.heap.size + 2) 3 1 v' (cs.length + 1) (cs.map (Value.int .i64) ++ [.int .i64 c])) (hg : (W.alloc o).grownBy w1 v.ownBlock) :
    w1.heap[w.heap.size]? = some (.cells #[v] 91 (0, 0)) ∧ CharsInv w (cs ++ [c]) (w1.setCell ⟨w.heap.size, 0, none⟩ v') ∧ (w1.setCell ⟨w.heap.size, 0, none⟩ v').heap[w.heap.size + 1]? = some (.stringIter s pos) := by
  have hr : ∀ k, v.ownBlock = some k → w.heap.size + 2 ≤ k := fun k hk => (hown.lt k hk).1
  have hza : (W.alloc o).heap.size = W.heap.size + 1 := by simp
  have e0 : w1.heap[w.heap.size]? = some (.cells #[v] 91 (0, 0)) := by
    rw [hg.block _ (by omega) (fun h => by have := hr _ h.symm; omega), Below.heap_alloc _ _ _ (by omega)]; exact hbox
  have e1 : w1.heap[w.heap.size + 1]? = some (.stringIter s pos) := by
    rw [hg.block _ (by omega) (fun h => by have := hr _ h.symm; omega), Below.heap_alloc _ _ _ (by omega)]; exact hit
  have hb1 : Below w.heap.size w w1 := (hb.alloc (by omega) o).grown hg (by omega) (fun k hk => by have := hr k hk; omega)
  have hsz1 : w.heap.size + 1 < (w1.setCell ⟨w.heap.size, 0, none⟩ v').heap.size := by have := hg.size; simp; omega
  refine ⟨e0, ⟨hb1.setCell (Nat.le_refl _) _, hsz1, v', one_setCell e0, ?_⟩, ?_⟩
  · rw [mapsnoc, List.length_append, List.length_singleton]
    exact ownsRow_setCell_below hown' (by simp) _
  · rw [Below.heap_setCell _ _ _ _ (by simp)]; exact e1

set_option maxHeartbeats 400000 in
theorem chars1 (c : Int) (s : ByteArray) (pos : Nat) (cs : List Int) (w W : World) (hI : CharsInv w cs W) (hit : W.heap[w.heap.size + 1]? = some (.stringIter s pos)) (hc : 0 ≤ c ∧ c ≤ 1114111) (hn : cs.length < 17592186044415) :
    Calls Tryd.prog 65 #[.int .i32 c, .pointer (some ⟨w.heap.size, 0, none⟩)] W fun e w' => e = .returned (.bool true) ∧ CharsInv w (cs ++ [c]) w' ∧ w'.heap[w.heap.size + 1]? = some (.stringIter s pos) := by
  obtain ⟨i0, hi, hz0, hz1, hz2⟩ := info_parts info3
  obtain ⟨hb, hsz, v, hbox, hown⟩ := hI
  have h1 := cell_of_one hbox
  have h2 := free_of_one hbox
  have Hbox := hide hbox
  have Hit := hide hit
  clear hbox hit
  have hvs : ∃ a n c', v = .slice a n c' := by
    rcases hown.2 with ⟨rfl, _⟩ | ⟨g, cap, cur, rfl, _⟩
    · exact ⟨_, _, _, rfl⟩
    · exact ⟨_, _, _, rfl⟩
  obtain ⟨va, vn, vc, hv⟩ := hvs
  subst hv
  go_enter Tryd.func65, Tryd.ntmps65
  go_wp2_with (first
    | (at_builtin; refine wpList_append_own _ rfl _ _ 91 rfl (w.heap.size + 2) 3 i0 (.int .i64 0) 1 8 Tryd.underlying91 hi hz0 hz1 hz2 rfl (by decide) _ _ _ rfl (hown.alloc _) ⟨W.heap.size, 0, none⟩ 1 1 [.int .i64 c] rfl rfl ?c1 ?c2 ?c3 ?c4 ?c5 ?_))
  case c1 =>
    intro j u hj
    match j, hj with
    | 0, hj => simp at hj; subst hj; simp [Addr.add]
  case c2 => intro u hu; simp at hu; subst hu; rfl
  case c3 => unfold maxLen; omega
  case c4 => omega
  case c5 => simp; omega
  · intro v' w1 hown' hgrow _
    obtain ⟨k1, k2, k3⟩ := chars_step hb hsz Hbox.out Hit.out hown hown' hgrow
    have hvs' : ∃ a n c', v' = .slice a n c' := by
      rcases hown'.2 with ⟨rfl, _⟩ | ⟨g, cap, cur, rfl, _⟩
      · exact ⟨_, _, _, rfl⟩
      · exact ⟨_, _, _, rfl⟩
    obtain ⟨va', vn', vc', hv'⟩ := hvs'
    rw [hv'] at k2 k3 ⊢
    clear hown' hgrow hown hv'
    have h3 := cell_of_one k1
    have h4 := free_of_one k1
    go_wp2
    go_ret
    exact ⟨rfl, k2, k3⟩

theorem each_chars (s : ByteArray) (w : World) (hs : s.size ≤ 17592186044415) :
    Calls Tryd.prog 63 #[.string s, .func (.func 65) #[] #[.pointer (some ⟨w.heap.size, 0, none⟩)]] (w.alloc (.cells #[.slice none 0 0] 91)) fun e w' => e = .returned (.int .i64 (blen s.data.toList)) ∧ CharsInv w (chars s.data.toList) w' := by
  have hz : (w.alloc (.cells #[.slice none 0 0] 91)).heap.size = w.heap.size + 1 := by simp
  refine (each_any 65 _ enters24 s _ (CharsInv w) (fun _ _ _ => False) ?_ ?_ ?_).mono ?_
  · refine ⟨((Below.refl _ _).alloc (Nat.le_refl _) _).alloc (by simp) _, ?_, .slice none 0 0, ?_, World.ownsRow_nil _ _ _ _⟩
    · show _ < ((w.alloc (.cells #[.slice none 0 0] 91)).alloc (.stringIter s 0)).heap.size
      simp
    · show ((w.alloc (.cells #[.slice none 0 0] 91)).alloc (.stringIter s 0)).heap[w.heap.size]? = _
      rw [Below.heap_alloc _ _ _ (by simp)]
      exact new_box w _ _
  · intro cs W pos pos' h hit
    rw [hz] at hit ⊢
    obtain ⟨v, h1, h2⟩ := h.2.2
    exact ⟨Lib.below_iterAt h.1 (by omega) s pos', by rw [Lib.iterAt_size]; exact h.2.1, v, box_iterAt h1 (by omega), ownsRow_iterAt h2 (by omega) s pos'⟩
  · intro cs c W pos h hit hm hlt
    rw [hz] at hit ⊢
    have hm' := (mayB_iff c).1 hm
    refine (chars1 c s pos cs w W h hit (by omega) (by omega)).mono ?_
    rintro e w' ⟨rfl, h1, h2⟩
    exact ⟨true, rfl, h2, fun _ => h1, fun h => by cases h⟩
  · rintro e w' (⟨rfl, h⟩ | ⟨_, _, _, _, _, h⟩)
    · exact ⟨rfl, h⟩
    · exact h.elim

set_option maxHeartbeats 400000 in
theorem chars_yes (s : ByteArray) (w : World) (hs : s.size ≤ 17592186044415) (hv : validB s.data.toList = true) :
    Calls Tryd.prog 53 #[.string s] w fun e w' => ∃ v, e = .returned (.tuple #[v, .bool true]) ∧ w'.ownsRow w.heap.size 3 1 v (chars s.data.toList).length ((chars s.data.toList).map (Value.int .i64)) ∧ Below w.heap.size w w' := by
  have hb : blen s.data.toList = s.size := by simpa [validB] using hv
  have Hb := hide hb
  have hle : s.size ≤ blen s.data.toList := by omega
  clear hb hv
  go_enter Tryd.func53, Tryd.ntmps53
  go_wp2_with (go_at_call 63; refine (each_chars _ _ hs).mono ?_)
  rintro e w1 ⟨rfl, h, _, v, hbox, hown⟩
  have h1 := cell_of_one hbox
  have hown2 : w1.ownsRow w.heap.size 3 1 v (chars s.data.toList).length ((chars s.data.toList).map (Value.int .i64)) := by
    refine ⟨hown.1, ?_⟩
    rcases hown.2 with h | ⟨g, cap, cur, h1, h2, h3⟩
    · exact .inl h
    · exact .inr ⟨g, cap, cur, h1, by omega, h3⟩
  have Hown := hide hown2
  have hvs : ∃ a n c', v = .slice a n c' := by
    rcases hown.2 with ⟨rfl, _⟩ | ⟨g, cap, cur, rfl, _⟩
    · exact ⟨_, _, _, rfl⟩
    · exact ⟨_, _, _, rfl⟩
  obtain ⟨va, vn, vc, hv⟩ := hvs
  subst hv
  clear hown hown2 hbox
  go_wp2
  go_ret2
  exact ⟨_, rfl, Hown.out, h⟩

set_option maxHeartbeats 400000 in
theorem chars_no (s : ByteArray) (w : World) (hs : s.size ≤ 17592186044415) (hv : validB s.data.toList = false) :
    Calls Tryd.prog 53 #[.string s] w fun e w' => e = .returned (.tuple #[.slice none 0 0, .bool false]) ∧ Below w.heap.size w w' := by
  have hb : blen s.data.toList ≠ s.size := by simpa [validB] using hv
  have hle : blen s.data.toList < s.size := by have := blen_le s.data.toList; simp at this; omega
  clear hb hv
  go_enter Tryd.func53, Tryd.ntmps53
  go_wp2_with (go_at_call 63; refine (each_chars _ _ hs).mono ?_)
  rintro e w1 ⟨rfl, h, _⟩
  go_wp2
  go_ret2
  exact ⟨rfl, h⟩
end Go.Proofs.YtjbnofljoijnmaaDooru

/-
  WALKS: the program's May, Take and Fits, in the forms that the laws use: where the ranges lie in memory.
-/
namespace Go.Proofs.YtjbnofljoijnmaaDooru
open Go.RowKit YtjbnofljoijnmaaDoor
open Go.Lib (encodeRune)

theorem smay_is (lo hi : Int) (b : Bool) (w : World) (R : Ran w) (h : anyR lo hi = b) :
    Calls Tryd.prog 66 #[.agg #[.int .i64 lo, .int .i64 hi]] w fun e w' => e = .returned (.bool b) ∧ Below w.heap.size w w' := by
  subst h; exact smay_any lo hi w R
set_option maxHeartbeats 400000 in
theorem pmay_is (c : Int) (b : Bool) (w : World) (R : Ran w) (h : mayU c = b) : Calls Tryd.prog 54 #[.int .i64 c] w fun e w' => e = .returned (.bool b) ∧ Below w.heap.size w w' := by
  have H := hide ((any_may c).trans h)
  have R1 := hide R
  clear h R
  go_enter Tryd.func54, Tryd.ntmps54
  go_wp2_with (go_at_call 66; refine (smay_is _ _ b _ R1.out H.out).mono ?_; rintro e w1 ⟨rfl, bb⟩)
  go_ret
  exact ⟨rfl, bb⟩
theorem begun_is (s : ByteArray) (w : World) (h : 0 < s.size) (lo hi : Int) (hlo : lowN s.data.toList = lo) (hhi : highN s.data.toList = hi) :
    Calls Tryd.prog 89 #[.string s] w fun e w' => e = .returned (.agg #[.int .i64 lo, .int .i64 hi]) ∧ Below w.heap.size w w' := by
  subst hlo hhi; exact begun_any s w h
set_option maxHeartbeats 400000 in
theorem pfits_is (s : ByteArray) (b : Bool) (w : World) (R : Ran w) (h : fitB s.data.toList = b) :
    Calls Tryd.prog 75 #[.string s] w fun e w' => e = .returned (.bool b) ∧ Below w.heap.size w w' := by
  have R1 := hide R
  clear R
  by_cases hz : 0 < s.size
  · have hne := eq_some s hz
    have hn : s.data.toList ≠ [] := by
      rw [list_one s hz]; simp
    obtain ⟨lo, hlo⟩ : ∃ z, lowN s.data.toList = z := ⟨_, rfl⟩
    obtain ⟨hi, hhi⟩ : ∃ z, highN s.data.toList = z := ⟨_, rfl⟩
    have hs := any_fit s.data.toList hn
    rw [hlo, hhi, h] at hs
    have Hs := hide hs
    have Hlo := hide hlo
    have Hhi := hide hhi
    clear hs hlo hhi h hn
    go_enter Tryd.func75, Tryd.ntmps75
    go_wp2_with (first
      | (go_at_call 89; refine (begun_is _ _ hz lo hi Hlo.out Hhi.out).mono ?_; rintro e w1 ⟨rfl, bb⟩)
      | (go_at_call 66; refine (smay_is _ _ b _ (R1.out.next bb) Hs.out).mono ?_; rintro e w2 ⟨rfl, bb2⟩))
    go_ret
    exact ⟨rfl, bb.trans (bb2.mono bb.size)⟩
  · have hne := eq_none s hz
    rw [fit_empty s hz] at h
    subst h
    go_enter Tryd.func75, Tryd.ntmps75
    go_wp2
    go_ret
    exact ⟨rfl, Below.refl _ _⟩

/-! ### Take -/
theorem take_nil {l : List UInt8} (h : chars l = []) : YtjbnofljoijnmaaDoor.takeC l = 0 ∧ takeN l = 0 ∧ prefL l 1 = [] := by
  obtain ⟨t, e, _, ht, _⟩ := chars_split l
  rw [h] at e
  have e : l = t := by simpa [textL] using e
  rw [← e] at ht
  have hf : firstN l = 0 := by unfold firstN; rw [if_pos ht]
  unfold YtjbnofljoijnmaaDoor.takeC takeN
  rw [hf, if_pos (.inl rfl), if_pos (.inl rfl)]
  refine ⟨rfl, rfl, ?_⟩
  unfold prefL
  rw [h]; rfl
theorem take_cons {l : List UInt8} {c : Int} {r : List Int} (h : chars l = c :: r) : mayB c = true ∧ firstC l = c ∧ firstN l = (encodeRune c).length ∧ prefL l 1 = encodeRune c := by
  obtain ⟨t, e, hm, ht, _⟩ := chars_split l
  rw [h] at e hm
  rw [allMay_cons, Bool.and_eq_true] at hm
  have hb := hm.1
  have e2 : l = encodeRune c ++ (textL r ++ t) := by rw [e]; simp [textL]
  have hd := dec_enc c hb (textL r ++ t)
  have hg := not_bad_enc c hb (textL r ++ t)
  have hne : encodeRune c ++ (textL r ++ t) ≠ [] := by simp [enc_ne c]
  have h0 := (mayB_iff c).1 hb
  refine ⟨hb, ?_, ?_, ?_⟩
  · rw [e2]; unfold firstC; rw [if_neg (by simp [hne, hg]), hd]; simp; omega
  · rw [e2]; unfold firstN; rw [if_neg (by simp [hne, hg]), hd]
  · unfold prefL; rw [h]; simp [textL]

theorem prefix_is (s f : ByteArray) (w : World) (hs : s.size ≤ 281474976710656) (h : f = ⟨(prefL s.data.toList 1).toArray⟩) :
    Calls Tryd.prog 52 #[.string s, .int .i64 1] w fun e w' => e = .returned (.string f) ∧ Below w.heap.size w w' := by
  subst h; exact prefix_any s 1 w hs
theorem chars_none (f : ByteArray) (w : World) (hf : f.data.toList = []) :
    Calls Tryd.prog 53 #[.string f] w fun e w' => ∃ a cap, e = .returned (.tuple #[.slice a 0 cap, .bool true]) ∧ Below w.heap.size w w' := by
  have hz : f.size = 0 := by have : f.data.toList.length = f.size := by simp
                             rw [hf] at this; simpa using this.symm
  have ha : allMay [] = true := rfl
  have hc := chars_text [] ha
  refine (chars_yes f w (by omega) (by rw [hf]; decide)).mono ?_
  rintro e w' ⟨v, rfl, ho, b⟩
  rw [hf, show chars ([] : List UInt8) = [] from hc.1] at ho
  rcases ho.2 with ⟨rfl, _⟩ | ⟨g, cap, cur, rfl, _⟩
  · exact ⟨_, _, rfl, b⟩
  · exact ⟨_, _, rfl, b⟩
theorem chars_one (f : ByteArray) (c : Int) (w : World) (hb : mayB c = true) (hf : f.data.toList = encodeRune c) :
    Calls Tryd.prog 53 #[.string f] w fun e w' => ∃ g cap, e = .returned (.tuple #[.slice (some ⟨g, 0, none⟩) 1 cap, .bool true]) ∧ w'.cell? ⟨g, 0, none⟩ = some (.int .i64 c) ∧ w.heap.size ≤ g ∧ Below w.heap.size w w' := by
  have hz : f.size = (encodeRune c).length := by have : f.data.toList.length = f.size := by simp
                                                 rw [hf] at this; exact this.symm
  have hl := (enc_len c).2
  have ha : allMay [c] = true := by rw [allMay_cons, hb]; rfl
  have hc := chars_text [c] ha
  rw [textL_one] at hc
  refine (chars_yes f w (by omega) (by rw [hf]; unfold validB; rw [hc.2]; simp)).mono ?_
  rintro e w' ⟨v, rfl, ho, b⟩
  rw [hf, hc.1] at ho
  rcases ho.2 with ⟨_, hn⟩ | ⟨g, cap, cur, rfl, hg, _⟩
  · simp at hn
  · have := ho.cellAt 0 (by simp)
    exact ⟨g, cap, rfl, by simpa using this, hg, b⟩

set_option maxRecDepth 20000 in
set_option maxHeartbeats 1000000 in
theorem ptake_is (s : ByteArray) (c n : Int) (w : World) (R : Ran w) (hs : s.size ≤ 1000000) (hc : YtjbnofljoijnmaaDoor.takeC s.data.toList = c) (hn : (takeN s.data.toList : Int) = n) :
    Calls Tryd.prog 38 #[.string s] w fun e w' => e = .returned (.tuple #[.int .i64 c, .int .i64 n]) ∧ Below w.heap.size w w' := by
  have R1 := hide R
  have hs2 : s.size ≤ 281474976710656 := by omega
  clear R
  obtain ⟨f, hf⟩ : ∃ f : ByteArray, f = ⟨(prefL s.data.toList 1).toArray⟩ := ⟨_, rfl⟩
  have hfl : f.data.toList = prefL s.data.toList 1 := by rw [hf]
  have Hf := hide hf
  clear hf
  cases hl : chars s.data.toList with
  | nil =>
    obtain ⟨t1, t2, t3⟩ := take_nil hl
    rw [t1] at hc
    rw [t2] at hn
    rw [t3] at hfl
    have hn : (0 : Int) = n := hn
    subst hc hn
    have Hfl := hide hfl
    clear hfl hl t1 t2 t3
    go_enter Tryd.func38, Tryd.ntmps38
    go_wp2_with (first
      | (go_at_call 52; refine (prefix_is _ f _ hs2 Hf.out).mono ?_; rintro e w1 ⟨rfl, bb⟩)
      | (go_at_call 53; refine (chars_none _ _ Hfl.out).mono ?_; rintro e w2 ⟨a, cap, rfl, bb2⟩))
    go_ret2
    exact ⟨rfl, bb.trans (bb2.mono bb.size)⟩
  | cons d r =>
    obtain ⟨t0, t1, t2, t3⟩ := take_cons hl
    rw [t3] at hfl
    have hlen := enc_len d
    have hz : f.size = (encodeRune d).length := by have : f.data.toList.length = f.size := by simp
                                                   rw [hfl] at this; exact this.symm
    have ec : YtjbnofljoijnmaaDoor.takeC s.data.toList = if mayU d = false then 0 else d := by
      unfold YtjbnofljoijnmaaDoor.takeC; rw [t1, t2]
      by_cases h : mayU d = false
      · rw [if_pos (.inr h), if_pos h]
      · rw [if_neg h, if_neg]
        intro hh
        rcases hh with hh | hh
        · omega
        · exact h hh
    have en : takeN s.data.toList = if mayU d = false then 0 else f.size := by
      unfold takeN; rw [t1, t2, hz]
      by_cases h : mayU d = false
      · rw [if_pos (.inr h), if_pos h]
      · rw [if_neg h, if_neg]
        intro hh
        rcases hh with hh | hh
        · omega
        · exact h hh
    rw [ec] at hc
    rw [en] at hn
    cases hm : mayU d with
    | false =>
      rw [hm, if_pos rfl] at hc hn
      have hn : (0 : Int) = n := hn
      subst hc hn
      have Hm := hide hm
      have Hfl := hide hfl
      clear hfl hl t1 t2 t3 hm ec en hz hlen
      go_enter Tryd.func38, Tryd.ntmps38
      go_wp2_with (first
        | (go_at_call 52; refine (prefix_is _ f _ hs2 Hf.out).mono ?_; rintro e w1 ⟨rfl, bb⟩)
        | (go_at_call 53; refine (chars_one _ d _ t0 Hfl.out).mono ?_; rintro e w2 ⟨g, cap, rfl, hcell, hg, bb2⟩; replace bb := bb.trans (bb2.mono bb.size); clear bb2)
        | (go_at_call 54; refine (pmay_is d false _ (R1.out.next bb) Hm.out).mono ?_; rintro e w3 ⟨rfl, bb3⟩; replace bb := bb.trans (bb3.mono bb.size)))
      go_ret2
      exact ⟨rfl, bb⟩
    | true =>
      rw [hm, if_neg (by decide)] at hc hn
      subst hc hn
      have Hm := hide hm
      have Hfl := hide hfl
      clear hfl hl t1 t2 t3 hm ec en hz hlen
      go_enter Tryd.func38, Tryd.ntmps38
      go_wp2_with (first
        | (go_at_call 52; refine (prefix_is _ f _ hs2 Hf.out).mono ?_; rintro e w1 ⟨rfl, bb⟩)
        | (go_at_call 53; refine (chars_one _ _ _ t0 Hfl.out).mono ?_; rintro e w2 ⟨g, cap, rfl, hcell, hg, bb2⟩; have hgl := World.block_lt_of_cell? _ _ hcell; replace bb := bb.trans (bb2.mono bb.size); clear bb2)
        | (go_at_call 54; refine (pmay_is _ true _ (R1.out.next bb) Hm.out).mono ?_; rintro e w3 ⟨rfl, bb3⟩; have hcell3 := (bb3.cell (p := ⟨g, 0, none⟩) hgl).trans hcell; replace bb := bb.trans (bb3.mono bb.size); clear bb3))
      go_ret2
      exact ⟨rfl, bb⟩
end Go.Proofs.YtjbnofljoijnmaaDooru
