/-
  WALKS: the four closures that utf.each is handed; utf.Bad, Valid, Count, Prefix, Chars.
-/
import Derived.Test.YtlhpmijhngojnaaDoorA1
import Derived.Test.YtlhpmijhngojnaaDoorShelf
namespace Go.Proofs.YtlhpmijhngojnaaDoor
open Go.RowKit

theorem enters24 : ∀ args w, (callFunc 28 args).run Tryd.prog w = .ok (.enter 28 args) w := enters_of Tryd.func28 (by kernel_rfl) rfl
theorem enters28 : ∀ args w, (callFunc 26 args).run Tryd.prog w = .ok (.enter 26 args) w := enters_of Tryd.func26 (by kernel_rfl) rfl

theorem box_iterAt {W : World} {b k : Nat} {o : Obj} {s : ByteArray} {pos : Nat} (h : W.heap[b]? = some o) (hbk : b ≠ k) : (W.iterAt k s pos).heap[b]? = some o := by
  rw [Lib.iterAt_other W k b s pos hbk]; exact h

/-! ### utf.Bad, utf.Valid -/
/-- a text is valid -/
def validB (l : List UInt8) : Bool := decide (blen l = l.length)

/-! ### utf.Count -/
theorem new_box (w : World) (v : Value) (t : TypeId) : (w.alloc (.cells #[v] t)).heap[w.heap.size]? = some (.cells #[v] t (0, 0)) := by
  show (w.heap.push _)[w.heap.size]? = _
  simp

/-! ### utf.Prefix -/
set_option maxHeartbeats 400000 in
theorem prefix1 (c : Int) (b a : Nat) (n : Nat) (m : Int) (w : World) (hb : w.heap[b]? = some (.cells #[.int .i64 n] 3 (0, 0))) (ha : w.heap[a]? = some (.cells #[.int .i64 m] 3 (0, 0))) (hab : a ≠ b) (hn : n < 9223372036854775807) :
    Calls Tryd.prog 26 #[.int .i32 c, .pointer (some ⟨b, 0, none⟩), .pointer (some ⟨a, 0, none⟩)] w fun e w' => e = .returned (.bool (decide ((n + 1 : Nat) ≤ m))) ∧ w' = w.setCell ⟨b, 0, none⟩ (.int .i64 (n + 1 : Nat)) := by
  have h1 := cell_of_one hb
  have h2 := free_of_one hb
  have h3 := cell_of_one ha
  have h4 : (w.setCell ⟨b, 0, none⟩ (.int .i64 (n + 1))).cell? ⟨a, 0, none⟩ = some (.int .i64 m) := (World.cell?_of_block (w := w) (a := ⟨a, 0, none⟩) (Below.heap_setCell w ⟨b, 0, none⟩ _ a hab)).trans h3
  go_enter Tryd.func26, Tryd.ntmps26
  go_wp2
  all_goals go_ret
  all_goals exact ⟨rfl, rfl⟩

/-- the two blocks behind so many characters: how many may be taken, how many were -/
def PrefixInv (w : World) (m : Int) (cs : List Int) (W : World) : Prop :=
  Below w.heap.size w W ∧ W.heap[w.heap.size]? = some (.cells #[.int .i64 m] 3 (0, 0)) ∧ W.heap[w.heap.size + 1]? = some (.cells #[.int .i64 cs.length] 3 (0, 0)) ∧ (cs = [] ∨ (cs.length : Int) ≤ m)

theorem take_pre {cs : List Int} {c : Int} {r l : List Int} {m : Int} (h : l = cs ++ c :: r) (h1 : cs = [] ∨ (cs.length : Int) ≤ m) (h2 : ¬ ((cs.length + 1 : Nat) : Int) ≤ m) : l.take m.toNat = cs := by
  have e : m.toNat = cs.length := by
    rcases h1 with rfl | h1
    · simp at h2 ⊢; omega
    · omega
  rw [h, e]
  simp
theorem take_all {cs : List Int} {m : Int} (h1 : cs = [] ∨ (cs.length : Int) ≤ m) : cs.take m.toNat = cs := by
  rcases h1 with rfl | h1
  · simp
  · apply List.take_of_length_le; omega

theorem each_prefix (s : ByteArray) (m : Int) (w : World) (hs : s.size ≤ 9223372036854775807) :
    Calls Tryd.prog 25 #[.string s, .func (.func 26) #[] #[.pointer (some ⟨w.heap.size + 1, 0, none⟩), .pointer (some ⟨w.heap.size, 0, none⟩)]] ((w.alloc (.cells #[.int .i64 m] 3)).alloc (.cells #[.int .i64 0] 3)) fun e w' => e = .returned (.int .i64 (textL ((chars s.data.toList).take m.toNat)).length) ∧ Below w.heap.size w w' := by
  have hz : ((w.alloc (.cells #[.int .i64 m] 3)).alloc (.cells #[.int .i64 0] 3)).heap.size = w.heap.size + 2 := by simp
  have hz1 : (w.alloc (.cells #[.int .i64 m] 3)).heap.size = w.heap.size + 1 := by simp
  refine (each_any 26 _ enters28 s _ (PrefixInv w m) (fun cs _ W => ¬ ((cs.length + 1 : Nat) : Int) ≤ m ∧ (cs = [] ∨ (cs.length : Int) ≤ m) ∧ Below w.heap.size w W) ?_ ?_ ?_).mono ?_
  · refine ⟨(((Below.refl _ _).alloc (Nat.le_refl _) _).alloc (by simp) _).alloc (by omega) _, ?_, ?_, .inl rfl⟩
    · show (((w.alloc (.cells #[.int .i64 m] 3)).alloc (.cells #[.int .i64 0] 3)).alloc (.stringIter s 0)).heap[w.heap.size]? = _
      rw [Below.heap_alloc _ _ _ (by omega), Below.heap_alloc _ _ _ (by omega)]
      exact new_box w _ _
    · show (((w.alloc (.cells #[.int .i64 m] 3)).alloc (.cells #[.int .i64 0] 3)).alloc (.stringIter s 0)).heap[w.heap.size + 1]? = _
      rw [Below.heap_alloc _ _ _ (by omega), ← hz1]
      exact new_box _ _ _
  · intro cs W pos pos' h hit
    rw [hz] at hit ⊢
    exact ⟨Lib.below_iterAt h.1 (by omega) s pos', box_iterAt h.2.1 (by omega), box_iterAt h.2.2.1 (by omega), h.2.2.2⟩
  · intro cs c W pos h hit _ hlt
    rw [hz] at hit ⊢
    refine (prefix1 c (w.heap.size + 1) w.heap.size cs.length m W h.2.2.1 h.2.1 (by omega) (by omega)).mono ?_
    rintro e w' ⟨rfl, rfl⟩
    refine ⟨_, rfl, ?_, fun hd => ⟨h.1.setCell (by simp) _, ?_, ?_, .inr ?_⟩, fun hd => ⟨by simpa using hd, h.2.2.2, h.1.setCell (by simp) _⟩⟩
    · rw [Below.heap_setCell _ _ _ _ (by simp)]; exact hit
    · rw [Below.heap_setCell _ _ _ _ (by simp)]; exact h.2.1
    · rw [one_setCell h.2.2.1]; simp
    · simpa using hd
  · rintro e w' (⟨rfl, h⟩ | ⟨cs, c, r, hc, rfl, h1, h2, h3⟩)
    · refine ⟨?_, h.1⟩
      rw [take_all h.2.2.2]
      obtain ⟨t, _, _, _, hl⟩ := chars_split s.data.toList
      rw [hl]
    · exact ⟨by rw [take_pre hc h2 h1], h3⟩

theorem text_take (l : List UInt8) (k : Nat) : textL ((chars l).take k) = l.take (textL ((chars l).take k)).length := by
  obtain ⟨t, e, _, _, _⟩ := chars_split l
  have e2 : l = textL ((chars l).take k) ++ (textL ((chars l).drop k) ++ t) := by
    rw [← List.append_assoc, ← textL_append, List.take_append_drop]; exact e
  have h := congrArg (List.take (textL ((chars l).take k)).length) e2
  rw [List.take_left' rfl] at h
  exact h.symm

/-- a text's first characters -/
def prefL (l : List UInt8) (m : Int) : List UInt8 := textL ((chars l).take m.toNat)
theorem prefL_le (l : List UInt8) (m : Int) : (prefL l m).length ≤ l.length := by
  unfold prefL
  rw [text_take, List.length_take]
  omega
theorem extract_pref (s : ByteArray) (m : Int) : s.extract 0 (textL ((chars s.data.toList).take m.toNat)).length = ⟨(prefL s.data.toList m).toArray⟩ := by
  apply ByteArray.ext
  apply Array.toList_inj.1
  rw [← Lib.toList_data, Lib.extract_toList]
  show _ = prefL s.data.toList m
  unfold prefL
  conv => rhs; rw [text_take]
  simp

set_option maxHeartbeats 400000 in
theorem clone_any (s : ByteArray) (w : World) (hlim : s.size ≤ 281474976710656) :
    Calls Tryd.prog 27 #[.string s] w fun e w' => e = .returned (.string s) ∧ Below w.heap.size w w' := by
  go_enter Tryd.func27, Tryd.ntmps27
  go_wp2_with (go_at_call 32; refine (stringslite_Clone _ _ hlim).mono ?_)
  rintro e w' ⟨rfl, h⟩
  go_wp2
  go_ret
  exact ⟨rfl, h⟩

set_option maxHeartbeats 400000 in
theorem prefix_any (s : ByteArray) (m : Int) (w : World) (hs : s.size ≤ 281474976710656) :
    Calls Tryd.prog 17 #[.string s, .int .i64 m] w fun e w' => e = .returned (.string ⟨(prefL s.data.toList m).toArray⟩) ∧ Below w.heap.size w w' := by
  have hle := prefL_le s.data.toList m
  have hle2 : (textL ((chars s.data.toList).take m.toNat)).length ≤ s.size := by
    have : s.data.toList.length = s.size := by simp
    unfold prefL at hle
    omega
  have He := hide (extract_pref s m)
  have hsz : (s.extract 0 (textL ((chars s.data.toList).take m.toNat)).length).size ≤ 281474976710656 := by simp; omega
  clear hle
  go_enter Tryd.func17, Tryd.ntmps17
  go_wp2_with (go_at_call 25; refine (each_prefix _ _ _ (by omega)).mono ?_)
  rintro e w1 ⟨rfl, h⟩
  go_wp2_with (go_at_call 27; refine (clone_any _ _ hsz).mono ?_)
  rintro e w2 ⟨rfl, h2⟩
  go_wp2
  go_ret
  exact ⟨by rw [← He.out]; rfl, h.trans (h2.mono h.size)⟩

/-! ### utf.Chars -/
theorem info3 : (Tryd.prog.info? 3).map (fun i => (i.zero, i.size, i.bytes)) = some (some (.int .i64 0), 1, 8) := by kernel_rfl
theorem mapsnoc (cs : List Int) (c : Int) : (cs ++ [c]).map (Value.int .i64) = cs.map (Value.int .i64) ++ [.int .i64 c] := by simp

/-- the slice's block behind so many characters, and what it owns -/
def CharsInv (w : World) (cs : List Int) (W : World) : Prop :=
  Below w.heap.size w W ∧ w.heap.size + 1 < W.heap.size ∧ ∃ v, W.heap[w.heap.size]? = some (.cells #[v] 35 (0, 0)) ∧ W.ownsRow (w.heap.size + 2) 3 1 v cs.length (cs.map (Value.int .i64))

theorem chars_step {w W w1 : World} {cs : List Int} {c : Int} {v v' : Value} {s : ByteArray} {pos : Nat} {o : Obj} (hb : Below w.heap.size w W) (hsz : w.heap.size + 1 < W.heap.size) (hbox : W.heap[w.heap.size]? = some (.cells #[v] 35 (0, 0)))
    (hit : W.heap[w.heap.size + 1]? = some (.stringIter s pos)) (hown : W.ownsRow (w.heap.size + 2) 3 1 v cs.length (cs.map (Value.int .i64)))
    (hown' : w1.ownsRow (w.heap.size + 2) 3 1 v' (cs.length + 1) (cs.map (Value.int .i64) ++ [.int .i64 c])) (hg : (W.alloc o).grownBy w1 v.ownBlock) :
    w1.heap[w.heap.size]? = some (.cells #[v] 35 (0, 0)) ∧ CharsInv w (cs ++ [c]) (w1.setCell ⟨w.heap.size, 0, none⟩ v') ∧ (w1.setCell ⟨w.heap.size, 0, none⟩ v').heap[w.heap.size + 1]? = some (.stringIter s pos) := by
  have hr : ∀ k, v.ownBlock = some k → w.heap.size + 2 ≤ k := fun k hk => (hown.lt k hk).1
  have hza : (W.alloc o).heap.size = W.heap.size + 1 := by simp
  have e0 : w1.heap[w.heap.size]? = some (.cells #[v] 35 (0, 0)) := by
    rw [hg.block _ (by omega) (fun h => by have := hr _ h.symm; omega), Below.heap_alloc _ _ _ (by omega)]; exact hbox
  have e1 : w1.heap[w.heap.size + 1]? = some (.stringIter s pos) := by
    rw [hg.block _ (by omega) (fun h => by have := hr _ h.symm; omega), Below.heap_alloc _ _ _ (by omega)]; exact hit
  have hb1 : Below w.heap.size w w1 := (hb.alloc (by omega) o).grown hg (by omega) (fun k hk => by have := hr k hk; omega)
  have hsz1 : w.heap.size + 1 < (w1.setCell ⟨w.heap.size, 0, none⟩ v').heap.size := by have := hg.size; simp; omega
  refine ⟨e0, ⟨hb1.setCell (Nat.le_refl _) _, hsz1, v', one_setCell e0, ?_⟩, ?_⟩
  · rw [mapsnoc, List.length_append, List.length_singleton]
    exact ownsRow_setCell_below hown' (by simp) _
  · rw [Below.heap_setCell _ _ _ _ (by simp)]; exact e1

set_option maxHeartbeats 400000 in
theorem chars1 (c : Int) (s : ByteArray) (pos : Nat) (cs : List Int) (w W : World) (hI : CharsInv w cs W) (hit : W.heap[w.heap.size + 1]? = some (.stringIter s pos)) (hc : 0 ≤ c ∧ c ≤ 1114111) (hn : cs.length < 17592186044415) :
    Calls Tryd.prog 28 #[.int .i32 c, .pointer (some ⟨w.heap.size, 0, none⟩)] W fun e w' => e = .returned (.bool true) ∧ CharsInv w (cs ++ [c]) w' ∧ w'.heap[w.heap.size + 1]? = some (.stringIter s pos) := by
  obtain ⟨i0, hi, hz0, hz1, hz2⟩ := info_parts info3
  obtain ⟨hb, hsz, v, hbox, hown⟩ := hI
  have h1 := cell_of_one hbox
  have h2 := free_of_one hbox
  have Hbox := hide hbox
  have Hit := hide hit
  clear hbox hit
  have hvs : ∃ a n c', v = .slice a n c' := by
    rcases hown.2 with ⟨rfl, _⟩ | ⟨g, cap, cur, rfl, _⟩
    · exact ⟨_, _, _, rfl⟩
    · exact ⟨_, _, _, rfl⟩
  obtain ⟨va, vn, vc, hv⟩ := hvs
  subst hv
  go_enter Tryd.func28, Tryd.ntmps28
  go_wp2_with (first
    | (at_builtin; refine wpList_append_own _ rfl _ _ 35 rfl (w.heap.size + 2) 3 i0 (.int .i64 0) 1 8 Tryd.underlying35 hi hz0 hz1 hz2 rfl (by decide) _ _ _ rfl (hown.alloc _) ⟨W.heap.size, 0, none⟩ 1 1 [.int .i64 c] rfl rfl ?c1 ?c2 ?c3 ?c4 ?c5 ?_))
  case c1 =>
    intro j u hj
    match j, hj with
    | 0, hj => simp at hj; subst hj; simp [Addr.add]
  case c2 => intro u hu; simp at hu; subst hu; rfl
  case c3 => unfold maxLen; omega
  case c4 => omega
  case c5 => simp; omega
  · intro v' w1 hown' hgrow _
    obtain ⟨k1, k2, k3⟩ := chars_step hb hsz Hbox.out Hit.out hown hown' hgrow
    have hvs' : ∃ a n c', v' = .slice a n c' := by
      rcases hown'.2 with ⟨rfl, _⟩ | ⟨g, cap, cur, rfl, _⟩
      · exact ⟨_, _, _, rfl⟩
      · exact ⟨_, _, _, rfl⟩
    obtain ⟨va', vn', vc', hv'⟩ := hvs'
    rw [hv'] at k2 k3 ⊢
    clear hown' hgrow hown hv'
    have h3 := cell_of_one k1
    have h4 := free_of_one k1
    go_wp2
    go_ret
    exact ⟨rfl, k2, k3⟩

theorem each_chars (s : ByteArray) (w : World) (hs : s.size ≤ 17592186044415) :
    Calls Tryd.prog 25 #[.string s, .func (.func 28) #[] #[.pointer (some ⟨w.heap.size, 0, none⟩)]] (w.alloc (.cells #[.slice none 0 0] 35)) fun e w' => e = .returned (.int .i64 (blen s.data.toList)) ∧ CharsInv w (chars s.data.toList) w' := by
  have hz : (w.alloc (.cells #[.slice none 0 0] 35)).heap.size = w.heap.size + 1 := by simp
  refine (each_any 28 _ enters24 s _ (CharsInv w) (fun _ _ _ => False) ?_ ?_ ?_).mono ?_
  · refine ⟨((Below.refl _ _).alloc (Nat.le_refl _) _).alloc (by simp) _, ?_, .slice none 0 0, ?_, World.ownsRow_nil _ _ _ _⟩
    · show _ < ((w.alloc (.cells #[.slice none 0 0] 35)).alloc (.stringIter s 0)).heap.size
      simp
    · show ((w.alloc (.cells #[.slice none 0 0] 35)).alloc (.stringIter s 0)).heap[w.heap.size]? = _
      rw [Below.heap_alloc _ _ _ (by simp)]
      exact new_box w _ _
  · intro cs W pos pos' h hit
    rw [hz] at hit ⊢
    obtain ⟨v, h1, h2⟩ := h.2.2
    exact ⟨Lib.below_iterAt h.1 (by omega) s pos', by rw [Lib.iterAt_size]; exact h.2.1, v, box_iterAt h1 (by omega), ownsRow_iterAt h2 (by omega) s pos'⟩
  · intro cs c W pos h hit hm hlt
    rw [hz] at hit ⊢
    have hm' := (mayB_iff c).1 hm
    refine (chars1 c s pos cs w W h hit (by omega) (by omega)).mono ?_
    rintro e w' ⟨rfl, h1, h2⟩
    exact ⟨true, rfl, h2, fun _ => h1, fun h => by cases h⟩
  · rintro e w' (⟨rfl, h⟩ | ⟨_, _, _, _, _, h⟩)
    · exact ⟨rfl, h⟩
    · exact h.elim

set_option maxHeartbeats 400000 in
theorem chars_yes (s : ByteArray) (w : World) (hs : s.size ≤ 17592186044415) (hv : validB s.data.toList = true) :
    Calls Tryd.prog 18 #[.string s] w fun e w' => ∃ v, e = .returned (.tuple #[v, .bool true]) ∧ w'.ownsRow w.heap.size 3 1 v (chars s.data.toList).length ((chars s.data.toList).map (Value.int .i64)) ∧ Below w.heap.size w w' := by
  have hb : blen s.data.toList = s.size := by simpa [validB] using hv
  have Hb := hide hb
  have hle : s.size ≤ blen s.data.toList := by omega
  clear hb hv
  go_enter Tryd.func18, Tryd.ntmps18
  go_wp2_with (go_at_call 25; refine (each_chars _ _ hs).mono ?_)
  rintro e w1 ⟨rfl, h, _, v, hbox, hown⟩
  have h1 := cell_of_one hbox
  have hown2 : w1.ownsRow w.heap.size 3 1 v (chars s.data.toList).length ((chars s.data.toList).map (Value.int .i64)) := by
    refine ⟨hown.1, ?_⟩
    rcases hown.2 with h | ⟨g, cap, cur, h1, h2, h3⟩
    · exact .inl h
    · exact .inr ⟨g, cap, cur, h1, by omega, h3⟩
  have Hown := hide hown2
  have hvs : ∃ a n c', v = .slice a n c' := by
    rcases hown.2 with ⟨rfl, _⟩ | ⟨g, cap, cur, rfl, _⟩
    · exact ⟨_, _, _, rfl⟩
    · exact ⟨_, _, _, rfl⟩
  obtain ⟨va, vn, vc, hv⟩ := hvs
  subst hv
  clear hown hown2 hbox
  go_wp2
  go_ret2
  exact ⟨_, rfl, Hown.out, h⟩

set_option maxHeartbeats 400000 in
theorem chars_no (s : ByteArray) (w : World) (hs : s.size ≤ 17592186044415) (hv : validB s.data.toList = false) :
    Calls Tryd.prog 18 #[.string s] w fun e w' => e = .returned (.tuple #[.slice none 0 0, .bool false]) ∧ Below w.heap.size w w' := by
  have hb : blen s.data.toList ≠ s.size := by simpa [validB] using hv
  have hle : blen s.data.toList < s.size := by have := blen_le s.data.toList; simp at this; omega
  clear hb hv
  go_enter Tryd.func18, Tryd.ntmps18
  go_wp2_with (go_at_call 25; refine (each_chars _ _ hs).mono ?_)
  rintro e w1 ⟨rfl, h, _⟩
  go_wp2
  go_ret2
  exact ⟨rfl, h⟩
end Go.Proofs.YtlhpmijhngojnaaDoor
