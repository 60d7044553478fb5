/-
  WALKS: the four closures that utf.each is handed; utf.Bad, Valid, Count, Prefix, Chars.
-/
import Derived.Test.YtikhggdigndhoaauW1
import Derived.Test.YtikhggdigndhoaaShelf
namespace Go.Proofs.Ytikhggdigndhoaau
open Go.RowKit
open Go.Proofs.Ytikhggdigndhoaa (stringslite_Clone)

theorem enters26 : ∀ args w, (callFunc 48 args).run Try.prog w = .ok (.enter 48 args) w := enters_of Try.func48 (by kernel_rfl) rfl
theorem box_iterAt {W : World} {b k : Nat} {o : Obj} {s : ByteArray} {pos : Nat} (h : W.heap[b]? = some o) (hbk : b ≠ k) : (W.iterAt k s pos).heap[b]? = some o := by
  rw [Lib.iterAt_other W k b s pos hbk]; exact h

/-! ### utf.Bad, utf.Valid -/
theorem bad1 (c : Int) (w : World) : Calls Try.prog 48 #[.int .i32 c] w fun e w' => e = .returned (.bool true) ∧ w' = w := by
  go_enter Try.func48, Try.ntmps48
  go_wp2
  go_ret
  exact ⟨rfl, rfl⟩

theorem each_bad (s : ByteArray) (w : World) :
    Calls Try.prog 47 #[.string s, .func (.func 48) #[] #[]] w fun e w' => e = .returned (.int .i64 (blen s.data.toList)) ∧ Below w.heap.size w w' := by
  refine (each_any 48 #[] enters26 s w (fun _ W => Below w.heap.size w W) (fun _ _ _ => False) ((Below.refl _ _).alloc (Nat.le_refl _) _) (fun cs W pos pos' h _ => Lib.below_iterAt h (Nat.le_refl _) s pos') ?_).mono ?_
  · intro cs c W pos hI hit _ _
    refine (bad1 c W).mono ?_
    rintro e w' ⟨rfl, rfl⟩
    exact ⟨true, rfl, hit, fun _ => hI, fun h => by cases h⟩
  · rintro e w' (⟨rfl, h⟩ | ⟨_, _, _, _, _, h⟩)
    · exact ⟨rfl, h⟩
    · exact h.elim

set_option maxHeartbeats 400000 in
theorem bad_any (s : ByteArray) (w : World) :
    Calls Try.prog 41 #[.string s] w fun e w' => e = .returned (.int .i64 (blen s.data.toList)) ∧ Below w.heap.size w w' := by
  go_enter Try.func41, Try.ntmps41
  go_wp2_with (go_at_call 47; refine (each_bad _ _).mono ?_)
  rintro e w' ⟨rfl, h⟩
  go_wp2
  go_ret
  exact ⟨rfl, h⟩

/-- a text is valid -/
def validB (l : List UInt8) : Bool := decide (blen l = l.length)

set_option maxHeartbeats 400000 in
theorem valid_any (s : ByteArray) (w : World) :
    Calls Try.prog 30 #[.string s] w fun e w' => e = .returned (.bool (validB s.data.toList)) ∧ Below w.heap.size w w' := by
  go_enter Try.func30, Try.ntmps30
  go_wp2_with (go_at_call 41; refine (bad_any _ _).mono ?_)
  rintro e w' ⟨rfl, h⟩
  go_wp2
  all_goals go_ret
  all_goals refine ⟨ret_bool ?_, h⟩
  all_goals unfold validB; rw [Bool.eq_iff_iff]; simp
  all_goals omega

/-! ### utf.Count -/
/-- the counter's block behind so many characters -/
def CountInv (w : World) (cs : List Int) (W : World) : Prop := Below w.heap.size w W ∧ W.heap[w.heap.size]? = some (.cells #[.int .i64 cs.length] 3 (0, 0))

theorem new_box (w : World) (v : Value) (t : TypeId) : (w.alloc (.cells #[v] t)).heap[w.heap.size]? = some (.cells #[v] t (0, 0)) := by
  show (w.heap.push _)[w.heap.size]? = _
  simp

/-! ### utf.Prefix -/
/-- the two blocks behind so many characters: how many may be taken, how many were -/
def PrefixInv (w : World) (m : Int) (cs : List Int) (W : World) : Prop :=
  Below w.heap.size w W ∧ W.heap[w.heap.size]? = some (.cells #[.int .i64 m] 3 (0, 0)) ∧ W.heap[w.heap.size + 1]? = some (.cells #[.int .i64 cs.length] 3 (0, 0)) ∧ (cs = [] ∨ (cs.length : Int) ≤ m)

theorem take_pre {cs : List Int} {c : Int} {r l : List Int} {m : Int} (h : l = cs ++ c :: r) (h1 : cs = [] ∨ (cs.length : Int) ≤ m) (h2 : ¬ ((cs.length + 1 : Nat) : Int) ≤ m) : l.take m.toNat = cs := by
  have e : m.toNat = cs.length := by
    rcases h1 with rfl | h1
    · simp at h2 ⊢; omega
    · omega
  rw [h, e]
  simp
theorem take_all {cs : List Int} {m : Int} (h1 : cs = [] ∨ (cs.length : Int) ≤ m) : cs.take m.toNat = cs := by
  rcases h1 with rfl | h1
  · simp
  · apply List.take_of_length_le; omega

theorem text_take (l : List UInt8) (k : Nat) : textL ((chars l).take k) = l.take (textL ((chars l).take k)).length := by
  obtain ⟨t, e, _, _, _⟩ := chars_split l
  have e2 : l = textL ((chars l).take k) ++ (textL ((chars l).drop k) ++ t) := by
    rw [← List.append_assoc, ← textL_append, List.take_append_drop]; exact e
  have h := congrArg (List.take (textL ((chars l).take k)).length) e2
  rw [List.take_left' rfl] at h
  exact h.symm

/-- a text's first characters -/
def prefL (l : List UInt8) (m : Int) : List UInt8 := textL ((chars l).take m.toNat)
theorem prefL_le (l : List UInt8) (m : Int) : (prefL l m).length ≤ l.length := by
  unfold prefL
  rw [text_take, List.length_take]
  omega
theorem extract_pref (s : ByteArray) (m : Int) : s.extract 0 (textL ((chars s.data.toList).take m.toNat)).length = ⟨(prefL s.data.toList m).toArray⟩ := by
  apply ByteArray.ext
  apply Array.toList_inj.1
  rw [← Lib.toList_data, Lib.extract_toList]
  show _ = prefL s.data.toList m
  unfold prefL
  conv => rhs; rw [text_take]
  simp

set_option maxHeartbeats 400000 in
theorem clone_any (s : ByteArray) (w : World) (hlim : s.size ≤ 281474976710656) :
    Calls Try.prog 28 #[.string s] w fun e w' => e = .returned (.string s) ∧ Below w.heap.size w w' := by
  go_enter Try.func28, Try.ntmps28
  go_wp2_with (go_at_call 39; refine (stringslite_Clone _ _ hlim).mono ?_)
  rintro e w' ⟨rfl, h⟩
  go_wp2
  go_ret
  exact ⟨rfl, h⟩

/-! ### utf.Chars -/
theorem info3 : (Try.prog.info? 3).map (fun i => (i.zero, i.size, i.bytes)) = some (some (.int .i64 0), 1, 8) := by kernel_rfl
theorem mapsnoc (cs : List Int) (c : Int) : (cs ++ [c]).map (Value.int .i64) = cs.map (Value.int .i64) ++ [.int .i64 c] := by simp

/-- the slice's block behind so many characters, and what it owns -/
def CharsInv (w : World) (cs : List Int) (W : World) : Prop :=
  Below w.heap.size w W ∧ w.heap.size + 1 < W.heap.size ∧ ∃ v, W.heap[w.heap.size]? = some (.cells #[v] 54 (0, 0)) ∧ W.ownsRow (w.heap.size + 2) 3 1 v cs.length (cs.map (Value.int .i64))

theorem chars_step {w W w1 : World} {cs : List Int} {c : Int} {v v' : Value} {s : ByteArray} {pos : Nat} {o : Obj} (hb : Below w.heap.size w W) (hsz : w.heap.size + 1 < W.heap.size) (hbox : W.heap[w.heap.size]? = some (.cells #[v] 54 (0, 0)))
    (hit : W.heap[w.heap.size + 1]? = some (.stringIter s pos)) (hown : W.ownsRow (w.heap.size + 2) 3 1 v cs.length (cs.map (Value.int .i64)))
    (hown' : w1.ownsRow (w.heap.size + 2) 3 1 v' (cs.length + 1) (cs.map (Value.int .i64) ++ [.int .i64 c])) (hg : (W.alloc o).grownBy w1 v.ownBlock) :
    w1.heap[w.heap.size]? = some (.cells #[v] 54 (0, 0)) ∧ CharsInv w (cs ++ [c]) (w1.setCell ⟨w.heap.size, 0, none⟩ v') ∧ (w1.setCell ⟨w.heap.size, 0, none⟩ v').heap[w.heap.size + 1]? = some (.stringIter s pos) := by
  have hr : ∀ k, v.ownBlock = some k → w.heap.size + 2 ≤ k := fun k hk => (hown.lt k hk).1
  have hza : (W.alloc o).heap.size = W.heap.size + 1 := by simp
  have e0 : w1.heap[w.heap.size]? = some (.cells #[v] 54 (0, 0)) := by
    rw [hg.block _ (by omega) (fun h => by have := hr _ h.symm; omega), Below.heap_alloc _ _ _ (by omega)]; exact hbox
  have e1 : w1.heap[w.heap.size + 1]? = some (.stringIter s pos) := by
    rw [hg.block _ (by omega) (fun h => by have := hr _ h.symm; omega), Below.heap_alloc _ _ _ (by omega)]; exact hit
  have hb1 : Below w.heap.size w w1 := (hb.alloc (by omega) o).grown hg (by omega) (fun k hk => by have := hr k hk; omega)
  have hsz1 : w.heap.size + 1 < (w1.setCell ⟨w.heap.size, 0, none⟩ v').heap.size := by have := hg.size; simp; omega
  refine ⟨e0, ⟨hb1.setCell (Nat.le_refl _) _, hsz1, v', one_setCell e0, ?_⟩, ?_⟩
  · rw [mapsnoc, List.length_append, List.length_singleton]
    exact ownsRow_setCell_below hown' (by simp) _
  · rw [Below.heap_setCell _ _ _ _ (by simp)]; exact e1

end Go.Proofs.Ytikhggdigndhoaau
