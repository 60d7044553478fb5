/-
  TEXTS JOINED: uW1, uW2, uW3, uW4, uF, uW6.
-/
import Derived.Lib.OthersKept
import Derived.Shelf.RegionOpenPlain
import Derived.Test.YtpfcfadbilaleaaProg
import Derived.WalkKit
import Derived.WalkLawsBesides
import Derived.WalkSpells
import Derived.Test.YtpfcfadbilaleaaQ01
/-
  WALKS: utf.May and the reference's May; utf.broken; utf.each, whatever closure it is handed.
-/
namespace Go.Proofs.Ytpfcfadbilaleaau
open Go.RowKit

theorem hide {p : Prop} (h : p) : Hid p := h
theorem ret_bool {a b : Bool} (h : a = b) : Ending.returned (.bool a) = .returned (.bool b) := by rw [h]
theorem ret_int {k : IntKind} {a b : Int} (h : a = b) : Ending.returned (.int k a) = .returned (.int k b) := by rw [h]

set_option maxHeartbeats 400000 in
theorem rmay_any (c : Int) (w : World) :
    Calls Try.prog 90 #[.int .i64 c] w fun e w' => e = .returned (.bool (mayB c)) ∧ w' = w := by
  go_enter Try.func90, Try.ntmps90
  go_wp2
  all_goals go_ret
  all_goals refine ⟨ret_bool ?_, rfl⟩
  all_goals unfold mayB; simp [*]
  all_goals omega

set_option maxHeartbeats 400000 in
theorem broken_any (c : Int) (s : ByteArray) (w : World) :
    Calls Try.prog 96 #[.int .i32 c, .string s] w fun e w' => e = .returned (.bool (brokenB c s.data.toList)) ∧ w' = w := by
  have hx : (s.extract 0 3).toList = s.data.toList.take 3 := by rw [Lib.extract_toList]; rfl
  have hl : s.data.toList.length = s.size := by simp
  go_enter Try.func96, Try.ntmps96
  go_wp2
  · go_ret
    refine ⟨ret_bool ?_, rfl⟩
    unfold brokenB
    rw [Bool.eq_iff_iff]
    simp [*]
  · go_ret
    refine ⟨ret_bool ?_, rfl⟩
    unfold brokenB
    have : s.data.toList.take 3 ≠ [239, 191, 189] := by
      intro h
      have := congrArg List.length h
      simp at this
      omega
    simp [this]
  · go_ret
    refine ⟨ret_bool ?_, rfl⟩
    unfold brokenB
    simp
    intro h
    simp [h] at *


theorem extract_rest (s : ByteArray) (pos : Nat) : (s.extract pos s.size).data.toList = s.data.toList.drop pos := by
  rw [← Lib.toList_data, Lib.extract_toList]
  apply List.take_of_length_le
  simp

theorem broken_is (c : Int) (s : ByteArray) (w : World) (b : Bool) (h : brokenB c s.data.toList = b) :
    Calls Try.prog 96 #[.int .i32 c, .string s] w fun e w' => e = .returned (.bool b) ∧ w' = w := by
  subst h
  exact broken_any c s w

theorem chars_at {l : List UInt8} {cs : List Int} {t : List UInt8} (h : l = textL cs ++ t) (hm : allMay cs = true) (ht : t = [] ∨ badL t = true) : chars l = cs ∧ blen l = (textL cs).length := by
  rw [h]; exact chars_of cs t hm ht

set_option maxHeartbeats 1000000 in
/-- utf.each over any closure: 'Inv cs W': what the world is like when just the characters cs have been taken; 'Stop cs c W': when behind them c was refused. -/
theorem each_any (g : Nat) (lb : Array Value) (eg : ∀ args w, (callFunc g args).run Try.prog w = .ok (.enter g args) w) (s : ByteArray) (w : World)
    (Inv : List Int → World → Prop) (Stop : List Int → Int → World → Prop)
    (h0 : Inv [] (w.iter s 0))
    (hmove : ∀ cs W pos pos', Inv cs W → W.heap[w.heap.size]? = some (.stringIter s pos) → Inv cs (W.iterAt w.heap.size s pos'))
    (hstep : ∀ cs c W pos, Inv cs W → W.heap[w.heap.size]? = some (.stringIter s pos) → mayB c = true → cs.length < s.size →
      Calls Try.prog g (#[.int .i32 c] ++ lb) W fun e w' => ∃ b, e = .returned (.bool b) ∧ w'.heap[w.heap.size]? = some (.stringIter s pos) ∧ (b = true → Inv (cs ++ [c]) w') ∧ (b = false → Stop cs c w')) :
    Calls Try.prog 86 #[.string s, .func (.func g) #[] lb] w fun e w' =>
      (e = .returned (.int .i64 (blen s.data.toList)) ∧ Inv (chars s.data.toList) w') ∨
      (∃ cs c r, chars s.data.toList = cs ++ c :: r ∧ e = .returned (.int .i64 (textL cs).length) ∧ Stop cs c w') := by
  have Hm := hide hmove
  have Hs := hide hstep
  clear hmove hstep
  go_enter Try.func86, Try.ntmps86
  go_wp2
  go_loopw [] (fun wr => ∃ (cs : List Int) (t : List UInt8), wr.heap[w.heap.size]? = some (.stringIter s (textL cs).length) ∧ s.data.toList = textL cs ++ t ∧ allMay cs = true ∧ Inv cs wr) (fun wr => s.size - wr.iterPos (w.heap.size))
  case atStart => exact ⟨[], s.data.toList, World.iter_heap w s 0, rfl, rfl, h0⟩
  case round =>
    obtain ⟨cs, t, hit, hst, hm, hI⟩ := hrel
    have hlen : s.size = (textL cs).length + t.length := by
      have := congrArg List.length hst
      simpa using this
    have hcl := (textL_len cs).1
    generalize hpe : (textL cs).length = pos at hit hlen hcl
    have hdr : s.data.toList.drop pos = t := by rw [hst, ← hpe, List.drop_left]
    have hdd : Lib.decodeL t = Utf8.decode s pos := by rw [← hdr]; exact Lib.decodeL_drop s pos
    have hrest : (s.extract pos s.size).data.toList = t := by rw [extract_rest, hdr]
    have Hst := hide hst
    have Hpe := hide hpe
    have Hdd := hide hdd
    have Hrest := hide hrest
    have Hlen := hide hlen
    have hm1 := dec_may t
    rw [hdd] at hm1
    have Hm1 := hide hm1
    clear hst hdr hpe hdd hrest hlen hm1
    by_cases hp : pos < s.size
    · have hne : t ≠ [] := by intro h; have := Hlen.out; rw [h] at this; simp at this; omega
      have hbr := broken_eq t hne
      rw [Hdd.out] at hbr
      have Hbr := hide hbr
      have Hne := hide hne
      clear hbr hne
      have hnx : ∀ ty, (Instr.next (.pointer (some ⟨w.heap.size, 0, none⟩)) true ty).run Try.prog wr = _ := fun ty => Lib.run_next_any_at wr (w.heap.size) s pos ty hit hp
      have hit2 := Lib.iterAt_heap wr w.heap.size s pos (pos + (Utf8.decode s pos).2) hit
      have hI2 := Hm.out cs wr pos (pos + (Utf8.decode s pos).2) hI hit
      cases hb : badL t with
      | true =>
        have Hb := hide hb
        clear hb
        go_wp2_with (go_at_call 96; refine (broken_is _ _ _ true (by rw [Hrest.out, Hbr.out]; exact Hb.out)).mono ?_; rintro e w' ⟨rfl, hw⟩; rw [hw])
        go_ret
        obtain ⟨hc1, hc2⟩ := chars_at Hst.out hm (.inr Hb.out)
        exact .inl ⟨by rw [hc2, Hpe.out]; rfl, by rw [hc1]; exact hI2⟩
      | false =>
        have Hb := hide hb
        clear hb
        go_wp2_with (first | (go_at_call 96; refine (broken_is _ _ _ false (by rw [Hrest.out, Hbr.out]; exact Hb.out)).mono ?_; rintro e w' ⟨rfl, hw⟩; rw [hw]) | (go_at_fn g; refine (Hs.out cs _ _ _ hI2 hit2 Hm1.out (by omega)).mono ?_))
        rintro e w1 ⟨b, rfl, hit3, hT, hF⟩
        have hg := dec_good t Hne.out Hb.out
        rw [Hdd.out] at hg
        have hst2 : s.data.toList = textL (cs ++ [((Utf8.decode s pos).1 : Int)]) ++ t.drop (Utf8.decode s pos).2 := by
          rw [textL_append, textL_one, List.append_assoc, ← hg.1]; exact Hst.out
        have hm2 : allMay (cs ++ [((Utf8.decode s pos).1 : Int)]) = true := by
          rw [allMay_append, hm, allMay_cons, Hm1.out]; rfl
        have hpos2 : (textL (cs ++ [((Utf8.decode s pos).1 : Int)])).length = pos + (Utf8.decode s pos).2 := by
          rw [textL_append, textL_one, List.length_append, Hpe.out, hg.2]
        have hwd := Lib.width_pos s pos
        have Hst2 := hide hst2
        have Hpos2 := hide hpos2
        clear hst2 hpos2 hg
        cases b with
        | true =>
          have hI3 := hT rfl
          clear hT hF
          go_wp2
          go_roundw
          case rel => exact ⟨_, _, by rw [Hpos2.out]; exact hit3, Hst2.out, hm2, hI3⟩
          case measure =>
            simp only [World.iterPos, hit3, hit]
            omega
        | false =>
          have hS := hF rfl
          clear hT hF
          go_wp2
          go_ret
          refine .inr ⟨cs, ((Utf8.decode s pos).1 : Int), chars (t.drop (Utf8.decode s pos).2), ?_, by rw [Hpe.out]; rfl, hS⟩
          have := (chars_append _ (t.drop (Utf8.decode s pos).2) hm2).1
          rw [← Hst2.out] at this
          rw [this]
          simp
    · have hnx : ∀ ty, (Instr.next (.pointer (some ⟨w.heap.size, 0, none⟩)) true ty).run Try.prog wr = _ := fun ty => Lib.run_next_end_at wr (w.heap.size) s pos ty hit hp
      have ht : t = [] := List.eq_nil_of_length_eq_zero (by have := Hlen.out; omega)
      obtain ⟨hc1, hc2⟩ := chars_at Hst.out hm (.inl ht)
      have e1 : s.size = pos := by have := Hlen.out; rw [ht] at this; simpa using this
      have He := hide e1
      have Ht := hide ht
      have Hc1 := hide hc1
      have Hc2 := hide hc2
      clear e1 ht hc1 hc2
      go_wp2
      go_ret
      exact .inl ⟨by rw [Hc2.out, Hpe.out]; exact ret_int (by rw [He.out]), by rw [Hc1.out]; exact hI⟩
end Go.Proofs.Ytpfcfadbilaleaau
/-
  WALKS: the four closures that utf.each is handed; utf.Bad, Valid, Count, Prefix, Chars.
-/
namespace Go.Proofs.Ytpfcfadbilaleaau
open Go.RowKit

theorem enters26 : ∀ args w, (callFunc 87 args).run Try.prog w = .ok (.enter 87 args) w := enters_of Try.func87 (by kernel_rfl) rfl
theorem box_iterAt {W : World} {b k : Nat} {o : Obj} {s : ByteArray} {pos : Nat} (h : W.heap[b]? = some o) (hbk : b ≠ k) : (W.iterAt k s pos).heap[b]? = some o := by
  rw [Lib.iterAt_other W k b s pos hbk]; exact h

/-! ### utf.Bad, utf.Valid -/
theorem bad1 (c : Int) (w : World) : Calls Try.prog 87 #[.int .i32 c] w fun e w' => e = .returned (.bool true) ∧ w' = w := by
  go_enter Try.func87, Try.ntmps87
  go_wp2
  go_ret
  exact ⟨rfl, rfl⟩

theorem each_bad (s : ByteArray) (w : World) :
    Calls Try.prog 86 #[.string s, .func (.func 87) #[] #[]] w fun e w' => e = .returned (.int .i64 (blen s.data.toList)) ∧ Below w.heap.size w w' := by
  refine (each_any 87 #[] enters26 s w (fun _ W => Below w.heap.size w W) (fun _ _ _ => False) ((Below.refl _ _).alloc (Nat.le_refl _) _) (fun cs W pos pos' h _ => Lib.below_iterAt h (Nat.le_refl _) s pos') ?_).mono ?_
  · intro cs c W pos hI hit _ _
    refine (bad1 c W).mono ?_
    rintro e w' ⟨rfl, rfl⟩
    exact ⟨true, rfl, hit, fun _ => hI, fun h => by cases h⟩
  · rintro e w' (⟨rfl, h⟩ | ⟨_, _, _, _, _, h⟩)
    · exact ⟨rfl, h⟩
    · exact h.elim

set_option maxHeartbeats 400000 in
theorem bad_any (s : ByteArray) (w : World) :
    Calls Try.prog 73 #[.string s] w fun e w' => e = .returned (.int .i64 (blen s.data.toList)) ∧ Below w.heap.size w w' := by
  go_enter Try.func73, Try.ntmps73
  go_wp2_with (go_at_call 86; refine (each_bad _ _).mono ?_)
  rintro e w' ⟨rfl, h⟩
  go_wp2
  go_ret
  exact ⟨rfl, h⟩

/-- a text is valid -/
def validB (l : List UInt8) : Bool := decide (blen l = l.length)

set_option maxHeartbeats 400000 in
theorem valid_any (s : ByteArray) (w : World) :
    Calls Try.prog 49 #[.string s] w fun e w' => e = .returned (.bool (validB s.data.toList)) ∧ Below w.heap.size w w' := by
  go_enter Try.func49, Try.ntmps49
  go_wp2_with (go_at_call 73; refine (bad_any _ _).mono ?_)
  rintro e w' ⟨rfl, h⟩
  go_wp2
  all_goals go_ret
  all_goals refine ⟨ret_bool ?_, h⟩
  all_goals unfold validB; rw [Bool.eq_iff_iff]; simp
  all_goals omega

/-! ### utf.Count -/
theorem new_box (w : World) (v : Value) (t : TypeId) : (w.alloc (.cells #[v] t)).heap[w.heap.size]? = some (.cells #[v] t (0, 0)) := by
  show (w.heap.push _)[w.heap.size]? = _
  simp

/-! ### utf.Prefix -/
/-- the two blocks behind so many characters: how many may be taken, how many were -/
def PrefixInv (w : World) (m : Int) (cs : List Int) (W : World) : Prop :=
  Below w.heap.size w W ∧ W.heap[w.heap.size]? = some (.cells #[.int .i64 m] 3 (0, 0)) ∧ W.heap[w.heap.size + 1]? = some (.cells #[.int .i64 cs.length] 3 (0, 0)) ∧ (cs = [] ∨ (cs.length : Int) ≤ m)

theorem take_pre {cs : List Int} {c : Int} {r l : List Int} {m : Int} (h : l = cs ++ c :: r) (h1 : cs = [] ∨ (cs.length : Int) ≤ m) (h2 : ¬ ((cs.length + 1 : Nat) : Int) ≤ m) : l.take m.toNat = cs := by
  have e : m.toNat = cs.length := by
    rcases h1 with rfl | h1
    · simp at h2 ⊢; omega
    · omega
  rw [h, e]
  simp
theorem take_all {cs : List Int} {m : Int} (h1 : cs = [] ∨ (cs.length : Int) ≤ m) : cs.take m.toNat = cs := by
  rcases h1 with rfl | h1
  · simp
  · apply List.take_of_length_le; omega

theorem text_take (l : List UInt8) (k : Nat) : textL ((chars l).take k) = l.take (textL ((chars l).take k)).length := by
  obtain ⟨t, e, _, _, _⟩ := chars_split l
  have e2 : l = textL ((chars l).take k) ++ (textL ((chars l).drop k) ++ t) := by
    rw [← List.append_assoc, ← textL_append, List.take_append_drop]; exact e
  have h := congrArg (List.take (textL ((chars l).take k)).length) e2
  rw [List.take_left' rfl] at h
  exact h.symm

/-- a text's first characters -/
def prefL (l : List UInt8) (m : Int) : List UInt8 := textL ((chars l).take m.toNat)
theorem prefL_le (l : List UInt8) (m : Int) : (prefL l m).length ≤ l.length := by
  unfold prefL
  rw [text_take, List.length_take]
  omega
theorem extract_pref (s : ByteArray) (m : Int) : s.extract 0 (textL ((chars s.data.toList).take m.toNat)).length = ⟨(prefL s.data.toList m).toArray⟩ := by
  apply ByteArray.ext
  apply Array.toList_inj.1
  rw [← Lib.toList_data, Lib.extract_toList]
  show _ = prefL s.data.toList m
  unfold prefL
  conv => rhs; rw [text_take]
  simp

set_option maxHeartbeats 400000 in
/-! ### utf.Chars -/
theorem info3 : (Try.prog.info? 3).map (fun i => (i.zero, i.size, i.bytes)) = some (some (.int .i64 0), 1, 8) := by kernel_rfl
theorem mapsnoc (cs : List Int) (c : Int) : (cs ++ [c]).map (Value.int .i64) = cs.map (Value.int .i64) ++ [.int .i64 c] := by simp

end Go.Proofs.Ytpfcfadbilaleaau
/-
  WALKS: utf.Text; the reference's tail, One, Text, Same.
-/
namespace Go.Proofs.Ytpfcfadbilaleaau
open Go.RowKit

theorem rmay_is (c : Int) (w : World) (b : Bool) (h : mayB c = b) : Calls Try.prog 90 #[.int .i64 c] w fun e w' => e = .returned (.bool b) ∧ w' = w := by
  subst h; exact rmay_any c w

theorem take_snoc (zs : List Int) (k : Nat) (h : k < zs.length) : zs.take (k + 1) = zs.take k ++ [zs.getD k 0] := by
  rw [List.take_succ_eq_append_getElem h, List.getD_eq_getElem?_getD, List.getElem?_eq_getElem h]; rfl
theorem lt_of_cell {w : World} {b o : Nat} {v : Value} (h : w.cell? ⟨b, o, none⟩ = some v) : b < w.heap.size := by
  apply Classical.byContradiction
  intro hn
  have : w.heap[b]? = none := by simp; omega
  simp [World.cell?, this] at h

/-- what Text answers -/
def textR (zs : List Int) : Value := if allMay zs = true then .tuple #[.string ⟨(textL zs).toArray⟩, .bool true] else .tuple #[.string ⟨#[]⟩, .bool false]

/-- a slice value whose elements are these numbers -/
def IntsAt (w : World) (v : Value) (zs : List Int) : Prop :=
  (zs = [] ∧ ∃ ao cap, v = .slice ao 0 cap) ∨ (0 < zs.length ∧ ∃ b off cap, v = .slice (some ⟨b, off, none⟩) zs.length cap ∧ ∀ k, k < zs.length → w.cell? ⟨b, off + k, none⟩ = some (.int .i64 (zs.getD k 0)))

theorem IntsAt.later {w w' : World} {v : Value} {zs : List Int} (h : IntsAt w v zs) (hb : Below w.heap.size w w') : IntsAt w' v zs := by
  rcases h with h | ⟨hp, b, off, cap, rfl, hc⟩
  · exact .inl h
  · exact .inr ⟨hp, b, off, cap, rfl, fun k hk => (hb.cell (p := ⟨b, off + k, none⟩) (lt_of_cell (hc 0 hp))).trans (hc k hk)⟩

theorem IntsAt.of_owns {w : World} {base : Nat} {v : Value} {zs : List Int} (h : w.ownsRow base 3 1 v zs.length (zs.map (Value.int .i64))) : IntsAt w v zs := by
  rcases h.2 with ⟨rfl, h0⟩ | ⟨g, cap, cur, rfl, _, hg, hn, hm, hs, ht⟩
  · exact .inl ⟨List.eq_nil_of_length_eq_zero h0, _, _, rfl⟩
  · by_cases hp : 0 < zs.length
    · refine .inr ⟨hp, g, 0, cap, rfl, fun k hk => ?_⟩
      rw [Nat.zero_add, World.ownsRow.cellAt h k (by omega)]
      simp [hk]
    · have : zs = [] := List.eq_nil_of_length_eq_zero (by omega)
      subst this
      exact .inl ⟨rfl, _, _, rfl⟩

end Go.Proofs.Ytpfcfadbilaleaau
/-
  WALKS: awake: the statements' own first look.
-/
namespace Go.Proofs.Ytpfcfadbilaleaau
open Go.RowKit

theorem v1 : validB [195, 169] = true := by decide
theorem c1 : chars [195, 169] = [233] := by decide
theorem t1 : textR [233] = .tuple #[.string ⟨#[195, 169]⟩, .bool true] := by
  have a : allMay [233] = true := by decide
  have b : textL [233] = [195, 169] := by decide
  simp [textR, a, b]
theorem v2 : validB [195] = false := by decide
theorem c2 : (chars [97, 195, 169]).length = 2 := by decide

end Go.Proofs.Ytpfcfadbilaleaau
/-
  PLAIN LEAN: the reference's way to find a text's first character.
-/
namespace Go.Proofs.Ytpfcfadbilaleaau
open Go.Lib

/-- what the first byte says, by the reference's tests -/
def lead (b : Nat) : Int := if 240 ≤ b then (b : Int) - 240 else if 224 ≤ b then (b : Int) - 224 else if 192 ≤ b then (b : Int) - 192 else b
/-- the reference's c behind so many bytes -/
def cand (l : List UInt8) : Nat → Int
  | 0 => 0
  | 1 => lead (l.getD 0 0).toNat
  | (n + 2) => 64 * cand l (n + 1) + ((l.getD (n + 1) 0).toNat : Int) % 64
/-- the reference's test -/
def hit (l : List UInt8) (n : Nat) : Bool := mayB (cand l n) && (encodeRune (cand l n) == l.take n)

theorem lead_bd (b : Nat) (h : b < 256) : 0 ≤ lead b ∧ lead b ≤ 191 := by
  unfold lead
  split
  · omega
  · split
    · omega
    · split <;> omega
theorem byte_lt (x : UInt8) : x.toNat < 256 := UInt8.toNat_lt x
theorem cand_bd (l : List UInt8) : ∀ n, n ≤ 4 → 0 ≤ cand l n ∧ cand l n ≤ 60000000 := by
  have h1 := lead_bd _ (byte_lt (l.getD 0 0))
  intro n hn
  match n, hn with
  | 0, _ => simp [cand]
  | 1, _ => simp only [cand]; omega
  | 2, _ => simp only [cand]; omega
  | 3, _ => simp only [cand]; omega
  | 4, _ => simp only [cand]; omega

/-- a hit is what is decoded -/
theorem hit_dec (l : List UInt8) (n : Nat) (hn : n ≤ l.length) (h : hit l n = true) : (decodeL l) = ((cand l n).toNat, n) ∧ badL l = false ∧ 0 ≤ cand l n := by
  unfold hit at h
  rw [Bool.and_eq_true, beq_iff_eq] at h
  have e : l = encodeRune (cand l n) ++ l.drop n := by rw [h.2, List.take_append_drop]
  have hl : (encodeRune (cand l n)).length = n := by rw [h.2, List.length_take]; omega
  have hd := dec_enc (cand l n) h.1 (l.drop n)
  have hb := not_bad_enc (cand l n) h.1 (l.drop n)
  rw [← e] at hd hb
  rw [hl] at hd
  exact ⟨hd, hb, ((mayB_iff _).1 h.1).1⟩

theorem cand_enc (c : Int) (h : mayB c = true) (t : List UInt8) : cand (encodeRune c ++ t) (encodeRune c).length = c := by
  obtain ⟨x, rfl, hx, e | ⟨h1, h2, e⟩ | ⟨h1, h2, e⟩ | ⟨h1, e⟩⟩ := enc_shape c h
  · rw [e.2]
    simp only [List.length_cons, List.length_nil, List.cons_append, List.nil_append, cand, List.getD_cons_zero, u8 x (by omega), lead]
    split
    · omega
    · split
      · omega
      · split <;> omega
  · rw [e]
    simp only [List.length_cons, List.length_nil, List.cons_append, List.nil_append, cand, List.getD_cons_zero, List.getD_cons_succ, u8 (192 + x / 64) (by omega), u8 (128 + x % 64) (by omega), lead]
    split
    · omega
    · split
      · omega
      · split <;> omega
  · rw [e]
    simp only [List.length_cons, List.length_nil, List.cons_append, List.nil_append, cand, List.getD_cons_zero, List.getD_cons_succ, u8 (224 + x / 4096) (by omega), u8 (128 + x / 64 % 64) (by omega), u8 (128 + x % 64) (by omega), lead]
    split
    · omega
    · split <;> omega
  · rw [e]
    simp only [List.length_cons, List.length_nil, List.cons_append, List.nil_append, cand, List.getD_cons_zero, List.getD_cons_succ, u8 (240 + x / 262144) (by omega), u8 (128 + x / 4096 % 64) (by omega), u8 (128 + x / 64 % 64) (by omega), u8 (128 + x % 64) (by omega), lead]
    split <;> omega

/-- where something is decoded the reference hits -/
theorem dec_hit (l : List UInt8) (hne : l ≠ []) (hb : badL l = false) : 1 ≤ (decodeL l).2 ∧ (decodeL l).2 ≤ 4 ∧ (decodeL l).2 ≤ l.length ∧ hit l (decodeL l).2 = true := by
  have hg := dec_good l hne hb
  have hm := dec_may l
  have hl := enc_len ((decodeL l).1 : Int)
  have hc := cand_enc ((decodeL l).1 : Int) hm (l.drop (decodeL l).2)
  rw [← hg.1, hg.2] at hc
  rw [hg.2] at hl
  have hle := decodeL_le l hne
  refine ⟨hl.1, hl.2, hle, ?_⟩
  unfold hit
  rw [hc, hm]
  have : l.take (decodeL l).2 = encodeRune ((decodeL l).1 : Int) := by
    rw [← hg.2]
    conv => lhs; arg 2; rw [hg.1]
    rw [List.take_left]
  simp [this]

/-- what First answers -/
def firstC (l : List UInt8) : Int := if l = [] ∨ badL l = true then 0 else ((decodeL l).1 : Int)
def firstN (l : List UInt8) : Nat := if l = [] ∨ badL l = true then 0 else (decodeL l).2

theorem first_hit (l : List UInt8) (n : Nat) (h1 : 1 ≤ n) (hn : n ≤ l.length) (h : hit l n = true) : firstC l = cand l n ∧ firstN l = n := by
  obtain ⟨hd, hb, hc⟩ := hit_dec l n hn h
  have hne : l ≠ [] := by intro e; rw [e] at hn; simp at hn; omega
  simp only [firstC, firstN, hne, hb, false_or, Bool.false_eq_true, if_false, hd]
  exact ⟨by omega, trivial⟩
theorem first_miss (l : List UInt8) (h : ∀ j, 1 ≤ j → j ≤ 4 → j ≤ l.length → hit l j = false) : firstC l = 0 ∧ firstN l = 0 := by
  by_cases hne : l = []
  · simp [firstC, firstN, hne]
  · cases hb : badL l with
    | true => simp [firstC, firstN, hb]
    | false =>
      obtain ⟨a, b, c, d⟩ := dec_hit l hne hb
      rw [h _ a b c] at d
      cases d
end Go.Proofs.Ytpfcfadbilaleaau
/-
  WALKS: the reference's tail and One.
-/
namespace Go.Proofs.Ytpfcfadbilaleaau
open Go.RowKit Go.Lib

set_option maxRecDepth 20000 in
set_option maxHeartbeats 400000 in
theorem tail0 (c : Int) (w : World) (h0 : 0 ≤ c) (h1 : c ≤ 1114111) :
    Calls Try.prog 98 #[.int .i64 c, .int .i64 0] w fun e w' => e = .returned (.int .u8 (128 + c % 64)) ∧ w' = w := by
  go_enter Try.func98, Try.ntmps98
  go_wp2
  refine wp_loop_rounds 1 ?_
  rw [rounds_succ]
  go_wp2
  go_ret
  exact ⟨rfl, rfl⟩
set_option maxRecDepth 20000 in
set_option maxHeartbeats 400000 in
theorem tail1 (c : Int) (w : World) (h0 : 0 ≤ c) (h1 : c ≤ 1114111) :
    Calls Try.prog 98 #[.int .i64 c, .int .i64 1] w fun e w' => e = .returned (.int .u8 (128 + c / 64 % 64)) ∧ w' = w := by
  go_enter Try.func98, Try.ntmps98
  go_wp2
  refine wp_loop_rounds 2 ?_
  rw [rounds_succ]
  go_wp2
  rw [rounds_succ]
  go_wp2
  go_ret
  exact ⟨rfl, rfl⟩

set_option maxRecDepth 20000 in
set_option maxHeartbeats 400000 in
theorem tail2 (c : Int) (w : World) (h0 : 0 ≤ c) (h1 : c ≤ 1114111) :
    Calls Try.prog 98 #[.int .i64 c, .int .i64 2] w fun e w' => e = .returned (.int .u8 (128 + c / 64 / 64 % 64)) ∧ w' = w := by
  go_enter Try.func98, Try.ntmps98
  go_wp2
  refine wp_loop_rounds 3 ?_
  rw [rounds_succ]
  go_wp2
  rw [rounds_succ]
  go_wp2
  rw [rounds_succ]
  go_wp2
  go_ret
  exact ⟨rfl, rfl⟩

/-- what tail answers, for the three places that One asks -/
def tailV (c n : Int) : Int := if n = 0 then 128 + c % 64 else if n = 1 then 128 + c / 64 % 64 else 128 + c / 4096 % 64
theorem tail_any (c n : Int) (w : World) (h0 : 0 ≤ c) (h1 : c ≤ 1114111) (hn : n = 0 ∨ n = 1 ∨ n = 2) :
    Calls Try.prog 98 #[.int .i64 c, .int .i64 n] w fun e w' => e = .returned (.int .u8 (tailV c n)) ∧ w' = w := by
  rcases hn with rfl | rfl | rfl
  · exact tail0 c w h0 h1
  · exact tail1 c w h0 h1
  · have e : tailV c 2 = 128 + c / 64 / 64 % 64 := by simp [tailV]; omega
    rw [e]
    exact tail2 c w h0 h1

theorem conv_rune (c : Int) (w : World) (C : Array Value) (n : Nat) (hC : C = (runeCells c).toArray) (hn : n = (encodeRune c).length) :
    (convert 62 9 (.slice (some ⟨w.heap.size, 0, none⟩) n n)).run Try.prog (w.alloc (.cells C 5)) = .ok (.string ⟨(encodeRune c).toArray⟩) (w.alloc (.cells C 5)) := by
  subst hn hC
  refine run_convert_bytes_back _ 62 9 5 ⟨w.heap.size, 0, none⟩ _ (encodeRune c) Try.underlying62 Try.underlying5 Try.underlying9 ?_
  intro j hj
  rw [show (⟨w.heap.size, 0, none⟩ : Addr).add j = ⟨w.heap.size, j, none⟩ by simp [Addr.add]; omega, World.cell?_alloc_mark, ← byteCells_encodeRune]
  simp [byteCells, hj]

set_option maxRecDepth 20000 in
set_option maxHeartbeats 400000 in
theorem one_a (c : Int) (w : World) (h0 : 0 ≤ c) (h1 : c < 128) :
    Calls Try.prog 91 #[.int .i64 c] w fun e w' => e = .returned (.string ⟨(encodeRune c).toArray⟩) ∧ Below w.heap.size w w' := by
  have ez := encodeRuneZ_one h0 (show c ≤ 127 by omega)
  have hcv := conv_rune c w #[.int .u8 c] 1 (by simp [runeCells, ez]) (by simp [encodeRune, ez])
  clear ez
  go_enter Try.func91, Try.ntmps91
  go_wp2
  go_ret
  exact ⟨rfl, (Below.refl _ _).alloc (Nat.le_refl _) _⟩
set_option maxRecDepth 20000 in
set_option maxHeartbeats 400000 in
theorem one_b (c : Int) (w : World) (h0 : 128 ≤ c) (h1 : c < 2048) :
    Calls Try.prog 91 #[.int .i64 c] w fun e w' => e = .returned (.string ⟨(encodeRune c).toArray⟩) ∧ Below w.heap.size w w' := by
  have ez := encodeRuneZ_two h0 (show c ≤ 2047 by omega)
  have hcv := conv_rune c w #[.int .u8 (192 + c / 64), .int .u8 (128 + c % 64)] 2 (by simp [runeCells, ez]) (by simp [encodeRune, ez])
  have e0 : tailV c 0 = 128 + c % 64 := rfl
  clear ez
  go_enter Try.func91, Try.ntmps91
  go_wp2_with (go_at_call 98; refine (tail_any _ _ _ (by omega) (by omega) (by omega)).mono ?_; rintro e w' ⟨rfl, hw⟩; rw [hw])
  go_ret
  exact ⟨rfl, (Below.refl _ _).alloc (Nat.le_refl _) _⟩
set_option maxRecDepth 20000 in
set_option maxHeartbeats 400000 in
theorem one_c (c : Int) (w : World) (h0 : 2048 ≤ c) (h1 : c < 65536) (hs : c < 55296 ∨ 57343 < c) :
    Calls Try.prog 91 #[.int .i64 c] w fun e w' => e = .returned (.string ⟨(encodeRune c).toArray⟩) ∧ Below w.heap.size w w' := by
  have ez := encodeRuneZ_three (r := c) (by omega)
  have hcv := conv_rune c w #[.int .u8 (224 + c / 4096), .int .u8 (128 + c / 64 % 64), .int .u8 (128 + c % 64)] 3 (by simp [runeCells, ez]) (by simp [encodeRune, ez])
  have e0 : tailV c 0 = 128 + c % 64 := rfl
  have e1 : tailV c 1 = 128 + c / 64 % 64 := rfl
  clear ez
  go_enter Try.func91, Try.ntmps91
  go_wp2_with (go_at_call 98; refine (tail_any _ _ _ (by omega) (by omega) (by omega)).mono ?_; rintro e w' ⟨rfl, hw⟩; rw [hw])
  go_ret
  exact ⟨rfl, (Below.refl _ _).alloc (Nat.le_refl _) _⟩
set_option maxRecDepth 20000 in
set_option maxHeartbeats 400000 in
theorem one_d (c : Int) (w : World) (h0 : 65536 ≤ c) (h1 : c ≤ 1114111) :
    Calls Try.prog 91 #[.int .i64 c] w fun e w' => e = .returned (.string ⟨(encodeRune c).toArray⟩) ∧ Below w.heap.size w w' := by
  have ez := encodeRuneZ_four h0 h1
  have hcv := conv_rune c w #[.int .u8 (240 + c / 262144), .int .u8 (128 + c / 4096 % 64), .int .u8 (128 + c / 64 % 64), .int .u8 (128 + c % 64)] 4 (by simp [runeCells, ez]) (by simp [encodeRune, ez])
  have e0 : tailV c 0 = 128 + c % 64 := rfl
  have e1 : tailV c 1 = 128 + c / 64 % 64 := rfl
  have e2 : tailV c 2 = 128 + c / 4096 % 64 := rfl
  clear ez
  go_enter Try.func91, Try.ntmps91
  go_wp2_with (go_at_call 98; refine (tail_any _ _ _ (by omega) (by omega) (by omega)).mono ?_; rintro e w' ⟨rfl, hw⟩; rw [hw])
  go_ret
  exact ⟨rfl, (Below.refl _ _).alloc (Nat.le_refl _) _⟩

/-- the reference's One, at a character -/
theorem one_any (c : Int) (w : World) (h : mayB c = true) :
    Calls Try.prog 91 #[.int .i64 c] w fun e w' => e = .returned (.string ⟨(encodeRune c).toArray⟩) ∧ Below w.heap.size w w' := by
  rw [mayB_iff] at h
  by_cases h1 : c < 128
  · exact one_a c w h.1 h1
  by_cases h2 : c < 2048
  · exact one_b c w (by omega) h2
  by_cases h3 : c < 65536
  · exact one_c c w (by omega) h3 h.2.2
  · exact one_d c w (by omega) h.2.1
end Go.Proofs.Ytpfcfadbilaleaau
