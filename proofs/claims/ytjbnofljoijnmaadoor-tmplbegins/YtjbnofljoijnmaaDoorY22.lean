/-
  Joined by program out of the texts J1 J2.
-/
import Derived.Test.YtjbnofljoijnmaaDoorShelf
import Derived.Test.YtjbnofljoijnmaaDoorY02
import Derived.Test.YtjbnofljoijnmaaDoorW1
import Derived.Shelf.Strings.Runes
import Derived.Laws.RangeAny
import Derived.LoopN
import Derived.Lib.OthersKept
/-
  WALKS: strings.IndexAny of a text, at a comma and a brace: whatever the text.
-/
namespace Go.Proofs.YtjbnofljoijnmaaDoor
open Go.RowKit Go.Lib YtjbnofljoijnmaaDooru

theorem dec_first {a : UInt8} (t : List UInt8) (h : a.toNat < 128) : decodeL (a :: t) = (a.toNat, 1) := by
  have hm : mayB (a.toNat : Int) = true := by rw [mayB_iff]; omega
  have e : encodeRune (a.toNat : Int) = [a] := by
    have ez := encodeRuneZ_one (r := (a.toNat : Int)) (by omega) (by omega)
    simp [encodeRune, ez]
  have := dec_enc (a.toNat : Int) hm t
  rw [e] at this
  simpa using this
/-- a character that is read: ASCII, or none of its bytes is -/
theorem dec_sep {l : List UInt8} (hne : l ≠ []) : (∃ a t, l = a :: t ∧ a.toNat < 128 ∧ decodeL l = (a.toNat, 1)) ∨
    (1 ≤ (decodeL l).2 ∧ (decodeL l).2 ≤ l.length ∧ 128 ≤ (decodeL l).1 ∧ ∀ x ∈ l.take (decodeL l).2, 128 ≤ x.toNat) := by
  match l, hne with
  | a :: t, _ =>
    by_cases h : a.toNat < 128
    · exact .inl ⟨a, t, rfl, h, dec_first t h⟩
    · refine .inr ?_
      cases hb : badL (a :: t) with
      | true =>
        obtain ⟨h1, h2⟩ := (bad_iff _).1 hb
        rw [h1, h2]
        refine ⟨Nat.le_refl _, by simp, by decide, ?_⟩
        intro x hx
        simp at hx
        subst hx
        omega
      | false =>
        obtain ⟨h1, h2⟩ := dec_good _ (by simp) hb
        have hm := dec_may (a :: t)
        generalize decodeL (a :: t) = d at *
        have h3 : (a :: t).take d.2 = encodeRune d.1 := by
          rw [h1, ← h2, List.take_left]
        rw [h3]
        have h4 := (YtjbnofljoijnmaaDooru.enc_len d.1).1
        refine ⟨by omega, ?_, ?_⟩
        · have := congrArg List.length h3
          rw [List.length_take] at this
          omega
        · obtain ⟨x, ex, hx, e | ⟨k1, k2, e⟩ | ⟨k1, k2, e⟩ | ⟨k1, e⟩⟩ := enc_shape d.1 hm
          · rw [e.2] at h1
            have := (List.cons.inj h1).1
            rw [this, u8 _ (by omega)] at h
            omega
          all_goals
            refine ⟨by omega, ?_⟩
            rw [e]
            intro y hy
            simp only [List.mem_cons, List.not_mem_nil, or_false] at hy
            first
              | (rcases hy with rfl | rfl <;> rw [u8 _ (by omega)] <;> omega)
              | (rcases hy with rfl | rfl | rfl <;> rw [u8 _ (by omega)] <;> omega)
              | (rcases hy with rfl | rfl | rfl | rfl <;> rw [u8 _ (by omega)] <;> omega)
/-- a comma, and a brace that shuts -/
def C2 : ByteArray := ⟨#[44, 125]⟩
theorem rune_ascii (r : Int) (w : World) (h0 : 0 ≤ r) (h1 : r < 128) :
    Calls Tryd.prog 70 #[.string C2, .int .i32 r] w fun e w' => e = .returned (.int .i64 (Lib.indexByte [44, 125] r.toNat.toUInt8)) ∧ w' = w :=
  Any.strings_IndexRune_ascii { lays153 with } C2 r w h0 h1
set_option maxRecDepth 20000 in
set_option maxHeartbeats 1000000 in
theorem rune_err (w : World) : Calls Tryd.prog 70 #[.string C2, .int .i32 65533] w fun e w' => e = .returned (.int .i64 (-1)) ∧ Below w.heap.size w w' := by
  have n0 : ∀ ty, (Instr.next (.pointer (some ⟨w.heap.size, 0, none⟩)) true ty).run Tryd.prog (w.iter C2 0) = _ := fun ty => run_next_ascii w C2 0 ty (by decide) (by decide)
  have n1 : ∀ ty, (Instr.next (.pointer (some ⟨w.heap.size, 0, none⟩)) true ty).run Tryd.prog (w.iter C2 1) = _ := fun ty => run_next_ascii w C2 1 ty (by decide) (by decide)
  have n2 : ∀ ty, (Instr.next (.pointer (some ⟨w.heap.size, 0, none⟩)) true ty).run Tryd.prog (w.iter C2 2) = _ := fun ty => run_next_end w C2 2 ty (by decide)
  have e0 : (C2[0]'(by decide)).toNat = 44 := rfl
  have e1 : (C2[1]'(by decide)).toNat = 125 := rfl
  rw [e0] at n0
  rw [e1] at n1
  go_enter Tryd.func70, Tryd.ntmps70
  go_wp2
  go_loopw [] (fun wr => ∃ i : Nat, i ≤ 2 ∧ wr = w.iter C2 i) (fun wr => 2 - wr.iterPos w.heap.size)
  case atStart => exact ⟨0, by decide, rfl⟩
  case round =>
    obtain ⟨i, hi, rfl⟩ := hrel
    have hd : i = 0 ∨ i = 1 ∨ i = 2 := by omega
    rcases hd with rfl | rfl | rfl
    · go_wp2
      go_roundw
      case rel => exact ⟨1, by decide, rfl⟩
      case measure => simp
    · go_wp2
      go_roundw
      case rel => exact ⟨2, by decide, rfl⟩
      case measure => simp
    · go_wp2
      go_ret
      exact ⟨rfl, (Below.refl _ _).alloc (Nat.le_refl _) _⟩
theorem index_empty (s : ByteArray) (c : Int) (w : World) (h : s.data.toList = []) : Calls Tryd.prog 55 #[.string s, .int .u8 c] w fun e w' => e = .returned (.int .i64 (-1)) ∧ w' = w := by
  refine (strings_IndexByte s c w).mono ?_
  rintro e w' ⟨rfl, rfl⟩
  rw [h]
  exact ⟨rfl, rfl⟩
theorem enc_bytes (r : Int) (h0 : 128 ≤ r) (h1 : r ≤ 1114111) (h2 : r < 55296 ∨ 57343 < r) : 2 ≤ (Utf8.encode r).size ∧ (Utf8.encode r).size ≤ 4 ∧ ∀ i (h : i < (Utf8.encode r).size), 128 ≤ ((Utf8.encode r)[i]).toNat := by
  have hv : Utf8.valid r = true := by simp [Utf8.valid]; omega
  obtain ⟨x, rfl⟩ : ∃ x : Nat, r = x := ⟨r.toNat, by omega⟩
  have e : Utf8.encode (x : Int) = if x < 0x80 then ⟨#[UInt8.ofNat x]⟩
      else if x < 0x800 then ⟨#[UInt8.ofNat (0xC0 + x / 64), UInt8.ofNat (0x80 + x % 64)]⟩
      else if x < 0x10000 then ⟨#[UInt8.ofNat (0xE0 + x / 4096), UInt8.ofNat (0x80 + x / 64 % 64), UInt8.ofNat (0x80 + x % 64)]⟩
      else ⟨#[UInt8.ofNat (0xF0 + x / 262144), UInt8.ofNat (0x80 + x / 4096 % 64), UInt8.ofNat (0x80 + x / 64 % 64), UInt8.ofNat (0x80 + x % 64)]⟩ := by
    unfold Utf8.encode
    simp only [hv, if_true, Int.toNat_natCast]
  rw [if_neg (by omega)] at e
  by_cases h3 : x < 0x800
  · rw [if_pos h3] at e
    rw [e]
    refine ⟨by show 2 ≤ 2; omega, by show 2 ≤ 4; omega, ?_⟩
    intro i h
    have hi : i = 0 ∨ i = 1 := by have : i < 2 := h; omega
    rcases hi with rfl | rfl
    · show 128 ≤ (UInt8.ofNat _).toNat; rw [UInt8.toNat_ofNat']; omega
    · show 128 ≤ (UInt8.ofNat _).toNat; rw [UInt8.toNat_ofNat']; omega
  · rw [if_neg h3] at e
    by_cases h4 : x < 0x10000
    · rw [if_pos h4] at e
      rw [e]
      refine ⟨by show 2 ≤ 3; omega, by show 3 ≤ 4; omega, ?_⟩
      intro i h
      have hi : i = 0 ∨ i = 1 ∨ i = 2 := by have : i < 3 := h; omega
      rcases hi with rfl | rfl | rfl
      · show 128 ≤ (UInt8.ofNat _).toNat; rw [UInt8.toNat_ofNat']; omega
      · show 128 ≤ (UInt8.ofNat _).toNat; rw [UInt8.toNat_ofNat']; omega
      · show 128 ≤ (UInt8.ofNat _).toNat; rw [UInt8.toNat_ofNat']; omega
    · rw [if_neg h4] at e
      rw [e]
      refine ⟨by show 2 ≤ 4; omega, by show 4 ≤ 4; omega, ?_⟩
      intro i h
      have hi : i = 0 ∨ i = 1 ∨ i = 2 ∨ i = 3 := by have : i < 4 := h; omega
      rcases hi with rfl | rfl | rfl | rfl
      · show 128 ≤ (UInt8.ofNat _).toNat; rw [UInt8.toNat_ofNat']; omega
      · show 128 ≤ (UInt8.ofNat _).toNat; rw [UInt8.toNat_ofNat']; omega
      · show 128 ≤ (UInt8.ofNat _).toNat; rw [UInt8.toNat_ofNat']; omega
      · show 128 ≤ (UInt8.ofNat _).toNat; rw [UInt8.toNat_ofNat']; omega
set_option maxRecDepth 20000 in
set_option maxHeartbeats 1000000 in
theorem rune_other (r : Int) (w : World) (h0 : 128 ≤ r) (h1 : mayB r = true) (h2 : r ≠ 65533) : Calls Tryd.prog 70 #[.string C2, .int .i32 r] w fun e w' => e = .returned (.int .i64 (-1)) ∧ Below w.heap.size w w' := by
  obtain ⟨_, h4, h5⟩ := (mayB_iff r).1 h1
  clear h1
  obtain ⟨b1, b2, b3⟩ := enc_bytes r h0 h4 h5
  have hcv : ∀ W, (convert 21 9 (.int .i32 r)).run Tryd.prog W = .ok (.string (Utf8.encode r)) W := by
    intro W
    simp [convert, go_sem, Conv.intToString]
  generalize Utf8.encode r = rs at *
  have hlt : ¬ r < 128 := by omega
  show Calls Tryd.prog 70 #[.string ⟨#[44, 125]⟩, .int .i32 r] w _
  by_cases hz : rs.size = 2
  · have hr1 := b3 1 (by omega)
    have hne : (((((⟨#[44, 125]⟩ : ByteArray)[1]'(by decide)).toNat : Int)) != ((rs[1]'(by omega)).toNat : Int)) = true := by
      show ((125 : Int) != _) = true
      simp
      omega
    clear b3 b1 b2
    rcases h5 with h5 | h5
    all_goals
      go_enter Tryd.func70, Tryd.ntmps70
      go_wp2
      go_step3
      go_wp2
      refine wp_loop_rounds 2 ?_
      rw [rounds_succ]
      go_wp2
      go_step3
      go_wp2
      go_region
      all_goals go_wp2
      all_goals go_region_with (go_at_call 55; refine (index_empty _ _ _ (by first | rfl | decide | simp)).mono ?_; rintro e w1 ⟨rfl, hw⟩; rw [hw])
      all_goals go_wp2
      all_goals unfold Exit.noGoto
      all_goals go_wp2
      all_goals go_ret
      all_goals exact ⟨rfl, (Below.refl _ _).drew.drew⟩
  · have h3 : rs.size = 3 ∨ rs.size = 4 := by omega
    clear b3 b1 b2
    rcases h3 with h3 | h3 <;> rcases h5 with h5 | h5
    all_goals
      go_enter Tryd.func70, Tryd.ntmps70
      go_wp2
      go_step3
      go_wp2
      refine wp_loop_rounds 2 ?_
      rw [rounds_succ]
      go_wp2
      unfold Exit.noGoto
      go_wp2
      go_ret
      exact ⟨rfl, Below.refl _ _⟩
end Go.Proofs.YtjbnofljoijnmaaDoor

/-
  WALKS: strings.IndexAny of a text, at a comma and a brace: short and long.
-/
namespace Go.Proofs.YtjbnofljoijnmaaDoor
open Go.RowKit YtjbnofljoijnmaaDooru

theorem rune_any (c k : Int) (w : World) (hm : mayB c = true) (hk : (if c < 128 then Lib.indexByte [44, 125] c.toNat.toUInt8 else -1) = k) :
    Calls Tryd.prog 70 #[.string C2, .int .i32 c] w fun e w' => e = .returned (.int .i64 k) ∧ Below w.heap.size w w' := by
  subst hk
  have h0 := (mayB_iff c).1 hm
  by_cases h : c < 128
  · rw [if_pos h]
    refine (rune_ascii c w h0.1 h).mono ?_
    rintro e w' ⟨rfl, rfl⟩
    exact ⟨rfl, Below.refl _ _⟩
  · rw [if_neg h]
    by_cases h2 : c = 65533
    · subst h2; exact rune_err w
    · exact rune_other c w (by omega) hm h2
theorem index_two (x : UInt8) : Lib.indexByte [44, 125] x = if sepB x then Lib.indexByte [44, 125] x else -1 := by
  have := Lib.contains_iff_indexByte [44, 125] x
  rw [contains_sep] at this
  cases h : sepB x with
  | true => rfl
  | false =>
    rw [h] at this
    have h1 : ¬ 0 ≤ Lib.indexByte [44, 125] x := of_decide_eq_false this.symm
    have : ∀ y : Fin 256, Lib.indexByte [44, 125] y.val.toUInt8 = -1 ∨ 0 ≤ Lib.indexByte [44, 125] y.val.toUInt8 := by decide +kernel
    have h2 := this ⟨x.toNat, UInt8.toNat_lt x⟩
    simp only [Nat.toUInt8_eq, UInt8.ofNat_toNat] at h2
    rcases h2 with h2 | h2
    · exact h2
    · exact absurd h2 h1
theorem drop_head {l : List UInt8} {p : Nat} {a : UInt8} {t : List UInt8} (h : l.drop p = a :: t) : l[p]? = some a := by
  have := congrArg (fun x => x[0]?) h
  simpa using this
set_option maxRecDepth 20000 in
set_option maxHeartbeats 2000000 in
theorem any_short (s : ByteArray) (w : World) (h8 : s.size ≤ 8) :
    Calls Tryd.prog 58 #[.string s, .string C2] w fun e w' => e = .returned (.int .i64 (Lib.indexAny s.data.toList [44, 125])) ∧ Below w.heap.size w w' := by
  have h8z : decide ((8 : Int) < (s.size : Int)) = false := decide_eq_false (by omega)
  have hemp : C2.toList.isEmpty = false := by rw [Lib.toList_data]; rfl
  have hsz : C2.size = 2 := rfl
  obtain ⟨C, hC⟩ : ∃ C, C2 = C := ⟨_, rfl⟩
  have HR : Hid (∀ (c k : Int) (w : World), mayB c = true → (if c < 128 then Lib.indexByte [44, 125] c.toNat.toUInt8 else -1) = k →
    Calls Tryd.prog 70 #[.string C, .int .i32 c] w fun e w' => e = .returned (.int .i64 k) ∧ Below w.heap.size w w') := by
    rw [← hC]; exact rune_any
  rw [hC] at hemp hsz ⊢
  clear hC
  go_enter Tryd.func58, Tryd.ntmps58
  go_wp2_with (go_at_call 71; refine (should_ascii _ _).mono ?_; rintro e w' ⟨rfl, hw⟩; rw [hw, h8z])
  go_loopw [] (fun wr => ∃ p : Nat, p ≤ s.size ∧ wr.heap[w.heap.size]? = some (.stringIter s p) ∧ Below w.heap.size w wr ∧ Lib.NoAny s.data.toList [44, 125] p) (fun wr => s.size - wr.iterPos w.heap.size)
  case atStart => exact ⟨0, Nat.zero_le _, World.iter_heap w s 0, (Below.refl _ _).alloc (Nat.le_refl _) _, Lib.NoAny.zero _ _⟩
  case round =>
    obtain ⟨p, hp, hit, B, hno⟩ := hrel
    have HN := hide hno
    clear hno
    have hpos : wr.iterPos w.heap.size = p := by simp [World.iterPos, hit]
    by_cases hlt : p < s.size
    · have hnx : ∀ ty, (Instr.next (.pointer (some ⟨w.heap.size, 0, none⟩)) true ty).run Tryd.prog wr = _ := fun ty => Lib.run_next_any_at wr (w.heap.size) s p ty hit hlt
      have hit2 := Lib.iterAt_heap wr w.heap.size s p (p + (Utf8.decode s p).2) hit
      have B2 := Lib.below_iterAt B (Nat.le_refl _) s (p + (Utf8.decode s p).2)
      have hd : Lib.decodeL (s.data.toList.drop p) = Utf8.decode s p := Lib.decodeL_drop s p
      have hne : s.data.toList.drop p ≠ [] := by
        intro e
        have := congrArg List.length e
        rw [List.length_drop, ← size_list] at this
        simp at this
        omega
      have hm := dec_may (s.data.toList.drop p)
      have hsep := dec_sep hne
      rw [hd] at hm hsep
      generalize Utf8.decode s p = d at *
      obtain ⟨c, n⟩ := d
      simp only at hm hsep hnx hit2 B2
      have Hm := hide hm
      rcases hsep with ⟨a, t, e1, ha, e2⟩ | ⟨h1, h2, h3, h4⟩
      · obtain ⟨rfl, rfl⟩ := Prod.mk.inj e2
        have hget := drop_head e1
        have hix := index_two a
        have hci : ((a.toNat : Nat) : Int).toNat.toUInt8 = a := by simp
        cases hs : sepB a with
        | true =>
          have hin : ([44, 125] : List UInt8).contains a = true := (contains_sep a).trans hs
          have h0 : 0 ≤ Lib.indexByte [44, 125] a := of_decide_eq_true ((Lib.contains_iff_indexByte [44, 125] a).symm.trans hin)
          have hk : (if ((a.toNat : Nat) : Int) < 128 then Lib.indexByte [44, 125] ((a.toNat : Nat) : Int).toNat.toUInt8 else -1) = Lib.indexByte [44, 125] a := by rw [if_pos (by omega), hci]
          have hfin := Lib.indexAny_hit HN.out hget hin
          generalize Lib.indexByte [44, 125] a = k at *
          have Hk := hide hk
          have HF := hide hfin
          clear hk hfin hix hm
          go_wp2_with (go_at_call 70; refine (HR.out _ k _ Hm.out Hk.out).mono ?_; rintro e w1 ⟨rfl, bb⟩)
          go_ret
          exact ⟨by rw [HF.out]; rfl, B2.trans (bb.mono B2.size)⟩
        | false =>
          have hin : ([44, 125] : List UInt8).contains a = false := (contains_sep a).trans hs
          rw [hs] at hix
          have hk : (if ((a.toNat : Nat) : Int) < 128 then Lib.indexByte [44, 125] ((a.toNat : Nat) : Int).toNat.toUInt8 else -1) = -1 := by rw [if_pos (by omega), hci]; exact hix
          have Hk := hide hk
          clear hk hix hm
          go_wp2_with (go_at_call 70; refine (HR.out _ (-1) _ Hm.out Hk.out).mono ?_; rintro e w1 ⟨rfl, bb⟩)
          have hit3 := (bb.block _ (lt_of_block hit2)).trans hit2
          go_roundw
          case rel => exact ⟨p + 1, by omega, hit3, B2.trans (bb.mono B2.size), HN.out.succ hget hin⟩
          case measure => rw [hpos]; simp only [World.iterPos, hit3]; omega
      · have hk : (if ((c : Nat) : Int) < 128 then Lib.indexByte [44, 125] ((c : Nat) : Int).toNat.toUInt8 else -1) = -1 := by rw [if_neg (by omega)]
        have Hk := hide hk
        have hlen : n ≤ s.size - p := by rw [List.length_drop, ← size_list] at h2; exact h2
        have hno2 : Lib.NoAny s.data.toList [44, 125] (p + n) := by
          intro j b hj hb
          by_cases hjp : j < p
          · exact HN.out j b hjp hb
          · rw [contains_sep]
            have hmem : b ∈ (s.data.toList.drop p).take n := by
              rw [List.mem_take_iff_getElem]
              have hjl : j < s.data.toList.length := (List.getElem?_eq_some_iff.1 hb).1
              refine ⟨j - p, by rw [List.length_drop]; omega, ?_⟩
              rw [List.getElem_drop]
              have := (List.getElem?_eq_some_iff.1 hb).2
              rw [← this]
              congr 1
              omega
            have := h4 b hmem
            unfold sepB
            simp only [Bool.or_eq_false_iff, beq_eq_false_iff_ne]
            constructor <;> (intro e; rw [e] at this; revert this; decide)
        have HN2 := hide hno2
        clear hk hm h4 h2 hno2
        go_wp2_with (go_at_call 70; refine (HR.out _ (-1) _ Hm.out Hk.out).mono ?_; rintro e w1 ⟨rfl, bb⟩)
        have hit3 := (bb.block _ (lt_of_block hit2)).trans hit2
        go_roundw
        case rel => exact ⟨p + n, by omega, hit3, B2.trans (bb.mono B2.size), HN2.out⟩
        case measure => rw [hpos]; simp only [World.iterPos, hit3]; omega
    · have hnx : ∀ ty, (Instr.next (.pointer (some ⟨w.heap.size, 0, none⟩)) true ty).run Tryd.prog wr = _ := fun ty => Lib.run_next_end_at wr (w.heap.size) s p ty hit hlt
      have hfin : Lib.indexAny s.data.toList [44, 125] = -1 := Lib.indexAny_none (by rw [← size_list, show s.size = p by omega]; exact HN.out)
      have HF := hide hfin
      clear hfin
      go_wp2
      go_ret
      exact ⟨by rw [HF.out]; rfl, B⟩
theorem any_is (s : ByteArray) (k : Int) (w : World) (hs : s.size ≤ 1000000) (hk : (if endC s.data.toList < s.data.toList.length then (endC s.data.toList : Int) else -1) = k) :
    Calls Tryd.prog 58 #[.string s, .string ⟨#[44, 125]⟩] w fun e w' => e = .returned (.int .i64 k) ∧ Below w.heap.size w w' := by
  rw [← index_end] at hk
  subst hk
  by_cases h8 : s.size ≤ 8
  · exact any_short s w h8
  · exact strings_IndexAny_long s C2 w (by decide) (by omega) (by omega) (by decide) (by
      intro j b hb
      have : ([44, 125] : List UInt8)[j]? = some b := hb
      have := List.mem_of_getElem? this
      simp at this
      rcases this with rfl | rfl <;> decide)
end Go.Proofs.YtjbnofljoijnmaaDoor
