/-
  TEXTS JOINED: CW7, CW8, CW9, CK8.
-/
import Derived.Deep.LoopGhost
import Derived.Laws.StructEq
import Derived.Test.YtpfcfadbilaleaaQ03
import Derived.Test.YtpfcfadbilaleaaQ17
/-
  WALKS: chars.List; two sets compared.
-/
namespace Go.Proofs.YtpfcfadbilaleaaC
open Go.RowKit

theorem own_put {W : World} {base : Nat} {v : Value} {n : Nat} {xs : List Value} {t : TypeId} {b : Nat} (h : W.ownsRow base t 1 v n xs) (hb : b < base) (r : Q) : (put4 W b r).ownsRow base t 1 v n xs :=
  ownsRow_setCell_below (ownsRow_setCell_below (ownsRow_setCell_below (ownsRow_setCell_below h (a := ⟨b, 0, none⟩) hb _) (a := ⟨b, 1, none⟩) hb _) (a := ⟨b, 2, none⟩) hb _) (a := ⟨b, 3, none⟩) hb _
end Go.Proofs.YtpfcfadbilaleaaC
/-
  WALKS: the classes of chars.
-/
namespace Go.Proofs.YtpfcfadbilaleaaC
open Go.RowKit

def digitQ : Q := upQ 48 58
def alphaQ : Q := orQ (upQ 65 91) (upQ 97 123)
def wordQ : Q := orQ (orQ alphaQ digitQ) (oneQ 95)
def unmarks : List UInt8 := [45, 46, 95, 126]
def remarks : List UInt8 := [58, 47, 63, 35, 91, 93, 64, 33, 36, 38, 39, 40, 41, 42, 43, 44, 59, 61]
def unresQ : Q := orQ (orQ alphaQ digitQ) (ofQ unmarks)
def resQ : Q := ofQ remarks
theorem digit_ok : digitQ.ok := up_ok _ _
theorem alpha_ok : alphaQ.ok := or_ok (up_ok _ _) (up_ok _ _)
theorem word_ok : wordQ.ok := or_ok (or_ok alpha_ok digit_ok) (one_ok _)
theorem unres_ok : unresQ.ok := or_ok (or_ok alpha_ok digit_ok) (of_ok _)
theorem res_ok : resQ.ok := of_ok _
theorem range_is (lo hi : Int) (q : Q) (w : World) (h0 : 0 ≤ lo) (h1 : lo ≤ 255) (h2 : 0 ≤ hi) (h3 : hi ≤ 255) (hq : upQ lo.toNat (hi.toNat + 1) = q) :
    Calls Try.prog 92 #[.int .u8 lo, .int .u8 hi] w fun e w' => e = .returned (qv q) ∧ Below w.heap.size w w' := by
  subst hq; exact range_any lo hi w h0 h1 h2 h3
theorem one_is (c : Int) (n : Nat) (w : World) (h0 : 0 ≤ c) (h1 : c ≤ 255) (h : c.toNat = n) : Calls Try.prog 93 #[.int .u8 c] w fun e w' => e = .returned (qv (oneQ n)) ∧ Below w.heap.size w w' := by
  subst h; exact one_any c w h0 h1
theorem union2_is (q r s : Q) (w : World) (hq : q.ok) (hr : r.ok) (h : orQ q r = s) :
    Calls Try.prog 62 #[.slice (some ⟨w.heap.size, 0, none⟩) 2 2] (w.alloc (.cells #[.int .u64 q.a, .int .u64 q.b, .int .u64 q.c, .int .u64 q.d, .int .u64 r.a, .int .u64 r.b, .int .u64 r.c, .int .u64 r.d] 95)) fun e w' => e = .returned (qv s) ∧ Below w.heap.size w w' := by
  subst h; exact union2 q r w hq hr
theorem union3_is (q r t s : Q) (w : World) (hq : q.ok) (hr : r.ok) (ht : t.ok) (h : orQ (orQ q r) t = s) :
    Calls Try.prog 62 #[.slice (some ⟨w.heap.size, 0, none⟩) 3 3] (w.alloc (.cells #[.int .u64 q.a, .int .u64 q.b, .int .u64 q.c, .int .u64 q.d, .int .u64 r.a, .int .u64 r.b, .int .u64 r.c, .int .u64 r.d, .int .u64 t.a, .int .u64 t.b, .int .u64 t.c, .int .u64 t.d] 95)) fun e w' => e = .returned (qv s) ∧ Below w.heap.size w w' := by
  subst h; exact union3 q r t w hq hr ht
theorem box_new (w : World) : Box (w.alloc (.cells #[.int .u64 0, .int .u64 0, .int .u64 0, .int .u64 0] 95)) w.heap.size zeroQ := Box.made w zeroQ
theorem below_new (w : World) (o : Obj) : Below w.heap.size w (w.alloc o) := (Below.refl _ _).alloc (Nat.le_refl _) _

set_option maxHeartbeats 1000000 in
theorem digit_any (w : World) :
    Calls Try.prog 83 #[] w fun e w' => e = .returned (qv digitQ) ∧ Below w.heap.size w w' := by
  have R := box_new w
  have B := below_new w (.cells #[.int .u64 0, .int .u64 0, .int .u64 0, .int .u64 0] 95)
  go_enter Try.func83, Try.ntmps83
  go_wp2_with (first | (go_at_call 92; refine (range_is 48 57 digitQ _ (by decide) (by decide) (by decide) (by decide) rfl).mono ?_; rintro e w1 ⟨rfl, bb⟩; replace R : Box w1 _ _ := R.below bb R.lt; replace B := B.trans (bb.mono B.size); obtain ⟨r0, r1, r2, r3⟩ := R.cells; have fr := R.free; clear bb; simp only [qv]))
  have hb := below_put (b := w.heap.size) B (Nat.le_refl _) digitQ
  obtain ⟨z0, z1, z2, z3⟩ := (R.store digitQ).cells
  refine bodyPost_ret (v := qv digitQ) ?_ rfl ⟨rfl, hb⟩
  first | simp [results, Try.results83, go_sem, qv, z0, z1, z2, z3] | (simp [results, Try.results83, go_sem, qv]; exact ⟨z0, z1, z2, z3⟩)

set_option maxHeartbeats 1000000 in
theorem alpha_any (w : World) :
    Calls Try.prog 82 #[] w fun e w' => e = .returned (qv alphaQ) ∧ Below w.heap.size w w' := by
  have R := box_new w
  have B := below_new w (.cells #[.int .u64 0, .int .u64 0, .int .u64 0, .int .u64 0] 95)
  go_enter Try.func82, Try.ntmps82
  go_wp2_with (first | (go_at_call_of 92 (Value.int IntKind.u8 65); refine (range_is 65 90 (upQ 65 91) _ (by decide) (by decide) (by decide) (by decide) rfl).mono ?_; rintro e w1 ⟨rfl, bb⟩; replace R : Box w1 _ _ := R.below bb R.lt; replace B := B.trans (bb.mono B.size); obtain ⟨r0, r1, r2, r3⟩ := R.cells; have fr := R.free; clear bb; simp only [qv]) | (go_at_call_of 92 (Value.int IntKind.u8 97); refine (range_is 97 122 (upQ 97 123) _ (by decide) (by decide) (by decide) (by decide) rfl).mono ?_; rintro e w1 ⟨rfl, bb⟩; replace R : Box w1 _ _ := R.below bb R.lt; replace B := B.trans (bb.mono B.size); obtain ⟨r0, r1, r2, r3⟩ := R.cells; have fr := R.free; clear bb; simp only [qv]) | (go_at_call 62; refine (union2_is (upQ 65 91) (upQ 97 123) alphaQ _ (up_ok _ _) (up_ok _ _) rfl).mono ?_; rintro e w1 ⟨rfl, bb⟩; replace R : Box w1 _ _ := R.below bb R.lt; replace B := B.trans (bb.mono B.size); obtain ⟨r0, r1, r2, r3⟩ := R.cells; have fr := R.free; clear bb; simp only [qv]))
  have hb := below_put (b := w.heap.size) B (Nat.le_refl _) alphaQ
  obtain ⟨z0, z1, z2, z3⟩ := (R.store alphaQ).cells
  refine bodyPost_ret (v := qv alphaQ) ?_ rfl ⟨rfl, hb⟩
  first | simp [results, Try.results82, go_sem, qv, z0, z1, z2, z3] | (simp [results, Try.results82, go_sem, qv]; exact ⟨z0, z1, z2, z3⟩)

set_option maxHeartbeats 1000000 in
theorem word_any (w : World) :
    Calls Try.prog 94 #[] w fun e w' => e = .returned (qv wordQ) ∧ Below w.heap.size w w' := by
  have R := box_new w
  have B := below_new w (.cells #[.int .u64 0, .int .u64 0, .int .u64 0, .int .u64 0] 95)
  go_enter Try.func94, Try.ntmps94
  go_wp2_with (first | (go_at_call 82; refine (alpha_any _).mono ?_; rintro e w1 ⟨rfl, bb⟩; replace R : Box w1 _ _ := R.below bb R.lt; replace B := B.trans (bb.mono B.size); obtain ⟨r0, r1, r2, r3⟩ := R.cells; have fr := R.free; clear bb; simp only [qv]) | (go_at_call 83; refine (digit_any _).mono ?_; rintro e w1 ⟨rfl, bb⟩; replace R : Box w1 _ _ := R.below bb R.lt; replace B := B.trans (bb.mono B.size); obtain ⟨r0, r1, r2, r3⟩ := R.cells; have fr := R.free; clear bb; simp only [qv]) | (go_at_call 93; refine (one_is 95 95 _ (by decide) (by decide) rfl).mono ?_; rintro e w1 ⟨rfl, bb⟩; replace R : Box w1 _ _ := R.below bb R.lt; replace B := B.trans (bb.mono B.size); obtain ⟨r0, r1, r2, r3⟩ := R.cells; have fr := R.free; clear bb; simp only [qv]) | (go_at_call 62; refine (union3_is alphaQ digitQ (oneQ 95) wordQ _ alpha_ok digit_ok (one_ok _) rfl).mono ?_; rintro e w1 ⟨rfl, bb⟩; replace R : Box w1 _ _ := R.below bb R.lt; replace B := B.trans (bb.mono B.size); obtain ⟨r0, r1, r2, r3⟩ := R.cells; have fr := R.free; clear bb; simp only [qv]))
  have hb := below_put (b := w.heap.size) B (Nat.le_refl _) wordQ
  obtain ⟨z0, z1, z2, z3⟩ := (R.store wordQ).cells
  refine bodyPost_ret (v := qv wordQ) ?_ rfl ⟨rfl, hb⟩
  first | simp [results, Try.results94, go_sem, qv, z0, z1, z2, z3] | (simp [results, Try.results94, go_sem, qv]; exact ⟨z0, z1, z2, z3⟩)

end Go.Proofs.YtpfcfadbilaleaaC
/-
  WALKS: chars.Of, Minus, Literal.
-/
namespace Go.Proofs.YtpfcfadbilaleaaC
open Go.RowKit

set_option maxHeartbeats 1000000 in
theorem of_any (s : ByteArray) (w : World) (hs : s.size ≤ maxLen) :
    Calls Try.prog 84 #[.string s] w fun e w' => e = .returned (qv (ofQ s.data.toList)) ∧ Below w.heap.size w w' := by
  unfold maxLen at hs
  go_enter Try.func84, Try.ntmps84
  go_wp2
  go_loopw [7] (fun i wr => ∃ k : Nat, k ≤ s.size ∧ i = .int .i64 k ∧ Below w.heap.size w wr ∧ Box wr w.heap.size zeroQ ∧ Box wr (w.heap.size + 1) (ofQ (s.data.toList.take k))) (fun i _ => s.size - (intOf i).toNat)
  case atStart =>
    refine ⟨0, Nat.zero_le _, rfl, ((Below.refl _ _).alloc (Nat.le_refl _) _).alloc (by simp) _, ?_, ?_⟩
    · exact (Box.made w zeroQ).later _
    · have := Box.made (w.alloc (.cells #[.int .u64 0, .int .u64 0, .int .u64 0, .int .u64 0] 95)) zeroQ
      simpa [zeroQ, ofQ] using this
  case round =>
    obtain ⟨k, hk1, rfl, hB, hR, hX⟩ := hrel
    obtain ⟨c0, c1, c2, c3⟩ := hX.cells
    have fr := hX.free
    have hsz := hX.lt
    by_cases hlt : k < s.size
    · have hlti : (k : Int) < (s.size : Int) := by omega
      have hts := take_snoc s k hlt
      have hu := UInt8.toNat_lt s[k]
      have hk0 : (0 : Int) ≤ s[k].toNat := by omega
      have hk5 : (s[k].toNat : Int) ≤ 255 := by omega
      have hou := of_ok (s.data.toList.take k)
      have hoo := one_ok (s[k].toNat : Int).toNat
      have Hts := hide hts
      clear hts
      go_wp2
      go_region_with (first | (go_at_call 93; refine (one_any _ _ hk0 hk5).mono ?_; rintro e w1 ⟨rfl, b1⟩; simp only [qv]; have X1 : Box w1 _ _ := (b1.block _ hsz).trans hX; have R1 : Box w1 _ _ := (b1.block _ hR.lt).trans hR; obtain ⟨d0, d1, d2, d3⟩ := X1.cells; have fr1 := X1.free) | (go_at_call 62; refine (union2 _ _ _ hou hoo).mono ?_; rintro e w2 ⟨rfl, b2⟩; simp only [qv]; have X2 : Box w2 _ _ := (b2.block _ X1.lt).trans X1; have R2 : Box w2 _ _ := (b2.block _ R1.lt).trans R1; obtain ⟨m0, m1, m2, m3⟩ := X2.cells; have fr2 := X2.free))
      all_goals
        go_wp2
        have hb := below_two hB (by omega) b1 b2
        have hx := (X2.store (orQ (ofQ (s.data.toList.take k)) (oneQ (s[k].toNat : Int).toNat)))
        have hr := R2.other (k := w.heap.size + 1) (by omega) (orQ (ofQ (s.data.toList.take k)) (oneQ (s[k].toNat : Int).toNat))
        have hb' := below_put (b := w.heap.size + 1) hb (by omega) (orQ (ofQ (s.data.toList.take k)) (oneQ (s[k].toNat : Int).toNat))
        go_roundw
        case rel => exact ⟨k + 1, by omega, by go_num, hb', hr, by rw [Hts.out, of_snoc]; exact hx⟩
        case measure => simp [intOf]; omega
    · obtain ⟨r0, r1, r2, r3⟩ := hR.cells
      have frR := hR.free
      have he : s.data.toList.take k = s.data.toList := List.take_of_length_le (by simp; omega)
      have He := hide he
      clear he
      go_wp2
      have hb' := below_put (b := w.heap.size) hB (Nat.le_refl _) (ofQ (s.data.toList.take k))
      obtain ⟨z0, z1, z2, z3⟩ := (hR.store (ofQ (s.data.toList.take k))).cells
      refine bodyPost_ret (v := qv (ofQ (s.data.toList.take k))) ?_ rfl ⟨by rw [He.out], hb'⟩
      simp [results, Try.results84, go_sem, qv, z0, z1, z2, z3]


theorem of_is (l : List UInt8) (q : Q) (a : Array UInt8) (w : World) (hl : a.toList = l) (hq : ofQ l = q) (hs : a.size ≤ 2000) :
    Calls Try.prog 84 #[.string ⟨a⟩] w fun e w' => e = .returned (qv q) ∧ Below w.heap.size w w' := by
  subst hl hq; exact of_any ⟨a⟩ w (by show a.size ≤ _; unfold maxLen; omega)
end Go.Proofs.YtpfcfadbilaleaaC
/-
  WALKS: the classes Unreserved, Reserved (layer 2).
-/
namespace Go.Proofs.YtpfcfadbilaleaaC
open Go.RowKit
open Go.Proofs.Ytpfcfadbilaleaa (unN reN)
set_option maxHeartbeats 1000000 in
theorem unres_any (w : World) :
    Calls Try.prog 61 #[] w fun e w' => e = .returned (qv unresQ) ∧ Below w.heap.size w w' := by
  have R := box_new w
  have B := below_new w (.cells #[.int .u64 0, .int .u64 0, .int .u64 0, .int .u64 0] 95)
  go_enter Try.func61, Try.ntmps61
  go_wp2_with (first | (go_at_call 82; refine (alpha_any _).mono ?_; rintro e w1 ⟨rfl, bb⟩; replace R : Box w1 _ _ := R.below bb R.lt; replace B := B.trans (bb.mono B.size); obtain ⟨r0, r1, r2, r3⟩ := R.cells; have fr := R.free; clear bb; simp only [qv]) | (go_at_call 83; refine (digit_any _).mono ?_; rintro e w1 ⟨rfl, bb⟩; replace R : Box w1 _ _ := R.below bb R.lt; replace B := B.trans (bb.mono B.size); obtain ⟨r0, r1, r2, r3⟩ := R.cells; have fr := R.free; clear bb; simp only [qv]) | (go_at_call 84; refine (of_is unmarks (ofQ unmarks) _ _ rfl rfl (by decide)).mono ?_; rintro e w1 ⟨rfl, bb⟩; replace R : Box w1 _ _ := R.below bb R.lt; replace B := B.trans (bb.mono B.size); obtain ⟨r0, r1, r2, r3⟩ := R.cells; have fr := R.free; clear bb; simp only [qv]) | (go_at_call 62; refine (union3_is alphaQ digitQ (ofQ unmarks) unresQ _ alpha_ok digit_ok (of_ok _) rfl).mono ?_; rintro e w1 ⟨rfl, bb⟩; replace R : Box w1 _ _ := R.below bb R.lt; replace B := B.trans (bb.mono B.size); obtain ⟨r0, r1, r2, r3⟩ := R.cells; have fr := R.free; clear bb; simp only [qv]))
  have hb := below_put (b := w.heap.size) B (Nat.le_refl _) unresQ
  obtain ⟨z0, z1, z2, z3⟩ := (R.store unresQ).cells
  refine bodyPost_ret (v := qv unresQ) ?_ rfl ⟨rfl, hb⟩
  first | simp [results, Try.results61, go_sem, qv, z0, z1, z2, z3] | (simp [results, Try.results61, go_sem, qv]; exact ⟨z0, z1, z2, z3⟩)
set_option maxHeartbeats 1000000 in
theorem res_any (w : World) :
    Calls Try.prog 63 #[] w fun e w' => e = .returned (qv resQ) ∧ Below w.heap.size w w' := by
  have R := box_new w
  have B := below_new w (.cells #[.int .u64 0, .int .u64 0, .int .u64 0, .int .u64 0] 95)
  go_enter Try.func63, Try.ntmps63
  go_wp2_with (first | (go_at_call 84; refine (of_is remarks resQ _ _ rfl rfl (by decide)).mono ?_; rintro e w1 ⟨rfl, bb⟩; replace R : Box w1 _ _ := R.below bb R.lt; replace B := B.trans (bb.mono B.size); obtain ⟨r0, r1, r2, r3⟩ := R.cells; have fr := R.free; clear bb; simp only [qv]))
  have hb := below_put (b := w.heap.size) B (Nat.le_refl _) resQ
  obtain ⟨z0, z1, z2, z3⟩ := (R.store resQ).cells
  refine bodyPost_ret (v := qv resQ) ?_ rfl ⟨rfl, hb⟩
  first | simp [results, Try.results63, go_sem, qv, z0, z1, z2, z3] | (simp [results, Try.results63, go_sem, qv]; exact ⟨z0, z1, z2, z3⟩)
theorem un_fin : ∀ c : Fin 256, unresQ.has c.val = unN c.val := by decide +kernel
theorem stay_fin : ∀ c : Fin 256, (orQ unresQ resQ).has c.val = (unN c.val || reN c.val) := by decide +kernel
end Go.Proofs.YtpfcfadbilaleaaC
