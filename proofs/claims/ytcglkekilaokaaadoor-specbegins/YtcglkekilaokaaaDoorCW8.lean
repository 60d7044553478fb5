/-
  WALKS: the classes of chars.
-/
import Derived.Test.YtcglkekilaokaaaDoorCW7
namespace Go.Proofs.YtcglkekilaokaaaDoorC
open Go.RowKit

def digitQ : Q := upQ 48 58
def alphaQ : Q := orQ (upQ 65 91) (upQ 97 123)
def hexQ : Q := orQ (orQ digitQ (upQ 65 71)) (upQ 97 103)
def wordQ : Q := orQ (orQ alphaQ digitQ) (oneQ 95)
def unmarks : List UInt8 := [45, 46, 95, 126]
def remarks : List UInt8 := [58, 47, 63, 35, 91, 93, 64, 33, 36, 38, 39, 40, 41, 42, 43, 44, 59, 61]
def nomarks : List UInt8 := [34, 39, 37, 60, 62, 92, 94, 96, 123, 124, 125]
def unresQ : Q := orQ (orQ alphaQ digitQ) (ofQ unmarks)
def resQ : Q := ofQ remarks
def litQ : Q := minusQ (upQ 33 127) (ofQ nomarks)
theorem digit_ok : digitQ.ok := up_ok _ _
theorem alpha_ok : alphaQ.ok := or_ok (up_ok _ _) (up_ok _ _)
theorem hex_ok : hexQ.ok := or_ok (or_ok digit_ok (up_ok _ _)) (up_ok _ _)
theorem word_ok : wordQ.ok := or_ok (or_ok alpha_ok digit_ok) (one_ok _)
theorem unres_ok : unresQ.ok := or_ok (or_ok alpha_ok digit_ok) (of_ok _)
theorem res_ok : resQ.ok := of_ok _
theorem lit_ok : litQ.ok := minus_ok (up_ok _ _)

theorem range_is (lo hi : Int) (q : Q) (w : World) (h0 : 0 ≤ lo) (h1 : lo ≤ 255) (h2 : 0 ≤ hi) (h3 : hi ≤ 255) (hq : upQ lo.toNat (hi.toNat + 1) = q) :
    Calls Tryd.prog 50 #[.int .u8 lo, .int .u8 hi] w fun e w' => e = .returned (qv q) ∧ Below w.heap.size w w' := by
  subst hq; exact range_any lo hi w h0 h1 h2 h3
theorem one_is (c : Int) (n : Nat) (w : World) (h0 : 0 ≤ c) (h1 : c ≤ 255) (h : c.toNat = n) : Calls Tryd.prog 57 #[.int .u8 c] w fun e w' => e = .returned (qv (oneQ n)) ∧ Below w.heap.size w w' := by
  subst h; exact one_any c w h0 h1
theorem union2_is (q r s : Q) (w : World) (hq : q.ok) (hr : r.ok) (h : orQ q r = s) :
    Calls Tryd.prog 55 #[.slice (some ⟨w.heap.size, 0, none⟩) 2 2] (w.alloc (.cells #[.int .u64 q.a, .int .u64 q.b, .int .u64 q.c, .int .u64 q.d, .int .u64 r.a, .int .u64 r.b, .int .u64 r.c, .int .u64 r.d] 62)) fun e w' => e = .returned (qv s) ∧ Below w.heap.size w w' := by
  subst h; exact union2 q r w hq hr
theorem union3_is (q r t s : Q) (w : World) (hq : q.ok) (hr : r.ok) (ht : t.ok) (h : orQ (orQ q r) t = s) :
    Calls Tryd.prog 55 #[.slice (some ⟨w.heap.size, 0, none⟩) 3 3] (w.alloc (.cells #[.int .u64 q.a, .int .u64 q.b, .int .u64 q.c, .int .u64 q.d, .int .u64 r.a, .int .u64 r.b, .int .u64 r.c, .int .u64 r.d, .int .u64 t.a, .int .u64 t.b, .int .u64 t.c, .int .u64 t.d] 62)) fun e w' => e = .returned (qv s) ∧ Below w.heap.size w w' := by
  subst h; exact union3 q r t w hq hr ht
theorem box_new (w : World) : Box (w.alloc (.cells #[.int .u64 0, .int .u64 0, .int .u64 0, .int .u64 0] 62)) w.heap.size zeroQ := Box.made w zeroQ
theorem below_new (w : World) (o : Obj) : Below w.heap.size w (w.alloc o) := (Below.refl _ _).alloc (Nat.le_refl _) _

set_option maxHeartbeats 1000000 in
theorem digit_any (w : World) :
    Calls Tryd.prog 40 #[] w fun e w' => e = .returned (qv digitQ) ∧ Below w.heap.size w w' := by
  have R := box_new w
  have B := below_new w (.cells #[.int .u64 0, .int .u64 0, .int .u64 0, .int .u64 0] 62)
  go_enter Tryd.func40, Tryd.ntmps40
  go_wp2_with (first | (go_at_call 50; refine (range_is 48 57 digitQ _ (by decide) (by decide) (by decide) (by decide) rfl).mono ?_; rintro e w1 ⟨rfl, bb⟩; replace R : Box w1 _ _ := R.below bb R.lt; replace B := B.trans (bb.mono B.size); obtain ⟨r0, r1, r2, r3⟩ := R.cells; have fr := R.free; clear bb; simp only [qv]))
  have hb := below_put (b := w.heap.size) B (Nat.le_refl _) digitQ
  obtain ⟨z0, z1, z2, z3⟩ := (R.store digitQ).cells
  refine bodyPost_ret (v := qv digitQ) ?_ rfl ⟨rfl, hb⟩
  first | simp [results, Tryd.results40, go_sem, qv, z0, z1, z2, z3] | (simp [results, Tryd.results40, go_sem, qv]; exact ⟨z0, z1, z2, z3⟩)

set_option maxHeartbeats 1000000 in
theorem alpha_any (w : World) :
    Calls Tryd.prog 56 #[] w fun e w' => e = .returned (qv alphaQ) ∧ Below w.heap.size w w' := by
  have R := box_new w
  have B := below_new w (.cells #[.int .u64 0, .int .u64 0, .int .u64 0, .int .u64 0] 62)
  go_enter Tryd.func56, Tryd.ntmps56
  go_wp2_with (first | (go_at_call_of 50 (Value.int IntKind.u8 65); refine (range_is 65 90 (upQ 65 91) _ (by decide) (by decide) (by decide) (by decide) rfl).mono ?_; rintro e w1 ⟨rfl, bb⟩; replace R : Box w1 _ _ := R.below bb R.lt; replace B := B.trans (bb.mono B.size); obtain ⟨r0, r1, r2, r3⟩ := R.cells; have fr := R.free; clear bb; simp only [qv]) | (go_at_call_of 50 (Value.int IntKind.u8 97); refine (range_is 97 122 (upQ 97 123) _ (by decide) (by decide) (by decide) (by decide) rfl).mono ?_; rintro e w1 ⟨rfl, bb⟩; replace R : Box w1 _ _ := R.below bb R.lt; replace B := B.trans (bb.mono B.size); obtain ⟨r0, r1, r2, r3⟩ := R.cells; have fr := R.free; clear bb; simp only [qv]) | (go_at_call 55; refine (union2_is (upQ 65 91) (upQ 97 123) alphaQ _ (up_ok _ _) (up_ok _ _) rfl).mono ?_; rintro e w1 ⟨rfl, bb⟩; replace R : Box w1 _ _ := R.below bb R.lt; replace B := B.trans (bb.mono B.size); obtain ⟨r0, r1, r2, r3⟩ := R.cells; have fr := R.free; clear bb; simp only [qv]))
  have hb := below_put (b := w.heap.size) B (Nat.le_refl _) alphaQ
  obtain ⟨z0, z1, z2, z3⟩ := (R.store alphaQ).cells
  refine bodyPost_ret (v := qv alphaQ) ?_ rfl ⟨rfl, hb⟩
  first | simp [results, Tryd.results56, go_sem, qv, z0, z1, z2, z3] | (simp [results, Tryd.results56, go_sem, qv]; exact ⟨z0, z1, z2, z3⟩)

set_option maxHeartbeats 1000000 in
theorem word_any (w : World) :
    Calls Tryd.prog 47 #[] w fun e w' => e = .returned (qv wordQ) ∧ Below w.heap.size w w' := by
  have R := box_new w
  have B := below_new w (.cells #[.int .u64 0, .int .u64 0, .int .u64 0, .int .u64 0] 62)
  go_enter Tryd.func47, Tryd.ntmps47
  go_wp2_with (first | (go_at_call 56; refine (alpha_any _).mono ?_; rintro e w1 ⟨rfl, bb⟩; replace R : Box w1 _ _ := R.below bb R.lt; replace B := B.trans (bb.mono B.size); obtain ⟨r0, r1, r2, r3⟩ := R.cells; have fr := R.free; clear bb; simp only [qv]) | (go_at_call 40; refine (digit_any _).mono ?_; rintro e w1 ⟨rfl, bb⟩; replace R : Box w1 _ _ := R.below bb R.lt; replace B := B.trans (bb.mono B.size); obtain ⟨r0, r1, r2, r3⟩ := R.cells; have fr := R.free; clear bb; simp only [qv]) | (go_at_call 57; refine (one_is 95 95 _ (by decide) (by decide) rfl).mono ?_; rintro e w1 ⟨rfl, bb⟩; replace R : Box w1 _ _ := R.below bb R.lt; replace B := B.trans (bb.mono B.size); obtain ⟨r0, r1, r2, r3⟩ := R.cells; have fr := R.free; clear bb; simp only [qv]) | (go_at_call 55; refine (union3_is alphaQ digitQ (oneQ 95) wordQ _ alpha_ok digit_ok (one_ok _) rfl).mono ?_; rintro e w1 ⟨rfl, bb⟩; replace R : Box w1 _ _ := R.below bb R.lt; replace B := B.trans (bb.mono B.size); obtain ⟨r0, r1, r2, r3⟩ := R.cells; have fr := R.free; clear bb; simp only [qv]))
  have hb := below_put (b := w.heap.size) B (Nat.le_refl _) wordQ
  obtain ⟨z0, z1, z2, z3⟩ := (R.store wordQ).cells
  refine bodyPost_ret (v := qv wordQ) ?_ rfl ⟨rfl, hb⟩
  first | simp [results, Tryd.results47, go_sem, qv, z0, z1, z2, z3] | (simp [results, Tryd.results47, go_sem, qv]; exact ⟨z0, z1, z2, z3⟩)

end Go.Proofs.YtcglkekilaokaaaDoorC
