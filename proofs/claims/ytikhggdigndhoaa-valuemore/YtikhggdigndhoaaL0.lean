/-
  WALKS: awake (layer 8).
-/
import Derived.Test.YtikhggdigndhoaaP11
namespace Go.Proofs.Ytikhggdigndhoaa
open Go.RowKit

theorem of_yes_is (k : Int) (ua : Option Addr) (uc : Nat) (l : List (List UInt8)) (c : Vl) (w : World) (H : StrsAt w (.slice ua l.length uc) l) (hl : l.length ≤ 100000) (hts : ∀ y ∈ l, y.length ≤ 140737488355328) (ho : ofV k l = some c) :
    Calls Try.prog 24 #[.int .i64 k, .slice ua l.length uc] w fun e w' => ∃ la lc pa pc, e = .returned (.tuple #[.agg #[.int .i64 c.kind, .string ⟨c.s.toArray⟩, .slice la c.l.length lc, .slice pa c.p.length pc], .bool true]) ∧ StrsAt w' (.slice la c.l.length lc) c.l ∧ PairsAt w' (.slice pa c.p.length pc) c.p ∧ Below w.heap.size w w' := by
  refine (of_any k ua uc l w H hl hts).mono ?_
  rintro e w' ⟨hB, he⟩
  rw [ho] at he
  obtain ⟨x, rfl, ⟨sl, sp, rfl, h1, h2⟩, _⟩ := he
  obtain ⟨la, lc, rfl⟩ := h1.form
  obtain ⟨pa, pc, rfl⟩ := h2.form
  exact ⟨la, lc, pa, pc, rfl, h1, h2, hB⟩
theorem of_no_is (k : Int) (ua : Option Addr) (uc : Nat) (l : List (List UInt8)) (w : World) (H : StrsAt w (.slice ua l.length uc) l) (hl : l.length ≤ 100000) (hts : ∀ y ∈ l, y.length ≤ 140737488355328) (ho : ofV k l = none) :
    Calls Try.prog 24 #[.int .i64 k, .slice ua l.length uc] w fun e w' => e = .returned (.tuple #[.agg #[.int .i64 0, .string ⟨#[]⟩, .slice none 0 0, .slice none 0 0], .bool false]) ∧ Below w.heap.size w w' := by
  refine (of_any k ua uc l w H hl hts).mono ?_
  rintro e w' ⟨hB, he⟩
  rw [ho] at he
  exact ⟨he, hB⟩
theorem zero_at (W : World) (k : Int) : VlAt W (.agg #[.int .i64 k, .string ⟨#[]⟩, .slice none 0 0, .slice none 0 0]) ⟨k, [], [], []⟩ := ⟨_, _, rfl, .inl ⟨rfl, _, _, rfl⟩, .inl ⟨rfl, _, _, rfl⟩⟩
def twoB : List (List UInt8) := [[98], [97]]
def cBA : Vl := ⟨2, [], twoB, []⟩
theorem cba_texts : textsV cBA = twoB := rfl
theorem cba_few : ∀ y ∈ textsV cBA, y.length ≤ 140737488355328 := by
  intro y hy
  rw [cba_texts] at hy
  simp [twoB] at hy
  rcases hy with rfl | rfl <;> simp
theorem cba_cmp : compareV cBA ⟨1, [], [], []⟩ = 1 := by decide +kernel
theorem of_cba (b : Nat) (w : World) (g0 : w.cell? ⟨b, 0, none⟩ = some (.string ⟨#[98]⟩)) (g1 : w.cell? ⟨b, 1, none⟩ = some (.string ⟨#[97]⟩)) :
    Calls Try.prog 24 #[.int .i64 2, .slice (some ⟨b, 0, none⟩) 2 2] w fun e w' => ∃ b' off lc pa pc, e = .returned (.tuple #[.agg #[.int .i64 2, .string ⟨#[]⟩, .slice (some ⟨b', off, none⟩) 2 lc, .slice pa 0 pc], .bool true]) ∧
      w'.cell? ⟨b', off, none⟩ = some (.string ⟨#[98]⟩) ∧ VlAt w' (.agg #[.int .i64 2, .string ⟨#[]⟩, .slice (some ⟨b', off, none⟩) 2 lc, .slice pa 0 pc]) cBA ∧ Below w.heap.size w w' := by
  have H : StrsAt w (.slice (some ⟨b, 0, none⟩) twoB.length 2) twoB := by
    refine .inr ⟨by decide, b, 0, 2, rfl, fun k hk => ?_⟩
    match k, hk with
    | 0, _ => rw [Nat.zero_add]; exact g0
    | 1, _ => rw [Nat.zero_add]; exact g1
  refine (of_yes_is 2 (some ⟨b, 0, none⟩) 2 twoB cBA w H (by decide) (by intro y hy; exact cba_few y hy) (by rfl)).mono ?_
  rintro e w' ⟨la, lc, pa, pc, rfl, h1, h2, hB⟩
  obtain ⟨b', off, cap, e, _, g⟩ := h1.at 0 (by decide)
  cases e
  exact ⟨b', off, lc, pa, pc, rfl, g, ⟨_, _, rfl, h1, h2⟩, hB⟩
/-- a value in a box of its own -/
structure Ex (w W : World) (bv : Nat) (cs : Array Value) (v : Vl) : Prop where
  bel : Below w.heap.size w W
  box : Bx W bv cs 25
  val : VlAt W (.agg cs) v
section
variable {w W W' : World} {bv : Nat} {cs : Array Value} {v : Vl}
theorem Ex.next (h : Ex w W bv cs v) (bb : Below W.heap.size W W') : Ex w W' bv cs v := ⟨h.bel.trans (bb.mono h.bel.size), h.box.next bb, h.val.later bb⟩
end
set_option maxRecDepth 20000 in
set_option maxHeartbeats 4000000 in
theorem awake_any (w : World) : Calls Try.prog 9 #[] w fun e w' => e = .returned (.bool true) ∧ Below w.heap.size w w' := by
  have d1 : definedV ⟨2, [], [], []⟩ = false := rfl
  have d2 : definedV ⟨1, [], [], []⟩ = true := rfl
  have s1 : sameV cBA cBA = true := same_self _
  have g0 : (w.alloc (.cells #[.string ⟨#[98]⟩, .string ⟨#[97]⟩] 9)).cell? ⟨w.heap.size, 0, none⟩ = some (.string ⟨#[98]⟩) := (Bx.made _ _ _).cell 0 _ rfl
  have g1 : (w.alloc (.cells #[.string ⟨#[98]⟩, .string ⟨#[97]⟩] 9)).cell? ⟨w.heap.size, 1, none⟩ = some (.string ⟨#[97]⟩) := (Bx.made _ _ _).cell 1 _ rfl
  have D1 := hide d1
  have D2 := hide d2
  have S1 := hide s1
  have G0 := hide g0
  have G1 := hide g1
  have T1 : Hid True := hide trivial
  clear d1 d2 s1 g0 g1
  go_enter Try.func9, Try.ntmps9
  go_wp2_with (fail)
  go_at_call 24
  refine (of_cba w.heap.size _ G0.out G1.out).mono ?_
  rintro e w1 ⟨b, off, lc, pa, pc, rfl, gb, V, bb⟩
  have B1 := (b_alloc w (.cells #[.string ⟨#[98]⟩, .string ⟨#[97]⟩] 9)).trans (bb.mono (by simp))
  have E0 : Ex w (w1.alloc (.cells #[.int .i64 2, .string ⟨#[]⟩, .slice (some ⟨b, off, none⟩) 2 lc, .slice pa 0 pc] 25)) w1.heap.size #[.int .i64 2, .string ⟨#[]⟩, .slice (some ⟨b, off, none⟩) 2 lc, .slice pa 0 pc] cBA :=
    ⟨B1.alloc B1.size _, Bx.made _ _ _, V.later (b_alloc _ _)⟩
  have gb1 := ((b_alloc w1 (.cells #[.int .i64 2, .string ⟨#[]⟩, .slice (some ⟨b, off, none⟩) 2 lc, .slice pa 0 pc] 25)).cell (p := ⟨b, off, none⟩) (lt_of_cell gb)).trans gb
  clear gb V bb B1 G0 G1
  obtain ⟨W1, hW1⟩ : ∃ W1, w1.alloc (.cells #[.int .i64 2, .string ⟨#[]⟩, .slice (some ⟨b, off, none⟩) 2 lc, .slice pa 0 pc] 25) = W1 := ⟨_, rfl⟩
  rw [hW1] at E0 gb1
  have E := E0
  have Gb := hide gb1
  clear E0 gb1
  go_wp2_with (first | (go_at_call 12; have z := T1; clear z T1; refine (defined_any _ ⟨2, [], [], []⟩ false _ (zero_at _ _) (by simp) D1.out).mono ?_; rintro e w2 ⟨rfl, bb⟩; replace E := E.next bb; replace Gb := hide ((bb.cell (p := ⟨b, off, none⟩) (lt_of_cell Gb.out)).trans Gb.out); clear bb) | (go_at_call 12; refine (defined_any _ ⟨1, [], [], []⟩ true _ (zero_at _ _) (by simp) D2.out).mono ?_; rintro e w2 ⟨rfl, bb⟩; replace E := E.next bb; replace Gb := hide ((bb.cell (p := ⟨b, off, none⟩) (lt_of_cell Gb.out)).trans Gb.out); clear bb; obtain ⟨c0, c1, c2, c3⟩ := cells4 E.box; have gb2 := Gb.out) | (go_at_call 20; refine (compare_any _ _ cBA ⟨1, [], [], []⟩ 1 _ E.val (zero_at _ _) (by decide) (by decide) (by simp) (by simp) cba_few (by intro y hy; simp [textsV] at hy; subst hy; simp) cba_cmp).mono ?_; rintro e w2 ⟨rfl, bb⟩; replace E := E.next bb; clear bb; obtain ⟨c0, c1, c2, c3⟩ := cells4 E.box) | (go_at_call 22; refine (same_any _ _ cBA cBA true _ E.val E.val (by decide) (by decide) (by decide) (by decide) cba_few cba_few S1.out).mono ?_; rintro e w2 ⟨rfl, bb⟩; replace E := E.next bb; clear bb))
  all_goals
    go_ret
    exact ⟨rfl, E.bel⟩
end Go.Proofs.Ytikhggdigndhoaa
