/-
  Joined by program out of the texts A13 A14.
-/
import Derived.Test.YtjbnofljoijnmaaDoorY17
import Derived.Test.YtjbnofljoijnmaaDoorY06
/-
  WALKS: the reference's Begins, Parse (layer 7).
-/
namespace Go.Proofs.YtjbnofljoijnmaaDoor
open Go.RowKit Go.Lib YtjbnofljoijnmaaDooru

def endsC : Array Value := #[.string ⟨#[]⟩, .string ⟨#[52, 49]⟩, .string ⟨#[49]⟩, .string ⟨#[97, 125]⟩, .string ⟨#[125]⟩, .string ⟨#[49, 125]⟩, .string ⟨#[52, 49, 125]⟩]
theorem ends_cell (k : Nat) (hk : k < 7) : endsC[k]? = some (.string ⟨(endsT.getD k []).toArray⟩) := by
  match k, hk with
  | 0, _ => rfl
  | 1, _ => rfl
  | 2, _ => rfl
  | 3, _ => rfl
  | 4, _ => rfl
  | 5, _ => rfl
  | 6, _ => rfl
theorem ends_len (k : Nat) : (endsT.getD k []).length ≤ 3 := by
  match k with
  | 0 => decide
  | 1 => decide
  | 2 => decide
  | 3 => decide
  | 4 => decide
  | 5 => decide
  | 6 => decide
  | k + 7 => simp [endsT]
theorem ends_any (l : List UInt8) (k : Nat) (hk : k < 7) (h : (isT (l ++ endsT.getD k [])).isSome = true) : beginT l = true := by
  unfold beginT
  rw [Bool.or_eq_true]
  refine .inl (List.any_eq_true.2 ⟨endsT.getD k [], ?_, h⟩)
  match k, hk with
  | 0, _ => decide
  | 1, _ => decide
  | 2, _ => decide
  | 3, _ => decide
  | 4, _ => decide
  | 5, _ => decide
  | 6, _ => decide
theorem ends_none (l : List UInt8) (h : ∀ k, k < 7 → (isT (l ++ endsT.getD k [])).isSome = false) : beginT l = [1, 2, 3].any (fun n => decide (n ≤ l.length) && ((isT (l.take (l.length - n))).isSome && fitB (l.drop (l.length - n)))) := by
  unfold beginT
  have : endsT.any (fun e => (isT (l ++ e)).isSome) = false := by
    rw [List.any_eq_false]
    intro e he
    have : ∃ k, k < 7 ∧ endsT.getD k [] = e := by
      simp only [endsT, List.mem_cons, List.not_mem_nil, or_false] at he
      rcases he with rfl | rfl | rfl | rfl | rfl | rfl | rfl
      · exact ⟨0, by decide, rfl⟩
      · exact ⟨1, by decide, rfl⟩
      · exact ⟨2, by decide, rfl⟩
      · exact ⟨3, by decide, rfl⟩
      · exact ⟨4, by decide, rfl⟩
      · exact ⟨5, by decide, rfl⟩
      · exact ⟨6, by decide, rfl⟩
    obtain ⟨k, hk, rfl⟩ := this
    rw [h k hk]; decide
  rw [this, Bool.false_or]
def backB (l : List UInt8) (n : Nat) : Bool := decide (n ≤ l.length) && ((isT (l.take (l.length - n))).isSome && fitB (l.drop (l.length - n)))
end Go.Proofs.YtjbnofljoijnmaaDoor

/-
  WALKS: the reference's Parse (layer 7).
-/
namespace Go.Proofs.YtjbnofljoijnmaaDoor
open Go.RowKit Go.Lib

/-- what is told of a text: its parts, how far it goes, and whether it is right -/
def ParsePost (w : World) (l : List UInt8) (e : Ending) (w' : World) : Prop :=
  Below w.heap.size w w' ∧ match isT l with
  | some ts => ∃ v, e = .returned (.tuple #[v, .int .i64 l.length, .int .i64 0]) ∧ PtsAt w' v ts
  | none => e = .returned (.tuple #[.slice none 0 0, .int .i64 (badT l), .int .i64 2])
theorem parse_none {w w' : World} {l : List UInt8} {k : Nat} (h : isT l = none) (hk : badT l = k) (hB : Below w.heap.size w w') : ParsePost w l (.returned (.tuple #[.slice none 0 0, .int .i64 (k : Int), .int .i64 2])) w' := by
  refine ⟨hB, ?_⟩
  rw [h, hk]
theorem parse_some {w w' : World} {l : List UInt8} {ts : List Pt} {v : Value} {n : Nat} (h : isT l = some ts) (hn : l.length = n) (hv : PtsAt w' v ts) (hB : Below w.heap.size w w') : ParsePost w l (.returned (.tuple #[v, .int .i64 (n : Int), .int .i64 0])) w' := by
  refine ⟨hB, ?_⟩
  rw [h]
  exact ⟨v, by rw [hn], hv⟩
end Go.Proofs.YtjbnofljoijnmaaDoor
