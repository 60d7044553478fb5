/-
  WHAT IS TAKEN OF WHAT IS PUT (layer 6), for the laws.
-/
import Derived.Test.YtcglkekilaokaaaDoorW8
import Derived.Test.YtcglkekilaokaaaDoorB3
namespace Go.Proofs.YtcglkekilaokaaaDoor
open Go.RowKit

theorem put_len (x : Sp) : (putL x).length ≤ x.name.length + 5 := by
  cases hm : mayX x with
  | false => rw [put_none hm]; simp
  | true =>
    obtain ⟨h1, h2, h3, h4⟩ := (may_iff x).1 hm
    cases hs : x.star with
    | true => rw [put_star hm hs]; simp
    | false =>
      by_cases hp : 0 < x.max
      · rw [put_colon hm hs hp]
        have := fig_len x.max.toNat 3 (by omega)
        simp; omega
      · rw [put_name hm hs hp]; omega
/-- what a text of a variable is taken for -/
theorem tk_spec {s : ByteArray} {nm : ByteArray} {m : Int} {st : Bool} (h : isX s.data.toList = true) (hx : specX s.data.toList = spA nm m st) :
    tkN s = nm ∧ tkM s = m ∧ tkS s = st ∧ (badX s.data.toList : Int) = s.size ∧ tkE s = 0 := by
  refine ⟨?_, ?_, ?_, ?_, ?_⟩
  · unfold tkN; rw [h, if_pos rfl]
    apply arr_ext
    rw [nmX_list]
    have : (specX s.data.toList).name = nm.data.toList := by rw [hx]; rfl
    exact this
  · unfold tkM; rw [h, if_pos rfl, hx]; rfl
  · unfold tkS; rw [h, if_pos rfl, hx]; rfl
  · rw [badX_is h, size_list]
  · unfold tkE; rw [h, if_pos rfl]
theorem tk_put {p nm : ByteArray} {m : Int} {st : Bool} (h : mayX (spA nm m st) = true) (hp : p.data.toList = putL (spA nm m st)) :
    tkN p = nm ∧ tkM p = m ∧ tkS p = st ∧ (badX p.data.toList : Int) = p.size ∧ tkE p = 0 := by
  apply tk_spec
  · rw [hp]; exact is_put h
  · rw [hp]; exact (spec_put h).1
theorem tk_none {s : ByteArray} (h : isX s.data.toList = false) : tkN s = ⟨#[]⟩ ∧ tkM s = 0 ∧ tkS s = false ∧ tkE s = 2 := by
  refine ⟨?_, ?_, ?_, ?_⟩
  · unfold tkN; rw [h]; rfl
  · unfold tkM; rw [h]; rfl
  · unfold tkS; rw [h]; rfl
  · unfold tkE; rw [h]; rfl
theorem tk_is {s : ByteArray} (h : isX s.data.toList = true) : mayX (spA (tkN s) (tkM s) (tkS s)) = true ∧ putL (spA (tkN s) (tkM s) (tkS s)) = s.data.toList ∧ (badX s.data.toList : Int) = s.size ∧ tkE s = 0 ∧ (tkN s).size ≤ s.size := by
  obtain ⟨_, h2, h3⟩ := (is_iff _).1 h
  have e := spX s
  obtain ⟨e1, e2, e3, e4, e5⟩ := tk_spec h e.symm
  rw [e1, e2, e3, e]
  refine ⟨h2, h3, e4, e5, ?_⟩
  rw [size_list, size_list, nmX_list, List.length_take]
  omega
theorem tk_bad (s : ByteArray) : badX s.data.toList ≤ s.size := by rw [size_list]; exact badX_le _
end Go.Proofs.YtcglkekilaokaaaDoor
