/-
  Joined by program out of the texts K.
-/
import Derived.Test.YtjbnofljoijnmaaDoorRows
import Derived.Test.YtjbnofljoijnmaaDoorTie
import Derived.Test.YtjbnofljoijnmaaDoorY13
import Derived.ProofKit
import Derived.LaidMore
import Derived.LaidSub
import Derived.Lib.LaidTab
import Derived.OpenShut
import Derived.Stop.Joined
/-
  WHAT THE ROWS LIST; the door's own heap meets it; what it gives the walks: the table of tens, and the ranges of ucs.
-/
namespace Go.Proofs.YtjbnofljoijnmaaDoor
open Go.ChangeShapes Go.WideShapes Go.ChangeAt Go.WideMaps Go.WideElems Go.RowKit YtjbnofljoijnmaaDooru

/-- what the rows list -/
def laidR : List (String × DataW Unit) := [("math/bits.deBruijn32tab", Rows.laid_math_bits_deBruijn32tab), ("math/bits.deBruijn64tab", Rows.laid_math_bits_deBruijn64tab), ("internal/strconv.uint64pow10", Rows.laid_internal_strconv_uint64pow10), ("phalarope/ucs.ranges", Rows.laid_phalarope_ucs_ranges)]
theorem gRanges : Tryd.prog.globalNamed "phalarope/ucs.ranges" = some 0 := by kernel_rfl
theorem tRanges : (Tryd.prog.globals[0]?).map (·.type) = some 116 := by kernel_rfl
theorem cInt : Tryd.prog.cellsOf 3 = 1 := by kernel_rfl
theorem cSpan : Tryd.prog.cellsOf 105 = 2 := by kernel_rfl
theorem cRanges : Tryd.prog.cellsOf 116 = 38 := by kernel_rfl

theorem door_met (os : Os) (args : Array Value) : laidMetH Tryd.prog laidR ((World.doorLaid Tryd.prog 400 os).forCall (fun _ _ => 0) ⟨#[], args, []⟩).memory :=
  laidMetH_of_parts3 (fuel := 8) (laidMet_of_run' 8 (by kernel_rfl) (by kernel_rfl)) (by kernel_rfl) (by kernel_rfl)

set_option maxRecDepth 20000 in
theorem span_cells {H : Type} {enc : TypeId × Value → H} {w : World} {base : Nat} {spare : Nat → Bool} {held : Bool} {fuel : Nat} {cs : List Value} {x : DataW H × List MemPlace} {a b : Int}
    (h : DataW.trod enc Tryd.prog w base spare held fuel 105 cs = some x) (hx : x.1 = .agg [.lit (.int .i64 a), .lit (.int .i64 b)]) : cs = [.int .i64 a, .int .i64 b] := by
  obtain ⟨y0, y1, n, rfl, hl, h0, h1⟩ := trod_struct2 Tryd.underlying105 h
  rw [cSpan] at hl
  obtain ⟨k0, e0, r0, _⟩ := DataW.trod_int Tryd.underlying3 h0
  obtain ⟨k1, e1, r1, _⟩ := DataW.trod_int Tryd.underlying3 h1
  rw [r0, r1] at hx
  simp only [DataW.agg.injEq, List.cons.injEq, DataW.lit.injEq, Lit.int.injEq, true_and, and_true] at hx
  obtain ⟨rfl, rfl⟩ := hx
  rw [show Tryd.prog.cellsOf 3 = 1 from cInt] at e0 e1
  match cs, hl with
  | [p, q], _ =>
    simp at e0 e1
    rw [e0, e1]

theorem chunks : ∀ (l : List (Int × Int)) (cs : List Value), cs.length = 2 * l.length → (∀ i (h : i < l.length), (cs.drop (i * 2)).take 2 = [.int .i64 l[i].1, .int .i64 l[i].2]) → cs = l.flatMap fun p => [Value.int .i64 p.1, Value.int .i64 p.2]
  | [], cs, hl, _ => by simpa using hl
  | p :: r, cs, hl, h => by
    match cs, hl with
    | a :: b :: t, hl =>
      have h0 := h 0 (by simp)
      simp at h0
      have := chunks r t (by simpa [Nat.mul_succ] using hl) (fun i hi => by
        have := h (i + 1) (by simpa using hi)
        rw [Nat.add_mul] at this
        simpa using this)
      rw [this, List.flatMap_cons, h0.1, h0.2]
      rfl

theorem laid_is {H : Type} : (Rows.laid_phalarope_ucs_ranges : DataW H) = .agg (rangeL.map fun p => .agg [.lit (.int .i64 p.1), .lit (.int .i64 p.2)]) := rfl

set_option maxRecDepth 20000 in
theorem rans_of {W : World} (h : laidMetH Tryd.prog laidR W) : Rans W := by
  rw [MakeChecks.laidMetH_plain _ _ _ (by kernel_rfl)] at h
  have h2 := laidMet.filter (fun x => x.1 == "internal/strconv.uint64pow10") h
  have h3 := laidMet.filter (fun x => x.1 == "phalarope/ucs.ranges") h
  refine ⟨⟨Lib.tabIs_of_head (g := 2) (t := 127) (e := 71) (n := 20) (rest := []) (by kernel_rfl) (by kernel_rfl) Tryd.underlying127 Tryd.underlying71 (by kernel_rfl) (by kernel_rfl) h2⟩, ?_⟩
  clear h h2
  rw [show List.filter (fun x => x.1 == "phalarope/ucs.ranges") laidR = [("phalarope/ucs.ranges", Rows.laid_phalarope_ucs_ranges)] from rfl] at h3
  obtain ⟨ps, ⟨g0, t0, cs0, f0, p0, q0, hg0, ht0, hv0, hd0, _, _⟩, _, _⟩ := h3
  obtain rfl := Option.some.inj (gRanges.symm.trans hg0)
  obtain rfl := Option.some.inj (tRanges.symm.trans ht0)
  obtain ⟨xs, m, rfl, hx, hlen, hn, hel⟩ := DataW.trod_array Tryd.underlying116 hd0
  rw [cRanges] at hlen
  simp only [Prod.mk.injEq, laid_is, DataW.agg.injEq] at hx
  have e : cs0.toList = rangeL.flatMap fun p => [Value.int .i64 p.1, Value.int .i64 p.2] := by
    refine chunks rangeL _ hlen ?_
    intro i hi
    have h1 := hel i hi
    rw [show Tryd.prog.cellsOf 105 = 2 from cSpan] at h1
    have hi2 : i < xs.length := by rw [hn]; exact hi
    rw [List.getElem?_eq_getElem hi2] at h1
    refine span_cells h1 ?_
    have h2 := congrArg (fun l => l[i]?) hx.1
    simp only [List.getElem?_map, List.getElem?_eq_getElem hi2, List.getElem?_eq_getElem hi, Option.map_some, Option.some.injEq] at h2
    exact h2.symm
  unfold World.var? at hv0
  rw [hg0] at hv0
  simp only [Option.bind_some] at hv0
  split at hv0
  · rename_i cs t fr hh
    refine ⟨t, fr, ?_⟩
    rw [hh]
    have e2 : cs = cs0 := Option.some.inj hv0
    rw [e2]
    have e3 : cs0 = cellsR := Array.toList_inj.1 e
    rw [e3]
  · cases hv0
end Go.Proofs.YtjbnofljoijnmaaDoor
