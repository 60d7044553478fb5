/-
  WALKS: utf.Text; the reference's tail, One, Text, Same.
-/
import Derived.Test.YteplnfncpidglaaW2
namespace Go.Proofs.Yteplnfncpidglaa
open Go.RowKit

theorem may_is (c : Int) (w : World) (b : Bool) (h : mayB c = b) : Calls Try.prog 21 #[.int .i64 c] w fun e w' => e = .returned (.bool b) ∧ w' = w := by
  subst h; exact may_any c w
theorem rmay_is (c : Int) (w : World) (b : Bool) (h : mayB c = b) : Calls Try.prog 22 #[.int .i64 c] w fun e w' => e = .returned (.bool b) ∧ w' = w := by
  subst h; exact rmay_any c w

theorem take_snoc (zs : List Int) (k : Nat) (h : k < zs.length) : zs.take (k + 1) = zs.take k ++ [zs.getD k 0] := by
  rw [List.take_succ_eq_append_getElem h, List.getD_eq_getElem?_getD, List.getElem?_eq_getElem h]; rfl
theorem lt_of_cell {w : World} {b o : Nat} {v : Value} (h : w.cell? ⟨b, o, none⟩ = some v) : b < w.heap.size := by
  apply Classical.byContradiction
  intro hn
  have : w.heap[b]? = none := by simp; omega
  simp [World.cell?, this] at h

/-- what Text answers -/
def textR (zs : List Int) : Value := if allMay zs = true then .tuple #[.string ⟨(textL zs).toArray⟩, .bool true] else .tuple #[.string ⟨#[]⟩, .bool false]

theorem allMay_cut {zs : List Int} {k : Nat} (h : k < zs.length) (hb : mayB (zs.getD k 0) = false) : allMay zs = false := by
  cases ha : allMay zs with
  | false => rfl
  | true =>
    unfold allMay at ha
    rw [List.all_eq_true] at ha
    have := ha (zs.getD k 0) (by rw [List.getD_eq_getElem?_getD, List.getElem?_eq_getElem h]; simp)
    rw [this] at hb
    cases hb

set_option maxHeartbeats 1000000 in
theorem text_row (zs : List Int) (b off cap : Nat) (w : World) (hlen : zs.length ≤ 17592186044415) (hp : 0 < zs.length) (hc : ∀ k, k < zs.length → w.cell? ⟨b, off + k, none⟩ = some (.int .i64 (zs.getD k 0))) :
    Calls Try.prog 19 #[.slice (some ⟨b, off, none⟩) zs.length cap] w fun e w' => e = .returned (textR zs) ∧ Below w.heap.size w w' := by
  have hbw : b < w.heap.size := lt_of_cell (hc 0 hp)
  go_enter Try.func19, Try.ntmps19
  go_wp2
  go_loopw [9] (fun i wr => ∃ k : Nat, k ≤ zs.length ∧ i = .int .i64 k ∧ Lib.IsBuilderF 50 5 w.heap.size w.heap.size (Lib.byteCells (textL (zs.take k))) wr ∧ Below w.heap.size w wr ∧ w.heap.size < wr.heap.size ∧ allMay (zs.take k) = true) (fun i _ => zs.length - (intOf i).toNat)
  case atStart =>
    exact ⟨0, Nat.zero_le _, rfl, Lib.IsBuilderF.of (Lib.fresh_isBuilder 50 5 w), (Below.refl _ _).alloc (Nat.le_refl _) _, by simp, rfl⟩
  case round =>
    obtain ⟨k, hk, rfl, hI, hB, hz, hm⟩ := hrel
    by_cases hlt : k < zs.length
    · have hcx : wr.cell? ⟨b, off + k, none⟩ = some (.int .i64 (zs.getD k 0)) := (hB.cell (p := ⟨b, off + k, none⟩) hbw).trans (hc k hlt)
      generalize hcc : zs.getD k 0 = c at hcx
      have Hcc := hide hcc
      have Hc := hide hc
      clear hcc hc
      cases hmc : mayB c with
      | false =>
        have Hmc := hide hmc
        clear hmc
        go_wp2_with (go_at_call 21; refine (may_is _ _ false Hmc.out).mono ?_; rintro e w' ⟨rfl, hw⟩; rw [hw])
        go_ret2
        refine ⟨?_, hB⟩
        have ha : allMay zs = false := allMay_cut hlt (by rw [Hcc.out]; exact Hmc.out)
        simp [textR, ha]
      | true =>
        have Hmc := hide hmc
        have hcb := (mayB_iff c).1 hmc
        have hc0 := hcb.1
        have hc1 := hcb.2.1
        clear hmc hcb
        have hl4 := (textL_len (zs.take k)).2
        have hl5 : (zs.take k).length ≤ k := List.length_take_le _ _
        have Hbl : (Lib.byteCells (textL (zs.take k))).length + 4 ≤ 140737488355328 := by rw [Lib.byteCells_length]; omega
        go_wp2_with (first | (go_at_call 21; refine (may_is _ _ true Hmc.out).mono ?_; rintro e w' ⟨rfl, hw⟩; rw [hw]) | (go_at_call 31; refine (builder_WriteRune w.heap.size w.heap.size _ c (by omega) (by omega) _ hI Hbl (by omega)).mono ?_))
        rintro e w1 ⟨rfl, h1, b1, _⟩
        go_wp2
        go_roundw
        case rel =>
          refine ⟨k + 1, hlt, by go_num, ?_, hB.trans b1, by have := b1.size; omega, ?_⟩
          · rw [take_snoc zs k hlt, Hcc.out, textL_append, textL_one, Lib.byteCells_append, Lib.byteCells_encodeRune]
            exact Or.inr h1
          · rw [take_snoc zs k hlt, Hcc.out, allMay_append, hm, allMay_cons, Hmc.out]; rfl
        case measure => simp [intOf]; omega
    · go_wp2_with (go_at_call 32; refine (builder_String w.heap.size w.heap.size _ _ hI (by omega)).mono ?_)
      rintro e w1 ⟨rfl, _, b1, _⟩
      go_wp2
      go_ret2
      have e1 : zs.take k = zs := List.take_of_length_le (by omega)
      rw [e1] at hm
      refine ⟨?_, hB.trans b1⟩
      simp [textR, hm, e1]

set_option maxHeartbeats 1000000 in
theorem text_none (ao : Option Addr) (cap : Nat) (w : World) :
    Calls Try.prog 19 #[.slice ao 0 cap] w fun e w' => e = .returned (textR []) ∧ Below w.heap.size w w' := by
  have hI : Lib.IsBuilderF 50 5 w.heap.size w.heap.size (Lib.byteCells []) (w.alloc (.cells #[.pointer none, .slice none 0 0] 50)) := Lib.IsBuilderF.of (Lib.fresh_isBuilder 50 5 w)
  go_enter Try.func19, Try.ntmps19
  go_wp2
  refine wp_loop_rounds 1 ?_
  rw [rounds_succ]
  go_wp2_with (go_at_call 32; refine (builder_String w.heap.size w.heap.size [] _ hI (by simp)).mono ?_)
  rintro e w1 ⟨rfl, _, b1, _⟩
  go_wp2
  go_ret2
  exact ⟨rfl, ((Below.refl _ _).alloc (Nat.le_refl _) _).trans b1⟩

/-- a slice value whose elements are these numbers -/
def IntsAt (w : World) (v : Value) (zs : List Int) : Prop :=
  (zs = [] ∧ ∃ ao cap, v = .slice ao 0 cap) ∨ (0 < zs.length ∧ ∃ b off cap, v = .slice (some ⟨b, off, none⟩) zs.length cap ∧ ∀ k, k < zs.length → w.cell? ⟨b, off + k, none⟩ = some (.int .i64 (zs.getD k 0)))

theorem IntsAt.later {w w' : World} {v : Value} {zs : List Int} (h : IntsAt w v zs) (hb : Below w.heap.size w w') : IntsAt w' v zs := by
  rcases h with h | ⟨hp, b, off, cap, rfl, hc⟩
  · exact .inl h
  · exact .inr ⟨hp, b, off, cap, rfl, fun k hk => (hb.cell (p := ⟨b, off + k, none⟩) (lt_of_cell (hc 0 hp))).trans (hc k hk)⟩

theorem IntsAt.of_owns {w : World} {base : Nat} {v : Value} {zs : List Int} (h : w.ownsRow base 3 1 v zs.length (zs.map (Value.int .i64))) : IntsAt w v zs := by
  rcases h.2 with ⟨rfl, h0⟩ | ⟨g, cap, cur, rfl, _, hg, hn, hm, hs, ht⟩
  · exact .inl ⟨List.eq_nil_of_length_eq_zero h0, _, _, rfl⟩
  · by_cases hp : 0 < zs.length
    · refine .inr ⟨hp, g, 0, cap, rfl, fun k hk => ?_⟩
      rw [Nat.zero_add, World.ownsRow.cellAt h k (by omega)]
      simp [hk]
    · have : zs = [] := List.eq_nil_of_length_eq_zero (by omega)
      subst this
      exact .inl ⟨rfl, _, _, rfl⟩

theorem text_any (zs : List Int) (v : Value) (w : World) (hlen : zs.length ≤ 17592186044415) (h : IntsAt w v zs) :
    Calls Try.prog 19 #[v] w fun e w' => e = .returned (textR zs) ∧ Below w.heap.size w w' := by
  rcases h with ⟨rfl, ao, cap, rfl⟩ | ⟨hp, b, off, cap, rfl, hc⟩
  · exact text_none ao cap w
  · exact text_row zs b off cap w hlen hp hc
end Go.Proofs.Yteplnfncpidglaa
