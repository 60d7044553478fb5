/-
  WALKS: each: a value's texts as an iterator (layer 8).
-/
import Derived.RangeFuncNested
import Derived.RangeFuncBound
import Derived.RangeFuncCalls
import Derived.RangeFuncLeaves
import Derived.Shelf.Abstract
import Derived.Shelf.RegionOpen
import Derived.WalkKit
import Derived.OwnWalkIn
import Derived.TacticsInMore
import Derived.LoopNIn
import Derived.LoopIn
import Derived.Test.YtgnccmmbpgnamaaP1
namespace Go.Proofs.Ytgnccmmbpgnamaa
open Go.RowKit Go.Shelf
attribute [local go_sem] Oper.semAt_some

/-- a text that is no longer than a value's may be -/
abbrev Sx := { s : ByteArray // s.size ≤ 140737488355328 }
def encX (x : Sx) : Array Value := #[.string x.1]
def listS (xs : List Sx) : List (List UInt8) := xs.map fun x => x.1.data.toList
theorem listS_len (xs : List Sx) : (listS xs).length = xs.length := by simp [listS]
theorem list_lift : ∀ ts : List (List UInt8), (∀ y ∈ ts, y.length ≤ 140737488355328) → ∃ xs : List Sx, listS xs = ts
  | [], _ => ⟨[], rfl⟩
  | y :: r, h => by
    obtain ⟨xs, hx⟩ := list_lift r (fun z hz => h z (List.mem_cons_of_mem _ hz))
    have hy := h y (List.mem_cons_self ..)
    refine ⟨⟨⟨y.toArray⟩, ?_⟩ :: xs, ?_⟩
    · show y.toArray.size ≤ _; simpa using hy
    · show _ :: listS xs = _
      rw [hx]
theorem listS_at (xs : List Sx) (k : Nat) (h : k < xs.length) : (⟨((listS xs).getD k []).toArray⟩ : ByteArray) = xs[k].1 := by
  have h2 : k < (listS xs).length := by rw [listS_len]; exact h
  have e : (listS xs).getD k [] = xs[k].1.data.toList := by
    rw [List.getD_eq_getElem?_getD, List.getElem?_eq_getElem h2]
    simp [listS]
  rw [e]
/-- what lay below n, and the block Bn, stay -/
def Kp (n Bn : Nat) (A B : World) : Prop := Below n A B ∧ ∀ o, A.heap[Bn]? = some o → B.heap[Bn]? = some o
theorem kp_t {n Bn : Nat} {A B C : World} (h : Kp n Bn A B) (k : Kp n Bn B C) : Kp n Bn A C := ⟨h.1.trans k.1, fun o ho => k.2 o (h.2 o ho)⟩
theorem kp_b {n Bn : Nat} {w : World} (hn : n ≤ w.heap.size) (hb : Bn < w.heap.size) (W : World) (l : Nat) (o o' : Obj) (hl : w.heap.size ≤ l) (ho : W.heap[l]? = some o) (hc : o.isCells = false) (hw : o.isWalk = false) : Kp n Bn W (W.putObj l o') :=
  ⟨belowK_b hn W l o o' hl ho hc hw, fun u hu => (World.putObj_heap_other (by omega)).trans hu⟩
theorem grown_of {W w1 : World} (bb : Below W.heap.size W w1) : W.grownBy w1 none := ⟨bb.os, bb.tape, bb.output, bb.size, fun k hk _ => bb.block k hk⟩
theorem abides {β : Type} {B : Nat} {J : β → World → Prop} (hJ : AbidesFrom B J) {s : β} {W w1 : World} (h : J s W) (bb : Below W.heap.size W w1) : J s w1 :=
  hJ s W w1 none h (grown_of bb) (fun r e => by cases e)
theorem each_any (cs : Array Value) (w : World) : Calls Try.prog 47 #[.agg cs] w fun e w' => e = .returned (.func (.func 55) #[] #[.pointer (some ⟨w.heap.size, 0, none⟩)]) ∧ w' = w.alloc (.cells cs 28) := by
  go_enter Try.func47, Try.ntmps47
  go_wp2
  go_ret
  exact ⟨rfl, rfl⟩
set_option maxRecDepth 100000 in
set_option maxHeartbeats 4000000 in
/-- each's closure hands on the texts, in turn, whatever the round does that keeps what lay, and the value's box -/
theorem each1_stops (Bn : Nat) (v : Vl) (x0 x1 x2 x3 : Value) (xs : List Sx) (w0 w : World) (HV : VlAt w0 (.agg #[x0, x1, x2, x3]) v) (hl : v.l.length ≤ 1000000) (hp : v.p.length ≤ 1000000) (hb0 : Below w0.heap.size w0 w) (hBx : Bx w Bn #[x0, x1, x2, x3] 28) (hxs : listS xs = textsV v) :
    SeqStopsK Fence.wide 4 Try.prog 55 #[.pointer (some ⟨Bn, 0, none⟩)] encX (Kp w0.heap.size Bn) (fun ys => ys = xs) (fun pre => pre <+: xs) xs.length w := fun l J Jx W hW hJ hJx hY h0 => by
  have hlen : xs.length = countV v := by unfold countV; rw [← hxs, listS_len]
  have X0 := hBx.next hW
  have B0 := hb0.trans (hW.mono hb0.size)
  obtain ⟨c0, c1, c2, c3⟩ := cells4 X0
  have HV0 := hide HV
  have Hxs := hide hxs
  obtain ⟨n, hn⟩ : ∃ n, countV v = n := ⟨_, rfl⟩
  have hnm : n ≤ 2000000 := by rw [← hn, count_is]; split <;> (try split) <;> (try split) <;> omega
  have Hn := hide hn
  rw [hn] at hlen
  clear hBx hW hb0 HV hxs hn
  refine callsIn_of_wp Try.func55 rfl trivial ?_ rfl
  simp only [Try.ntmps55, List.size_toArray, List.length_cons, List.length_nil, Nat.reduceAdd, Nat.reduceSub, Array.replicate_succ, Array.replicate_zero, List.push_toArray, List.append_toArray, List.nil_append, List.cons_append]
  gi_wp2_with (refine ⟨trivial, ?_⟩; gi_at_call 39; refine (callsIn_wide.2 (count_any _ v _ (HV0.out.later B0) hp)).mono ?_; rintro e w1 ⟨rfl, bb⟩; rw [Hn.out])
  have h1 := abides hJ h0 bb
  replace X0 := X0.next bb
  replace B0 := B0.trans (bb.mono B0.size)
  clear bb h0 c0 c1 c2 c3
  gi_loopw [6] (fun p wr => ∃ k : Nat, k ≤ n ∧ p = .int .i64 k ∧ J (xs.take k) wr ∧ Below w0.heap.size w0 wr ∧ Bx wr Bn #[x0, x1, x2, x3] 28) (fun p _ => n - (intOf p).toNat)
  case atStart => exact ⟨0, Nat.zero_le _, rfl, h1, B0, X0⟩
  case round =>
    clear h1 B0 X0
    obtain ⟨k, hk, rfl, hj, B, X⟩ := hrel
    obtain ⟨c0, c1, c2, c3⟩ := cells4 X
    by_cases hlt : k < n
    · have hkx : k < xs.length := by omega
      have hat := listS_at xs k hkx
      rw [Hxs.out] at hat
      have hsn : xs.take (k + 1) = xs.take k ++ [xs[k]] := List.take_succ_eq_append_getElem hkx
      obtain ⟨x, hx⟩ : ∃ x, xs[k] = x := ⟨_, rfl⟩
      rw [hx] at hat hsn
      have Hat := hide hat
      have Hsn := hide hsn
      clear hat hsn hx
      gi_wp2_with (refine ⟨trivial, ?_⟩; gi_at_call 56; refine (callsIn_wide.2 (at_any _ v k x.1 _ (HV0.out.later B) hl hp (by rw [Hn.out]; exact hlt) Hat.out)).mono ?_; rintro e w2 ⟨rfl, bb⟩; have hj2 := abides hJ hj bb; obtain ⟨fn, tmps, assign, body, hy, hR⟩ := hY _ x w2 hj2 (by simp; omega); dsimp only [encX] at hy)
      refine hR.mono ?_
      rintro e W3 (⟨rfl, hJ3, hk3⟩ | ⟨rfl, hJx3⟩)
      · gi_wp2
        go_roundw
        case rel => exact ⟨k + 1, by omega, by go_num, by rw [Hsn.out]; exact hJ3, (B.trans (bb.mono B.size)).trans hk3.1, hk3.2 _ (X.next bb)⟩
        case measure => simp [intOf]; omega
      · gi_wp2
        refine bodyPost_ret (results_none rfl _ _ _) rfl ?_
        exact ⟨⟨_, rfl⟩, .inr ⟨_, ⟨xs.drop (k + 1), by rw [← Hsn.out, List.take_append_drop]⟩, hJx3⟩⟩
    · have hend : xs.take k = xs := List.take_of_length_le (by omega)
      rw [hend] at hj
      gi_wp2
      go_end0
      exact ⟨⟨_, rfl⟩, .inl ⟨xs, rfl, hj⟩⟩
end Go.Proofs.Ytgnccmmbpgnamaa
