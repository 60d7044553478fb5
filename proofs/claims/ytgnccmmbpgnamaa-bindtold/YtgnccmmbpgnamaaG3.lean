/-
  WALKS: slices.Backward over variables, as an iterator (layer 9).
-/
import Derived.Test.YtgnccmmbpgnamaaG2
namespace Go.Proofs.Ytgnccmmbpgnamaa
open Go.RowKit Go.Shelf
attribute [local go_sem] Oper.semAt_some

/-- a variable, and its place -/
abbrev Be (w0 : World) := { x : Nat × Ev // EAt w0 x.2 ∧ FewD x.2.b ∧ x.1 ≤ 1000 }
def aggE (e : Ev) : Array Value := #[.string ⟨e.b.1.toArray⟩, .int .i64 e.b.2.kind, .string ⟨e.b.2.s.toArray⟩, e.l, e.p]
def encB {w0 : World} (x : Be w0) : Array Value := #[.int .i64 x.1.1, .agg (aggE x.1.2)]
/-- the variables, the last one first -/
def BackE {w0 : World} (es : List Ev) (xs : List (Be w0)) : Prop := xs.length = es.length ∧ ∀ k (h : k < xs.length) (g : es.length - 1 - k < es.length), xs[k].1 = (es.length - 1 - k, es[es.length - 1 - k])
theorem back_lift {w0 : World} : ∀ (es : List Ev), (∀ e ∈ es, EAt w0 e ∧ FewD e.b) → es.length ≤ 1000 → ∃ xs : List (Be w0), BackE es xs := by
  intro es hes hlen
  have key : ∀ n, n ≤ es.length → ∃ xs : List (Be w0), xs.length = n ∧ ∀ k (h : k < xs.length) (g : es.length - 1 - k < es.length), xs[k].1 = (es.length - 1 - k, es[es.length - 1 - k]) := by
    intro n
    induction n with
    | zero => intro _; exact ⟨[], rfl, fun k h => by simp at h⟩
    | succ n ih =>
      intro hn
      obtain ⟨xs, h1, h2⟩ := ih (by omega)
      have g : es.length - 1 - n < es.length := by omega
      have he := hes _ (List.getElem_mem g)
      refine ⟨xs ++ [⟨(es.length - 1 - n, es[es.length - 1 - n]), he.1, he.2, by omega⟩], by simp [h1], fun k h g' => ?_⟩
      by_cases hk : k < xs.length
      · rw [List.getElem_append_left hk]
        exact h2 k hk g'
      · have hke : k = n := by simp at h; omega
        subst hke
        rw [List.getElem_append_right (by omega)]
        simp [h1]
  obtain ⟨xs, h1, h2⟩ := key es.length (Nat.le_refl _)
  exact ⟨xs, h1, h2⟩
theorem backward_any (a : Option Addr) (n c : Nat) (w : World) : Calls Try.prog 43 #[.slice a n c] w fun e w' => e = .returned (.func (.func 52) #[] #[.pointer (some ⟨w.heap.size, 0, none⟩)]) ∧ w' = w.alloc (.cells #[.slice a n c] 22) := by
  go_enter Try.func43, Try.ntmps43
  go_wp2
  go_ret
  exact ⟨rfl, rfl⟩
set_option maxRecDepth 100000 in
set_option maxHeartbeats 4000000 in
/-- the closure hands on the variables, the last one first, whatever the round does that keeps what lay, and the slice's box -/
theorem back1_stops (Bn : Nat) (v : Value) (es : List Ev) (w0 w : World) (xs : List (Be w0)) (HE : EsAt w0 v es) (hl : es.length ≤ 1000) (hb0 : Below w0.heap.size w0 w) (hBx : Bx w Bn #[v] 22) (hxs : BackE es xs) :
    SeqStopsK Fence.wide 4 Try.prog 52 #[.pointer (some ⟨Bn, 0, none⟩)] encB (Kp w0.heap.size Bn) (fun ys => ys = xs) (fun pre => pre <+: xs) xs.length w := fun l J Jx W hW hJ hJx hY h0 => by
  obtain ⟨la, lc, rfl⟩ := HE.form
  have X0 := hBx.next hW
  have B0 := hb0.trans (hW.mono hb0.size)
  have c0 := X0.cell 0 (.slice la es.length lc) rfl
  have HE0 := hide HE
  obtain ⟨hxl, hxa⟩ := hxs
  have Hxa := hide hxa
  clear hBx hW hb0 HE hxa
  refine callsIn_of_wp Try.func52 rfl trivial ?_ rfl
  simp only [Try.ntmps52, List.size_toArray, List.length_cons, List.length_nil, Nat.reduceAdd, Nat.reduceSub, Array.replicate_succ, Array.replicate_zero, List.push_toArray, List.append_toArray, List.nil_append, List.cons_append]
  gi_wp2
  gi_loopw [3] (fun p wr => ∃ k : Nat, k ≤ es.length ∧ p = .int .i64 (((es.length - k : Nat) : Int) - 1) ∧ J (xs.take k) wr ∧ Below w0.heap.size w0 wr ∧ Bx wr Bn #[.slice la es.length lc] 22) (fun p _ => (intOf p + 1).toNat)
  case atStart => exact ⟨0, Nat.zero_le _, by go_num, h0, B0, X0⟩
  case round =>
    clear h0 B0 X0 c0
    obtain ⟨k, hk, rfl, hj, B, X⟩ := hrel
    have c0 := X.cell 0 (.slice la es.length lc) rfl
    by_cases hlt : k < es.length
    · obtain ⟨m, hm⟩ : ∃ m, es.length - k = m + 1 := ⟨es.length - k - 1, by omega⟩
      have hkx : k < xs.length := by omega
      have hml : m < es.length := by omega
      have hmk : es.length - 1 - k = m := by omega
      have hat := Hxa.out k hkx (by omega)
      simp only [hmk] at hat
      have e : ((es.length - k : Nat) : Int) - 1 = (m : Int) := by rw [hm]; omega
      rw [e]
      obtain ⟨b, off, cap, ea, hb, g0, g1, g2, g3, g4⟩ := (HE0.out.later B).at m hml
      cases ea
      have hsn : xs.take (k + 1) = xs.take k ++ [xs[k]] := List.take_succ_eq_append_getElem hkx
      obtain ⟨x, hx⟩ : ∃ x, xs[k] = x := ⟨_, rfl⟩
      rw [hx] at hat hsn
      have hen : encB x = #[.int .i64 (m : Int), .agg (aggE es[m])] := by unfold encB; rw [hat]
      obtain ⟨fn, tmps, assign, body, hy, hR⟩ := hY _ x wr hj (by simp; omega)
      rw [hen] at hy
      unfold aggE at hy
      have h0i : (0 : Int) ≤ m := by omega
      have h1i : (m : Int) < es.length := by omega
      have Hsn := hide hsn
      clear hat hsn hx hen e hmk
      gi_wp2
      refine hR.mono ?_
      rintro e W3 (⟨rfl, hJ3, hk3⟩ | ⟨rfl, hJx3⟩)
      · gi_wp2
        go_roundw
        case rel => exact ⟨k + 1, by omega, by go_num, by rw [Hsn.out]; exact hJ3, B.trans hk3.1, hk3.2 _ X⟩
        case measure => simp [intOf]
      · gi_wp2
        refine bodyPost_ret (results_none rfl _ _ _) rfl ?_
        exact ⟨⟨_, rfl⟩, .inr ⟨_, ⟨xs.drop (k + 1), by rw [← Hsn.out, List.take_append_drop]⟩, hJx3⟩⟩
    · have hend : xs.take k = xs := List.take_of_length_le (by omega)
      rw [hend] at hj
      have e : ((es.length - k : Nat) : Int) - 1 = -1 := by omega
      rw [e]
      gi_wp2
      go_end0
      exact ⟨⟨_, rfl⟩, .inl ⟨xs, rfl, hj⟩⟩
end Go.Proofs.Ytgnccmmbpgnamaa
