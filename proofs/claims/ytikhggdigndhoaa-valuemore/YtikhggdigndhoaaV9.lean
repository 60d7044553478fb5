/-
  WALKS: the reference's Same (layer 8).
-/
import Derived.Test.YtikhggdigndhoaaV8
namespace Go.Proofs.Ytikhggdigndhoaa
open Go.RowKit

/-- two arguments' cells -/
structure Jx (w W : World) (x y : Array Value) : Prop where
  bel : Below w.heap.size w W
  fst : Bx W w.heap.size x 25
  snd : Bx W (w.heap.size + 1) y 25
section
variable {w W W' : World} {x y : Array Value}
theorem Jx.next (h : Jx w W x y) (bb : Below W.heap.size W W') : Jx w W' x y := ⟨h.bel.trans (bb.mono h.bel.size), h.fst.next bb, h.snd.next bb⟩
theorem Jx.drew (h : Jx w W x y) : Jx w W.drew x y := ⟨h.bel.drew, h.fst, h.snd⟩
theorem Jx.alloc (h : Jx w W x y) (o : Obj) : Jx w (W.alloc o) x y := h.next ((Below.refl _ _).alloc (Nat.le_refl _) _)
theorem Jx.made (w : World) (x y : Array Value) : Jx w ((w.alloc (.cells x 25)).alloc (.cells y 25)) x y := by
  refine ⟨((Below.refl _ _).alloc (Nat.le_refl _) _).alloc (by simp) _, (Bx.made _ _ _).later _, ?_⟩
  have := Bx.made (w.alloc (.cells x 25)) y 25
  simpa using this
theorem Jx.all {x0 x1 x2 x3 y0 y1 y2 y3 : Value} (h : Jx w W #[x0, x1, x2, x3] #[y0, y1, y2, y3]) : W.cell? ⟨w.heap.size, 0, none⟩ = some x0 ∧ W.cell? ⟨w.heap.size, 1, none⟩ = some x1 ∧ W.cell? ⟨w.heap.size, 2, none⟩ = some x2 ∧ W.cell? ⟨w.heap.size, 3, none⟩ = some x3 ∧ W.cell? ⟨w.heap.size + 1, 0, none⟩ = some y0 ∧ W.cell? ⟨w.heap.size + 1, 1, none⟩ = some y1 ∧ W.cell? ⟨w.heap.size + 1, 2, none⟩ = some y2 ∧ W.cell? ⟨w.heap.size + 1, 3, none⟩ = some y3 := by
  obtain ⟨a0, a1, a2, a3⟩ := cells4 h.fst
  obtain ⟨b0, b1, b2, b3⟩ := cells4 h.snd
  exact ⟨a0, a1, a2, a3, b0, b1, b2, b3⟩
end
set_option maxRecDepth 20000 in
set_option maxHeartbeats 4000000 in
theorem rsame_any (x y : Value) (a b : Vl) (w : World) (HA : VlAt w x a) (HB : VlAt w y b) (hla : a.l.length ≤ 1000) (hpa : a.p.length ≤ 1000) (hlb : b.l.length ≤ 1000) (hpb : b.p.length ≤ 1000) :
    Calls Try.prog 23 #[x, y] w fun e w' => e = .returned (.bool (sameV a b)) ∧ Below w.heap.size w w' := by
  have GA := hide HA
  have GB := hide HB
  obtain ⟨al, ap, rfl, _, _⟩ := HA
  obtain ⟨bl, bp, rfl, _, _⟩ := HB
  obtain ⟨ta, hta⟩ : ∃ ts, textsV a = ts := ⟨_, rfl⟩
  obtain ⟨tb, htb⟩ : ∃ ts, textsV b = ts := ⟨_, rfl⟩
  obtain ⟨SA, hSA⟩ : ∃ S : ByteArray, (⟨a.s.toArray⟩ : ByteArray) = S := ⟨_, rfl⟩
  obtain ⟨SB, hSB⟩ : ∃ S : ByteArray, (⟨b.s.toArray⟩ : ByteArray) = S := ⟨_, rfl⟩
  obtain ⟨ka, hka⟩ : ∃ k, a.kind = k := ⟨_, rfl⟩
  obtain ⟨kb, hkb⟩ : ∃ k, b.kind = k := ⟨_, rfl⟩
  have hna : ta.length ≤ 1000000000000 := by rw [← hta]; exact Nat.le_trans (texts_len a hla hpa) (by omega)
  have hs : sameV a b = (decide ((canonV a).kind = (canonV b).kind) && decide (ta = tb)) := by unfold sameV keyK; rw [hta, htb]
  rw [hs]
  rw [hSA, hka] at GA ⊢
  rw [hSB, hkb] at GB ⊢
  have Hta := hide hta
  have Htb := hide htb
  obtain ⟨qa, hqa⟩ : ∃ k, (canonV a).kind = k := ⟨_, rfl⟩
  obtain ⟨qb, hqb⟩ : ∃ k, (canonV b).kind = k := ⟨_, rfl⟩
  rw [hqa, hqb]
  have Hqa := hide hqa
  have Hqb := hide hqb
  have hfd : ∀ (v0 v1 v2 v3 : Value) (w : World), (Instr.field 25 (.agg #[v0, v1, v2, v3]) 0).run Try.prog w = .ok v0 w := fun _ _ _ _ _ => by kernel_rfl
  have K := Jx.made w #[.int .i64 ka, .string SA, al, ap] #[.int .i64 kb, .string SB, bl, bp]
  clear hSA hSB hka hkb hs hta htb hqa hqb
  by_cases hk : qa = qb
  · subst hk
    obtain ⟨x0, x1, x2, x3, y0, y1, y2, y3⟩ := K.all
    go_enter Try.func23, Try.ntmps23
    go_wp2
    go_region_held3 (fun W => W.cell? ⟨w.heap.size, 0, none⟩ = some (.int .i64 ka) ∧ W.cell? ⟨w.heap.size, 1, none⟩ = some (.string SA) ∧ W.cell? ⟨w.heap.size, 2, none⟩ = some al ∧ W.cell? ⟨w.heap.size, 3, none⟩ = some ap ∧ W.cell? ⟨w.heap.size + 1, 0, none⟩ = some (.int .i64 kb) ∧ W.cell? ⟨w.heap.size + 1, 1, none⟩ = some (.string SB) ∧ W.cell? ⟨w.heap.size + 1, 2, none⟩ = some bl ∧ W.cell? ⟨w.heap.size + 1, 3, none⟩ = some bp) (first | with_reducible exact K.all | with_reducible exact K.drew.all)
      (first | (go_at_call_of 17 SA; refine (rcanon_is _ a qa _ (by first | with_reducible exact GA.out.later K.bel | with_reducible exact GA.out.later K.drew.bel) hla hpa Hqa.out).mono ?_; rintro e w1 ⟨c1, c2, c3, rfl, bb⟩; (first | with_reducible (replace K := K.next bb) | with_reducible (replace K := K.drew.next bb)); clear bb) | (go_at_call_of 17 SB; refine (rcanon_is _ b qa _ (by first | with_reducible exact GB.out.later K.bel | with_reducible exact GB.out.later K.drew.bel) hlb hpb Hqb.out).mono ?_; rintro e w1 ⟨c1, c2, c3, rfl, bb⟩; (first | with_reducible (replace K := K.next bb) | with_reducible (replace K := K.drew.next bb)); clear bb) | (go_at_call_of 11 SA; refine (rtexts_is _ a ta _ (by first | with_reducible exact GA.out.later K.bel) hla hpa Hta.out).mono ?_; rintro e w1 ⟨aa, ac, rfl, TA, bb⟩; (first | with_reducible (replace TB := TB.later bb) | skip); with_reducible (replace K := K.next bb); clear bb) | (go_at_call_of 11 SB; refine (rtexts_is _ b tb _ (by first | with_reducible exact GB.out.later K.bel) hlb hpb Htb.out).mono ?_; rintro e w1 ⟨ba, bc, rfl, TB, bb⟩; (first | with_reducible (replace TA := TA.later bb) | skip); with_reducible (replace K := K.next bb); clear bb) | (go_at_call 13; refine (texts_any ta tb _ _ _ hna (by with_reducible exact TA) (by with_reducible exact TB)).mono ?_; rintro e w1 ⟨rfl, bb⟩; replace K := K.next bb; clear bb))
    all_goals go_wp2
    all_goals
      go_ret
      exact ⟨ret_bool (by simp), K.bel⟩
  · have hd : (qa == qb) = false := by simp [hk]
    obtain ⟨x0, x1, x2, x3, y0, y1, y2, y3⟩ := K.all
    go_enter Try.func23, Try.ntmps23
    go_wp2
    first | go_region_with (first | (go_at_call_of 17 SA; refine (rcanon_is _ a qa _ (by first | with_reducible exact GA.out.later K.bel | with_reducible exact GA.out.later K.drew.bel) hla hpa Hqa.out).mono ?_; rintro e w1 ⟨c1, c2, c3, rfl, bb⟩; (first | with_reducible (replace K := K.next bb) | with_reducible (replace K := K.drew.next bb)); clear bb; obtain ⟨x0, x1, x2, x3, y0, y1, y2, y3⟩ := K.all) | (go_at_call_of 17 SB; refine (rcanon_is _ b qb _ (by first | with_reducible exact GB.out.later K.bel | with_reducible exact GB.out.later K.drew.bel) hlb hpb Hqb.out).mono ?_; rintro e w1 ⟨c1, c2, c3, rfl, bb⟩; (first | with_reducible (replace K := K.next bb) | with_reducible (replace K := K.drew.next bb)); clear bb; obtain ⟨x0, x1, x2, x3, y0, y1, y2, y3⟩ := K.all)) | fail
    all_goals go_wp2
    all_goals
      go_ret
      exact ⟨ret_bool (by simp [hk]), K.bel⟩
theorem rsame_is (x y : Value) (a b : Vl) (r : Bool) (w : World) (HA : VlAt w x a) (HB : VlAt w y b) (hla : a.l.length ≤ 1000) (hpa : a.p.length ≤ 1000) (hlb : b.l.length ≤ 1000) (hpb : b.p.length ≤ 1000) (h : sameV a b = r) :
    Calls Try.prog 23 #[x, y] w fun e w' => e = .returned (.bool r) ∧ Below w.heap.size w w' := by
  subst h; exact rsame_any x y a b w HA HB hla hpa hlb hpb
theorem rless_is (u v : Value) (a b : List (List UInt8)) (r : Bool) (w : World) (hu : StrsAt w u a) (hv : StrsAt w v b) (ha : a.length ≤ 2000) (hb : b.length ≤ 2000) (h : lessL a b = r) : Calls Try.prog 36 #[u, v] w fun e w' => e = .returned (.bool r) ∧ Below w.heap.size w w' := by
  subst h; exact rless_any u v a b w hu hv ha hb
theorem canon_lens (v : Vl) : (canonV v).l.length ≤ v.l.length ∧ (canonV v).p.length ≤ v.p.length ∧ (canonV v).s.length ≤ v.s.length := by
  cases h : definedV v with
  | false => rw [canon_no h]; simp [zeroV]
  | true =>
    have hc := canon_yes h
    unfold ofV textsV at hc
    by_cases h1 : v.kind = 1
    · simp only [h1, if_true, List.length_singleton, and_self, List.headD_cons, Option.some.injEq] at hc
      rw [← hc]; simp
    · by_cases h2 : v.kind = 2
      · rw [if_neg h1, if_pos h2, if_neg (by omega)] at hc
        split at hc
        · simp only [Option.some.injEq] at hc
          rw [← hc]; simp
        · split at hc
          · cases hc
          · rename_i h3; exact absurd (.inl (by omega)) h3
      · by_cases h3 : v.kind = 3
        · rw [if_neg h1, if_neg h2, if_pos h3, if_neg (by omega), if_neg (by omega)] at hc
          split at hc
          · cases hc
          · simp only [Option.some.injEq] at hc
            rw [← hc, pairs_flat]; simp
        · rw [if_neg (by omega), if_neg (by omega), if_pos (.inl h3)] at hc
          cases hc
end Go.Proofs.Ytikhggdigndhoaa
