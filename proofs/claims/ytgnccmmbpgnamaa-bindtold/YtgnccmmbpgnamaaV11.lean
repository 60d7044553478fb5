/-
  WALKS: the reference's Valid, Very (layer 8).
-/
import Derived.Test.YtgnccmmbpgnamaaV10
import Derived.Test.YtgnccmmbpgnamaaV3
import Derived.Laws.StructEq
namespace Go.Proofs.Ytgnccmmbpgnamaa
open Go.RowKit
theorem fields39 : Try.prog.underlying 48 = some (.struct (Try.prog.fieldsOf 48)) := by
  unfold Program.fieldsOf; rw [Try.underlying48]
theorem held39 : Try.prog.stoodInHeld 48 = false := by kernel_rfl
theorem guard39 : Try.prog.eqGuardType Try.prog.depth 48 = false := by kernel_rfl
theorem eq39 (a a' b b' : ByteArray) (w : World) : (Op.equalIn 10000 48 (.agg #[.string a, .string b]) (.agg #[.string a', .string b'])).run Try.prog w = .ok (a.toList == a'.toList && b.toList == b'.toList) w := by
  rw [show (10000 : Nat) = 9999 + 1 from rfl, run_equalIn_struct w 9999 48 _ _ fields39 held39]
  unfold Program.fieldsOf
  rw [Try.underlying48]
  go_simp
  by_cases h1 : a.toList = a'.toList <;> by_cases h2 : b.toList = b'.toList <;> simp [h1, h2]
theorem eq39_same (a b : ByteArray) (w : World) : (Op.equalIn 10000 48 (.agg #[.string a, .string b]) (.agg #[.string a, .string b])).run Try.prog w = .ok true w := by
  rw [eq39]; simp
set_option maxRecDepth 20000 in
set_option maxHeartbeats 4000000 in
/-- two values that are the same -/
theorem very_any (x y : Value) (v : Vl) (w : World) (HA : VlAt w x v) (HB : VlAt w y v) (hl : v.l.length ≤ 1000000) (hp : v.p.length ≤ 1000000) :
    Calls Try.prog 13 #[x, y] w fun e w' => e = .returned (.bool true) ∧ Below w.heap.size w w' := by
  have hg := guard39
  have he := eq39_same
  obtain ⟨al, ap, rfl, A1, A2⟩ := HA
  obtain ⟨bl, bp, rfl, B1, B2⟩ := HB
  obtain ⟨alo, alc, rfl⟩ := A1.form
  obtain ⟨apo, apc, rfl⟩ := A2.form
  obtain ⟨blo, blc, rfl⟩ := B1.form
  obtain ⟨bpo, bpc, rfl⟩ := B2.form
  obtain ⟨S, hS⟩ : ∃ S : ByteArray, (⟨v.s.toArray⟩ : ByteArray) = S := ⟨_, rfl⟩
  rw [hS]
  clear hS
  obtain ⟨k, hk⟩ : ∃ k, v.kind = k := ⟨_, rfl⟩
  rw [hk]
  clear hk
  have K := Jx.made w #[.int .i64 k, .string S, .slice alo v.l.length alc, .slice apo v.p.length apc] #[.int .i64 k, .string S, .slice blo v.l.length blc, .slice bpo v.p.length bpc]
  obtain ⟨W0, hW0⟩ : ∃ W0, (w.alloc (.cells #[.int .i64 k, .string S, .slice alo v.l.length alc, .slice apo v.p.length apc] 28)).alloc (.cells #[.int .i64 k, .string S, .slice blo v.l.length blc, .slice bpo v.p.length bpc] 28) = W0 := ⟨_, rfl⟩
  rw [hW0] at K
  replace A1 := hide (A1.later K.bel)
  replace A2 := hide (A2.later K.bel)
  replace B1 := hide (B1.later K.bel)
  replace B2 := hide (B2.later K.bel)
  obtain ⟨x0, x1, x2, x3, y0, y1, y2, y3⟩ := K.all
  go_enter Try.func13, Try.ntmps13
  go_wp2
  clear x0 x1 x2 x3 y0 y1 y2 y3 hW0
  go_loopw [5] (fun i wr => ∃ q : Nat, q ≤ v.p.length ∧ i = .int .i64 q ∧ Jx w wr #[.int .i64 k, .string S, .slice alo v.l.length alc, .slice apo v.p.length apc] #[.int .i64 k, .string S, .slice blo v.l.length blc, .slice bpo v.p.length bpc] ∧ Below W0.heap.size W0 wr) (fun i _ => v.p.length - (intOf i).toNat)
  case atStart => exact ⟨0, Nat.zero_le _, rfl, K, Below.refl _ _⟩
  case round =>
    clear K
    obtain ⟨q, hq, rfl, K, Bw⟩ := hrel
    obtain ⟨x0, x1, x2, x3, y0, y1, y2, y3⟩ := K.all
    by_cases hlt : q < v.p.length
    · obtain ⟨ba, oa, ca, ea, hba, ga1, ga2⟩ := (A2.out.later Bw).at q hlt
      obtain ⟨bb, ob, cb, eb, hbb, gb1, gb2⟩ := (B2.out.later Bw).at q hlt
      cases ea
      cases eb
      obtain ⟨N1, hN1⟩ : ∃ N : ByteArray, (⟨v.p[q].1.toArray⟩ : ByteArray) = N := ⟨_, rfl⟩
      obtain ⟨N2, hN2⟩ : ∃ N : ByteArray, (⟨v.p[q].2.toArray⟩ : ByteArray) = N := ⟨_, rfl⟩
      rw [hN1] at ga1 gb1
      rw [hN2] at ga2 gb2
      clear hN1 hN2
      have h0 : (0 : Int) ≤ q := by omega
      have h1 : (q : Int) < v.p.length := by omega
      go_wp2
      go_quiet ((fail))
      go_wp2
      go_roundw
      case rel => exact ⟨q + 1, by omega, by go_num, K.next (b_drewN _ nq), Bw.trans ((b_drewN _ nq).mono Bw.size)⟩
      case measure => simp [intOf]; omega
    · go_wp2_with (go_at_call 14; refine (texts_any v.l v.l _ _ _ (by omega) (A1.out.later Bw) (B1.out.later Bw)).mono ?_; rintro e w2 ⟨rfl, b2⟩)
      go_ret
      exact ⟨ret_bool (by simp), (K.next b2).bel⟩
end Go.Proofs.Ytgnccmmbpgnamaa
