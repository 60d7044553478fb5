/-
  TEXTS JOINED: K17.
-/
import Derived.Laws.EntriesVeiled
import Derived.Test.YtpfcfadbilaleaaQ19
/-
  WALKS: pct.Encode.
-/
namespace Go.Proofs.Ytpfcfadbilaleaa
open Go.RowKit
open Go.Proofs.YtpfcfadbilaleaaC (Q Box put4 qv unresQ resQ orQ unres_ok res_ok or_ok unres_any res_any union2_is below_put has_is un_fin stay_fin)
theorem encF_walk (s : ByteArray) (w w1 : World) (hs : s.size ≤ 300000) (bb : Below (w.alloc (.cells #[.pointer none, .slice none 0 0] 64)).heap.size (w.alloc (.cells #[.pointer none, .slice none 0 0] 64)) w1) :
    Calls Try.prog 35 #[.string s, .func (.func 69) #[] #[.pointer (some ⟨w1.heap.size + 1, 0, none⟩)], .func (.func 64) #[] #[.pointer (some ⟨w1.heap.size, 0, none⟩), .pointer (some ⟨w.heap.size, 0, none⟩)]]
      ((w1.alloc (.cells #[.int .u64 unresQ.a, .int .u64 unresQ.b, .int .u64 unresQ.c, .int .u64 unresQ.d] 95)).alloc (.cells #[.func (.func 64) #[] #[.pointer (some ⟨w1.heap.size, 0, none⟩), .pointer (some ⟨w.heap.size, 0, none⟩)]] 71))
      fun e w' => e = .returned (.tuple #[]) ∧ EncInv false s.data.toList w w1.heap.size (w1.heap.size + 1) unresQ [] w' := by
  have hB0 := below_new w (.cells #[.pointer none, .slice none 0 0] 64)
  have z1 := hB0.size
  have z2 := bb.size
  have hst := enc_start false s.data.toList w (w1.alloc (.cells #[.int .u64 unresQ.a, .int .u64 unresQ.b, .int .u64 unresQ.c, .int .u64 unresQ.d] 95)) w1.heap.size unresQ (((Bd.made w).later bb).alloc _) (Box.made w1 unresQ) ((hB0.trans (bb.mono z1)).alloc (Nat.le_trans z1 z2) _) (by simp; omega)
  rw [show (w1.alloc (.cells #[.int .u64 unresQ.a, .int .u64 unresQ.b, .int .u64 unresQ.c, .int .u64 unresQ.d] 95)).heap.size = w1.heap.size + 1 by simp] at hst
  exact enc_walkF s w _ w1.heap.size _ unresQ hs unres_ok stayF hst

set_option maxRecDepth 20000 in
set_option maxHeartbeats 2000000 in
theorem encF_any (s : ByteArray) (w : World) (hs : s.size ≤ 300000) :
    Calls Try.prog 45 #[.string s, .bool false] w fun e w' => e = .returned (.string ⟨(encL false s.data.toList).toArray⟩) ∧ Below w.heap.size w w' := by
  go_enter Try.func45, Try.ntmps45
  go_wp2_with (first
    | (go_at_call 61; refine (unres_any _).mono ?_; rintro e w1 ⟨rfl, bb⟩; simp only [qv]; have Hw := hide (encF_walk s w w1 hs bb); generalize unresQ = q at *)
    | (go_at_call 35; refine Hw.out.mono ?_; rintro e w3 ⟨rfl, acc, h1, h2, h2', h3, h4, h5, h6⟩)
    | (go_at_call 40; refine (builder_String w.heap.size w.heap.size acc _ h1 h4).mono ?_; rintro e w2 ⟨rfl, g1, b2, g2⟩))
  go_ret
  refine ⟨?_, h3.trans b2⟩
  rw [h6, enc_nil, List.append_nil]
  rfl

theorem encT_walk (s : ByteArray) (w V : World) (k k2 : Nat) (u : Q) (hs : s.size ≤ 300000) (hu : u.ok) (hst : ∀ a : UInt8, u.has a.toNat = stayB true a) (hb : Bd w.heap.size w.heap.size [] V) (hx : Box V k u) (hB : Below w.heap.size w V) (hsz : w.heap.size ≤ V.heap.size) (hk2 : V.heap.size = k2) :
    Calls Try.prog 35 #[.string s, .func (.func 68) #[] #[.pointer (some ⟨w.heap.size, 0, none⟩)], .func (.func 64) #[] #[.pointer (some ⟨k, 0, none⟩), .pointer (some ⟨w.heap.size, 0, none⟩)]]
      (V.alloc (.cells #[.func (.func 64) #[] #[.pointer (some ⟨k, 0, none⟩), .pointer (some ⟨w.heap.size, 0, none⟩)]] 71))
      fun e w' => e = .returned (.tuple #[]) ∧ EncInv true s.data.toList w k k2 u [] w' := by
  subst hk2
  exact enc_walkT s w _ k _ u hs hu hst (enc_start true s.data.toList w V k u hb hx hB hsz)

theorem Bd.put {B b k : Nat} {l : List UInt8} {q : Q} {W : World} (h : Bd B b l W) (f : Box W k q) (u : Q) : Bd B b l (put4 W k u) := by
  refine h.moves ?_ ?_
  · unfold put4
    have hk := Ne.symm (h.box f)
    rw [Below.heap_setCell _ _ _ _ hk, Below.heap_setCell _ _ _ _ hk, Below.heap_setCell _ _ _ _ hk, Below.heap_setCell _ _ _ _ hk]
  · intro g c fz hg
    have hk : g ≠ k := by
      intro e
      rw [e] at hg
      unfold Box at f
      rw [f] at hg
      injection hg with h1
      injection h1 with _ h2 _
      cases h2
    unfold put4
    rw [Below.heap_setCell _ _ _ _ hk, Below.heap_setCell _ _ _ _ hk, Below.heap_setCell _ _ _ _ hk, Below.heap_setCell _ _ _ _ hk]
theorem put_size (W : World) (k : Nat) (u : Q) : (put4 W k u).heap.size = W.heap.size := by unfold put4; simp

set_option maxRecDepth 20000 in
set_option maxHeartbeats 4000000 in
theorem encT_core (q r u : Q) (hq : q.ok) (hr : r.ok) (hu : orQ q r = u) (huo : u.ok) (hst : ∀ a : UInt8, u.has a.toNat = stayB true a)
    (h32 : ∀ w : World, Calls Try.prog 61 #[] w fun e w' => e = .returned (qv q) ∧ Below w.heap.size w w') (h34 : ∀ w : World, Calls Try.prog 63 #[] w fun e w' => e = .returned (qv r) ∧ Below w.heap.size w w')
    (s : ByteArray) (w : World) (hs : s.size ≤ 300000) :
    Calls Try.prog 45 #[.string s, .bool true] w fun e w' => e = .returned (.string ⟨(encL true s.data.toList).toArray⟩) ∧ Below w.heap.size w w' := by
  have H32 := hide h32
  have H34 := hide h34
  have Hst := hide hst
  have Hu := hide hu
  clear h32 h34 hst hu
  go_enter Try.func45, Try.ntmps45
  go_wp2_with (first
    | (go_at_call 61; refine (H32.out _).mono ?_; rintro e w1 ⟨rfl, bb⟩; simp only [qv]))
  go_region_with (first
    | (go_at_call 63; refine (H34.out _).mono ?_; rintro e w2 ⟨rfl, b2⟩; simp only [qv]; have X2 : Box w2 w1.heap.size q := (Box.made w1 q).drew.below b2 (by simp); obtain ⟨d0, d1, d2, d3⟩ := X2.cells)
    | (go_at_call 62; refine (union2_is q r u _ hq hr Hu.out).mono ?_; rintro e w3 ⟨rfl, b3⟩; simp only [qv]; have X3 : Box w3 w1.heap.size q := X2.below b3 X2.lt; obtain ⟨m0, m1, m2, m3⟩ := X3.cells; have fr := X3.free))
  all_goals
    have c1 := below_new w (.cells #[.pointer none, .slice none 0 0] 64)
    have c2 := c1.trans (bb.mono c1.size)
    have c3 := (c2.alloc c2.size (.cells #[.int .u64 q.a, .int .u64 q.b, .int .u64 q.c, .int .u64 q.d] 95)).drew
    have c4 := c3.trans (b2.mono c3.size)
    have c5 := c4.trans (b3.mono c4.size)
    have hsz := c5.size
    have hkk : w.heap.size ≤ w1.heap.size := c2.size
    have hB := below_put (b := w1.heap.size) c5 hkk u
    have hb := (((((((Bd.made w).later bb).alloc (.cells #[.int .u64 q.a, .int .u64 q.b, .int .u64 q.c, .int .u64 q.d] 95)).drew).later b2).later b3).put X3 u)
    have hx := X3.store u
    have Hw := hide (encT_walk s w (put4 w3 w1.heap.size u) w1.heap.size _ u hs huo Hst.out hb hx hB (by rw [put_size]; exact hsz) rfl)
    clear c1 c2 c3 c4 c5 hB hb hx X2 X3 d0 d1 d2 d3 m0 m1 m2 m3 fr b2 b3 bb
    change Exit.then _ _ _ _ (put4 w3 w1.heap.size u)
    generalize put4 w3 w1.heap.size u = V at *
    go_wp2_with (first
      | (go_at_call 35; refine Hw.out.mono ?_; rintro e w4 ⟨rfl, acc, h1, h2, h2', h3, h4, h5, h6⟩)
      | (go_at_call 40; refine (builder_String w.heap.size w.heap.size acc _ h1 h4).mono ?_; rintro e w5 ⟨rfl, g1, b5, g2⟩))
    go_ret
    refine ⟨?_, h3.trans b5⟩
    rw [h6, enc_nil, List.append_nil]
    rfl

theorem encT_any (s : ByteArray) (w : World) (hs : s.size ≤ 300000) :
    Calls Try.prog 45 #[.string s, .bool true] w fun e w' => e = .returned (.string ⟨(encL true s.data.toList).toArray⟩) ∧ Below w.heap.size w w' :=
  encT_core unresQ resQ (orQ unresQ resQ) unres_ok res_ok rfl (or_ok unres_ok res_ok) stayT unres_any res_any s w hs
theorem enc_any (s : ByteArray) (keep : Bool) (w : World) (hs : s.size ≤ 300000) :
    Calls Try.prog 45 #[.string s, .bool keep] w fun e w' => e = .returned (.string ⟨(encL keep s.data.toList).toArray⟩) ∧ Below w.heap.size w w' := by
  cases keep
  · exact encF_any s w hs
  · exact encT_any s w hs

end Go.Proofs.Ytpfcfadbilaleaa
