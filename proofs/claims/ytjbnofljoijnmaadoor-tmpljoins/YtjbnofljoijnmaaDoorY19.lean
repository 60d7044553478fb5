/-
  Joined by program out of the texts C1 C2 C3.
-/
import Derived.Test.YtjbnofljoijnmaaDoorY18
import Derived.Test.YtjbnofljoijnmaaDoorY02
/-
  The program's six functions, as the laws use them (premises here); how long what is read can be.
-/
namespace Go.Proofs.YtjbnofljoijnmaaDoor
open Go.RowKit Go.Lib

/-- parts that are few and small -/
def SmallT (ts : List Pt) : Prop := ts.length ≤ 1000 ∧ ∀ x ∈ ts, x.specs.length ≤ 1000 ∧ x.lit.length ≤ 100000 ∧ ∀ y ∈ x.specs, y.name.length ≤ 100000
/-- the program's forms; R: what the walks ask of the world -/
structure Prg (R : World → Prop) : Prop where
  next : ∀ w w', R w → Below w.heap.size w w' → R w'
  oper : ∀ (c : UInt8) w, R w → Calls Tryd.prog 26 #[.int .u8 (c.toNat : Int)] w fun e w' => e = .returned (.bool (operB c)) ∧ Below w.heap.size w w'
  may : ∀ v ts w, R w → PtsAt w v ts → SmallT ts → Calls Tryd.prog 8 #[v] w fun e w' => e = .returned (.bool (mayT ts)) ∧ Below w.heap.size w w'
  put : ∀ v ts w, R w → PtsAt w v ts → SmallT ts → (putF ts).length ≤ 1000000 → Calls Tryd.prog 9 #[v] w fun e w' => e = .returned (.string ⟨(putT ts).toArray⟩) ∧ Below w.heap.size w w'
  parse : ∀ (s : ByteArray) w, R w → s.size ≤ 1000000 → Calls Tryd.prog 10 #[.string s] w fun e w' => ParsePost w s.data.toList e w'
  names : ∀ v ts w, R w → PtsAt w v ts → SmallT ts → Calls Tryd.prog 13 #[v] w fun e w' => ∃ u, e = .returned u ∧ StrsAt w' u (namesT ts) ∧ Below w.heap.size w w'
  once : ∀ v ts w, R w → PtsAt w v ts → SmallT ts → Calls Tryd.prog 15 #[v] w fun e w' => e = .returned (.bool (onceT ts)) ∧ Below w.heap.size w w'
theorem pyes_is {R : World → Prop} (P : Prg R) (s : ByteArray) (ts : List Pt) (w : World) (hR : R w) (hs : s.size ≤ 1000000) (h : isT s.data.toList = some ts) : Calls Tryd.prog 10 #[.string s] w fun e w' => ∃ v, e = .returned (.tuple #[v, .int .i64 s.size, .int .i64 0]) ∧ PtsAt w' v ts ∧ Below w.heap.size w w' := by
  refine (P.parse s w hR hs).mono ?_
  rintro e w' ⟨hB, he⟩
  rw [h] at he
  obtain ⟨v, rfl, hv⟩ := he
  exact ⟨v, by rw [size_list], hv, hB⟩
theorem pno_is {R : World → Prop} (P : Prg R) (s : ByteArray) (k : Nat) (w : World) (hR : R w) (hs : s.size ≤ 1000000) (h : isT s.data.toList = none) (hk : badT s.data.toList = k) : Calls Tryd.prog 10 #[.string s] w fun e w' => e = .returned (.tuple #[.slice none 0 0, .int .i64 (k : Int), .int .i64 2]) ∧ Below w.heap.size w w' := by
  refine (P.parse s w hR hs).mono ?_
  rintro e w' ⟨hB, he⟩
  rw [h, hk] at he
  exact ⟨he, hB⟩
theorem poper_is {R : World → Prop} (P : Prg R) (c : UInt8) (b : Bool) (w : World) (hR : R w) (h : operB c = b) : Calls Tryd.prog 26 #[.int .u8 (c.toNat : Int)] w fun e w' => e = .returned (.bool b) ∧ Below w.heap.size w w' := by
  subst h; exact P.oper c w hR
theorem pmayT_is {R : World → Prop} (P : Prg R) (v : Value) (ts : List Pt) (b : Bool) (w : World) (hR : R w) (hv : PtsAt w v ts) (hs : SmallT ts) (h : mayT ts = b) : Calls Tryd.prog 8 #[v] w fun e w' => e = .returned (.bool b) ∧ Below w.heap.size w w' := by
  subst h; exact P.may v ts w hR hv hs
theorem pputT_is {R : World → Prop} (P : Prg R) (v : Value) (ts : List Pt) (p : ByteArray) (w : World) (hR : R w) (hv : PtsAt w v ts) (hs : SmallT ts) (hl : (putF ts).length ≤ 1000000) (h : p.data.toList = putT ts) : Calls Tryd.prog 9 #[v] w fun e w' => e = .returned (.string p) ∧ Below w.heap.size w w' := by
  have e : p = ⟨(putT ts).toArray⟩ := arr_ext h
  subst e; exact P.put v ts w hR hv hs hl
theorem ponce_is {R : World → Prop} (P : Prg R) (v : Value) (ts : List Pt) (b : Bool) (w : World) (hR : R w) (hv : PtsAt w v ts) (hs : SmallT ts) (h : onceT ts = b) : Calls Tryd.prog 15 #[v] w fun e w' => e = .returned (.bool b) ∧ Below w.heap.size w w' := by
  subst h; exact P.once v ts w hR hv hs
/-! ### How long -/
theorem join_mem {ps : List (List UInt8)} {p : List UInt8} (h : p ∈ ps) : p.length ≤ (joinC ps).length := by
  induction ps with
  | nil => cases h
  | cons a r ih =>
    cases r with
    | nil => rw [List.mem_singleton.1 h]; exact Nat.le_refl _
    | cons b r =>
      show _ ≤ (a ++ 44 :: joinC (b :: r)).length
      rw [List.length_append, List.length_cons]
      rcases List.mem_cons.1 h with rfl | h
      · omega
      · have := ih h; omega
theorem join_len (ps : List (List UInt8)) : ps.length ≤ (joinC ps).length + 1 := by
  induction ps with
  | nil => simp
  | cons a r ih =>
    cases r with
    | nil => simp
    | cons b r =>
      show _ ≤ (a ++ 44 :: joinC (b :: r)).length + 1
      simp only [List.length_append, List.length_cons] at ih ⊢
      omega
theorem name_put {y : Sp} (h : mayX y = true) : y.name.length ≤ (putL y).length := by
  unfold putL
  rw [if_pos h]
  split
  · simp
  · split
    · simp
    · exact Nat.le_refl _
theorem put_mem {x : Pt} {ts : List Pt} (h : x ∈ ts) : (putPt x).length ≤ (putF ts).length := by
  induction ts with
  | nil => cases h
  | cons a r ih =>
    show _ ≤ (putPt a ++ putF r).length
    rw [List.length_append]
    rcases List.mem_cons.1 h with rfl | h
    · omega
    · have := ih h; omega
theorem may_mem : ∀ (ts : List Pt) (prev : Bool), mayF prev ts = true → ∀ x ∈ ts, mayPt x = true := by
  intro ts
  induction ts with
  | nil => intro _ _ x hx; cases hx
  | cons a r ih =>
    intro prev h x hx
    simp only [mayF, Bool.and_eq_true] at h
    rcases List.mem_cons.1 hx with rfl | hx
    · exact h.1.1
    · exact ih _ h.2 x hx
theorem pt_len {x : Pt} (h : mayPt x = true) : 1 ≤ (putPt x).length ∧ x.specs.length ≤ (putPt x).length ∧ x.lit.length ≤ (putPt x).length ∧ ∀ y ∈ x.specs, y.name.length ≤ (putPt x).length := by
  cases hs : x.specs.isEmpty with
  | true =>
    obtain ⟨h1, _, h3, h4⟩ := put_lit hs h
    rw [h4, h1]
    have := (literal_head h3).1
    refine ⟨?_, by simp, Nat.le_refl _, fun y hy => by cases hy⟩
    cases hl : x.lit with
    | nil => exact absurd hl this
    | cons a t => simp
  | false =>
    obtain ⟨_, h2, _, h4, h5⟩ := put_expr hs h
    have e : (putPt x).length = (opL x.op).length + (joinC (x.specs.map putL)).length + 2 := by
      rw [h5]; simp [bodyL]; omega
    have hj := join_len (x.specs.map putL)
    rw [List.length_map] at hj
    refine ⟨by omega, by omega, by rw [h2]; simp, fun y hy => ?_⟩
    have h6 := join_mem (p := putL y) (List.mem_map.2 ⟨y, hy, rfl⟩)
    have h7 := name_put (List.all_eq_true.1 h4 y hy)
    omega
theorem may_len : ∀ (ts : List Pt) (prev : Bool), mayF prev ts = true → ts.length ≤ (putF ts).length := by
  intro ts
  induction ts with
  | nil => intro _ _; simp
  | cons a r ih =>
    intro prev h
    simp only [mayF, Bool.and_eq_true] at h
    have h1 := (pt_len h.1.1).1
    have h2 := ih _ h.2
    show _ ≤ (putPt a ++ putF r).length
    rw [List.length_append, List.length_cons]
    omega
theorem small_is {l : List UInt8} {ts : List Pt} (h : isT l = some ts) (hl : l.length ≤ 1000) : SmallT ts ∧ ts.length ≤ l.length ∧ putF ts = l ∧ mayT ts = true := by
  obtain ⟨h1, h2, _⟩ := put_isN l.length l (Nat.le_refl _) ts h
  have h3 := may_len ts false h2
  rw [h1] at h3
  refine ⟨⟨by omega, fun x hx => ?_⟩, h3, h1, h2⟩
  have h4 := put_mem hx
  rw [h1] at h4
  obtain ⟨_, h5, h6, h7⟩ := pt_len (may_mem ts false h2 x hx)
  exact ⟨by omega, by omega, fun y hy => by have := h7 y hy; omega⟩
theorem small_few {ts : List Pt} (h : fewT ts = true) : SmallT ts ∧ ts.length ≤ 30 := by
  obtain ⟨h1, h2⟩ := few_all h
  refine ⟨⟨by omega, fun x hx => ?_⟩, h1⟩
  obtain ⟨a, b, c⟩ := h2 x hx
  exact ⟨by omega, by omega, fun y hy => by have := c y hy; omega⟩
theorem small_app {a b : List Pt} (ha : SmallT a) (hb : SmallT b) (h : a.length + b.length ≤ 1000) : SmallT (a ++ b) := by
  refine ⟨by rw [List.length_append]; exact h, fun x hx => ?_⟩
  rcases List.mem_append.1 hx with h | h
  · exact ha.2 x h
  · exact hb.2 x h
end Go.Proofs.YtjbnofljoijnmaaDoor

/-
  WALKS: awake (layer 7); the law TmplParses.
-/
namespace Go.Proofs.YtjbnofljoijnmaaDoor
open Go.RowKit Go.Lib

def awT : List Pt := [⟨[120], 0, []⟩, ⟨[], 63, [⟨[97], 0, false⟩, ⟨[98], 0, true⟩]⟩]
theorem aw_one : isT [120, 123, 63, 97, 44, 98, 42, 125] = some awT := by
  have h1 : putT awT = [120, 123, 63, 97, 44, 98, 42, 125] := by decide +kernel
  rw [← h1]
  exact is_putT (by decide +kernel)
theorem aw_bad : badT [120, 123, 33, 97, 125] = 2 := by decide +kernel
theorem aw_two : isT [120, 123, 33, 97, 125] = none := is_badT (by rw [aw_bad]; decide)
set_option maxRecDepth 20000 in
set_option maxHeartbeats 2000000 in
theorem awake_any {R : World → Prop} (P : Prg R) (w : World) (hR : R w) : Calls Tryd.prog 6 #[] w fun e w' => e = .returned (.bool true) ∧ Below w.heap.size w w' := by
  have B := Below.refl w.heap.size w
  have hgd := guard23
  have heq := eq23_same ⟨#[98]⟩ 0 true
  go_enter Tryd.func6, Tryd.ntmps6
  go_wp2_with (first
    | (go_at_call_of 10 (Value.string { data := #[120, 123, 63, 97, 44, 98, 42, 125] }); refine (pyes_is P ⟨#[120, 123, 63, 97, 44, 98, 42, 125]⟩ awT _ hR (by decide) aw_one).mono ?_; rintro e w1 ⟨v, rfl, hv, bb⟩; replace B := B.trans (bb.mono B.size); have hR1 := P.next _ _ hR bb; clear bb)
    | (go_at_call_of 10 (Value.string { data := #[120, 123, 33, 97, 125] }); refine (pno_is P ⟨#[120, 123, 33, 97, 125]⟩ 2 _ hR1 (by decide) aw_two aw_bad).mono ?_; rintro e w2 ⟨rfl, bb⟩; replace B := B.trans (bb.mono B.size); replace hv := hv.later bb; clear bb; obtain ⟨b, off, cap, a, n, ev, hb, h1, h2, h3, h4⟩ := hv.at 0 (by decide); obtain ⟨b', off', cap', a', n', ev', hb', h1', h2', h3', h4'⟩ := hv.at 1 (by decide); subst ev; cases ev'; obtain ⟨sb, so, sc, es, hsb, s1, s2, s3⟩ := h4'.at 1 (by decide); cases es; simp [awT] at h1 h2 h3 h1' h2' h3' s1 s2 s3))
  all_goals first | (go_ret; exact ⟨rfl, B⟩) | (rename_i h; exact absurd (show ((awT.length : Nat) : Int) = 2 from rfl) h)
end Go.Proofs.YtjbnofljoijnmaaDoor

/-
  WALKS: the law TmplBegins.
-/
namespace Go.Proofs.YtjbnofljoijnmaaDoor
open Go.RowKit Go.Lib

theorem far_of (s : ByteArray) (k : Nat) (er : Int) (w : World) (e : Ending) (w' : World) (hk : badT s.data.toList = k) (he : (if (isT s.data.toList).isSome then (0 : Int) else 2) = er) (h : ParsePost w s.data.toList e w') : (∃ a n c, e = .returned (.tuple #[.slice a n c, .int .i64 (k : Int), .int .i64 er])) ∧ Below w.heap.size w w' := by
  obtain ⟨hB, hp⟩ := h
  refine ⟨?_, hB⟩
  cases ho : isT s.data.toList with
  | none =>
    rw [ho] at hp he
    subst he hk
    exact ⟨none, 0, 0, hp⟩
  | some ts =>
    rw [ho] at hp he
    subst he
    obtain ⟨v, rfl, hv⟩ := hp
    obtain ⟨a, c, rfl⟩ := hv.form
    have := badT_is (l := s.data.toList) (by rw [ho]; rfl)
    rw [hk] at this
    exact ⟨a, _, c, by rw [this]; rfl⟩
theorem pfar_is {R : World → Prop} (P : Prg R) (s : ByteArray) (k : Nat) (er : Int) (w : World) (hR : R w) (hs : s.size ≤ 1000000) (hk : badT s.data.toList = k) (he : (if (isT s.data.toList).isSome then (0 : Int) else 2) = er) : Calls Tryd.prog 10 #[.string s] w fun e w' => (∃ a n c, e = .returned (.tuple #[.slice a n c, .int .i64 (k : Int), .int .i64 er])) ∧ Below w.heap.size w w' :=
  (P.parse s w hR hs).mono fun e w' h => far_of s k er w e w' hk he h
set_option maxRecDepth 20000 in
set_option maxHeartbeats 4000000 in
theorem begins_walk {R : World → Prop} (P : Prg R) (s more : ByteArray) (w : World) (hR : R w) : Calls Tryd.prog 5 #[.string s, .string more] w fun e w' => e = .returned (.bool true) ∧ Below w.heap.size w w' := by
  have B := Below.refl w.heap.size w
  have AW : Hid True := trivial
  by_cases hbig : 100 < s.size
  · go_enter Tryd.func5, Tryd.ntmps5
    go_wp2_with (go_at_call 6; refine (awake_any P _ hR).mono ?_; rintro e w1 ⟨rfl, bb⟩; replace B := bb; clear bb)
    go_ret
    exact ⟨rfl, B⟩
  · by_cases hbig2 : 100 < more.size
    · go_enter Tryd.func5, Tryd.ntmps5
      go_wp2_with (go_at_call 6; refine (awake_any P _ hR).mono ?_; rintro e w1 ⟨rfl, bb⟩; replace B := bb; clear bb)
      all_goals go_ret
      all_goals exact ⟨rfl, B⟩
    · obtain ⟨n, hn⟩ : ∃ n, badT s.data.toList = n := ⟨_, rfl⟩
      have hnl := badT_le s.data.toList
      rw [hn, ← size_list] at hnl
      obtain ⟨S0, hS0⟩ : ∃ S0, s.extract 0 n = S0 := ⟨_, rfl⟩
      have hS0l : S0.data.toList = s.data.toList.take n := by rw [← hS0, head_list]
      have hS0s : S0.size ≤ 1000 := by rw [← hS0]; simp; omega
      have hm : badT S0.data.toList = n := by rw [hS0l, ← hn]; exact badT_take _
      have a1 := str_add s more (by unfold maxLen; omega)
      obtain ⟨S1, hS1⟩ : ∃ S1, s ++ more = S1 := ⟨_, rfl⟩
      have hS1l : S1.data.toList = s.data.toList ++ more.data.toList := by rw [← hS1, app_list]
      have hS1s : S1.size ≤ 1000 := by rw [← hS1, ByteArray.size_append]; omega
      rw [hS1] at a1
      obtain ⟨e0, he0⟩ : ∃ e : Int, (if (isT s.data.toList).isSome then (0 : Int) else 2) = e := ⟨_, rfl⟩
      obtain ⟨e1, he1⟩ : ∃ e : Int, (if (isT S0.data.toList).isSome then (0 : Int) else 2) = e := ⟨_, rfl⟩
      obtain ⟨e2, he2⟩ : ∃ e : Int, (if (isT S1.data.toList).isSome then (0 : Int) else 2) = e := ⟨_, rfl⟩
      obtain ⟨k, hk⟩ : ∃ k, badT S1.data.toList = k := ⟨_, rfl⟩
      have T0 : Hid True := trivial
      have T1 : Hid True := trivial
      have T2 : Hid True := trivial
      have Hn := hide hn
      have Hm := hide hm
      have Hk := hide hk
      have H0 := hide he0
      have H1 := hide he1
      have H2 := hide he2
      by_cases hend : n = s.size
      · clear hn hm hk he0 he1 he2 hS0l hS1l
        subst hend
        go_enter Tryd.func5, Tryd.ntmps5
        go_wp2_with (first
          | (go_at_call 6; refine (awake_any P _ hR).mono ?_; rintro e w1 ⟨rfl, bb⟩; replace B := bb; have hR1 := P.next _ _ hR bb; clear bb)
          | (go_at_call 10; have z := T0; refine (pfar_is P s s.size e0 _ hR1 (by omega) Hn.out H0.out).mono ?_; rintro e w2 ⟨⟨x1, x2, x3, rfl⟩, bb⟩; replace B := B.trans (bb.mono B.size); have hR2 := P.next _ _ hR1 bb; clear bb T0 z)
          | (go_at_call 10; have z := T1; refine (pfar_is P S0 s.size e1 _ hR2 (by omega) Hm.out H1.out).mono ?_; rintro e w3 ⟨⟨x1, x2, x3, rfl⟩, bb⟩; replace B := B.trans (bb.mono B.size); have hR3 := P.next _ _ hR2 bb; clear bb T1 z)
          | (go_at_call 10; have z := T2; refine (pfar_is P S1 k e2 _ hR3 (by omega) Hk.out H2.out).mono ?_; rintro e w4 ⟨⟨x1, x2, x3, rfl⟩, bb⟩; replace B := B.trans (bb.mono B.size); clear bb T2 z))
        all_goals go_ret
        all_goals exact ⟨rfl, B⟩
      · have hne : badT s.data.toList ≠ s.data.toList.length := by rw [hn, ← size_list]; exact hend
        have hk2 : k = n := by rw [← hk, hS1l, badT_more _ _ hne, hn]
        have e0is : e0 = 2 := by rw [← he0, is_badT hne]; rfl
        have e2is : e2 = 2 := by rw [← he2, hS1l, is_moreT _ _ hne]; rfl
        clear hn hm hk he0 he1 he2 hS0l hS1l hne
        subst hk2 e0is e2is
        have hend2 : ((k : Int) == (s.size : Int)) = false := by simp; omega
        go_enter Tryd.func5, Tryd.ntmps5
        go_wp2_with (first
          | (go_at_call 6; refine (awake_any P _ hR).mono ?_; rintro e w1 ⟨rfl, bb⟩; replace B := bb; have hR1 := P.next _ _ hR bb; clear bb)
          | (go_at_call 10; have z := T0; refine (pfar_is P s k 2 _ hR1 (by omega) Hn.out H0.out).mono ?_; rintro e w2 ⟨⟨x1, x2, x3, rfl⟩, bb⟩; replace B := B.trans (bb.mono B.size); have hR2 := P.next _ _ hR1 bb; clear bb T0 z)
          | (go_at_call 10; have z := T1; refine (pfar_is P S0 k e1 _ hR2 (by omega) Hm.out H1.out).mono ?_; rintro e w3 ⟨⟨x1, x2, x3, rfl⟩, bb⟩; replace B := B.trans (bb.mono B.size); have hR3 := P.next _ _ hR2 bb; clear bb T1 z)
          | (go_at_call 10; have z := T2; refine (pfar_is P S1 k 2 _ hR3 (by omega) Hk.out H2.out).mono ?_; rintro e w4 ⟨⟨x1, x2, x3, rfl⟩, bb⟩; replace B := B.trans (bb.mono B.size); clear bb T2 z))
        all_goals go_ret
        all_goals exact ⟨rfl, B⟩
end Go.Proofs.YtjbnofljoijnmaaDoor
