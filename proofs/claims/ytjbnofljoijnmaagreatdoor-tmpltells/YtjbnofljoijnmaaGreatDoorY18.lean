/-
  Joined by program out of the texts A13 A14.
-/
import Derived.Test.YtjbnofljoijnmaaGreatDoorY17
import Derived.Test.YtjbnofljoijnmaaGreatDoorY06
/-
  WALKS: the reference's Begins, Parse (layer 7).
-/
namespace Go.Proofs.YtjbnofljoijnmaaGreatDoor
open Go.RowKit Go.Lib YtjbnofljoijnmaaGreatDooru

theorem isB_is (s : ByteArray) (b : Bool) (w : World) (hs : s.size ≤ 100000) (h : (isT s.data.toList).isSome = b) : Calls Tryz.prog 26 #[.string s] w fun e w' => (∃ v, e = .returned (.tuple #[v, .bool b])) ∧ Below w.heap.size w w' := by
  refine (isT_any s w hs).mono ?_
  rintro e w' ⟨bb, he⟩
  cases ho : isT s.data.toList with
  | none =>
    rw [ho] at he h
    subst h
    exact ⟨⟨_, he⟩, bb⟩
  | some ts =>
    rw [ho] at he h
    subst h
    obtain ⟨v, e1, _⟩ := he
    exact ⟨⟨v, e1⟩, bb⟩
def endsC : Array Value := #[.string ⟨#[]⟩, .string ⟨#[52, 49]⟩, .string ⟨#[49]⟩, .string ⟨#[97, 125]⟩, .string ⟨#[125]⟩, .string ⟨#[49, 125]⟩, .string ⟨#[52, 49, 125]⟩]
theorem ends_cell (k : Nat) (hk : k < 7) : endsC[k]? = some (.string ⟨(endsT.getD k []).toArray⟩) := by
  match k, hk with
  | 0, _ => rfl
  | 1, _ => rfl
  | 2, _ => rfl
  | 3, _ => rfl
  | 4, _ => rfl
  | 5, _ => rfl
  | 6, _ => rfl
theorem ends_len (k : Nat) : (endsT.getD k []).length ≤ 3 := by
  match k with
  | 0 => decide
  | 1 => decide
  | 2 => decide
  | 3 => decide
  | 4 => decide
  | 5 => decide
  | 6 => decide
  | k + 7 => simp [endsT]
theorem ends_any (l : List UInt8) (k : Nat) (hk : k < 7) (h : (isT (l ++ endsT.getD k [])).isSome = true) : beginT l = true := by
  unfold beginT
  rw [Bool.or_eq_true]
  refine .inl (List.any_eq_true.2 ⟨endsT.getD k [], ?_, h⟩)
  match k, hk with
  | 0, _ => decide
  | 1, _ => decide
  | 2, _ => decide
  | 3, _ => decide
  | 4, _ => decide
  | 5, _ => decide
  | 6, _ => decide
theorem ends_none (l : List UInt8) (h : ∀ k, k < 7 → (isT (l ++ endsT.getD k [])).isSome = false) : beginT l = [1, 2, 3].any (fun n => decide (n ≤ l.length) && ((isT (l.take (l.length - n))).isSome && fitB (l.drop (l.length - n)))) := by
  unfold beginT
  have : endsT.any (fun e => (isT (l ++ e)).isSome) = false := by
    rw [List.any_eq_false]
    intro e he
    have : ∃ k, k < 7 ∧ endsT.getD k [] = e := by
      simp only [endsT, List.mem_cons, List.not_mem_nil, or_false] at he
      rcases he with rfl | rfl | rfl | rfl | rfl | rfl | rfl
      · exact ⟨0, by decide, rfl⟩
      · exact ⟨1, by decide, rfl⟩
      · exact ⟨2, by decide, rfl⟩
      · exact ⟨3, by decide, rfl⟩
      · exact ⟨4, by decide, rfl⟩
      · exact ⟨5, by decide, rfl⟩
      · exact ⟨6, by decide, rfl⟩
    obtain ⟨k, hk, rfl⟩ := this
    rw [h k hk]; decide
  rw [this, Bool.false_or]
def backB (l : List UInt8) (n : Nat) : Bool := decide (n ≤ l.length) && ((isT (l.take (l.length - n))).isSome && fitB (l.drop (l.length - n)))
set_option maxRecDepth 20000 in
set_option maxHeartbeats 4000000 in
theorem beginT_any (s : ByteArray) (w : World) (hs : s.size ≤ 90000) : Calls Tryz.prog 27 #[.string s] w fun e w' => e = .returned (.bool (beginT s.data.toList)) ∧ Below w.heap.size w w' := by
  obtain ⟨res, eres⟩ : ∃ res, beginT s.data.toList = res := ⟨_, rfl⟩
  rw [eres]
  have Heres := hide eres
  clear eres
  go_enter Tryz.func27, Tryz.ntmps27
  go_wp2
  have X0 := Bx.made w endsC 9
  have B0 := (Below.refl w.heap.size w).alloc (Nat.le_refl _) (.cells endsC 9)
  have ew : w.alloc (.cells #[.string ⟨#[]⟩, .string ⟨#[52, 49]⟩, .string ⟨#[49]⟩, .string ⟨#[97, 125]⟩, .string ⟨#[125]⟩, .string ⟨#[49, 125]⟩, .string ⟨#[52, 49, 125]⟩] 9) = w.alloc (.cells endsC 9) := rfl
  rw [ew]
  go_loopw [4] (fun i wr => ∃ k : Nat, k ≤ 7 ∧ i = .int .i64 k ∧ (∀ j, j < k → (isT (s.data.toList ++ endsT.getD j [])).isSome = false) ∧ Below w.heap.size w wr ∧ Bx wr w.heap.size endsC 9) (fun i _ => 7 - (Go.RowKit.intOf i).toNat)
  case atStart => exact ⟨0, by omega, rfl, fun j hj => by omega, B0, X0⟩
  case round =>
    obtain ⟨k, hk, rfl, hno, hB, X⟩ := hrel
    by_cases hk7 : k < 7
    · have c := X.cell k _ (ends_cell k hk7)
      have hel := ends_len k
      obtain ⟨E, hE⟩ : ∃ E : ByteArray, (⟨(endsT.getD k []).toArray⟩ : ByteArray) = E := ⟨_, rfl⟩
      have hEl : E.data.toList = endsT.getD k [] := by rw [← hE]
      have hEs : E.size ≤ 3 := by rw [size_list, hEl]; exact hel
      rw [hE] at c
      have a1 := str_add s E (by unfold maxLen; omega)
      obtain ⟨S1, hS1⟩ : ∃ S1, s ++ E = S1 := ⟨_, rfl⟩
      have hS1l : S1.data.toList = s.data.toList ++ endsT.getD k [] := by rw [← hS1, app_list, hEl]
      have hS1s : S1.size ≤ 100000 := by rw [← hS1, ByteArray.size_append]; omega
      rw [hS1] at a1
      obtain ⟨b, hb⟩ : ∃ b, (isT S1.data.toList).isSome = b := ⟨_, rfl⟩
      have hb2 := hb
      rw [hS1l] at hb2
      have Hb := hide hb
      have Hb2 := hide hb2
      have Hno := hide hno
      have HX := hide X
      clear hno X hb hb2 hE hEl hel hS1l
      cases b
      · go_wp2_with (go_at_call 26; refine (isB_is S1 false _ hS1s Hb.out).mono ?_; rintro e w1 ⟨⟨v, rfl⟩, bb⟩)
        go_roundw
        case rel => exact ⟨k + 1, by omega, by go_num, fun j hj => by
          by_cases e : j < k
          · exact Hno.out j e
          · have : j = k := by omega
            rw [this]; exact Hb2.out, hB.trans (bb.mono hB.size), HX.out.next bb⟩
        case measure => simp [Go.RowKit.intOf]; omega
      · have hr : res = true := by rw [← Heres.out]; exact ends_any _ k hk7 Hb2.out
        have Hr := hide hr
        clear hr
        go_wp2_with (go_at_call 26; refine (isB_is S1 true _ hS1s Hb.out).mono ?_; rintro e w1 ⟨⟨v, rfl⟩, bb⟩; replace hB := hB.trans (bb.mono hB.size); clear bb)
        all_goals go_ret
        all_goals exact ⟨ret_bool Hr.out.symm, hB⟩
    · have hk8 : k = 7 := by omega
      have hres : res = (backB s.data.toList 1 || backB s.data.toList 2 || backB s.data.toList 3) := by
        rw [← Heres.out, ends_none _ (fun j hj => hno j (by omega))]
        simp [backB, Bool.or_assoc]
      have Hres := hide hres
      clear hk8 hno X hres
      go_wp2
      go_loopw [7] (fun i wr => ∃ q : Nat, 1 ≤ q ∧ q ≤ 4 ∧ i = .int .i64 q ∧ (∀ j, 1 ≤ j → j < q → backB s.data.toList j = false) ∧ Below w.heap.size w wr) (fun i _ => 4 - (Go.RowKit.intOf i).toNat)
      case atStart => exact ⟨1, by omega, by omega, rfl, fun j h1 h2 => by omega, hB⟩
      case round =>
        obtain ⟨q, hq1, hq4, rfl, hno, hB⟩ := hrel
        by_cases hq3 : q ≤ 3
        · by_cases hqs : q ≤ s.size
          · obtain ⟨z, hz⟩ : ∃ z : Nat, s.size - q = z := ⟨_, rfl⟩
            have hzi : IntKind.i64.wrap ((s.size : Int) - q) = (z : Int) := by rw [IntKind.wrap_i64]; omega
            obtain ⟨A, hA⟩ : ∃ A, s.extract 0 z = A := ⟨_, rfl⟩
            obtain ⟨C, hC⟩ : ∃ C, s.extract z s.size = C := ⟨_, rfl⟩
            have hAs : A.size ≤ s.size := by rw [← hA]; simp; omega
            obtain ⟨b1, hb1⟩ : ∃ b, (isT A.data.toList).isSome = b := ⟨_, rfl⟩
            obtain ⟨b2, hb2⟩ : ∃ b, fitB C.data.toList = b := ⟨_, rfl⟩
            have hbk : backB s.data.toList q = (b1 && b2) := by
              unfold backB
              rw [← size_list, hz, ← hb1, ← hb2, ← hA, ← hC, head_list, cut_list]
              simp [hqs]
            have hnx : (b1 && b2) = false → ∀ j, 1 ≤ j → j < q + 1 → backB s.data.toList j = false := by
              intro hf j h1 h2
              by_cases e : j < q
              · exact hno j h1 e
              · have : j = q := by omega
                rw [this, hbk]; exact hf
            have hyes : (b1 && b2) = true → res = true := by
              intro ht
              rw [Hres.out]
              rw [ht] at hbk
              have : q = 1 ∨ q = 2 ∨ q = 3 := by omega
              rcases this with e | e | e
              · rw [← e, hbk]; simp
              · rw [← e, hbk]; simp
              · rw [← e, hbk]; simp
            have Hb1 := hide hb1
            have Hb2 := hide hb2
            have Hnx := hide hnx
            have Hyes := hide hyes
            have hzz : (s.size : Int) - (q : Int) = (z : Int) := by omega
            have hzs : z ≤ s.size := by omega
            clear hno hb1 hb2 hbk hnx hyes
            cases b1
            · go_wp2_with (go_at_call 26; refine (isB_is A false _ (by omega) Hb1.out).mono ?_; rintro e w1 ⟨⟨v, rfl⟩, bb⟩; replace hB := hB.trans (bb.mono hB.size); clear bb)
              go_roundw
              case rel => exact ⟨q + 1, by omega, by omega, by go_num, Hnx.out rfl, hB⟩
              case measure => simp [Go.RowKit.intOf]; omega
            · cases b2
              · go_wp2_with (first | (go_at_call 26; refine (isB_is A true _ (by omega) Hb1.out).mono ?_; rintro e w1 ⟨⟨v, rfl⟩, bb⟩; replace hB := hB.trans (bb.mono hB.size); clear bb) | (go_at_call 45; refine (YtjbnofljoijnmaaGreatDooru.rfits_is C false _ Hb2.out).mono ?_; rintro e w2 ⟨rfl, bb⟩; replace hB := hB.trans (bb.mono hB.size); clear bb))
                go_roundw
                case rel => exact ⟨q + 1, by omega, by omega, by go_num, Hnx.out rfl, hB⟩
                case measure => simp [Go.RowKit.intOf]; omega
              · go_wp2_with (first | (go_at_call 26; refine (isB_is A true _ (by omega) Hb1.out).mono ?_; rintro e w1 ⟨⟨v, rfl⟩, bb⟩; replace hB := hB.trans (bb.mono hB.size); clear bb) | (go_at_call 45; refine (YtjbnofljoijnmaaGreatDooru.rfits_is C true _ Hb2.out).mono ?_; rintro e w2 ⟨rfl, bb⟩; replace hB := hB.trans (bb.mono hB.size); clear bb))
                all_goals go_ret
                all_goals exact ⟨ret_bool (Hyes.out rfl).symm, hB⟩
          · have hr : res = false := by
              have hbig : ∀ j, q ≤ j → backB s.data.toList j = false := by
                intro j hj
                unfold backB
                rw [← size_list]
                have : decide (j ≤ s.size) = false := by simp; omega
                rw [this]; rfl
              have hall : ∀ j, 1 ≤ j → backB s.data.toList j = false := fun j h1 => by
                by_cases e : j < q
                · exact hno j h1 e
                · exact hbig j (by omega)
              rw [Hres.out, hall 1 (by omega), hall 2 (by omega), hall 3 (by omega)]; rfl
            have Hr := hide hr
            clear hr hno
            go_wp2
            all_goals go_ret
            all_goals exact ⟨ret_bool Hr.out.symm, hB⟩
        · have hq5 : q = 4 := by omega
          have hr : res = false := by
            rw [Hres.out, hno 1 (by omega) (by omega), hno 2 (by omega) (by omega), hno 3 (by omega) (by omega)]; rfl
          have Hr := hide hr
          clear hr hno
          subst hq5
          go_wp2
          all_goals go_ret
          all_goals exact ⟨ret_bool Hr.out.symm, hB⟩
theorem beginT_is (s : ByteArray) (b : Bool) (w : World) (hs : s.size ≤ 90000) (h : beginT s.data.toList = b) : Calls Tryz.prog 27 #[.string s] w fun e w' => e = .returned (.bool b) ∧ Below w.heap.size w w' := by
  subst h; exact beginT_any s w hs
end Go.Proofs.YtjbnofljoijnmaaGreatDoor

/-
  WALKS: the reference's Parse (layer 7).
-/
namespace Go.Proofs.YtjbnofljoijnmaaGreatDoor
open Go.RowKit Go.Lib

/-- what is told of a text: its parts, how far it goes, and whether it is right -/
def ParsePost (w : World) (l : List UInt8) (e : Ending) (w' : World) : Prop :=
  Below w.heap.size w w' ∧ match isT l with
  | some ts => ∃ v, e = .returned (.tuple #[v, .int .i64 l.length, .int .i64 0]) ∧ PtsAt w' v ts
  | none => e = .returned (.tuple #[.slice none 0 0, .int .i64 (badT l), .int .i64 2])
theorem parse_none {w w' : World} {l : List UInt8} {k : Nat} (h : isT l = none) (hk : badT l = k) (hB : Below w.heap.size w w') : ParsePost w l (.returned (.tuple #[.slice none 0 0, .int .i64 (k : Int), .int .i64 2])) w' := by
  refine ⟨hB, ?_⟩
  rw [h, hk]
theorem parse_some {w w' : World} {l : List UInt8} {ts : List Pt} {v : Value} {n : Nat} (h : isT l = some ts) (hn : l.length = n) (hv : PtsAt w' v ts) (hB : Below w.heap.size w w') : ParsePost w l (.returned (.tuple #[v, .int .i64 (n : Int), .int .i64 0])) w' := by
  refine ⟨hB, ?_⟩
  rw [h]
  exact ⟨v, by rw [hn], hv⟩
set_option maxRecDepth 20000 in
set_option maxHeartbeats 1000000 in
theorem rparse_any (s : ByteArray) (w : World) (hs : s.size ≤ 80000) : Calls Tryz.prog 8 #[.string s] w fun e w' => ParsePost w s.data.toList e w' := by
  obtain ⟨o, ho⟩ : ∃ o, isT s.data.toList = o := ⟨_, rfl⟩
  have Ho := hide ho
  have hbl := badT_le s.data.toList
  rw [← size_list] at hbl
  obtain ⟨B, hBd⟩ : ∃ B, badT s.data.toList = B := ⟨_, rfl⟩
  have hif := badT_iff s.data.toList
  rw [hBd] at hbl hif
  have Hif := hide hif
  have HBd := hide hBd
  clear ho hif hBd
  cases o with
  | some ts =>
    go_enter Tryz.func8, Tryz.ntmps8
    go_wp2_with (go_at_call 26; refine (isT_is s (some ts) _ (by omega) Ho.out).mono ?_; rintro e w1 ⟨bb, he⟩; simp only at he; obtain ⟨v, rfl, hv⟩ := he)
    go_ret3
    exact parse_some Ho.out (size_list s).symm hv bb
  | none =>
    go_enter Tryz.func8, Tryz.ntmps8
    go_wp2_with (go_at_call 26; refine (isT_is s none _ (by omega) Ho.out).mono ?_; rintro e w1 ⟨bb, he⟩; simp only at he; subst he)
    go_loopw [7] (fun i wr => ∃ k : Nat, k ≤ B ∧ i = .int .i64 k ∧ Below w.heap.size w wr) (fun i _ => B - (Go.RowKit.intOf i).toNat)
    case atStart => exact ⟨0, Nat.zero_le _, rfl, bb⟩
    case round =>
      obtain ⟨k, hk, rfl, hB⟩ := hrel
      by_cases hlt : k < s.size
      · obtain ⟨T, hT⟩ : ∃ T, s.extract 0 (k + 1) = T := ⟨_, rfl⟩
        have hTl : T.data.toList = s.data.toList.take (k + 1) := by rw [← hT, head_list]
        have hTs : T.size ≤ s.size := by rw [← hT]; simp; omega
        have hb := Hif.out (k + 1) (by rw [← size_list]; omega)
        rw [← hTl] at hb
        obtain ⟨b, eb⟩ : ∃ b, beginT T.data.toList = b := ⟨_, rfl⟩
        rw [eb] at hb
        have Hb := hide hb
        have Eb := hide eb
        clear hb eb hTl
        cases b
        · have hke : k = B := by
            have : ¬ k + 1 ≤ B := fun h => by have := Hb.out.2 h; cases this
            omega
          have Hke := hide hke
          clear hke
          go_wp2_with (go_at_call 27; refine (beginT_is T false _ (by omega) Eb.out).mono ?_; rintro e w2 ⟨rfl, bb2⟩; replace hB := hB.trans (bb2.mono hB.size); clear bb2)
          all_goals go_ret3
          all_goals exact parse_none Ho.out (HBd.out.trans Hke.out.symm) hB
        · have hkB : k + 1 ≤ B := Hb.out.1 rfl
          go_wp2_with (go_at_call 27; refine (beginT_is T true _ (by omega) Eb.out).mono ?_; rintro e w2 ⟨rfl, bb2⟩; replace hB := hB.trans (bb2.mono hB.size); clear bb2)
          go_roundw
          case rel => exact ⟨k + 1, by omega, by go_num, hB⟩
          case measure => simp [Go.RowKit.intOf]; omega
      · have hke : k = B := by omega
        have Hke := hide hke
        clear hke
        go_wp2
        all_goals go_ret3
        all_goals exact parse_none Ho.out (HBd.out.trans Hke.out.symm) hB
end Go.Proofs.YtjbnofljoijnmaaGreatDoor
