/-
  WALKS: the program's made (layer 8).
-/
import Derived.Test.YtgnccmmbpgnamaaP6
namespace Go.Proofs.Ytgnccmmbpgnamaa
open Go.RowKit

/-- the slice does not lie in that block -/
def Far (b : Nat) (v : Value) : Prop := ∀ g off n c, v = .slice (some ⟨g, off, none⟩) n c → g ≠ b
theorem Far.none (b k c : Nat) : Far b (.slice none k c) := fun _ _ _ _ e => by cases e
theorem Newly.far {n b : Nat} {v : Value} (h : Newly n v) (hb : b < n) : Far b v := fun g off k c e => by have := h g off k c e; omega
theorem StrsAt.putF {W : World} {v : Value} {ps : List (List UInt8)} {b : Nat} (h : StrsAt W v ps) (hf : Far b v) (j : Nat) (u : Value) : StrsAt (W.setCell ⟨b, j, none⟩ u) v ps := by
  rcases h with h | ⟨hp, g, off, cap, rfl, hc⟩
  · exact .inl h
  · have := hf g off _ _ rfl
    exact .inr ⟨hp, g, off, cap, rfl, fun k hk => by rw [cell_other (by omega)]; exact hc k hk⟩
theorem PairsAt.putF {W : World} {v : Value} {ps : List (List UInt8 × List UInt8)} {b : Nat} (h : PairsAt W v ps) (hf : Far b v) (j : Nat) (u : Value) : PairsAt (W.setCell ⟨b, j, none⟩ u) v ps := by
  rcases h with h | ⟨hp, g, off, cap, rfl, hc⟩
  · exact .inl h
  · have := hf g off _ _ rfl
    exact .inr ⟨hp, g, off, cap, rfl, fun k hk => by rw [cell_other (by omega), cell_other (by omega)]; exact hc k hk⟩
def MadePost (w : World) (u : Value) (l : List (List UInt8)) (o : Option Vl) (e : Ending) (w' : World) : Prop :=
  Below w.heap.size w w' ∧ match o with
  | some c => ∃ sl sp, e = .returned (.tuple #[.agg #[.int .i64 c.kind, .string ⟨c.s.toArray⟩, sl, sp], .bool true]) ∧ StrsAt w' sl c.l ∧ PairsAt w' sp c.p ∧ ∀ b, b < w.heap.size → (0 < l.length → Far b u) → Far b sl ∧ Far b sp
  | none => e = .returned (.tuple #[.agg #[.int .i64 0, .string ⟨#[]⟩, .slice none 0 0, .slice none 0 0], .bool false])
theorem made_none {w w' : World} {u : Value} {l : List (List UInt8)} {o : Option Vl} (h : o = none) (hB : Below w.heap.size w w') : MadePost w u l o (.returned (.tuple #[.agg #[.int .i64 0, .string ⟨#[]⟩, .slice none 0 0, .slice none 0 0], .bool false])) w' := by
  subst h; exact ⟨hB, rfl⟩
/-- the result's cells put anew -/
theorem res4 {w W : World} {z0 z1 z2 z3 : Value} (B : Below w.heap.size w W) (X : Bx W w.heap.size #[z0, z1, z2, z3] 28) (a0 a1 a2 a3 : Value) :
    Bx ((((W.setCell ⟨w.heap.size, 0, none⟩ a0).setCell ⟨w.heap.size, 1, none⟩ a1).setCell ⟨w.heap.size, 2, none⟩ a2).setCell ⟨w.heap.size, 3, none⟩ a3) w.heap.size #[a0, a1, a2, a3] 28 ∧ Below w.heap.size w ((((W.setCell ⟨w.heap.size, 0, none⟩ a0).setCell ⟨w.heap.size, 1, none⟩ a1).setCell ⟨w.heap.size, 2, none⟩ a2).setCell ⟨w.heap.size, 3, none⟩ a3) :=
  ⟨(((X.put 0 a0).put 1 a1).put 2 a2).put 3 a3, (((B.setCell (p := ⟨_, 0, none⟩) (Nat.le_refl _) _).setCell (p := ⟨_, 1, none⟩) (Nat.le_refl _) _).setCell (p := ⟨_, 2, none⟩) (Nat.le_refl _) _).setCell (p := ⟨_, 3, none⟩) (Nat.le_refl _) _⟩
set_option maxRecDepth 20000 in
set_option maxHeartbeats 4000000 in
theorem made_any (k : Int) (ua : Option Addr) (uc : Nat) (l : List (List UInt8)) (w : World) (H : StrsAt w (.slice ua l.length uc) l) (hl : l.length ≤ 100000) (hts : ∀ y ∈ l, y.length ≤ 140737488355328) :
    Calls Try.prog 37 #[.int .i64 k, .slice ua l.length uc] w fun e w' => MadePost w (.slice ua l.length uc) l (ofV k l) e w' := by
  have B0 := b_alloc w (.cells #[.int .i64 0, .string ⟨#[]⟩, .slice none 0 0, .slice none 0 0] 28)
  have X0 := Bx.made w #[.int .i64 0, .string ⟨#[]⟩, .slice none 0 0, .slice none 0 0] 28
  have H1 := hide (H.later B0)
  have H2 := hide H
  clear H
  by_cases hA : k = 1 ∧ l.length = 1
  · obtain ⟨rfl, hn⟩ := hA
    obtain ⟨b, off, cap, e, hb, g1⟩ := H1.out.at 0 (by omega)
    obtain ⟨_, _, _, e', hbw, _⟩ := H2.out.at 0 (by omega)
    cases e
    cases e'
    rw [Nat.add_zero] at g1
    have ho : ofV 1 l = some ⟨1, l.headD [], [], []⟩ := by unfold ofV; rw [if_pos ⟨rfl, hn⟩]
    have hh : l[0] = l.headD [] := by
      cases l with
      | nil => simp at hn
      | cons a t => rfl
    rw [ho]
    rw [hh] at g1
    obtain ⟨y, hy⟩ : ∃ y, l.headD [] = y := ⟨_, rfl⟩
    rw [hy] at g1 ⊢
    obtain ⟨X, hX⟩ : ∃ X : ByteArray, (⟨y.toArray⟩ : ByteArray) = X := ⟨_, rfl⟩
    rw [hX] at g1
    have HX := hide hX
    have hne : w.heap.size ≠ b := by omega
    obtain ⟨r1, r2⟩ := res4 B0 X0 (.int .i64 1) (.string X) (.slice none 0 0) (.slice none 0 0)
    obtain ⟨n, hn2⟩ : ∃ n, l.length = n := ⟨_, rfl⟩
    rw [hn2] at hn
    clear hX ho hh hy H1 H2 hl hts
    rw [hn2]
    subst hn
    go_enter Try.func37, Try.ntmps37
    go_wp2
    first
    | exact bodyPost_ret (v := .tuple #[.agg #[.int .i64 1, .string X, .slice none 0 0, .slice none 0 0], .bool true]) (ret_cell_tmp Try.results37 _ _ rfl r1 Try.underlying28 rfl (by kernel_rfl)) rfl ⟨r2, .slice none 0 0, .slice none 0 0, by rw [HX.out], .inl ⟨rfl, _, _, rfl⟩, .inl ⟨rfl, _, _, rfl⟩, fun b _ _ => ⟨Far.none _ _ _, Far.none _ _ _⟩⟩
    | exact bodyPost_ret (v := .tuple #[.agg #[.int .i64 1, .string X, .slice none 0 0, .slice none 0 0], .bool true]) (ret_cell_tmp Try.results37 _ _ rfl (Bx.made _ _ _) Try.underlying28 rfl (by kernel_rfl)) rfl ⟨b_alloc _ _, .slice none 0 0, .slice none 0 0, by rw [HX.out], .inl ⟨rfl, _, _, rfl⟩, .inl ⟨rfl, _, _, rfl⟩, fun b _ _ => ⟨Far.none _ _ _, Far.none _ _ _⟩⟩
  · by_cases hBc : k = 2 ∧ 0 < l.length
    · obtain ⟨rfl, hn⟩ := hBc
      have ho : ofV 2 l = some ⟨2, [], l, []⟩ := by unfold ofV; rw [if_neg hA, if_pos ⟨rfl, hn⟩]
      rw [ho]
      have hgt : (0 : Int) < l.length := by omega
      have hdn := H2.out
      have hf : Far w.heap.size (.slice ua l.length uc) := by
        intro g off n c e
        obtain ⟨b', _, _, e', hb', _⟩ := hdn.at 0 hn
        rw [e] at e'
        cases e'; omega
      obtain ⟨r1, r2⟩ := res4 B0 X0 (.int .i64 2) (.string ⟨#[]⟩) (.slice ua l.length uc) (.slice none 0 0)
      clear ho hA hdn
      go_enter Try.func37, Try.ntmps37
      go_wp2
      first
      | exact bodyPost_ret (v := .tuple #[.agg #[.int .i64 2, .string ⟨#[]⟩, .slice ua l.length uc, .slice none 0 0], .bool true]) (ret_cell_tmp Try.results37 _ _ rfl (Bx.made _ _ _) Try.underlying28 rfl (by kernel_rfl)) rfl ⟨b_alloc _ _, .slice ua l.length uc, .slice none 0 0, rfl, H2.out.later (b_alloc _ _), .inl ⟨rfl, _, _, rfl⟩, fun b _ hfar => ⟨hfar hn, Far.none _ _ _⟩⟩
      | exact bodyPost_ret (v := .tuple #[.agg #[.int .i64 2, .string ⟨#[]⟩, .slice ua l.length uc, .slice none 0 0], .bool true]) (ret_cell_tmp Try.results37 _ _ rfl r1 Try.underlying28 rfl (by kernel_rfl)) rfl ⟨r2, .slice ua l.length uc, .slice none 0 0, rfl, (((H1.out.putF hf _ _).putF hf _ _).putF hf _ _).putF hf _ _, .inl ⟨rfl, _, _, rfl⟩, fun b _ hfar => ⟨hfar hn, Far.none _ _ _⟩⟩
    · by_cases hC : k = 3 ∧ 0 < l.length ∧ l.length % 2 = 0
      · obtain ⟨rfl, hn, hm⟩ := hC
        have ho : ofV 3 l = some ⟨3, [], [], pairsL l⟩ := by unfold ofV; rw [if_neg hA, if_neg hBc, if_neg (by omega)]
        rw [ho]
        have hgt : (0 : Int) < l.length := by omega
        have hmod : ((l.length : Int).tmod 2) = 0 := by rw [Int.tmod_eq_emod_of_nonneg (by omega)]; omega
        have hmod2 : ((l.length : Int) % 2) = 0 := by omega
        clear ho hA hBc hm
        go_enter Try.func37, Try.ntmps37
        go_wp2_with (go_at_call 46; refine (paired_walk ua uc l _ H1.out hl hts).mono ?_; rintro e w1 ⟨u, rfl, ho, bb⟩; have hsp := PairsAt.of_owns ho; obtain ⟨pa, pc, rfl⟩ := hsp.form; have hnew := Newly.of_owns ho (Nat.le_refl _); have X1 := X0.next bb; have B1 := B0.trans (bb.mono B0.size); obtain ⟨c0, c1, c2, c3⟩ := cells4 X1; have f0 := X1.free 0; have f1 := X1.free 1; have f2 := X1.free 2; have f3 := X1.free 3)
        obtain ⟨r1, r2⟩ := res4 B1 X1 (.int .i64 3) (.string ⟨#[]⟩) (.slice none 0 0) (.slice pa (pairsL l).length pc)
        have hf : Far w.heap.size (.slice pa (pairsL l).length pc) := hnew.far (by simp)
        exact bodyPost_ret (v := .tuple #[.agg #[.int .i64 3, .string ⟨#[]⟩, .slice none 0 0, .slice pa (pairsL l).length pc], .bool true]) (ret_cell_tmp Try.results37 _ _ rfl r1 Try.underlying28 rfl (by kernel_rfl)) rfl ⟨r2, .slice none 0 0, .slice pa (pairsL l).length pc, rfl, .inl ⟨rfl, _, _, rfl⟩, (((hsp.putF hf _ _).putF hf _ _).putF hf _ _).putF hf _ _, fun b hb _ => ⟨Far.none _ _ _, hnew.far (by simp; omega)⟩⟩
      · have ho : ofV k l = none := by
          unfold ofV; rw [if_neg hA, if_neg hBc]
          rw [if_pos]
          by_cases h3 : k = 3
          · right
            by_cases h0 : l.length = 0
            · exact .inl h0
            · right
              have : ¬ (l.length % 2 = 0) := fun h => hC ⟨h3, by omega, h⟩
              omega
          · exact .inl h3
        rw [ho]
        have fin : ∀ W, Below w.heap.size w W → MadePost w (.slice ua l.length uc) l none (.returned (.tuple #[.agg #[.int .i64 0, .string ⟨#[]⟩, .slice none 0 0, .slice none 0 0], .bool false])) W := fun W h => made_none rfl h
        have Fin := hide fin
        have hmod : ((l.length : Int).tmod 2) = ((l.length % 2 : Nat) : Int) := by rw [Int.tmod_eq_emod_of_nonneg (by omega)]; omega
        have hmod2 : ((l.length : Int) % 2) = ((l.length % 2 : Nat) : Int) := by omega
        obtain ⟨n, hn⟩ : ∃ n, l.length = n := ⟨_, rfl⟩
        rw [hn] at hA hBc hC hmod hmod2 Fin ⊢
        obtain ⟨r1, r2⟩ := res4 B0 X0 (.int .i64 0) (.string ⟨#[]⟩) (.slice none 0 0) (.slice none 0 0)
        clear ho fin H1 H2 hn hts
        by_cases hk1 : k = 1
        · subst hk1
          have h1 : ((n : Int) == 1) = false := by simp; omega
          clear hA hBc hC
          go_enter Try.func37, Try.ntmps37
          go_wp2
          first
          | exact bodyPost_ret (v := .tuple #[.agg #[.int .i64 0, .string ⟨#[]⟩, .slice none 0 0, .slice none 0 0], .bool false]) (ret_cell_tmp Try.results37 _ _ rfl (Bx.made _ _ _) Try.underlying28 rfl (by kernel_rfl)) rfl (Fin.out _ (b_alloc _ _))
          | exact bodyPost_ret (v := .tuple #[.agg #[.int .i64 0, .string ⟨#[]⟩, .slice none 0 0, .slice none 0 0], .bool false]) (ret_cell_tmp Try.results37 _ _ rfl r1 Try.underlying28 rfl (by kernel_rfl)) rfl (Fin.out _ r2)
        · have hk1f : (k == 1) = false := by simp [hk1]
          by_cases hk2 : k = 2
          · subst hk2
            have h1 : n = 0 := by omega
            subst h1
            clear hA hBc hC hk1
            go_enter Try.func37, Try.ntmps37
            go_wp2
            first
            | exact bodyPost_ret (v := .tuple #[.agg #[.int .i64 0, .string ⟨#[]⟩, .slice none 0 0, .slice none 0 0], .bool false]) (ret_cell_tmp Try.results37 _ _ rfl (Bx.made _ _ _) Try.underlying28 rfl (by kernel_rfl)) rfl (Fin.out _ (b_alloc _ _))
            | exact bodyPost_ret (v := .tuple #[.agg #[.int .i64 0, .string ⟨#[]⟩, .slice none 0 0, .slice none 0 0], .bool false]) (ret_cell_tmp Try.results37 _ _ rfl r1 Try.underlying28 rfl (by kernel_rfl)) rfl (Fin.out _ r2)
          · have hk2f : (k == 2) = false := by simp [hk2]
            by_cases hk3 : k = 3
            · subst hk3
              by_cases h0 : n = 0
              · subst h0
                clear hA hBc hC hk1 hk2
                go_enter Try.func37, Try.ntmps37
                go_wp2
                first
                | exact bodyPost_ret (v := .tuple #[.agg #[.int .i64 0, .string ⟨#[]⟩, .slice none 0 0, .slice none 0 0], .bool false]) (ret_cell_tmp Try.results37 _ _ rfl (Bx.made _ _ _) Try.underlying28 rfl (by kernel_rfl)) rfl (Fin.out _ (b_alloc _ _))
                | exact bodyPost_ret (v := .tuple #[.agg #[.int .i64 0, .string ⟨#[]⟩, .slice none 0 0, .slice none 0 0], .bool false]) (ret_cell_tmp Try.results37 _ _ rfl r1 Try.underlying28 rfl (by kernel_rfl)) rfl (Fin.out _ r2)
              · have hgt : (0 : Int) < n := by omega
                have h2 : n % 2 = 1 := by omega
                rw [h2] at hmod hmod2
                clear hA hBc hC hk1 hk2
                go_enter Try.func37, Try.ntmps37
                go_wp2
                first
                | exact bodyPost_ret (v := .tuple #[.agg #[.int .i64 0, .string ⟨#[]⟩, .slice none 0 0, .slice none 0 0], .bool false]) (ret_cell_tmp Try.results37 _ _ rfl (Bx.made _ _ _) Try.underlying28 rfl (by kernel_rfl)) rfl (Fin.out _ (b_alloc _ _))
                | exact bodyPost_ret (v := .tuple #[.agg #[.int .i64 0, .string ⟨#[]⟩, .slice none 0 0, .slice none 0 0], .bool false]) (ret_cell_tmp Try.results37 _ _ rfl r1 Try.underlying28 rfl (by kernel_rfl)) rfl (Fin.out _ r2)
            · have hk3f : (k == 3) = false := by simp [hk3]
              clear hA hBc hC
              go_enter Try.func37, Try.ntmps37
              go_wp2
              first
              | exact bodyPost_ret (v := .tuple #[.agg #[.int .i64 0, .string ⟨#[]⟩, .slice none 0 0, .slice none 0 0], .bool false]) (ret_cell_tmp Try.results37 _ _ rfl (Bx.made _ _ _) Try.underlying28 rfl (by kernel_rfl)) rfl (Fin.out _ (b_alloc _ _))
              | exact bodyPost_ret (v := .tuple #[.agg #[.int .i64 0, .string ⟨#[]⟩, .slice none 0 0, .slice none 0 0], .bool false]) (ret_cell_tmp Try.results37 _ _ rfl r1 Try.underlying28 rfl (by kernel_rfl)) rfl (Fin.out _ r2)
theorem made_is (k : Int) (ua : Option Addr) (uc : Nat) (l : List (List UInt8)) (o : Option Vl) (w : World) (H : StrsAt w (.slice ua l.length uc) l) (hl : l.length ≤ 100000) (hts : ∀ y ∈ l, y.length ≤ 140737488355328) (ho : ofV k l = o) :
    Calls Try.prog 37 #[.int .i64 k, .slice ua l.length uc] w fun e w' => MadePost w (.slice ua l.length uc) l o e w' := by
  subst ho; exact made_any k ua uc l w H hl hts
theorem made_canon (v : Vl) (k : Int) (hk : v.kind = k) (c : Vl) (hc : canonV v = c) (ua : Option Addr) (uc : Nat) (l : List (List UInt8)) (w : World) (H : StrsAt w (.slice ua l.length uc) l) (hl : l.length ≤ 100000) (hts : ∀ y ∈ l, y.length ≤ 140737488355328) (e : textsV v = l) :
    Calls Try.prog 37 #[.int .i64 k, .slice ua l.length uc] w fun e w' => ∃ la lc pa pc b, e = .returned (.tuple #[.agg #[.int .i64 c.kind, .string ⟨c.s.toArray⟩, .slice la c.l.length lc, .slice pa c.p.length pc], .bool b]) ∧ StrsAt w' (.slice la c.l.length lc) c.l ∧ PairsAt w' (.slice pa c.p.length pc) c.p ∧ (∀ b, b < w.heap.size → (0 < l.length → Far b (.slice ua l.length uc)) → Far b (.slice la c.l.length lc) ∧ Far b (.slice pa c.p.length pc)) ∧ Below w.heap.size w w' := by
  subst e hk hc
  refine (made_any v.kind ua uc (textsV v) w H hl hts).mono ?_
  rintro e w' ⟨hB, he⟩
  unfold canonV
  cases ho : ofV v.kind (textsV v) with
  | none =>
    rw [ho] at he
    subst he
    exact ⟨none, 0, none, 0, false, rfl, .inl ⟨rfl, _, _, rfl⟩, .inl ⟨rfl, _, _, rfl⟩, fun _ _ _ => ⟨Far.none _ _ _, Far.none _ _ _⟩, hB⟩
  | some c =>
    rw [ho] at he
    obtain ⟨sl, sp, rfl, h1, h2, h3⟩ := he
    obtain ⟨la, lc, rfl⟩ := h1.form
    obtain ⟨pa, pc, rfl⟩ := h2.form
    exact ⟨la, lc, pa, pc, true, rfl, h1, h2, h3, hB⟩
end Go.Proofs.Ytgnccmmbpgnamaa
