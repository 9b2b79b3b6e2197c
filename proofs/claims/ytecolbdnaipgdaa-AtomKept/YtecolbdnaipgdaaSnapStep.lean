/- A Scan's steps, and the Scan done alone, in the run of one goroutine. -/
import Derived.Test.YtecolbdnaipgdaaSnapScan
namespace Go.Proofs.Ytecolbdnaipgdaa
open Go.RowKit

set_option maxRecDepth 100000 in
set_option maxHeartbeats 4000000 in
/-- The last step of a look that nothing has disturbed. -/
theorem look_ends (LK S R K MV r n base : Nat) (hr0 : 0 < r) (hr : r ≤ 16) (regs : List (Option Addr)) (f : Nat → Int) (w : World) (hL : LookSt w n LK S MV r (r - 1) true regs base) (hS : SnapAt w S R K r regs f) (hnL : n ≤ LK) :
    Calls Try.prog 32 #[pv LK] w fun e w' => ∃ g, e = .returned (.slice (some ⟨g, 0, none⟩) r r) ∧ w.heap.size ≤ g ∧ Blk w' g 22 (rowU r f) ∧ Kp n base [LK] w w' ∧ ∃ a b c, Blk w' LK 107 #[pv S, a, b, c] := by
  obtain ⟨lp, ln, lc, p, cap, hn, hb, hLk, hown, _, h2⟩ := hL
  obtain ⟨rfl, hla⟩ := h2 rfl
  have hlen := hS.len
  obtain ⟨q, hq⟩ : ∃ q, regs[ln - 1]? = some q := ⟨_, List.getElem?_eq_getElem (by omega)⟩
  have hR : w.cell? ⟨R, ln - 1, none⟩ = some (.pointer q) := hS.regB.cell (by simp [hq])
  refine lookPush LK S R MV ln (ln - 1) base n (by omega) hr lp ln lc _ p cap _ q w hLk hS.snap hR (hS.ptr q (List.mem_of_getElem? hq)) hown hb hn hnL _ ?_ ?_
  · intro w1 g cp hlt
    omega
  · intro w1 g cp hrj hL1 hown1 hK
    rw [take_snoc_map hq, show ln - 1 + 1 = ln by omega, ← hlen, List.take_length, hlen] at hown1
    rw [show ln - 1 + 1 = ln by omega] at hL1
    have hla1 : LastAt w1 lp regs base := by
      obtain ⟨b, cur, e1, e2, e3, e4⟩ := hla
      exact ⟨b, cur, e1, e2, hK.keep b _ cur e3 (by simp; intro e5; subst e5; exact absurd rfl (Blk.ne2 e3 hLk (by decide))) (.inr e2), e4⟩
    have hnum : ∀ i p, regs[i]? = some p → NumAt w1 p (f i) := by
      intro i p hi
      rcases hS.num i p hi with e | ⟨b, s, e, h1⟩
      · exact .inl e
      · exact .inr ⟨b, s, e, hK.keep _ _ _ h1 (by simp; intro e5; subst e5; exact absurd rfl (Blk.ne2 h1 hLk (by decide))) (.inl (by decide))⟩
    have P1 := hla1.ptrs lc
    have P2 : PtrsAt w1 (.slice (some ⟨g, 0, none⟩) regs.length cp) regs := (owns_last_at hown1 _ (Nat.le_refl _)).ptrs cp
    rw [← hlen] at hL1
    refine (cmp_same LK _ lp _ lc cp _ regs f w1 hL1 P1 P2 (by omega) (by omega) hnum).mono ?_
    rintro e w2 ⟨g2, rfl, hg2, hU, hB2⟩
    refine ⟨_, rfl, hB2, fun w3 hL3 _ hK3 => ⟨g2, by rw [hlen], Nat.le_trans hK.below.size hg2, ?_, (hK.trans (Kp.of_below hB2 (by have := hK.below.size; omega))).trans hK3, _, _, _, hL3⟩⟩
    rw [← hlen]
    exact hK3.keep _ _ _ hU (by simp; intro e5; subst e5; have := hL1.lt; omega) (.inl (by decide))
theorem sl_neq_some (g r c : Nat) (w : World) : (binOp .neq 34 (.slice (some ⟨g, 0, none⟩) r c) (.slice none 0 0)).run Try.prog w = .ok (.bool true) w := by kernel_rfl
theorem sl_neq_none (w : World) : (binOp .neq 34 (.slice none 0 0) (.slice none 0 0)).run Try.prog w = .ok (.bool false) w := by kernel_rfl
theorem LookSt.moved {w w' : World} {n LK S MV r j base : Nat} {second : Bool} {regs : List (Option Addr)} (h : LookSt w n LK S MV r j second regs base) (hk : ∀ b t cs, Blk w b t cs → t = 107 ∨ t = 47 → Blk w' b t cs) (hs : w.heap.size ≤ w'.heap.size) : LookSt w' n LK S MV r j second regs base := by
  obtain ⟨lp, ln, lc, p, cap, hn, hb, hLk, hown, h1, h2⟩ := h
  refine ⟨lp, ln, lc, p, cap, hn, Nat.le_trans hb hs, hk _ _ _ hLk (.inl rfl), ⟨hown.1, ?_⟩, h1, fun e => ⟨(h2 e).1, ?_⟩⟩
  · rcases hown.2 with e | ⟨g, c, cur, e1, e2, e3, e4⟩
    · exact .inl e
    · exact .inr ⟨g, c, cur, e1, e2, hk g _ cur e3 (.inr rfl), e4⟩
  · obtain ⟨b, cur, e1, e2, e3, e4⟩ := (h2 e).2
    exact ⟨b, cur, e1, e2, hk b _ cur e3 (.inr rfl), e4⟩
set_option maxRecDepth 100000 in
set_option maxHeartbeats 4000000 in
theorem scLoad_goes (SC T LK S R K MV r j n base j2 : Nat) (second s2 : Bool) (hj2 : Hid ((if j + 1 < r then j + 1 else 0) = j2)) (hs2 : Hid ((second || decide (j + 1 = r)) = s2)) (hj : j < r) (hr : r ≤ 16) (hmid : j + 1 < r ∨ second = false) (regs : List (Option Addr)) (f : Nat → Int) (w : World) (hSC : Blk w SC 80 #[pv T, pv LK]) (hL : LookSt w n LK S MV r j second regs base) (hS : SnapAt w S R K r regs f) (hnL : n ≤ LK) :
    Calls Try.prog 21 #[pv SC] w fun e w' => e = .returned (.tuple #[]) ∧ Kp n base [LK] w w' ∧ ∃ base', LookSt w' n LK S MV r j2 s2 regs base' := by
  have H := look_goes LK S R K MV r j n base second hj hr hmid regs f w hL hS hnL
  rw [hj2.out, hs2.out] at H
  have c1 := hSC.cell (j := 1) rfl
  have hsn := sl_neq_none
  clear hL hS
  go_enter Try.func21, Try.ntmps21
  go_wp2_with fail
  refine H.mono ?_
  rintro e w1 ⟨rfl, h1, h2⟩
  clear H
  go_wp2_with fail
  go_end0
  exact ⟨rfl, h1, h2⟩
set_option maxRecDepth 100000 in
set_option maxHeartbeats 4000000 in
theorem scLoad_ends (SC T LK S R K MV r n base : Nat) (hr0 : 0 < r) (hr : r ≤ 16) (todo : Value) (st : Int) (regs : List (Option Addr)) (f : Nat → Int) (w : World) (hT : Blk w T 73 (taskA todo st none)) (hSC : Blk w SC 80 #[pv T, pv LK]) (hL : LookSt w n LK S MV r (r - 1) true regs base) (hS : SnapAt w S R K r regs f) (hnL : n ≤ LK) (hTL : T ≠ LK) (hCL : SC ≠ LK) :
    Calls Try.prog 21 #[pv SC] w fun e w' => e = .returned (.tuple #[]) ∧ ∃ O g, Blk w' T 73 (taskA .nilFunc st (some ⟨O, 0, none⟩)) ∧ Blk w' O 83 (outA 0 true (.slice (some ⟨g, 0, none⟩) r r)) ∧ Blk w' g 22 (rowU r f) ∧ w.heap.size ≤ O ∧ w.heap.size ≤ g ∧ ∃ w1, Kp n base [LK] w w1 ∧ Only [T] w1 w' := by
  have H := look_ends LK S R K MV r n base hr0 hr regs f w hL hS hnL
  have c1 := hSC.cell (j := 1) rfl
  clear hL hS
  go_enter Try.func21, Try.ntmps21
  go_wp2_with fail
  refine H.mono ?_
  rintro e w1 ⟨g, rfl, hg, hU, hK, _⟩
  clear H
  have hsn := sl_neq_some g r r
  have hSC1 := hK.keep _ _ _ hSC (by simp; exact hCL) (.inl (by decide))
  have hT1 := hK.keep _ _ _ hT (by simp; exact hTL) (.inl (by decide))
  have c0 := hSC1.cell (j := 0) rfl
  go_wp2_with fail
  refine (finish_calls T todo st none 0 true _ r r _ hT1).mono ?_
  rintro e w2 ⟨rfl, O, hO, hT2, hOb, hOn⟩
  have hO' : w.heap.size ≤ O := Nat.le_trans hK.below.size hO
  have hU2 := hU.only hOn (by simp; intro e5; subst e5; have := hT.lt; omega)
  go_wp2_with fail
  go_end0
  exact ⟨rfl, O, g, hT2, hOb, hU2, hO', hg, w1, hK, hOn⟩
end Go.Proofs.Ytecolbdnaipgdaa
