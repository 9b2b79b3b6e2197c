/- Push alone, and Pop of an empty stack alone. -/
import Derived.Test.YtecolbdnaipgdaaSnapPop
namespace Go.Proofs.Ytecolbdnaipgdaa
open Go.RowKit

theorem pop_alone (T C S : Nat) (w : World) (hT : Blk w T 73 (taskA (.func (.func 35) #[pv C] #[]) 0 none)) (hC : Blk w C 114 #[pv T, .iface 92 (.pointer (some ⟨S, 0, none⟩)), .func (.func 26) #[] #[], .pointer none, .pointer none, .int .u64 0]) (hS : Blk w S 90 #[.pointer none]) :
    Calls Try.prog 7 #[pv T, .int .i64 9] w fun e w' => (∃ n k, e = .returned (.tuple #[.int .u64 n, .bool false, .int .i64 k])) ∧ Only [T, C] w w' := by
  have key := alone_calls T 9 1 (by omega) (by omega) (fun k w' => if k = 0 then w' = w else (∃ O, Blk w' O 83 (outA 0 false (.slice none 0 0)) ∧ Blk w' T 73 (taskA .nilFunc 1 (some ⟨O, 0, none⟩))) ∧ Only [T, C] w w') w ?_ ?_ ?_ ?_
  · refine Calls.mono key ?_
    rintro e w' ⟨w1, hP, hB, todo, st, O, n', ok, x, y, z, a1, a2, rfl⟩
    rw [if_neg (by omega)] at hP
    obtain ⟨⟨O2, b2, b1⟩, hk⟩ := hP
    have e1 := a1.uniq b1
    simp [taskA] at e1
    obtain ⟨_, _, e1⟩ := e1
    subst e1
    have e2 := a2.uniq b2
    simp [outA] at e2
    obtain ⟨_, e2, _⟩ := e2
    subst e2
    exact ⟨⟨_, _, rfl⟩, hk.trans (Only.of_below hB)⟩
  · rw [if_pos rfl]
  · intro k w' hk hP
    obtain rfl : k = 0 := by omega
    rw [if_pos rfl] at hP
    subst hP
    exact ⟨_, _, hT⟩
  · intro k w' hk hP
    obtain rfl : k = 0 := by omega
    rw [if_pos rfl] at hP
    subst hP
    refine (step_popNil T C S 0 1 rfl 0 none none w' hT hC hS).mono ?_
    rintro e w2 ⟨rfl, O, zO, h1, h2, h3⟩
    refine ⟨_, rfl, ?_⟩
    rw [if_neg (by omega)]
    exact ⟨⟨O, h1, h2⟩, h3⟩
  · intro w' hP
    rw [if_neg (by omega)] at hP
    obtain ⟨⟨O, a1, a2⟩, _⟩ := hP
    exact ⟨_, _, O, _, _, _, _, _, a2, a1⟩
theorem push_alone (T C S g : Nat) (v : Int) (w : World) (hT : Blk w T 73 (taskA (.func (.func 35) #[pv C] #[]) 0 none)) (hC : Blk w C 114 #[pv T, .iface 92 (.pointer (some ⟨S, 0, none⟩)), .func (.func 25) #[] #[pv g], .pointer none, .pointer none, .int .u64 0]) (hS : Blk w S 90 #[.pointer none]) (hg : Blk w g 22 #[.int .u64 v]) :
    Calls Try.prog 7 #[pv T, .int .i64 9] w fun e w' => (∃ v, e = .returned v) ∧ Only [T, C, S] w w' := by
  have hTC := hT.ne2 hC (by decide)
  have hTS := hT.ne2 hS (by decide)
  have hCS := hC.ne2 hS (by decide)
  have hTg := hT.ne2 hg (by decide)
  have hCg := hC.ne2 hg (by decide)
  have key := alone_calls T 9 2 (by omega) (by omega) (fun k w' => if k = 0 then w' = w else if k = 1 then (∃ P, Blk w' P 94 #[.int .u64 v, .pointer none] ∧ Blk w' T 73 (taskA (.func (.func 44) #[pv C] #[]) 1 none) ∧ Blk w' C 114 #[pv T, .iface 92 (.pointer (some ⟨S, 0, none⟩)), .func (.func 25) #[] #[pv g], .pointer none, pv P, .int .u64 v]) ∧ Only [T, C, S] w w' ∧ Blk w' S 90 #[.pointer none] else (∃ O, Blk w' O 83 (outA v true (.slice none 0 0)) ∧ Blk w' T 73 (taskA .nilFunc 2 (some ⟨O, 0, none⟩))) ∧ Only [T, C, S] w w') w ?_ ?_ ?_ ?_
  · refine Calls.mono key ?_
    rintro e w' ⟨w1, hP, hB, todo, st, O, n', ok, x, y, z, a1, a2, rfl⟩
    rw [if_neg (by omega), if_neg (by omega)] at hP
    exact ⟨⟨_, rfl⟩, hP.2.trans (Only.of_below hB)⟩
  · rw [if_pos rfl]
  · intro k w' hk hP
    by_cases h0 : k = 0
    · rw [if_pos h0] at hP
      subst hP
      exact ⟨_, _, hT⟩
    · rw [if_neg h0, if_pos (by omega)] at hP
      obtain ⟨⟨P, _, h2, _⟩, _⟩ := hP
      exact ⟨_, _, h2⟩
  · intro k w' hk hP
    by_cases h0 : k = 0
    · rw [if_pos h0] at hP
      subst hP
      subst h0
      refine (step_loadPush T C S g hTC hCg hTS hTg 0 1 rfl none v 0 none none w' hT hC hS (.inl rfl) (fun b h => by cases h) hg).mono ?_
      rintro e w2 ⟨rfl, P, zP, h1, h2, h3, h4⟩
      refine ⟨_, rfl, ?_⟩
      rw [if_neg (by omega), if_pos (by omega)]
      exact ⟨⟨P, h1, h2, h3⟩, h4.mono (by simp), hS.only h4 (by simp; exact ⟨Ne.symm hTS, Ne.symm hCS⟩)⟩
    · obtain rfl : k = 1 := by omega
      rw [if_neg h0, if_pos rfl] at hP
      obtain ⟨⟨P, h1, h2, h3⟩, h4, h5⟩ := hP
      have hTP := h2.ne2 h1 (by decide)
      refine (step_swap T C S hTC hCS hTS _ 1 2 rfl none (some ⟨P, 0, none⟩) v w' h2 h3 h5 (.inl rfl) (fun b h => by cases h) (.inr ⟨P, _, rfl, h1, rfl⟩) (fun b h => by injection h with h; injection h with h _ _; subst h; exact Ne.symm hTP)).mono ?_
      rintro e w2 ⟨rfl, O, zO, r1, r2, _, r4⟩
      refine ⟨_, rfl, ?_⟩
      rw [if_neg (by omega), if_neg (by omega)]
      exact ⟨⟨O, r1, r2⟩, h4.trans (r4.mono (by simp))⟩
  · intro w' hP
    rw [if_neg (by omega), if_neg (by omega)] at hP
    obtain ⟨⟨O, a1, a2⟩, _⟩ := hP
    exact ⟨_, _, O, _, _, _, _, _, a2, a1⟩
end Go.Proofs.Ytecolbdnaipgdaa
