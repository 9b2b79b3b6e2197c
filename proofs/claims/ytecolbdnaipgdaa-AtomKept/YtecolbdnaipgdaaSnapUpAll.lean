/- An Update done alone, in the run of one goroutine. -/
import Derived.Test.YtecolbdnaipgdaaSnapAll
namespace Go.Proofs.Ytecolbdnaipgdaa
open Go.RowKit

structure UpRun (w : World) (n T UP LK OWN S R K MV r i j : Nat) (v : Int) (second : Bool) (st : Int) (regs : List (Option Addr)) (f : Nat → Int) : Prop where
  task : Blk w T 73 (taskA (.func (.func 20) #[pv UP] #[]) st none)
  up : Blk w UP 77 #[pv T, pv LK, .int .i64 ((i : Nat) : Int), pv OWN]
  own : ∃ sv, Blk w OWN 49 #[.int .u64 v, sv]
  look : ∃ base, LookSt w n LK S MV r j second regs base
  snap : SnapAt w S R K r regs f
  far : ∀ p ∈ regs, p ≠ some ⟨OWN, 0, none⟩
  nT : n ≤ T
  nL : n ≤ LK
  nO : n ≤ OWN
structure UpLast (w : World) (n T UP LK OWN S R K r i : Nat) (v : Int) (st : Int) (regs : List (Option Addr)) (f : Nat → Int) : Prop where
  task : Blk w T 73 (taskA (.func (.func 33) #[pv UP] #[]) st none)
  up : Blk w UP 77 #[pv T, pv LK, .int .i64 ((i : Nat) : Int), pv OWN]
  own : ∃ sv, Blk w OWN 49 #[.int .u64 v, sv]
  look : ∃ a b c, Blk w LK 107 #[pv S, a, b, c]
  snap : SnapAt w S R K r regs f
  nT : n ≤ T
theorem SnapAt.moved2 {w w' : World} {S R K r OWN : Nat} {regs : List (Option Addr)} {f : Nat → Int} (h : SnapAt w S R K r regs f) (far : ∀ p ∈ regs, p ≠ some ⟨OWN, 0, none⟩) (hk : ∀ b t cs, Blk w b t cs → (t = 46 ∨ t = 101 ∨ (t = 49 ∧ b ≠ OWN)) → Blk w' b t cs) : SnapAt w' S R K r regs f := by
  refine ⟨hk _ _ _ h.snap (by simp), hk _ _ _ h.regB (by simp), h.len, fun p hp => ?_, fun i p hi => ?_⟩
  · rcases h.ptr p hp with e | ⟨b, cs, e, h1, h2⟩
    · exact .inl e
    · exact .inr ⟨b, cs, e, hk _ _ _ h1 (.inr (.inr ⟨rfl, fun e2 => far p hp (by rw [e, e2])⟩)), h2⟩
  · rcases h.num i p hi with e | ⟨b, s, e, h1⟩
    · exact .inl e
    · exact .inr ⟨b, s, e, hk _ _ _ h1 (.inr (.inr ⟨rfl, fun e2 => far p (List.mem_of_getElem? hi) (by rw [e, e2])⟩))⟩
set_option maxRecDepth 100000 in
set_option maxHeartbeats 4000000 in
theorem step_up_goes (n T UP LK OWN S R K MV r i j j2 : Nat) (v : Int) (second s2 : Bool) (hj2 : Hid ((if j + 1 < r then j + 1 else 0) = j2)) (hs2 : Hid ((second || decide (j + 1 = r)) = s2)) (hj : j < r) (hr : r ≤ 16) (hmid : j + 1 < r ∨ second = false) (nR : n ≤ R) (st s1 : Int) (hs1 : IntKind.i64.wrap (st + 1) = s1) (regs : List (Option Addr)) (f : Nat → Int) (w : World) (h : UpRun w n T UP LK OWN S R K MV r i j v second st regs f) :
    Calls Try.prog 15 #[pv T] w fun e w' => e = .returned (.bool false) ∧ UpRun w' n T UP LK OWN S R K MV r i j2 v s2 s1 regs f ∧ Kp n 0 [T, LK, OWN, R] w w' := by
  obtain ⟨hT, hUP, ⟨sv, hOW⟩, ⟨base, hL⟩, hS, far, nT, nL, nO⟩ := h
  obtain ⟨lcs, hLB⟩ := hL.blk
  have hTL := hT.ne2 hLB (by decide)
  have hCL := hUP.ne2 hLB (by decide)
  have hOL := hOW.ne2 hLB (by decide)
  go_enter Try.func15, Try.ntmps15
  go_wp2_with fail
  refine (TDone_calls T _ st none _ hT (.inl rfl)).mono ?_
  rintro e w1 ⟨rfl, h⟩
  have h := h.symm
  subst h
  go_wp2_with fail
  refine (i64Add_calls T 1 st 1 s1 _ (hT.cell (j := 1) rfl) (hT.frozen 1) hs1).mono ?_
  rintro e w2 ⟨rfl, h⟩
  have hT1 := hT.set 1 (.int .i64 s1)
  simp only [List.setIfInBounds_toArray, List.set_cons_zero, List.set_cons_succ] at hT1
  have hO1 : Only [T] w (w.setCell ⟨T, 1, none⟩ (.int .i64 s1)) := Only.set _ (by simp) _ _
  rw [← h] at hT1 hO1
  clear h hs1
  have hUP1 := only_ne hO1 hT hUP (by decide)
  have nW : n ≤ w.heap.size := by have := hT.lt; omega
  have c0 := hT1.cell (j := 0) rfl
  have hOW1 := only_ne hO1 hT hOW (by decide)
  have hL1 := hL.moved (fun b t cs hb ht => only_ne hO1 hT hb (by rcases ht with rfl | rfl <;> decide)) hO1.size
  have hS1 := hS.moved (fun b t cs hb ht => only_ne hO1 hT hb (by rcases ht with rfl | rfl | rfl <;> decide))
  go_wp2_with fail
  refine (upLoad_goes UP T LK OWN S R K MV r j n base j2 _ second s2 hj2 hs2 hj hr hmid regs f w2 hUP1 hL1 hS1 nL).mono ?_
  rintro e w3 ⟨rfl, hK, hL3⟩
  have hT3 := hK.keep _ _ _ hT1 (by simp; exact hTL) (.inl (by decide))
  have hUP3 := hK.keep _ _ _ hUP1 (by simp; exact hCL) (.inl (by decide))
  have hOW3 := hK.keep _ _ _ hOW1 (by simp; exact hOL) (.inl (by decide))
  obtain ⟨lcs2, hLB2⟩ := hL1.blk
  have hS3 := hS1.moved (fun b t cs hb ht => hK.keep b t cs hb (by simp; exact hb.ne2 hLB2 (by rcases ht with rfl | rfl | rfl <;> decide)) (.inl (by rcases ht with rfl | rfl | rfl <;> decide)))
  go_wp2_with fail
  refine (TDone_calls T _ s1 none _ hT3 (.inl rfl)).mono ?_
  rintro e w4 ⟨rfl, h⟩
  have h := h.symm
  subst h
  go_wp2_with fail
  go_ret
  exact ⟨rfl, ⟨hT3, hUP3, ⟨sv, hOW3⟩, hL3, hS3, far, nT, nL, nO⟩, (Kp.of_only (hO1.mono (by simp)) (by simp; omega) nW).trans (hK.low.mono (by simp))⟩
set_option maxRecDepth 100000 in
set_option maxHeartbeats 4000000 in
theorem step_up_ends (n T UP LK OWN S R K MV r i : Nat) (v : Int) (hr0 : 0 < r) (hr : r ≤ 16) (nR : n ≤ R) (st s1 : Int) (hs1 : IntKind.i64.wrap (st + 1) = s1) (regs : List (Option Addr)) (f : Nat → Int) (w : World) (h : UpRun w n T UP LK OWN S R K MV r i (r - 1) v true st regs f) :
    Calls Try.prog 15 #[pv T] w fun e w' => e = .returned (.bool false) ∧ UpLast w' n T UP LK OWN S R K r i v s1 regs f ∧ Kp n 0 [T, LK, OWN, R] w w' := by
  obtain ⟨hT, hUP, ⟨sv, hOW⟩, ⟨base, hL⟩, hS, far, nT, nL, nO⟩ := h
  obtain ⟨lcs, hLB⟩ := hL.blk
  have hTL := hT.ne2 hLB (by decide)
  have hCL := hUP.ne2 hLB (by decide)
  have hTU := hUP.ne2 hT (by decide)
  have hUO := hUP.ne2 hOW (by decide)
  go_enter Try.func15, Try.ntmps15
  go_wp2_with fail
  refine (TDone_calls T _ st none _ hT (.inl rfl)).mono ?_
  rintro e w1 ⟨rfl, h⟩
  have h := h.symm
  subst h
  go_wp2_with fail
  refine (i64Add_calls T 1 st 1 s1 _ (hT.cell (j := 1) rfl) (hT.frozen 1) hs1).mono ?_
  rintro e w2 ⟨rfl, h⟩
  have hT1 := hT.set 1 (.int .i64 s1)
  simp only [List.setIfInBounds_toArray, List.set_cons_zero, List.set_cons_succ] at hT1
  have hO1 : Only [T] w (w.setCell ⟨T, 1, none⟩ (.int .i64 s1)) := Only.set _ (by simp) _ _
  rw [← h] at hT1 hO1
  clear h hs1
  have hUP1 := only_ne hO1 hT hUP (by decide)
  have nW : n ≤ w.heap.size := by have := hT.lt; omega
  have c0 := hT1.cell (j := 0) rfl
  have hOW1 := only_ne hO1 hT hOW (by decide)
  have hL1 := hL.moved (fun b t cs hb ht => only_ne hO1 hT hb (by rcases ht with rfl | rfl <;> decide)) hO1.size
  have hS1 := hS.moved (fun b t cs hb ht => only_ne hO1 hT hb (by rcases ht with rfl | rfl | rfl <;> decide))
  have hsz := hO1.size
  go_wp2_with fail
  refine (upLoad_ends UP T LK OWN S R K MV r n base _ v hr0 hr _ sv s1 regs f w2 hT1 hUP1 hOW1 hL1 hS1 nL).mono ?_
  rintro e w3 ⟨rfl, g, w5, hT3, hOW3, hL3, hK, hOn⟩
  have hw5 : n ≤ w5.heap.size := by have := hK.below.size; omega
  obtain ⟨lcs2, hLB2⟩ := hL1.blk
  have hUP3 := (hK.keep _ _ _ hUP1 (by simp; exact hCL) (.inl (by decide))).only hOn (by simp; exact ⟨hTU, hUO⟩)
  have hT5 := hK.keep _ _ _ hT1 (by simp; exact hTL) (.inl (by decide))
  have hS5 := hS1.moved (fun b t cs hb ht => hK.keep b t cs hb (by simp; exact hb.ne2 hLB2 (by rcases ht with rfl | rfl | rfl <;> decide)) (.inl (by rcases ht with rfl | rfl | rfl <;> decide)))
  have hOW5 := hK.keep _ _ _ hOW1 (by simp; exact hOW1.ne2 hLB2 (by decide)) (.inl (by decide))
  have hS3 := hS5.moved2 far (fun b t cs hb ht => hb.only hOn (by
    simp
    rcases ht with rfl | rfl | ⟨rfl, e⟩
    · exact ⟨hb.ne2 hT5 (by decide), hb.ne2 hOW5 (by decide)⟩
    · exact ⟨hb.ne2 hT5 (by decide), hb.ne2 hOW5 (by decide)⟩
    · exact ⟨hb.ne2 hT5 (by decide), e⟩))
  go_wp2_with fail
  refine (TDone_calls T _ s1 none _ hT3 (.inl rfl)).mono ?_
  rintro e w4 ⟨rfl, h⟩
  have h := h.symm
  subst h
  go_wp2_with fail
  go_ret
  exact ⟨rfl, ⟨hT3, hUP3, ⟨_, hOW3⟩, hL3, hS3, nT⟩, ((Kp.of_only (hO1.mono (by simp)) (by simp; omega) nW).trans (hK.low.mono (by simp))).trans (Kp.of_only (hOn.mono (by simp)) (by simp; omega) hw5)⟩
def UpDone (w w' : World) (T OWN S R K r i : Nat) (v : Int) (regs : List (Option Addr)) (f : Nat → Int) : Prop :=
  (∃ O st, Blk w' T 73 (taskA .nilFunc st (some ⟨O, 0, none⟩)) ∧ Blk w' O 83 (outA v true (.slice none 0 0)) ∧ w.heap.size ≤ O) ∧ SnapAt w' S R K r (regs.set i (some ⟨OWN, 0, none⟩)) (fun k => if k = i then v else f k)
set_option maxRecDepth 100000 in
set_option maxHeartbeats 4000000 in
theorem step_up_store (n T UP LK OWN S R K r i : Nat) (hi : i < r) (v : Int) (nR : n ≤ R) (nL : n ≤ LK) (nO : n ≤ OWN) (st s1 : Int) (hs1 : IntKind.i64.wrap (st + 1) = s1) (regs : List (Option Addr)) (f : Nat → Int) (w : World) (h : UpLast w n T UP LK OWN S R K r i v st regs f) :
    Calls Try.prog 15 #[pv T] w fun e w' => e = .returned (.bool true) ∧ UpDone w w' T OWN S R K r i v regs f ∧ Kp n 0 [T, LK, OWN, R] w w' := by
  obtain ⟨hT, hUP, ⟨sv, hOW⟩, ⟨la, lb, lc, hLK⟩, hS, nT⟩ := h
  go_enter Try.func15, Try.ntmps15
  go_wp2_with fail
  refine (TDone_calls T _ st none _ hT (.inl rfl)).mono ?_
  rintro e w1 ⟨rfl, h⟩
  have h := h.symm
  subst h
  go_wp2_with fail
  refine (i64Add_calls T 1 st 1 s1 _ (hT.cell (j := 1) rfl) (hT.frozen 1) hs1).mono ?_
  rintro e w2 ⟨rfl, h⟩
  have hT1 := hT.set 1 (.int .i64 s1)
  simp only [List.setIfInBounds_toArray, List.set_cons_zero, List.set_cons_succ] at hT1
  have hO1 : Only [T] w (w.setCell ⟨T, 1, none⟩ (.int .i64 s1)) := Only.set _ (by simp) _ _
  rw [← h] at hT1 hO1
  clear h hs1
  have hUP1 := only_ne hO1 hT hUP (by decide)
  have nW : n ≤ w.heap.size := by have := hT.lt; omega
  have c0 := hT1.cell (j := 0) rfl
  have hOW1 := only_ne hO1 hT hOW (by decide)
  have hLK1 := only_ne hO1 hT hLK (by decide)
  have hS1 := hS.moved (fun b t cs hb ht => only_ne hO1 hT hb (by rcases ht with rfl | rfl | rfl <;> decide))
  have hsz := hO1.size
  go_wp2_with fail
  refine (upStore_calls UP T LK OWN S R K r i hi v sv la lb lc (.pointer ((regs[i]?).getD none)) _ s1 w2 hT1 hUP1 hOW1 hLK1 hS1.snap _ hS1.regB (by have := hS.len; simp [List.getElem?_eq_getElem (show i < regs.length by omega)])).mono ?_
  rintro e w3 ⟨rfl, O, hT3, hOb, hR3, zO, hOn⟩
  have nW2 : n ≤ w2.heap.size := by omega
  have hne : ∀ b t cs, Blk w2 b t cs → t = 46 ∨ t = 49 → Blk w3 b t cs := fun b t cs hb ht => hb.only hOn (by simp; exact ⟨hb.ne2 hT1 (by rcases ht with rfl | rfl <;> decide), hb.ne2 hS1.regB (by rcases ht with rfl | rfl <;> decide)⟩)
  have hS3 : SnapAt w3 S R K r (regs.set i (some ⟨OWN, 0, none⟩)) (fun k => if k = i then v else f k) := by
    have hl := hS.len
    refine ⟨hne _ _ _ hS1.snap (.inl rfl), ?_, by simpa using hl, fun p hp => ?_, fun k p hk => ?_⟩
    · rw [List.map_set]; simpa using hR3
    · rcases List.mem_or_eq_of_mem_set hp with hp | rfl
      · rcases hS1.ptr p hp with e | ⟨b, cs, e, h1, h2⟩
        · exact .inl e
        · exact .inr ⟨b, cs, e, hne _ _ _ h1 (.inr rfl), h2⟩
      · exact .inr ⟨OWN, _, rfl, hne _ _ _ hOW1 (.inr rfl), rfl⟩
    · rw [List.getElem?_set] at hk
      by_cases e : i = k
      · subst e
        rw [if_pos rfl, if_pos (by omega)] at hk
        injection hk with hk
        subst hk
        rw [if_pos rfl]
        exact .inr ⟨OWN, _, rfl, hne _ _ _ hOW1 (.inr rfl)⟩
      · rw [if_neg e] at hk
        rw [if_neg (fun e' => e e'.symm)]
        rcases hS1.num k p hk with e | ⟨b, s, e, h1⟩
        · exact .inl e
        · exact .inr ⟨b, s, e, hne _ _ _ h1 (.inr rfl)⟩
  go_wp2_with fail
  refine (TDone_calls T _ s1 (some ⟨O, 0, none⟩) _ hT3 (.inr ⟨O, _, rfl, hOb, rfl⟩)).mono ?_
  rintro e w4 ⟨rfl, h⟩
  have h := h.symm
  subst h
  go_wp2_with fail
  go_ret
  exact ⟨rfl, ⟨⟨O, s1, hT3, hOb, by omega⟩, hS3⟩, (Kp.of_only (hO1.mono (by simp)) (by simp; omega) nW).trans (Kp.of_only (hOn.mono (by simp)) (by simp; omega) nW2)⟩
end Go.Proofs.Ytecolbdnaipgdaa
