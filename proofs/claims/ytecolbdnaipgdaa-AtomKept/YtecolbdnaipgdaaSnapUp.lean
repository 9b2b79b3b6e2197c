/- An Update's steps, in the run of one goroutine. -/
import Derived.Test.YtecolbdnaipgdaaSnapRun
namespace Go.Proofs.Ytecolbdnaipgdaa
open Go.RowKit

set_option maxRecDepth 100000 in
set_option maxHeartbeats 4000000 in
theorem upLoad_goes (UP T LK OWN S R K MV r j n base j2 : Nat) (i : Int) (second s2 : Bool) (hj2 : Hid ((if j + 1 < r then j + 1 else 0) = j2)) (hs2 : Hid ((second || decide (j + 1 = r)) = s2)) (hj : j < r) (hr : r ≤ 16) (hmid : j + 1 < r ∨ second = false) (regs : List (Option Addr)) (f : Nat → Int) (w : World) (hUP : Blk w UP 77 #[pv T, pv LK, .int .i64 i, pv OWN]) (hL : LookSt w n LK S MV r j second regs base) (hS : SnapAt w S R K r regs f) (hnL : n ≤ LK) :
    Calls Try.prog 20 #[pv UP] w fun e w' => e = .returned (.tuple #[]) ∧ Kp n base [LK] w w' ∧ ∃ base', LookSt w' n LK S MV r j2 s2 regs base' := by
  have H := look_goes LK S R K MV r j n base second hj hr hmid regs f w hL hS hnL
  rw [hj2.out, hs2.out] at H
  have c1 := hUP.cell (j := 1) rfl
  have hsn := sl_neq_none
  clear hL hS
  go_enter Try.func20, Try.ntmps20
  go_wp2_with fail
  refine H.mono ?_
  rintro e w1 ⟨rfl, h1, h2⟩
  clear H
  go_wp2_with fail
  go_end0
  exact ⟨rfl, h1, h2⟩
set_option maxRecDepth 100000 in
set_option maxHeartbeats 4000000 in
theorem upLoad_ends (UP T LK OWN S R K MV r n base : Nat) (i v : Int) (hr0 : 0 < r) (hr : r ≤ 16) (todo sv : Value) (st : Int) (regs : List (Option Addr)) (f : Nat → Int) (w : World) (hT : Blk w T 73 (taskA todo st none)) (hUP : Blk w UP 77 #[pv T, pv LK, .int .i64 i, pv OWN]) (hOW : Blk w OWN 49 #[.int .u64 v, sv]) (hL : LookSt w n LK S MV r (r - 1) true regs base) (hS : SnapAt w S R K r regs f) (hnL : n ≤ LK) :
    Calls Try.prog 20 #[pv UP] w fun e w' => e = .returned (.tuple #[]) ∧ ∃ g w1, Blk w' T 73 (taskA (.func (.func 33) #[pv UP] #[]) st none) ∧ Blk w' OWN 49 #[.int .u64 v, .slice (some ⟨g, 0, none⟩) r r] ∧ (∃ a b c, Blk w' LK 107 #[pv S, a, b, c]) ∧ Kp n base [LK] w w1 ∧ Only [T, OWN] w1 w' := by
  obtain ⟨lcs, hLB⟩ := hL.blk
  have hTL := hT.ne2 hLB (by decide)
  have hCL := hUP.ne2 hLB (by decide)
  have hOL := hOW.ne2 hLB (by decide)
  have hTO := hT.ne2 hOW (by decide)
  have hTU := hT.ne2 hUP (by decide)
  have hUO := hUP.ne2 hOW (by decide)
  have H := look_ends LK S R K MV r n base hr0 hr regs f w hL hS hnL
  have c1 := hUP.cell (j := 1) rfl
  clear hL hS
  go_enter Try.func20, Try.ntmps20
  go_wp2_with fail
  refine H.mono ?_
  rintro e w1 ⟨g, rfl, hg, hU, hK, a, b, c, hL1⟩
  clear H
  have hsn := sl_neq_some g r r
  have hUP1 := hK.keep _ _ _ hUP (by simp; exact hCL) (.inl (by decide))
  have hT1 := hK.keep _ _ _ hT (by simp; exact hTL) (.inl (by decide))
  have hOW1 := hK.keep _ _ _ hOW (by simp; exact hOL) (.inl (by decide))
  have c0 := hUP1.cell (j := 0) rfl
  have c3 := hUP1.cell (j := 3) rfl
  have o1 := hOW1.cell (j := 1) rfl
  have f1 := hOW1.frozen 1
  have hUP2 := hUP1.setOther (a := ⟨OWN, 1, none⟩) hUO (.slice (some ⟨g, 0, none⟩) r r)
  have hT2 := hT1.setOther (a := ⟨OWN, 1, none⟩) hTO (.slice (some ⟨g, 0, none⟩) r r)
  have d0 := hUP2.cell (j := 0) rfl
  have hs := store_run (v := .func (.func 33) #[pv UP] #[]) rfl (hT2.cell (j := 0) rfl) (hT2.frozen 0)
  go_wp2_with fail
  go_end0
  refine ⟨rfl, g, w1, hT2.set 0 _, ?_, ⟨a, b, c, (hL1.setOther (Ne.symm hOL) _).setOther (Ne.symm hTL) _⟩, hK, (Only.set _ (by simp) _ _).trans (Only.set _ (by simp) _ _)⟩
  exact (hOW1.set 1 _).setOther (Ne.symm hTO) _
set_option maxRecDepth 100000 in
set_option maxHeartbeats 4000000 in
theorem upStore_calls (UP T LK OWN S R K r i : Nat) (hi : i < r) (v : Int) (sv la lb lc u todo : Value) (st : Int) (w : World) (hT : Blk w T 73 (taskA todo st none)) (hUP : Blk w UP 77 #[pv T, pv LK, .int .i64 ((i : Nat) : Int), pv OWN]) (hOW : Blk w OWN 49 #[.int .u64 v, sv]) (hLK : Blk w LK 107 #[pv S, la, lb, lc]) (hS : Blk w S 46 #[.slice (some ⟨R, 0, none⟩) r r, .slice (some ⟨K, 0, none⟩) r r]) (rs : Array Value) (hR : Blk w R 101 rs) (hu : rs[i]? = some u) :
    Calls Try.prog 33 #[pv UP] w fun e w' => e = .returned (.tuple #[]) ∧ ∃ O, Blk w' T 73 (taskA .nilFunc st (some ⟨O, 0, none⟩)) ∧ Blk w' O 83 (outA v true (.slice none 0 0)) ∧ Blk w' R 101 (rs.setIfInBounds i (pv OWN)) ∧ w.heap.size ≤ O ∧ Only [T, R] w w' := by
  have a1 := hUP.cell (j := 1) rfl
  have a2 := hUP.cell (j := 2) rfl
  have a3 := hUP.cell (j := 3) rfl
  have b0 := hLK.cell (j := 0) rfl
  have d0 := hS.cell (j := 0) rfl
  have bi0 : (0 : Int) ≤ ((i : Nat) : Int) := by omega
  have bi1 : ((i : Nat) : Int) < ((r : Nat) : Int) := by omega
  have hRU := hUP.ne2 hR (by decide)
  have hRL := hLK.ne2 hR (by decide)
  have hRS := hS.ne2 hR (by decide)
  have hRT := hT.ne2 hR (by decide)
  have hRO := hOW.ne2 hR (by decide)
  have hTU := hUP.ne2 hT (by decide)
  have hTO := hOW.ne2 hT (by decide)
  go_enter Try.func33, Try.ntmps33
  go_wp2_with fail
  go_region_held3 (fun w' => w'.cell? ⟨UP, 1, none⟩ = some (pv LK) ∧ w'.cell? ⟨UP, 2, none⟩ = some (.int .i64 ((i : Nat) : Int)) ∧ w'.cell? ⟨UP, 3, none⟩ = some (pv OWN) ∧ w'.cell? ⟨LK, 0, none⟩ = some (pv S) ∧ w'.cell? ⟨S, 0, none⟩ = some (.slice (some ⟨R, 0, none⟩) r r)) (first | assumption | exact ⟨a1, a2, a3, b0, d0⟩)
    (first | (go_at_call 41; refine (recStore_calls R i u (some ⟨OWN, 0, none⟩) w.drew (hR.drew.cell hu) (hR.drew.frozen i) (.inr ⟨OWN, _, rfl, hOW.drew, rfl⟩)).mono ?_; rintro e w1 ⟨rfl, rfl⟩; have hUP1 := hUP.drew.setOther (a := ⟨R, i, none⟩) hRU (pv OWN); have hLK1 := hLK.drew.setOther (a := ⟨R, i, none⟩) hRL (pv OWN); have hS1 := hS.drew.setOther (a := ⟨R, i, none⟩) hRS (pv OWN); have K1 : (w.drew.setCell ⟨R, i, none⟩ (pv OWN)).cell? ⟨UP, 1, none⟩ = some (pv LK) ∧ (w.drew.setCell ⟨R, i, none⟩ (pv OWN)).cell? ⟨UP, 2, none⟩ = some (.int .i64 ((i : Nat) : Int)) ∧ (w.drew.setCell ⟨R, i, none⟩ (pv OWN)).cell? ⟨UP, 3, none⟩ = some (pv OWN) ∧ (w.drew.setCell ⟨R, i, none⟩ (pv OWN)).cell? ⟨LK, 0, none⟩ = some (pv S) ∧ (w.drew.setCell ⟨R, i, none⟩ (pv OWN)).cell? ⟨S, 0, none⟩ = some (.slice (some ⟨R, 0, none⟩) r r) := ⟨hUP1.cell rfl, hUP1.cell rfl, hUP1.cell rfl, hLK1.cell rfl, hS1.cell rfl⟩))
  have hR1 := (hR.set i (pv OWN)).drew
  have hT1 := (hT.setOther (a := ⟨R, i, none⟩) hRT (pv OWN)).drew
  have hUP2 := (hUP.setOther (a := ⟨R, i, none⟩) hRU (pv OWN)).drew
  have hOW2 := (hOW.setOther (a := ⟨R, i, none⟩) hRO (pv OWN)).drew
  have hO1 : Only [T, R] w (w.setCell ⟨R, i, none⟩ (pv OWN)).drew := (Only.set _ (by simp) _ _).trans (Only.drew _ _)
  clear a1 a2 a3 b0 d0 K1 hUP1 hLK1 hS1
  generalize (w.setCell _ _).drew = W1 at *
  have c0 := hUP2.cell (j := 0) rfl
  have c3 := hUP2.cell (j := 3) rfl
  have o0 := hOW2.cell (j := 0) rfl
  go_wp2_with fail
  go_region_held3 (fun w' => w'.cell? ⟨UP, 0, none⟩ = some (pv T) ∧ w'.cell? ⟨UP, 3, none⟩ = some (pv OWN) ∧ w'.cell? ⟨OWN, 0, none⟩ = some (.int .u64 v)) (first | assumption | exact ⟨c0, c3, o0⟩)
    (first | (go_at_call 42; refine (succeed_calls T todo st none v W1.drew hT1.drew).mono ?_; rintro e w2 ⟨rfl, O, hO, hT2, hOb, hO2⟩; have hUP3 := hUP2.drew.only hO2 (by simp; exact hTU); have hOW3 := hOW2.drew.only hO2 (by simp; exact hTO); have K2 : w2.cell? ⟨UP, 0, none⟩ = some (pv T) ∧ w2.cell? ⟨UP, 3, none⟩ = some (pv OWN) ∧ w2.cell? ⟨OWN, 0, none⟩ = some (.int .u64 v) := ⟨hUP3.cell rfl, hUP3.cell rfl, hOW3.cell rfl⟩))
  have hR2 := hR1.drew.only hO2 (by simp; exact Ne.symm hRT)
  have hOw : w.heap.size ≤ O := Nat.le_trans hO1.size hO
  go_wp2_with fail
  go_end0
  exact ⟨rfl, O, hT2, hOb, hR2, hOw, hO1.trans ((Only.drew _ _).trans (hO2.mono (by simp)))⟩
end Go.Proofs.Ytecolbdnaipgdaa
