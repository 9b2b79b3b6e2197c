/- The book's rules 2 and 3: initial writes, other events. -/
import Derived.Test.YthiijcappjaagaaGreatDoorJ10
import Derived.Deep.LoopGhost
import Derived.Deep.RegionHeld3
namespace Go.Proofs.YthiijcappjaagaaGreatDoor
open Go.RowKit Go.Shelf Sx
def formN (k : Int) (q : Bool) : Nat := if k = 1 then (if q then 71680 else 38) else if k = 2 then (if q then 10240 else 42) else (if q then 49152 else 60)
def mayB (k m : Int) (q : Bool) : Bool := decide (0 ≤ m) && (formN k q).testBit m.toNat
theorem shr_bit {N : Nat} (h : ∀ j : Fin 17, (bits BinOp.and IntKind.i64 ((N : Int) / 2 ^ min j.1 64) 1 == 1) = N.testBit j.1) (hN : N < 2 ^ 17) (j : Nat) : (bits BinOp.and IntKind.i64 ((N : Int) / 2 ^ min j 64) 1 == 1) = N.testBit j := by
  by_cases hj : j < 17
  · exact h ⟨j, hj⟩
  · have e1 : N.testBit j = false := Nat.testBit_lt_two_pow (Nat.lt_of_lt_of_le hN (Nat.pow_le_pow_right (by decide) (by omega)))
    have e2 : ((N : Int) / 2 ^ min j 64) = 0 := by
      have h2 : N / 2 ^ min j 64 = 0 := Nat.div_eq_of_lt (Nat.lt_of_lt_of_le hN (Nat.pow_le_pow_right (by decide) (by omega)))
      have h3 : ((N / 2 ^ min j 64 : Nat) : Int) = (N : Int) / 2 ^ min j 64 := by push_cast; rfl
      rw [← h3, h2]
      rfl
    rw [e1, e2]
    decide +kernel
set_option maxHeartbeats 1000000 in
theorem gMay_calls (k m : Int) (q : Bool) (w : World) (hF : Frm w) (hk : k = 1 ∨ k = 2 ∨ k = 3) :
    Calls Tryz.prog 113 #[.int .i64 k, .int .i64 m, .bool q] w fun e w' => e = .returned (.bool (mayB k m q)) ∧ w' = w := by
  have d2 : w.cell? ⟨1, 2, none⟩ = some (.int .i64 38) := hF.c 2 (by decide)
  have d3 : w.cell? ⟨1, 3, none⟩ = some (.int .i64 71680) := hF.c 3 (by decide)
  have d4 : w.cell? ⟨1, 4, none⟩ = some (.int .i64 42) := hF.c 4 (by decide)
  have d5 : w.cell? ⟨1, 5, none⟩ = some (.int .i64 10240) := hF.c 5 (by decide)
  have d6 : w.cell? ⟨1, 6, none⟩ = some (.int .i64 60) := hF.c 6 (by decide)
  have d7 : w.cell? ⟨1, 7, none⟩ = some (.int .i64 49152) := hF.c 7 (by decide)
  by_cases hm : 0 ≤ m
  · have hmd : decide (0 ≤ m) = true := decide_eq_true hm
    have key : ∀ k', (k' = 1 ∨ k' = 2 ∨ k' = 3) → ∀ q' : Bool, (bits BinOp.and IntKind.i64 (((formN k' q' : Nat) : Int) / 2 ^ min m.toNat 64) 1 == 1) = mayB k' m q' := by
      intro k' hk' q'
      unfold mayB
      rw [hmd, Bool.true_and]
      rcases hk' with rfl | rfl | rfl <;> cases q'
      all_goals exact shr_bit (by decide +kernel) (by decide) _
    have HK1 := hid_of (key 1 (.inl rfl))
    have HK2 := hid_of (key 2 (.inr (.inl rfl)))
    have HK3 := hid_of (key 3 (.inr (.inr rfl)))
    clear key
    rcases hk with rfl | rfl | rfl
    all_goals
      cases q
      all_goals
        go_enter Tryz.func113, Tryz.ntmps113
        go_wp2_with fail
        go_ret
        first | rw [← HK1.out] | rw [← HK2.out] | rw [← HK3.out]
        exact ⟨rfl, rfl⟩
  · have hn : mayB k m q = false := by simp [mayB, hm]
    rw [hn]
    rcases hk with rfl | rfl | rfl
    all_goals
      cases q
      all_goals
        go_enter Tryz.func113, Tryz.ntmps113
        go_wp2_with fail
        go_ret
        exact ⟨rfl, rfl⟩
theorem Frm.drew {w : World} (h : Frm w) : Frm w.drew := ⟨h.lt, fun j hj => h.c j hj⟩
theorem Frm.drewN {w : World} (h : Frm w) (n : Nat) : Frm (w.drewN n) := h.below h.lt (below_drewN (Below.refl _ w) n)
def okEv (cells : Int) (e : Ev) (q : Bool) : Bool := decide (0 ≤ e.t) && decide (e.t < 64) && decide (1 ≤ e.k) && decide (e.k ≤ 3) && (if e.k = 3 then decide (e.l = -1) && decide (e.v = 0) else decide (0 ≤ e.l) && decide (e.l < cells)) && mayB e.k e.m q
def Ev.val (e : Ev) : Value := .agg #[.int .i64 e.t, .int .i64 e.k, .int .i64 e.l, .int .u64 e.v, .int .i64 e.m]
set_option maxRecDepth 100000 in
set_option maxHeartbeats 4000000 in
theorem gIsOther_calls (b : Nat) (V : GrV) (g : Gr) (q : Bool) (e : Ev) (w : World) (h : BkR w b V g q) (hF : Frm w) :
    Calls Tryz.prog 86 #[pv b, .agg #[.int .i64 e.t, .int .i64 e.k, .int .i64 e.l, .int .u64 e.v, .int .i64 e.m]] w fun r w' => r = .returned (.bool (okEv g.cells e q)) ∧ Below w.heap.size w w' := by
  obtain ⟨t, k, l, v, m⟩ := e
  dsimp only
  have hb := Blk.new w 63 #[.int .i64 t, .int .i64 k, .int .i64 l, .int .u64 v, .int .i64 m]
  have hBA := (Below.refl w.heap.size w).alloc (Nat.le_refl _) (.cells #[.int .i64 t, .int .i64 k, .int .i64 l, .int .u64 v, .int .i64 m] 63)
  have e0 : (w.alloc (.cells #[.int .i64 t, .int .i64 k, .int .i64 l, .int .u64 v, .int .i64 m] 63)).cell? ⟨w.heap.size, 0, none⟩ = some (.int .i64 t) := hb.cell rfl
  have e1 : (w.alloc (.cells #[.int .i64 t, .int .i64 k, .int .i64 l, .int .u64 v, .int .i64 m] 63)).cell? ⟨w.heap.size, 1, none⟩ = some (.int .i64 k) := hb.cell rfl
  have e2 : (w.alloc (.cells #[.int .i64 t, .int .i64 k, .int .i64 l, .int .u64 v, .int .i64 m] 63)).cell? ⟨w.heap.size, 2, none⟩ = some (.int .i64 l) := hb.cell rfl
  have e3 : (w.alloc (.cells #[.int .i64 t, .int .i64 k, .int .i64 l, .int .u64 v, .int .i64 m] 63)).cell? ⟨w.heap.size, 3, none⟩ = some (.int .u64 v) := hb.cell rfl
  have e4 : (w.alloc (.cells #[.int .i64 t, .int .i64 k, .int .i64 l, .int .u64 v, .int .i64 m] 63)).cell? ⟨w.heap.size, 4, none⟩ = some (.int .i64 m) := hb.cell rfl
  have hB := h.below hBA
  have f0 := hB.cells
  have f8 := hB.wds
  have hFA := hF.step hBA
  have HBA := hid_of hBA
  have HFA := hid_of hFA
  clear hb hBA hB h hF hFA
  generalize hok : okEv g.cells ⟨t, k, l, v, m⟩ q = r
  have HOK := hid_of hok
  clear hok
  go_enter Tryz.func86, Tryz.ntmps86
  by_cases ht : t < 0
  · obtain rfl : r = false := by rw [← HOK.out]; simp [okEv]; omega
    go_wp2_with fail
    go_ret
    exact ⟨rfl, HBA.out⟩
  · by_cases ht2 : (64 : Int) ≤ t
    · obtain rfl : r = false := by rw [← HOK.out]; simp [okEv]; omega
      go_wp2_with fail
      go_ret
      exact ⟨rfl, HBA.out⟩
    · by_cases hk1 : k < 1
      · obtain rfl : r = false := by rw [← HOK.out]; simp [okEv]; omega
        go_wp2_with fail
        go_ret
        exact ⟨rfl, HBA.out⟩
      · by_cases hk3 : (3 : Int) < k
        · obtain rfl : r = false := by rw [← HOK.out]; simp [okEv]; omega
          go_wp2_with fail
          go_ret
          exact ⟨rfl, HBA.out⟩
        · obtain hk | hk | hk : k = 1 ∨ k = 2 ∨ k = 3 := by omega
          all_goals subst hk
          · by_cases hl0 : l < 0
            · obtain rfl : r = false := by rw [← HOK.out]; simp [okEv]; omega
              go_wp2_with fail
              go_quiet (fail)
              go_wp2_with fail
              go_ret
              exact ⟨rfl, below_drewN HBA.out _⟩
            · by_cases hl1 : g.cells ≤ l
              · obtain rfl : r = false := by rw [← HOK.out]; simp [okEv]; omega
                go_wp2_with fail
                go_quiet (fail)
                go_wp2_with fail
                go_ret
                exact ⟨rfl, below_drewN HBA.out _⟩
              · obtain rfl : mayB 1 m q = r := by rw [← HOK.out]; simp [okEv]; omega
                go_wp2_with fail
                go_quiet (fail)
                go_wp2_with fail
                go_region_held3 (fun w' => w'.cell? ⟨w.heap.size, 1, none⟩ = some (.int .i64 1) ∧ w'.cell? ⟨w.heap.size, 4, none⟩ = some (.int .i64 m) ∧ w'.cell? ⟨b, 8, none⟩ = some (.bool q)) (first | assumption | exact ⟨e1, e4, f8⟩) (first | (go_at_call 113; refine (gMay_calls 1 m q _ (by first | exact HFA.out | exact HFA.out.drew | exact HFA.out.drew.drew | exact (HFA.out.drewN _).drew) (by first | exact .inl rfl | exact .inr (.inl rfl) | exact .inr (.inr rfl))).mono ?_; rintro e w' ⟨rfl, rfl⟩))
                go_wp2_with fail
                go_ret
                exact ⟨rfl, by first | exact HBA.out | exact HBA.out.drew | exact HBA.out.drew.drew | exact (below_drewN HBA.out _).drew⟩
          · by_cases hl0 : l < 0
            · obtain rfl : r = false := by rw [← HOK.out]; simp [okEv]; omega
              go_wp2_with fail
              go_quiet (fail)
              go_wp2_with fail
              go_ret
              exact ⟨rfl, below_drewN HBA.out _⟩
            · by_cases hl1 : g.cells ≤ l
              · obtain rfl : r = false := by rw [← HOK.out]; simp [okEv]; omega
                go_wp2_with fail
                go_quiet (fail)
                go_wp2_with fail
                go_ret
                exact ⟨rfl, below_drewN HBA.out _⟩
              · obtain rfl : mayB 2 m q = r := by rw [← HOK.out]; simp [okEv]; omega
                go_wp2_with fail
                go_quiet (fail)
                go_wp2_with fail
                go_region_held3 (fun w' => w'.cell? ⟨w.heap.size, 1, none⟩ = some (.int .i64 2) ∧ w'.cell? ⟨w.heap.size, 4, none⟩ = some (.int .i64 m) ∧ w'.cell? ⟨b, 8, none⟩ = some (.bool q)) (first | assumption | exact ⟨e1, e4, f8⟩) (first | (go_at_call 113; refine (gMay_calls 2 m q _ (by first | exact HFA.out | exact HFA.out.drew | exact HFA.out.drew.drew | exact (HFA.out.drewN _).drew) (by first | exact .inl rfl | exact .inr (.inl rfl) | exact .inr (.inr rfl))).mono ?_; rintro e w' ⟨rfl, rfl⟩))
                go_wp2_with fail
                go_ret
                exact ⟨rfl, by first | exact HBA.out | exact HBA.out.drew | exact HBA.out.drew.drew | exact (below_drewN HBA.out _).drew⟩
          · by_cases hl : l = -1
            · by_cases hv : v = 0
              · subst hl
                subst hv
                obtain rfl : mayB 3 m q = r := by rw [← HOK.out]; simp [okEv]; omega
                go_wp2_with fail
                go_quiet (fail)
                go_wp2_with fail
                go_region_held3 (fun w' => w'.cell? ⟨w.heap.size, 1, none⟩ = some (.int .i64 3) ∧ w'.cell? ⟨w.heap.size, 4, none⟩ = some (.int .i64 m) ∧ w'.cell? ⟨b, 8, none⟩ = some (.bool q)) (first | assumption | exact ⟨e1, e4, f8⟩) (first | (go_at_call 113; refine (gMay_calls 3 m q _ (by first | exact HFA.out | exact HFA.out.drew | exact HFA.out.drew.drew | exact (HFA.out.drewN _).drew) (by first | exact .inl rfl | exact .inr (.inl rfl) | exact .inr (.inr rfl))).mono ?_; rintro e w' ⟨rfl, rfl⟩))
                go_wp2_with fail
                go_ret
                exact ⟨rfl, by first | exact HBA.out | exact HBA.out.drew | exact HBA.out.drew.drew | exact (below_drewN HBA.out _).drew⟩
              · obtain rfl : r = false := by rw [← HOK.out]; simp [okEv]; omega
                subst hl
                have q1 : ((v : Int) != 0) = true := by simp [hv]
                go_wp2_with fail
                go_ret
                exact ⟨rfl, HBA.out⟩
            · obtain rfl : r = false := by rw [← HOK.out]; simp [okEv]; omega
              have q1 : ((l : Int) != -1) = true := by simp [hl]
              go_wp2_with fail
              go_ret
              exact ⟨rfl, HBA.out⟩
end Go.Proofs.YthiijcappjaagaaGreatDoor
