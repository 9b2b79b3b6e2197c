import Derived.Test.YtdkogbfamdnheaaGreatDoorJ13
import Derived.Deep.LoopGhost
namespace Go.Proofs.YtdkogbfamdnheaaGreatDoor
open Go.RowKit Go.Shelf Sx
set_option maxRecDepth 100000
set_option maxHeartbeats 16000000
set_option linter.unusedSimpArgs false
set_option linter.unusedVariables false
def Qg6 (k : Int) (q : Bool) : Nat := if k = 1 then (if q then 71680 else 38) else if k = 2 then (if q then 10240 else 42) else (if q then 49152 else 60)
def Qf3 (k m : Int) (q : Bool) : Bool := decide (0 ≤ m) && (Qg6 k q).testBit m.toNat
theorem Qzs {N : Nat} (h : ∀ j : Fin 17, (bits BinOp.and IntKind.i64 ((N : Int) / 2 ^ min j.1 64) 1 == 1) = N.testBit j.1) (hN : N < 2 ^ 17) (j : Nat) : (bits BinOp.and IntKind.i64 ((N : Int) / 2 ^ min j 64) 1 == 1) = N.testBit j := by
 by_cases hj : j < 17
 ·exact h ⟨j, hj⟩
 ·have e1 : N.testBit j = false := Nat.testBit_lt_two_pow (Nat.lt_of_lt_of_le hN (Nat.pow_le_pow_right dW oW))
  have e2 : ((N : Int) / 2 ^ min j 64) = 0 := by
   have h2 : N / 2 ^ min j 64 = 0 := Nat.div_eq_of_lt (Nat.lt_of_lt_of_le hN (Nat.pow_le_pow_right dW oW))
   have h3 : ((N / 2 ^ min j 64 : Nat) : Int) = (N : Int) / 2 ^ min j 64 := by push_cast; rfl
   rw [← h3, h2]
   rfl
  rw [e1, e2]
  decide +kernel
theorem Qiq (k m : Int) (q : Bool) (w : World) (hF : Frm w) (hk : k = 1 ∨ k = 2 ∨ k = 3) :
  Calls Tryz.prog 162 #[.int .i64 k, .int .i64 m, .bool q] w fun e w' => e = .returned (.bool (Qf3 k m q)) ∧ w' = w := by
 have d2 : w.cell? ⟨1, 2, none⟩ = some (.int .i64 38) := hF.c 2 dW
 have d3 : w.cell? ⟨1, 3, none⟩ = some (.int .i64 71680) := hF.c 3 dW
 have d4 : w.cell? ⟨1, 4, none⟩ = some (.int .i64 42) := hF.c 4 dW
 have d5 : w.cell? ⟨1, 5, none⟩ = some (.int .i64 10240) := hF.c 5 dW
 have d6 : w.cell? ⟨1, 6, none⟩ = some (.int .i64 60) := hF.c 6 dW
 have d7 : w.cell? ⟨1, 7, none⟩ = some (.int .i64 49152) := hF.c 7 dW
 by_cases hm : 0 ≤ m
 ·have hmd : decide (0 ≤ m) = true := decide_eq_true hm
  have key : ∀ k', (k' = 1 ∨ k' = 2 ∨ k' = 3) → ∀ q' : Bool, (bits BinOp.and IntKind.i64 (((Qg6 k' q' : Nat) : Int) / 2 ^ min m.toNat 64) 1 == 1) = Qf3 k' m q' := by
   intro k' hk' q'
   unfold Qf3
   rw [hmd, Bool.true_and]
   rcases hk' with rfl | rfl | rfl <;> cases q'
   all_goals exact Qzs (by decide +kernel) dW _
  have HK1 := Qa (key 1 (.inl rfl))
  have HK2 := Qa (key 2 (.inr (.inl rfl)))
  have HK3 := Qa (key 3 (.inr (.inr rfl)))
  clear key
  rcases hk with rfl | rfl | rfl
  all_goals
   cases q
   all_goals
    go_enter Tryz.func162, Tryz.ntmps162
    go_wp2_with fail
    go_ret
    first | rw [← HK1.out] | rw [← HK2.out] | rw [← HK3.out]
    exact ⟨rfl, rfl⟩
 ·have hn : Qf3 k m q = false := by simp [Qf3, hm]
  rw [hn]
  rcases hk with rfl | rfl | rfl
  all_goals
   cases q
   all_goals
    go_enter Tryz.func162, Tryz.ntmps162
    go_wp2_with fail
    go_ret
    exact ⟨rfl, rfl⟩
theorem Frm.drew {w : World} (h : Frm w) : Frm w.drew := ⟨h.lt, fun j hj => h.c j hj⟩
theorem Frm.drewN {w : World} (h : Frm w) (n : Nat) : Frm (w.drewN n) := h.below h.lt (Qab (Below.refl _ w) n)
def Qbm (cells : Int) (e : Ev) (q : Bool) : Bool := decide (0 ≤ e.t) && decide (e.t < 64) && decide (1 ≤ e.k) && decide (e.k ≤ 3) && (if e.k = 3 then decide (e.l = -1) && decide (e.v = 0) else decide (0 ≤ e.l) && decide (e.l < cells)) && Qf3 e.k e.m q
def Ev.val (e : Ev) : Value := .agg #[.int .i64 e.t, .int .i64 e.k, .int .i64 e.l, .int .u64 e.v, .int .i64 e.m]
theorem Qm2 (b : Nat) (V : GrV) (g : Gr) (q : Bool) (e : Ev) (w : World) (h : BkR w b V g q) (hF : Frm w) :
  Calls Tryz.prog 145 #[pv b, .agg #[.int .i64 e.t, .int .i64 e.k, .int .i64 e.l, .int .u64 e.v, .int .i64 e.m]] w fun r w' => r = .returned (.bool (Qbm g.cells e q)) ∧ Below w.heap.size w w' := by
 obtain ⟨t, k, l, v, m⟩ := e
 dsimp only
 have hb := Blk.new w 34 #[.int .i64 t, .int .i64 k, .int .i64 l, .int .u64 v, .int .i64 m]
 have hBA := (Below.refl w.heap.size w).alloc nW (.cells #[.int .i64 t, .int .i64 k, .int .i64 l, .int .u64 v, .int .i64 m] 34)
 have e0 : (w.alloc (.cells #[.int .i64 t, .int .i64 k, .int .i64 l, .int .u64 v, .int .i64 m] 34)).cell? ⟨w.heap.size, 0, none⟩ = some (.int .i64 t) := hb.cell rfl
 have e1 : (w.alloc (.cells #[.int .i64 t, .int .i64 k, .int .i64 l, .int .u64 v, .int .i64 m] 34)).cell? ⟨w.heap.size, 1, none⟩ = some (.int .i64 k) := hb.cell rfl
 have e2 : (w.alloc (.cells #[.int .i64 t, .int .i64 k, .int .i64 l, .int .u64 v, .int .i64 m] 34)).cell? ⟨w.heap.size, 2, none⟩ = some (.int .i64 l) := hb.cell rfl
 have e3 : (w.alloc (.cells #[.int .i64 t, .int .i64 k, .int .i64 l, .int .u64 v, .int .i64 m] 34)).cell? ⟨w.heap.size, 3, none⟩ = some (.int .u64 v) := hb.cell rfl
 have e4 : (w.alloc (.cells #[.int .i64 t, .int .i64 k, .int .i64 l, .int .u64 v, .int .i64 m] 34)).cell? ⟨w.heap.size, 4, none⟩ = some (.int .i64 m) := hb.cell rfl
 have hB := h.below hBA
 have f0 := hB.cells
 have f8 := hB.wds
 have hFA := hF.step hBA
 have HBA := Qa hBA
 have HFA := Qa hFA
 clear hb hBA hB h hF hFA
 generalize hok : Qbm g.cells ⟨t, k, l, v, m⟩ q = r
 have HOK := Qa hok
 clear hok
 go_enter Tryz.func145, Tryz.ntmps145
 by_cases ht : t < 0
 ·obtain rfl : r = false := by rw [← HOK.out]; simp [Qbm]; omega
  go_wp2_with fail
  go_ret
  exact ⟨rfl, HBA.out⟩
 ·by_cases ht2 : (64 : Int) ≤ t
  ·obtain rfl : r = false := by rw [← HOK.out]; simp [Qbm]; omega
   go_wp2_with fail
   go_ret
   exact ⟨rfl, HBA.out⟩
  ·by_cases hk1 : k < 1
   ·obtain rfl : r = false := by rw [← HOK.out]; simp [Qbm]; omega
    go_wp2_with fail
    go_ret
    exact ⟨rfl, HBA.out⟩
   ·by_cases hk3 : (3 : Int) < k
    ·obtain rfl : r = false := by rw [← HOK.out]; simp [Qbm]; omega
     go_wp2_with fail
     go_ret
     exact ⟨rfl, HBA.out⟩
    ·obtain hk | hk | hk : k = 1 ∨ k = 2 ∨ k = 3 := by omega
     all_goals subst hk
     ·by_cases hl0 : l < 0
      ·obtain rfl : r = false := by rw [← HOK.out]; simp [Qbm]; omega
       go_wp2_with fail
       go_quiet (fail)
       go_wp2_with fail
       go_ret
       exact ⟨rfl, Qab HBA.out _⟩
      ·by_cases hl1 : g.cells ≤ l
       ·obtain rfl : r = false := by rw [← HOK.out]; simp [Qbm]; omega
        go_wp2_with fail
        go_quiet (fail)
        go_wp2_with fail
        go_ret
        exact ⟨rfl, Qab HBA.out _⟩
       ·obtain rfl : Qf3 1 m q = r := by rw [← HOK.out]; simp [Qbm]; omega
        go_wp2_with fail
        go_quiet (fail)
        go_wp2_with fail
        go_region_held3 (fun w' => w'.cell? ⟨w.heap.size, 1, none⟩ = some (.int .i64 1) ∧ w'.cell? ⟨w.heap.size, 4, none⟩ = some (.int .i64 m) ∧ w'.cell? ⟨b, 8, none⟩ = some (.bool q)) (first | assumption | exact ⟨e1, e4, f8⟩) (first | (go_at_call 162; refine (Qiq 1 m q _ (by first | exact HFA.out | exact HFA.out.drew | exact HFA.out.drew.drew | exact (HFA.out.drewN _).drew) (by first | exact .inl rfl | exact .inr (.inl rfl) | exact .inr (.inr rfl))).mono ?_; rintro e w' ⟨rfl, rfl⟩))
        go_wp2_with fail
        go_ret
        exact ⟨rfl, by first | exact HBA.out | exact HBA.out.drew | exact HBA.out.drew.drew | exact (Qab HBA.out _).drew⟩
     ·by_cases hl0 : l < 0
      ·obtain rfl : r = false := by rw [← HOK.out]; simp [Qbm]; omega
       go_wp2_with fail
       go_quiet (fail)
       go_wp2_with fail
       go_ret
       exact ⟨rfl, Qab HBA.out _⟩
      ·by_cases hl1 : g.cells ≤ l
       ·obtain rfl : r = false := by rw [← HOK.out]; simp [Qbm]; omega
        go_wp2_with fail
        go_quiet (fail)
        go_wp2_with fail
        go_ret
        exact ⟨rfl, Qab HBA.out _⟩
       ·obtain rfl : Qf3 2 m q = r := by rw [← HOK.out]; simp [Qbm]; omega
        go_wp2_with fail
        go_quiet (fail)
        go_wp2_with fail
        go_region_held3 (fun w' => w'.cell? ⟨w.heap.size, 1, none⟩ = some (.int .i64 2) ∧ w'.cell? ⟨w.heap.size, 4, none⟩ = some (.int .i64 m) ∧ w'.cell? ⟨b, 8, none⟩ = some (.bool q)) (first | assumption | exact ⟨e1, e4, f8⟩) (first | (go_at_call 162; refine (Qiq 2 m q _ (by first | exact HFA.out | exact HFA.out.drew | exact HFA.out.drew.drew | exact (HFA.out.drewN _).drew) (by first | exact .inl rfl | exact .inr (.inl rfl) | exact .inr (.inr rfl))).mono ?_; rintro e w' ⟨rfl, rfl⟩))
        go_wp2_with fail
        go_ret
        exact ⟨rfl, by first | exact HBA.out | exact HBA.out.drew | exact HBA.out.drew.drew | exact (Qab HBA.out _).drew⟩
     ·by_cases hl : l = -1
      ·by_cases hv : v = 0
       ·subst hl
        subst hv
        obtain rfl : Qf3 3 m q = r := by rw [← HOK.out]; simp [Qbm]; omega
        go_wp2_with fail
        go_quiet (fail)
        go_wp2_with fail
        go_region_held3 (fun w' => w'.cell? ⟨w.heap.size, 1, none⟩ = some (.int .i64 3) ∧ w'.cell? ⟨w.heap.size, 4, none⟩ = some (.int .i64 m) ∧ w'.cell? ⟨b, 8, none⟩ = some (.bool q)) (first | assumption | exact ⟨e1, e4, f8⟩) (first | (go_at_call 162; refine (Qiq 3 m q _ (by first | exact HFA.out | exact HFA.out.drew | exact HFA.out.drew.drew | exact (HFA.out.drewN _).drew) (by first | exact .inl rfl | exact .inr (.inl rfl) | exact .inr (.inr rfl))).mono ?_; rintro e w' ⟨rfl, rfl⟩))
        go_wp2_with fail
        go_ret
        exact ⟨rfl, by first | exact HBA.out | exact HBA.out.drew | exact HBA.out.drew.drew | exact (Qab HBA.out _).drew⟩
       ·obtain rfl : r = false := by rw [← HOK.out]; simp [Qbm]; omega
        subst hl
        have q1 : ((v : Int) != 0) = true := by simp [hv]
        go_wp2_with fail
        go_ret
        exact ⟨rfl, HBA.out⟩
      ·obtain rfl : r = false := by rw [← HOK.out]; simp [Qbm]; omega
       have q1 : ((l : Int) != -1) = true := by simp [hl]
       go_wp2_with fail
       go_ret
       exact ⟨rfl, HBA.out⟩
def Qee (L Bk : List Nat) (start : Nat) : Nat → Nat → List Nat → Prop
 | _, near, [] => near = 0
 | seen, near, x :: rest => near ≠ 0 ∧ x = near ∧ (gr L start &&& near = 0 → Qee L Bk start (seen ||| near) (Qcx (Qaj Bk (Qad near)) (seen ||| near)) rest) ∧ (gr L start &&& near ≠ 0 → rest = [])
def Qfr (l : List Nat) : List Value := l.flatMap (fun R => (rcs R).toList)
theorem Qtq (l : List Nat) (R : Nat) : Qfr (l ++ [R]) = Qfr l ++ [.int .u64 ((wd R 0 : Nat) : Int), .int .u64 ((wd R 1 : Nat) : Int), .int .u64 ((wd R 2 : Nat) : Int), .int .u64 ((wd R 3 : Nat) : Int)] := by simp [Qfr, rcs]
def cnt (n x : Nat) : Nat := (Qcq n x).length
theorem Qlc (l : List Nat) (p q : Nat → Bool) (h : ∀ x ∈ l, ¬ (p x = true ∧ q x = true)) : (l.filter (fun x => p x || q x)).length = (l.filter p).length + (l.filter q).length := by
 induction l with
 | nil => rfl
 | cons x l ih =>
  have ih := ih (fun y hy => h y (List.mem_cons_of_mem _ hy))
  have hx := h x sW
  simp only [List.filter_cons]
  cases hp : p x <;> cases hq : q x
  ·simp [ih]
  ·simp [ih]; omega
  ·simp [ih]; omega
  ·exact absurd ⟨hp, hq⟩ hx
theorem Qvr {n x y : Nat} (h : x &&& y = 0) : cnt n (x ||| y) = cnt n x + cnt n y := by
 unfold cnt Qcq
 rw [← Qlc _ _ _ (fun i _ => ?_)]
 ·congr 2
  funext i
  exact Nat.testBit_or x y i
 ·have := congrArg (fun z => z.testBit i) h
  simp at this
  rintro ⟨h1, h2⟩
  rw [this h1] at h2
  cases h2
theorem Qsg {n y : Nat} (h : y < 2 ^ n) (h0 : y ≠ 0) : 0 < cnt n y := by
 obtain ⟨i, hi⟩ := Nat.exists_testBit_of_ne_zero h0
 have hin : i < n := by
  apply Nat.lt_of_not_le
  intro hle
  rw [Qb9 h hle] at hi
  cases hi
 exact List.length_pos_of_mem (Qn4.2 ⟨hin, hi⟩)
theorem Ql8 (n x : Nat) : cnt n x ≤ n := by
 have := List.length_filter_le x.testBit (List.range n)
 simpa [cnt, Qcq] using this
theorem Qm3 (x s : Nat) : Qcx x s &&& s = 0 := by
 apply Nat.eq_of_testBit_eq
 intro i
 rw [Nat.testBit_and, Qdq, Nat.zero_testBit]
 cases x.testBit i <;> cases s.testBit i <;> rfl
theorem Qjb {x y : Nat} (h : x &&& y = 0) : y &&& x = 0 := by rw [Nat.and_comm]; exact h
theorem Qir {w : World} {b b' : Nat} {e : TypeId} {size : Nat} {v : Value} {n : Nat} {xs : List Value} (h : w.ownsRow b e size v n xs) (hb : b' ≤ b) : w.ownsRow b' e size v n xs := by
 refine ⟨h.1, ?_⟩
 rcases h.2 with h2 | ⟨g, cap, cur, h3, h4, h5⟩
 ·exact .inl h2
 ·exact .inr ⟨g, cap, cur, h3, oW, h5⟩
theorem Qvs (w : World) (a b c d : Value) (t : TypeId) : ∀ j u, [a, b, c, d][j]? = some u → (w.alloc (.cells #[a, b, c, d] t)).cell? ((⟨w.heap.size, 0, none⟩ : Addr).add j) = some u := by
 intro j u hj
 have h := Blk.new w t #[a, b, c, d]
 match j, hj with
 | 0, hj => simp at hj; subst hj; exact h.cell (j := 0) rfl
 | 1, hj => simp at hj; subst hj; exact h.cell (j := 1) rfl
 | 2, hj => simp at hj; subst hj; exact h.cell (j := 2) rfl
 | 3, hj => simp at hj; subst hj; exact h.cell (j := 3) rfl
 | j + 4, hj => simp at hj
theorem Qpw (A : List Nat) (p : Nat) (l : List Nat) : (Qed A p l).length = A.length := by
 unfold Qed
 induction l generalizing A with
 | nil => rfl
 | cons q l ih => rw [List.foldl_cons, ih, Qks]
theorem Qrc (L : List Nat) (k : Nat) : (Qf2 L k).length = L.length := by
 induction k with
 | zero => simp [Qf2]
 | succ k ih => rw [Qg5, Qpw, ih]
theorem Qny {w w' : World} {b : Nat} {e : TypeId} {size : Nat} {v : Value} {n : Nat} {xs : List Value} (h : w.ownsRow b e size v n xs) (hb : Below w.heap.size w w') : w'.ownsRow b e size v n xs := by
 refine ⟨h.1, ?_⟩
 rcases h.2 with h2 | ⟨g, cap, cur, h3, h4, h5, h6⟩
 ·exact .inl h2
 ·exact .inr ⟨g, cap, cur, h3, h4, (hb.block g (Array.getElem?_eq_some_iff.1 h5).1).trans h5, h6⟩
theorem Blk.grown {w w' : World} {b : Nat} {t : TypeId} {cs : Array Value} {row : Option Nat} (h : Blk w b t cs) (hg : w.grownBy w' row) (hne : some b ≠ row) : Blk w' b t cs := (hg.block b h.lt hne).trans h
theorem Qc6 {w : World} {base : Nat} {e : TypeId} {size : Nat} {v : Value} {n : Nat} {xs : List Value} (h : w.ownsRow base e size v n xs) {k : Nat} (hk : k < base) : some k ≠ v.ownBlock := by
 rcases h.2 with ⟨rfl, _⟩ | ⟨g, cap, cur, rfl, hg, _⟩
 ·simp [Value.ownBlock]
 ·intro e'
  simp [Value.ownBlock] at e'
  omega
theorem Qzt {w : World} {base : Nat} {e : TypeId} {size : Nat} {v : Value} {n : Nat} {xs : List Value} (h : w.ownsRow base e size v n xs) {k : Nat} (hk : v.ownBlock = some k) : base ≤ k := by
 apply Nat.le_of_not_lt
 intro hlt
 exact Qc6 h hlt hk.symm
theorem Qdf {w : World} {base : Nat} {e : TypeId} {size : Nat} {v : Value} {n : Nat} {xs : List Value} (h : w.ownsRow base e size v n xs) {a : Addr} (hne : some a.block ≠ v.ownBlock) (u : Value) : (w.setCell a u).ownsRow base e size v n xs := by
 refine ⟨h.1, ?_⟩
 rcases h.2 with h2 | ⟨g, cap, cur, rfl, h4, h5, h6⟩
 ·exact .inl h2
 ·refine .inr ⟨g, cap, cur, rfl, h4, (Below.heap_setCell _ _ _ _ ?_).trans h5, h6⟩
  intro e'
  exact hne (by simp [Value.ownBlock, e'])
structure LS (base sB b c b2 c2 : Nat) (L : List Nat) (seen near N : Nat) (v : Value) (d : List Nat) (wr : World) : Prop where
 nearB : Blk wr N 102 (rcs near)
 seenB : Blk wr sB 102 (rcs seen)
 own : wr.ownsRow base 102 4 v d.length (Qfr d)
 ne : some N ≠ v.ownBlock
 rel : IsRel wr b c L
 back : IsRel wr b2 c2 (Qb4 L)
 tab : Tab wr
 hN : base ≤ N
 low : sB < base ∧ b < base ∧ c < base ∧ b2 < base ∧ c2 < base ∧ 0 < base ∧ 0 < sB
theorem LS.step {base sB b c b2 c2 : Nat} {L : List Nat} {seen near N : Nat} {v : Value} {d : List Nat} {wr w' : World} (h : LS base sB b c b2 c2 L seen near N v d wr) (hb : Below wr.heap.size wr w') : LS base sB b c b2 c2 L seen near N v d w' :=
 ⟨h.nearB.of_below hb, h.seenB.of_below hb, Qny h.own hb, h.ne, h.rel.below hb, h.back.below hb, h.tab.step hb, h.hN, h.low⟩
theorem LS.drew {base sB b c b2 c2 : Nat} {L : List Nat} {seen near N : Nat} {v : Value} {d : List Nat} {wr : World} (h : LS base sB b c b2 c2 L seen near N v d wr) : LS base sB b c b2 c2 L seen near N v d wr.drew :=
 h.step ⟨rfl, rfl, rfl, Nat.le_refl _, fun _ _ => rfl⟩
theorem LS.alloc {base sB b c b2 c2 : Nat} {L : List Nat} {seen near N : Nat} {v : Value} {d : List Nat} {wr : World} (h : LS base sB b c b2 c2 L seen near N v d wr) (o : Obj) : LS base sB b c b2 c2 L seen near N v d (wr.alloc o) :=
 h.step (bW.alloc nW _)
theorem LS.app {base sB b c b2 c2 : Nat} {L : List Nat} {seen near N : Nat} {v v' : Value} {d : List Nat} {wr w1 : World} (h : LS base sB b c b2 c2 L seen near N v d wr)
  (hown : w1.ownsRow base 102 4 v' (d.length + 1) (Qfr d ++ [.int .u64 ((wd near 0 : Nat) : Int), .int .u64 ((wd near 1 : Nat) : Int), .int .u64 ((wd near 2 : Nat) : Int), .int .u64 ((wd near 3 : Nat) : Int)])) (hgrow : wr.grownBy w1 v.ownBlock)
  (hat : v'.ownBlock = v.ownBlock ∨ v'.ownBlock = some wr.heap.size) : LS base sB b c b2 c2 L seen near N v' (d ++ [near]) w1 := by
 obtain ⟨l1, l2, l3, l4, l5, l6, l7⟩ := h.low
 refine ⟨h.nearB.grown hgrow h.ne, h.seenB.grown hgrow (Qc6 h.own l1), ?_, ?_, ?_, ?_, ?_, h.hN, h.low⟩
 ·rw [List.length_append, Qtq]; exact hown
 ·rcases hat with e | e
  ·rw [e]; exact h.ne
  ·rw [e]; intro e'; have := h.nearB.lt; simp at e'; omega
 ·exact ⟨h.rel.ne, h.rel.head.grown hgrow (Qc6 h.own l2), h.rel.rows.grown hgrow (Qc6 h.own l3), h.rel.len, h.rel.low⟩
 ·exact ⟨h.back.ne, h.back.head.grown hgrow (Qc6 h.own l4), h.back.rows.grown hgrow (Qc6 h.own l5), h.back.len, h.back.low⟩
 ·refine h.tab.below (n := 1) ⟨hgrow.os, hgrow.tape, hgrow.output, hgrow.size, fun k hk => hgrow.block k (by have := h.tab.pos; omega) ?_⟩ oW
  obtain rfl : k = 0 := by omega
  exact Qc6 h.own l6
theorem LS.setSeen {base sB b c b2 c2 : Nat} {L : List Nat} {seen near N : Nat} {v : Value} {d : List Nat} {wr : World} (h : LS base sB b c b2 c2 L seen near N v d wr) (hd : sB ≠ b ∧ sB ≠ c ∧ sB ≠ b2 ∧ sB ≠ c2) (S : Nat) :
  LS base sB b c b2 c2 L S near N v d ((((wr.setCell ⟨sB, 0, none⟩ (.int .u64 ((wd S 0 : Nat) : Int))).setCell ⟨sB, 1, none⟩ (.int .u64 ((wd S 1 : Nat) : Int))).setCell ⟨sB, 2, none⟩ (.int .u64 ((wd S 2 : Nat) : Int))).setCell ⟨sB, 3, none⟩ (.int .u64 ((wd S 3 : Nat) : Int))) := by
 obtain ⟨l1, l2, l3, l4, l5, l6, l7⟩ := h.low
 have hn := h.hN
 exact ⟨h.nearB.otherRow oW _ _ _ _ _ _ _ _, h.seenB.setRow S, Qdf (Qdf (Qdf (Qdf h.own (Qc6 h.own l1) _) (Qc6 h.own l1) _) (Qc6 h.own l1) _) (Qc6 h.own l1) _, h.ne,
  h.rel.otherRow oW oW _ _ _ _ _ _ _ _, h.back.otherRow oW oW _ _ _ _ _ _ _ _, h.tab.below (n := 1) (Qa0 bW oW _ _ _ _ _ _ _ _) oW, h.hN, h.low⟩
theorem LS.renew {base sB b c b2 c2 : Nat} {L : List Nat} {seen near N : Nat} {v : Value} {d : List Nat} {wr : World} (h : LS base sB b c b2 c2 L seen near N v d wr) : LS base sB b c b2 c2 L seen near wr.heap.size v d (wr.alloc (.cells (rcs near) 102)) := by
 have h' := h.alloc (.cells (rcs near) 102)
 refine ⟨Blk.new _ _ _, h'.seenB, h'.own, ?_, h'.rel, h'.back, h'.tab, ?_, h.low⟩
 ·rcases h.own.2 with ⟨rfl, _⟩ | ⟨g, cap, cur, rfl, hg, hgb, _⟩
  ·simp [Value.ownBlock]
  ·intro e'
   have := (Array.getElem?_eq_some_iff.1 hgb).1
   simp [Value.ownBlock] at e'
   omega
 ·have := h.nearB.lt; have := h.hN; omega
theorem LS.setNear {base sB b c b2 c2 : Nat} {L : List Nat} {seen near N : Nat} {v : Value} {d : List Nat} {wr : World} (h : LS base sB b c b2 c2 L seen near N v d wr) (S : Nat) :
  LS base sB b c b2 c2 L seen S N v d ((((wr.setCell ⟨N, 0, none⟩ (.int .u64 ((wd S 0 : Nat) : Int))).setCell ⟨N, 1, none⟩ (.int .u64 ((wd S 1 : Nat) : Int))).setCell ⟨N, 2, none⟩ (.int .u64 ((wd S 2 : Nat) : Int))).setCell ⟨N, 3, none⟩ (.int .u64 ((wd S 3 : Nat) : Int))) := by
 obtain ⟨l1, l2, l3, l4, l5, l6, l7⟩ := h.low
 have hn := h.hN
 exact ⟨h.nearB.setRow S, h.seenB.otherRow oW _ _ _ _ _ _ _ _, Qdf (Qdf (Qdf (Qdf h.own h.ne _) h.ne _) h.ne _) h.ne _, h.ne,
  h.rel.otherRow oW oW _ _ _ _ _ _ _ _, h.back.otherRow oW oW _ _ _ _ _ _ _ _, h.tab.below (n := 1) (Qa0 bW oW _ _ _ _ _ _ _ _) oW, h.hN, h.low⟩
theorem Qpx (b c : Nat) (L : List Nat) (start : Nat) (w : World) (h : IsRel w b c L) (hT : Tab w) (hst : start < L.length) :
  Calls Tryz.prog 171 #[pv b, .int .i64 start] w fun e w' => ∃ v out, e = .returned v ∧ w'.ownsRow w.heap.size 102 4 v out.length (Qfr out) ∧ Qee L (Qb4 L) start 0 (Qat 0 start true) out ∧ out.length ≤ 256 ∧ Below w.heap.size w w' := by
 have hl := h.len
 obtain ⟨i0, hi, hz0, hz1, hz2⟩ := info_parts Tryz.inforow
 go_enter Tryz.func171, Tryz.ntmps171
 go_wp2_with fail
 refine (Qja b c L _ h hT).mono ?_
 rintro e w1 ⟨b2, c2, rfl, hM⟩
 go_wp2_with fail
 refine (Qgf 0 start true oW _).mono ?_
 rintro e w2 ⟨rfl, hB2⟩
 have hs1 : w1.heap.size + 1 ≤ w2.heap.size := by have := hB2.size; simpa using this
 have hw2 : Below w.heap.size w w2 := (hM.below.alloc hM.below.size _).trans (hB2.mono (by have := hM.below.size; simp; omega))
 have hsm := hM.below.size
 have hpos := hT.pos
 have hlt : b < w.heap.size ∧ c < w.heap.size := ⟨h.head.lt, h.rows.lt⟩
 have hlt2 : b2 < w1.heap.size ∧ c2 < w1.heap.size := ⟨hM.rel.head.lt, hM.rel.rows.lt⟩
 have hls : LS w2.heap.size w1.heap.size b c b2 c2 L 0 (Qat 0 start true) w2.heap.size (.slice none 0 0) [] (w2.alloc (.cells (rcs (Qat 0 start true)) 102)) := by
  refine ⟨Blk.new _ _ _, ?_, World.ownsRow_nil _ _ _ _, by simp [Value.ownBlock], (h.below hw2).alloc _, ?_, (hT.step hw2).alloc _, Nat.le_refl _, oW⟩
  ·rw [Qd4]; exact ((Blk.new w1 _ _).of_below hB2).alloc _
  ·exact ((hM.rel.alloc _).below hB2).alloc _
 have HLow : Hid (Qat 0 start true < 2 ^ L.length) := Qsx (Nat.two_pow_pos _) hst
 have HI : Hid (∀ R ∈ Qb4 L, R < 2 ^ L.length) := fun R hR => by have := hM.rel.low R hR; rwa [show (Qb4 L).length = L.length from Qrc L L.length] at this
 clear hM hB2
 go_wp2_with fail
 go_loopg [7, 8] (L.length) (fun k v7 v8 wr => ∃ (seen near N : Nat) (d : List Nat), v8 = pv N ∧ LS w2.heap.size w1.heap.size b c b2 c2 L seen near N v7 d wr ∧ Below w.heap.size w wr ∧ Hid (near < 2 ^ L.length ∧ seen < 2 ^ L.length ∧ near &&& seen = 0 ∧ d.length ≤ cnt L.length seen ∧ cnt L.length seen + k = L.length ∧ ∀ rest, Qee L (Qb4 L) start seen near rest → Qee L (Qb4 L) start 0 (Qat 0 start true) (d ++ rest)))
 case atStart =>
  refine ⟨0, Qat 0 start true, w2.heap.size, [], rfl, hls, hw2.alloc hw2.size _, HLow.out, Nat.two_pow_pos _, by simp, by simp, ?_, fun rest hr => hr⟩
  simp [cnt, Qm]
 case round =>
  clear hls
  obtain ⟨seen, near, N, d, rfl, hls, hB, HC⟩ := hrel
  obtain ⟨⟨n0, n1, n2, n3⟩, _, n5⟩ := hls.nearB.row
  have Hnl : Hid (near < 2 ^ 256) := Nat.lt_of_lt_of_le HC.out.1 (Nat.pow_le_pow_right oW hl)
  go_wp2_with fail
  refine (Qkr near Hnl _).mono ?_
  rintro e w3 ⟨rfl, hB3⟩
  have hls3 := hls.step hB3
  have hBw3 := Qaa hB hB.size hB3
  clear n0 n1 n2 n3 n5 hls hB3
  cases hz : (near == 0)
  ·have Hz : Hid (near ≠ 0) := by intro e; rw [e] at hz; cases hz
   clear hz
   have hdl : d.length ≤ 256 := by have := HC.out.2.2.2.1; have := Ql8 L.length seen; omega
   obtain ⟨⟨n0, n1, n2, n3⟩, _, n5⟩ := hls3.nearB.row
   have ho := hls3.own
   go_wp2_with (at_builtin; refine wpList_append_own_at _ rfl _ _ 97 rfl w2.heap.size 102 i0 (.agg #[.int .u64 0, .int .u64 0, .int .u64 0, .int .u64 0]) 4 32 Tryz.underlying97 hi hz0 hz1 hz2 rfl dW u7 _ _ rfl (ho.alloc _) ⟨w3.heap.size, 0, none⟩ 1 1 [.int .u64 ((wd near 0 : Nat) : Int), .int .u64 ((wd near 1 : Nat) : Int), .int .u64 ((wd near 2 : Nat) : Int), .int .u64 ((wd near 3 : Nat) : Int)] rfl rfl (Qvs _ _ _ _ _ _) (by simp [Value.oneCell']) (by unfold maxLen; omega) oW (by have := hls3.nearB.lt; have := hls3.hN; simp; omega) ?_; intro v' w4 hown' hgrow _ hat)
   have hls4 := (hls3.alloc _).app hown' hgrow hat
   have hBw4 : Below w.heap.size w w4 := (hBw3.alloc hBw3.size _).grown hgrow (by have := hBw3.size; simp; omega) (fun k e => by have := Qzt ho e; omega)
   clear n0 n1 n2 n3 n5 ho hown' hgrow hat hls3 hBw3 hB
   obtain ⟨y, ⟨y0, y1, y2, y3⟩, _, q1, q2⟩ := hls4.rel.slots (Qbf hst)
   obtain ⟨⟨n0, n1, n2, n3⟩, _, n5⟩ := hls4.nearB.row
   have Hand : Hid (gr L start &&& near < 2 ^ 256) := Qq0 (Nat.lt_of_lt_of_le (h.gr_lt start) (Nat.pow_le_pow_right oW hl))
   go_region_held3 (fun w' => w'.cell? ⟨b, 0, none⟩ = some (.slice (some ⟨c, 0, none⟩) L.length L.length) ∧ w'.cell? ⟨c, start * 4, none⟩ = some (.int .u64 ((wd (gr L start) 0 : Nat) : Int)) ∧ w'.cell? ⟨c, start * 4 + 1, none⟩ = some (.int .u64 ((wd (gr L start) 1 : Nat) : Int)) ∧ w'.cell? ⟨c, start * 4 + 2, none⟩ = some (.int .u64 ((wd (gr L start) 2 : Nat) : Int)) ∧ w'.cell? ⟨c, start * 4 + 3, none⟩ = some (.int .u64 ((wd (gr L start) 3 : Nat) : Int)) ∧ w'.cell? ⟨N, 0, none⟩ = some (.int .u64 ((wd near 0 : Nat) : Int)) ∧ w'.cell? ⟨N, 1, none⟩ = some (.int .u64 ((wd near 1 : Nat) : Int)) ∧ w'.cell? ⟨N, 2, none⟩ = some (.int .u64 ((wd near 2 : Nat) : Int)) ∧ w'.cell? ⟨N, 3, none⟩ = some (.int .u64 ((wd near 3 : Nat) : Int))) (go_keep)
    (first | (go_at_call 157; refine (Qiv (gr L start) near _).mono ?_; rintro e w5 ⟨rfl, hB5⟩; have hls5 := hls4.drew.step hB5; clear y y0 y1 y2 y3 n0 n1 n2 n3; obtain ⟨y, ⟨y0, y1, y2, y3⟩, _, q3, q4⟩ := hls5.rel.slots (Qbf hst); obtain ⟨⟨n0, n1, n2, n3⟩, _, n6⟩ := hls5.nearB.row) | (go_at_call 112; refine (Qkr (gr L start &&& near) Hand _).mono ?_; rintro e w6 ⟨rfl, hB6⟩; have hls6 := hls5.step hB6; clear y y0 y1 y2 y3 n0 n1 n2 n3; obtain ⟨y, ⟨y0, y1, y2, y3⟩, _, q5, q6⟩ := hls6.rel.slots (Qbf hst); obtain ⟨⟨n0, n1, n2, n3⟩, _, n7⟩ := hls6.nearB.row))
   have hBw6 : Below w.heap.size w w6 := Qaa (Qaa hBw4 hBw4.size (Qbz hB5)) (Nat.le_trans hBw4.size hB5.size) hB6
   clear hB5 hB6 hls4 hls5 hBw4 y y0 y1 y2 y3 q1 q2 q3 q4 n6 n5
   cases hh : (gr L start &&& near == 0)
   ·have Hh : Hid (gr L start &&& near ≠ 0) := by intro e; rw [e] at hh; cases hh
    go_wp2_with fail
    go_ret
    refine ⟨v', d ++ [near], rfl, Qir hls6.own oW, HC.out.2.2.2.2.2 [near] ⟨Hz.out, rfl, fun e => absurd e Hh.out, fun _ => rfl⟩, ?_, hBw6⟩
    have h1 := HC.out.2.2.2.1
    have h2 := Ql8 L.length (seen ||| near)
    rw [Qvr (Qjb HC.out.2.2.1)] at h2
    have h3 := Qsg HC.out.1 Hz.out
    simp; omega
   ·have Hh : Hid (gr L start &&& near = 0) := eq_of_beq hh
    obtain ⟨⟨s0, s1, s2, s3⟩, _, s5⟩ := hls6.seenB.row
    go_wp2_with fail
    refine (Qe8 seen near _ _ (by rw [Qh9]; exact Blk.new _ _ _)).mono ?_
    rintro e w7 ⟨rfl, hB7⟩
    have hls7 := (hls6.alloc _).step hB7
    have hBw7 : Below w.heap.size w w7 := Qaa (hBw6.alloc hBw6.size _) (by have := hBw6.size; simp; omega) hB7
    clear hB7 hls6 hBw6 n0 n1 n2 n3 n7 s0 s1 s2 s3 s5 q5 q6
    obtain ⟨⟨n0, n1, n2, n3⟩, _, n5⟩ := hls7.nearB.row
    obtain ⟨⟨s0, s1, s2, s3⟩, ⟨f0, f1, f2, f3⟩, s5⟩ := hls7.seenB.row
    have hNs : N ≠ w1.heap.size := by have := hls7.hN; omega
    go_wp2_with fail
    have hsz : ((((w7.setCell ⟨w1.heap.size, 0, none⟩ (.int .u64 ((wd (seen ||| near) 0 : Nat) : Int))).setCell ⟨w1.heap.size, 1, none⟩ (.int .u64 ((wd (seen ||| near) 1 : Nat) : Int))).setCell ⟨w1.heap.size, 2, none⟩ (.int .u64 ((wd (seen ||| near) 2 : Nat) : Int))).setCell ⟨w1.heap.size, 3, none⟩ (.int .u64 ((wd (seen ||| near) 3 : Nat) : Int))).heap.size = w7.heap.size := by simp [World.setCell]
    have hls8 := (hls7.setSeen oW (seen ||| near)).renew
    rw [hsz] at hls8
    obtain ⟨X, hX⟩ : ∃ X, ((((w7.setCell ⟨w1.heap.size, 0, none⟩ (.int .u64 ((wd (seen ||| near) 0 : Nat) : Int))).setCell ⟨w1.heap.size, 1, none⟩ (.int .u64 ((wd (seen ||| near) 1 : Nat) : Int))).setCell ⟨w1.heap.size, 2, none⟩ (.int .u64 ((wd (seen ||| near) 2 : Nat) : Int))).setCell ⟨w1.heap.size, 3, none⟩ (.int .u64 ((wd (seen ||| near) 3 : Nat) : Int))).alloc (.cells #[.int .u64 ((wd near 0 : Nat) : Int), .int .u64 ((wd near 1 : Nat) : Int), .int .u64 ((wd near 2 : Nat) : Int), .int .u64 ((wd near 3 : Nat) : Int)] 102) = X := ⟨_, rfl⟩
    have hls9 : LS w2.heap.size w1.heap.size b c b2 c2 L (seen ||| near) near w7.heap.size v' (d ++ [near]) X := by rw [← hX]; exact hls8
    have hBX : Below w.heap.size w X := by rw [← hX]; exact (Qa0 hBw7 oW _ _ _ _ _ _ _ _).alloc (by rw [hsz]; exact hBw7.size) _
    rw [hX]
    clear hX hls8 hsz hls7 hBw7 n0 n1 n2 n3 n5 s0 s1 s2 s3 s5 f0 f1 f2 f3
    obtain ⟨⟨n0, n1, n2, n3⟩, _, n5⟩ := hls9.nearB.row
    obtain ⟨⟨s0, s1, s2, s3⟩, _, s5⟩ := hls9.seenB.row
    go_region_with (first | (go_at_call 154; refine (Qin b2 c2 (Qb4 L) near _ hls9.drew.back hls9.drew.tab).mono ?_; rintro e w8 ⟨rfl, hB8⟩; have hlsA := hls9.drew.step hB8; clear n0 n1 n2 n3 s0 s1 s2 s3; obtain ⟨⟨s0, s1, s2, s3⟩, _, s6⟩ := hlsA.seenB.row) | (go_at_call 156; refine (Qjd (Qaj (Qb4 L) (Qad near)) (seen ||| near) _).mono ?_; rintro e w9 ⟨rfl, hB9⟩; have hlsB := hlsA.step hB9; clear s0 s1 s2 s3; obtain ⟨⟨n0, n1, n2, n3⟩, ⟨f0, f1, f2, f3⟩, n6⟩ := hlsB.nearB.row))
    all_goals
     go_wp2_with fail
     have hBw9 : Below w.heap.size w w9 := Qaa (Qaa hBX hBX.size (Qbz hB8)) (Nat.le_trans hBX.size hB8.size) hB9
     have hc1 := HC.out.2.2.2.1
     have hc2 := HC.out.2.2.2.2.1
     have hc3 := Qsg HC.out.1 Hz.out
     have hc4 := Qvr (n := L.length) (Qjb HC.out.2.2.1)
     have hc5 := Ql8 L.length (seen ||| near)
     go_roundg (L.length - cnt L.length (seen ||| near))
     case measure => omega
     case rel =>
      refine ⟨seen ||| near, Qcx (Qaj (Qb4 L) (Qad near)) (seen ||| near), w7.heap.size, d ++ [near], rfl, hlsB.setNear _, Qa0 hBw9 ?_ _ _ _ _ _ _ _ _, Qq1 (Qhn HI.out _), Qo7 HC.out.2.1 HC.out.1, Qm3 _ _, by simp; omega, oW, fun rest hr => ?_⟩
      ·have := hls9.hN; have := hw2.size; omega
      ·have := HC.out.2.2.2.2.2 (near :: rest) ⟨Hz.out, rfl, fun _ => hr, fun e => absurd Hh.out e⟩
       simpa using this
  ·have Hz : Hid (near = 0) := eq_of_beq hz
   go_wp2_with fail
   go_ret
   refine ⟨u7, d, rfl, Qir hls3.own oW, ?_, by have := HC.out.2.2.2.1; have := Ql8 L.length seen; omega, hBw3⟩
   have := HC.out.2.2.2.2.2 [] Hz.out
   rwa [List.append_nil] at this
attribute [local go_sem] Oper.semAt_some
def Qcl (L : List Nat) : Nat → List Nat → List Nat
 | _, [] => []
 | last, X :: rest => match Qad (gr L last &&& X) with
  | [] => Qcl L last rest
  | q :: _ => q :: Qcl L q rest
def Qb5 (ly : List Nat) (i : Nat) : List Nat := ((ly.take (i + 1)).drop 1).reverse
theorem Qvt (ly : List Nat) : Qb5 ly 0 = [] := by simp [Qb5]
theorem Qvu {ly : List Nat} {i : Nat} (h : i + 1 < ly.length) : Qb5 ly (i + 1) = gr ly (i + 1) :: Qb5 ly i := by
 unfold Qb5
 rw [List.take_add_one (i := i + 1), Qbf h]
 rw [List.drop_append_of_le_length (by simp; omega)]
 simp
theorem Qxu (n : Nat) (b c : Nat) (L : List Nat) (start : Nat) (w : World) (h : IsRel w b c L) (hT : Tab w) (hst : start < L.length) :
  CallsIn Fence.wide n Tryz.prog 171 #[pv b, .int .i64 start] w fun e w' => ∃ v out, e = .returned v ∧ w'.ownsRow w.heap.size 102 4 v out.length (Qfr out) ∧ Qee L (Qb4 L) start 0 (Qat 0 start true) out ∧ out.length ≤ 256 ∧ Below w.heap.size w w' := callsIn_wide.2 (Qpx b c L start w h hT hst)
theorem Tryz.infointC : (Tryz.prog.info? 3).map (fun i => (i.zero, i.size, i.bytes)) = some (some (.int .i64 0), 1, 8) := by kernel_rfl
def Qc7 (l : List Nat) : List Value := l.map (fun x => .int .i64 ((x : Nat) : Int))
theorem Qvv (l : List Nat) (x : Nat) : Qc7 (l ++ [x]) = Qc7 l ++ [.int .i64 ((x : Nat) : Int)] := by simp [Qc7]
theorem Qxv (R : Nat) (w : World) :
  Calls Tryz.prog 72 #[rv R] w fun e w' => e = .returned (.func (.func 114) #[] #[.pointer (some ⟨w.heap.size, 0, none⟩)]) ∧ w' = w.alloc (.cells (rcs R) 102) := (callsIn_wide (n := 1)).1 (Qdz Fence.wide 1 trivial rfl R w)
structure RowsIn (w : World) (g : Nat) (ly : List Nat) : Prop where
 ex : ∃ cur, Blk w g 102 cur ∧ cur.toList.take (ly.length * 4) = Qfr ly
theorem RowsIn.lt {w : World} {g : Nat} {ly : List Nat} (h : RowsIn w g ly) : g < w.heap.size := by obtain ⟨cur, hb, _⟩ := h.ex; exact hb.lt
theorem RowsIn.below {w w' : World} {g n : Nat} {ly : List Nat} (h : RowsIn w g ly) (hb : Below n w w') (hn : g < n) : RowsIn w' g ly := by
 obtain ⟨cur, hk, e⟩ := h.ex
 exact ⟨cur, hk.below hb hn, e⟩
theorem RowsIn.grown {w w' : World} {g : Nat} {ly : List Nat} {row : Option Nat} (h : RowsIn w g ly) (hg : w.grownBy w' row) (hne : some g ≠ row) : RowsIn w' g ly := by
 obtain ⟨cur, hk, e⟩ := h.ex
 exact ⟨cur, hk.grown hg hne, e⟩
theorem RowsIn.other {w : World} {g : Nat} {ly : List Nat} (h : RowsIn w g ly) {a : Addr} (hne : g ≠ a.block) (v : Value) : RowsIn (w.setCell a v) g ly := by
 obtain ⟨cur, hk, e⟩ := h.ex
 exact ⟨cur, hk.setOther hne v, e⟩
theorem RowsIn.cells {w : World} {g : Nat} {ly : List Nat} (h : RowsIn w g ly) {i : Nat} (hi : i < ly.length) :
  w.cell? ⟨g, i * 4, none⟩ = some (.int .u64 ((wd (gr ly i) 0 : Nat) : Int)) ∧ w.cell? ⟨g, i * 4 + 1, none⟩ = some (.int .u64 ((wd (gr ly i) 1 : Nat) : Int)) ∧ w.cell? ⟨g, i * 4 + 2, none⟩ = some (.int .u64 ((wd (gr ly i) 2 : Nat) : Int)) ∧ w.cell? ⟨g, i * 4 + 3, none⟩ = some (.int .u64 ((wd (gr ly i) 3 : Nat) : Int)) := by
 obtain ⟨cur, hk, e⟩ := h.ex
 have key : ∀ j, j < 4 → cur[i * 4 + j]? = some (.int .u64 ((wd (gr ly i) j : Nat) : Int)) := by
  intro j hj
  have h1 := Qln ly i j (gr ly i) hj (Qbf hi)
  rw [show ly.flatMap (fun R => (rcs R).toList) = Qfr ly from rfl, ← e, List.getElem?_take_of_lt oW, Nat.mul_comm 4 i] at h1
  simpa using h1
 exact ⟨hk.cell (key 0 oW), hk.cell (key 1 oW), hk.cell (key 2 oW), hk.cell (key 3 oW)⟩
theorem Qvw {w : World} {base g cap n : Nat} {ly : List Nat} (h : w.ownsRow base 102 4 (.slice (some ⟨g, 0, none⟩) n cap) n (Qfr ly)) (hn : ly.length = n) : RowsIn w g ly ∧ base ≤ g := by
 rcases h.2 with ⟨e, _⟩ | ⟨g', cap', cur, e, h4, h5, _, _, _, h6⟩
 ·cases e
 ·cases e
  rw [← hn] at h6
  exact ⟨⟨cur, h5, h6⟩, h4⟩
theorem Qnz {w : World} {base : Nat} {v : Value} {o : List Nat} {x : Nat} (h : w.ownsRow base 3 1 v (o.length + 1) (Qc7 (o ++ [x]))) : ∃ og cap, v = .slice (some ⟨og, 0, none⟩) (o.length + 1) cap ∧ base ≤ og ∧ og < w.heap.size ∧ w.cell? ⟨og, o.length, none⟩ = some (.int .i64 ((x : Nat) : Int)) := by
 rcases h.2 with ⟨_, e⟩ | ⟨g, cap, cur, rfl, h4, h5, _, _, _, h6⟩
 ·omega
 ·refine ⟨g, cap, rfl, h4, (Array.getElem?_eq_some_iff.1 h5).1, ?_⟩
  have hk : Blk w g 3 cur := h5
  apply hk.cell
  have : (Qc7 (o ++ [x]))[o.length]? = some (.int .i64 (x : Int)) := by simp [Qc7]
  rw [← h6, List.getElem?_take_of_lt oW] at this
  simpa using this
theorem Qpy (b c : Nat) (L : List Nat) (start : Nat) (w : World) (h : IsRel w b c L) (hT : Tab w) (hst : start < L.length) :
  CallsIn Fence.wide 6 Tryz.prog 158 #[pv b, .int .i64 start] w fun e w' => ∃ v ly, e = .returned v ∧ Qee L (Qb4 L) start 0 (Qat 0 start true) ly ∧ w'.ownsRow w.heap.size 3 1 v (start :: Qcl L start (Qb5 ly (ly.length - 1))).length (Qc7 (start :: Qcl L start (Qb5 ly (ly.length - 1)))) ∧ Below w.heap.size w w' := by
 have hl := h.len
 refine callsIn_of_wp_marks Tryz.func158 rfl trivial ?_ rfl
 simp only [Tryz.ntmps158, List.size_toArray, List.length_cons, List.length_nil, Nat.reduceAdd, Nat.reduceSub, Array.replicate_succ, Array.replicate_zero, List.push_toArray, List.append_toArray, List.nil_append, List.cons_append]
 gi_wp2_with fail
 refine ⟨trivial, ?_⟩
 refine (Qxu _ b c L start _ ((h.alloc _).alloc _) ((hT.alloc _).alloc _) hst).mono ?_
 rintro e w1 ⟨v, ly, rfl, hown, hly, hlen, hB1⟩
 obtain ⟨m, hm⟩ : ∃ m, ly.length = m + 1 := by
  cases ly with
  | nil => exact absurd hly (by simp [Qee, Qat])
  | cons x r => exact ⟨r.length, rfl⟩
 rw [hm] at hown
 obtain ⟨g, cap, rfl⟩ := ownsRow_succ hown
 have hszz : ((w.alloc (Obj.cells #[Value.int IntKind.i64 ↑start] 3)).alloc (Obj.cells #[Value.slice (some ⟨w.heap.size, 0, none⟩) 1 1] 36)).heap.size = w.heap.size + 2 := by simp
 obtain ⟨hrows, hgb⟩ := Qvw hown hm
 rw [hszz] at hgb
 have hBw1 : Below w.heap.size w w1 := (((Below.refl _ w).alloc nW _).alloc sW _).trans (hB1.mono (by rw [hszz]; omega))
 have hbx1 : Boxed w1 (w.heap.size + 1) 36 (.slice (some ⟨w.heap.size, 0, none⟩) 1 1) := (Blk.new2 w _ _ _).of_below hB1
 have how1 : w1.ownsRow w.heap.size 3 1 (.slice (some ⟨w.heap.size, 0, none⟩) 1 1) 1 (Qc7 [start]) := by
  refine ⟨rfl, .inr ⟨w.heap.size, 1, #[.int .i64 ((start : Nat) : Int)], rfl, Nat.le_refl _, ((Blk.new w _ _).alloc _).of_below hB1, Nat.le_refl _, by unfold maxLen; omega, rfl, rfl⟩⟩
 obtain ⟨i0, hi, hz0, hz1, hz2⟩ := info_parts Tryz.infointC
 have Hm : Hid (ly.length = m + 1) := hm
 have hm256 : m + 1 ≤ 256 := by omega
 clear hm hlen
 gi_wp2_with fail
 clear hown hB1 hszz
 refine wpIn_loop (fun a wr => ∃ (i : Nat) (Ds : List Nat) (o : List Nat) (lst : Nat) (u8 u17 u18 u19 u20 u21 u22 u23 u24 u25 u26 u27 u28 u29 u30 u31 u32 u33 u34 u35 u36 u37 u38 u39 u40 u41 u42 u43 : Value), (i ≤ m ∧ lst < L.length ∧ o.length + i ≤ m ∧ Hid (start :: Qcl L start (Qb5 ly m) = (o ++ [lst]) ++ Qcl L lst (Qb5 ly i)) ∧ (∃ v, Boxed wr (w.heap.size + 1) 36 v ∧ wr.ownsRow w.heap.size 3 1 v (o.length + 1) (Qc7 (o ++ [lst]))) ∧ RowsIn wr g ly ∧ Below w.heap.size w wr ∧ Marks w.heap.size wr Ds) ∧ a = { tmps := #[pv b, .int .i64 start, undef, undef, .slice none 0 0, pv (w.heap.size + 1), .slice (some ⟨g, 0, none⟩) (m + 1) cap, .int .i64 i, u8, .int .i64 start, .slice (some ⟨w.heap.size, 0, none⟩) 1 1, pv b, .int .i64 start, .slice (some ⟨g, 0, none⟩) (m + 1) cap, .slice (some ⟨g, 0, none⟩) (m + 1) cap, .int .i64 (m + 1), .int .i64 m, u17, u18, u19, u20, u21, u22, u23, u24, u25, u26, u27, u28, u29, u30, u31, u32, u33, u34, u35, u36, u37, u38, u39, u40, u41, u42, u43, undef], defers := Ds.map Qtk })
  (fun a _ => (intOf (a.tmps.getD 7 undef)).toNat) ?start ?round
 case start =>
  exact ⟨m, [], [], start, _, _, _, _, _, _, _, _, _, _, _, _, _, _, _, _, _, _, _, _, _, _, _, _, _, _, _, _, ⟨oW, hst, by simp, rfl, ⟨_, hbx1, how1⟩, hrows, hBw1, Marks.nil _ _⟩, rfl⟩
 case round =>
  clear hbx1 how1 hrows
  rintro _ wr ⟨i, Ds, o, lst, u8, u17, u18, u19, u20, u21, u22, u23, u24, u25, u26, u27, u28, u29, u30, u31, u32, u33, u34, u35, u36, u37, u38, u39, u40, u41, u42, u43, ⟨him, hlst, hol, HC, ⟨v, hv, hrow⟩, hrw, hB, hD⟩, rfl⟩
  obtain ⟨og, ocap, rfl, hog, hogl, hlc⟩ := Qnz hrow
  by_cases hpos : 0 < i
  ·have hro := h.below hB
   obtain ⟨y, ⟨y0, y1, y2, y3⟩, _, q1, q2⟩ := hro.slots (Qbf hlst)
   obtain ⟨x0, x1, x2, x3⟩ := hrw.cells (i := i) (by rw [Hm.out]; omega)
   have k0 := hv.cell
   have q3 := hv.lt
   have q4 := hrw.lt
   have hd : decide ((0 : Int) < (i : Int)) = true := decide_eq_true oW
   have him2 : i < m + 1 := by omega
   have hi1 : (0 : Int) ≤ (i : Int) := by omega
   have hi2 : (i : Int) < (m : Int) + 1 := by omega
   have ho1 : (0 : Int) ≤ (o.length : Int) := by omega
   have ho2 : (o.length : Int) ≤ 256 := by omega
   have ho3 : (o.length : Int) < (o.length : Int) + 1 := by omega
   have hw2 : IntKind.i64.wrap (o.length : Int) = (o.length : Int) := by rw [IntKind.wrap_i64]; omega
   have ho4 : ¬ ((o.length : Int) + 1 ≤ (o.length : Int)) := by omega
   have ho5 : ¬ ((o.length : Int) < 0) := by omega
   have ho6 : o.length < o.length + 1 := by omega
   gi_wp2_with fail
   refine wpIn_wide.2 ?_
   go_region_held3 (fun w' => w'.cell? ⟨b, 0, none⟩ = some (.slice (some ⟨c, 0, none⟩) L.length L.length) ∧ w'.cell? ⟨w.heap.size + 1, 0, none⟩ = some (.slice (some ⟨og, 0, none⟩) (o.length + 1) ocap) ∧ w'.cell? ⟨og, o.length, none⟩ = some (.int .i64 ((lst : Nat) : Int)) ∧ w'.cell? ⟨c, lst * 4, none⟩ = some (.int .u64 ((wd (gr L lst) 0 : Nat) : Int)) ∧ w'.cell? ⟨c, lst * 4 + 1, none⟩ = some (.int .u64 ((wd (gr L lst) 1 : Nat) : Int)) ∧ w'.cell? ⟨c, lst * 4 + 2, none⟩ = some (.int .u64 ((wd (gr L lst) 2 : Nat) : Int)) ∧ w'.cell? ⟨c, lst * 4 + 3, none⟩ = some (.int .u64 ((wd (gr L lst) 3 : Nat) : Int)) ∧ w'.cell? ⟨g, i * 4, none⟩ = some (.int .u64 ((wd (gr ly i) 0 : Nat) : Int)) ∧ w'.cell? ⟨g, i * 4 + 1, none⟩ = some (.int .u64 ((wd (gr ly i) 1 : Nat) : Int)) ∧ w'.cell? ⟨g, i * 4 + 2, none⟩ = some (.int .u64 ((wd (gr ly i) 2 : Nat) : Int)) ∧ w'.cell? ⟨g, i * 4 + 3, none⟩ = some (.int .u64 ((wd (gr ly i) 3 : Nat) : Int))) (go_keep)
    (first | (go_at_call 157; refine (Qiv (gr L lst) (gr ly i) _).mono ?_; rintro e w2 ⟨rfl, hB2⟩; have hB2' := Qbz hB2; clear y y0 y1 y2 y3 x0 x1 x2 x3 k0 hlc; have hv2 : Boxed w2 (w.heap.size + 1) 36 (.slice (some ⟨og, 0, none⟩) (o.length + 1) ocap) := (hB2'.block _ q3).trans hv; have hrow2 := Qny hrow hB2'; obtain ⟨og', ocap', eog, _, hogl2, hlc⟩ := Qnz hrow2; cases eog; obtain ⟨y, ⟨y0, y1, y2, y3⟩, _, q5, q6⟩ := (hro.below hB2').slots (Qbf hlst); have hrw2 := hrw.below hB2' q4; obtain ⟨x0, x1, x2, x3⟩ := hrw2.cells (i := i) (by rw [Hm.out]; omega); have k0 := hv2.cell; have q7 := hv2.lt; have q8 := hrw2.lt) | (go_at_call 72; refine (Qxv (gr L lst &&& gr ly i) _).mono ?_; rintro e w' ⟨rfl, rfl⟩))
   have hBw2 : Below w.heap.size w w2 := Qaa hB hB.size hB2'
   have hT2 := hT.step hBw2
   have hD2 := hD.keeps (Qfh hB2')
   have hDlt := hD2.lt
   have hs2 := hBw2.size
   have htp := hT.pos
   have HB : Hid (∃ j, i = j + 1 ∧ Qcl L lst (Qb5 ly i) = (match Qad (gr L lst &&& gr ly i) with | [] => Qcl L lst (Qb5 ly j) | q :: _ => q :: Qcl L q (Qb5 ly j))) := by
    obtain ⟨j, rfl⟩ : ∃ j, i = j + 1 := ⟨i - 1, oW⟩
    refine ⟨j, rfl, ?_⟩
    rw [Qvu (by rw [Hm.out]; omega)]
    rfl
   have HML : Hid (∀ q, q ∈ Qad (gr L lst &&& gr ly i) → q < L.length) := by
    intro q hq
    have h1 := (Qbk.1 hq).2
    apply Nat.lt_of_not_le
    intro hle
    rw [Qb9 (Qq0 (hro.gr_lt lst)) hle] at h1
    cases h1
   generalize hMM : gr L lst &&& gr ly i = M at *
   clear y y0 y1 y2 y3 x0 x1 x2 x3 k0 hlc hi1 hi2 ho1 ho2 ho3 ho4 ho5 ho6 hw2 hMM hv hrow hrw hB hD hB2 hB2' hro q1 q2 q3 q4 q5 q6
   gi_wp2
   refine wpIn_rangeFunc_ownF rfl oW (gf := 114) (lb := #[.pointer (some ⟨w2.heap.size, 0, none⟩)]) rfl trivial (enters_of Tryz.func114 kW rfl)
    (Qcj M w2.heap.size (6 - 1) oW _ ?hB ?hT) belowK_t (belowK_b sW) bW (fun _ => rfl)
    (fun pre W => w2.heap.size + 1 ≤ W.heap.size ∧ pre = [] ∧ Boxed W (w.heap.size + 1) 36 (.slice (some ⟨og, 0, none⟩) (o.length + 1) ocap) ∧ W.ownsRow w.heap.size 3 1 (.slice (some ⟨og, 0, none⟩) (o.length + 1) ocap) (o.length + 1) (Qc7 (o ++ [lst])) ∧ RowsIn W g ly ∧ Tab W ∧ Marks w.heap.size W Ds ∧ Below w.heap.size w W)
    (fun cd pre W => w2.heap.size + 1 ≤ W.heap.size ∧ cd = .exit 2 ∧ ∃ q v, Qbg pre = [q] ∧ q ∈ Qad M ∧ Boxed W (w.heap.size + 1) 36 v ∧ W.ownsRow w.heap.size 3 1 v ((o ++ [lst]).length + 1) (Qc7 ((o ++ [lst]) ++ [q])) ∧ RowsIn W g ly ∧ Tab W ∧ Marks w.heap.size W Ds ∧ Below w.heap.size w W)
    ?hI ?hIx ?h0
    (fun x => { tmps := #[pv b, .int .i64 start, undef, undef, .slice none 0 0, pv (w.heap.size + 1), .slice (some ⟨g, 0, none⟩) (m + 1) cap, .int .i64 i, .int .i64 (x.1 : Int), .int .i64 start, .slice (some ⟨w.heap.size, 0, none⟩) 1 1, pv b, .int .i64 start, .slice (some ⟨g, 0, none⟩) (m + 1) cap, .slice (some ⟨g, 0, none⟩) (m + 1) cap, .int .i64 (m + 1), .int .i64 m, .int .i64 i, .bool true, u19, u20, pv b, pv b, pv b, .slice (some ⟨c, 0, none⟩) L.length L.length, .slice (some ⟨og, 0, none⟩) (o.length + 1) ocap, .slice (some ⟨og, 0, none⟩) (o.length + 1) ocap, .int .i64 (o.length + 1), .int .i64 o.length, .pointer (some ⟨og, o.length, none⟩), .int .i64 lst, .pointer (some ⟨c, lst * 4, none⟩), rv (gr L lst), .slice (some ⟨g, 0, none⟩) (m + 1) cap, .int .i64 i, .pointer (some ⟨g, i * 4, none⟩), rv (gr ly i), rv M, .func (.func 114) #[] #[.pointer (some ⟨w2.heap.size, 0, none⟩)], .int .i64 (x.1 : Int), u40, u41, u42, u43, undef], defers := [] }) ?assign ?body ?done ?stop
   case hB => exact Blk.new _ _ _
   case hT => exact hT2.alloc _
   case hI =>
    refine Qd7 (fun s W hi => by simpa using hi.1) ?_
    rintro s W W' ⟨h1, h2, h3, h4, h5, h6, h7, h8⟩ hb' ho
    have hb' : Below (w2.heap.size + 1) W W' := by simpa using hb'
    exact ⟨Nat.le_trans h1 hb'.size, h2, (hb'.block _ oW).trans h3, ho _ _ _ _ _ _ h4, h5.below hb' oW, h6.below hb' oW, h7.below hb' (fun D hD => by have := hDlt D hD; omega), h8.trans (hb'.mono oW)⟩
   case hIx =>
    intro cd
    refine Qd7 (fun s W hi => by simpa using hi.1) ?_
    rintro s W W' ⟨h1, h2, q, v, h9, h10, h3, h4, h5, h6, h7, h8⟩ hb' ho
    have hb' : Below (w2.heap.size + 1) W W' := by simpa using hb'
    exact ⟨Nat.le_trans h1 hb'.size, h2, q, v, h9, h10, (hb'.block _ oW).trans h3, ho _ _ _ _ _ _ h4, h5.below hb' oW, h6.below hb' oW, h7.below hb' (fun D hD => by have := hDlt D hD; omega), h8.trans (hb'.mono oW)⟩
   case h0 =>
    exact ⟨by simp, rfl, hv2.alloc _, hrow2.alloc _, hrw2.below (bW.alloc nW _) hrw2.lt, hT2.alloc _, hD2.keeps (KeepsOthers.alloc _ _), hBw2.alloc hs2 _⟩
   case assign =>
    intro l x W K hK
    gi_wp2
    exact hK
   case body =>
    rintro l pre x W ⟨h1, rfl, h3, h4, h5, h6, h7, h8⟩ _
    have k0 := h3.cell
    have hs8 := h8.size
    gi_wp2_with (gi_at_builtin; refine wpListIn_append_own _ rfl _ _ 36 rfl w.heap.size 3 i0 (.int .i64 0) 1 8 Tryz.underlying36 hi hz0 hz1 hz2 rfl dW (.slice (some ⟨og, 0, none⟩) (o.length + 1) ocap) _ _ rfl (h4.alloc _) ⟨W.heap.size, 0, none⟩ 1 1 [.int .i64 (x.1 : Int)] rfl rfl (cell_one_new _ _ _) (by simp [Value.oneCell']) (by unfold maxLen; omega) oW (by simp; omega) ?_; intro v' w3 hown' hgrow _; obtain ⟨g', cap', rfl⟩ := ownsRow_succ hown'; obtain ⟨hv1, hv3, hr2, hk2, hb2⟩ := h3.appended dW h4 hs8 oW hown' hgrow; have hc1 := hv1.cell; have hf1 := hv1.frozen)
    refine ⟨hk2, Nat.le_trans h1 hk2.size, rfl, x.1, _, rfl, x.2, hv3, ?_, ?_, h6.below hb2 oW, h7.keeps hk2, h8.trans hb2⟩
    ·rw [Qvv, List.length_append]; exact hr2
    ·obtain ⟨cur, hk, e⟩ := h5.ex
     have hne : some g ≠ (Value.slice (some ⟨og, 0, none⟩) (o.length + 1) ocap).ownBlock := by
      intro e'
      obtain rfl : g = og := by simpa [Value.ownBlock] using e'
      rcases h4.2 with ⟨e2, _⟩ | ⟨g2, cap2, cur2, e2, _, hgb2, _⟩
      ·cases e2
      ·cases e2
       have := hk.symm.trans hgb2
       simp at this
     exact ((⟨cur, hk.alloc _, e⟩ : RowsIn (W.alloc _) g ly).grown hgrow hne).other (by simp; omega) _
   case done =>
    rintro D ys W hDD hys ⟨h1, rfl, h3, h4, h5, h6, h7, h8⟩ hK
    have hnil : Qad M = [] := hys.symm
    obtain ⟨j, rfl, hcy⟩ := HB.out
    rw [hnil] at hcy
    have HC2 : Hid (start :: Qcl L start (Qb5 ly m) = (o ++ [lst]) ++ Qcl L lst (Qb5 ly j)) := by show _ = _; rw [HC.out, hcy]
    clear hcy HB
    gi_wp2
    have hm2 : Marks w.heap.size W (D :: Ds) := h7.cons hK (by simp at hDD; omega) (fun E hE => by have := hDlt E hE; simp at hDD; omega)
    refine ⟨?_, ?_⟩
    ·refine ⟨j, D :: Ds, o, lst, ?_⟩
     repeat apply Exists.intro
     exact ⟨⟨oW, hlst, oW, HC2, ⟨_, h3, h4⟩, h5, h8, hm2⟩, rfl⟩
    ·simp [intOf]
   case stop =>
    rintro D cd pre W hDD hpre ⟨h1, rfl, q, v, hq, hqm, h3, h4, h5, h6, h7, h8⟩ hK
    rw [hq] at hpre
    obtain ⟨tl, htl⟩ := hpre
    obtain ⟨j, rfl, hcy⟩ := HB.out
    rw [← htl] at hcy
    have HC2 : Hid (start :: Qcl L start (Qb5 ly m) = ((o ++ [lst]) ++ [q]) ++ Qcl L q (Qb5 ly j)) := by show _ = _; rw [HC.out, hcy]; simp
    have hqL := HML.out q hqm
    clear hcy HB htl
    gi_wp2
    have hm2 : Marks w.heap.size W (D :: Ds) := h7.cons hK (by simp at hDD; omega) (fun E hE => by have := hDlt E hE; simp at hDD; omega)
    refine ⟨?_, ?_⟩
    ·refine ⟨j, D :: Ds, o ++ [lst], q, ?_⟩
     repeat apply Exists.intro
     exact ⟨⟨oW, hqL, by simp; omega, HC2, ⟨_, h3, h4⟩, h5, h8, hm2⟩, rfl⟩
    ·simp [intOf]
  ·obtain rfl : i = 0 := by omega
   have k0 := hv.cell
   gi_wp2
   refine Qds hD ⟨_, results_tmp rfl _ _ _, _, ly, rfl, hly, ?_, hB.trans (Qe5 hD)⟩
   have e : start :: Qcl L start (Qb5 ly (ly.length - 1)) = o ++ [lst] := by
    rw [Hm.out, Nat.add_sub_cancel, HC.out, Qvt]; simp [Qcl]
   have e2 : (Qcl L start (Qb5 ly (ly.length - 1))).length + 1 = o.length + 1 := by have := congrArg List.length e; simpa using this
   rw [e, e2]
   exact Qhd hD hrow
theorem Ql9 (b c : Nat) (L : List Nat) (start : Nat) (w : World) (h : IsRel w b c L) (hT : Tab w) (hst : start < L.length) :
  Calls Tryz.prog 158 #[pv b, .int .i64 start] w fun e w' => ∃ v ly, e = .returned v ∧ Qee L (Qb4 L) start 0 (Qat 0 start true) ly ∧ w'.ownsRow w.heap.size 3 1 v (start :: Qcl L start (Qb5 ly (ly.length - 1))).length (Qc7 (start :: Qcl L start (Qb5 ly (ly.length - 1)))) ∧ Below w.heap.size w w' := callsIn_wide.1 (Qpy b c L start w h hT hst)
end Go.Proofs.YtdkogbfamdnheaaGreatDoor
namespace Go.Proofs.YtdkogbfamdnheaaGreatDoor
open Go.RowKit Go.Shelf Sx
set_option maxRecDepth 100000
set_option maxHeartbeats 16000000
set_option linter.unusedSimpArgs false
set_option linter.unusedVariables false
attribute [local go_sem] Oper.semAt_some
theorem Qm4 (L : List Nat) (k p : Nat) : (Qdp L k).testBit p = (decide (p < k) && (gr L p).testBit p) := by
 induction k with
 | zero => simp [Qdp]
 | succ k ih =>
  rw [Qhq, Qb2, ih]
  by_cases h : p = k
  ·subst h; simp
  ·rw [if_neg h]
   by_cases h2 : p < k
   ·rw [decide_eq_true h2, decide_eq_true (show p < k + 1 by omega)]
   ·rw [decide_eq_false h2, decide_eq_false (show ¬ p < k + 1 by omega)]
theorem Qvx (L : List Nat) : Qc L < 2 ^ L.length := Qc0 fun i hi => by rw [Qc, Qm4, decide_eq_false oW, Bool.false_and]
theorem Qju (L : List Nat) : (Qdw L).length = L.length := Qgx L L.length
def Qdg (L out : List Nat) : Prop :=
 (Qad (Qc (Qdw L)) = [] ∧ out = []) ∨ ∃ s tl ly, Qad (Qc (Qdw L)) = s :: tl ∧ Qee L (Qb4 L) s 0 (Qat 0 s true) ly ∧ out = s :: Qcl L s (Qb5 ly (ly.length - 1))
theorem Qxw (b c : Nat) (L : List Nat) (w : World) (h : IsRel w b c L) (hT : Tab w) :
  CallsIn Fence.wide 6 Tryz.prog 139 #[pv b] w fun e w' => ∃ v out, e = .returned v ∧ Qdg L out ∧ w'.ownsRow w.heap.size 3 1 v out.length (Qc7 out) ∧ Below w.heap.size w w' := by
 have hl := h.len
 have hT2 := (hT.alloc (.cells #[pv b] 42)).alloc (.cells #[.slice none 0 0] 36)
 have h2 := (h.alloc (.cells #[pv b] 42)).alloc (.cells #[.slice none 0 0] 36)
 refine callsIn_of_wp_marks Tryz.func139 rfl trivial ?_ rfl
 simp only [Tryz.ntmps139, List.size_toArray, List.length_cons, List.length_nil, Nat.reduceAdd, Nat.reduceSub, Array.replicate_succ, Array.replicate_zero, List.push_toArray, List.append_toArray, List.nil_append, List.cons_append]
 gi_wp2_with fail
 refine ⟨trivial, ?_⟩
 refine (callsIn_wide.2 (Quu b c L _ h2)).mono ?_
 rintro e w1 ⟨b2, c2, rfl, hM⟩
 have hB1 : Below w.heap.size w w1 := (((Below.refl _ w).alloc nW _).alloc sW _).trans (hM.below.mono (by simp; omega))
 have hbx1 : Blk w1 w.heap.size 42 #[pv b] := ((Blk.new w _ _).alloc _).of_below hM.below
 have hrs1 : Boxed w1 (w.heap.size + 1) 36 (.slice none 0 0) := (Blk.new2 w _ _ _).of_below hM.below
 gi_wp2_with fail
 refine ⟨trivial, ?_⟩
 refine (callsIn_wide.2 (Qr b2 c2 (Qdw L) _ hM.rel)).mono ?_
 rintro e w2 ⟨rfl, hB2⟩
 have hBw2 : Below w.heap.size w w2 := Qaa hB1 hB1.size hB2
 have hbx2 := hbx1.of_below hB2
 have hrs2 : Boxed w2 (w.heap.size + 1) 36 (.slice none 0 0) := Blk.of_below hrs1 hB2
 have hTw2 := hT.step hBw2
 have HL : Hid (∀ p, p ∈ Qad (Qc (Qdw L)) → p < L.length) := by
  intro p hp
  have h1 := (Qbk.1 hp).2
  apply Nat.lt_of_not_le
  intro hle
  have := Qvx (Qdw L)
  rw [Qju] at this
  rw [Qb9 this hle] at h1
  cases h1
 have HC : Hid (∀ out, ((Qad (Qc (Qdw L)) = [] ∧ out = []) ∨ ∃ s tl ly, Qad (Qc (Qdw L)) = s :: tl ∧ Qee L (Qb4 L) s 0 (Qat 0 s true) ly ∧ out = s :: Qcl L s (Qb5 ly (ly.length - 1))) → Qdg L out) := fun _ h => h
 generalize Qc (Qdw L) = M at *
 clear hB2 hB1 hM hbx1 hrs1 h2 hT2
 have hs2 := hBw2.size
 have hp := hT.pos
 have hs3 := hbx2.lt
 have hs4 := hrs2.lt
 gi_wp2_with (refine ⟨trivial, ?_⟩; gi_at_call 72; refine (Qdz Fence.wide _ trivial rfl M _).mono ?_; rintro e w' ⟨rfl, rfl⟩)
 refine wpIn_rangeFunc_ownF rfl oW (gf := 114) (lb := #[.pointer (some ⟨w2.heap.size, 0, none⟩)]) rfl trivial (enters_of Tryz.func114 kW rfl)
  (Qcj M w2.heap.size (6 - 1) oW _ ?hB ?hT) belowK_t (belowK_b sW) bW (fun _ => rfl)
  (fun pre W => w2.heap.size + 1 ≤ W.heap.size ∧ pre = [] ∧ Blk W w.heap.size 42 #[pv b] ∧ Boxed W (w.heap.size + 1) 36 (.slice none 0 0) ∧ Tab W ∧ Below w.heap.size w W)
  (fun cd pre W => w2.heap.size + 1 ≤ W.heap.size ∧ cd = .ret ∧ ∃ q v ly, Qbg pre = [q] ∧ Qee L (Qb4 L) q 0 (Qat 0 q true) ly ∧ Boxed W (w.heap.size + 1) 36 v ∧ W.ownsRow w.heap.size 3 1 v (q :: Qcl L q (Qb5 ly (ly.length - 1))).length (Qc7 (q :: Qcl L q (Qb5 ly (ly.length - 1)))) ∧ Tab W ∧ Below w.heap.size w W)
  ?hI ?hIx ?h0
  (fun x => { tmps := #[pv b, pv w.heap.size, pv (w.heap.size + 1), .int .i64 (x.1 : Int), pv b, pv b2, rv M, .func (.func 114) #[] #[.pointer (some ⟨w2.heap.size, 0, none⟩)], .int .i64 (x.1 : Int), undef, undef, undef], defers := [] }) ?assign ?body ?done ?stop
 case hB => exact Blk.new _ _ _
 case hT => exact hTw2.alloc _
 case hI =>
  refine Qd7 (fun s W hi => by simpa using hi.1) ?_
  rintro s W W' ⟨h1, h2, h3, h4, h5, h6⟩ hb' ho
  have hb' : Below (w2.heap.size + 1) W W' := by simpa using hb'
  exact ⟨Nat.le_trans h1 hb'.size, h2, h3.below hb' oW, (hb'.block _ oW).trans h4, h5.below hb' oW, h6.trans (hb'.mono oW)⟩
 case hIx =>
  intro cd
  refine Qd7 (fun s W hi => by simpa using hi.1) ?_
  rintro s W W' ⟨h1, h2, q, v, ly, h9, h10, h3, h4, h5, h6⟩ hb' ho
  have hb' : Below (w2.heap.size + 1) W W' := by simpa using hb'
  exact ⟨Nat.le_trans h1 hb'.size, h2, q, v, ly, h9, h10, (hb'.block _ oW).trans h3, ho _ _ _ _ _ _ h4, h5.below hb' oW, h6.trans (hb'.mono oW)⟩
 case h0 =>
  exact ⟨by simp, rfl, hbx2.alloc _, hrs2.alloc _, hTw2.alloc _, hBw2.alloc hs2 _⟩
 case assign =>
  intro l x W K hK
  gi_wp2
  exact hK
 case body =>
  rintro l pre x W ⟨h1, rfl, h3, h4, h5, h6⟩ _
  have k0 : W.cell? ⟨w.heap.size, 0, none⟩ = some (pv b) := h3.cell rfl
  have hq := HL.out x.1 x.2
  gi_wp2_with (refine ⟨trivial, ?_⟩; gi_at_call 158; refine (CallsIn.inRound l (callsIn_wide.2 (Ql9 b c L x.1 _ (h.below h6) h5 hq))).mono ?_; rintro e w3 ⟨v, ly, rfl, hly, hown, hB3⟩; have h4b : Boxed w3 (w.heap.size + 1) 36 (.slice none 0 0) := Blk.of_below h4 hB3; have hc1 := h4b.cell; have hf1 := h4b.frozen; have HO := Qa hown; rw [List.length_cons] at hown; obtain ⟨g', cap', rfl⟩ := ownsRow_succ hown; clear hown)
  have hs6 := h6.size
  refine ⟨(Qfh hB3).trans (KeepsOthers.setCell _ _ _), Nat.le_trans h1 (Nat.le_trans hB3.size (by simp [World.setCell])), rfl, x.1, _, ly, rfl, hly, h4b.set _, ?_, (h5.step hB3).set sW _, (h6.trans (hB3.mono hs6)).setCell sW _⟩
  refine Qdf (Qir HO.out hs6) ?_ _
  exact h4b.not_row dW HO.out
 case done =>
  rintro D ys W hDD hys ⟨h1, rfl, h3, h4, h5, h6⟩ hK
  have hc := h4.cell
  have hf := h4.frozen
  have hnil : Qad M = [] := hys.symm
  gi_wp2
  have hK' := (KeepsOthers.setCell W ⟨w.heap.size + 1, 0, none⟩ (.slice none 0 0)).same D _ hK rfl
  refine ⟨by simp, .inl ⟨_, _, rfl, run_takeDeferred hK', ?_⟩⟩
  have h7 := Blk.putObj (h4.set (.slice none 0 0)) hK' rfl (.deferred none)
  have hc7 : (World.putObj _ D (.deferred none)).cell? ⟨w.heap.size + 1, 0, none⟩ = some (.slice none 0 0) := h7.cell rfl
  refine ⟨.slice none 0 0, ?_, .slice none 0 0, [], rfl, HC.out [] (.inl ⟨hnil, rfl⟩), World.ownsRow_nil _ _ _ _, (h6.setCell sW _).trans (belowK_b (w := w) nW _ D _ _ (by simp at hDD; omega) hK' rfl rfl)⟩
  simp [results, Tryz.f139, go_sem, hc7]
 case stop =>
  rintro D cd pre W hDD hpre ⟨h1, rfl, q, v, ly, hq, hly, h3, h4, h5, h6⟩ hK
  rw [hq] at hpre
  obtain ⟨tl, htl⟩ := hpre
  gi_wp2
  refine ⟨by simp, .inl ⟨_, _, rfl, run_takeDeferred hK, ?_⟩⟩
  have h7 := Blk.putObj h3 hK rfl (.deferred none)
  have hc7 : (W.putObj D (.deferred none)).cell? ⟨w.heap.size + 1, 0, none⟩ = some v := h7.cell rfl
  refine ⟨v, ?_, v, _, rfl, HC.out _ (.inr ⟨q, tl, ly, htl.symm, hly, rfl⟩), ownsRow_putObj h4 _ hK rfl, h6.trans (belowK_b (w := w) nW _ D _ _ (by simp at hDD; omega) hK rfl rfl)⟩
  simp [results, Tryz.f139, go_sem, hc7]
theorem Qkq (b c : Nat) (L : List Nat) (w : World) (h : IsRel w b c L) (hT : Tab w) :
  Calls Tryz.prog 139 #[pv b] w fun e w' => ∃ v out, e = .returned v ∧ Qdg L out ∧ w'.ownsRow w.heap.size 3 1 v out.length (Qc7 out) ∧ Below w.heap.size w w' := callsIn_wide.1 (Qxw b c L w h hT)
end Go.Proofs.YtdkogbfamdnheaaGreatDoor
namespace Go.Proofs.YtdkogbfamdnheaaGreatDoor
open Go.RowKit Go.Shelf Sx Relation
set_option maxRecDepth 100000
set_option maxHeartbeats 16000000
set_option linter.unusedSimpArgs false
set_option linter.unusedVariables false
def hs (L : List Nat) (p q : Nat) : Prop := (gr L p).testBit q = true
structure WF (n : Nat) (L : List Nat) : Prop where
 len : L.length = n
 low : ∀ p q, hs L p q → q < n
theorem Qa5 {L : List Nat} {p q : Nat} (h : hs L p q) : p < L.length := by
 apply Nat.lt_of_not_le
 intro hle
 unfold hs at h
 rw [Qqa oW] at h
 simp at h
theorem Qjv (L : List Nat) (q : Nat) : ∀ (l : List Nat) (s : Nat), (l.foldl (fun s p => s ||| gr L p) s).testBit q = true ↔ s.testBit q = true ∨ ∃ p ∈ l, hs L p q
 | [], s => by simp
 | x :: l, s => by
  rw [List.foldl_cons, Qjv L q l, Nat.testBit_or, Bool.or_eq_true]
  unfold hs
  simp [or_assoc]
theorem Qm5 {n k : Nat} {f : Nat → Nat} {p q : Nat} (hk : n ≤ k) : hs (Qa2 n f k) p q ↔ p < n ∧ (f p).testBit q = true := by
 by_cases hp : p < n
 ·unfold hs
  rw [Qge (Qev hp), if_pos oW]
  simp [hp]
 ·constructor
  ·intro h
   have := Qa5 h
   rw [Qaw] at this
   omega
  ·exact fun h => absurd h.1 hp
section
variable {n : Nat} {A B C : List Nat}
theorem Qap (hn : n ≤ 256) (ha : WF n A) (hb : WF n B) (p q : Nat) : hs (Qe4 A B) p q ↔ ∃ m, hs A p m ∧ hs B m q := by
 unfold Qe4
 rw [ha.len, hb.len, Nat.max_self, Qm5 nW]
 unfold Qaj
 rw [Qjv]
 constructor
 ·rintro ⟨_, h | ⟨m, hm, h⟩⟩
  ·simp at h
  ·exact ⟨m, (Qbk.1 hm).2, h⟩
 ·rintro ⟨m, h1, h2⟩
  refine ⟨by have := Qa5 h1; rw [ha.len] at this; exact this, Or.inr ⟨m, Qbk.2 ⟨?_, h1⟩, h2⟩⟩
  have := ha.low _ _ h1
  omega
theorem Qas (hn : n ≤ 256) (ha : WF n A) (hb : WF n B) : WF n (Qe4 A B) := by
 refine ⟨by unfold Qe4; rw [Qaw, ha.len, hb.len, Nat.max_self], fun p q h => ?_⟩
 obtain ⟨m, _, h2⟩ := (Qap hn ha hb p q).1 h
 exact hb.low _ _ h2
theorem Qdh (ha : WF n A) (hb : WF n B) (p q : Nat) : hs (Qc4 A B) p q ↔ hs A p q ∧ hs B p q := by
 unfold Qc4
 rw [ha.len, hb.len, Nat.max_self, Qm5 nW, Nat.testBit_and, Bool.and_eq_true]
 constructor
 ·exact fun h => h.2
 ·exact fun h => ⟨by have := Qa5 h.1; rw [ha.len] at this; exact this, h⟩
theorem Qfc (ha : WF n A) (hb : WF n B) : WF n (Qc4 A B) := by
 refine ⟨by unfold Qc4; rw [Qaw, ha.len, hb.len, Nat.max_self], fun p q h => ?_⟩
 exact ha.low _ _ ((Qdh ha hb p q).1 h).1
theorem Qdi (ha : WF n A) (hb : WF n B) (p q : Nat) : hs (Qen A B) p q ↔ hs A p q ∧ ¬ hs B p q := by
 unfold Qen
 rw [ha.len, hb.len, Nat.max_self, Qm5 nW, Qdq, Bool.and_eq_true, Bool.not_eq_true']
 unfold hs
 rw [Bool.not_eq_true]
 constructor
 ·exact fun h => h.2
 ·exact fun h => ⟨by have := Qa5 (L := A) h.1; rw [ha.len] at this; exact this, h⟩
theorem Qd0 (ha : WF n A) (hb : WF n B) : WF n (Qen A B) := by
 refine ⟨by unfold Qen; rw [Qaw, ha.len, hb.len, Nat.max_self], fun p q h => ?_⟩
 exact ha.low _ _ ((Qdi ha hb p q).1 h).1
theorem Qi (m p q : Nat) : ¬ hs (List.replicate m 0) p q := by
 intro h
 have hp := Qa5 h
 rw [List.length_replicate] at hp
 unfold hs at h
 rw [Qge (R := 0) (by simp [hp])] at h
 simp at h
theorem Qpz {X : List Nat} (hx : X.length = n) (ha : WF n A) (p q : Nat) : hs (Qck X A A.length) p q ↔ hs X p q ∨ hs A p q := by
 by_cases hp : p < n
 ·unfold hs
  rw [Qzn oW, if_pos (by rw [ha.len]; exact hp), Nat.testBit_or, Bool.or_eq_true]
 ·constructor
  ·intro h
   have := Qa5 h
   rw [Qa4] at this
   omega
  ·rintro (h | h)
   ·have := Qa5 h; omega
   ·have := Qa5 h; rw [ha.len] at this; omega
theorem Qgs (ha : WF n A) (hb : WF n B) (p q : Nat) : hs (Qa1 [A, B]) p q ↔ hs A p q ∨ hs B p q := by
 have e : Qa1 [A, B] = Qck (Qck (List.replicate n 0) A A.length) B B.length := by
  simp [Qa1, Qbv, ha.len, hb.len]
 rw [e, Qpz (by rw [Qa4, List.length_replicate]) hb, Qpz (by rw [List.length_replicate]) ha]
 constructor
 ·rintro ((h | h) | h)
  ·exact absurd h (Qi _ _ _)
  ·exact Or.inl h
  ·exact Or.inr h
 ·rintro (h | h)
  ·exact Or.inl (Or.inr h)
  ·exact Or.inr h
theorem Qis (ha : WF n A) (hb : WF n B) : WF n (Qa1 [A, B]) := by
 refine ⟨by simp [Qa1, Qbv, Qa4, ha.len, hb.len], fun p q h => ?_⟩
 rcases (Qgs ha hb p q).1 h with h | h
 ·exact ha.low _ _ h
 ·exact hb.low _ _ h
theorem Qvy {X : List Nat} {j R p q : Nat} : hs (X.set j R) p q ↔ if p = j ∧ j < X.length then R.testBit q = true else hs X p q := by
 unfold hs gr
 rw [List.getD_eq_getElem?_getD, List.getD_eq_getElem?_getD, List.getElem?_set]
 by_cases e : j = p
 ·subst e
  by_cases hj : j < X.length
  ·simp [hj]
  ·simp [hj]
 ·rw [if_neg e, if_neg (fun h => e h.1.symm)]
theorem Qvz {X : List Nat} {x y p q : Nat} (hx : x < X.length) (hy : y < X.length) : hs (Qbc X (x : Int) (y : Int) true) p q ↔ hs X p q ∨ (p = x ∧ q = y) := by
 rw [Qqb hx hy (Qbf hx), Qvy]
 by_cases e : p = x
 ·subst e
  rw [if_pos ⟨rfl, hx⟩, Qb2]
  by_cases e2 : q = y
  ·subst e2; simp
  ·rw [if_neg e2]
   constructor
   ·exact fun h => Or.inl h
   ·rintro (h | ⟨_, h⟩)
    ·exact h
    ·exact absurd h e2
 ·rw [if_neg (fun h => e h.1)]
  constructor
  ·exact fun h => Or.inl h
  ·rintro (h | ⟨h, _⟩)
   ·exact h
   ·exact absurd h e
theorem Qgt (X : List Nat) (x y : Int) (v : Bool) : (Qbc X x y v).length = X.length := by
 unfold Qbc; split <;> simp
theorem Qn0 (p : Nat) : ∀ (l : List Nat) (X : List Nat), (Qed X p l).length = X.length
 | [], _ => rfl
 | q :: l, X => by
  show (Qed (Qbc X q p true) p l).length = _
  rw [Qn0 p l, Qgt]
theorem Qp0 {p : Nat} : ∀ (l : List Nat) (X : List Nat), p < X.length → (∀ q ∈ l, q < X.length) → ∀ a b, hs (Qed X p l) a b ↔ hs X a b ∨ (b = p ∧ a ∈ l)
 | [], X, _, _, a, b => by simp [Qed]
 | q :: l, X, hp, hq, a, b => by
  show hs (Qed (Qbc X q p true) p l) a b ↔ _
  rw [Qp0 l _ (by rw [Qgt]; exact hp) (fun r hr => by rw [Qgt]; exact hq r (List.mem_cons_of_mem _ hr)), Qvz (hq q sW) hp]
  constructor
  ·rintro ((h | ⟨rfl, rfl⟩) | ⟨rfl, h⟩)
   ·exact Or.inl h
   ·exact Or.inr ⟨rfl, by simp⟩
   ·exact Or.inr ⟨rfl, List.mem_cons_of_mem _ h⟩
  ·rintro (h | ⟨rfl, h⟩)
   ·exact Or.inl (Or.inl h)
   ·rcases List.mem_cons.1 h with rfl | h
    ·exact Or.inl (Or.inr ⟨rfl, rfl⟩)
    ·exact Or.inr ⟨rfl, h⟩
theorem Qld (L : List Nat) (k : Nat) : (Qf2 L k).length = L.length := by
 induction k with
 | zero => simp [Qf2]
 | succ k ih => rw [Qg5, Qn0, ih]
theorem Qzu (hn : n ≤ 256) (ha : WF n A) (k : Nat) (hk : k ≤ n) (a b : Nat) : hs (Qf2 A k) a b ↔ hs A b a ∧ b < k := by
 induction k generalizing a b with
 | zero =>
  constructor
  ·intro h; exact absurd h (by simpa [Qf2] using Qi _ a b)
  ·intro h; omega
 | succ k ih =>
  rw [Qg5, Qp0 _ _ (by rw [Qld, ha.len]; omega) (fun q hq => by rw [Qld, ha.len]; exact ha.low _ _ (Qbk.1 hq).2), ih oW]
  constructor
  ·rintro (⟨h1, h2⟩ | ⟨rfl, h⟩)
   ·exact ⟨h1, oW⟩
   ·exact ⟨(Qbk.1 h).2, oW⟩
  ·rintro ⟨h1, h2⟩
   by_cases e : b = k
   ·subst e
    exact Or.inr ⟨rfl, Qbk.2 ⟨by have := ha.low _ _ h1; omega, h1⟩⟩
   ·exact Or.inl ⟨h1, oW⟩
theorem Qp1 (hn : n ≤ 256) (ha : WF n A) (a b : Nat) : hs (Qb4 A) a b ↔ hs A b a := by
 unfold Qb4
 rw [ha.len, Qzu hn ha n nW]
 constructor
 ·exact fun h => h.1
 ·exact fun h => ⟨h, by have := Qa5 h; rw [ha.len] at this; exact this⟩
theorem Qv0 (hn : n ≤ 256) (ha : WF n A) : WF n (Qb4 A) := by
 refine ⟨by unfold Qb4; rw [Qld, ha.len], fun p q h => ?_⟩
 have := Qa5 ((Qp1 hn ha p q).1 h)
 rw [ha.len] at this
 exact this
theorem QBp (k j : Nat) (p q : Nat) : hs (Qbx A k j) p q ↔ hs A p q ∨ (p < j ∧ hs A p k ∧ hs A k q) := by
 induction j generalizing p q with
 | zero => simp [Qbx]
 | succ j ih =>
  rw [Qgw]
  have hrow : ∀ q, hs (Qbx A k j) j q ↔ hs A j q := fun q => by
   rw [ih]
   constructor
   ·rintro (h | h)
    ·exact h
    ·omega
   ·exact Or.inl
  have hk : ∀ q, hs (Qbx A k j) k q ↔ hs A k q := fun q => by
   rw [ih]
   constructor
   ·rintro (h | h)
    ·exact h
    ·exact h.2.2
   ·exact Or.inl
  unfold Qei
  by_cases hb : (gr (Qbx A k j) j).testBit k = true
  ·rw [if_pos hb, Qvy]
   have hjk : hs A j k := (hrow k).1 hb
   by_cases e : p = j
   ·subst e
    rw [if_pos ⟨rfl, Qa5 (show hs (Qbx A k p) p k from hb)⟩, Nat.testBit_or, Bool.or_eq_true]
    constructor
    ·rintro (h | h)
     ·exact Or.inl ((hrow q).1 h)
     ·exact Or.inr ⟨oW, hjk, (hk q).1 h⟩
    ·rintro (h | ⟨_, _, h⟩)
     ·exact Or.inl ((hrow q).2 h)
     ·exact Or.inr ((hk q).2 h)
   ·rw [if_neg (fun h => e h.1), ih]
    constructor
    ·rintro (h | ⟨h1, h2⟩)
     ·exact Or.inl h
     ·exact Or.inr ⟨oW, h2⟩
    ·rintro (h | ⟨h1, h2⟩)
     ·exact Or.inl h
     ·exact Or.inr ⟨oW, h2⟩
  ·rw [if_neg hb, ih]
   constructor
   ·rintro (h | ⟨h1, h2⟩)
    ·exact Or.inl h
    ·exact Or.inr ⟨oW, h2⟩
   ·rintro (h | ⟨h1, h2⟩)
    ·exact Or.inl h
    ·by_cases e : p = j
     ·subst e
      exact absurd ((hrow k).2 h2.1) hb
     ·exact Or.inr ⟨oW, h2⟩
theorem Qzv (ha : A.length = n) (k : Nat) (p q : Nat) : hs (Qbx A k n) p q ↔ hs A p q ∨ (hs A p k ∧ hs A k q) := by
 rw [QBp]
 constructor
 ·rintro (h | h)
  ·exact Or.inl h
  ·exact Or.inr h.2
 ·rintro (h | h)
  ·exact Or.inl h
  ·exact Or.inr ⟨by have := Qa5 h.1; omega, h⟩
theorem Qit (ha : A.length = n) (k p q : Nat) : hs (Qcr A (k + 1)) p q ↔ hs (Qcr A k) p q ∨ (hs (Qcr A k) p k ∧ hs (Qcr A k) k q) := by
 rw [Qi7, ha]
 exact Qzv (by rw [Qgx]; exact ha) k p q
theorem Qn1 (ha : A.length = n) (k : Nat) {p q : Nat} (h : hs A p q) : hs (Qcr A k) p q := by
 induction k with
 | zero => exact h
 | succ k ih => exact (Qit ha k p q).2 (Or.inl ih)
theorem Qrd (ha : A.length = n) (k : Nat) {p q : Nat} (h : hs (Qcr A k) p q) : TransGen (hs A) p q := by
 induction k generalizing p q with
 | zero => exact TransGen.single h
 | succ k ih =>
  rcases (Qit ha k p q).1 h with h | ⟨h1, h2⟩
  ·exact ih h
  ·exact TransGen.trans (ih h1) (ih h2)
theorem Qv1 (ha : A.length = n) (k : Nat) {p v q : Nat} (hv : v < k) (h1 : hs (Qcr A k) p v) (h2 : hs (Qcr A k) v q) : hs (Qcr A k) p q := by
 induction k generalizing p v q with
 | zero => omega
 | succ k ih =>
  rw [Qit ha] at h1 h2 ⊢
  by_cases e : v = k
  ·subst e
   have a1 : hs (Qcr A v) p v := by
    rcases h1 with h | h
    ·exact h
    ·exact h.1
   have a2 : hs (Qcr A v) v q := by
    rcases h2 with h | h
    ·exact h
    ·exact h.2
   exact Or.inr ⟨a1, a2⟩
  ·have hv : v < k := by omega
   rcases h1 with h1 | ⟨h1, h1'⟩ <;> rcases h2 with h2 | ⟨h2, h2'⟩
   ·exact Or.inl (ih hv h1 h2)
   ·exact Or.inr ⟨ih hv h1 h2, h2'⟩
   ·exact Or.inr ⟨h1, ih hv h1' h2⟩
   ·exact Or.inr ⟨h1, h2'⟩
theorem Qsh (ha : WF n A) (p q : Nat) : hs (Qdw A) p q ↔ TransGen (hs A) p q := by
 constructor
 ·exact Qrd ha.len _
 ·intro h
  induction h with
  | single h => exact Qn1 ha.len _ h
  | tail _ h2 ih =>
   refine Qv1 ha.len _ ?_ ih (Qn1 ha.len _ h2)
   exact Qa5 h2
theorem Qv2 (ha : WF n A) {p q : Nat} (h : TransGen (hs A) p q) : q < n := by
 cases h with
 | single h => exact ha.low _ _ h
 | tail _ h => exact ha.low _ _ h
theorem Qn2 (L : List Nat) (k p : Nat) : (Qdp L k).testBit p = true ↔ p < k ∧ hs L p p := by
 induction k with
 | zero => simp [Qdp]
 | succ k ih =>
  rw [Qhq, Qb2]
  by_cases e : p = k
  ·subst e
   rw [if_pos rfl]
   unfold hs
   constructor
   ·exact fun h => ⟨oW, h⟩
   ·exact fun h => h.2
  ·rw [if_neg e, ih]
   constructor
   ·exact fun h => ⟨oW, h.2⟩
   ·exact fun h => ⟨oW, h.2⟩
end
def QC9 (N : Nat) (F : Nat → Nat → Bool) (L : List Nat) : Prop := ∀ p q, p < N → q < N → (F p q = true ↔ hs L p q)
structure Twin (n : Nat) (F : Nat → Nat → Bool) (L : List Nat) : Prop where
 wf : WF n L
 same : QC9 n F L
section
variable {n N : Nat} {F : Nat → Nat → Bool} {A : List Nat}
theorem Twin.low (h : Twin n F A) {p q : Nat} (h1 : hs A p q) : p < n ∧ q < n := by
 have h2 := Qa5 h1
 rw [h.wf.len] at h2
 exact ⟨h2, h.wf.low _ _ h1⟩
end
end Go.Proofs.YtdkogbfamdnheaaGreatDoor
