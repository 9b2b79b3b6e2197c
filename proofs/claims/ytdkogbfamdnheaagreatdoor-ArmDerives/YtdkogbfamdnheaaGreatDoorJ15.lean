/- The book's rules 2 and 3: initial writes, other events. -/
import Derived.Test.YtdkogbfamdnheaaGreatDoorJ13
import Derived.Deep.LoopGhost
import Derived.Deep.RegionHeld3
import Derived.Test.YtdkogbfamdnheaaGreatDoorJ09
import Derived.Test.YtdkogbfamdnheaaGreatDoorJ10
namespace Go.Proofs.YtdkogbfamdnheaaGreatDoor
open Go.RowKit Go.Shelf Sx
set_option maxRecDepth 100000
set_option maxHeartbeats 16000000
set_option linter.unusedSimpArgs false
set_option linter.unusedVariables false
def Qhz (k : Int) (q : Bool) : Nat := if k = 1 then (if q then 71680 else 38) else if k = 2 then (if q then 10240 else 42) else (if q then 49152 else 60)
def Qf2 (k m : Int) (q : Bool) : Bool := decide (0 ≤ m) && (Qhz k q).testBit m.toNat
theorem QCv {N : Nat} (h : ∀ j : Fin 17, (bits BinOp.and IntKind.i64 ((N : Int) / 2 ^ min j.1 64) 1 == 1) = N.testBit j.1) (hN : N < 2 ^ 17) (j : Nat) : (bits BinOp.and IntKind.i64 ((N : Int) / 2 ^ min j 64) 1 == 1) = N.testBit j := by
 by_cases hj : j < 17
 ·exact h ⟨j, hj⟩
 ·have e1 : N.testBit j = false := Nat.testBit_lt_two_pow (Nat.lt_of_lt_of_le hN (Nat.pow_le_pow_right (by decide) (by omega)))
  have e2 : ((N : Int) / 2 ^ min j 64) = 0 := by
   have h2 : N / 2 ^ min j 64 = 0 := Nat.div_eq_of_lt (Nat.lt_of_lt_of_le hN (Nat.pow_le_pow_right (by decide) (by omega)))
   have h3 : ((N / 2 ^ min j 64 : Nat) : Int) = (N : Int) / 2 ^ min j 64 := by push_cast; rfl
   rw [← h3, h2]
   rfl
  rw [e1, e2]
  decide +kernel
theorem Qjo (k m : Int) (q : Bool) (w : World) (hF : Frm w) (hk : k = 1 ∨ k = 2 ∨ k = 3) :
  Calls Tryz.prog 162 #[.int .i64 k, .int .i64 m, .bool q] w fun e w' => e = .returned (.bool (Qf2 k m q)) ∧ w' = w := by
 have d2 : w.cell? ⟨1, 2, none⟩ = some (.int .i64 38) := hF.c 2 (by decide)
 have d3 : w.cell? ⟨1, 3, none⟩ = some (.int .i64 71680) := hF.c 3 (by decide)
 have d4 : w.cell? ⟨1, 4, none⟩ = some (.int .i64 42) := hF.c 4 (by decide)
 have d5 : w.cell? ⟨1, 5, none⟩ = some (.int .i64 10240) := hF.c 5 (by decide)
 have d6 : w.cell? ⟨1, 6, none⟩ = some (.int .i64 60) := hF.c 6 (by decide)
 have d7 : w.cell? ⟨1, 7, none⟩ = some (.int .i64 49152) := hF.c 7 (by decide)
 by_cases hm : 0 ≤ m
 ·have hmd : decide (0 ≤ m) = true := decide_eq_true hm
  have key : ∀ k', (k' = 1 ∨ k' = 2 ∨ k' = 3) → ∀ q' : Bool, (bits BinOp.and IntKind.i64 (((Qhz k' q' : Nat) : Int) / 2 ^ min m.toNat 64) 1 == 1) = Qf2 k' m q' := by
   intro k' hk' q'
   unfold Qf2
   rw [hmd, Bool.true_and]
   rcases hk' with rfl | rfl | rfl <;> cases q'
   all_goals exact QCv (by decide +kernel) (by decide) _
  have HK1 := Qa (key 1 (.inl rfl))
  have HK2 := Qa (key 2 (.inr (.inl rfl)))
  have HK3 := Qa (key 3 (.inr (.inr rfl)))
  clear key
  rcases hk with rfl | rfl | rfl
  all_goals
   cases q
   all_goals
    go_enter Tryz.func162, Tryz.ntmps162
    go_wp2_with fail
    go_ret
    first | rw [← HK1.out] | rw [← HK2.out] | rw [← HK3.out]
    exact ⟨rfl, rfl⟩
 ·have hn : Qf2 k m q = false := by simp [Qf2, hm]
  rw [hn]
  rcases hk with rfl | rfl | rfl
  all_goals
   cases q
   all_goals
    go_enter Tryz.func162, Tryz.ntmps162
    go_wp2_with fail
    go_ret
    exact ⟨rfl, rfl⟩
theorem Frm.drew {w : World} (h : Frm w) : Frm w.drew := ⟨h.lt, fun j hj => h.c j hj⟩
theorem Frm.drewN {w : World} (h : Frm w) (n : Nat) : Frm (w.drewN n) := h.below h.lt (Qac (Below.refl _ w) n)
def Qbx (cells : Int) (e : Ev) (q : Bool) : Bool := decide (0 ≤ e.t) && decide (e.t < 64) && decide (1 ≤ e.k) && decide (e.k ≤ 3) && (if e.k = 3 then decide (e.l = -1) && decide (e.v = 0) else decide (0 ≤ e.l) && decide (e.l < cells)) && Qf2 e.k e.m q
def Ev.val (e : Ev) : Value := .agg #[.int .i64 e.t, .int .i64 e.k, .int .i64 e.l, .int .u64 e.v, .int .i64 e.m]
theorem Qod (b : Nat) (V : GrV) (g : Gr) (q : Bool) (e : Ev) (w : World) (h : BkR w b V g q) (hF : Frm w) :
  Calls Tryz.prog 145 #[pv b, .agg #[.int .i64 e.t, .int .i64 e.k, .int .i64 e.l, .int .u64 e.v, .int .i64 e.m]] w fun r w' => r = .returned (.bool (Qbx g.cells e q)) ∧ Below w.heap.size w w' := by
 obtain ⟨t, k, l, v, m⟩ := e
 dsimp only
 have hb := Blk.new w 34 #[.int .i64 t, .int .i64 k, .int .i64 l, .int .u64 v, .int .i64 m]
 have hBA := (Below.refl w.heap.size w).alloc (Nat.le_refl _) (.cells #[.int .i64 t, .int .i64 k, .int .i64 l, .int .u64 v, .int .i64 m] 34)
 have e0 : (w.alloc (.cells #[.int .i64 t, .int .i64 k, .int .i64 l, .int .u64 v, .int .i64 m] 34)).cell? ⟨w.heap.size, 0, none⟩ = some (.int .i64 t) := hb.cell rfl
 have e1 : (w.alloc (.cells #[.int .i64 t, .int .i64 k, .int .i64 l, .int .u64 v, .int .i64 m] 34)).cell? ⟨w.heap.size, 1, none⟩ = some (.int .i64 k) := hb.cell rfl
 have e2 : (w.alloc (.cells #[.int .i64 t, .int .i64 k, .int .i64 l, .int .u64 v, .int .i64 m] 34)).cell? ⟨w.heap.size, 2, none⟩ = some (.int .i64 l) := hb.cell rfl
 have e3 : (w.alloc (.cells #[.int .i64 t, .int .i64 k, .int .i64 l, .int .u64 v, .int .i64 m] 34)).cell? ⟨w.heap.size, 3, none⟩ = some (.int .u64 v) := hb.cell rfl
 have e4 : (w.alloc (.cells #[.int .i64 t, .int .i64 k, .int .i64 l, .int .u64 v, .int .i64 m] 34)).cell? ⟨w.heap.size, 4, none⟩ = some (.int .i64 m) := hb.cell rfl
 have hB := h.below hBA
 have f0 := hB.cells
 have f8 := hB.wds
 have hFA := hF.step hBA
 have HBA := Qa hBA
 have HFA := Qa hFA
 clear hb hBA hB h hF hFA
 generalize hok : Qbx g.cells ⟨t, k, l, v, m⟩ q = r
 have HOK := Qa hok
 clear hok
 go_enter Tryz.func145, Tryz.ntmps145
 by_cases ht : t < 0
 ·obtain rfl : r = false := by rw [← HOK.out]; simp [Qbx]; omega
  go_wp2_with fail
  go_ret
  exact ⟨rfl, HBA.out⟩
 ·by_cases ht2 : (64 : Int) ≤ t
  ·obtain rfl : r = false := by rw [← HOK.out]; simp [Qbx]; omega
   go_wp2_with fail
   go_ret
   exact ⟨rfl, HBA.out⟩
  ·by_cases hk1 : k < 1
   ·obtain rfl : r = false := by rw [← HOK.out]; simp [Qbx]; omega
    go_wp2_with fail
    go_ret
    exact ⟨rfl, HBA.out⟩
   ·by_cases hk3 : (3 : Int) < k
    ·obtain rfl : r = false := by rw [← HOK.out]; simp [Qbx]; omega
     go_wp2_with fail
     go_ret
     exact ⟨rfl, HBA.out⟩
    ·obtain hk | hk | hk : k = 1 ∨ k = 2 ∨ k = 3 := by omega
     all_goals subst hk
     ·by_cases hl0 : l < 0
      ·obtain rfl : r = false := by rw [← HOK.out]; simp [Qbx]; omega
       go_wp2_with fail
       go_quiet (fail)
       go_wp2_with fail
       go_ret
       exact ⟨rfl, Qac HBA.out _⟩
      ·by_cases hl1 : g.cells ≤ l
       ·obtain rfl : r = false := by rw [← HOK.out]; simp [Qbx]; omega
        go_wp2_with fail
        go_quiet (fail)
        go_wp2_with fail
        go_ret
        exact ⟨rfl, Qac HBA.out _⟩
       ·obtain rfl : Qf2 1 m q = r := by rw [← HOK.out]; simp [Qbx]; omega
        go_wp2_with fail
        go_quiet (fail)
        go_wp2_with fail
        go_region_held3 (fun w' => w'.cell? ⟨w.heap.size, 1, none⟩ = some (.int .i64 1) ∧ w'.cell? ⟨w.heap.size, 4, none⟩ = some (.int .i64 m) ∧ w'.cell? ⟨b, 8, none⟩ = some (.bool q)) (first | assumption | exact ⟨e1, e4, f8⟩) (first | (go_at_call 162; refine (Qjo 1 m q _ (by first | exact HFA.out | exact HFA.out.drew | exact HFA.out.drew.drew | exact (HFA.out.drewN _).drew) (by first | exact .inl rfl | exact .inr (.inl rfl) | exact .inr (.inr rfl))).mono ?_; rintro e w' ⟨rfl, rfl⟩))
        go_wp2_with fail
        go_ret
        exact ⟨rfl, by first | exact HBA.out | exact HBA.out.drew | exact HBA.out.drew.drew | exact (Qac HBA.out _).drew⟩
     ·by_cases hl0 : l < 0
      ·obtain rfl : r = false := by rw [← HOK.out]; simp [Qbx]; omega
       go_wp2_with fail
       go_quiet (fail)
       go_wp2_with fail
       go_ret
       exact ⟨rfl, Qac HBA.out _⟩
      ·by_cases hl1 : g.cells ≤ l
       ·obtain rfl : r = false := by rw [← HOK.out]; simp [Qbx]; omega
        go_wp2_with fail
        go_quiet (fail)
        go_wp2_with fail
        go_ret
        exact ⟨rfl, Qac HBA.out _⟩
       ·obtain rfl : Qf2 2 m q = r := by rw [← HOK.out]; simp [Qbx]; omega
        go_wp2_with fail
        go_quiet (fail)
        go_wp2_with fail
        go_region_held3 (fun w' => w'.cell? ⟨w.heap.size, 1, none⟩ = some (.int .i64 2) ∧ w'.cell? ⟨w.heap.size, 4, none⟩ = some (.int .i64 m) ∧ w'.cell? ⟨b, 8, none⟩ = some (.bool q)) (first | assumption | exact ⟨e1, e4, f8⟩) (first | (go_at_call 162; refine (Qjo 2 m q _ (by first | exact HFA.out | exact HFA.out.drew | exact HFA.out.drew.drew | exact (HFA.out.drewN _).drew) (by first | exact .inl rfl | exact .inr (.inl rfl) | exact .inr (.inr rfl))).mono ?_; rintro e w' ⟨rfl, rfl⟩))
        go_wp2_with fail
        go_ret
        exact ⟨rfl, by first | exact HBA.out | exact HBA.out.drew | exact HBA.out.drew.drew | exact (Qac HBA.out _).drew⟩
     ·by_cases hl : l = -1
      ·by_cases hv : v = 0
       ·subst hl
        subst hv
        obtain rfl : Qf2 3 m q = r := by rw [← HOK.out]; simp [Qbx]; omega
        go_wp2_with fail
        go_quiet (fail)
        go_wp2_with fail
        go_region_held3 (fun w' => w'.cell? ⟨w.heap.size, 1, none⟩ = some (.int .i64 3) ∧ w'.cell? ⟨w.heap.size, 4, none⟩ = some (.int .i64 m) ∧ w'.cell? ⟨b, 8, none⟩ = some (.bool q)) (first | assumption | exact ⟨e1, e4, f8⟩) (first | (go_at_call 162; refine (Qjo 3 m q _ (by first | exact HFA.out | exact HFA.out.drew | exact HFA.out.drew.drew | exact (HFA.out.drewN _).drew) (by first | exact .inl rfl | exact .inr (.inl rfl) | exact .inr (.inr rfl))).mono ?_; rintro e w' ⟨rfl, rfl⟩))
        go_wp2_with fail
        go_ret
        exact ⟨rfl, by first | exact HBA.out | exact HBA.out.drew | exact HBA.out.drew.drew | exact (Qac HBA.out _).drew⟩
       ·obtain rfl : r = false := by rw [← HOK.out]; simp [Qbx]; omega
        subst hl
        have q1 : ((v : Int) != 0) = true := by simp [hv]
        go_wp2_with fail
        go_ret
        exact ⟨rfl, HBA.out⟩
      ·obtain rfl : r = false := by rw [← HOK.out]; simp [Qbx]; omega
       have q1 : ((l : Int) != -1) = true := by simp [hl]
       go_wp2_with fail
       go_ret
       exact ⟨rfl, HBA.out⟩
def Qek (L Bk : List Nat) (start : Nat) : Nat → Nat → List Nat → Prop
 | _, near, [] => near = 0
 | seen, near, x :: rest => near ≠ 0 ∧ x = near ∧ (gr L start &&& near = 0 → Qek L Bk start (seen ||| near) (Qc8 (Qao Bk (Qag near)) (seen ||| near)) rest) ∧ (gr L start &&& near ≠ 0 → rest = [])
def Qgh (l : List Nat) : List Value := l.flatMap (fun R => (rcs R).toList)
theorem Qw (l : List Nat) (R : Nat) : Qgh (l ++ [R]) = Qgh l ++ [.int .u64 ((wd R 0 : Nat) : Int), .int .u64 ((wd R 1 : Nat) : Int), .int .u64 ((wd R 2 : Nat) : Int), .int .u64 ((wd R 3 : Nat) : Int)] := by simp [Qgh, rcs]
def cnt (n x : Nat) : Nat := (Qcr n x).length
theorem Qmh (l : List Nat) (p q : Nat → Bool) (h : ∀ x ∈ l, ¬ (p x = true ∧ q x = true)) : (l.filter (fun x => p x || q x)).length = (l.filter p).length + (l.filter q).length := by
 induction l with
 | nil => rfl
 | cons x l ih =>
  have ih := ih (fun y hy => h y (List.mem_cons_of_mem _ hy))
  have hx := h x (by simp)
  simp only [List.filter_cons]
  cases hp : p x <;> cases hq : q x
  ·simp [ih]
  ·simp [ih]; omega
  ·simp [ih]; omega
  ·exact absurd ⟨hp, hq⟩ hx
theorem Qya {n x y : Nat} (h : x &&& y = 0) : cnt n (x ||| y) = cnt n x + cnt n y := by
 unfold cnt Qcr
 rw [← Qmh _ _ _ (fun i _ => ?_)]
 ·congr 2
  funext i
  exact Nat.testBit_or x y i
 ·have := congrArg (fun z => z.testBit i) h
  simp at this
  rintro ⟨h1, h2⟩
  rw [this h1] at h2
  cases h2
theorem Quh {n y : Nat} (h : y < 2 ^ n) (h0 : y ≠ 0) : 0 < cnt n y := by
 obtain ⟨i, hi⟩ := Nat.exists_testBit_of_ne_zero h0
 have hin : i < n := by
  apply Nat.lt_of_not_le
  intro hle
  rw [Qco h hle] at hi
  cases hi
 exact List.length_pos_of_mem (Qpm.2 ⟨hin, hi⟩)
theorem Qna (n x : Nat) : cnt n x ≤ n := by
 have := List.length_filter_le x.testBit (List.range n)
 simpa [cnt, Qcr] using this
theorem Qoe (x s : Nat) : Qc8 x s &&& s = 0 := by
 apply Nat.eq_of_testBit_eq
 intro i
 rw [Nat.testBit_and, Qc4, Nat.zero_testBit]
 cases x.testBit i <;> cases s.testBit i <;> rfl
theorem Qj6 {x y : Nat} (h : x &&& y = 0) : y &&& x = 0 := by rw [Nat.and_comm]; exact h
theorem Qjp {w : World} {b b' : Nat} {e : TypeId} {size : Nat} {v : Value} {n : Nat} {xs : List Value} (h : w.ownsRow b e size v n xs) (hb : b' ≤ b) : w.ownsRow b' e size v n xs := by
 refine ⟨h.1, ?_⟩
 rcases h.2 with h2 | ⟨g, cap, cur, h3, h4, h5⟩
 ·exact .inl h2
 ·exact .inr ⟨g, cap, cur, h3, by omega, h5⟩
theorem Qyb (w : World) (a b c d : Value) (t : TypeId) : ∀ j u, [a, b, c, d][j]? = some u → (w.alloc (.cells #[a, b, c, d] t)).cell? ((⟨w.heap.size, 0, none⟩ : Addr).add j) = some u := by
 intro j u hj
 have h := Blk.new w t #[a, b, c, d]
 match j, hj with
 | 0, hj => simp at hj; subst hj; exact h.cell (j := 0) rfl
 | 1, hj => simp at hj; subst hj; exact h.cell (j := 1) rfl
 | 2, hj => simp at hj; subst hj; exact h.cell (j := 2) rfl
 | 3, hj => simp at hj; subst hj; exact h.cell (j := 3) rfl
 | j + 4, hj => simp at hj
theorem Qrb (A : List Nat) (p : Nat) (l : List Nat) : (Qej A p l).length = A.length := by
 unfold Qej
 induction l generalizing A with
 | nil => rfl
 | cons q l ih => rw [List.foldl_cons, ih, Qlx]
theorem Qti (L : List Nat) (k : Nat) : (Qgx L k).length = L.length := by
 induction k with
 | zero => simp [Qgx]
 | succ k ih => rw [Qhy, Qrb, ih]
theorem Qpi {w w' : World} {b : Nat} {e : TypeId} {size : Nat} {v : Value} {n : Nat} {xs : List Value} (h : w.ownsRow b e size v n xs) (hb : Below w.heap.size w w') : w'.ownsRow b e size v n xs := by
 refine ⟨h.1, ?_⟩
 rcases h.2 with h2 | ⟨g, cap, cur, h3, h4, h5, h6⟩
 ·exact .inl h2
 ·exact .inr ⟨g, cap, cur, h3, h4, (hb.block g (Array.getElem?_eq_some_iff.1 h5).1).trans h5, h6⟩
theorem Blk.grown {w w' : World} {b : Nat} {t : TypeId} {cs : Array Value} {row : Option Nat} (h : Blk w b t cs) (hg : w.grownBy w' row) (hne : some b ≠ row) : Blk w' b t cs := (hg.block b h.lt hne).trans h
theorem Qdi {w : World} {base : Nat} {e : TypeId} {size : Nat} {v : Value} {n : Nat} {xs : List Value} (h : w.ownsRow base e size v n xs) {k : Nat} (hk : k < base) : some k ≠ v.ownBlock := by
 rcases h.2 with ⟨rfl, _⟩ | ⟨g, cap, cur, rfl, hg, _⟩
 ·simp [Value.ownBlock]
 ·intro e'
  simp [Value.ownBlock] at e'
  omega
theorem QCw {w : World} {base : Nat} {e : TypeId} {size : Nat} {v : Value} {n : Nat} {xs : List Value} (h : w.ownsRow base e size v n xs) {k : Nat} (hk : v.ownBlock = some k) : base ≤ k := by
 apply Nat.le_of_not_lt
 intro hlt
 exact Qdi h hlt hk.symm
theorem Qdq {w : World} {base : Nat} {e : TypeId} {size : Nat} {v : Value} {n : Nat} {xs : List Value} (h : w.ownsRow base e size v n xs) {a : Addr} (hne : some a.block ≠ v.ownBlock) (u : Value) : (w.setCell a u).ownsRow base e size v n xs := by
 refine ⟨h.1, ?_⟩
 rcases h.2 with h2 | ⟨g, cap, cur, rfl, h4, h5, h6⟩
 ·exact .inl h2
 ·refine .inr ⟨g, cap, cur, rfl, h4, (Below.heap_setCell _ _ _ _ ?_).trans h5, h6⟩
  intro e'
  exact hne (by simp [Value.ownBlock, e'])
structure LS (base sB b c b2 c2 : Nat) (L : List Nat) (seen near N : Nat) (v : Value) (d : List Nat) (wr : World) : Prop where
 nearB : Blk wr N 102 (rcs near)
 seenB : Blk wr sB 102 (rcs seen)
 own : wr.ownsRow base 102 4 v d.length (Qgh d)
 ne : some N ≠ v.ownBlock
 rel : IsRel wr b c L
 back : IsRel wr b2 c2 (Qcl L)
 tab : Tab wr
 hN : base ≤ N
 low : sB < base ∧ b < base ∧ c < base ∧ b2 < base ∧ c2 < base ∧ 0 < base ∧ 0 < sB
theorem LS.step {base sB b c b2 c2 : Nat} {L : List Nat} {seen near N : Nat} {v : Value} {d : List Nat} {wr w' : World} (h : LS base sB b c b2 c2 L seen near N v d wr) (hb : Below wr.heap.size wr w') : LS base sB b c b2 c2 L seen near N v d w' :=
 ⟨h.nearB.of_below hb, h.seenB.of_below hb, Qpi h.own hb, h.ne, h.rel.below hb, h.back.below hb, h.tab.step hb, h.hN, h.low⟩
theorem LS.drew {base sB b c b2 c2 : Nat} {L : List Nat} {seen near N : Nat} {v : Value} {d : List Nat} {wr : World} (h : LS base sB b c b2 c2 L seen near N v d wr) : LS base sB b c b2 c2 L seen near N v d wr.drew :=
 h.step ⟨rfl, rfl, rfl, Nat.le_refl _, fun _ _ => rfl⟩
theorem LS.alloc {base sB b c b2 c2 : Nat} {L : List Nat} {seen near N : Nat} {v : Value} {d : List Nat} {wr : World} (h : LS base sB b c b2 c2 L seen near N v d wr) (o : Obj) : LS base sB b c b2 c2 L seen near N v d (wr.alloc o) :=
 h.step ((Below.refl _ _).alloc (Nat.le_refl _) _)
theorem LS.app {base sB b c b2 c2 : Nat} {L : List Nat} {seen near N : Nat} {v v' : Value} {d : List Nat} {wr w1 : World} (h : LS base sB b c b2 c2 L seen near N v d wr)
  (hown : w1.ownsRow base 102 4 v' (d.length + 1) (Qgh d ++ [.int .u64 ((wd near 0 : Nat) : Int), .int .u64 ((wd near 1 : Nat) : Int), .int .u64 ((wd near 2 : Nat) : Int), .int .u64 ((wd near 3 : Nat) : Int)])) (hgrow : wr.grownBy w1 v.ownBlock)
  (hat : v'.ownBlock = v.ownBlock ∨ v'.ownBlock = some wr.heap.size) : LS base sB b c b2 c2 L seen near N v' (d ++ [near]) w1 := by
 obtain ⟨l1, l2, l3, l4, l5, l6, l7⟩ := h.low
 refine ⟨h.nearB.grown hgrow h.ne, h.seenB.grown hgrow (Qdi h.own l1), ?_, ?_, ?_, ?_, ?_, h.hN, h.low⟩
 ·rw [List.length_append, Qw]; exact hown
 ·rcases hat with e | e
  ·rw [e]; exact h.ne
  ·rw [e]; intro e'; have := h.nearB.lt; simp at e'; omega
 ·exact ⟨h.rel.ne, h.rel.head.grown hgrow (Qdi h.own l2), h.rel.rows.grown hgrow (Qdi h.own l3), h.rel.len, h.rel.low⟩
 ·exact ⟨h.back.ne, h.back.head.grown hgrow (Qdi h.own l4), h.back.rows.grown hgrow (Qdi h.own l5), h.back.len, h.back.low⟩
 ·refine h.tab.below (n := 1) ⟨hgrow.os, hgrow.tape, hgrow.output, hgrow.size, fun k hk => hgrow.block k (by have := h.tab.pos; omega) ?_⟩ (by omega)
  obtain rfl : k = 0 := by omega
  exact Qdi h.own l6
theorem LS.setSeen {base sB b c b2 c2 : Nat} {L : List Nat} {seen near N : Nat} {v : Value} {d : List Nat} {wr : World} (h : LS base sB b c b2 c2 L seen near N v d wr) (hd : sB ≠ b ∧ sB ≠ c ∧ sB ≠ b2 ∧ sB ≠ c2) (S : Nat) :
  LS base sB b c b2 c2 L S near N v d ((((wr.setCell ⟨sB, 0, none⟩ (.int .u64 ((wd S 0 : Nat) : Int))).setCell ⟨sB, 1, none⟩ (.int .u64 ((wd S 1 : Nat) : Int))).setCell ⟨sB, 2, none⟩ (.int .u64 ((wd S 2 : Nat) : Int))).setCell ⟨sB, 3, none⟩ (.int .u64 ((wd S 3 : Nat) : Int))) := by
 obtain ⟨l1, l2, l3, l4, l5, l6, l7⟩ := h.low
 have hn := h.hN
 exact ⟨h.nearB.otherRow (by omega) _ _ _ _ _ _ _ _, h.seenB.setRow S, Qdq (Qdq (Qdq (Qdq h.own (Qdi h.own l1) _) (Qdi h.own l1) _) (Qdi h.own l1) _) (Qdi h.own l1) _, h.ne,
  h.rel.otherRow (by omega) (by omega) _ _ _ _ _ _ _ _, h.back.otherRow (by omega) (by omega) _ _ _ _ _ _ _ _, h.tab.below (n := 1) (Qbf (Below.refl _ _) (by omega) _ _ _ _ _ _ _ _) (by omega), h.hN, h.low⟩
theorem LS.renew {base sB b c b2 c2 : Nat} {L : List Nat} {seen near N : Nat} {v : Value} {d : List Nat} {wr : World} (h : LS base sB b c b2 c2 L seen near N v d wr) : LS base sB b c b2 c2 L seen near wr.heap.size v d (wr.alloc (.cells (rcs near) 102)) := by
 have h' := h.alloc (.cells (rcs near) 102)
 refine ⟨Blk.new _ _ _, h'.seenB, h'.own, ?_, h'.rel, h'.back, h'.tab, ?_, h.low⟩
 ·rcases h.own.2 with ⟨rfl, _⟩ | ⟨g, cap, cur, rfl, hg, hgb, _⟩
  ·simp [Value.ownBlock]
  ·intro e'
   have := (Array.getElem?_eq_some_iff.1 hgb).1
   simp [Value.ownBlock] at e'
   omega
 ·have := h.nearB.lt; have := h.hN; omega
theorem LS.setNear {base sB b c b2 c2 : Nat} {L : List Nat} {seen near N : Nat} {v : Value} {d : List Nat} {wr : World} (h : LS base sB b c b2 c2 L seen near N v d wr) (S : Nat) :
  LS base sB b c b2 c2 L seen S N v d ((((wr.setCell ⟨N, 0, none⟩ (.int .u64 ((wd S 0 : Nat) : Int))).setCell ⟨N, 1, none⟩ (.int .u64 ((wd S 1 : Nat) : Int))).setCell ⟨N, 2, none⟩ (.int .u64 ((wd S 2 : Nat) : Int))).setCell ⟨N, 3, none⟩ (.int .u64 ((wd S 3 : Nat) : Int))) := by
 obtain ⟨l1, l2, l3, l4, l5, l6, l7⟩ := h.low
 have hn := h.hN
 exact ⟨h.nearB.setRow S, h.seenB.otherRow (by omega) _ _ _ _ _ _ _ _, Qdq (Qdq (Qdq (Qdq h.own h.ne _) h.ne _) h.ne _) h.ne _, h.ne,
  h.rel.otherRow (by omega) (by omega) _ _ _ _ _ _ _ _, h.back.otherRow (by omega) (by omega) _ _ _ _ _ _ _ _, h.tab.below (n := 1) (Qbf (Below.refl _ _) (by omega) _ _ _ _ _ _ _ _) (by omega), h.hN, h.low⟩
theorem Qrc (b c : Nat) (L : List Nat) (start : Nat) (w : World) (h : IsRel w b c L) (hT : Tab w) (hst : start < L.length) :
  Calls Tryz.prog 171 #[pv b, .int .i64 start] w fun e w' => ∃ v out, e = .returned v ∧ w'.ownsRow w.heap.size 102 4 v out.length (Qgh out) ∧ Qek L (Qcl L) start 0 (Qa5 0 start true) out ∧ out.length ≤ 256 ∧ Below w.heap.size w w' := by
 have hl := h.len
 obtain ⟨i0, hi, hz0, hz1, hz2⟩ := info_parts Tryz.inforow
 go_enter Tryz.func171, Tryz.ntmps171
 go_wp2_with fail
 refine (Qj5 b c L _ h hT).mono ?_
 rintro e w1 ⟨b2, c2, rfl, hM⟩
 go_wp2_with fail
 refine (Qg8 0 start true (by omega) _).mono ?_
 rintro e w2 ⟨rfl, hB2⟩
 have hs1 : w1.heap.size + 1 ≤ w2.heap.size := by have := hB2.size; simpa using this
 have hw2 : Below w.heap.size w w2 := (hM.below.alloc hM.below.size _).trans (hB2.mono (by have := hM.below.size; simp; omega))
 have hsm := hM.below.size
 have hpos := hT.pos
 have hlt : b < w.heap.size ∧ c < w.heap.size := ⟨h.head.lt, h.rows.lt⟩
 have hlt2 : b2 < w1.heap.size ∧ c2 < w1.heap.size := ⟨hM.rel.head.lt, hM.rel.rows.lt⟩
 have hls : LS w2.heap.size w1.heap.size b c b2 c2 L 0 (Qa5 0 start true) w2.heap.size (.slice none 0 0) [] (w2.alloc (.cells (rcs (Qa5 0 start true)) 102)) := by
  refine ⟨Blk.new _ _ _, ?_, World.ownsRow_nil _ _ _ _, by simp [Value.ownBlock], (h.below hw2).alloc _, ?_, (hT.step hw2).alloc _, Nat.le_refl _, by omega⟩
  ·rw [Qeb]; exact ((Blk.new w1 _ _).of_below hB2).alloc _
  ·exact ((hM.rel.alloc _).below hB2).alloc _
 have HLow : Hid (Qa5 0 start true < 2 ^ L.length) := Qu8 (Nat.two_pow_pos _) hst
 have HI : Hid (∀ R ∈ Qcl L, R < 2 ^ L.length) := fun R hR => by have := hM.rel.low R hR; rwa [show (Qcl L).length = L.length from Qti L L.length] at this
 clear hM hB2
 go_wp2_with fail
 go_loopg [7, 8] (L.length) (fun k v7 v8 wr => ∃ (seen near N : Nat) (d : List Nat), v8 = pv N ∧ LS w2.heap.size w1.heap.size b c b2 c2 L seen near N v7 d wr ∧ Below w.heap.size w wr ∧ Hid (near < 2 ^ L.length ∧ seen < 2 ^ L.length ∧ near &&& seen = 0 ∧ d.length ≤ cnt L.length seen ∧ cnt L.length seen + k = L.length ∧ ∀ rest, Qek L (Qcl L) start seen near rest → Qek L (Qcl L) start 0 (Qa5 0 start true) (d ++ rest)))
 case atStart =>
  refine ⟨0, Qa5 0 start true, w2.heap.size, [], rfl, hls, hw2.alloc hw2.size _, HLow.out, Nat.two_pow_pos _, by simp, by simp, ?_, fun rest hr => hr⟩
  simp [cnt, Qnc]
 case round =>
  clear hls
  obtain ⟨seen, near, N, d, rfl, hls, hB, HC⟩ := hrel
  obtain ⟨⟨n0, n1, n2, n3⟩, _, n5⟩ := hls.nearB.row
  have Hnl : Hid (near < 2 ^ 256) := Nat.lt_of_lt_of_le HC.out.1 (Nat.pow_le_pow_right (by omega) hl)
  go_wp2_with fail
  refine (Qlv near Hnl _).mono ?_
  rintro e w3 ⟨rfl, hB3⟩
  have hls3 := hls.step hB3
  have hBw3 := Qaa hB hB.size hB3
  clear n0 n1 n2 n3 n5 hls hB3
  cases hz : (near == 0)
  ·have Hz : Hid (near ≠ 0) := by intro e; rw [e] at hz; cases hz
   clear hz
   have hdl : d.length ≤ 256 := by have := HC.out.2.2.2.1; have := Qna L.length seen; omega
   obtain ⟨⟨n0, n1, n2, n3⟩, _, n5⟩ := hls3.nearB.row
   have ho := hls3.own
   go_wp2_with (at_builtin; refine wpList_append_own_at _ rfl _ _ 97 rfl w2.heap.size 102 i0 (.agg #[.int .u64 0, .int .u64 0, .int .u64 0, .int .u64 0]) 4 32 Tryz.underlying97 hi hz0 hz1 hz2 rfl (by decide) u7 _ _ rfl (ho.alloc _) ⟨w3.heap.size, 0, none⟩ 1 1 [.int .u64 ((wd near 0 : Nat) : Int), .int .u64 ((wd near 1 : Nat) : Int), .int .u64 ((wd near 2 : Nat) : Int), .int .u64 ((wd near 3 : Nat) : Int)] rfl rfl (Qyb _ _ _ _ _ _) (by simp [Value.oneCell']) (by unfold maxLen; omega) (by omega) (by have := hls3.nearB.lt; have := hls3.hN; simp; omega) ?_; intro v' w4 hown' hgrow _ hat)
   have hls4 := (hls3.alloc _).app hown' hgrow hat
   have hBw4 : Below w.heap.size w w4 := (hBw3.alloc hBw3.size _).grown hgrow (by have := hBw3.size; simp; omega) (fun k e => by have := QCw ho e; omega)
   clear n0 n1 n2 n3 n5 ho hown' hgrow hat hls3 hBw3 hB
   obtain ⟨y, ⟨y0, y1, y2, y3⟩, _, q1, q2⟩ := hls4.rel.slots (Qbz hst)
   obtain ⟨⟨n0, n1, n2, n3⟩, _, n5⟩ := hls4.nearB.row
   have Hand : Hid (gr L start &&& near < 2 ^ 256) := Qs0 (Nat.lt_of_lt_of_le (h.gr_lt start) (Nat.pow_le_pow_right (by omega) hl))
   go_region_held3 (fun w' => w'.cell? ⟨b, 0, none⟩ = some (.slice (some ⟨c, 0, none⟩) L.length L.length) ∧ w'.cell? ⟨c, start * 4, none⟩ = some (.int .u64 ((wd (gr L start) 0 : Nat) : Int)) ∧ w'.cell? ⟨c, start * 4 + 1, none⟩ = some (.int .u64 ((wd (gr L start) 1 : Nat) : Int)) ∧ w'.cell? ⟨c, start * 4 + 2, none⟩ = some (.int .u64 ((wd (gr L start) 2 : Nat) : Int)) ∧ w'.cell? ⟨c, start * 4 + 3, none⟩ = some (.int .u64 ((wd (gr L start) 3 : Nat) : Int)) ∧ w'.cell? ⟨N, 0, none⟩ = some (.int .u64 ((wd near 0 : Nat) : Int)) ∧ w'.cell? ⟨N, 1, none⟩ = some (.int .u64 ((wd near 1 : Nat) : Int)) ∧ w'.cell? ⟨N, 2, none⟩ = some (.int .u64 ((wd near 2 : Nat) : Int)) ∧ w'.cell? ⟨N, 3, none⟩ = some (.int .u64 ((wd near 3 : Nat) : Int))) (go_keep)
    (first | (go_at_call 157; refine (Qjt (gr L start) near _).mono ?_; rintro e w5 ⟨rfl, hB5⟩; have hls5 := hls4.drew.step hB5; clear y y0 y1 y2 y3 n0 n1 n2 n3; obtain ⟨y, ⟨y0, y1, y2, y3⟩, _, q3, q4⟩ := hls5.rel.slots (Qbz hst); obtain ⟨⟨n0, n1, n2, n3⟩, _, n6⟩ := hls5.nearB.row) | (go_at_call 112; refine (Qlv (gr L start &&& near) Hand _).mono ?_; rintro e w6 ⟨rfl, hB6⟩; have hls6 := hls5.step hB6; clear y y0 y1 y2 y3 n0 n1 n2 n3; obtain ⟨y, ⟨y0, y1, y2, y3⟩, _, q5, q6⟩ := hls6.rel.slots (Qbz hst); obtain ⟨⟨n0, n1, n2, n3⟩, _, n7⟩ := hls6.nearB.row))
   have hBw6 : Below w.heap.size w w6 := Qaa (Qaa hBw4 hBw4.size (Qcb hB5)) (Nat.le_trans hBw4.size hB5.size) hB6
   clear hB5 hB6 hls4 hls5 hBw4 y y0 y1 y2 y3 q1 q2 q3 q4 n6 n5
   cases hh : (gr L start &&& near == 0)
   ·have Hh : Hid (gr L start &&& near ≠ 0) := by intro e; rw [e] at hh; cases hh
    go_wp2_with fail
    go_ret
    refine ⟨v', d ++ [near], rfl, Qjp hls6.own (by omega), HC.out.2.2.2.2.2 [near] ⟨Hz.out, rfl, fun e => absurd e Hh.out, fun _ => rfl⟩, ?_, hBw6⟩
    have h1 := HC.out.2.2.2.1
    have h2 := Qna L.length (seen ||| near)
    rw [Qya (Qj6 HC.out.2.2.1)] at h2
    have h3 := Quh HC.out.1 Hz.out
    simp; omega
   ·have Hh : Hid (gr L start &&& near = 0) := eq_of_beq hh
    obtain ⟨⟨s0, s1, s2, s3⟩, _, s5⟩ := hls6.seenB.row
    go_wp2_with fail
    refine (Qfs seen near _ _ (by rw [Qi3]; exact Blk.new _ _ _)).mono ?_
    rintro e w7 ⟨rfl, hB7⟩
    have hls7 := (hls6.alloc _).step hB7
    have hBw7 : Below w.heap.size w w7 := Qaa (hBw6.alloc hBw6.size _) (by have := hBw6.size; simp; omega) hB7
    clear hB7 hls6 hBw6 n0 n1 n2 n3 n7 s0 s1 s2 s3 s5 q5 q6
    obtain ⟨⟨n0, n1, n2, n3⟩, _, n5⟩ := hls7.nearB.row
    obtain ⟨⟨s0, s1, s2, s3⟩, ⟨f0, f1, f2, f3⟩, s5⟩ := hls7.seenB.row
    have hNs : N ≠ w1.heap.size := by have := hls7.hN; omega
    go_wp2_with fail
    have hsz : ((((w7.setCell ⟨w1.heap.size, 0, none⟩ (.int .u64 ((wd (seen ||| near) 0 : Nat) : Int))).setCell ⟨w1.heap.size, 1, none⟩ (.int .u64 ((wd (seen ||| near) 1 : Nat) : Int))).setCell ⟨w1.heap.size, 2, none⟩ (.int .u64 ((wd (seen ||| near) 2 : Nat) : Int))).setCell ⟨w1.heap.size, 3, none⟩ (.int .u64 ((wd (seen ||| near) 3 : Nat) : Int))).heap.size = w7.heap.size := by simp [World.setCell]
    have hls8 := (hls7.setSeen (by omega) (seen ||| near)).renew
    rw [hsz] at hls8
    obtain ⟨X, hX⟩ : ∃ X, ((((w7.setCell ⟨w1.heap.size, 0, none⟩ (.int .u64 ((wd (seen ||| near) 0 : Nat) : Int))).setCell ⟨w1.heap.size, 1, none⟩ (.int .u64 ((wd (seen ||| near) 1 : Nat) : Int))).setCell ⟨w1.heap.size, 2, none⟩ (.int .u64 ((wd (seen ||| near) 2 : Nat) : Int))).setCell ⟨w1.heap.size, 3, none⟩ (.int .u64 ((wd (seen ||| near) 3 : Nat) : Int))).alloc (.cells #[.int .u64 ((wd near 0 : Nat) : Int), .int .u64 ((wd near 1 : Nat) : Int), .int .u64 ((wd near 2 : Nat) : Int), .int .u64 ((wd near 3 : Nat) : Int)] 102) = X := ⟨_, rfl⟩
    have hls9 : LS w2.heap.size w1.heap.size b c b2 c2 L (seen ||| near) near w7.heap.size v' (d ++ [near]) X := by rw [← hX]; exact hls8
    have hBX : Below w.heap.size w X := by rw [← hX]; exact (Qbf hBw7 (by omega) _ _ _ _ _ _ _ _).alloc (by rw [hsz]; exact hBw7.size) _
    rw [hX]
    clear hX hls8 hsz hls7 hBw7 n0 n1 n2 n3 n5 s0 s1 s2 s3 s5 f0 f1 f2 f3
    obtain ⟨⟨n0, n1, n2, n3⟩, _, n5⟩ := hls9.nearB.row
    obtain ⟨⟨s0, s1, s2, s3⟩, _, s5⟩ := hls9.seenB.row
    go_region_with (first | (go_at_call 154; refine (Qjk b2 c2 (Qcl L) near _ hls9.drew.back hls9.drew.tab).mono ?_; rintro e w8 ⟨rfl, hB8⟩; have hlsA := hls9.drew.step hB8; clear n0 n1 n2 n3 s0 s1 s2 s3; obtain ⟨⟨s0, s1, s2, s3⟩, _, s6⟩ := hlsA.seenB.row) | (go_at_call 156; refine (Qj8 (Qao (Qcl L) (Qag near)) (seen ||| near) _).mono ?_; rintro e w9 ⟨rfl, hB9⟩; have hlsB := hlsA.step hB9; clear s0 s1 s2 s3; obtain ⟨⟨n0, n1, n2, n3⟩, ⟨f0, f1, f2, f3⟩, n6⟩ := hlsB.nearB.row))
    all_goals
     go_wp2_with fail
     have hBw9 : Below w.heap.size w w9 := Qaa (Qaa hBX hBX.size (Qcb hB8)) (Nat.le_trans hBX.size hB8.size) hB9
     have hc1 := HC.out.2.2.2.1
     have hc2 := HC.out.2.2.2.2.1
     have hc3 := Quh HC.out.1 Hz.out
     have hc4 := Qya (n := L.length) (Qj6 HC.out.2.2.1)
     have hc5 := Qna L.length (seen ||| near)
     go_roundg (L.length - cnt L.length (seen ||| near))
     case measure => omega
     case rel =>
      refine ⟨seen ||| near, Qc8 (Qao (Qcl L) (Qag near)) (seen ||| near), w7.heap.size, d ++ [near], rfl, hlsB.setNear _, Qbf hBw9 ?_ _ _ _ _ _ _ _ _, Qs1 (Qin HI.out _), Qqr HC.out.2.1 HC.out.1, Qoe _ _, by simp; omega, by omega, fun rest hr => ?_⟩
      ·have := hls9.hN; have := hw2.size; omega
      ·have := HC.out.2.2.2.2.2 (near :: rest) ⟨Hz.out, rfl, fun _ => hr, fun e => absurd Hh.out e⟩
       simpa using this
  ·have Hz : Hid (near = 0) := eq_of_beq hz
   go_wp2_with fail
   go_ret
   refine ⟨u7, d, rfl, Qjp hls3.own (by omega), ?_, by have := HC.out.2.2.2.1; have := Qna L.length seen; omega, hBw3⟩
   have := HC.out.2.2.2.2.2 [] Hz.out
   rwa [List.append_nil] at this
attribute [local go_sem] Oper.semAt_some
def Qcu (L : List Nat) : Nat → List Nat → List Nat
 | _, [] => []
 | last, X :: rest => match Qag (gr L last &&& X) with
  | [] => Qcu L last rest
  | q :: _ => q :: Qcu L q rest
def Qcm (ly : List Nat) (i : Nat) : List Nat := ((ly.take (i + 1)).drop 1).reverse
theorem Qyc (ly : List Nat) : Qcm ly 0 = [] := by simp [Qcm]
theorem Qyd {ly : List Nat} {i : Nat} (h : i + 1 < ly.length) : Qcm ly (i + 1) = gr ly (i + 1) :: Qcm ly i := by
 unfold Qcm
 rw [List.take_add_one (i := i + 1), Qbz h]
 rw [List.drop_append_of_le_length (by simp; omega)]
 simp
theorem QAf (n : Nat) (b c : Nat) (L : List Nat) (start : Nat) (w : World) (h : IsRel w b c L) (hT : Tab w) (hst : start < L.length) :
  CallsIn Fence.wide n Tryz.prog 171 #[pv b, .int .i64 start] w fun e w' => ∃ v out, e = .returned v ∧ w'.ownsRow w.heap.size 102 4 v out.length (Qgh out) ∧ Qek L (Qcl L) start 0 (Qa5 0 start true) out ∧ out.length ≤ 256 ∧ Below w.heap.size w w' := callsIn_wide.2 (Qrc b c L start w h hT hst)
theorem Tryz.infointC : (Tryz.prog.info? 3).map (fun i => (i.zero, i.size, i.bytes)) = some (some (.int .i64 0), 1, 8) := by kernel_rfl
def Qc0 (l : List Nat) : List Value := l.map (fun x => .int .i64 ((x : Nat) : Int))
theorem Qye (l : List Nat) (x : Nat) : Qc0 (l ++ [x]) = Qc0 l ++ [.int .i64 ((x : Nat) : Int)] := by simp [Qc0]
theorem QAg (R : Nat) (w : World) :
  Calls Tryz.prog 72 #[rv R] w fun e w' => e = .returned (.func (.func 114) #[] #[.pointer (some ⟨w.heap.size, 0, none⟩)]) ∧ w' = w.alloc (.cells (rcs R) 102) := (callsIn_wide (n := 1)).1 (Qd8 Fence.wide 1 trivial rfl R w)
structure RowsIn (w : World) (g : Nat) (ly : List Nat) : Prop where
 ex : ∃ cur, Blk w g 102 cur ∧ cur.toList.take (ly.length * 4) = Qgh ly
theorem RowsIn.lt {w : World} {g : Nat} {ly : List Nat} (h : RowsIn w g ly) : g < w.heap.size := by obtain ⟨cur, hb, _⟩ := h.ex; exact hb.lt
theorem RowsIn.below {w w' : World} {g n : Nat} {ly : List Nat} (h : RowsIn w g ly) (hb : Below n w w') (hn : g < n) : RowsIn w' g ly := by
 obtain ⟨cur, hk, e⟩ := h.ex
 exact ⟨cur, hk.below hb hn, e⟩
theorem RowsIn.grown {w w' : World} {g : Nat} {ly : List Nat} {row : Option Nat} (h : RowsIn w g ly) (hg : w.grownBy w' row) (hne : some g ≠ row) : RowsIn w' g ly := by
 obtain ⟨cur, hk, e⟩ := h.ex
 exact ⟨cur, hk.grown hg hne, e⟩
theorem RowsIn.other {w : World} {g : Nat} {ly : List Nat} (h : RowsIn w g ly) {a : Addr} (hne : g ≠ a.block) (v : Value) : RowsIn (w.setCell a v) g ly := by
 obtain ⟨cur, hk, e⟩ := h.ex
 exact ⟨cur, hk.setOther hne v, e⟩
theorem RowsIn.cells {w : World} {g : Nat} {ly : List Nat} (h : RowsIn w g ly) {i : Nat} (hi : i < ly.length) :
  w.cell? ⟨g, i * 4, none⟩ = some (.int .u64 ((wd (gr ly i) 0 : Nat) : Int)) ∧ w.cell? ⟨g, i * 4 + 1, none⟩ = some (.int .u64 ((wd (gr ly i) 1 : Nat) : Int)) ∧ w.cell? ⟨g, i * 4 + 2, none⟩ = some (.int .u64 ((wd (gr ly i) 2 : Nat) : Int)) ∧ w.cell? ⟨g, i * 4 + 3, none⟩ = some (.int .u64 ((wd (gr ly i) 3 : Nat) : Int)) := by
 obtain ⟨cur, hk, e⟩ := h.ex
 have key : ∀ j, j < 4 → cur[i * 4 + j]? = some (.int .u64 ((wd (gr ly i) j : Nat) : Int)) := by
  intro j hj
  have h1 := Qmp ly i j (gr ly i) hj (Qbz hi)
  rw [show ly.flatMap (fun R => (rcs R).toList) = Qgh ly from rfl, ← e, List.getElem?_take_of_lt (by omega), Nat.mul_comm 4 i] at h1
  simpa using h1
 exact ⟨hk.cell (key 0 (by omega)), hk.cell (key 1 (by omega)), hk.cell (key 2 (by omega)), hk.cell (key 3 (by omega))⟩
theorem Qyf {w : World} {base g cap n : Nat} {ly : List Nat} (h : w.ownsRow base 102 4 (.slice (some ⟨g, 0, none⟩) n cap) n (Qgh ly)) (hn : ly.length = n) : RowsIn w g ly ∧ base ≤ g := by
 rcases h.2 with ⟨e, _⟩ | ⟨g', cap', cur, e, h4, h5, _, _, _, h6⟩
 ·cases e
 ·cases e
  rw [← hn] at h6
  exact ⟨⟨cur, h5, h6⟩, h4⟩
theorem Qpj {w : World} {base : Nat} {v : Value} {o : List Nat} {x : Nat} (h : w.ownsRow base 3 1 v (o.length + 1) (Qc0 (o ++ [x]))) : ∃ og cap, v = .slice (some ⟨og, 0, none⟩) (o.length + 1) cap ∧ base ≤ og ∧ og < w.heap.size ∧ w.cell? ⟨og, o.length, none⟩ = some (.int .i64 ((x : Nat) : Int)) := by
 rcases h.2 with ⟨_, e⟩ | ⟨g, cap, cur, rfl, h4, h5, _, _, _, h6⟩
 ·omega
 ·refine ⟨g, cap, rfl, h4, (Array.getElem?_eq_some_iff.1 h5).1, ?_⟩
  have hk : Blk w g 3 cur := h5
  apply hk.cell
  have : (Qc0 (o ++ [x]))[o.length]? = some (.int .i64 ((x : Nat) : Int)) := by simp [Qc0]
  rw [← h6, List.getElem?_take_of_lt (by omega)] at this
  simpa using this
theorem Qrd (b c : Nat) (L : List Nat) (start : Nat) (w : World) (h : IsRel w b c L) (hT : Tab w) (hst : start < L.length) :
  CallsIn Fence.wide 6 Tryz.prog 158 #[pv b, .int .i64 start] w fun e w' => ∃ v ly, e = .returned v ∧ Qek L (Qcl L) start 0 (Qa5 0 start true) ly ∧ w'.ownsRow w.heap.size 3 1 v (start :: Qcu L start (Qcm ly (ly.length - 1))).length (Qc0 (start :: Qcu L start (Qcm ly (ly.length - 1)))) ∧ Below w.heap.size w w' := by
 have hl := h.len
 refine callsIn_of_wp_marks Tryz.func158 rfl trivial ?_ rfl
 simp only [Tryz.ntmps158, List.size_toArray, List.length_cons, List.length_nil, Nat.reduceAdd, Nat.reduceSub, Array.replicate_succ, Array.replicate_zero, List.push_toArray, List.append_toArray, List.nil_append, List.cons_append]
 gi_wp2_with fail
 refine ⟨trivial, ?_⟩
 refine (QAf _ b c L start _ ((h.alloc _).alloc _) ((hT.alloc _).alloc _) hst).mono ?_
 rintro e w1 ⟨v, ly, rfl, hown, hly, hlen, hB1⟩
 obtain ⟨m, hm⟩ : ∃ m, ly.length = m + 1 := by
  cases ly with
  | nil => exact absurd hly (by simp [Qek, Qa5])
  | cons x r => exact ⟨r.length, rfl⟩
 rw [hm] at hown
 obtain ⟨g, cap, rfl⟩ := ownsRow_succ hown
 have hszz : ((w.alloc (Obj.cells #[Value.int IntKind.i64 ↑start] 3)).alloc (Obj.cells #[Value.slice (some ⟨w.heap.size, 0, none⟩) 1 1] 36)).heap.size = w.heap.size + 2 := by simp
 obtain ⟨hrows, hgb⟩ := Qyf hown hm
 rw [hszz] at hgb
 have hBw1 : Below w.heap.size w w1 := (((Below.refl _ w).alloc (Nat.le_refl _) _).alloc (by simp) _).trans (hB1.mono (by rw [hszz]; omega))
 have hbx1 : Boxed w1 (w.heap.size + 1) 36 (.slice (some ⟨w.heap.size, 0, none⟩) 1 1) := (Blk.new2 w _ _ _).of_below hB1
 have how1 : w1.ownsRow w.heap.size 3 1 (.slice (some ⟨w.heap.size, 0, none⟩) 1 1) 1 (Qc0 [start]) := by
  refine ⟨rfl, .inr ⟨w.heap.size, 1, #[.int .i64 ((start : Nat) : Int)], rfl, Nat.le_refl _, ((Blk.new w _ _).alloc _).of_below hB1, Nat.le_refl _, by unfold maxLen; omega, rfl, rfl⟩⟩
 obtain ⟨i0, hi, hz0, hz1, hz2⟩ := info_parts Tryz.infointC
 have Hm : Hid (ly.length = m + 1) := hm
 have hm256 : m + 1 ≤ 256 := by omega
 clear hm hlen
 gi_wp2_with fail
 clear hown hB1 hszz
 refine wpIn_loop (fun a wr => ∃ (i : Nat) (Ds : List Nat) (o : List Nat) (lst : Nat) (u8 u17 u18 u19 u20 u21 u22 u23 u24 u25 u26 u27 u28 u29 u30 u31 u32 u33 u34 u35 u36 u37 u38 u39 u40 u41 u42 u43 : Value), (i ≤ m ∧ lst < L.length ∧ o.length + i ≤ m ∧ Hid (start :: Qcu L start (Qcm ly m) = (o ++ [lst]) ++ Qcu L lst (Qcm ly i)) ∧ (∃ v, Boxed wr (w.heap.size + 1) 36 v ∧ wr.ownsRow w.heap.size 3 1 v (o.length + 1) (Qc0 (o ++ [lst]))) ∧ RowsIn wr g ly ∧ Below w.heap.size w wr ∧ Marks w.heap.size wr Ds) ∧ a = { tmps := #[pv b, .int .i64 start, undef, undef, .slice none 0 0, pv (w.heap.size + 1), .slice (some ⟨g, 0, none⟩) (m + 1) cap, .int .i64 i, u8, .int .i64 start, .slice (some ⟨w.heap.size, 0, none⟩) 1 1, pv b, .int .i64 start, .slice (some ⟨g, 0, none⟩) (m + 1) cap, .slice (some ⟨g, 0, none⟩) (m + 1) cap, .int .i64 (m + 1), .int .i64 m, u17, u18, u19, u20, u21, u22, u23, u24, u25, u26, u27, u28, u29, u30, u31, u32, u33, u34, u35, u36, u37, u38, u39, u40, u41, u42, u43, undef], defers := Ds.map Qv4 })
  (fun a _ => (intOf (a.tmps.getD 7 undef)).toNat) ?start ?round
 case start =>
  exact ⟨m, [], [], start, _, _, _, _, _, _, _, _, _, _, _, _, _, _, _, _, _, _, _, _, _, _, _, _, _, _, _, _, ⟨by omega, hst, by simp, rfl, ⟨_, hbx1, how1⟩, hrows, hBw1, Marks.nil _ _⟩, rfl⟩
 case round =>
  clear hbx1 how1 hrows
  rintro _ wr ⟨i, Ds, o, lst, u8, u17, u18, u19, u20, u21, u22, u23, u24, u25, u26, u27, u28, u29, u30, u31, u32, u33, u34, u35, u36, u37, u38, u39, u40, u41, u42, u43, ⟨him, hlst, hol, HC, ⟨v, hv, hrow⟩, hrw, hB, hD⟩, rfl⟩
  obtain ⟨og, ocap, rfl, hog, hogl, hlc⟩ := Qpj hrow
  by_cases hpos : 0 < i
  ·have hro := h.below hB
   obtain ⟨y, ⟨y0, y1, y2, y3⟩, _, q1, q2⟩ := hro.slots (Qbz hlst)
   obtain ⟨x0, x1, x2, x3⟩ := hrw.cells (i := i) (by rw [Hm.out]; omega)
   have k0 := hv.cell
   have q3 := hv.lt
   have q4 := hrw.lt
   have hd : decide ((0 : Int) < (i : Int)) = true := decide_eq_true (by omega)
   have him2 : i < m + 1 := by omega
   have hi1 : (0 : Int) ≤ (i : Int) := by omega
   have hi2 : (i : Int) < (m : Int) + 1 := by omega
   have ho1 : (0 : Int) ≤ (o.length : Int) := by omega
   have ho2 : (o.length : Int) ≤ 256 := by omega
   have ho3 : (o.length : Int) < (o.length : Int) + 1 := by omega
   have hw2 : IntKind.i64.wrap (o.length : Int) = (o.length : Int) := by rw [IntKind.wrap_i64]; omega
   have ho4 : ¬ ((o.length : Int) + 1 ≤ (o.length : Int)) := by omega
   have ho5 : ¬ ((o.length : Int) < 0) := by omega
   have ho6 : o.length < o.length + 1 := by omega
   gi_wp2_with fail
   refine wpIn_wide.2 ?_
   go_region_held3 (fun w' => w'.cell? ⟨b, 0, none⟩ = some (.slice (some ⟨c, 0, none⟩) L.length L.length) ∧ w'.cell? ⟨w.heap.size + 1, 0, none⟩ = some (.slice (some ⟨og, 0, none⟩) (o.length + 1) ocap) ∧ w'.cell? ⟨og, o.length, none⟩ = some (.int .i64 ((lst : Nat) : Int)) ∧ w'.cell? ⟨c, lst * 4, none⟩ = some (.int .u64 ((wd (gr L lst) 0 : Nat) : Int)) ∧ w'.cell? ⟨c, lst * 4 + 1, none⟩ = some (.int .u64 ((wd (gr L lst) 1 : Nat) : Int)) ∧ w'.cell? ⟨c, lst * 4 + 2, none⟩ = some (.int .u64 ((wd (gr L lst) 2 : Nat) : Int)) ∧ w'.cell? ⟨c, lst * 4 + 3, none⟩ = some (.int .u64 ((wd (gr L lst) 3 : Nat) : Int)) ∧ w'.cell? ⟨g, i * 4, none⟩ = some (.int .u64 ((wd (gr ly i) 0 : Nat) : Int)) ∧ w'.cell? ⟨g, i * 4 + 1, none⟩ = some (.int .u64 ((wd (gr ly i) 1 : Nat) : Int)) ∧ w'.cell? ⟨g, i * 4 + 2, none⟩ = some (.int .u64 ((wd (gr ly i) 2 : Nat) : Int)) ∧ w'.cell? ⟨g, i * 4 + 3, none⟩ = some (.int .u64 ((wd (gr ly i) 3 : Nat) : Int))) (go_keep)
    (first | (go_at_call 157; refine (Qjt (gr L lst) (gr ly i) _).mono ?_; rintro e w2 ⟨rfl, hB2⟩; have hB2' := Qcb hB2; clear y y0 y1 y2 y3 x0 x1 x2 x3 k0 hlc; have hv2 : Boxed w2 (w.heap.size + 1) 36 (.slice (some ⟨og, 0, none⟩) (o.length + 1) ocap) := (hB2'.block _ q3).trans hv; have hrow2 := Qpi hrow hB2'; obtain ⟨og', ocap', eog, _, hogl2, hlc⟩ := Qpj hrow2; cases eog; obtain ⟨y, ⟨y0, y1, y2, y3⟩, _, q5, q6⟩ := (hro.below hB2').slots (Qbz hlst); have hrw2 := hrw.below hB2' q4; obtain ⟨x0, x1, x2, x3⟩ := hrw2.cells (i := i) (by rw [Hm.out]; omega); have k0 := hv2.cell; have q7 := hv2.lt; have q8 := hrw2.lt) | (go_at_call 72; refine (QAg (gr L lst &&& gr ly i) _).mono ?_; rintro e w' ⟨rfl, rfl⟩))
   have hBw2 : Below w.heap.size w w2 := Qaa hB hB.size hB2'
   have hT2 := hT.step hBw2
   have hD2 := hD.keeps (Qf9 hB2')
   have hDlt := hD2.lt
   have hs2 := hBw2.size
   have htp := hT.pos
   have HB : Hid (∃ j, i = j + 1 ∧ Qcu L lst (Qcm ly i) = (match Qag (gr L lst &&& gr ly i) with | [] => Qcu L lst (Qcm ly j) | q :: _ => q :: Qcu L q (Qcm ly j))) := by
    obtain ⟨j, rfl⟩ : ∃ j, i = j + 1 := ⟨i - 1, by omega⟩
    refine ⟨j, rfl, ?_⟩
    rw [Qyd (by rw [Hm.out]; omega)]
    rfl
   have HML : Hid (∀ q, q ∈ Qag (gr L lst &&& gr ly i) → q < L.length) := by
    intro q hq
    have h1 := (Qbt.1 hq).2
    apply Nat.lt_of_not_le
    intro hle
    rw [Qco (Qs0 (hro.gr_lt lst)) hle] at h1
    cases h1
   generalize hMM : gr L lst &&& gr ly i = M at *
   clear y y0 y1 y2 y3 x0 x1 x2 x3 k0 hlc hi1 hi2 ho1 ho2 ho3 ho4 ho5 ho6 hw2 hMM hv hrow hrw hB hD hB2 hB2' hro q1 q2 q3 q4 q5 q6
   gi_wp2
   refine wpIn_rangeFunc_ownF rfl (by omega) (gf := 114) (lb := #[.pointer (some ⟨w2.heap.size, 0, none⟩)]) rfl trivial (enters_of Tryz.func114 (by kernel_rfl) rfl)
    (Qct M w2.heap.size (6 - 1) (by omega) _ ?hB ?hT) belowK_t (belowK_b (by simp)) (Below.refl _ _) (fun _ => rfl)
    (fun pre W => w2.heap.size + 1 ≤ W.heap.size ∧ pre = [] ∧ Boxed W (w.heap.size + 1) 36 (.slice (some ⟨og, 0, none⟩) (o.length + 1) ocap) ∧ W.ownsRow w.heap.size 3 1 (.slice (some ⟨og, 0, none⟩) (o.length + 1) ocap) (o.length + 1) (Qc0 (o ++ [lst])) ∧ RowsIn W g ly ∧ Tab W ∧ Marks w.heap.size W Ds ∧ Below w.heap.size w W)
    (fun cd pre W => w2.heap.size + 1 ≤ W.heap.size ∧ cd = .exit 2 ∧ ∃ q v, Qb2 pre = [q] ∧ q ∈ Qag M ∧ Boxed W (w.heap.size + 1) 36 v ∧ W.ownsRow w.heap.size 3 1 v ((o ++ [lst]).length + 1) (Qc0 ((o ++ [lst]) ++ [q])) ∧ RowsIn W g ly ∧ Tab W ∧ Marks w.heap.size W Ds ∧ Below w.heap.size w W)
    ?hI ?hIx ?h0
    (fun x => { tmps := #[pv b, .int .i64 start, undef, undef, .slice none 0 0, pv (w.heap.size + 1), .slice (some ⟨g, 0, none⟩) (m + 1) cap, .int .i64 i, .int .i64 ((x.1 : Nat) : Int), .int .i64 start, .slice (some ⟨w.heap.size, 0, none⟩) 1 1, pv b, .int .i64 start, .slice (some ⟨g, 0, none⟩) (m + 1) cap, .slice (some ⟨g, 0, none⟩) (m + 1) cap, .int .i64 (m + 1), .int .i64 m, .int .i64 i, .bool true, u19, u20, pv b, pv b, pv b, .slice (some ⟨c, 0, none⟩) L.length L.length, .slice (some ⟨og, 0, none⟩) (o.length + 1) ocap, .slice (some ⟨og, 0, none⟩) (o.length + 1) ocap, .int .i64 (o.length + 1), .int .i64 o.length, .pointer (some ⟨og, o.length, none⟩), .int .i64 lst, .pointer (some ⟨c, lst * 4, none⟩), rv (gr L lst), .slice (some ⟨g, 0, none⟩) (m + 1) cap, .int .i64 i, .pointer (some ⟨g, i * 4, none⟩), rv (gr ly i), rv M, .func (.func 114) #[] #[.pointer (some ⟨w2.heap.size, 0, none⟩)], .int .i64 ((x.1 : Nat) : Int), u40, u41, u42, u43, undef], defers := [] }) ?assign ?body ?done ?stop
   case hB => exact Blk.new _ _ _
   case hT => exact hT2.alloc _
   case hI =>
    refine Qef (fun s W hi => by simpa using hi.1) ?_
    rintro s W W' ⟨h1, h2, h3, h4, h5, h6, h7, h8⟩ hb' ho
    have hb' : Below (w2.heap.size + 1) W W' := by simpa using hb'
    exact ⟨Nat.le_trans h1 hb'.size, h2, (hb'.block _ (by omega)).trans h3, ho _ _ _ _ _ _ h4, h5.below hb' (by omega), h6.below hb' (by omega), h7.below hb' (fun D hD => by have := hDlt D hD; omega), h8.trans (hb'.mono (by omega))⟩
   case hIx =>
    intro cd
    refine Qef (fun s W hi => by simpa using hi.1) ?_
    rintro s W W' ⟨h1, h2, q, v, h9, h10, h3, h4, h5, h6, h7, h8⟩ hb' ho
    have hb' : Below (w2.heap.size + 1) W W' := by simpa using hb'
    exact ⟨Nat.le_trans h1 hb'.size, h2, q, v, h9, h10, (hb'.block _ (by omega)).trans h3, ho _ _ _ _ _ _ h4, h5.below hb' (by omega), h6.below hb' (by omega), h7.below hb' (fun D hD => by have := hDlt D hD; omega), h8.trans (hb'.mono (by omega))⟩
   case h0 =>
    exact ⟨by simp, rfl, hv2.alloc _, hrow2.alloc _, hrw2.below ((Below.refl _ _).alloc (Nat.le_refl _) _) hrw2.lt, hT2.alloc _, hD2.keeps (KeepsOthers.alloc _ _), hBw2.alloc hs2 _⟩
   case assign =>
    intro l x W K hK
    gi_wp2
    exact hK
   case body =>
    rintro l pre x W ⟨h1, rfl, h3, h4, h5, h6, h7, h8⟩ _
    have k0 := h3.cell
    have hs8 := h8.size
    gi_wp2_with (gi_at_builtin; refine wpListIn_append_own _ rfl _ _ 36 rfl w.heap.size 3 i0 (.int .i64 0) 1 8 Tryz.underlying36 hi hz0 hz1 hz2 rfl (by decide) (.slice (some ⟨og, 0, none⟩) (o.length + 1) ocap) _ _ rfl (h4.alloc _) ⟨W.heap.size, 0, none⟩ 1 1 [.int .i64 ((x.1 : Nat) : Int)] rfl rfl (cell_one_new _ _ _) (by simp [Value.oneCell']) (by unfold maxLen; omega) (by omega) (by simp; omega) ?_; intro v' w3 hown' hgrow _; obtain ⟨g', cap', rfl⟩ := ownsRow_succ hown'; obtain ⟨hv1, hv3, hr2, hk2, hb2⟩ := h3.appended (by decide) h4 hs8 (by omega) hown' hgrow; have hc1 := hv1.cell; have hf1 := hv1.frozen)
    refine ⟨hk2, Nat.le_trans h1 hk2.size, rfl, x.1, _, rfl, x.2, hv3, ?_, ?_, h6.below hb2 (by omega), h7.keeps hk2, h8.trans hb2⟩
    ·rw [Qye, List.length_append]; exact hr2
    ·obtain ⟨cur, hk, e⟩ := h5.ex
     have hne : some g ≠ (Value.slice (some ⟨og, 0, none⟩) (o.length + 1) ocap).ownBlock := by
      intro e'
      obtain rfl : g = og := by simpa [Value.ownBlock] using e'
      rcases h4.2 with ⟨e2, _⟩ | ⟨g2, cap2, cur2, e2, _, hgb2, _⟩
      ·cases e2
      ·cases e2
       have := hk.symm.trans hgb2
       simp at this
     exact ((⟨cur, hk.alloc _, e⟩ : RowsIn (W.alloc _) g ly).grown hgrow hne).other (by simp; omega) _
   case done =>
    rintro D ys W hDD hys ⟨h1, rfl, h3, h4, h5, h6, h7, h8⟩ hK
    have hnil : Qag M = [] := hys.symm
    obtain ⟨j, rfl, hcy⟩ := HB.out
    rw [hnil] at hcy
    have HC2 : Hid (start :: Qcu L start (Qcm ly m) = (o ++ [lst]) ++ Qcu L lst (Qcm ly j)) := by show _ = _; rw [HC.out, hcy]
    clear hcy HB
    gi_wp2
    have hm2 : Marks w.heap.size W (D :: Ds) := h7.cons hK (by simp at hDD; omega) (fun E hE => by have := hDlt E hE; simp at hDD; omega)
    refine ⟨?_, ?_⟩
    ·refine ⟨j, D :: Ds, o, lst, ?_⟩
     repeat apply Exists.intro
     exact ⟨⟨by omega, hlst, by omega, HC2, ⟨_, h3, h4⟩, h5, h8, hm2⟩, rfl⟩
    ·simp [intOf]
   case stop =>
    rintro D cd pre W hDD hpre ⟨h1, rfl, q, v, hq, hqm, h3, h4, h5, h6, h7, h8⟩ hK
    rw [hq] at hpre
    obtain ⟨tl, htl⟩ := hpre
    obtain ⟨j, rfl, hcy⟩ := HB.out
    rw [← htl] at hcy
    have HC2 : Hid (start :: Qcu L start (Qcm ly m) = ((o ++ [lst]) ++ [q]) ++ Qcu L q (Qcm ly j)) := by show _ = _; rw [HC.out, hcy]; simp
    have hqL := HML.out q hqm
    clear hcy HB htl
    gi_wp2
    have hm2 : Marks w.heap.size W (D :: Ds) := h7.cons hK (by simp at hDD; omega) (fun E hE => by have := hDlt E hE; simp at hDD; omega)
    refine ⟨?_, ?_⟩
    ·refine ⟨j, D :: Ds, o ++ [lst], q, ?_⟩
     repeat apply Exists.intro
     exact ⟨⟨by omega, hqL, by simp; omega, HC2, ⟨_, h3, h4⟩, h5, h8, hm2⟩, rfl⟩
    ·simp [intOf]
  ·obtain rfl : i = 0 := by omega
   have k0 := hv.cell
   gi_wp2
   refine Qd1 hD ⟨_, results_tmp rfl _ _ _, _, ly, rfl, hly, ?_, hB.trans (Qfq hD)⟩
   have e : start :: Qcu L start (Qcm ly (ly.length - 1)) = o ++ [lst] := by
    rw [Hm.out, Nat.add_sub_cancel, HC.out, Qyc]; simp [Qcu]
   have e2 : (Qcu L start (Qcm ly (ly.length - 1))).length + 1 = o.length + 1 := by have := congrArg List.length e; simpa using this
   rw [e, e2]
   exact Qib hD hrow
theorem Qnb (b c : Nat) (L : List Nat) (start : Nat) (w : World) (h : IsRel w b c L) (hT : Tab w) (hst : start < L.length) :
  Calls Tryz.prog 158 #[pv b, .int .i64 start] w fun e w' => ∃ v ly, e = .returned v ∧ Qek L (Qcl L) start 0 (Qa5 0 start true) ly ∧ w'.ownsRow w.heap.size 3 1 v (start :: Qcu L start (Qcm ly (ly.length - 1))).length (Qc0 (start :: Qcu L start (Qcm ly (ly.length - 1)))) ∧ Below w.heap.size w w' := callsIn_wide.1 (Qrd b c L start w h hT hst)
end Go.Proofs.YtdkogbfamdnheaaGreatDoor
namespace Go.Proofs.YtdkogbfamdnheaaGreatDoor
open Go.RowKit Go.Shelf Sx
set_option maxRecDepth 100000
set_option maxHeartbeats 16000000
set_option linter.unusedSimpArgs false
set_option linter.unusedVariables false
attribute [local go_sem] Oper.semAt_some
theorem Qof (L : List Nat) (k p : Nat) : (Qey L k).testBit p = (decide (p < k) && (gr L p).testBit p) := by
 induction k with
 | zero => simp [Qey]
 | succ k ih =>
  rw [Qlp, Qcx, ih]
  by_cases h : p = k
  ·subst h; simp
  ·rw [if_neg h]
   by_cases h2 : p < k
   ·rw [decide_eq_true h2, decide_eq_true (show p < k + 1 by omega)]
   ·rw [decide_eq_false h2, decide_eq_false (show ¬ p < k + 1 by omega)]
theorem Qyg (L : List Nat) : Qdw L < 2 ^ L.length := Qdd fun i hi => by rw [Qdw, Qof, decide_eq_false (by omega), Bool.false_and]
theorem Qre (L : List Nat) : (Qfz L).length = L.length := Qk4 L L.length
def Qel (L out : List Nat) : Prop :=
 (Qag (Qdw (Qfz L)) = [] ∧ out = []) ∨ ∃ s tl ly, Qag (Qdw (Qfz L)) = s :: tl ∧ Qek L (Qcl L) s 0 (Qa5 0 s true) ly ∧ out = s :: Qcu L s (Qcm ly (ly.length - 1))
theorem QAh (b c : Nat) (L : List Nat) (w : World) (h : IsRel w b c L) (hT : Tab w) :
  CallsIn Fence.wide 6 Tryz.prog 139 #[pv b] w fun e w' => ∃ v out, e = .returned v ∧ Qel L out ∧ w'.ownsRow w.heap.size 3 1 v out.length (Qc0 out) ∧ Below w.heap.size w w' := by
 have hl := h.len
 have hT2 := (hT.alloc (.cells #[pv b] 42)).alloc (.cells #[.slice none 0 0] 36)
 have h2 := (h.alloc (.cells #[pv b] 42)).alloc (.cells #[.slice none 0 0] 36)
 refine callsIn_of_wp_marks Tryz.func139 rfl trivial ?_ rfl
 simp only [Tryz.ntmps139, List.size_toArray, List.length_cons, List.length_nil, Nat.reduceAdd, Nat.reduceSub, Array.replicate_succ, Array.replicate_zero, List.push_toArray, List.append_toArray, List.nil_append, List.cons_append]
 gi_wp2_with fail
 refine ⟨trivial, ?_⟩
 refine (callsIn_wide.2 (Qxd b c L _ h2)).mono ?_
 rintro e w1 ⟨b2, c2, rfl, hM⟩
 have hB1 : Below w.heap.size w w1 := (((Below.refl _ w).alloc (Nat.le_refl _) _).alloc (by simp) _).trans (hM.below.mono (by simp; omega))
 have hbx1 : Blk w1 w.heap.size 42 #[pv b] := ((Blk.new w _ _).alloc _).of_below hM.below
 have hrs1 : Boxed w1 (w.heap.size + 1) 36 (.slice none 0 0) := (Blk.new2 w _ _ _).of_below hM.below
 gi_wp2_with fail
 refine ⟨trivial, ?_⟩
 refine (callsIn_wide.2 (Qth b2 c2 (Qfz L) _ hM.rel)).mono ?_
 rintro e w2 ⟨rfl, hB2⟩
 have hBw2 : Below w.heap.size w w2 := Qaa hB1 hB1.size hB2
 have hbx2 := hbx1.of_below hB2
 have hrs2 : Boxed w2 (w.heap.size + 1) 36 (.slice none 0 0) := Blk.of_below hrs1 hB2
 have hTw2 := hT.step hBw2
 have HL : Hid (∀ p, p ∈ Qag (Qdw (Qfz L)) → p < L.length) := by
  intro p hp
  have h1 := (Qbt.1 hp).2
  apply Nat.lt_of_not_le
  intro hle
  have := Qyg (Qfz L)
  rw [Qre] at this
  rw [Qco this hle] at h1
  cases h1
 have HC : Hid (∀ out, ((Qag (Qdw (Qfz L)) = [] ∧ out = []) ∨ ∃ s tl ly, Qag (Qdw (Qfz L)) = s :: tl ∧ Qek L (Qcl L) s 0 (Qa5 0 s true) ly ∧ out = s :: Qcu L s (Qcm ly (ly.length - 1))) → Qel L out) := fun _ h => h
 generalize Qdw (Qfz L) = M at *
 clear hB2 hB1 hM hbx1 hrs1 h2 hT2
 have hs2 := hBw2.size
 have hp := hT.pos
 have hs3 := hbx2.lt
 have hs4 := hrs2.lt
 gi_wp2_with (refine ⟨trivial, ?_⟩; gi_at_call 72; refine (Qd8 Fence.wide _ trivial rfl M _).mono ?_; rintro e w' ⟨rfl, rfl⟩)
 refine wpIn_rangeFunc_ownF rfl (by omega) (gf := 114) (lb := #[.pointer (some ⟨w2.heap.size, 0, none⟩)]) rfl trivial (enters_of Tryz.func114 (by kernel_rfl) rfl)
  (Qct M w2.heap.size (6 - 1) (by omega) _ ?hB ?hT) belowK_t (belowK_b (by simp)) (Below.refl _ _) (fun _ => rfl)
  (fun pre W => w2.heap.size + 1 ≤ W.heap.size ∧ pre = [] ∧ Blk W w.heap.size 42 #[pv b] ∧ Boxed W (w.heap.size + 1) 36 (.slice none 0 0) ∧ Tab W ∧ Below w.heap.size w W)
  (fun cd pre W => w2.heap.size + 1 ≤ W.heap.size ∧ cd = .ret ∧ ∃ q v ly, Qb2 pre = [q] ∧ Qek L (Qcl L) q 0 (Qa5 0 q true) ly ∧ Boxed W (w.heap.size + 1) 36 v ∧ W.ownsRow w.heap.size 3 1 v (q :: Qcu L q (Qcm ly (ly.length - 1))).length (Qc0 (q :: Qcu L q (Qcm ly (ly.length - 1)))) ∧ Tab W ∧ Below w.heap.size w W)
  ?hI ?hIx ?h0
  (fun x => { tmps := #[pv b, pv w.heap.size, pv (w.heap.size + 1), .int .i64 ((x.1 : Nat) : Int), pv b, pv b2, rv M, .func (.func 114) #[] #[.pointer (some ⟨w2.heap.size, 0, none⟩)], .int .i64 ((x.1 : Nat) : Int), undef, undef, undef], defers := [] }) ?assign ?body ?done ?stop
 case hB => exact Blk.new _ _ _
 case hT => exact hTw2.alloc _
 case hI =>
  refine Qef (fun s W hi => by simpa using hi.1) ?_
  rintro s W W' ⟨h1, h2, h3, h4, h5, h6⟩ hb' ho
  have hb' : Below (w2.heap.size + 1) W W' := by simpa using hb'
  exact ⟨Nat.le_trans h1 hb'.size, h2, h3.below hb' (by omega), (hb'.block _ (by omega)).trans h4, h5.below hb' (by omega), h6.trans (hb'.mono (by omega))⟩
 case hIx =>
  intro cd
  refine Qef (fun s W hi => by simpa using hi.1) ?_
  rintro s W W' ⟨h1, h2, q, v, ly, h9, h10, h3, h4, h5, h6⟩ hb' ho
  have hb' : Below (w2.heap.size + 1) W W' := by simpa using hb'
  exact ⟨Nat.le_trans h1 hb'.size, h2, q, v, ly, h9, h10, (hb'.block _ (by omega)).trans h3, ho _ _ _ _ _ _ h4, h5.below hb' (by omega), h6.trans (hb'.mono (by omega))⟩
 case h0 =>
  exact ⟨by simp, rfl, hbx2.alloc _, hrs2.alloc _, hTw2.alloc _, hBw2.alloc hs2 _⟩
 case assign =>
  intro l x W K hK
  gi_wp2
  exact hK
 case body =>
  rintro l pre x W ⟨h1, rfl, h3, h4, h5, h6⟩ _
  have k0 : W.cell? ⟨w.heap.size, 0, none⟩ = some (pv b) := h3.cell rfl
  have hq := HL.out x.1 x.2
  gi_wp2_with (refine ⟨trivial, ?_⟩; gi_at_call 158; refine (CallsIn.inRound l (callsIn_wide.2 (Qnb b c L x.1 _ (h.below h6) h5 hq))).mono ?_; rintro e w3 ⟨v, ly, rfl, hly, hown, hB3⟩; have h4b : Boxed w3 (w.heap.size + 1) 36 (.slice none 0 0) := Blk.of_below h4 hB3; have hc1 := h4b.cell; have hf1 := h4b.frozen; have HO := Qa hown; rw [List.length_cons] at hown; obtain ⟨g', cap', rfl⟩ := ownsRow_succ hown; clear hown)
  have hs6 := h6.size
  refine ⟨(Qf9 hB3).trans (KeepsOthers.setCell _ _ _), Nat.le_trans h1 (Nat.le_trans hB3.size (by simp [World.setCell])), rfl, x.1, _, ly, rfl, hly, h4b.set _, ?_, (h5.step hB3).set (by simp) _, (h6.trans (hB3.mono hs6)).setCell (by simp) _⟩
  refine Qdq (Qjp HO.out hs6) ?_ _
  exact h4b.not_row (by decide) HO.out
 case done =>
  rintro D ys W hDD hys ⟨h1, rfl, h3, h4, h5, h6⟩ hK
  have hc := h4.cell
  have hf := h4.frozen
  have hnil : Qag M = [] := hys.symm
  gi_wp2
  have hK' := (KeepsOthers.setCell W ⟨w.heap.size + 1, 0, none⟩ (.slice none 0 0)).same D _ hK rfl
  refine ⟨by simp, .inl ⟨_, _, rfl, run_takeDeferred hK', ?_⟩⟩
  have h7 := Blk.putObj (h4.set (.slice none 0 0)) hK' rfl (.deferred none)
  have hc7 : (World.putObj _ D (.deferred none)).cell? ⟨w.heap.size + 1, 0, none⟩ = some (.slice none 0 0) := h7.cell rfl
  refine ⟨.slice none 0 0, ?_, .slice none 0 0, [], rfl, HC.out [] (.inl ⟨hnil, rfl⟩), World.ownsRow_nil _ _ _ _, (h6.setCell (by simp) _).trans (belowK_b (w := w) (Nat.le_refl _) _ D _ _ (by simp at hDD; omega) hK' rfl rfl)⟩
  simp [results, Tryz.f139, go_sem, hc7]
 case stop =>
  rintro D cd pre W hDD hpre ⟨h1, rfl, q, v, ly, hq, hly, h3, h4, h5, h6⟩ hK
  rw [hq] at hpre
  obtain ⟨tl, htl⟩ := hpre
  gi_wp2
  refine ⟨by simp, .inl ⟨_, _, rfl, run_takeDeferred hK, ?_⟩⟩
  have h7 := Blk.putObj h3 hK rfl (.deferred none)
  have hc7 : (W.putObj D (.deferred none)).cell? ⟨w.heap.size + 1, 0, none⟩ = some v := h7.cell rfl
  refine ⟨v, ?_, v, _, rfl, HC.out _ (.inr ⟨q, tl, ly, htl.symm, hly, rfl⟩), ownsRow_putObj h4 _ hK rfl, h6.trans (belowK_b (w := w) (Nat.le_refl _) _ D _ _ (by simp at hDD; omega) hK rfl rfl)⟩
  simp [results, Tryz.f139, go_sem, hc7]
theorem Qlu (b c : Nat) (L : List Nat) (w : World) (h : IsRel w b c L) (hT : Tab w) :
  Calls Tryz.prog 139 #[pv b] w fun e w' => ∃ v out, e = .returned v ∧ Qel L out ∧ w'.ownsRow w.heap.size 3 1 v out.length (Qc0 out) ∧ Below w.heap.size w w' := callsIn_wide.1 (QAh b c L w h hT)
end Go.Proofs.YtdkogbfamdnheaaGreatDoor
namespace Go.Proofs.YtdkogbfamdnheaaGreatDoor
open Go.RowKit Go.Shelf Sx Relation
set_option maxRecDepth 100000
set_option maxHeartbeats 16000000
set_option linter.unusedSimpArgs false
set_option linter.unusedVariables false
def hs (L : List Nat) (p q : Nat) : Prop := (gr L p).testBit q = true
structure WF (n : Nat) (L : List Nat) : Prop where
 len : L.length = n
 low : ∀ p q, hs L p q → q < n
theorem Qbo {L : List Nat} {p q : Nat} (h : hs L p q) : p < L.length := by
 apply Nat.lt_of_not_le
 intro hle
 unfold hs at h
 rw [Qkn (by omega)] at h
 simp at h
theorem Qh0 (L : List Nat) (q : Nat) : ∀ (l : List Nat) (s : Nat), (l.foldl (fun s p => s ||| gr L p) s).testBit q = true ↔ s.testBit q = true ∨ ∃ p ∈ l, hs L p q
 | [], s => by simp
 | x :: l, s => by
  rw [List.foldl_cons, Qh0 L q l, Nat.testBit_or, Bool.or_eq_true]
  unfold hs
  simp [or_assoc]
theorem Qhf {n k : Nat} {f : Nat → Nat} {p q : Nat} (hk : n ≤ k) : hs (Qba n f k) p q ↔ p < n ∧ (f p).testBit q = true := by
 by_cases hp : p < n
 ·unfold hs
  rw [Qg7 (Qfc hp), if_pos (by omega)]
  simp [hp]
 ·constructor
  ·intro h
   have := Qbo h
   rw [Qay] at this
   omega
  ·exact fun h => absurd h.1 hp
section
variable {n : Nat} {A B C : List Nat}
theorem Qat (hn : n ≤ 256) (ha : WF n A) (hb : WF n B) (p q : Nat) : hs (Qav A B) p q ↔ ∃ m, hs A p m ∧ hs B m q := by
 unfold Qav
 rw [ha.len, hb.len, Nat.max_self, Qhf (Nat.le_refl _)]
 unfold Qao
 rw [Qh0]
 constructor
 ·rintro ⟨_, h | ⟨m, hm, h⟩⟩
  ·simp at h
  ·exact ⟨m, (Qbt.1 hm).2, h⟩
 ·rintro ⟨m, h1, h2⟩
  refine ⟨by have := Qbo h1; rw [ha.len] at this; exact this, Or.inr ⟨m, Qbt.2 ⟨?_, h1⟩, h2⟩⟩
  have := ha.low _ _ h1
  omega
theorem Qah (hn : n ≤ 256) (ha : WF n A) (hb : WF n B) : WF n (Qav A B) := by
 refine ⟨by unfold Qav; rw [Qay, ha.len, hb.len, Nat.max_self], fun p q h => ?_⟩
 obtain ⟨m, _, h2⟩ := (Qat hn ha hb p q).1 h
 exact hb.low _ _ h2
theorem Qhl (ha : WF n A) (hb : WF n B) (p q : Nat) : hs (Qbr A B) p q ↔ hs A p q ∧ hs B p q := by
 unfold Qbr
 rw [ha.len, hb.len, Nat.max_self, Qhf (Nat.le_refl _), Nat.testBit_and, Bool.and_eq_true]
 constructor
 ·exact fun h => h.2
 ·exact fun h => ⟨by have := Qbo h.1; rw [ha.len] at this; exact this, h⟩
theorem Qf3 (ha : WF n A) (hb : WF n B) : WF n (Qbr A B) := by
 refine ⟨by unfold Qbr; rw [Qay, ha.len, hb.len, Nat.max_self], fun p q h => ?_⟩
 exact ha.low _ _ ((Qhl ha hb p q).1 h).1
theorem Qcv (ha : WF n A) (hb : WF n B) (p q : Nat) : hs (Qc A B) p q ↔ hs A p q ∧ ¬ hs B p q := by
 unfold Qc
 rw [ha.len, hb.len, Nat.max_self, Qhf (Nat.le_refl _), Qc4, Bool.and_eq_true, Bool.not_eq_true']
 unfold hs
 rw [Bool.not_eq_true]
 constructor
 ·exact fun h => h.2
 ·exact fun h => ⟨by have := Qbo (L := A) h.1; rw [ha.len] at this; exact this, h⟩
theorem Qd (ha : WF n A) (hb : WF n B) : WF n (Qc A B) := by
 refine ⟨by unfold Qc; rw [Qay, ha.len, hb.len, Nat.max_self], fun p q h => ?_⟩
 exact ha.low _ _ ((Qcv ha hb p q).1 h).1
theorem Qf4 (m p q : Nat) : ¬ hs (List.replicate m 0) p q := by
 intro h
 have hp := Qbo h
 rw [List.length_replicate] at hp
 unfold hs at h
 rw [Qg7 (R := 0) (by simp [hp])] at h
 simp at h
theorem Qrf {X : List Nat} (hx : X.length = n) (ha : WF n A) (p q : Nat) : hs (Qcf X A A.length) p q ↔ hs X p q ∨ hs A p q := by
 by_cases hp : p < n
 ·unfold hs
  rw [Qug (by omega), if_pos (by rw [ha.len]; exact hp), Nat.testBit_or, Bool.or_eq_true]
 ·constructor
  ·intro h
   have := Qbo h
   rw [Qa6] at this
   omega
  ·rintro (h | h)
   ·have := Qbo h; omega
   ·have := Qbo h; rw [ha.len] at this; omega
theorem Qhm (ha : WF n A) (hb : WF n B) (p q : Nat) : hs (Qan [A, B]) p q ↔ hs A p q ∨ hs B p q := by
 have e : Qan [A, B] = Qcf (Qcf (List.replicate n 0) A A.length) B B.length := by
  simp [Qan, Qb0, ha.len, hb.len]
 rw [e, Qrf (by rw [Qa6, List.length_replicate]) hb, Qrf (by rw [List.length_replicate]) ha]
 constructor
 ·rintro ((h | h) | h)
  ·exact absurd h (Qf4 _ _ _)
  ·exact Or.inl h
  ·exact Or.inr h
 ·rintro (h | h)
  ·exact Or.inl (Or.inr h)
  ·exact Or.inr h
theorem Qjq (ha : WF n A) (hb : WF n B) : WF n (Qan [A, B]) := by
 refine ⟨by simp [Qan, Qb0, Qa6, ha.len, hb.len], fun p q h => ?_⟩
 rcases (Qhm ha hb p q).1 h with h | h
 ·exact ha.low _ _ h
 ·exact hb.low _ _ h
theorem QFg {X : List Nat} {j R p q : Nat} : hs (X.set j R) p q ↔ if p = j ∧ j < X.length then R.testBit q = true else hs X p q := by
 unfold hs gr
 rw [List.getD_eq_getElem?_getD, List.getD_eq_getElem?_getD, List.getElem?_set]
 by_cases e : j = p
 ·subst e
  by_cases hj : j < X.length
  ·simp [hj]
  ·simp [hj]
 ·rw [if_neg e, if_neg (fun h => e h.1.symm)]
theorem Qyh {X : List Nat} {x y p q : Nat} (hx : x < X.length) (hy : y < X.length) : hs (Qbu X (x : Int) (y : Int) true) p q ↔ hs X p q ∨ (p = x ∧ q = y) := by
 rw [Qrr hx hy (Qbz hx), QFg]
 by_cases e : p = x
 ·subst e
  rw [if_pos ⟨rfl, hx⟩, Qcx]
  by_cases e2 : q = y
  ·subst e2; simp
  ·rw [if_neg e2]
   constructor
   ·exact fun h => Or.inl h
   ·rintro (h | ⟨_, h⟩)
    ·exact h
    ·exact absurd h e2
 ·rw [if_neg (fun h => e h.1)]
  constructor
  ·exact fun h => Or.inl h
  ·rintro (h | ⟨h, _⟩)
   ·exact h
   ·exact absurd h e
theorem Qf5 (X : List Nat) (x y : Int) (v : Bool) : (Qbu X x y v).length = X.length := by
 unfold Qbu; split <;> simp
theorem Qpk (p : Nat) : ∀ (l : List Nat) (X : List Nat), (Qej X p l).length = X.length
 | [], _ => rfl
 | q :: l, X => by
  show (Qej (Qbu X q p true) p l).length = _
  rw [Qpk p l, Qf5]
theorem Qrg {p : Nat} : ∀ (l : List Nat) (X : List Nat), p < X.length → (∀ q ∈ l, q < X.length) → ∀ a b, hs (Qej X p l) a b ↔ hs X a b ∨ (b = p ∧ a ∈ l)
 | [], X, _, _, a, b => by simp [Qej]
 | q :: l, X, hp, hq, a, b => by
  show hs (Qej (Qbu X q p true) p l) a b ↔ _
  rw [Qrg l _ (by rw [Qf5]; exact hp) (fun r hr => by rw [Qf5]; exact hq r (List.mem_cons_of_mem _ hr)), Qyh (hq q (by simp)) hp]
  constructor
  ·rintro ((h | ⟨rfl, rfl⟩) | ⟨rfl, h⟩)
   ·exact Or.inl h
   ·exact Or.inr ⟨rfl, by simp⟩
   ·exact Or.inr ⟨rfl, List.mem_cons_of_mem _ h⟩
  ·rintro (h | ⟨rfl, h⟩)
   ·exact Or.inl (Or.inl h)
   ·rcases List.mem_cons.1 h with rfl | h
    ·exact Or.inl (Or.inr ⟨rfl, rfl⟩)
    ·exact Or.inr ⟨rfl, h⟩
theorem Qmi (L : List Nat) (k : Nat) : (Qgx L k).length = L.length := by
 induction k with
 | zero => simp [Qgx]
 | succ k ih => rw [Qhy, Qpk, ih]
theorem QCx (hn : n ≤ 256) (ha : WF n A) (k : Nat) (hk : k ≤ n) (a b : Nat) : hs (Qgx A k) a b ↔ hs A b a ∧ b < k := by
 induction k generalizing a b with
 | zero =>
  constructor
  ·intro h; exact absurd h (by simpa [Qgx] using Qf4 _ a b)
  ·intro h; omega
 | succ k ih =>
  rw [Qhy, Qrg _ _ (by rw [Qmi, ha.len]; omega) (fun q hq => by rw [Qmi, ha.len]; exact ha.low _ _ (Qbt.1 hq).2), ih (by omega)]
  constructor
  ·rintro (⟨h1, h2⟩ | ⟨rfl, h⟩)
   ·exact ⟨h1, by omega⟩
   ·exact ⟨(Qbt.1 h).2, by omega⟩
  ·rintro ⟨h1, h2⟩
   by_cases e : b = k
   ·subst e
    exact Or.inr ⟨rfl, Qbt.2 ⟨by have := ha.low _ _ h1; omega, h1⟩⟩
   ·exact Or.inl ⟨h1, by omega⟩
theorem Qrh (hn : n ≤ 256) (ha : WF n A) (a b : Nat) : hs (Qcl A) a b ↔ hs A b a := by
 unfold Qcl
 rw [ha.len, QCx hn ha n (Nat.le_refl _)]
 constructor
 ·exact fun h => h.1
 ·exact fun h => ⟨h, by have := Qbo h; rw [ha.len] at this; exact this⟩
theorem Qyi (hn : n ≤ 256) (ha : WF n A) : WF n (Qcl A) := by
 refine ⟨by unfold Qcl; rw [Qmi, ha.len], fun p q h => ?_⟩
 have := Qbo ((Qrh hn ha p q).1 h)
 rw [ha.len] at this
 exact this
end
def QHo (N : Nat) (F : Nat → Nat → Bool) (L : List Nat) : Prop := ∀ p q, p < N → q < N → (F p q = true ↔ hs L p q)
structure Twin (n : Nat) (F : Nat → Nat → Bool) (L : List Nat) : Prop where
 wf : WF n L
 same : QHo n F L
section
variable {n N : Nat} {F : Nat → Nat → Bool} {A : List Nat}
theorem Twin.low (h : Twin n F A) {p q : Nat} (h1 : hs A p q) : p < n ∧ q < n := by
 have h2 := Qbo h1
 rw [h.wf.len] at h2
 exact ⟨h2, h.wf.low _ _ h1⟩
theorem Twin.mk' {L : List Nat} {H : Nat → Nat → Bool} (hl : L.length = N) (h1 : ∀ p q, hs L p q → q < N) (h2 : ∀ p q, p < N → q < N → (H p q = true ↔ hs L p q)) : Twin N H L := ⟨⟨hl, h1⟩, h2⟩
end
section
variable {n : Nat} {A B C : List Nat}
end
section
variable {n : Nat} {L : List Nat}
end
end Go.Proofs.YtdkogbfamdnheaaGreatDoor
