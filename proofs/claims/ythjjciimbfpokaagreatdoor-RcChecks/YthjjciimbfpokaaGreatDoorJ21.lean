/- Of SameMath, what this seat can build. -/
import Derived.Test.YthjjciimbfpokaaGreatDoorJ16
import Derived.Test.YthjjciimbfpokaaGreatDoorJ19
import Derived.Test.YthjjciimbfpokaaGreatDoorJ18
import Derived.Test.YthjjciimbfpokaaGreatDoorIdentWalk
namespace Go.Proofs.YthjjciimbfpokaaGreatDoor
open Go.RowKit Go.Shelf Sx Relation
set_option maxRecDepth 100000
set_option maxHeartbeats 16000000
set_option linter.unusedSimpArgs false
set_option linter.unusedVariables false
section
variable {n m N : Nat} {F G : Nat → Nat → Bool} {A B : List Nat}
theorem QDp {X L : List Nat} (hx : L.length ≤ X.length) (p q : Nat) : hs (Qcn X L L.length) p q ↔ hs X p q ∨ hs L p q := by
 by_cases hp : p < X.length
 ·unfold hs
  rw [Qu2 hp]
  by_cases hl : p < L.length
  ·rw [if_pos hl, Nat.testBit_or, Bool.or_eq_true]
  ·rw [if_neg hl, Qkr hl]
   simp
 ·constructor
  ·intro h
   have := Qa9 h
   rw [Qbb] at this
   omega
  ·rintro (h | h)
   ·have := Qa9 h; omega
   ·have := Qa9 h; omega
theorem Qux : ∀ (Ls : List (List Nat)) (X : List Nat), (Ls.foldl (fun A L => Qcn A L L.length) X).length = X.length
 | [], _ => rfl
 | L :: Ls, X => by rw [List.foldl_cons, Qux Ls, Qbb]
theorem Quy (p q : Nat) : ∀ (Ls : List (List Nat)) (X : List Nat), (∀ L ∈ Ls, L.length ≤ X.length) → (hs (Ls.foldl (fun A L => Qcn A L L.length) X) p q ↔ hs X p q ∨ ∃ L ∈ Ls, hs L p q)
 | [], X, _ => by simp
 | L :: Ls, X, h => by
  rw [List.foldl_cons, Quy p q Ls _ (fun M hM => by rw [Qbb]; exact h M (List.mem_cons_of_mem _ hM)), QDp (h L (by simp))]
  simp [or_assoc]
theorem Qps : ∀ (Ls : List (List Nat)) (k : Nat), k ≤ Ls.foldl (fun n L => max n L.length) k ∧ ∀ L ∈ Ls, L.length ≤ Ls.foldl (fun n L => max n L.length) k
 | [], k => ⟨Nat.le_refl _, by simp⟩
 | L :: Ls, k => by
  have ih := Qps Ls (max k L.length)
  rw [List.foldl_cons]
  refine ⟨by omega, fun M hM => ?_⟩
  rcases List.mem_cons.1 hM with rfl | hM
  ·omega
  ·exact ih.2 M hM
theorem Qcz (Ls : List (List Nat)) (p q : Nat) : hs (Qan Ls) p q ↔ ∃ L ∈ Ls, hs L p q := by
 unfold Qan
 rw [Quy p q Ls _ (fun L hL => by rw [List.length_replicate]; exact (Qps Ls 0).2 L hL)]
 constructor
 ·rintro (h | h)
  ·exact absurd h (Qk4 _ _ _)
  ·exact h
 ·exact Or.inr
theorem Qjp (Ls : List (List Nat)) : (Qan Ls).length = Qbk Ls := by
 unfold Qan
 rw [Qux, List.length_replicate]
theorem Qwi (ha : Twin n F A) (hb : Twin m G B) (HN : N = max n m) : Twin N (fun p q => Qad n F p q || Qad m G p q) (Qan [A, B]) := by
 have key : ∀ p q, hs (Qan [A, B]) p q ↔ hs A p q ∨ hs B p q := fun p q => by rw [Qcz]; simp
 refine Twin.mk' (by rw [Qjp]; simp [Qbk, ha.wf.len, hb.wf.len, HN]) ?_ ?_
 ·intro p q h
  rcases (key p q).1 h with h | h
  ·have := ha.low h; omega
  ·have := hb.low h; omega
 ·intro p q _ _
  rw [Bool.or_eq_true, ha.ext, hb.ext, key]
theorem Qwj (ha : Twin n F A) (hb : Twin m G B) (HN : N = max n m) : Twin N (fun p q => Qad n F p q && Qad m G p q) (Qcs A B) := by
 have hl : max A.length B.length = N := by rw [ha.wf.len, hb.wf.len, HN]
 have key : ∀ p q, hs (Qcs A B) p q ↔ hs A p q ∧ hs B p q := fun p q => by
  unfold Qcs
  rw [hl, Qhe (Nat.le_refl _), Nat.testBit_and, Bool.and_eq_true]
  exact ⟨fun h => h.2, fun h => ⟨by have := ha.low h.1; omega, h⟩⟩
 refine Twin.mk' (by unfold Qcs; rw [Qat, hl]) ?_ ?_
 ·intro p q h
  have := ha.low ((key p q).1 h).1; omega
 ·intro p q _ _
  rw [Bool.and_eq_true, ha.ext, hb.ext, key]
theorem Qs (ha : Twin n F A) : Twin n (fun p q => F p q || decide (p = q)) (Qb4 A) := by
 refine Twin.mk' (by unfold Qb4; rw [Qco, ha.wf.len]) ?_ ?_
 ·intro p q h
  rcases (Qq5 ha.wf p q).1 h with h | ⟨rfl, h2⟩
  ·exact (ha.low h).2
  ·exact h2
 ·intro p q hp hq
  rw [Qq5 ha.wf, Bool.or_eq_true, decide_eq_true_eq, ha.same p q hp hq]
  constructor
  ·rintro (h | h)
   ·exact Or.inl h
   ·exact Or.inr ⟨h, hp⟩
  ·rintro (h | h)
   ·exact Or.inl h
   ·exact Or.inr h.1
theorem Qyk (ha : Twin n F A) : Twin n (fun p q => Qag F n p q || decide (p = q)) (Qb4 (Qaw A)) := Qs (Qp2 ha)
end
section
variable {n m N : Nat} {F G : Nat → Nat → Bool} {A B : List Nat}
theorem QAy (ha : Twin n F A) (a b : Int) : Qhs n F a b = Qbt A a b := by
 unfold Qhs Qbt
 rw [ha.wf.len]
 cases h1 : inR n a
 ·rfl
 ·cases h2 : inR n b
  ·rfl
  ·obtain ⟨i, rfl, hi⟩ := Qc6 h1
   obtain ⟨j, rfl, hj⟩ := Qc6 h2
   rw [Int.toNat_natCast, Int.toNat_natCast]
   have := ha.same i j hi hj
   unfold hs at this
   rw [Bool.eq_iff_iff]
   simpa using this
theorem QDq (n : Nat) (l : List Bool) (p : Nat) : (Qe1 n l).testBit p = true ↔ p < n ∧ l.getD p false = true := by
 unfold Qe1
 rw [Qoq, Bool.and_eq_true, decide_eq_true_eq]
 constructor
 ·exact fun h => ⟨by omega, h.2⟩
 ·rintro ⟨h1, h2⟩
  refine ⟨?_, h2⟩
  have : p < l.length := by
   apply Nat.lt_of_not_le
   intro hle
   rw [List.getD_eq_getElem?_getD, List.getElem?_eq_none hle] at h2
   cases h2
  omega
theorem Quz {n : Nat} (hn : n ≤ 256) (l : List Bool) (p : Nat) : p ∈ Qae (Qe1 n l) ↔ p < n ∧ l.getD p false = true := by
 rw [Qay, QDq]
 exact ⟨fun h => h.2, fun h => ⟨by omega, h⟩⟩
theorem Qli : ∀ (l : List Nat) (X : List Nat), (Qde X l).length = X.length
 | [], _ => rfl
 | q :: l, X => by
  show (Qde (Qbm X q q true) l).length = _
  rw [Qli l, Qhi]
theorem Qni : ∀ (l : List Nat) (X : List Nat), (∀ q ∈ l, q < X.length) → ∀ a b, hs (Qde X l) a b ↔ hs X a b ∨ (a = b ∧ a ∈ l)
 | [], X, _, a, b => by simp [Qde]
 | q :: l, X, hq, a, b => by
  show hs (Qde (Qbm X q q true) l) a b ↔ _
  rw [Qni l _ (fun r hr => by rw [Qhi]; exact hq r (List.mem_cons_of_mem _ hr)), Qxj (hq q (by simp)) (hq q (by simp))]
  constructor
  ·rintro ((h | ⟨rfl, rfl⟩) | ⟨rfl, h⟩)
   ·exact Or.inl h
   ·exact Or.inr ⟨rfl, by simp⟩
   ·exact Or.inr ⟨rfl, List.mem_cons_of_mem _ h⟩
  ·rintro (h | ⟨rfl, h⟩)
   ·exact Or.inl (Or.inl h)
   ·rcases List.mem_cons.1 h with rfl | h
    ·exact Or.inl (Or.inr ⟨rfl, rfl⟩)
    ·exact Or.inr ⟨rfl, h⟩
theorem Qjq (n : Int) (l : List Bool) : Twin (Qao n) (idF l (Qao n)) (Qbr n l) := by
 have hc : Qao n ≤ 256 := by unfold Qao; omega
 have key : ∀ p q, hs (Qbr n l) p q ↔ p = q ∧ p < Qao n ∧ l.getD p false = true := fun p q => by
  unfold Qbr
  rw [Qni _ _ (fun q hq => by rw [List.length_replicate]; exact ((Quz hc l q).1 hq).1), Quz hc]
  constructor
  ·rintro (h | h)
   ·exact absurd h (Qk4 _ _ _)
   ·exact h
  ·exact Or.inr
 refine Twin.mk' (by unfold Qbr; rw [Qli, List.length_replicate]) ?_ ?_
 ·intro p q h
  have := (key p q).1 h
  omega
 ·intro p q _ _
  rw [key]
  unfold idF
  rw [Bool.and_eq_true, Bool.and_eq_true, decide_eq_true_eq, decide_eq_true_eq]
end
end Go.Proofs.YthjjciimbfpokaaGreatDoor
namespace Go.Proofs.YthjjciimbfpokaaGreatDoor
open Go.RowKit Go.Shelf Sx
set_option maxRecDepth 100000
set_option maxHeartbeats 16000000
set_option linter.unusedSimpArgs false
set_option linter.unusedVariables false
def RT (w : World) (n : Nat) (v : Value) (L : List Nat) : Prop := ∃ x y z rb F, v = .agg #[.int .i64 ((n : Nat) : Int), .slice x y z] ∧ RefM 0 w (.slice x y z) n n rb F ∧ Twin n F L
section
variable {w w' : World} {n : Nat} {u v : Value} {A B : List Nat}
theorem RT.below (h : RT w n v A) (hb : Below w.heap.size w w') : RT w' n v A := by
 obtain ⟨x, y, z, rb, F, e, h1, h2⟩ := h
 exact ⟨x, y, z, rb, F, e, h1.below hb, h2⟩
theorem RT.form (h : RT w n v A) : ∃ x y z, v = .agg #[.int .i64 ((n : Nat) : Int), .slice x y z] := by
 obtain ⟨x, y, z, rb, F, e, h1, h2⟩ := h
 exact ⟨x, y, z, e⟩
theorem RT.wf (h : RT w n v A) : WF n A := by
 obtain ⟨x, y, z, rb, F, e, h1, h2⟩ := h
 exact h2.wf
theorem RT.of {lo : Nat} {M : Value} {rb : Nat → Nat} {F : Nat → Nat → Bool} (h : RefM lo w M n n rb F) (ht : Twin n F A) : RT w n (.agg #[.int .i64 ((n : Nat) : Int), M]) A := by
 obtain ⟨x, y, z, rfl⟩ := h.slice
 exact ⟨x, y, z, rb, F, rfl, h.mono (Nat.zero_le _), ht⟩
def Qee (n : Nat) (w : World) (L : List Nat) (e : Ending) (w' : World) : Prop := ∃ r, e = .returned r ∧ RT w' n r L ∧ Below w.heap.size w w'
theorem Qoo (hn : n ≤ 256) (h1 : RT w n u A) (h2 : RT w n v B) : Calls Tryz.prog 70 #[u, v] w (Qee n w (Qan [A, B])) := by
 obtain ⟨x, y, z, rb, F, rfl, hM, hT⟩ := h1
 obtain ⟨x1, y1, z1, rb1, G, rfl, hM1, hT1⟩ := h2
 refine (Qog 0 0 n n n hn hn (show n = max n n by omega) x y z rb F x1 y1 z1 rb1 G w hM hM1).mono ?_
 rintro e w' ⟨M, rb', rfl, hR, hB⟩
 exact ⟨_, rfl, RT.of hR (Qwi hT hT1 (by omega)), hB⟩
theorem QDr (hn : n ≤ 256) (h1 : RT w n u A) (h2 : RT w n v B) : Calls Tryz.prog 56 #[u, v] w (Qee n w (Qcs A B)) := by
 obtain ⟨x, y, z, rb, F, rfl, hM, hT⟩ := h1
 obtain ⟨x1, y1, z1, rb1, G, rfl, hM1, hT1⟩ := h2
 refine (Qoh 0 0 n n n hn hn (show n = max n n by omega) x y z rb F x1 y1 z1 rb1 G w hM hM1).mono ?_
 rintro e w' ⟨M, rb', rfl, hR, hB⟩
 exact ⟨_, rfl, RT.of hR (Qwj hT hT1 (by omega)), hB⟩
theorem QDs (hn : n ≤ 256) (h1 : RT w n u A) (h2 : RT w n v B) : Calls Tryz.prog 62 #[u, v] w (Qee n w (Qc1 A B)) := by
 obtain ⟨x, y, z, rb, F, rfl, hM, hT⟩ := h1
 obtain ⟨x1, y1, z1, rb1, G, rfl, hM1, hT1⟩ := h2
 refine (Qof 0 0 n n n hn hn (show n = max n n by omega) x y z rb F x1 y1 z1 rb1 G w hM hM1).mono ?_
 rintro e w' ⟨M, rb', rfl, hR, hB⟩
 exact ⟨_, rfl, RT.of hR (Qxb hT hT1 (by omega)), hB⟩
theorem Qyl (hn : n ≤ 256) (h1 : RT w n u A) (h2 : RT w n v B) : Calls Tryz.prog 68 #[u, v] w (Qee n w (Qbf A B)) := by
 obtain ⟨x, y, z, rb, F, rfl, hM, hT⟩ := h1
 obtain ⟨x1, y1, z1, rb1, G, rfl, hM1, hT1⟩ := h2
 refine (Qj5 0 0 n n n hn hn (show n = max n n by omega) x y z rb F x1 y1 z1 rb1 G w hM hM1).mono ?_
 rintro e w' ⟨M, rb', rfl, hR, hB⟩
 exact ⟨_, rfl, RT.of hR (Qzu hn hT hT1 (by omega)), hB⟩
theorem QFb (hn : n ≤ 256) (h1 : RT w n u A) : Calls Tryz.prog 60 #[u] w (Qee n w (Qaw A)) := by
 obtain ⟨x, y, z, rb, F, rfl, hM, hT⟩ := h1
 refine (Qgw 0 n hn x y z rb F w hM).mono ?_
 rintro e w' ⟨M, rb', rfl, hR, hB⟩
 exact ⟨_, rfl, RT.of hR (Qp2 hT), hB⟩
theorem QGu (hn : n ≤ 256) (h1 : RT w n u A) : Calls Tryz.prog 58 #[u] w (Qee n w (Qb4 A)) := by
 obtain ⟨x, y, z, rb, F, rfl, hM, hT⟩ := h1
 refine (Qkk 0 n hn x y z rb F w hM).mono ?_
 rintro e w' ⟨M, rb', rfl, hR, hB⟩
 exact ⟨_, rfl, RT.of hR (Qs hT), hB⟩
theorem QFc (hn : n ≤ 256) (h1 : RT w n u A) : Calls Tryz.prog 59 #[u] w (Qee n w (Qb4 (Qaw A))) := by
 obtain ⟨x, y, z, rb, F, rfl, hM, hT⟩ := h1
 refine (Qqe 0 n hn x y z rb F w hM).mono ?_
 rintro e w' ⟨M, rb', rfl, hR, hB⟩
 exact ⟨_, rfl, RT.of hR (Qyk hT), hB⟩
theorem Qh8 (hn : n ≤ 256) : Qao ((n : Nat) : Int) = n := by unfold Qao; omega
theorem QDt (hn : n ≤ 256) {l : List Bool} (h1 : SetArg w u l) : Calls Tryz.prog 55 #[.int .i64 ((n : Nat) : Int), u] w (Qee n w (Qbr ((n : Nat) : Int) l)) := by
 refine (Qty ((n : Nat) : Int) u l w h1 n (Qh8 hn) (by omega) (by omega)).mono ?_
 rintro e w' ⟨M, rb', rfl, hR, hB⟩
 have ht := Qjq ((n : Nat) : Int) l
 rw [Qh8 hn] at ht
 exact ⟨_, rfl, RT.of hR ht, hB⟩
theorem Qu0 (hn : n ≤ 256) (h1 : RT w n u A) : Calls Tryz.prog 69 #[u] w fun e w' => ∃ v out, e = .returned v ∧ (∀ out2, Qcj A out2 → out = out2) ∧ w'.ownsRow w.heap.size 3 1 v out.length (Qcg out) ∧ Below w.heap.size w w' := by
 obtain ⟨x, y, z, rb, F, rfl, hM, hT⟩ := h1
 refine (Qpd 0 n hn x y z rb F w hM).mono ?_
 rintro e w' ⟨v, out, rfl, hR, hB⟩
 exact ⟨v, out, rfl, fun out2 h => QCe hn hT.same hT.wf h hR, hB⟩
end
end Go.Proofs.YthjjciimbfpokaaGreatDoor
