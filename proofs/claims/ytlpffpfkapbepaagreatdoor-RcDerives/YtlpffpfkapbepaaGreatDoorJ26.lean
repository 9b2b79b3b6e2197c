/- Of SameMath, what this seat can build. -/
import Derived.Test.YtlpffpfkapbepaaGreatDoorJ15
import Derived.Test.YtlpffpfkapbepaaGreatDoorJ24
import Derived.Test.YtlpffpfkapbepaaGreatDoorJ23
import Derived.Test.YtlpffpfkapbepaaGreatDoorIdentWalk
namespace Go.Proofs.YtlpffpfkapbepaaGreatDoor
open Go.RowKit Go.Shelf Sx Relation
set_option maxRecDepth 100000
set_option maxHeartbeats 16000000
set_option linter.unusedSimpArgs false
set_option linter.unusedVariables false
section
variable {n m N : Nat} {F G : Nat → Nat → Bool} {A B : List Nat}
theorem QC6 {X L : List Nat} (hx : L.length ≤ X.length) (p q : Nat) : hs (Qcl X L L.length) p q ↔ hs X p q ∨ hs L p q := by
 by_cases hp : p < X.length
 ·unfold hs
  rw [Qt9 hp]
  by_cases hl : p < L.length
  ·rw [if_pos hl, Nat.testBit_or, Bool.or_eq_true]
  ·rw [if_neg hl, Qko hl]
   simp
 ·constructor
  ·intro h
   have := Qbf h
   rw [Qbc] at this
   omega
  ·rintro (h | h)
   ·have := Qbf h; omega
   ·have := Qbf h; omega
theorem Qu : ∀ (Ls : List (List Nat)) (X : List Nat), (Ls.foldl (fun A L => Qcl A L L.length) X).length = X.length
 | [], _ => rfl
 | L :: Ls, X => by rw [List.foldl_cons, Qu Ls, Qbc]
theorem Qua (p q : Nat) : ∀ (Ls : List (List Nat)) (X : List Nat), (∀ L ∈ Ls, L.length ≤ X.length) → (hs (Ls.foldl (fun A L => Qcl A L L.length) X) p q ↔ hs X p q ∨ ∃ L ∈ Ls, hs L p q)
 | [], X, _ => by simp
 | L :: Ls, X, h => by
  rw [List.foldl_cons, Qua p q Ls _ (fun M hM => by rw [Qbc]; exact h M (List.mem_cons_of_mem _ hM)), QC6 (h L (by simp))]
  simp [or_assoc]
theorem Qpc : ∀ (Ls : List (List Nat)) (k : Nat), k ≤ Ls.foldl (fun n L => max n L.length) k ∧ ∀ L ∈ Ls, L.length ≤ Ls.foldl (fun n L => max n L.length) k
 | [], k => ⟨Nat.le_refl _, by simp⟩
 | L :: Ls, k => by
  have ih := Qpc Ls (max k L.length)
  rw [List.foldl_cons]
  refine ⟨by omega, fun M hM => ?_⟩
  rcases List.mem_cons.1 hM with rfl | hM
  ·omega
  ·exact ih.2 M hM
theorem Qc1 (Ls : List (List Nat)) (p q : Nat) : hs (Qal Ls) p q ↔ ∃ L ∈ Ls, hs L p q := by
 unfold Qal
 rw [Qua p q Ls _ (fun L hL => by rw [List.length_replicate]; exact (Qpc Ls 0).2 L hL)]
 constructor
 ·rintro (h | h)
  ·exact absurd h (Qkr _ _ _)
  ·exact h
 ·exact Or.inr
theorem Qjb (Ls : List (List Nat)) : (Qal Ls).length = Qbj Ls := by
 unfold Qal
 rw [Qu, List.length_replicate]
theorem Qvz (ha : Twin n F A) (hb : Twin m G B) (HN : N = max n m) : Twin N (fun p q => Qad n F p q || Qad m G p q) (Qal [A, B]) := by
 have key : ∀ p q, hs (Qal [A, B]) p q ↔ hs A p q ∨ hs B p q := fun p q => by rw [Qc1]; simp
 refine Twin.mk' (by rw [Qjb]; simp [Qbj, ha.wf.len, hb.wf.len, HN]) ?_ ?_
 ·intro p q h
  rcases (key p q).1 h with h | h
  ·have := ha.low h; omega
  ·have := hb.low h; omega
 ·intro p q _ _
  rw [Bool.or_eq_true, ha.ext, hb.ext, key]
theorem Qv0 (ha : Twin n F A) (hb : Twin m G B) (HN : N = max n m) : Twin N (fun p q => Qad n F p q && Qad m G p q) (Qb9 A B) := by
 have hl : max A.length B.length = N := by rw [ha.wf.len, hb.wf.len, HN]
 have key : ∀ p q, hs (Qb9 A B) p q ↔ hs A p q ∧ hs B p q := fun p q => by
  unfold Qb9
  rw [hl, Qg4 (Nat.le_refl _), Nat.testBit_and, Bool.and_eq_true]
  exact ⟨fun h => h.2, fun h => ⟨by have := ha.low h.1; omega, h⟩⟩
 refine Twin.mk' (by unfold Qb9; rw [Qam, hl]) ?_ ?_
 ·intro p q h
  have := ha.low ((key p q).1 h).1; omega
 ·intro p q _ _
  rw [Bool.and_eq_true, ha.ext, hb.ext, key]
theorem Qrj (ha : Twin n F A) : Twin n (fun p q => F p q || decide (p = q)) (Qbr A) := by
 refine Twin.mk' (by unfold Qbr; rw [Qb7, ha.wf.len]) ?_ ?_
 ·intro p q h
  rcases (Qq1 ha.wf p q).1 h with h | ⟨rfl, h2⟩
  ·exact (ha.low h).2
  ·exact h2
 ·intro p q hp hq
  rw [Qq1 ha.wf, Bool.or_eq_true, decide_eq_true_eq, ha.same p q hp hq]
  constructor
  ·rintro (h | h)
   ·exact Or.inl h
   ·exact Or.inr ⟨h, hp⟩
  ·rintro (h | h)
   ·exact Or.inl h
   ·exact Or.inr h.1
theorem Qx5 (ha : Twin n F A) : Twin n (fun p q => Qah F n p q || decide (p = q)) (Qbr (Qa9 A)) := Qrj (Qpj ha)
end
section
variable {n m N : Nat} {F G : Nat → Nat → Bool} {A B : List Nat}
theorem QC7 (n : Nat) (l : List Bool) (p : Nat) : (Qe1 n l).testBit p = true ↔ p < n ∧ l.getD p false = true := by
 unfold Qe1
 rw [Qof, Bool.and_eq_true, decide_eq_true_eq]
 constructor
 ·exact fun h => ⟨by omega, h.2⟩
 ·rintro ⟨h1, h2⟩
  refine ⟨?_, h2⟩
  have : p < l.length := by
   apply Nat.lt_of_not_le
   intro hle
   rw [List.getD_eq_getElem?_getD, List.getElem?_eq_none hle] at h2
   cases h2
  omega
theorem Qub {n : Nat} (hn : n ≤ 256) (l : List Bool) (p : Nat) : p ∈ Qag (Qe1 n l) ↔ p < n ∧ l.getD p false = true := by
 rw [Qbx, QC7]
 exact ⟨fun h => h.2, fun h => ⟨by omega, h⟩⟩
theorem Qlh : ∀ (l : List Nat) (X : List Nat), (Qcp X l).length = X.length
 | [], _ => rfl
 | q :: l, X => by
  show (Qcp (Qbk X q q true) l).length = _
  rw [Qlh l, Qf]
theorem Qm9 : ∀ (l : List Nat) (X : List Nat), (∀ q ∈ l, q < X.length) → ∀ a b, hs (Qcp X l) a b ↔ hs X a b ∨ (a = b ∧ a ∈ l)
 | [], X, _, a, b => by simp [Qcp]
 | q :: l, X, hq, a, b => by
  show hs (Qcp (Qbk X q q true) l) a b ↔ _
  rw [Qm9 l _ (fun r hr => by rw [Qf]; exact hq r (List.mem_cons_of_mem _ hr)), Qxa (hq q (by simp)) (hq q (by simp))]
  constructor
  ·rintro ((h | ⟨rfl, rfl⟩) | ⟨rfl, h⟩)
   ·exact Or.inl h
   ·exact Or.inr ⟨rfl, by simp⟩
   ·exact Or.inr ⟨rfl, List.mem_cons_of_mem _ h⟩
  ·rintro (h | ⟨rfl, h⟩)
   ·exact Or.inl (Or.inl h)
   ·rcases List.mem_cons.1 h with rfl | h
    ·exact Or.inl (Or.inr ⟨rfl, rfl⟩)
    ·exact Or.inr ⟨rfl, h⟩
theorem Qjc (n : Int) (l : List Bool) : Twin (Qan n) (idF l (Qan n)) (Qbg n l) := by
 have hc : Qan n ≤ 256 := by unfold Qan; omega
 have key : ∀ p q, hs (Qbg n l) p q ↔ p = q ∧ p < Qan n ∧ l.getD p false = true := fun p q => by
  unfold Qbg
  rw [Qm9 _ _ (fun q hq => by rw [List.length_replicate]; exact ((Qub hc l q).1 hq).1), Qub hc]
  constructor
  ·rintro (h | h)
   ·exact absurd h (Qkr _ _ _)
   ·exact h
  ·exact Or.inr
 refine Twin.mk' (by unfold Qbg; rw [Qlh, List.length_replicate]) ?_ ?_
 ·intro p q h
  have := (key p q).1 h
  omega
 ·intro p q _ _
  rw [key]
  unfold idF
  rw [Bool.and_eq_true, Bool.and_eq_true, decide_eq_true_eq, decide_eq_true_eq]
end
end Go.Proofs.YtlpffpfkapbepaaGreatDoor
namespace Go.Proofs.YtlpffpfkapbepaaGreatDoor
open Go.RowKit Go.Shelf Sx
set_option maxRecDepth 100000
set_option maxHeartbeats 16000000
set_option linter.unusedSimpArgs false
set_option linter.unusedVariables false
def RT (w : World) (n : Nat) (v : Value) (L : List Nat) : Prop := ∃ x y z rb F, v = .agg #[.int .i64 ((n : Nat) : Int), .slice x y z] ∧ RefM 0 w (.slice x y z) n n rb F ∧ Twin n F L
section
variable {w w' : World} {n : Nat} {u v : Value} {A B : List Nat}
theorem RT.below (h : RT w n v A) (hb : Below w.heap.size w w') : RT w' n v A := by
 obtain ⟨x, y, z, rb, F, e, h1, h2⟩ := h
 exact ⟨x, y, z, rb, F, e, h1.below hb, h2⟩
theorem RT.form (h : RT w n v A) : ∃ x y z, v = .agg #[.int .i64 ((n : Nat) : Int), .slice x y z] := by
 obtain ⟨x, y, z, rb, F, e, h1, h2⟩ := h
 exact ⟨x, y, z, e⟩
theorem RT.wf (h : RT w n v A) : WF n A := by
 obtain ⟨x, y, z, rb, F, e, h1, h2⟩ := h
 exact h2.wf
theorem RT.of {lo : Nat} {M : Value} {rb : Nat → Nat} {F : Nat → Nat → Bool} (h : RefM lo w M n n rb F) (ht : Twin n F A) : RT w n (.agg #[.int .i64 ((n : Nat) : Int), M]) A := by
 obtain ⟨x, y, z, rfl⟩ := h.slice
 exact ⟨x, y, z, rb, F, rfl, h.mono (Nat.zero_le _), ht⟩
def Qe (n : Nat) (w : World) (L : List Nat) (e : Ending) (w' : World) : Prop := ∃ r, e = .returned r ∧ RT w' n r L ∧ Below w.heap.size w w'
theorem QC8 (hn : n ≤ 256) (h1 : RT w n u A) (h2 : RT w n v B) : Calls Tryz.prog 70 #[u, v] w (Qe n w (Qal [A, B])) := by
 obtain ⟨x, y, z, rb, F, rfl, hM, hT⟩ := h1
 obtain ⟨x1, y1, z1, rb1, G, rfl, hM1, hT1⟩ := h2
 refine (Qn5 0 0 n n n hn hn (show n = max n n by omega) x y z rb F x1 y1 z1 rb1 G w hM hM1).mono ?_
 rintro e w' ⟨M, rb', rfl, hR, hB⟩
 exact ⟨_, rfl, RT.of hR (Qvz hT hT1 (by omega)), hB⟩
theorem QC9 (hn : n ≤ 256) (h1 : RT w n u A) (h2 : RT w n v B) : Calls Tryz.prog 56 #[u, v] w (Qe n w (Qb9 A B)) := by
 obtain ⟨x, y, z, rb, F, rfl, hM, hT⟩ := h1
 obtain ⟨x1, y1, z1, rb1, G, rfl, hM1, hT1⟩ := h2
 refine (Qn6 0 0 n n n hn hn (show n = max n n by omega) x y z rb F x1 y1 z1 rb1 G w hM hM1).mono ?_
 rintro e w' ⟨M, rb', rfl, hR, hB⟩
 exact ⟨_, rfl, RT.of hR (Qv0 hT hT1 (by omega)), hB⟩
theorem QD (hn : n ≤ 256) (h1 : RT w n u A) (h2 : RT w n v B) : Calls Tryz.prog 62 #[u, v] w (Qe n w (Qcj A B)) := by
 obtain ⟨x, y, z, rb, F, rfl, hM, hT⟩ := h1
 obtain ⟨x1, y1, z1, rb1, G, rfl, hM1, hT1⟩ := h2
 refine (Qn3 0 0 n n n hn hn (show n = max n n by omega) x y z rb F x1 y1 z1 rb1 G w hM hM1).mono ?_
 rintro e w' ⟨M, rb', rfl, hR, hB⟩
 exact ⟨_, rfl, RT.of hR (Qwu hT hT1 (by omega)), hB⟩
theorem QE3 (hn : n ≤ 256) (h1 : RT w n u A) (h2 : RT w n v B) : Calls Tryz.prog 68 #[u, v] w (Qe n w (Qbd A B)) := by
 obtain ⟨x, y, z, rb, F, rfl, hM, hT⟩ := h1
 obtain ⟨x1, y1, z1, rb1, G, rfl, hM1, hT1⟩ := h2
 refine (Qjs 0 0 n n n hn hn (show n = max n n by omega) x y z rb F x1 y1 z1 rb1 G w hM hM1).mono ?_
 rintro e w' ⟨M, rb', rfl, hR, hB⟩
 exact ⟨_, rfl, RT.of hR (Qzc hn hT hT1 (by omega)), hB⟩
theorem QE4 (hn : n ≤ 256) (h1 : RT w n u A) : Calls Tryz.prog 60 #[u] w (Qe n w (Qa9 A)) := by
 obtain ⟨x, y, z, rb, F, rfl, hM, hT⟩ := h1
 refine (Qjr 0 n hn x y z rb F w hM).mono ?_
 rintro e w' ⟨M, rb', rfl, hR, hB⟩
 exact ⟨_, rfl, RT.of hR (Qpj hT), hB⟩
theorem QGd (hn : n ≤ 256) (h1 : RT w n u A) : Calls Tryz.prog 58 #[u] w (Qe n w (Qbr A)) := by
 obtain ⟨x, y, z, rb, F, rfl, hM, hT⟩ := h1
 refine (Qj7 0 n hn x y z rb F w hM).mono ?_
 rintro e w' ⟨M, rb', rfl, hR, hB⟩
 exact ⟨_, rfl, RT.of hR (Qrj hT), hB⟩
theorem QE5 (hn : n ≤ 256) (h1 : RT w n u A) : Calls Tryz.prog 59 #[u] w (Qe n w (Qbr (Qa9 A))) := by
 obtain ⟨x, y, z, rb, F, rfl, hM, hT⟩ := h1
 refine (Qps 0 n hn x y z rb F w hM).mono ?_
 rintro e w' ⟨M, rb', rfl, hR, hB⟩
 exact ⟨_, rfl, RT.of hR (Qx5 hT), hB⟩
theorem Qht (hn : n ≤ 256) : Qan ((n : Nat) : Int) = n := by unfold Qan; omega
theorem QDa (hn : n ≤ 256) {l : List Bool} (h1 : SetArg w u l) : Calls Tryz.prog 55 #[.int .i64 ((n : Nat) : Int), u] w (Qe n w (Qbg ((n : Nat) : Int) l)) := by
 refine (Qtb ((n : Nat) : Int) u l w h1 n (Qht hn) (by omega) (by omega)).mono ?_
 rintro e w' ⟨M, rb', rfl, hR, hB⟩
 have ht := Qjc ((n : Nat) : Int) l
 rw [Qht hn] at ht
 exact ⟨_, rfl, RT.of hR ht, hB⟩
end
end Go.Proofs.YtlpffpfkapbepaaGreatDoor
