/- Of SameMath, what this seat can build. -/
import Derived.Test.YtdkogbfamdnheaaGreatDoorJ15
import Derived.Test.YtdkogbfamdnheaaGreatDoorJ24
import Derived.Test.YtdkogbfamdnheaaGreatDoorJ23
import Derived.Test.YtdkogbfamdnheaaGreatDoorIdentWalk
import Derived.Test.YtdkogbfamdnheaaGreatDoorJ26
namespace Go.Proofs.YtdkogbfamdnheaaGreatDoor
open Go.RowKit Go.Shelf Sx Relation
set_option maxRecDepth 100000
set_option maxHeartbeats 16000000
set_option linter.unusedSimpArgs false
set_option linter.unusedVariables false
section
variable {n m N : Nat} {F G : Nat → Nat → Bool} {A B : List Nat}
theorem QDy {X L : List Nat} (hx : L.length ≤ X.length) (p q : Nat) : hs (Qcf X L L.length) p q ↔ hs X p q ∨ hs L p q := by
 by_cases hp : p < X.length
 ·unfold hs
  rw [Qug hp]
  by_cases hl : p < L.length
  ·rw [if_pos hl, Nat.testBit_or, Bool.or_eq_true]
  ·rw [if_neg hl, Qkn hl]
   simp
 ·constructor
  ·intro h
   have := Qbo h
   rw [Qa6] at this
   omega
  ·rintro (h | h)
   ·have := Qbo h; omega
   ·have := Qbo h; omega
theorem Quv : ∀ (Ls : List (List Nat)) (X : List Nat), (Ls.foldl (fun A L => Qcf A L L.length) X).length = X.length
 | [], _ => rfl
 | L :: Ls, X => by rw [List.foldl_cons, Quv Ls, Qa6]
theorem Quw (p q : Nat) : ∀ (Ls : List (List Nat)) (X : List Nat), (∀ L ∈ Ls, L.length ≤ X.length) → (hs (Ls.foldl (fun A L => Qcf A L L.length) X) p q ↔ hs X p q ∨ ∃ L ∈ Ls, hs L p q)
 | [], X, _ => by simp
 | L :: Ls, X, h => by
  rw [List.foldl_cons, Quw p q Ls _ (fun M hM => by rw [Qa6]; exact h M (List.mem_cons_of_mem _ hM)), QDy (h L (by simp))]
  simp [or_assoc]
theorem Qps : ∀ (Ls : List (List Nat)) (k : Nat), k ≤ Ls.foldl (fun n L => max n L.length) k ∧ ∀ L ∈ Ls, L.length ≤ Ls.foldl (fun n L => max n L.length) k
 | [], k => ⟨Nat.le_refl _, by simp⟩
 | L :: Ls, k => by
  have ih := Qps Ls (max k L.length)
  rw [List.foldl_cons]
  refine ⟨by omega, fun M hM => ?_⟩
  rcases List.mem_cons.1 hM with rfl | hM
  ·omega
  ·exact ih.2 M hM
theorem Qpt (Ls : List (List Nat)) (p q : Nat) : hs (Qan Ls) p q ↔ ∃ L ∈ Ls, hs L p q := by
 unfold Qan
 rw [Quw p q Ls _ (fun L hL => by rw [List.length_replicate]; exact (Qps Ls 0).2 L hL)]
 constructor
 ·rintro (h | h)
  ·exact absurd h (Qf4 _ _ _)
  ·exact h
 ·exact Or.inr
theorem Qwz (Ls : List (List Nat)) : (Qan Ls).length = Qb0 Ls := by
 unfold Qan
 rw [Quv, List.length_replicate]
theorem Qw0 (ha : Twin n F A) (hb : Twin m G B) (HN : N = max n m) : Twin N (fun p q => Qad n F p q || Qad m G p q) (Qan [A, B]) := by
 have key : ∀ p q, hs (Qan [A, B]) p q ↔ hs A p q ∨ hs B p q := fun p q => by rw [Qpt]; simp
 refine Twin.mk' (by rw [Qwz]; simp [Qb0, ha.wf.len, hb.wf.len, HN]) ?_ ?_
 ·intro p q h
  rcases (key p q).1 h with h | h
  ·have := ha.low h; omega
  ·have := hb.low h; omega
 ·intro p q _ _
  rw [Bool.or_eq_true, ha.ext, hb.ext, key]
theorem Qw1 (ha : Twin n F A) (hb : Twin m G B) (HN : N = max n m) : Twin N (fun p q => Qad n F p q && Qad m G p q) (Qbr A B) := by
 have hl : max A.length B.length = N := by rw [ha.wf.len, hb.wf.len, HN]
 have key : ∀ p q, hs (Qbr A B) p q ↔ hs A p q ∧ hs B p q := fun p q => by
  unfold Qbr
  rw [hl, Qhf (Nat.le_refl _), Nat.testBit_and, Bool.and_eq_true]
  exact ⟨fun h => h.2, fun h => ⟨by have := ha.low h.1; omega, h⟩⟩
 refine Twin.mk' (by unfold Qbr; rw [Qay, hl]) ?_ ?_
 ·intro p q h
  have := ha.low ((key p q).1 h).1; omega
 ·intro p q _ _
  rw [Bool.and_eq_true, ha.ext, hb.ext, key]
end
section
variable {n m N : Nat} {F G : Nat → Nat → Bool} {A B : List Nat}
theorem Qw2 (n : Int) (l : List Bool) : Twin (Qau n) (idF l (Qau n)) (Qa4 n l) := by
 have hc : Qau n ≤ 256 := by unfold Qau; omega
 have key : ∀ p q, hs (Qa4 n l) p q ↔ p = q ∧ p < Qau n ∧ l.getD p false = true := fun p q => by
  unfold Qa4
  rw [Qhc _ _ (fun q hq => by rw [List.length_replicate]; exact ((Qfl hc l q).1 hq).1), Qfl hc]
  constructor
  ·rintro (h | h)
   ·exact absurd h (Qf4 _ _ _)
   ·exact h
  ·exact Or.inr
 refine Twin.mk' (by unfold Qa4; rw [Qgj, List.length_replicate]) ?_ ?_
 ·intro p q h
  have := (key p q).1 h
  omega
 ·intro p q _ _
  rw [key]
  unfold idF
  rw [Bool.and_eq_true, Bool.and_eq_true, decide_eq_true_eq, decide_eq_true_eq]
end
end Go.Proofs.YtdkogbfamdnheaaGreatDoor
namespace Go.Proofs.YtdkogbfamdnheaaGreatDoor
open Go.RowKit Go.Shelf Sx
set_option maxRecDepth 100000
set_option maxHeartbeats 16000000
set_option linter.unusedSimpArgs false
set_option linter.unusedVariables false
def RT (w : World) (n : Nat) (v : Value) (L : List Nat) : Prop := ∃ x y z rb F, v = .agg #[.int .i64 ((n : Nat) : Int), .slice x y z] ∧ RefM 0 w (.slice x y z) n n rb F ∧ Twin n F L
section
variable {w w' : World} {n : Nat} {u v : Value} {A B : List Nat}
theorem RT.below (h : RT w n v A) (hb : Below w.heap.size w w') : RT w' n v A := by
 obtain ⟨x, y, z, rb, F, e, h1, h2⟩ := h
 exact ⟨x, y, z, rb, F, e, h1.below hb, h2⟩
theorem RT.form (h : RT w n v A) : ∃ x y z, v = .agg #[.int .i64 ((n : Nat) : Int), .slice x y z] := by
 obtain ⟨x, y, z, rb, F, e, h1, h2⟩ := h
 exact ⟨x, y, z, e⟩
theorem RT.of {lo : Nat} {M : Value} {rb : Nat → Nat} {F : Nat → Nat → Bool} (h : RefM lo w M n n rb F) (ht : Twin n F A) : RT w n (.agg #[.int .i64 ((n : Nat) : Int), M]) A := by
 obtain ⟨x, y, z, rfl⟩ := h.slice
 exact ⟨x, y, z, rb, F, rfl, h.mono (Nat.zero_le _), ht⟩
def Qgs (n : Nat) (w : World) (L : List Nat) (e : Ending) (w' : World) : Prop := ∃ r, e = .returned r ∧ RT w' n r L ∧ Below w.heap.size w w'
theorem QDz (hn : n ≤ 256) (h1 : RT w n u A) (h2 : RT w n v B) : Calls Tryz.prog 107 #[u, v] w (Qgs n w (Qan [A, B])) := by
 obtain ⟨x, y, z, rb, F, rfl, hM, hT⟩ := h1
 obtain ⟨x1, y1, z1, rb1, G, rfl, hM1, hT1⟩ := h2
 refine (Qok 0 0 n n n hn hn (show n = max n n by omega) x y z rb F x1 y1 z1 rb1 G w hM hM1).mono ?_
 rintro e w' ⟨M, rb', rfl, hR, hB⟩
 exact ⟨_, rfl, RT.of hR (Qw0 hT hT1 (by omega)), hB⟩
theorem QD0 (hn : n ≤ 256) (h1 : RT w n u A) (h2 : RT w n v B) : Calls Tryz.prog 52 #[u, v] w (Qgs n w (Qbr A B)) := by
 obtain ⟨x, y, z, rb, F, rfl, hM, hT⟩ := h1
 obtain ⟨x1, y1, z1, rb1, G, rfl, hM1, hT1⟩ := h2
 refine (Qol 0 0 n n n hn hn (show n = max n n by omega) x y z rb F x1 y1 z1 rb1 G w hM hM1).mono ?_
 rintro e w' ⟨M, rb', rfl, hR, hB⟩
 exact ⟨_, rfl, RT.of hR (Qw1 hT hT1 (by omega)), hB⟩
theorem QD1 (hn : n ≤ 256) (h1 : RT w n u A) (h2 : RT w n v B) : Calls Tryz.prog 53 #[u, v] w (Qgs n w (Qc A B)) := by
 obtain ⟨x, y, z, rb, F, rfl, hM, hT⟩ := h1
 obtain ⟨x1, y1, z1, rb1, G, rfl, hM1, hT1⟩ := h2
 refine (Qoi 0 0 n n n hn hn (show n = max n n by omega) x y z rb F x1 y1 z1 rb1 G w hM hM1).mono ?_
 rintro e w' ⟨M, rb', rfl, hR, hB⟩
 exact ⟨_, rfl, RT.of hR (Qwc hT hT1 (by omega)), hB⟩
theorem Qy1 (hn : n ≤ 256) (h1 : RT w n u A) (h2 : RT w n v B) : Calls Tryz.prog 64 #[u, v] w (Qgs n w (Qav A B)) := by
 obtain ⟨x, y, z, rb, F, rfl, hM, hT⟩ := h1
 obtain ⟨x1, y1, z1, rb1, G, rfl, hM1, hT1⟩ := h2
 refine (Qj9 0 0 n n n hn hn (show n = max n n by omega) x y z rb F x1 y1 z1 rb1 G w hM hM1).mono ?_
 rintro e w' ⟨M, rb', rfl, hR, hB⟩
 exact ⟨_, rfl, RT.of hR (Qyk hn hT hT1 (by omega)), hB⟩
theorem Qpu (hn : n ≤ 256) : Qau ((n : Nat) : Int) = n := by unfold Qau; omega
theorem QD2 (hn : n ≤ 256) {l : List Bool} (h1 : SetArg w u l) : Calls Tryz.prog 49 #[.int .i64 ((n : Nat) : Int), u] w (Qgs n w (Qa4 ((n : Nat) : Int) l)) := by
 refine (Qto ((n : Nat) : Int) u l w h1 n (Qpu hn) (by omega) (by omega)).mono ?_
 rintro e w' ⟨M, rb', rfl, hR, hB⟩
 have ht := Qw2 ((n : Nat) : Int) l
 rw [Qpu hn] at ht
 exact ⟨_, rfl, RT.of hR ht, hB⟩
end
end Go.Proofs.YtdkogbfamdnheaaGreatDoor
