import Derived.Test.YtdkogbfamdnheaaGreatDoorJ19
import Derived.Test.YtdkogbfamdnheaaGreatDoorJ21
namespace Go.Proofs.YtdkogbfamdnheaaGreatDoor
open Go.RowKit Go.Shelf Sx Relation
set_option maxRecDepth 100000
set_option maxHeartbeats 16000000
set_option linter.unusedSimpArgs false
set_option linter.unusedVariables false
section
variable {n m N : Nat} {F G : Nat → Nat → Bool} {A B : List Nat}
theorem QE6 {X L : List Nat} (hx : L.length ≤ X.length) (p q : Nat) : hs (Qcv X L L.length) p q ↔ hs X p q ∨ hs L p q := by
 by_cases hp : p < X.length
 ·unfold hs
  rw [Qv5 hp]
  by_cases hl : p < L.length
  ·rw [if_pos hl, Nat.testBit_or, Bool.or_eq_true]
  ·rw [if_neg hl, Qle hl]
   simp
 ·constructor
  ·intro h
   have := Qbb h
   rw [Qa7] at this
   omega
  ·rintro (h | h)
   ·have := Qbb h; omega
   ·have := Qbb h; omega
theorem Qv7 : ∀ (Ls : List (List Nat)) (X : List Nat), (Ls.foldl (fun A L => Qcv A L L.length) X).length = X.length
 | [], _ => rfl
 | L :: Ls, X => by rw [List.foldl_cons, Qv7 Ls, Qa7]
theorem Qv8 (p q : Nat) : ∀ (Ls : List (List Nat)) (X : List Nat), (∀ L ∈ Ls, L.length ≤ X.length) → (hs (Ls.foldl (fun A L => Qcv A L L.length) X) p q ↔ hs X p q ∨ ∃ L ∈ Ls, hs L p q)
 | [], X, _ => by simp
 | L :: Ls, X, h => by
  rw [List.foldl_cons, Qv8 p q Ls _ (fun M hM => by rw [Qa7]; exact h M (List.mem_cons_of_mem _ hM)), QE6 (h L sW)]
  simp [or_assoc]
theorem Qqg : ∀ (Ls : List (List Nat)) (k : Nat), k ≤ Ls.foldl (fun n L => max n L.length) k ∧ ∀ L ∈ Ls, L.length ≤ Ls.foldl (fun n L => max n L.length) k
 | [], k => ⟨Nat.le_refl _, by simp⟩
 | L :: Ls, k => by
  have ih := Qqg Ls (max k L.length)
  rw [List.foldl_cons]
  refine ⟨oW, fun M hM => ?_⟩
  rcases List.mem_cons.1 hM with rfl | hM
  ·omega
  ·exact ih.2 M hM
theorem Qqh (Ls : List (List Nat)) (p q : Nat) : hs (Qar Ls) p q ↔ ∃ L ∈ Ls, hs L p q := by
 unfold Qar
 rw [Qv8 p q Ls _ (fun L hL => by rw [List.length_replicate]; exact (Qqg Ls 0).2 L hL)]
 constructor
 ·rintro (h | h)
  ·exact absurd h (Qgq _ _ _)
  ·exact h
 ·exact Or.inr
theorem Qxj (Ls : List (List Nat)) : (Qar Ls).length = Qb9 Ls := by
 unfold Qar
 rw [Qv7, List.length_replicate]
theorem Qxk (ha : Twin n F A) (hb : Twin m G B) (HN : N = max n m) : Twin N (fun p q => Qad n F p q || Qad m G p q) (Qar [A, B]) := by
 have key : ∀ p q, hs (Qar [A, B]) p q ↔ hs A p q ∨ hs B p q := fun p q => by rw [Qqh]; simp
 refine Twin.mk' (by rw [Qxj]; simp [Qb9, ha.wf.len, hb.wf.len, HN]) ?_ ?_
 ·intro p q h
  rcases (key p q).1 h with h | h
  ·have := ha.low h; omega
  ·have := hb.low h; omega
 ·intro p q _ _
  rw [Bool.or_eq_true, ha.ext, hb.ext, key]
theorem Qxl (ha : Twin n F A) (hb : Twin m G B) (HN : N = max n m) : Twin N (fun p q => Qad n F p q && Qad m G p q) (Qbk A B) := by
 have hl : max A.length B.length = N := by rw [ha.wf.len, hb.wf.len, HN]
 have key : ∀ p q, hs (Qbk A B) p q ↔ hs A p q ∧ hs B p q := fun p q => by
  unfold Qbk
  rw [hl, Qh0 nW, Nat.testBit_and, Bool.and_eq_true]
  exact ⟨fun h => h.2, fun h => ⟨by have := ha.low h.1; omega, h⟩⟩
 refine Twin.mk' (by unfold Qbk; rw [Qaz, hl]) ?_ ?_
 ·intro p q h
  have := ha.low ((key p q).1 h).1; omega
 ·intro p q _ _
  rw [Bool.and_eq_true, ha.ext, hb.ext, key]
end
section
variable {n m N : Nat} {F G : Nat → Nat → Bool} {A B : List Nat}
theorem QBw (ha : Twin n F A) (a b : Int) : Qia n F a b = Qcr A a b := by
 unfold Qia Qcr
 rw [ha.wf.len]
 cases h1 : inR n a
 ·rfl
 ·cases h2 : inR n b
  ·rfl
  ·obtain ⟨i, rfl, hi⟩ := Qdm h1
   obtain ⟨j, rfl, hj⟩ := Qdm h2
   rw [Int.toNat_natCast, Int.toNat_natCast]
   have := ha.same i j hi hj
   unfold hs at this
   rw [Bool.eq_iff_iff]
   simpa using this
theorem Qxm (n : Int) (l : List Bool) : Twin (Qau n) (idF l (Qau n)) (Qa6 n l) := by
 have hc : Qau n ≤ 256 := by unfold Qau; omega
 have key : ∀ p q, hs (Qa6 n l) p q ↔ p = q ∧ p < Qau n ∧ l.getD p false = true := fun p q => by
  unfold Qa6
  rw [Qhk _ _ (fun q hq => by rw [List.length_replicate]; exact ((Qf1 hc l q).1 hq).1), Qf1 hc]
  constructor
  ·rintro (h | h)
   ·exact absurd h (Qgq _ _ _)
   ·exact h
  ·exact Or.inr
 refine Twin.mk' (by unfold Qa6; rw [Qgs, List.length_replicate]) ?_ ?_
 ·intro p q h
  have := (key p q).1 h
  omega
 ·intro p q _ _
  rw [key]
  unfold idF
  rw [Bool.and_eq_true, Bool.and_eq_true, decide_eq_true_eq, decide_eq_true_eq]
end
end Go.Proofs.YtdkogbfamdnheaaGreatDoor
namespace Go.Proofs.YtdkogbfamdnheaaGreatDoor
open Go.RowKit Go.Shelf Sx
set_option maxRecDepth 100000
set_option maxHeartbeats 16000000
set_option linter.unusedSimpArgs false
set_option linter.unusedVariables false
def RT (w : World) (n : Nat) (v : Value) (L : List Nat) : Prop := ∃ x y z rb F, v = .agg #[.int .i64 ((n : Nat) : Int), .slice x y z] ∧ RefM 0 w (.slice x y z) n n rb F ∧ Twin n F L
section
variable {w w' : World} {n : Nat} {u v : Value} {A B : List Nat}
theorem RT.below (h : RT w n v A) (hb : Below w.heap.size w w') : RT w' n v A := by
 obtain ⟨x, y, z, rb, F, e, h1, h2⟩ := h
 exact ⟨x, y, z, rb, F, e, h1.below hb, h2⟩
theorem RT.form (h : RT w n v A) : ∃ x y z, v = .agg #[.int .i64 ((n : Nat) : Int), .slice x y z] := by
 obtain ⟨x, y, z, rb, F, e, h1, h2⟩ := h
 exact ⟨x, y, z, e⟩
theorem RT.of {lo : Nat} {M : Value} {rb : Nat → Nat} {F : Nat → Nat → Bool} (h : RefM lo w M n n rb F) (ht : Twin n F A) : RT w n (.agg #[.int .i64 ((n : Nat) : Int), M]) A := by
 obtain ⟨x, y, z, rfl⟩ := h.slice
 exact ⟨x, y, z, rb, F, rfl, h.mono (Nat.zero_le _), ht⟩
def Qg2 (n : Nat) (w : World) (L : List Nat) (e : Ending) (w' : World) : Prop := ∃ r, e = .returned r ∧ RT w' n r L ∧ Below w.heap.size w w'
theorem QE7 (hn : n ≤ 256) (h1 : RT w n u A) (h2 : RT w n v B) : Calls Tryz.prog 107 #[u, v] w (Qg2 n w (Qar [A, B])) := by
 obtain ⟨x, y, z, rb, F, rfl, hM, hT⟩ := h1
 obtain ⟨x1, y1, z1, rb1, G, rfl, hM1, hT1⟩ := h2
 refine (Qpc 0 0 n n n hn hn (show n = max n n by omega) x y z rb F x1 y1 z1 rb1 G w hM hM1).mono ?_
 rintro e w' ⟨M, rb', rfl, hR, hB⟩
 exact ⟨_, rfl, RT.of hR (Qxk hT hT1 oW), hB⟩
theorem QE8 (hn : n ≤ 256) (h1 : RT w n u A) (h2 : RT w n v B) : Calls Tryz.prog 52 #[u, v] w (Qg2 n w (Qbk A B)) := by
 obtain ⟨x, y, z, rb, F, rfl, hM, hT⟩ := h1
 obtain ⟨x1, y1, z1, rb1, G, rfl, hM1, hT1⟩ := h2
 refine (Qpd 0 0 n n n hn hn (show n = max n n by omega) x y z rb F x1 y1 z1 rb1 G w hM hM1).mono ?_
 rintro e w' ⟨M, rb', rfl, hR, hB⟩
 exact ⟨_, rfl, RT.of hR (Qxl hT hT1 oW), hB⟩
theorem QE9 (hn : n ≤ 256) (h1 : RT w n u A) (h2 : RT w n v B) : Calls Tryz.prog 53 #[u, v] w (Qg2 n w (Qcn A B)) := by
 obtain ⟨x, y, z, rb, F, rfl, hM, hT⟩ := h1
 obtain ⟨x1, y1, z1, rb1, G, rfl, hM1, hT1⟩ := h2
 refine (Qpb 0 0 n n n hn hn (show n = max n n by omega) x y z rb F x1 y1 z1 rb1 G w hM hM1).mono ?_
 rintro e w' ⟨M, rb', rfl, hR, hB⟩
 exact ⟨_, rfl, RT.of hR (Qyd hT hT1 oW), hB⟩
theorem Qzm (hn : n ≤ 256) (h1 : RT w n u A) (h2 : RT w n v B) : Calls Tryz.prog 64 #[u, v] w (Qg2 n w (Qaw A B)) := by
 obtain ⟨x, y, z, rb, F, rfl, hM, hT⟩ := h1
 obtain ⟨x1, y1, z1, rb1, G, rfl, hM1, hT1⟩ := h2
 refine (Qkz 0 0 n n n hn hn (show n = max n n by omega) x y z rb F x1 y1 z1 rb1 G w hM hM1).mono ?_
 rintro e w' ⟨M, rb', rfl, hR, hB⟩
 exact ⟨_, rfl, RT.of hR (Qz7 hn hT hT1 oW), hB⟩
theorem Qqi (hn : n ≤ 256) : Qau ((n : Nat) : Int) = n := by unfold Qau; omega
theorem QF (hn : n ≤ 256) {l : List Bool} (h1 : SetArg w u l) : Calls Tryz.prog 49 #[.int .i64 ((n : Nat) : Int), u] w (Qg2 n w (Qa6 ((n : Nat) : Int) l)) := by
 refine (Quo ((n : Nat) : Int) u l w h1 n (Qqi hn) oW oW).mono ?_
 rintro e w' ⟨M, rb', rfl, hR, hB⟩
 have ht := Qxm (n : Int) l
 rw [Qqi hn] at ht
 exact ⟨_, rfl, RT.of hR ht, hB⟩
theorem QFa (hn : n ≤ 256) (h1 : RT w n u A) : Calls Tryz.prog 62 #[u] w fun e w' => ∃ v out, e = .returned v ∧ (∀ out2, Qb8 A out2 → out = out2) ∧ w'.ownsRow w.heap.size 3 1 v out.length (Qcl out) ∧ Below w.heap.size w w' := by
 obtain ⟨x, y, z, rb, F, rfl, hM, hT⟩ := h1
 refine (Qpu 0 n hn x y z rb F w hM).mono ?_
 rintro e w' ⟨v, out, rfl, hR, hB⟩
 exact ⟨v, out, rfl, fun out2 h => QCu hn hT.same hT.wf h hR, hB⟩
end
end Go.Proofs.YtdkogbfamdnheaaGreatDoor
