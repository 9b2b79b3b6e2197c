/- Each maker: the document's table and the program's rows have the same pairs, also where the parts are of unlike lengths. -/
import Derived.Test.YtogifpilfckenaaDoorJ20
import Derived.Test.YtogifpilfckenaaDoorJ15
import Derived.Test.YtogifpilfckenaaDoorJ21
import Derived.Test.YtogifpilfckenaaDoorJ13
import Derived.Test.YtogifpilfckenaaDoorImageWalk
import Derived.Test.YtogifpilfckenaaDoorIdentWalk
namespace Go.Proofs.YtogifpilfckenaaDoor
open Go.RowKit Go.Shelf Sx Relation

/-- A table and rows of one length with the same pairs. -/
structure Twin (n : Nat) (F : Nat → Nat → Bool) (L : List Nat) : Prop where
  wf : WF n L
  same : Same n F L
section
variable {n m N : Nat} {F G : Nat → Nat → Bool} {A B : List Nat}
theorem Twin.ext (h : Twin n F A) (p q : Nat) : extF n F p q = true ↔ hs A p q := by
  unfold extF
  rw [Bool.and_eq_true, Bool.and_eq_true, decide_eq_true_eq, decide_eq_true_eq]
  constructor
  · rintro ⟨h1, h2, h3⟩
    exact (h.same p q h1 h2).1 h3
  · intro h1
    have h2 := hs_left h1
    rw [h.wf.len] at h2
    exact ⟨h2, h.wf.low _ _ h1, (h.same p q h2 (h.wf.low _ _ h1)).2 h1⟩
theorem Twin.low (h : Twin n F A) {p q : Nat} (h1 : hs A p q) : p < n ∧ q < n := by
  have h2 := hs_left h1
  rw [h.wf.len] at h2
  exact ⟨h2, h.wf.low _ _ h1⟩
/-- Rows whose pairs are told whole make a twin. -/
theorem Twin.mk' {L : List Nat} {H : Nat → Nat → Bool} (hl : L.length = N) (h1 : ∀ p q, hs L p q → q < N) (h2 : ∀ p q, p < N → q < N → (H p q = true ↔ hs L p q)) : Twin N H L := ⟨⟨hl, h1⟩, h2⟩

theorem hs_uniK {X L : List Nat} (hx : L.length ≤ X.length) (p q : Nat) : hs (uniK X L L.length) p q ↔ hs X p q ∨ hs L p q := by
  by_cases hp : p < X.length
  · unfold hs
    rw [gr_uniK hp]
    by_cases hl : p < L.length
    · rw [if_pos hl, Nat.testBit_or, Bool.or_eq_true]
    · rw [if_neg hl, gr_not hl]
      simp
  · constructor
    · intro h
      have := hs_left h
      rw [uniK_length] at this
      omega
    · rintro (h | h)
      · have := hs_left h; omega
      · have := hs_left h; omega
theorem uni_len : ∀ (Ls : List (List Nat)) (X : List Nat), (Ls.foldl (fun A L => uniK A L L.length) X).length = X.length
  | [], _ => rfl
  | L :: Ls, X => by rw [List.foldl_cons, uni_len Ls, uniK_length]
theorem hs_uniF (p q : Nat) : ∀ (Ls : List (List Nat)) (X : List Nat), (∀ L ∈ Ls, L.length ≤ X.length) → (hs (Ls.foldl (fun A L => uniK A L L.length) X) p q ↔ hs X p q ∨ ∃ L ∈ Ls, hs L p q)
  | [], X, _ => by simp
  | L :: Ls, X, h => by
    rw [List.foldl_cons, hs_uniF p q Ls _ (fun M hM => by rw [uniK_length]; exact h M (List.mem_cons_of_mem _ hM)), hs_uniK (h L (by simp))]
    simp [or_assoc]
theorem maxLen_le : ∀ (Ls : List (List Nat)) (k : Nat), k ≤ Ls.foldl (fun n L => max n L.length) k ∧ ∀ L ∈ Ls, L.length ≤ Ls.foldl (fun n L => max n L.length) k
  | [], k => ⟨Nat.le_refl _, by simp⟩
  | L :: Ls, k => by
    have ih := maxLen_le Ls (max k L.length)
    rw [List.foldl_cons]
    refine ⟨by omega, fun M hM => ?_⟩
    rcases List.mem_cons.1 hM with rfl | hM
    · omega
    · exact ih.2 M hM
theorem hs_unions (Ls : List (List Nat)) (p q : Nat) : hs (unionL Ls) p q ↔ ∃ L ∈ Ls, hs L p q := by
  unfold unionL
  rw [hs_uniF p q Ls _ (fun L hL => by rw [List.length_replicate]; exact (maxLen_le Ls 0).2 L hL)]
  constructor
  · rintro (h | h)
    · exact absurd h (hs_zero _ _ _)
    · exact h
  · exact Or.inr
theorem unions_len (Ls : List (List Nat)) : (unionL Ls).length = maxLenL Ls := by
  unfold unionL
  rw [uni_len, List.length_replicate]
theorem twin_zero (n : Nat) : Twin n (fun _ _ => false) (List.replicate n 0) :=
  Twin.mk' (by simp) (fun p q h => absurd h (hs_zero _ _ _)) (fun p q _ _ => by simp [hs_zero])
theorem twin_union (ha : Twin n F A) (hb : Twin m G B) (HN : N = max n m) : Twin N (fun p q => extF n F p q || extF m G p q) (unionL [A, B]) := by
  have key : ∀ p q, hs (unionL [A, B]) p q ↔ hs A p q ∨ hs B p q := fun p q => by rw [hs_unions]; simp
  refine Twin.mk' (by rw [unions_len]; simp [maxLenL, ha.wf.len, hb.wf.len, HN]) ?_ ?_
  · intro p q h
    rcases (key p q).1 h with h | h
    · have := ha.low h; omega
    · have := hb.low h; omega
  · intro p q _ _
    rw [Bool.or_eq_true, ha.ext, hb.ext, key]
theorem twin_many {k : Nat} {H : Nat → Nat → Bool} {C : List Nat} (ha : Twin n F A) (hb : Twin m G B) (hc : Twin k H C) {M : Nat} (HM : M = max n m) (HN : N = max M k) :
    Twin N (fun p q => extF M (fun p q => extF n F p q || extF m G p q) p q || extF k H p q) (unionL [A, B, A, C, B]) := by
  have key : ∀ p q, hs (unionL [A, B, A, C, B]) p q ↔ (hs A p q ∨ hs B p q) ∨ hs C p q := fun p q => by
    rw [hs_unions]
    simp
    constructor
    · rintro (h | h | h | h | h)
      · exact Or.inl (Or.inl h)
      · exact Or.inl (Or.inr h)
      · exact Or.inl (Or.inl h)
      · exact Or.inr h
      · exact Or.inl (Or.inr h)
    · rintro ((h | h) | h)
      · exact Or.inl h
      · exact Or.inr (Or.inl h)
      · exact Or.inr (Or.inr (Or.inr (Or.inl h)))
  have hu := twin_union ha hb HM
  have hk2 : ∀ p q, hs (unionL [A, B]) p q ↔ hs A p q ∨ hs B p q := fun p q => by rw [hs_unions]; simp
  refine Twin.mk' (by rw [unions_len]; simp [maxLenL, ha.wf.len, hb.wf.len, hc.wf.len, HN, HM]; omega) ?_ ?_
  · intro p q h
    rcases (key p q).1 h with (h | h) | h
    · have := ha.low h; omega
    · have := hb.low h; omega
    · have := hc.low h; omega
  · intro p q _ _
    rw [Bool.or_eq_true, hu.ext, hc.ext, key, hk2]
theorem twin_inter (ha : Twin n F A) (hb : Twin m G B) (HN : N = max n m) : Twin N (fun p q => extF n F p q && extF m G p q) (interL A B) := by
  have hl : max A.length B.length = N := by rw [ha.wf.len, hb.wf.len, HN]
  have key : ∀ p q, hs (interL A B) p q ↔ hs A p q ∧ hs B p q := fun p q => by
    unfold interL
    rw [hl, hs_fill (Nat.le_refl _), Nat.testBit_and, Bool.and_eq_true]
    exact ⟨fun h => h.2, fun h => ⟨by have := ha.low h.1; omega, h⟩⟩
  refine Twin.mk' (by unfold interL; rw [fillK_length, hl]) ?_ ?_
  · intro p q h
    have := ha.low ((key p q).1 h).1; omega
  · intro p q _ _
    rw [Bool.and_eq_true, ha.ext, hb.ext, key]
theorem twin_minus (ha : Twin n F A) (hb : Twin m G B) (HN : N = max n m) : Twin N (fun p q => extF n F p q && !extF m G p q) (minusL A B) := by
  have hl : max A.length B.length = N := by rw [ha.wf.len, hb.wf.len, HN]
  have key : ∀ p q, hs (minusL A B) p q ↔ hs A p q ∧ ¬ hs B p q := fun p q => by
    unfold minusL
    rw [hl, hs_fill (Nat.le_refl _), testBit_ldiff, Bool.and_eq_true, Bool.not_eq_true']
    unfold hs
    rw [Bool.not_eq_true]
    exact ⟨fun h => h.2, fun h => ⟨by have := ha.low (show hs A p q from h.1); omega, h⟩⟩
  refine Twin.mk' (by unfold minusL; rw [fillK_length, hl]) ?_ ?_
  · intro p q h
    have := ha.low ((key p q).1 h).1; omega
  · intro p q _ _
    rw [Bool.and_eq_true, ha.ext, Bool.not_eq_true', ← Bool.not_eq_true, hb.ext, key]
theorem cmpF_iff (X Y : Nat → Nat → Bool) (k p q : Nat) : cmpF X Y k p q = true ↔ ∃ r, r < k ∧ X p r = true ∧ Y r q = true := by
  induction k with
  | zero => simp [cmpF]
  | succ k ih =>
    rw [cmpF_succ, Bool.or_eq_true, ih, Bool.and_eq_true]
    constructor
    · rintro (⟨r, h1, h2⟩ | h)
      · exact ⟨r, by omega, h2⟩
      · exact ⟨k, by omega, h⟩
    · rintro ⟨r, h1, h2⟩
      by_cases e : r = k
      · subst e; exact Or.inr h2
      · exact Or.inl ⟨r, by omega, h2⟩
theorem twin_comp (hn : n ≤ 256) (ha : Twin n F A) (hb : Twin m G B) (HN : N = max n m) : Twin N (cmpF (extF n F) (extF m G) N) (compL A B) := by
  have hl : max A.length B.length = N := by rw [ha.wf.len, hb.wf.len, HN]
  have key : ∀ p q, hs (compL A B) p q ↔ ∃ r, hs A p r ∧ hs B r q := fun p q => by
    unfold compL
    rw [hl]
    have e : fillK N (fun p => joinRows B (bitsOf (gr A p))) A.length = fillK N (fun p => joinRows B (bitsOf (gr A p))) N := by
      unfold fillK
      apply List.map_congr_left
      intro p hp
      have hp : p < N := by simpa using hp
      rw [if_pos hp]
      by_cases h : p < A.length
      · rw [if_pos h]
      · rw [if_neg h]
        show 0 = joinRows B (bitsOf (gr A p))
        rw [gr_not h]
        have : bitsOf 0 = [] := by
          cases e : bitsOf 0 with
          | nil => rfl
          | cons x l =>
            have : x ∈ bitsOf 0 := by rw [e]; simp
            have := (mem_bitsOf.1 this).2
            simp at this
        rw [this]
        rfl
    rw [e, hs_fill (Nat.le_refl _)]
    unfold joinRows
    rw [join_bits]
    constructor
    · rintro ⟨_, h | ⟨r, hr, h⟩⟩
      · simp at h
      · exact ⟨r, (mem_bitsOf.1 hr).2, h⟩
    · rintro ⟨r, h1, h2⟩
      have := ha.low h1
      exact ⟨by omega, Or.inr ⟨r, mem_bitsOf.2 ⟨by omega, h1⟩, h2⟩⟩
  refine Twin.mk' (by unfold compL; rw [fillK_length, hl]) ?_ ?_
  · intro p q h
    obtain ⟨r, _, h⟩ := (key p q).1 h
    have := hb.low h; omega
  · intro p q _ _
    rw [cmpF_iff, key]
    constructor
    · rintro ⟨r, _, h1, h2⟩
      exact ⟨r, (ha.ext p r).1 h1, (hb.ext r q).1 h2⟩
    · rintro ⟨r, h1, h2⟩
      have := hb.low h2
      exact ⟨r, by omega, (ha.ext p r).2 h1, (hb.ext r q).2 h2⟩
theorem twin_inv (hn : n ≤ 256) (ha : Twin n F A) : Twin n (fun p q => F q p) (invL A) :=
  ⟨wf_inv hn ha.wf, fun p q hp hq => by rw [hs_inv hn ha.wf]; exact ha.same q p hq hp⟩
theorem twin_opt (ha : Twin n F A) : Twin n (fun p q => F p q || decide (p = q)) (optL A) := by
  refine Twin.mk' (by unfold optL; rw [optK_length, ha.wf.len]) ?_ ?_
  · intro p q h
    rcases (hs_opt ha.wf p q).1 h with h | ⟨rfl, h2⟩
    · exact (ha.low h).2
    · exact h2
  · intro p q hp hq
    rw [hs_opt ha.wf, Bool.or_eq_true, decide_eq_true_eq, ha.same p q hp hq]
    constructor
    · rintro (h | h)
      · exact Or.inl h
      · exact Or.inr ⟨h, hp⟩
    · rintro (h | h)
      · exact Or.inl h
      · exact Or.inr h.1
theorem twin_plus (ha : Twin n F A) : Twin n (plusFn F n) (plusL A) := ⟨wf_plus ha.wf, same_plus ha.same ha.wf.len⟩
theorem twin_star (ha : Twin n F A) : Twin n (fun p q => plusFn F n p q || decide (p = q)) (optL (plusL A)) := twin_opt (twin_plus ha)
end
end Go.Proofs.YtogifpilfckenaaDoor
/- The rest of the makers, and what is asked: the document's answers are the program's. -/
namespace Go.Proofs.YtogifpilfckenaaDoor
open Go.RowKit Go.Shelf Sx Relation
section
variable {n m N : Nat} {F G : Nat → Nat → Bool} {A B : List Nat}
theorem twin_put (ha : Twin n F A) (a b : Int) (v : Bool) : Twin n (putF n F a b v) (putP A a b v) := by
  unfold putF putP
  rw [ha.wf.len]
  by_cases h : (inR n a && inR n b) = true
  · rw [if_pos h, if_pos h]
    rw [Bool.and_eq_true] at h
    obtain ⟨i, rfl, hi⟩ := inR_true h.1
    obtain ⟨j, rfl, hj⟩ := inR_true h.2
    rw [Int.toNat_natCast, Int.toNat_natCast]
    have hl := ha.wf.len
    refine Twin.mk' (by rw [List.length_set, hl]) ?_ ?_
    · intro p q hpq
      rw [hs_set] at hpq
      split at hpq
      · rw [testBit_setB] at hpq
        split at hpq
        · omega
        · exact ha.wf.low i q hpq
      · exact ha.wf.low _ _ hpq
    · intro p q hp hq
      unfold upd
      by_cases e : p = i
      · subst e
        have e3 : hs (A.set p (setB (gr A p) j v)) p q ↔ (setB (gr A p) j v).testBit q = true := by rw [hs_set, if_pos ⟨rfl, by omega⟩]
        rw [e3, testBit_setB]
        by_cases e2 : q = j
        · subst e2; simp
        · rw [if_neg (fun h => e2 h.2), if_neg e2]
          exact ha.same p q hp hq
      · rw [hs_set, if_neg (fun h => e h.1), if_neg (fun h => e h.1)]
        exact ha.same p q hp hq
  · rw [if_neg h, if_neg h]
    exact ha
theorem twin_has (ha : Twin n F A) (a b : Int) : hasF n F a b = hasP A a b := by
  unfold hasF hasP
  rw [ha.wf.len]
  cases h1 : inR n a
  · rfl
  · cases h2 : inR n b
    · rfl
    · obtain ⟨i, rfl, hi⟩ := inR_true h1
      obtain ⟨j, rfl, hj⟩ := inR_true h2
      rw [Int.toNat_natCast, Int.toNat_natCast]
      have := ha.same i j hi hj
      unfold hs at this
      rw [Bool.eq_iff_iff]
      simpa using this
theorem twin_putc (ha : Twin n F A) (a b : Int) (v : Bool) : putcF n F a b v = putC A a b v := by
  have h := twin_has ha a b
  unfold putcF putC
  unfold hasF hasP at h
  unfold hasP
  rw [ha.wf.len] at h ⊢
  cases h1 : inR n a
  · rfl
  · cases h2 : inR n b
    · rfl
    · rw [h1, h2] at h
      simp only [Bool.true_and] at h ⊢
      rw [h]
theorem twin_of (n : Int) (l : List (Int × Int)) : Twin (clampN n) (ofFn (clampN n) l) (ofL n l) := by
  have key : ∀ (l : List (Int × Int)) (F : Nat → Nat → Bool) (A : List Nat), Twin (clampN n) F A → Twin (clampN n) (l.foldl (fun F x => putF (clampN n) F x.1 x.2 true) F) (l.foldl (fun A x => putP A x.1 x.2 true) A) := by
    intro l
    induction l with
    | nil => exact fun F A h => h
    | cons x l ih => exact fun F A h => ih _ _ (twin_put h x.1 x.2 true)
  exact key l _ _ (twin_zero _)
theorem row_bit (n : Nat) (l : List Bool) (p : Nat) : (rowOfL n l).testBit p = true ↔ p < n ∧ l.getD p false = true := by
  unfold rowOfL
  rw [testBit_rowOfK, Bool.and_eq_true, decide_eq_true_eq]
  constructor
  · exact fun h => ⟨by omega, h.2⟩
  · rintro ⟨h1, h2⟩
    refine ⟨?_, h2⟩
    have : p < l.length := by
      apply Nat.lt_of_not_le
      intro hle
      rw [List.getD_eq_getElem?_getD, List.getElem?_eq_none hle] at h2
      cases h2
    omega
theorem row_mem {n : Nat} (hn : n ≤ 256) (l : List Bool) (p : Nat) : p ∈ bitsOf (rowOfL n l) ↔ p < n ∧ l.getD p false = true := by
  rw [mem_bitsOf, row_bit]
  exact ⟨fun h => h.2, fun h => ⟨by omega, h⟩⟩
theorem identIn_len : ∀ (l : List Nat) (X : List Nat), (identIn X l).length = X.length
  | [], _ => rfl
  | q :: l, X => by
    show (identIn (putP X q q true) l).length = _
    rw [identIn_len l, putP_len]
theorem hs_identIn : ∀ (l : List Nat) (X : List Nat), (∀ q ∈ l, q < X.length) → ∀ a b, hs (identIn X l) a b ↔ hs X a b ∨ (a = b ∧ a ∈ l)
  | [], X, _, a, b => by simp [identIn]
  | q :: l, X, hq, a, b => by
    show hs (identIn (putP X q q true) l) a b ↔ _
    rw [hs_identIn l _ (fun r hr => by rw [putP_len]; exact hq r (List.mem_cons_of_mem _ hr)), hs_put (hq q (by simp)) (hq q (by simp))]
    constructor
    · rintro ((h | ⟨rfl, rfl⟩) | ⟨rfl, h⟩)
      · exact Or.inl h
      · exact Or.inr ⟨rfl, by simp⟩
      · exact Or.inr ⟨rfl, List.mem_cons_of_mem _ h⟩
    · rintro (h | ⟨rfl, h⟩)
      · exact Or.inl (Or.inl h)
      · rcases List.mem_cons.1 h with rfl | h
        · exact Or.inl (Or.inr ⟨rfl, rfl⟩)
        · exact Or.inr ⟨rfl, h⟩
theorem twin_ident (n : Int) (l : List Bool) : Twin (clampN n) (idF l (clampN n)) (identL n l) := by
  have hc : clampN n ≤ 256 := by unfold clampN; omega
  have key : ∀ p q, hs (identL n l) p q ↔ p = q ∧ p < clampN n ∧ l.getD p false = true := fun p q => by
    unfold identL
    rw [hs_identIn _ _ (fun q hq => by rw [List.length_replicate]; exact ((row_mem hc l q).1 hq).1), row_mem hc]
    constructor
    · rintro (h | h)
      · exact absurd h (hs_zero _ _ _)
      · exact h
    · exact Or.inr
  refine Twin.mk' (by unfold identL; rw [identIn_len, List.length_replicate]) ?_ ?_
  · intro p q h
    have := (key p q).1 h
    omega
  · intro p q _ _
    rw [key]
    unfold idF
    rw [Bool.and_eq_true, Bool.and_eq_true, decide_eq_true_eq, decide_eq_true_eq]
theorem hs_cutIn (L : List Nat) (E : Nat) : ∀ (l : List Nat) (X : List Nat), (∀ q ∈ l, q < X.length) → ∀ a b, hs (cutIn L E X l) a b ↔ if a ∈ l then hs L a b ∧ E.testBit b = true else hs X a b
  | [], X, _, a, b => by simp [cutIn]
  | q :: l, X, hq, a, b => by
    show hs (cutIn L E (X.set q (gr L q &&& E)) l) a b ↔ _
    rw [hs_cutIn L E l _ (fun r hr => by rw [List.length_set]; exact hq r (List.mem_cons_of_mem _ hr)), hs_set]
    by_cases h1 : a ∈ l
    · rw [if_pos h1, if_pos (List.mem_cons_of_mem _ h1)]
    · rw [if_neg h1]
      by_cases e : a = q
      · subst e
        rw [if_pos ⟨rfl, hq a (by simp)⟩, if_pos (by simp), Nat.testBit_and, Bool.and_eq_true]
        rfl
      · rw [if_neg (fun h => e h.1), if_neg (by simp [e, h1])]
theorem twin_cut (hn : n ≤ 256) (ha : Twin n F A) (l1 l2 : List Bool) : Twin n (fun p q => F p q && (l1.getD p false && l2.getD q false)) (cutL A l1 l2) := by
  have hl := ha.wf.len
  have key : ∀ p q, hs (cutL A l1 l2) p q ↔ hs A p q ∧ l1.getD p false = true ∧ l2.getD q false = true := fun p q => by
    unfold cutL
    rw [hl, hs_cutIn _ _ _ _ (fun q hq => by rw [List.length_replicate]; exact ((row_mem hn l1 q).1 hq).1)]
    by_cases h : p ∈ bitsOf (rowOfL n l1)
    · rw [if_pos h, row_bit]
      have h2 := (row_mem hn l1 p).1 h
      exact ⟨fun h3 => ⟨h3.1, h2.2, h3.2.2⟩, fun h3 => ⟨h3.1, (ha.low h3.1).2, h3.2.2⟩⟩
    · rw [if_neg h]
      constructor
      · exact fun h3 => absurd h3 (hs_zero _ _ _)
      · exact fun h3 => absurd ((row_mem hn l1 p).2 ⟨(ha.low h3.1).1, h3.2.1⟩) h
  refine Twin.mk' (by unfold cutL; rw [cutIn_length, List.length_replicate, hl]) ?_ ?_
  · intro p q h
    exact (ha.low ((key p q).1 h).1).2
  · intro p q hp hq
    rw [key, Bool.and_eq_true, Bool.and_eq_true, ha.same p q hp hq]

/-! What is asked -/
theorem img_bit (l : List Bool) (F : Nat → Nat → Bool) (k y : Nat) : imgFn l F k y = true ↔ ∃ p, p < k ∧ l.getD p false = true ∧ F p y = true := by
  induction k with
  | zero => simp [imgFn]
  | succ k ih =>
    rw [imgFn_succ, Bool.or_eq_true, ih, Bool.and_eq_true]
    constructor
    · rintro (⟨p, h1, h2⟩ | h)
      · exact ⟨p, by omega, h2⟩
      · exact ⟨k, by omega, h⟩
    · rintro ⟨p, h1, h2⟩
      by_cases e : p = k
      · subst e; exact Or.inr h2
      · exact Or.inl ⟨p, by omega, h2⟩
theorem imgIn_at : ∀ (l : List Nat) (X : List Bool) (q : Nat), q < X.length → (imgIn X l)[q]? = some (decide (q ∈ l) || X.getD q false)
  | [], X, q, hq => by simp [imgIn, hq]
  | x :: l, X, q, hq => by
    show (imgIn (X.set x true) l)[q]? = _
    rw [imgIn_at l _ q (by rw [List.length_set]; exact hq)]
    congr 1
    rw [List.getD_eq_getElem?_getD, List.getElem?_set]
    by_cases e : x = q
    · subst e; simp [hq]
    · rw [if_neg e]
      have e' : ¬ q = x := fun h => e h.symm
      simp [e', hq]
theorem twin_img (hn : n ≤ 256) (ha : Twin n F A) (l : List Bool) : imgL A l = rowL n (imgFn l F n) := by
  have hl := ha.wf.len
  apply List.ext_getElem?
  intro q
  by_cases hq : q < n
  · unfold imgL
    rw [imgIn_at _ _ _ (by rw [List.length_replicate, hl]; exact hq)]
    unfold rowL
    rw [List.getElem?_map, List.getElem?_range hq, Option.map_some]
    congr 1
    rw [Bool.eq_iff_iff, Bool.or_eq_true, decide_eq_true_eq, img_bit, mem_bitsOf, hl]
    unfold joinRows
    rw [join_bits]
    constructor
    · rintro (⟨_, h | ⟨p, h1, h2⟩⟩ | h)
      · simp at h
      · have h3 := (row_mem hn l p).1 h1
        exact ⟨p, h3.1, h3.2, (ha.same p q h3.1 hq).2 h2⟩
      · simp [hq] at h
    · rintro ⟨p, h1, h2, h3⟩
      exact Or.inl ⟨by omega, Or.inr ⟨p, (row_mem hn l p).2 ⟨h1, h2⟩, (ha.same p q h1 hq).1 h3⟩⟩
  · rw [List.getElem?_eq_none (by unfold imgL; rw [imgIn_length, List.length_replicate, hl]; omega), List.getElem?_eq_none (by simp [rowL]; omega)]
theorem bits_row (hn : n ≤ 256) (ha : Twin n F A) {p : Nat} (hp : p < n) : bitsOf (gr A p) = (List.range n).filter (F p) := by
  unfold bitsOf bitsN
  obtain ⟨d, hd⟩ : ∃ d, 256 = n + d := ⟨256 - n, by omega⟩
  have hz : (List.map (fun x => n + x) (List.range d)).filter (gr A p).testBit = [] := by
    rw [List.filter_eq_nil_iff]
    intro q hq h
    obtain ⟨r, _, rfl⟩ := List.mem_map.1 hq
    have := (ha.low (show hs A p (n + r) from h)).2
    omega
  rw [hd, List.range_add, List.filter_append, hz, List.append_nil]
  apply List.filter_congr
  intro q hq
  have hq : q < n := by simpa using hq
  rw [Bool.eq_iff_iff]
  exact (ha.same p q hp hq).symm
theorem twin_pairs (hn : n ≤ 256) (ha : Twin n F A) : pairsL A = prsF n F n 0 := by
  unfold pairsL pairsK prsF
  rw [ha.wf.len, show prsRow F n 0 = [] from rfl, List.append_nil]
  rw [List.flatMap_def, List.flatMap_def]
  congr 1
  apply List.map_congr_left
  intro p hp
  have hp : p < n := by simpa using hp
  unfold prsRow
  rw [bits_row hn ha hp]
theorem twin_size (hn : n ≤ 256) (ha : Twin n F A) : sizeL A = (prsF n F n 0).length := by
  rw [← twin_pairs hn ha]
  unfold sizeL pairsL
  generalize A.length = k
  induction k with
  | zero => rfl
  | succ k ih => rw [sizeK_succ, pairsK_succ, List.length_append, List.length_map, ih]
theorem twin_irr (ha : Twin n F A) : irrF n F = (loopsL A == 0) := by
  rw [Bool.eq_iff_iff, beq_iff_eq, loops_zero]
  unfold irrF
  rw [List.all_eq_true]
  constructor
  · intro h p hp
    have h1 := (ha.low hp).1
    have := h p (by simpa using h1)
    rw [Bool.not_eq_true', ← Bool.not_eq_true] at this
    exact this ((ha.same p p h1 h1).2 hp)
  · intro h p hp
    have hp : p < n := by simpa using hp
    rw [Bool.not_eq_true', ← Bool.not_eq_true, ha.same p p hp hp]
    exact h p
theorem within_iff (ha : Twin n F A) (hb : Twin m G B) : withinF n m F G = true ↔ ∀ p q, hs A p q → hs B p q := by
  unfold withinF
  rw [List.all_eq_true]
  constructor
  · intro h p q hpq
    have hl := ha.low hpq
    have h1 := h p (by simpa using hl.1)
    rw [List.all_eq_true] at h1
    have h2 := h1 q (by simpa using hl.2)
    rw [Bool.or_eq_true, Bool.not_eq_true', ← Bool.not_eq_true, ha.same p q hl.1 hl.2, hb.ext] at h2
    exact h2.resolve_left (fun h => h hpq)
  · intro h p hp
    rw [List.all_eq_true]
    intro q hq
    have hp : p < n := by simpa using hp
    have hq : q < n := by simpa using hq
    rw [Bool.or_eq_true, Bool.not_eq_true', ← Bool.not_eq_true, ha.same p q hp hq, hb.ext]
    by_cases h1 : hs A p q
    · exact Or.inr (h p q h1)
    · exact Or.inl h1
theorem size_zero (L : List Nat) (h256 : ∀ p q, hs L p q → q < 256) : sizeL L = 0 ↔ ∀ p q, ¬ hs L p q := by
  unfold sizeL
  have key : ∀ k, sizeK L k = 0 ↔ ∀ p q, p < k → ¬ hs L p q := by
    intro k
    induction k with
    | zero => simp [sizeK]
    | succ k ih =>
      rw [sizeK_succ, Nat.add_eq_zero_iff, ih, List.length_eq_zero_iff, List.eq_nil_iff_forall_not_mem]
      constructor
      · rintro ⟨h1, h2⟩ p q hp hpq
        by_cases e : p = k
        · subst e
          exact h2 q (mem_bitsOf.2 ⟨h256 _ _ hpq, hpq⟩)
        · exact h1 p q (by omega) hpq
      · intro h
        exact ⟨fun p q hp => h p q (by omega), fun q hq => h k q (by omega) (mem_bitsOf.1 hq).2⟩
  rw [key]
  constructor
  · exact fun h p q hpq => h p q (hs_left hpq) hpq
  · exact fun h p q _ => h p q
theorem twin_within (hn : n ≤ 256) (hm : m ≤ 256) (ha : Twin n F A) (hb : Twin m G B) : withinF n m F G = (sizeL (minusL A B) == 0) := by
  have hM := twin_minus ha hb (N := max n m) rfl
  rw [Bool.eq_iff_iff, beq_iff_eq, within_iff ha hb, size_zero _ (fun p q h => by have := (hM.low h).2; omega)]
  have e : ∀ p q, hs (minusL A B) p q ↔ hs A p q ∧ ¬ hs B p q := by
    intro p q
    rw [← hM.ext]
    unfold extF
    rw [Bool.and_eq_true, Bool.and_eq_true, Bool.and_eq_true, Bool.not_eq_true', ← Bool.not_eq_true, decide_eq_true_eq, decide_eq_true_eq]
    have h1 := ha.ext p q
    have h2 := hb.ext p q
    unfold extF at h1 h2
    rw [h1, h2]
    constructor
    · exact fun h => h.2.2
    · exact fun h => ⟨by have := ha.low h.1; omega, by have := ha.low h.1; omega, h⟩
  constructor
  · intro h p q hpq
    have := (e p q).1 hpq
    exact this.2 (h p q this.1)
  · intro h p q hpq
    apply Classical.byContradiction
    intro hn
    exact h p q ((e p q).2 ⟨hpq, hn⟩)
theorem twin_equal (ha : Twin n F A) (hb : Twin m G B) : equalF n m F G = (A == B) := by
  rw [Bool.eq_iff_iff, beq_iff_eq]
  unfold equalF
  rw [Bool.and_eq_true, Bool.and_eq_true, decide_eq_true_eq, within_iff ha hb, within_iff hb ha]
  constructor
  · rintro ⟨e, h1, h2⟩
    subst e
    exact WF.ext ha.wf hb.wf fun p q => ⟨h1 p q, h2 p q⟩
  · intro e
    subst e
    exact ⟨by rw [← ha.wf.len, ← hb.wf.len], fun _ _ h => h, fun _ _ h => h⟩
end
end Go.Proofs.YtogifpilfckenaaDoor
