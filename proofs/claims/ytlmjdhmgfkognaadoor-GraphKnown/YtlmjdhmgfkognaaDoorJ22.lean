/- The contract of the document's own Put. -/
import Derived.Test.YtlmjdhmgfkognaaDoorJ21
import Derived.Laws.ResultCell
import Derived.Test.YtlmjdhmgfkognaaDoorJ20
import Derived.Test.YtlmjdhmgfkognaaDoorJ10
import Derived.Test.YtlmjdhmgfkognaaDoorJ09
namespace Go.Proofs.YtlmjdhmgfkognaaDoor
open Go.RowKit Go.Shelf Sx

def putF (n : Nat) (F : Nat → Nat → Bool) (a b : Int) (v : Bool) : Nat → Nat → Bool := if inR n a && inR n b then upd F a.toNat b.toNat v else F
def putcF (n : Nat) (F : Nat → Nat → Bool) (a b : Int) (v : Bool) : Bool := inR n a && (inR n b && (F a.toNat b.toNat != v))
theorem upd_same {F : Nat → Nat → Bool} {p q : Nat} {v : Bool} (h : F p q = v) (x y : Nat) : F x y = upd F p q v x y := by
  unfold upd
  split
  · rename_i e; rw [e.1, e.2, h]
  · rfl

end Go.Proofs.YtlmjdhmgfkognaaDoor
/- Of RefInv, what this seat can build. -/
namespace Go.Proofs.YtlmjdhmgfkognaaDoor
open Go.RowKit Go.Shelf Sx

theorem fillF_putT (G F0 : Nat → Nat → Bool) {m a b : Nat} : upd (fun x y => fillF G F0 m a b y x) b a (G a b) = fun x y => fillF G F0 m a (b + 1) y x := by
  funext x y
  have := congrFun (congrFun (fillF_put G F0 (m := m) (a := a) (b := b)) y) x
  rw [← this]
  unfold upd
  by_cases h : x = b ∧ y = a
  · rw [if_pos h, if_pos ⟨h.2, h.1⟩]
  · rw [if_neg h, if_neg (fun k => h ⟨k.2, k.1⟩)]
theorem fillF_full {G F0 : Nat → Nat → Bool} {m k x y : Nat} (hx : x < k) (hy : y < m) : fillF G F0 m k 0 x y = G x y := by
  unfold fillF
  rw [if_pos (Or.inl ⟨hx, hy⟩)]
end Go.Proofs.YtlmjdhmgfkognaaDoor
/- Of RefUnion, what this seat can build. -/
namespace Go.Proofs.YtlmjdhmgfkognaaDoor
open Go.RowKit Go.Shelf Sx

def extF (n : Nat) (F : Nat → Nat → Bool) : Nat → Nat → Bool := fun p q => decide (p < n) && (decide (q < n) && F p q)
theorem fill_ext (n : Nat) (F : Nat → Nat → Bool) (p q : Nat) : fillF F (fun _ _ => false) n n 0 p q = extF n F p q := by
  unfold fillF extF
  by_cases h1 : p < n
  · by_cases h2 : q < n
    · rw [if_pos (by omega)]; simp [h1, h2]
    · rw [if_neg (by omega)]; simp [h2]
  · rw [if_neg (by omega)]; simp [h1]
theorem fill_union (n m : Nat) (F G : Nat → Nat → Bool) (p q : Nat) : fillF (fun p q => extF n F p q || G p q) (extF n F) m m 0 p q = (extF n F p q || extF m G p q) := by
  unfold fillF
  by_cases h1 : p < m
  · by_cases h2 : q < m
    · rw [if_pos (by omega)]
      have : extF m G p q = G p q := by unfold extF; simp [h1, h2]
      rw [this]
    · rw [if_neg (by omega)]
      have : extF m G p q = false := by unfold extF; simp [h2]
      rw [this, Bool.or_false]
  · rw [if_neg (by omega)]
    have : extF m G p q = false := by unfold extF; simp [h1]
    rw [this, Bool.or_false]
end Go.Proofs.YtlmjdhmgfkognaaDoor
/- Of RefInter, what this seat can build. -/
namespace Go.Proofs.YtlmjdhmgfkognaaDoor
open Go.RowKit Go.Shelf Sx

theorem hasF_nat (n : Nat) (F : Nat → Nat → Bool) (p q : Nat) : hasF n F ((p : Nat) : Int) ((q : Nat) : Int) = extF n F p q := by
  unfold hasF extF inR
  rw [Int.toNat_natCast, Int.toNat_natCast]
  congr 1
  · simp
  · congr 1
    simp
theorem fillF_put2 {G F0 : Nat → Nat → Bool} {m a b : Nat} {v : Bool} (h : G a b = v) : upd (fillF G F0 m a b) a b v = fillF G F0 m a (b + 1) := by
  rw [← h]
  exact fillF_put G F0
end Go.Proofs.YtlmjdhmgfkognaaDoor
/- Of RefPlus, what this seat can build. -/
namespace Go.Proofs.YtlmjdhmgfkognaaDoor
open Go.RowKit Go.Shelf Sx

theorem ext_in {n p q : Nat} {F : Nat → Nat → Bool} (hp : p < n) (hq : q < n) : extF n F p q = F p q := by
  unfold extF
  simp [hp, hq]
def plusFn (F : Nat → Nat → Bool) : Nat → Nat → Nat → Bool
  | 0 => F
  | k + 1 => fun p q => plusFn F k p q || (plusFn F k p k && plusFn F k k q)
theorem plusFn_succ (F : Nat → Nat → Bool) (k p q : Nat) : plusFn F (k + 1) p q = (plusFn F k p q || (plusFn F k p k && plusFn F k k q)) := rfl
theorem plusFn_col (F : Nat → Nat → Bool) (k p : Nat) : plusFn F (k + 1) p k = plusFn F k p k := by
  rw [plusFn_succ]
  cases plusFn F k p k <;> simp
theorem plusFn_row (F : Nat → Nat → Bool) (k q : Nat) : plusFn F (k + 1) k q = plusFn F k k q := by
  rw [plusFn_succ]
  cases plusFn F k k q <;> simp
theorem fill_col (F : Nat → Nat → Bool) (N k p q x : Nat) : fillF (plusFn F (k + 1)) (plusFn F k) N p q x k = plusFn F k x k := by
  unfold fillF
  split
  · exact plusFn_col F k x
  · rfl
theorem fill_row (F : Nat → Nat → Bool) (N k p q y : Nat) : fillF (plusFn F (k + 1)) (plusFn F k) N p q k y = plusFn F k k y := by
  unfold fillF
  split
  · exact plusFn_row F k y
  · rfl
theorem fill_still (F : Nat → Nat → Bool) (N k p : Nat) (h : plusFn F k p k = false) (x y : Nat) : fillF (plusFn F (k + 1)) (plusFn F k) N p 0 x y = fillF (plusFn F (k + 1)) (plusFn F k) N (p + 1) 0 x y := by
  unfold fillF
  by_cases h1 : x < p ∧ y < N
  · rw [if_pos (by omega), if_pos (by omega)]
  · rw [if_neg (by omega)]
    by_cases h2 : x = p ∧ y < N
    · rw [if_pos (by omega), plusFn_succ, h2.1, h]
      simp
    · rw [if_neg (by omega)]
end Go.Proofs.YtlmjdhmgfkognaaDoor
/- Of RefSame, what this seat can build. -/
namespace Go.Proofs.YtlmjdhmgfkognaaDoor
open Go.RowKit Go.Shelf Sx Relation

/-- The table F and the rows L have the same pairs, of points below N. -/
def Same (N : Nat) (F : Nat → Nat → Bool) (L : List Nat) : Prop := ∀ p q, p < N → q < N → (F p q = true ↔ hs L p q)
section
variable {N : Nat} {F : Nat → Nat → Bool} {L : List Nat}
theorem same_plusN (h : Same N F L) (hl : L.length = N) (k : Nat) (hk : k ≤ N) : Same N (plusFn F k) (plusN L k) := by
  induction k with
  | zero => exact h
  | succ k ih =>
    intro p q hp hq
    have ih := ih (by omega)
    rw [plusFn_succ, Bool.or_eq_true, Bool.and_eq_true, plusN_step hl, ih p q hp hq, ih p k hp (by omega), ih k q (by omega) hq]
theorem same_plus (h : Same N F L) (hl : L.length = N) : Same N (plusFn F N) (plusL L) := by
  have := same_plusN h hl N (Nat.le_refl _)
  unfold plusL
  rw [hl]
  exact this
end
end Go.Proofs.YtlmjdhmgfkognaaDoor
/- The contract of the document's own Comp. -/
namespace Go.Proofs.YtlmjdhmgfkognaaDoor
open Go.RowKit Go.Shelf Sx

def cmpF (X Y : Nat → Nat → Bool) : Nat → Nat → Nat → Bool
  | 0 => fun _ _ => false
  | q + 1 => fun p s => cmpF X Y q p s || (X p q && Y q s)
theorem cmpF_succ (X Y : Nat → Nat → Bool) (q p s : Nat) : cmpF X Y (q + 1) p s = (cmpF X Y q p s || (X p q && Y q s)) := rfl
def rowsF (X Y : Nat → Nat → Bool) (N p q : Nat) : Nat → Nat → Bool := fun x y => if x < p then cmpF X Y N x y else if x = p then cmpF X Y q x y else false
theorem rowsF_zero (X Y : Nat → Nat → Bool) (N x y : Nat) : rowsF X Y N 0 0 x y = false := by
  unfold rowsF
  rw [if_neg (by omega)]
  split <;> rfl
theorem rowsF_still (X Y : Nat → Nat → Bool) (N p q : Nat) (h : X p q = false) (x y : Nat) : rowsF X Y N p q x y = rowsF X Y N p (q + 1) x y := by
  unfold rowsF
  by_cases h1 : x < p
  · rw [if_pos h1, if_pos h1]
  · rw [if_neg h1, if_neg h1]
    by_cases h2 : x = p
    · subst h2
      rw [if_pos rfl, if_pos rfl, cmpF_succ, h]
      simp
    · rw [if_neg h2, if_neg h2]
theorem rowsF_next (X Y : Nat → Nat → Bool) (N p x y : Nat) : rowsF X Y N p N x y = rowsF X Y N (p + 1) 0 x y := by
  unfold rowsF
  by_cases h1 : x < p
  · rw [if_pos h1, if_pos (by omega)]
  · rw [if_neg h1]
    by_cases h2 : x = p
    · subst h2
      rw [if_pos rfl, if_pos (by omega)]
    · rw [if_neg h2, if_neg (by omega)]
      split <;> rfl
theorem rowsF_filled (X Y : Nat → Nat → Bool) (N p q x y : Nat) (hy : y < N) : fillF (cmpF X Y (q + 1)) (rowsF X Y N p q) 0 p N x y = rowsF X Y N p (q + 1) x y := by
  unfold fillF rowsF
  by_cases h1 : x < p
  · rw [if_neg (by omega), if_pos h1, if_pos h1]
  · by_cases h2 : x = p
    · subst h2
      rw [if_pos (by omega), if_neg h1, if_pos rfl]
    · rw [if_neg (by omega), if_neg h1, if_neg h1, if_neg h2, if_neg h2]
theorem rowsF_here (X Y : Nat → Nat → Bool) (N p q s : Nat) : rowsF X Y N p q p s = cmpF X Y q p s := by
  unfold rowsF
  rw [if_neg (by omega), if_pos rfl]

end Go.Proofs.YtlmjdhmgfkognaaDoor
/- Of RefLook, what this seat can build. -/
namespace Go.Proofs.YtlmjdhmgfkognaaDoor
open Go.RowKit Go.Shelf Sx

def irrF (n : Nat) (F : Nat → Nat → Bool) : Bool := (List.range n).all fun p => !F p p
theorem irrF_false {n p : Nat} {F : Nat → Nat → Bool} (hp : p < n) (h : F p p = true) : irrF n F = false := by
  unfold irrF
  rw [List.all_eq_false]
  exact ⟨p, by simpa using hp, by simp [h]⟩
theorem irrF_true {n : Nat} {F : Nat → Nat → Bool} (h : ∀ p, p < n → F p p = false) : irrF n F = true := by
  unfold irrF
  rw [List.all_eq_true]
  intro p hp
  simp [h p (by simpa using hp)]
end Go.Proofs.YtlmjdhmgfkognaaDoor
/- The contract of the document's own Pairs. -/
namespace Go.Proofs.YtlmjdhmgfkognaaDoor
open Go.RowKit Go.Shelf Sx

def prsRow (F : Nat → Nat → Bool) (p q : Nat) : List (Nat × Nat) := ((List.range q).filter (F p)).map (fun y => (p, y))
def prsF (n : Nat) (F : Nat → Nat → Bool) (p q : Nat) : List (Nat × Nat) := (List.range p).flatMap (fun x => prsRow F x n) ++ prsRow F p q
theorem prsRow_succ (F : Nat → Nat → Bool) (p q : Nat) : prsRow F p (q + 1) = prsRow F p q ++ (if F p q then [(p, q)] else []) := by
  unfold prsRow
  rw [List.range_succ, List.filter_append, List.map_append]
  congr 1
  cases h : F p q <;> simp [h]
theorem prsF_yes {n : Nat} {F : Nat → Nat → Bool} {p q : Nat} (h : F p q = true) : prsF n F p (q + 1) = prsF n F p q ++ [(p, q)] := by
  unfold prsF
  rw [prsRow_succ, h, if_pos rfl, List.append_assoc]
theorem prsF_no {n : Nat} {F : Nat → Nat → Bool} {p q : Nat} (h : F p q = false) : prsF n F p (q + 1) = prsF n F p q := by
  unfold prsF
  rw [prsRow_succ, h]
  simp
theorem prsF_next (n : Nat) (F : Nat → Nat → Bool) (p : Nat) : prsF n F p n = prsF n F (p + 1) 0 := by
  unfold prsF
  rw [List.range_succ, List.flatMap_append]
  simp [prsRow]

theorem owns_lower {w : World} {base base' : Nat} {e : TypeId} {size : Nat} {v : Value} {n : Nat} {xs : List Value} (h : w.ownsRow base e size v n xs) (hb : base' ≤ base) : w.ownsRow base' e size v n xs := by
  refine ⟨h.1, ?_⟩
  rcases h.2 with h2 | ⟨g, cap, cur, e1, e2, e3⟩
  · exact .inl h2
  · exact .inr ⟨g, cap, cur, e1, Nat.le_trans hb e2, e3⟩
end Go.Proofs.YtlmjdhmgfkognaaDoor
/- The contracts of the document's own makers: Of. -/
namespace Go.Proofs.YtlmjdhmgfkognaaDoor
open Go.RowKit Go.Shelf Sx

def ofFn (N : Nat) (l : List (Int × Int)) : Nat → Nat → Bool := l.foldl (fun F x => putF N F x.1 x.2 true) (fun _ _ => false)
theorem ofFn_snoc (N : Nat) (l : List (Int × Int)) (x : Int × Int) : ofFn N (l ++ [x]) = putF N (ofFn N l) x.1 x.2 true := by simp [ofFn]
theorem ofFn_take {N : Nat} {l : List (Int × Int)} {k : Nat} {a b : Int} (h : l[k]? = some (a, b)) : putF N (ofFn N (l.take k)) a b true = ofFn N (l.take (k + 1)) := by
  rw [List.take_add_one, h]
  exact (ofFn_snoc N _ (a, b)).symm
end Go.Proofs.YtlmjdhmgfkognaaDoor
/- Of SameMath, what this seat can build. -/
namespace Go.Proofs.YtlmjdhmgfkognaaDoor
open Go.RowKit Go.Shelf Sx Relation

/-- A table and rows of one length with the same pairs. -/
structure Twin (n : Nat) (F : Nat → Nat → Bool) (L : List Nat) : Prop where
  wf : WF n L
  same : Same n F L
section
variable {n m N : Nat} {F G : Nat → Nat → Bool} {A B : List Nat}
theorem Twin.ext (h : Twin n F A) (p q : Nat) : extF n F p q = true ↔ hs A p q := by
  unfold extF
  rw [Bool.and_eq_true, Bool.and_eq_true, decide_eq_true_eq, decide_eq_true_eq]
  constructor
  · rintro ⟨h1, h2, h3⟩
    exact (h.same p q h1 h2).1 h3
  · intro h1
    have h2 := hs_left h1
    rw [h.wf.len] at h2
    exact ⟨h2, h.wf.low _ _ h1, (h.same p q h2 (h.wf.low _ _ h1)).2 h1⟩
theorem Twin.low (h : Twin n F A) {p q : Nat} (h1 : hs A p q) : p < n ∧ q < n := by
  have h2 := hs_left h1
  rw [h.wf.len] at h2
  exact ⟨h2, h.wf.low _ _ h1⟩
/-- Rows whose pairs are told whole make a twin. -/
theorem Twin.mk' {L : List Nat} {H : Nat → Nat → Bool} (hl : L.length = N) (h1 : ∀ p q, hs L p q → q < N) (h2 : ∀ p q, p < N → q < N → (H p q = true ↔ hs L p q)) : Twin N H L := ⟨⟨hl, h1⟩, h2⟩
theorem twin_minus (ha : Twin n F A) (hb : Twin m G B) (HN : N = max n m) : Twin N (fun p q => extF n F p q && !extF m G p q) (minusL A B) := by
  have hl : max A.length B.length = N := by rw [ha.wf.len, hb.wf.len, HN]
  have key : ∀ p q, hs (minusL A B) p q ↔ hs A p q ∧ ¬ hs B p q := fun p q => by
    unfold minusL
    rw [hl, hs_fill (Nat.le_refl _), testBit_ldiff, Bool.and_eq_true, Bool.not_eq_true']
    unfold hs
    rw [Bool.not_eq_true]
    exact ⟨fun h => h.2, fun h => ⟨by have := ha.low (show hs A p q from h.1); omega, h⟩⟩
  refine Twin.mk' (by unfold minusL; rw [fillK_length, hl]) ?_ ?_
  · intro p q h
    have := ha.low ((key p q).1 h).1; omega
  · intro p q _ _
    rw [Bool.and_eq_true, ha.ext, Bool.not_eq_true', ← Bool.not_eq_true, hb.ext, key]
theorem cmpF_iff (X Y : Nat → Nat → Bool) (k p q : Nat) : cmpF X Y k p q = true ↔ ∃ r, r < k ∧ X p r = true ∧ Y r q = true := by
  induction k with
  | zero => simp [cmpF]
  | succ k ih =>
    rw [cmpF_succ, Bool.or_eq_true, ih, Bool.and_eq_true]
    constructor
    · rintro (⟨r, h1, h2⟩ | h)
      · exact ⟨r, by omega, h2⟩
      · exact ⟨k, by omega, h⟩
    · rintro ⟨r, h1, h2⟩
      by_cases e : r = k
      · subst e; exact Or.inr h2
      · exact Or.inl ⟨r, by omega, h2⟩
theorem twin_comp (hn : n ≤ 256) (ha : Twin n F A) (hb : Twin m G B) (HN : N = max n m) : Twin N (cmpF (extF n F) (extF m G) N) (compL A B) := by
  have hl : max A.length B.length = N := by rw [ha.wf.len, hb.wf.len, HN]
  have key : ∀ p q, hs (compL A B) p q ↔ ∃ r, hs A p r ∧ hs B r q := fun p q => by
    unfold compL
    rw [hl]
    have e : fillK N (fun p => joinRows B (bitsOf (gr A p))) A.length = fillK N (fun p => joinRows B (bitsOf (gr A p))) N := by
      unfold fillK
      apply List.map_congr_left
      intro p hp
      have hp : p < N := by simpa using hp
      rw [if_pos hp]
      by_cases h : p < A.length
      · rw [if_pos h]
      · rw [if_neg h]
        show 0 = joinRows B (bitsOf (gr A p))
        rw [gr_not h]
        have : bitsOf 0 = [] := by
          cases e : bitsOf 0 with
          | nil => rfl
          | cons x l =>
            have : x ∈ bitsOf 0 := by rw [e]; simp
            have := (mem_bitsOf.1 this).2
            simp at this
        rw [this]
        rfl
    rw [e, hs_fill (Nat.le_refl _)]
    unfold joinRows
    rw [join_bits]
    constructor
    · rintro ⟨_, h | ⟨r, hr, h⟩⟩
      · simp at h
      · exact ⟨r, (mem_bitsOf.1 hr).2, h⟩
    · rintro ⟨r, h1, h2⟩
      have := ha.low h1
      exact ⟨by omega, Or.inr ⟨r, mem_bitsOf.2 ⟨by omega, h1⟩, h2⟩⟩
  refine Twin.mk' (by unfold compL; rw [fillK_length, hl]) ?_ ?_
  · intro p q h
    obtain ⟨r, _, h⟩ := (key p q).1 h
    have := hb.low h; omega
  · intro p q _ _
    rw [cmpF_iff, key]
    constructor
    · rintro ⟨r, _, h1, h2⟩
      exact ⟨r, (ha.ext p r).1 h1, (hb.ext r q).1 h2⟩
    · rintro ⟨r, h1, h2⟩
      have := hb.low h2
      exact ⟨r, by omega, (ha.ext p r).2 h1, (hb.ext r q).2 h2⟩
theorem twin_inv (hn : n ≤ 256) (ha : Twin n F A) : Twin n (fun p q => F q p) (invL A) :=
  ⟨wf_inv hn ha.wf, fun p q hp hq => by rw [hs_inv hn ha.wf]; exact ha.same q p hq hp⟩
theorem twin_plus (ha : Twin n F A) : Twin n (plusFn F n) (plusL A) := ⟨wf_plus ha.wf, same_plus ha.same ha.wf.len⟩
end
end Go.Proofs.YtlmjdhmgfkognaaDoor
/- Of SameMath2, what this seat can build. -/
namespace Go.Proofs.YtlmjdhmgfkognaaDoor
open Go.RowKit Go.Shelf Sx Relation

section
variable {n m N : Nat} {F G : Nat → Nat → Bool} {A B : List Nat}
theorem bits_row (hn : n ≤ 256) (ha : Twin n F A) {p : Nat} (hp : p < n) : bitsOf (gr A p) = (List.range n).filter (F p) := by
  unfold bitsOf bitsN
  obtain ⟨d, hd⟩ : ∃ d, 256 = n + d := ⟨256 - n, by omega⟩
  have hz : (List.map (fun x => n + x) (List.range d)).filter (gr A p).testBit = [] := by
    rw [List.filter_eq_nil_iff]
    intro q hq h
    obtain ⟨r, _, rfl⟩ := List.mem_map.1 hq
    have := (ha.low (show hs A p (n + r) from h)).2
    omega
  rw [hd, List.range_add, List.filter_append, hz, List.append_nil]
  apply List.filter_congr
  intro q hq
  have hq : q < n := by simpa using hq
  rw [Bool.eq_iff_iff]
  exact (ha.same p q hp hq).symm
theorem twin_pairs (hn : n ≤ 256) (ha : Twin n F A) : pairsL A = prsF n F n 0 := by
  unfold pairsL pairsK prsF
  rw [ha.wf.len, show prsRow F n 0 = [] from rfl, List.append_nil]
  rw [List.flatMap_def, List.flatMap_def]
  congr 1
  apply List.map_congr_left
  intro p hp
  have hp : p < n := by simpa using hp
  unfold prsRow
  rw [bits_row hn ha hp]
theorem twin_irr (ha : Twin n F A) : irrF n F = (loopsL A == 0) := by
  rw [Bool.eq_iff_iff, beq_iff_eq, loops_zero]
  unfold irrF
  rw [List.all_eq_true]
  constructor
  · intro h p hp
    have h1 := (ha.low hp).1
    have := h p (by simpa using h1)
    rw [Bool.not_eq_true', ← Bool.not_eq_true] at this
    exact this ((ha.same p p h1 h1).2 hp)
  · intro h p hp
    have hp : p < n := by simpa using hp
    rw [Bool.not_eq_true', ← Bool.not_eq_true, ha.same p p hp hp]
    exact h p
end
end Go.Proofs.YtlmjdhmgfkognaaDoor
