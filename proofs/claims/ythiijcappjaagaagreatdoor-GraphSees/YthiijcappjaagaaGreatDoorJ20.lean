/- How a relation of the document's own answer (a table of truths) lies in memory. -/
import Derived.Test.YthiijcappjaagaaGreatDoorJ10
import Derived.Test.YthiijcappjaagaaGreatDoorRoundAny
import Derived.Maps.AppendAt
import Derived.Test.YthiijcappjaagaaGreatDoorJ09
namespace Go.Proofs.YthiijcappjaagaaGreatDoor
open Go.RowKit Go.Shelf Sx
def rowL (n : Nat) (f : Nat → Bool) : List Bool := (List.range n).map f
abbrev hdr (n r : Nat) : Value := .slice (some ⟨r, 0, none⟩) n n
def upd (F : Nat → Nat → Bool) (p q : Nat) (b : Bool) : Nat → Nat → Bool := fun x y => if x = p ∧ y = q then b else F x y
theorem rowL_at {n q : Nat} {f : Nat → Bool} (h : q < n) : (arrB (rowL n f))[q]? = some (.bool (f q)) := by
  simp [arrB, rowL, h]
theorem rowL_congr {n : Nat} {f g : Nat → Bool} (h : ∀ q, q < n → f q = g q) : rowL n f = rowL n g := by
  unfold rowL
  exact List.map_congr_left fun q hq => h q (List.mem_range.1 hq)
theorem rowL_set {n q : Nat} {f : Nat → Bool} (b : Bool) (h : q < n) : (arrB (rowL n f)).setIfInBounds q (.bool b) = arrB (rowL n (fun y => if y = q then b else f y)) := by
  rw [arrB_set]
  congr 1
  apply List.ext_getElem?
  intro i
  rw [List.getElem?_set]
  by_cases e : q = i
  · subst e; simp [rowL, h]
  · rw [if_neg e]
    by_cases hi : i < n
    · simp [rowL, hi]
      intro h2
      exact absurd h2.symm e
    · rw [List.getElem?_eq_none (by simp [rowL]; omega), List.getElem?_eq_none (by simp [rowL]; omega)]
structure RefM (lo : Nat) (w : World) (M : Value) (k n : Nat) (rb : Nat → Nat) (F : Nat → Nat → Bool) : Prop where
  own : w.ownsRow lo 34 1 M k ((List.range k).map (fun p => hdr n (rb p)))
  row : ∀ p, p < k → lo ≤ rb p ∧ Blk w (rb p) 4 (arrB (rowL n (F p)))
  apart : ∀ p, p < k → M.ownBlock ≠ some (rb p)
  inj : ∀ p q, p < k → q < k → rb p = rb q → p = q
theorem RefM.below {lo : Nat} {w w' : World} {M : Value} {k n : Nat} {rb : Nat → Nat} {F : Nat → Nat → Bool} (h : RefM lo w M k n rb F) (hB : Below w.heap.size w w') : RefM lo w' M k n rb F := by
  refine ⟨?_, fun p hp => ⟨(h.row p hp).1, (h.row p hp).2.of_below hB⟩, h.apart, h.inj⟩
  obtain ⟨h1, h2⟩ := h.own
  refine ⟨h1, ?_⟩
  rcases h2 with h2 | ⟨g, cap, cur, e1, e2, e3, e4⟩
  · exact .inl h2
  · exact .inr ⟨g, cap, cur, e1, e2, (hB.block g (Array.getElem?_eq_some_iff.1 e3).1).trans e3, e4⟩
theorem RefM.below' {lo : Nat} {w w' : World} {M : Value} {k n : Nat} {rb : Nat → Nat} {F : Nat → Nat → Bool} (h : RefM lo w M k n rb F) (hk : ∀ x, lo ≤ x → x < w.heap.size → w'.heap[x]? = w.heap[x]?) : RefM lo w' M k n rb F := by
  refine ⟨?_, fun p hp => ⟨(h.row p hp).1, (hk _ (h.row p hp).1 (h.row p hp).2.lt).trans (h.row p hp).2⟩, h.apart, h.inj⟩
  obtain ⟨h1, h2⟩ := h.own
  refine ⟨h1, ?_⟩
  rcases h2 with h2 | ⟨g, cap, cur, e1, e2, e3, e4⟩
  · exact .inl h2
  · exact .inr ⟨g, cap, cur, e1, e2, (hk g e2 (Array.getElem?_eq_some_iff.1 e3).1).trans e3, e4⟩
theorem RefM.mono {lo lo' : Nat} {w : World} {M : Value} {k n : Nat} {rb : Nat → Nat} {F : Nat → Nat → Bool} (h : RefM lo w M k n rb F) (hl : lo' ≤ lo) : RefM lo' w M k n rb F := by
  refine ⟨?_, fun p hp => ⟨Nat.le_trans hl (h.row p hp).1, (h.row p hp).2⟩, h.apart, h.inj⟩
  obtain ⟨h1, h2⟩ := h.own
  refine ⟨h1, ?_⟩
  rcases h2 with h2 | ⟨g, cap, cur, e1, e2, e3⟩
  · exact .inl h2
  · exact .inr ⟨g, cap, cur, e1, Nat.le_trans hl e2, e3⟩
theorem RefM.alloc {lo : Nat} {w : World} {M : Value} {k n : Nat} {rb : Nat → Nat} {F : Nat → Nat → Bool} (h : RefM lo w M k n rb F) (o : Obj) : RefM lo (w.alloc o) M k n rb F := h.below ((Below.refl _ _).alloc (Nat.le_refl _) _)
theorem RefM.drew {lo : Nat} {w : World} {M : Value} {k n : Nat} {rb : Nat → Nat} {F : Nat → Nat → Bool} (h : RefM lo w M k n rb F) : RefM lo w.drew M k n rb F := h.below (Below.refl _ _).drew
theorem RefM.drewN {lo : Nat} {w : World} {M : Value} {k n : Nat} {rb : Nat → Nat} {F : Nat → Nat → Bool} (h : RefM lo w M k n rb F) (m : Nat) : RefM lo (w.drewN m) M k n rb F := h.below (below_drewN (Below.refl _ _) m)
theorem RefM.at_ {lo : Nat} {w : World} {M : Value} {k n : Nat} {rb : Nat → Nat} {F : Nat → Nat → Bool} (h : RefM lo w M k n rb F) {p q : Nat} (hp : p < k) (hq : q < n) :
    ∃ g cap, M = .slice (some ⟨g, 0, none⟩) k cap ∧ g < w.heap.size ∧ lo ≤ g ∧ rb p ≠ g ∧ w.cell? ⟨g, p, none⟩ = some (hdr n (rb p)) ∧ w.cell? ⟨rb p, q, none⟩ = some (.bool (F p q)) ∧ w.frozen? ⟨rb p, q, none⟩ = false ∧ rb p < w.heap.size := by
  have h2 := h.apart p hp
  have h3 := (h.row p hp).2
  rcases h.own.2 with ⟨_, e⟩ | ⟨g, cap, cur, rfl, e2, e3, _, _, _, e4⟩
  · omega
  · refine ⟨g, cap, rfl, (Array.getElem?_eq_some_iff.1 e3).1, e2, fun e => h2 (by rw [e]; rfl), ?_, h3.cell (rowL_at hq), h3.frozen q, h3.lt⟩
    have hb : Blk w g 34 cur := e3
    apply hb.cell
    rw [← Array.getElem?_toList]
    have : (cur.toList.take (k * 1))[p]? = some (hdr n (rb p)) := by rw [e4]; simp [hp]
    rw [List.getElem?_take] at this
    split at this
    · exact this
    · cases this
theorem RefM.put {lo : Nat} {w : World} {M : Value} {k n : Nat} {rb : Nat → Nat} {F : Nat → Nat → Bool} (h : RefM lo w M k n rb F) {p q : Nat} (hp : p < k) (hq : q < n) (b : Bool) :
    RefM lo (w.setCell ⟨rb p, q, none⟩ (.bool b)) M k n rb (upd F p q b) := by
  refine ⟨?_, fun x hx => ⟨(h.row x hx).1, ?_⟩, h.apart, h.inj⟩
  · obtain ⟨h1, h2⟩ := h.own
    refine ⟨h1, ?_⟩
    rcases h2 with h2 | ⟨g, cap, cur, e1, e2, e3, e4⟩
    · exact .inl h2
    · have hg : g ≠ rb p := fun e => h.apart p hp (by rw [e1, ← e]; rfl)
      exact .inr ⟨g, cap, cur, e1, e2, (Below.heap_setCell w ⟨rb p, q, none⟩ (.bool b) g hg).trans e3, e4⟩
  · by_cases e : x = p
    · subst e
      have := (h.row x hx).2.set q (.bool b)
      rw [rowL_set b hq] at this
      have e2 : (fun y => if y = q then b else F x y) = upd F x q b x := by
        funext y
        unfold upd
        simp
      rwa [e2] at this
    · have e2 : upd F p q b x = F x := by
        funext y
        unfold upd
        simp [e]
      rw [e2]
      exact (h.row x hx).2.setOther (fun h2 => e (h.inj x p hx hp h2)) _
theorem RefM.slice {lo : Nat} {w : World} {M : Value} {k n : Nat} {rb : Nat → Nat} {F : Nat → Nat → Bool} (h : RefM lo w M k n rb F) : ∃ x y z, M = .slice x y z := by
  rcases h.own.2 with ⟨e, _⟩ | ⟨g, cap, cur, e, _⟩
  · exact ⟨_, _, _, e⟩
  · exact ⟨_, _, _, e⟩
theorem RefM.congr {lo : Nat} {w : World} {M : Value} {k n : Nat} {rb : Nat → Nat} {F G : Nat → Nat → Bool} (h : RefM lo w M k n rb F) (hfg : ∀ p q, p < k → q < n → F p q = G p q) : RefM lo w M k n rb G :=
  ⟨h.own, fun p hp => ⟨(h.row p hp).1, by rw [← rowL_congr (fun q hq => hfg p q hp hq)]; exact (h.row p hp).2⟩, h.apart, h.inj⟩
theorem RefM.nil (lo : Nat) (w : World) (n : Nat) (rb : Nat → Nat) (F : Nat → Nat → Bool) : RefM lo w (.slice none 0 0) 0 n rb F :=
  ⟨World.ownsRow_nil _ _ _ _, fun p hp => by omega, fun p hp => by omega, fun p q hp => by omega⟩
theorem RefM.more {lo : Nat} {w w' : World} {M M' : Value} {k n r : Nat} {rb : Nat → Nat} {F : Nat → Nat → Bool} (h : RefM lo w M k n rb F) (hr : Blk w r 4 (arrB (rowL n (F k)))) (hlo : lo ≤ r) (hnew : ∀ p, p < k → rb p ≠ r) (hM : M.ownBlock ≠ some r)
    (hown : w'.ownsRow lo 34 1 M' (k + 1) ((List.range k).map (fun p => hdr n (rb p)) ++ [hdr n r])) (hg : w.grownBy w' M.ownBlock) (hat : M'.ownBlock = M.ownBlock ∨ ∃ g, M'.ownBlock = some g ∧ w.heap.size ≤ g) :
    RefM lo w' M' (k + 1) n (fun p => if p = k then r else rb p) F := by
  have hkeep : ∀ (x : Nat) (cs : Array Value), Blk w x 4 cs → M.ownBlock ≠ some x → Blk w' x 4 cs := fun x cs hb hx => (hg.block x hb.lt (fun e => hx e.symm)).trans hb
  refine ⟨?_, ?_, ?_, ?_⟩
  · have e : (List.range (k + 1)).map (fun p => hdr n (if p = k then r else rb p)) = (List.range k).map (fun p => hdr n (rb p)) ++ [hdr n r] := by
      rw [List.range_succ, List.map_append]
      congr 1
      · apply List.map_congr_left
        intro p hp
        have := List.mem_range.1 hp
        rw [if_neg (by omega)]
      · simp
    rw [e]
    exact hown
  · intro p hp
    by_cases e : p = k
    · subst e
      rw [if_pos rfl]
      exact ⟨hlo, hkeep r _ hr hM⟩
    · rw [if_neg e]
      exact ⟨(h.row p (by omega)).1, hkeep _ _ (h.row p (by omega)).2 (h.apart p (by omega))⟩
  · intro p hp
    have hb : M.ownBlock ≠ some (if p = k then r else rb p) ∧ (if p = k then r else rb p) < w.heap.size := by
      by_cases e : p = k
      · rw [if_pos e]; exact ⟨hM, hr.lt⟩
      · rw [if_neg e]; exact ⟨h.apart p (by omega), (h.row p (by omega)).2.lt⟩
    rcases hat with hat | ⟨g, e1, e2⟩
    · rw [hat]; exact hb.1
    · rw [e1]
      intro e
      have := Option.some.inj e
      omega
  · intro p q hp hq he
    by_cases e1 : p = k <;> by_cases e2 : q = k
    · omega
    · rw [if_pos e1, if_neg e2] at he
      exact absurd he.symm (hnew q (by omega))
    · rw [if_neg e1, if_pos e2] at he
      exact absurd he (hnew p (by omega))
    · rw [if_neg e1, if_neg e2] at he
      exact h.inj p q (by omega) (by omega) he
end Go.Proofs.YthiijcappjaagaaGreatDoor
namespace Go.Proofs.YthiijcappjaagaaGreatDoor
open Go.RowKit Go.Shelf Sx
structure RefMid (w W : World) (M : Value) (k n : Nat) (rb : Nat → Nat) : Prop where
  below : Below w.heap.size w W
  res : Blk W w.heap.size 87 #[.int .i64 0, .slice none 0 0]
  box : Blk W (w.heap.size + 1) 87 #[.int .i64 ((n : Nat) : Int), M]
  ref : RefM (w.heap.size + 2) W M k n rb (fun _ _ => false)
theorem RefMid.kept {w W W' : World} {M : Value} {k n : Nat} {rb : Nat → Nat} (h : RefMid w W M k n rb)
    (hg : ((W.drew.alloc (.cells (arrB (List.replicate n false)) 4)).alloc (.cells #[hdr n W.heap.size] 34)).grownBy W' M.ownBlock) : Blk W' (w.heap.size + 1) 87 #[.int .i64 ((n : Nat) : Int), M] :=
  (hg.block _ (by have := h.box.lt; simp; omega) (fun e => by have := (h.ref.own.lt _ e.symm).1; omega)).trans ((h.box.drew.alloc _).alloc _)
end Go.Proofs.YthiijcappjaagaaGreatDoor
namespace Go.Proofs.YthiijcappjaagaaGreatDoor
open Go.RowKit Go.Shelf Sx
end Go.Proofs.YthiijcappjaagaaGreatDoor
namespace Go.Proofs.YthiijcappjaagaaGreatDoor
open Go.RowKit Go.Shelf Sx
end Go.Proofs.YthiijcappjaagaaGreatDoor
namespace Go.Proofs.YthiijcappjaagaaGreatDoor
open Go.RowKit Go.Shelf Sx Relation
def hs (L : List Nat) (p q : Nat) : Prop := (gr L p).testBit q = true
structure WF (n : Nat) (L : List Nat) : Prop where
  len : L.length = n
  low : ∀ p q, hs L p q → q < n
theorem hs_left {L : List Nat} {p q : Nat} (h : hs L p q) : p < L.length := by
  apply Nat.lt_of_not_le
  intro hle
  unfold hs at h
  rw [gr_not (by omega)] at h
  simp at h
theorem IsRel.wf {w : World} {b c : Nat} {L : List Nat} (h : IsRel w b c L) {n : Nat} (hn : L.length = n) : WF n L := by
  refine ⟨hn, fun p q hq => ?_⟩
  apply Nat.lt_of_not_le
  intro hle
  have h1 := testBit_of_lt (h.gr_lt p) (by omega : L.length ≤ q)
  unfold hs at hq
  rw [h1] at hq
  cases hq
theorem WF.ext {n : Nat} {A B : List Nat} (ha : WF n A) (hb : WF n B) (h : ∀ p q, hs A p q ↔ hs B p q) : A = B := by
  apply List.ext_getElem?
  intro p
  by_cases hp : p < n
  · rw [gr_of (by rw [ha.len]; exact hp), gr_of (by rw [hb.len]; exact hp)]
    congr 1
    apply Nat.eq_of_testBit_eq
    intro q
    rw [Bool.eq_iff_iff]
    exact h p q
  · rw [List.getElem?_eq_none (by rw [ha.len]; omega), List.getElem?_eq_none (by rw [hb.len]; omega)]
theorem join_bits (L : List Nat) (q : Nat) : ∀ (l : List Nat) (s : Nat), (l.foldl (fun s p => s ||| gr L p) s).testBit q = true ↔ s.testBit q = true ∨ ∃ p ∈ l, hs L p q
  | [], s => by simp
  | x :: l, s => by
    rw [List.foldl_cons, join_bits L q l, Nat.testBit_or, Bool.or_eq_true]
    unfold hs
    simp [or_assoc]
theorem hs_fill {n k : Nat} {f : Nat → Nat} {p q : Nat} (hk : n ≤ k) : hs (fillK n f k) p q ↔ p < n ∧ (f p).testBit q = true := by
  by_cases hp : p < n
  · unfold hs
    rw [gr_eq (fillK_at hp), if_pos (by omega)]
    simp [hp]
  · constructor
    · intro h
      have := hs_left h
      rw [fillK_length] at this
      omega
    · exact fun h => absurd h.1 hp
section
variable {n : Nat} {A B C : List Nat}
theorem hs_comp (hn : n ≤ 256) (ha : WF n A) (hb : WF n B) (p q : Nat) : hs (compL A B) p q ↔ ∃ m, hs A p m ∧ hs B m q := by
  unfold compL
  rw [ha.len, hb.len, Nat.max_self, hs_fill (Nat.le_refl _)]
  unfold joinRows
  rw [join_bits]
  constructor
  · rintro ⟨_, h | ⟨m, hm, h⟩⟩
    · simp at h
    · exact ⟨m, (mem_bitsOf.1 hm).2, h⟩
  · rintro ⟨m, h1, h2⟩
    refine ⟨by have := hs_left h1; rw [ha.len] at this; exact this, Or.inr ⟨m, mem_bitsOf.2 ⟨?_, h1⟩, h2⟩⟩
    have := ha.low _ _ h1
    omega
theorem wf_comp (hn : n ≤ 256) (ha : WF n A) (hb : WF n B) : WF n (compL A B) := by
  refine ⟨by unfold compL; rw [fillK_length, ha.len, hb.len, Nat.max_self], fun p q h => ?_⟩
  obtain ⟨m, _, h2⟩ := (hs_comp hn ha hb p q).1 h
  exact hb.low _ _ h2
theorem hs_zero (m p q : Nat) : ¬ hs (List.replicate m 0) p q := by
  intro h
  have hp := hs_left h
  rw [List.length_replicate] at hp
  unfold hs at h
  rw [gr_eq (R := 0) (by simp [hp])] at h
  simp at h
theorem hs_set {X : List Nat} {j R p q : Nat} : hs (X.set j R) p q ↔ if p = j ∧ j < X.length then R.testBit q = true else hs X p q := by
  unfold hs gr
  rw [List.getD_eq_getElem?_getD, List.getD_eq_getElem?_getD, List.getElem?_set]
  by_cases e : j = p
  · subst e
    by_cases hj : j < X.length
    · simp [hj]
    · simp [hj]
  · rw [if_neg e, if_neg (fun h => e h.1.symm)]
theorem hs_put {X : List Nat} {x y p q : Nat} (hx : x < X.length) (hy : y < X.length) : hs (putP X (x : Int) (y : Int) true) p q ↔ hs X p q ∨ (p = x ∧ q = y) := by
  rw [putP_nat hx hy (gr_of hx), hs_set]
  by_cases e : p = x
  · subst e
    rw [if_pos ⟨rfl, hx⟩, testBit_setB]
    by_cases e2 : q = y
    · subst e2; simp
    · rw [if_neg e2]
      constructor
      · exact fun h => Or.inl h
      · rintro (h | ⟨_, h⟩)
        · exact h
        · exact absurd h e2
  · rw [if_neg (fun h => e h.1)]
    constructor
    · exact fun h => Or.inl h
    · rintro (h | ⟨h, _⟩)
      · exact h
      · exact absurd h e
theorem putP_len (X : List Nat) (x y : Int) (v : Bool) : (putP X x y v).length = X.length := by
  unfold putP; split <;> simp
theorem invIn_len (p : Nat) : ∀ (l : List Nat) (X : List Nat), (invIn X p l).length = X.length
  | [], _ => rfl
  | q :: l, X => by
    show (invIn (putP X q p true) p l).length = _
    rw [invIn_len p l, putP_len]
theorem hs_invIn {p : Nat} : ∀ (l : List Nat) (X : List Nat), p < X.length → (∀ q ∈ l, q < X.length) → ∀ a b, hs (invIn X p l) a b ↔ hs X a b ∨ (b = p ∧ a ∈ l)
  | [], X, _, _, a, b => by simp [invIn]
  | q :: l, X, hp, hq, a, b => by
    show hs (invIn (putP X q p true) p l) a b ↔ _
    rw [hs_invIn l _ (by rw [putP_len]; exact hp) (fun r hr => by rw [putP_len]; exact hq r (List.mem_cons_of_mem _ hr)), hs_put (hq q (by simp)) hp]
    constructor
    · rintro ((h | ⟨rfl, rfl⟩) | ⟨rfl, h⟩)
      · exact Or.inl h
      · exact Or.inr ⟨rfl, by simp⟩
      · exact Or.inr ⟨rfl, List.mem_cons_of_mem _ h⟩
    · rintro (h | ⟨rfl, h⟩)
      · exact Or.inl (Or.inl h)
      · rcases List.mem_cons.1 h with rfl | h
        · exact Or.inl (Or.inr ⟨rfl, rfl⟩)
        · exact Or.inr ⟨rfl, h⟩
theorem invK_len (L : List Nat) (k : Nat) : (invK L k).length = L.length := by
  induction k with
  | zero => simp [invK]
  | succ k ih => rw [invK_succ, invIn_len, ih]
theorem hs_invK (hn : n ≤ 256) (ha : WF n A) (k : Nat) (hk : k ≤ n) (a b : Nat) : hs (invK A k) a b ↔ hs A b a ∧ b < k := by
  induction k generalizing a b with
  | zero =>
    constructor
    · intro h; exact absurd h (by simpa [invK] using hs_zero _ a b)
    · intro h; omega
  | succ k ih =>
    rw [invK_succ, hs_invIn _ _ (by rw [invK_len, ha.len]; omega) (fun q hq => by rw [invK_len, ha.len]; exact ha.low _ _ (mem_bitsOf.1 hq).2), ih (by omega)]
    constructor
    · rintro (⟨h1, h2⟩ | ⟨rfl, h⟩)
      · exact ⟨h1, by omega⟩
      · exact ⟨(mem_bitsOf.1 h).2, by omega⟩
    · rintro ⟨h1, h2⟩
      by_cases e : b = k
      · subst e
        exact Or.inr ⟨rfl, mem_bitsOf.2 ⟨by have := ha.low _ _ h1; omega, h1⟩⟩
      · exact Or.inl ⟨h1, by omega⟩
theorem hs_inv (hn : n ≤ 256) (ha : WF n A) (a b : Nat) : hs (invL A) a b ↔ hs A b a := by
  unfold invL
  rw [ha.len, hs_invK hn ha n (Nat.le_refl _)]
  constructor
  · exact fun h => h.1
  · exact fun h => ⟨h, by have := hs_left h; rw [ha.len] at this; exact this⟩
theorem wf_inv (hn : n ≤ 256) (ha : WF n A) : WF n (invL A) := by
  refine ⟨by unfold invL; rw [invK_len, ha.len], fun p q h => ?_⟩
  have := hs_left ((hs_inv hn ha p q).1 h)
  rw [ha.len] at this
  exact this
end
end Go.Proofs.YthiijcappjaagaaGreatDoor
