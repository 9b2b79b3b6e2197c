/- Relations that were made since a world; the union of rows. -/
import Derived.Test.YteejkhgccaagiaaDoorStepWalk
namespace Go.Proofs.YteejkhgccaagiaaDoor
open Go.RowKit Go.Shelf Sx

/-- A relation that was made since w. -/
structure Made (w w' : World) (b c : Nat) (L : List Nat) : Prop where
  rel : IsRel w' b c L
  hb : w.heap.size ≤ b
  hc : w.heap.size ≤ c
  below : Below w.heap.size w w'
theorem Made.step {w w' w'' : World} {b c : Nat} {L : List Nat} (h : Made w w' b c L) (hB : Below w'.heap.size w' w'') : Made w w'' b c L :=
  ⟨h.rel.below hB, h.hb, h.hc, h.below.trans (hB.mono h.below.size)⟩
theorem Made.alloc {w w' : World} {b c : Nat} {L : List Nat} (h : Made w w' b c L) (o : Obj) : Made w (w'.alloc o) b c L := h.step ((Below.refl _ _).alloc (Nat.le_refl _) _)
theorem Made.drew {w w' : World} {b c : Nat} {L : List Nat} (h : Made w w' b c L) : Made w w'.drew b c L := ⟨h.rel.drew, h.hb, h.hc, h.below.drew⟩
theorem Made.touch {w w' w'' : World} {b c : Nat} {L L' : List Nat} (h : Made w w' b c L) (hr : IsRel w'' b c L') (ht : Touch c w' w'') : Made w w'' b c L' :=
  ⟨hr, h.hb, h.hc, h.below.trans (ht.below h.hc h.below.size)⟩
theorem Made.put {w w' : World} {b c : Nat} {L : List Nat} (h : Made w w' b c L) {i R : Nat} (hi : i < L.length) (hR : R < 2 ^ L.length) :
    Made w ((((w'.setCell ⟨c, i * 4, none⟩ (.int .u64 ((wd R 0 : Nat) : Int))).setCell ⟨c, i * 4 + 1, none⟩ (.int .u64 ((wd R 1 : Nat) : Int))).setCell ⟨c, i * 4 + 2, none⟩ (.int .u64 ((wd R 2 : Nat) : Int))).setCell ⟨c, i * 4 + 3, none⟩ (.int .u64 ((wd R 3 : Nat) : Int))) b c (L.set i R) :=
  ⟨h.rel.put hi hR, h.hb, h.hc, below_setRow h.below h.hc _ _ _ _ _ _ _ _⟩
/-- What lay in w is still there. -/
theorem Made.old {w w' : World} {b c b' c' : Nat} {L L' : List Nat} (h : Made w w' b c L) (k : IsRel w b' c' L') : IsRel w' b' c' L' := k.below h.below
theorem gr_lt {L : List Nat} {n i : Nat} (h : ∀ R ∈ L, R < 2 ^ n) : gr L i < 2 ^ n := by
  by_cases hi : i < L.length
  · exact h _ (List.mem_of_getElem? (gr_of hi))
  · rw [gr_not hi]; exact Nat.two_pow_pos n
theorem IsRel.gr_lt {w : World} {b c : Nat} {L : List Nat} (h : IsRel w b c L) (i : Nat) : gr L i < 2 ^ L.length := Go.Proofs.YteejkhgccaagiaaDoor.gr_lt h.low

/-- The greatest length. -/
def maxLenL (Ls : List (List Nat)) : Nat := Ls.foldl (fun n L => max n L.length) 0
theorem maxLenL_snoc (Ls : List (List Nat)) (L : List Nat) : maxLenL (Ls ++ [L]) = max (maxLenL Ls) L.length := by simp [maxLenL]
/-- The rows of L joined into the first k rows of A. -/
def uniK (A L : List Nat) (k : Nat) : List Nat := A.mapIdx (fun p R => if p < k then R ||| gr L p else R)
def unionL (Ls : List (List Nat)) : List Nat := Ls.foldl (fun A L => uniK A L L.length) (List.replicate (maxLenL Ls) 0)

theorem uniK_length (A L : List Nat) (k : Nat) : (uniK A L k).length = A.length := by simp [uniK]
theorem uniK_at {A L : List Nat} {k p : Nat} (hp : p < A.length) : (uniK A L k)[p]? = some (if p < k then gr A p ||| gr L p else gr A p) := by
  rw [uniK, List.getElem?_mapIdx, gr_of hp]; rfl
theorem gr_uniK {A L : List Nat} {k p : Nat} (hp : p < A.length) : gr (uniK A L k) p = if p < k then gr A p ||| gr L p else gr A p := gr_eq (uniK_at hp)
theorem uniK_zero (A L : List Nat) : uniK A L 0 = A := by
  apply List.ext_getElem?
  intro p
  by_cases hp : p < A.length
  · rw [uniK_at hp, if_neg (by omega), gr_of hp]
  · rw [List.getElem?_eq_none (by rw [uniK_length]; omega), List.getElem?_eq_none (by omega)]
theorem uniK_succ {A L : List Nat} {p : Nat} (hp : p < A.length) : (uniK A L p).set p (gr A p ||| gr L p) = uniK A L (p + 1) := by
  apply List.ext_getElem?
  intro q
  rw [List.getElem?_set, uniK_length]
  by_cases hq : q < A.length
  · rw [uniK_at hq, uniK_at hq]
    by_cases e : p = q
    · subst e; rw [if_pos rfl, if_pos hp, if_pos (by omega)]
    · rw [if_neg e]
      by_cases h1 : q < p
      · rw [if_pos h1, if_pos (by omega)]
      · rw [if_neg h1, if_neg (by omega)]
  · rw [if_neg (by omega), List.getElem?_eq_none (by rw [uniK_length]; omega), List.getElem?_eq_none (by rw [uniK_length]; omega)]
/-- The union as far as k lists have gone. -/
def unionK (n : Nat) (Ls : List (List Nat)) : List Nat := Ls.foldl (fun A L => uniK A L L.length) (List.replicate n 0)
theorem unionK_snoc (n : Nat) (Ls : List (List Nat)) (L : List Nat) : unionK n (Ls ++ [L]) = uniK (unionK n Ls) L L.length := by simp [unionK]
theorem unionK_length (n : Nat) (Ls : List (List Nat)) : (unionK n Ls).length = n := by
  unfold unionK
  have : ∀ A : List Nat, (Ls.foldl (fun A L => uniK A L L.length) A).length = A.length := by
    induction Ls with
    | nil => intro A; rfl
    | cons L Ls ih => intro A; rw [List.foldl_cons, ih, uniK_length]
  rw [this, List.length_replicate]
theorem le_maxLenL {Ls : List (List Nat)} {L : List Nat} (h : L ∈ Ls) : L.length ≤ maxLenL Ls := by
  unfold maxLenL
  have mono : ∀ (Ls : List (List Nat)) (n : Nat), n ≤ Ls.foldl (fun n L => max n L.length) n := by
    intro Ls
    induction Ls with
    | nil => intro n; exact Nat.le_refl _
    | cons M Ls ih => intro n; exact Nat.le_trans (Nat.le_max_left _ _) (ih _)
  have : ∀ (Ls : List (List Nat)) (n : Nat), L ∈ Ls → L.length ≤ Ls.foldl (fun n L => max n L.length) n := by
    intro Ls
    induction Ls with
    | nil => intro n h; cases h
    | cons M Ls ih =>
      intro n h
      rcases List.mem_cons.1 h with rfl | h
      · exact Nat.le_trans (Nat.le_max_right _ _) (mono _ _)
      · exact ih _ h
  exact this Ls 0 h

/-- The relations of a list lie in w, their pointers in block s. -/
structure RelsAt (w : World) (s : Nat) (rs : List (Nat × Nat × List Nat)) : Prop where
  cell : ∀ (i : Nat) (r : Nat × Nat × List Nat), rs[i]? = some r → w.cell? ⟨s, i, none⟩ = some (pv r.1)
  lt : s < w.heap.size
  rel : ∀ (i : Nat) (r : Nat × Nat × List Nat), rs[i]? = some r → IsRel w r.1 r.2.1 r.2.2
theorem RelsAt.below {w w' : World} {s : Nat} {rs : List (Nat × Nat × List Nat)} (h : RelsAt w s rs) (hb : Below w.heap.size w w') : RelsAt w' s rs :=
  ⟨fun i r hr => (hb.cell (p := ⟨s, i, none⟩) h.lt).trans (h.cell i r hr), Nat.lt_of_lt_of_le h.lt hb.size, fun i r hr => (h.rel i r hr).below hb⟩

end Go.Proofs.YteejkhgccaagiaaDoor
