/- Rows that are filled one by one. -/
import Derived.Test.YteejkhgccaagiaaDoorMadeMem
namespace Go.Proofs.YteejkhgccaagiaaDoor
open Go.RowKit Go.Shelf Sx

theorem Len_c (b c : Nat) (L : List Nat) (w : World) (h : IsRel w b c L) :
    Calls Tryd.prog 30 #[pv b] w fun e w' => e = .returned (.int .i64 L.length) ∧ w = w' := (Len_calls b c L w h).mono fun _ _ h => ⟨h.1, h.2.symm⟩
/-- New, at a number of points that is one. -/
theorem New_c (n : Nat) (hn : n ≤ 256) (w : World) :
    Calls Tryd.prog 14 #[.int .i64 n] w fun e w' => ∃ b c, e = .returned (pv b) ∧ Made w w' b c (List.replicate n 0) := by
  refine (New_calls n w).mono ?_
  rw [show clampN (n : Int) = n from by unfold clampN; omega]
  rintro e w' ⟨b, c, rfl, h1, h2, h3, h4⟩
  exact ⟨b, c, rfl, h1, h2, h3, h4⟩
/-- A cell of another block behind the store of a row. -/
theorem cell4 {w : World} {b d : Nat} (h : b ≠ d) (o o1 o2 o3 o4 : Nat) (v1 v2 v3 v4 : Value) : ((((w.setCell ⟨d, o1, none⟩ v1).setCell ⟨d, o2, none⟩ v2).setCell ⟨d, o3, none⟩ v3).setCell ⟨d, o4, none⟩ v4).cell? ⟨b, o, none⟩ = w.cell? ⟨b, o, none⟩ :=
  World.cell?_of_block ((((Below.heap_setCell _ _ _ _ h).trans (Below.heap_setCell _ _ _ _ h)).trans (Below.heap_setCell _ _ _ _ h)).trans (Below.heap_setCell _ _ _ _ h))
theorem max_if (a b : Nat) : (if a < b then (b : Int) else (a : Int)) = ((max a b : Nat) : Int) := by split <;> omega

/-- n rows, the first k of them as f says. -/
def fillK (n : Nat) (f : Nat → Nat) (k : Nat) : List Nat := (List.range n).map (fun p => if p < k then f p else 0)
theorem fillK_length (n : Nat) (f : Nat → Nat) (k : Nat) : (fillK n f k).length = n := by simp [fillK]
theorem fillK_at {n : Nat} {f : Nat → Nat} {k p : Nat} (hp : p < n) : (fillK n f k)[p]? = some (if p < k then f p else 0) := by simp [fillK, hp]
theorem fillK_zero (n : Nat) (f : Nat → Nat) : fillK n f 0 = List.replicate n 0 := by
  apply List.ext_getElem?
  intro p
  by_cases hp : p < n
  · rw [fillK_at hp]; simp [hp]
  · rw [List.getElem?_eq_none (by rw [fillK_length]; omega), List.getElem?_eq_none (by simp; omega)]
theorem fillK_succ {n : Nat} {f : Nat → Nat} {k : Nat} (hk : k < n) : (fillK n f k).set k (f k) = fillK n f (k + 1) := by
  apply List.ext_getElem?
  intro q
  rw [List.getElem?_set, fillK_length]
  by_cases hq : q < n
  · rw [fillK_at hq, fillK_at hq]
    by_cases e : k = q
    · subst e; rw [if_pos rfl, if_pos hk, if_pos (by omega)]
    · rw [if_neg e]
      by_cases h1 : q < k
      · rw [if_pos h1, if_pos (by omega)]
      · rw [if_neg h1, if_neg (by omega)]
  · rw [if_neg (by omega), List.getElem?_eq_none (by rw [fillK_length]; omega), List.getElem?_eq_none (by rw [fillK_length]; omega)]
theorem joinRows_lt {L : List Nat} {n : Nat} (h : ∀ R ∈ L, R < 2 ^ n) (l : List Nat) : joinRows L l < 2 ^ n := by
  unfold joinRows
  have : ∀ (l : List Nat) (s : Nat), s < 2 ^ n → l.foldl (fun s p => s ||| gr L p) s < 2 ^ n := by
    intro l
    induction l with
    | nil => intro s hs; exact hs
    | cons p l ih => intro s hs; exact ih _ (or_lt hs (gr_lt h))
  exact this l 0 (Nat.two_pow_pos n)
def compL (A B : List Nat) : List Nat := fillK (max A.length B.length) (fun p => joinRows B (bitsOf (gr A p))) A.length
def interL (A B : List Nat) : List Nat := fillK (max A.length B.length) (fun p => gr A p &&& gr B p) (max A.length B.length)
def minusL (A B : List Nat) : List Nat := fillK (max A.length B.length) (fun p => ldiff (gr A p) (gr B p)) (max A.length B.length)
end Go.Proofs.YteejkhgccaagiaaDoor
