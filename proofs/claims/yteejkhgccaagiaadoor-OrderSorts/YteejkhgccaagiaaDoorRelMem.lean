/- A relation in memory: a header cell with a slice, and its rows, four words each. -/
import Derived.Test.YteejkhgccaagiaaDoorRowWalks3
import Derived.Laws.MakeOwn
namespace Go.Proofs.YteejkhgccaagiaaDoor
open Go.RowKit Sx

/-- Row p, or nothing. -/
def gr (L : List Nat) (p : Nat) : Nat := L.getD p 0
theorem gr_of {L : List Nat} {i : Nat} (h : i < L.length) : L[i]? = some (gr L i) := by simp [gr, List.getD, h]
theorem gr_eq {L : List Nat} {i R : Nat} (h : L[i]? = some R) : gr L i = R := by simp [gr, List.getD, h]
theorem gr_not {L : List Nat} {i : Nat} (h : ¬ i < L.length) : gr L i = 0 := by simp [gr, List.getD, h]
/-- The cells of rows, one behind the other. -/
def flat (L : List Nat) : Array Value := (L.flatMap (fun R => (rcs R).toList)).toArray

theorem flat_size (L : List Nat) : (flat L).size = 4 * L.length := by
  unfold flat
  induction L with
  | nil => rfl
  | cons R L ih => simp [rcs] at ih ⊢; omega
theorem flat_at' : ∀ (L : List Nat) (i j : Nat) (R : Nat), j < 4 → L[i]? = some R → (L.flatMap (fun R => (rcs R).toList))[4 * i + j]? = some (.int .u64 ((wd R j : Nat) : Int))
  | [], i, j, R, _, h => by simp at h
  | S :: L, 0, j, R, hj, h => by
    simp at h; subst h
    rw [List.flatMap_cons, List.getElem?_append_left (by simp [rcs]; omega)]
    have := rcs_at (R := S) hj
    simpa using this
  | S :: L, i + 1, j, R, hj, h => by
    rw [List.flatMap_cons, List.getElem?_append_right (by simp [rcs]; omega)]
    have hs : (rcs S).toList.length = 4 := by simp [rcs]
    rw [hs, show 4 * (i + 1) + j - 4 = 4 * i + j from by omega]
    exact flat_at' L i j R hj (by simpa using h)
theorem flat_at {L : List Nat} {i j R : Nat} (hj : j < 4) (h : L[i]? = some R) : (flat L)[4 * i + j]? = some (.int .u64 ((wd R j : Nat) : Int)) := by
  have := flat_at' L i j R hj h
  simpa [flat] using this
theorem flat_set {L : List Nat} {i R : Nat} (h : i < L.length) :
    ((((flat L).setIfInBounds (i * 4) (.int .u64 ((wd R 0 : Nat) : Int))).setIfInBounds (i * 4 + 1) (.int .u64 ((wd R 1 : Nat) : Int))).setIfInBounds (i * 4 + 2) (.int .u64 ((wd R 2 : Nat) : Int))).setIfInBounds (i * 4 + 3) (.int .u64 ((wd R 3 : Nat) : Int)) = flat (L.set i R) := by
  rw [Nat.mul_comm i 4]
  apply Array.ext_getElem?
  intro k
  by_cases hk : k < 4 * L.length
  · obtain ⟨q, r, hr, rfl⟩ : ∃ q r, r < 4 ∧ k = 4 * q + r := ⟨k / 4, k % 4, Nat.mod_lt _ (by omega), by omega⟩
    have hq : q < L.length := by omega
    have e2 : (flat (L.set i R))[4 * q + r]? = some (.int .u64 ((wd (if q = i then R else L[q]) r : Nat) : Int)) := by
      refine flat_at hr ?_
      rw [List.getElem?_set]
      by_cases hqi : i = q
      · subst hqi; simp [hq]
      · rw [if_neg hqi, if_neg (fun e => hqi e.symm), List.getElem?_eq_getElem hq]
    have e1 : (flat L)[4 * q + r]? = some (.int .u64 ((wd L[q] r : Nat) : Int)) := flat_at hr (List.getElem?_eq_getElem hq)
    rw [e2]
    simp only [Array.getElem?_setIfInBounds, e1, Array.size_setIfInBounds, flat_size]
    by_cases hqi : q = i
    · subst hqi
      have : r = 0 ∨ r = 1 ∨ r = 2 ∨ r = 3 := by omega
      rcases this with rfl | rfl | rfl | rfl <;> simp <;> omega
    · rw [if_neg (by omega), if_neg (by omega), if_neg (by omega), if_neg (by omega), if_neg hqi]
  · rw [Array.getElem?_eq_none (by simp [flat_size]; omega), Array.getElem?_eq_none (by simp [flat_size]; omega)]

theorem flat_made (n : Nat) : madeCells #[.int .u64 0, .int .u64 0, .int .u64 0, .int .u64 0] (n * 4) = flat (List.replicate n 0) := by
  apply Array.ext
  · rw [size_madeCells, flat_size, List.length_replicate]; omega
  · intro k h1 h2
    rw [size_madeCells] at h1
    obtain ⟨q, r, hr, rfl⟩ : ∃ q r, r < 4 ∧ k = 4 * q + r := ⟨k / 4, k % 4, Nat.mod_lt _ (by omega), by omega⟩
    have e := flat_at (L := List.replicate n 0) (i := q) (R := 0) hr (by rw [List.getElem?_replicate, if_pos (by omega)])
    obtain ⟨_, e⟩ := Array.getElem?_eq_some_iff.1 e
    rw [e, wd_zero]
    simp only [madeCells, Array.getElem_map, Array.getElem_range]
    have : r = 0 ∨ r = 1 ∨ r = 2 ∨ r = 3 := by omega
    rcases this with rfl | rfl | rfl | rfl <;> simp

/-- The relation with the rows L lies at the header block b, its rows in block c. -/
structure IsRel (w : World) (b c : Nat) (L : List Nat) : Prop where
  ne : b ≠ c
  head : Blk w b 74 #[.slice (some ⟨c, 0, none⟩) L.length L.length]
  rows : Blk w c 83 (flat L)
  len : L.length ≤ 256
  low : ∀ R ∈ L, R < 2 ^ L.length

/-- All blocks but c are as they were. -/
structure Touch (c : Nat) (w w' : World) : Prop where
  os : w'.os = w.os
  tape : w'.tape = w.tape
  output : w'.output = w.output
  size : w.heap.size ≤ w'.heap.size
  block : ∀ k, k < w.heap.size → k ≠ c → w'.heap[k]? = w.heap[k]?
theorem Touch.below {c n : Nat} {w w' : World} (h : Touch c w w') (hc : n ≤ c) (hn : n ≤ w.heap.size) : Below n w w' :=
  ⟨h.os, h.tape, h.output, h.size, fun k hk => h.block k (by omega) (by omega)⟩
theorem Touch.of_below {c : Nat} {w w' : World} (h : Below w.heap.size w w') : Touch c w w' := ⟨h.os, h.tape, h.output, h.size, fun k hk _ => h.block k hk⟩
theorem Touch.set {c j : Nat} {a w : World} (h : Touch c a w) (v : Value) : Touch c a (w.setCell ⟨c, j, none⟩ v) :=
  ⟨h.os, h.tape, h.output, by simpa [World.setCell] using h.size, fun k hk hc => (Below.heap_setCell w ⟨c, j, none⟩ v k hc).trans (h.block k hk hc)⟩
theorem Touch.drew {c : Nat} {a w : World} (h : Touch c a w) : Touch c a w.drew := ⟨h.os, h.tape, h.output, h.size, h.block⟩
theorem Blk.touch {c : Nat} {w w' : World} {b : Nat} {t : TypeId} {cs : Array Value} (h : Blk w b t cs) (ht : Touch c w w') (hc : b ≠ c) : Blk w' b t cs := (ht.block b h.lt hc).trans h

theorem IsRel.below {w w' : World} {b c : Nat} {L : List Nat} (h : IsRel w b c L) (hb : Below w.heap.size w w') : IsRel w' b c L :=
  ⟨h.ne, h.head.of_below hb, h.rows.of_below hb, h.len, h.low⟩
theorem IsRel.below' {w w' : World} {b c n : Nat} {L : List Nat} (h : IsRel w b c L) (hb : Below n w w') (h1 : b < n) (h2 : c < n) : IsRel w' b c L :=
  ⟨h.ne, h.head.below hb h1, h.rows.below hb h2, h.len, h.low⟩
theorem IsRel.touch {w w' : World} {b c d : Nat} {L : List Nat} (h : IsRel w b c L) (ht : Touch d w w') (h1 : b ≠ d) (h2 : c ≠ d) : IsRel w' b c L :=
  ⟨h.ne, h.head.touch ht h1, h.rows.touch ht h2, h.len, h.low⟩
theorem IsRel.alloc {w : World} {b c : Nat} {L : List Nat} (h : IsRel w b c L) (o : Obj) : IsRel (w.alloc o) b c L := ⟨h.ne, h.head.alloc o, h.rows.alloc o, h.len, h.low⟩
theorem IsRel.drew {w : World} {b c : Nat} {L : List Nat} (h : IsRel w b c L) : IsRel w.drew b c L := ⟨h.ne, h.head, h.rows, h.len, h.low⟩
theorem IsRel.drewN {w : World} {b c : Nat} {L : List Nat} (h : IsRel w b c L) (n : Nat) : IsRel (w.drewN n) b c L := ⟨h.ne, h.head, h.rows, h.len, h.low⟩
theorem IsRel.other {w : World} {b c : Nat} {L : List Nat} (h : IsRel w b c L) {a : Addr} (h1 : b ≠ a.block) (h2 : c ≠ a.block) (v : Value) : IsRel (w.setCell a v) b c L :=
  ⟨h.ne, h.head.setOther h1 v, h.rows.setOther h2 v, h.len, h.low⟩
theorem IsRel.hcell {w : World} {b c : Nat} {L : List Nat} (h : IsRel w b c L) : w.cell? ⟨b, 0, none⟩ = some (.slice (some ⟨c, 0, none⟩) L.length L.length) := h.head.cell rfl
theorem IsRel.cells {w : World} {b c : Nat} {L : List Nat} (h : IsRel w b c L) {i R : Nat} (hi : L[i]? = some R) :
    w.cell? ⟨c, i * 4, none⟩ = some (.int .u64 ((wd R 0 : Nat) : Int)) ∧ w.cell? ⟨c, i * 4 + 1, none⟩ = some (.int .u64 ((wd R 1 : Nat) : Int)) ∧ w.cell? ⟨c, i * 4 + 2, none⟩ = some (.int .u64 ((wd R 2 : Nat) : Int)) ∧ w.cell? ⟨c, i * 4 + 3, none⟩ = some (.int .u64 ((wd R 3 : Nat) : Int)) := by
  rw [Nat.mul_comm i 4]
  exact ⟨h.rows.cell (flat_at (j := 0) (by omega) hi), h.rows.cell (flat_at (j := 1) (by omega) hi), h.rows.cell (flat_at (j := 2) (by omega) hi), h.rows.cell (flat_at (j := 3) (by omega) hi)⟩
theorem IsRel.put {w : World} {b c : Nat} {L : List Nat} (h : IsRel w b c L) {i R : Nat} (hi : i < L.length) (hR : R < 2 ^ L.length) :
    IsRel ((((w.setCell ⟨c, i * 4, none⟩ (.int .u64 ((wd R 0 : Nat) : Int))).setCell ⟨c, i * 4 + 1, none⟩ (.int .u64 ((wd R 1 : Nat) : Int))).setCell ⟨c, i * 4 + 2, none⟩ (.int .u64 ((wd R 2 : Nat) : Int))).setCell ⟨c, i * 4 + 3, none⟩ (.int .u64 ((wd R 3 : Nat) : Int))) b c (L.set i R) := by
  refine ⟨h.ne, ?_, ?_, by simpa using h.len, ?_⟩
  · rw [List.length_set]
    exact (((h.head.setOther h.ne _).setOther h.ne _).setOther h.ne _).setOther h.ne _
  · have := (((h.rows.set (i * 4) (.int .u64 ((wd R 0 : Nat) : Int))).set (i * 4 + 1) (.int .u64 ((wd R 1 : Nat) : Int))).set (i * 4 + 2) (.int .u64 ((wd R 2 : Nat) : Int))).set (i * 4 + 3) (.int .u64 ((wd R 3 : Nat) : Int))
    rwa [flat_set hi] at this
  · intro S hS
    rw [List.length_set]
    rcases List.mem_or_eq_of_mem_set hS with h' | rfl
    · exact h.low S h'
    · exact hR
/-- All that a load or a store of row i wants to know. -/
theorem IsRel.slots {w : World} {b c : Nat} {L : List Nat} (h : IsRel w b c L) {i R : Nat} (hi : L[i]? = some R) :
    w.cell? ⟨b, 0, none⟩ = some (.slice (some ⟨c, 0, none⟩) L.length L.length) ∧ (w.cell? ⟨c, i * 4, none⟩ = some (.int .u64 ((wd R 0 : Nat) : Int)) ∧ w.cell? ⟨c, i * 4 + 1, none⟩ = some (.int .u64 ((wd R 1 : Nat) : Int)) ∧ w.cell? ⟨c, i * 4 + 2, none⟩ = some (.int .u64 ((wd R 2 : Nat) : Int)) ∧ w.cell? ⟨c, i * 4 + 3, none⟩ = some (.int .u64 ((wd R 3 : Nat) : Int))) ∧
    (w.frozen? ⟨c, i * 4, none⟩ = false ∧ w.frozen? ⟨c, i * 4 + 1, none⟩ = false ∧ w.frozen? ⟨c, i * 4 + 2, none⟩ = false ∧ w.frozen? ⟨c, i * 4 + 3, none⟩ = false) ∧ b < w.heap.size ∧ c < w.heap.size :=
  ⟨h.hcell, h.cells hi, ⟨h.rows.frozen _, h.rows.frozen _, h.rows.frozen _, h.rows.frozen _⟩, h.head.lt, h.rows.lt⟩
end Go.Proofs.YteejkhgccaagiaaDoor
