/- Lists of numbers in memory, as package order's walks want them; isPoint. -/
import Derived.Test.YteejkhgccaagiaaDoorPairsWalk
import Derived.Test.YteejkhgccaagiaaDoorOfWalk
namespace Go.Proofs.YteejkhgccaagiaaDoor
open Go.RowKit Go.Shelf Sx

/-- The cells of a list of numbers. -/
def intsA (l : List Int) : Array Value := (l.map (fun x => Value.int .i64 x)).toArray
theorem intsA_size (l : List Int) : (intsA l).size = l.length := by simp [intsA]
theorem intsA_at {l : List Int} {i : Nat} {x : Int} (h : l[i]? = some x) : (intsA l)[i]? = some (.int .i64 x) := by simp [intsA, h]
theorem intsA_set (l : List Int) (i : Nat) (x : Int) : (intsA l).setIfInBounds i (.int .i64 x) = intsA (l.set i x) := by
  apply Array.ext'
  simp [intsA, List.map_set]
theorem Blk.setI {w : World} {b : Nat} {l : List Int} (h : Blk w b 3 (intsA l)) (i : Nat) (x : Int) : Blk (w.setCell ⟨b, i, none⟩ (.int .i64 x)) b 3 (intsA (l.set i x)) := by
  have := h.set i (.int .i64 x)
  rwa [intsA_set] at this
theorem Blk.cellI {w : World} {b : Nat} {l : List Int} (h : Blk w b 3 (intsA l)) {i : Nat} {x : Int} (hx : l[i]? = some x) : w.cell? ⟨b, i, none⟩ = some (.int .i64 x) := h.cell (intsA_at hx)
/-- A slice of numbers, or nil, read as a list. -/
def IntsR (w : World) (v : Value) (l : List Int) : Prop := (∃ a cap, v = .slice a 0 cap ∧ l = []) ∨ ∃ s o cap, v = .slice (some ⟨s, o, none⟩) l.length cap ∧ s < w.heap.size ∧ ∀ (i : Nat) (x : Int), l[i]? = some x → w.cell? ⟨s, o + i, none⟩ = some (.int .i64 x)
theorem IntsR.below {w w' : World} {v : Value} {l : List Int} (h : IntsR w v l) (hb : Below w.heap.size w w') : IntsR w' v l := by
  rcases h with h | ⟨s, o, cap, h1, h2, h3⟩
  · exact .inl h
  · exact .inr ⟨s, o, cap, h1, Nat.lt_of_lt_of_le h2 hb.size, fun i x hx => (hb.cell (p := ⟨s, o + i, none⟩) h2).trans (h3 i x hx)⟩
theorem IntsR.len {w : World} {v : Value} {l : List Int} (h : IntsR w v l) : ∃ a cap, v = .slice a l.length cap := by
  rcases h with ⟨a, cap, rfl, rfl⟩ | ⟨s, o, cap, rfl, _⟩
  · exact ⟨_, _, rfl⟩
  · exact ⟨_, _, rfl⟩
theorem IntsR.some {w : World} {v : Value} {l : List Int} (h : IntsR w v l) (h0 : 0 < l.length) : ∃ s o cap, v = .slice (some ⟨s, o, none⟩) l.length cap ∧ s < w.heap.size ∧ ∀ (i : Nat) (x : Int), l[i]? = some x → w.cell? ⟨s, o + i, none⟩ = some (.int .i64 x) := by
  rcases h with ⟨_, _, _, e⟩ | h
  · rw [e] at h0; exact absurd h0 (by simp)
  · exact h
def encJ (l : List Int) : List Value := l.map (fun x => .int .i64 x)
theorem encJ_snoc (l : List Int) (x : Int) : encJ (l ++ [x]) = encJ l ++ [.int .i64 x] := by simp [encJ]
theorem owns_intsR {w : World} {base : Nat} {v : Value} {l : List Int} (h : w.ownsRow base 3 1 v l.length (encJ l)) : IntsR w v l := by
  rcases h.2 with ⟨e, e2⟩ | ⟨g, cap, cur, e, _, hb, _, _, _, ht⟩
  · left
    exact ⟨_, _, e, List.eq_nil_of_length_eq_zero e2⟩
  · right
    refine ⟨g, 0, cap, e, (Array.getElem?_eq_some_iff.1 hb).1, ?_⟩
    intro i x hx
    have hk : Blk w g 3 cur := hb
    rw [Nat.zero_add]
    apply hk.cell
    have hi : i < l.length := (List.getElem?_eq_some_iff.1 hx).1
    have : (encJ l)[i]? = some (.int .i64 x) := by simp [encJ, hx]
    rw [← ht, List.getElem?_take_of_lt (by omega)] at this
    simpa using this
/-- The pairs lie in block s, from its beginning on. -/
structure PrsR (w : World) (s : Nat) (l : List (Nat × Nat)) : Prop where
  lt : s < w.heap.size
  fst : ∀ (i : Nat) (x : Nat × Nat), l[i]? = some x → w.cell? ⟨s, i * 2, none⟩ = some (.int .i64 x.1)
  snd : ∀ (i : Nat) (x : Nat × Nat), l[i]? = some x → w.cell? ⟨s, i * 2 + 1, none⟩ = some (.int .i64 x.2)
theorem PrsR.below {w w' : World} {s : Nat} {l : List (Nat × Nat)} (h : PrsR w s l) (hb : Below w.heap.size w w') : PrsR w' s l :=
  ⟨Nat.lt_of_lt_of_le h.lt hb.size, fun i x hx => (hb.cell (p := ⟨s, i * 2, none⟩) h.lt).trans (h.fst i x hx), fun i x hx => (hb.cell (p := ⟨s, i * 2 + 1, none⟩) h.lt).trans (h.snd i x hx)⟩
theorem PrsR.drew {w : World} {s : Nat} {l : List (Nat × Nat)} (h : PrsR w s l) : PrsR w.drew s l := ⟨h.lt, h.fst, h.snd⟩
theorem encPs_at : ∀ (l : List (Nat × Nat)) (i : Nat) (x : Nat × Nat), l[i]? = some x → (encPs l)[i * 2]? = some (.int .i64 x.1) ∧ (encPs l)[i * 2 + 1]? = some (.int .i64 x.2)
  | [], _, _, h => by simp at h
  | y :: l, 0, x, h => by simp at h; subst h; exact ⟨rfl, rfl⟩
  | y :: l, i + 1, x, h => by
    have := encPs_at l i x (by simpa using h)
    rw [show (i + 1) * 2 = i * 2 + 1 + 1 by omega]
    exact this
theorem encPs_length (l : List (Nat × Nat)) : (encPs l).length = l.length * 2 := by
  induction l with
  | nil => rfl
  | cons x l ih => simp [encPs] at ih ⊢; omega
theorem owns_prs {w : World} {base : Nat} {v : Value} {l : List (Nat × Nat)} (h : w.ownsRow base 37 2 v l.length (encPs l)) :
    (v = .slice none 0 0 ∧ l = []) ∨ ∃ s cap, v = .slice (some ⟨s, 0, none⟩) l.length cap ∧ base ≤ s ∧ PrsR w s l := by
  rcases h.2 with ⟨e, e2⟩ | ⟨g, cap, cur, e, hg, hb, _, _, _, ht⟩
  · exact .inl ⟨e, List.eq_nil_of_length_eq_zero e2⟩
  · right
    have hk : Blk w g 37 cur := hb
    have key : ∀ (j : Nat) (u : Value), j < l.length * 2 → (encPs l)[j]? = some u → w.cell? ⟨g, j, none⟩ = some u := fun j u hj hu => by
      apply hk.cell
      rw [← ht, List.getElem?_take_of_lt (by omega)] at hu
      simpa using hu
    refine ⟨g, cap, e, hg, (Array.getElem?_eq_some_iff.1 hb).1, fun i x hx => ?_, fun i x hx => ?_⟩
    · have hi : i < l.length := (List.getElem?_eq_some_iff.1 hx).1
      exact key _ _ (by omega) (encPs_at l i x hx).1
    · have hi : i < l.length := (List.getElem?_eq_some_iff.1 hx).1
      exact key _ _ (by omega) (encPs_at l i x hx).2
theorem mem_pairsK {L : List Nat} {k : Nat} {x : Nat × Nat} : x ∈ pairsK L k ↔ x.1 < k ∧ x.2 ∈ bitsOf (gr L x.1) := by
  obtain ⟨a, b⟩ := x
  simp [pairsK]
theorem Tryd.infoint : (Tryd.prog.info? 3).map (fun i => (i.zero, i.size, i.bytes)) = some (some (.int .i64 0), 1, 8) := by kernel_rfl
theorem make_ints (n : Nat) (h : n ≤ 65536) (w : World) : (Instr.makeSlice 29 (.int .i64 n) (.int .i64 n)).run Tryd.prog w = .ok (.slice (some ⟨w.heap.size, 0, none⟩) n n) (w.alloc (.cells (intsA (List.replicate n 0)) 3)) := by
  obtain ⟨i, hx, hz, hs, hb⟩ := info_parts Tryd.infoint
  have := run_make (P := Tryd.prog) w 29 3 i _ Tryd.underlying29 hx hz .i64 .i64 n n (by omega) (by omega) (by rw [hb]; omega) (by omega)
  rw [this, hs]
  have e : madeCells (Value.int .i64 0).cells ((n : Int).toNat * 1) = intsA (List.replicate n 0) := by
    apply Array.toList_inj.1
    rw [Int.toNat_natCast, Nat.mul_one, show (Value.int .i64 0).cells = #[.int .i64 0] from rfl, toList_madeCells_one]
    simp [intsA]
  rw [e]
  simp
set_option maxHeartbeats 400000 in
theorem oIsPoint_calls (n : Nat) (p : Int) (w : World) :
    Calls Tryd.prog 48 #[.int .i64 n, .int .i64 p] w fun e w' => e = .returned (.bool (inR n p)) ∧ w' = w := by
  by_cases h0 : 0 ≤ p
  · by_cases h1 : p < n
    · have e : inR n p = true := decide_eq_true ⟨h0, h1⟩
      rw [e]; clear e
      go_enter Tryd.func48, Tryd.ntmps48
      go_wp2
      go_ret
      exact ⟨by simp, rfl⟩
    · have e : inR n p = false := decide_eq_false (by omega)
      rw [e]; clear e
      go_enter Tryd.func48, Tryd.ntmps48
      go_wp2
      go_ret
      exact ⟨by simp, rfl⟩
  · have e : inR n p = false := decide_eq_false (by omega)
    rw [e]; clear e
    go_enter Tryd.func48, Tryd.ntmps48
    go_wp2
    go_ret
    exact ⟨by simp, rfl⟩
end Go.Proofs.YteejkhgccaagiaaDoor
