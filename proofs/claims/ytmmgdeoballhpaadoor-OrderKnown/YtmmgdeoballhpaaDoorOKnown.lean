/- The statement OrderKnown, walked. (Printed by oknown.py.) -/
import Derived.Test.YtmmgdeoballhpaaDoorJ20
import Derived.Test.YtmmgdeoballhpaaDoorR2Red
import Derived.Test.YtmmgdeoballhpaaDoorJ22
import Derived.Test.YtmmgdeoballhpaaDoorJ09
import Derived.Test.YtmmgdeoballhpaaDoorJ14
namespace Go.Proofs.YtmmgdeoballhpaaDoor
open Go.RowKit Go.Shelf Sx

theorem all_sm : allO smR = [[2, 0, 3, 1], [2, 3, 0, 1], [2, 3, 1, 0], [3, 1, 2, 0], [3, 2, 0, 1], [3, 2, 1, 0]] := by decide +kernel
theorem all_rd : allO rdR = [] := by decide +kernel
theorem all_zero : allO [] = [[]] := by decide +kernel
theorem comp_rd : compsL rdR = [[0, 1], [3], [4], [2]] := by decide +kernel
theorem comp_sm : compsL smR = [[2], [0], [3], [1]] := by decide +kernel
theorem of3 : ofL 3 [(0, 1), (1, 2), (0, 2)] = [6, 4, 0] := by decide +kernel
theorem of2 : ofL 3 [(0, 1), (1, 2)] = [2, 4, 0] := by decide +kernel
theorem red3 : redL [6, 4, 0] = [2, 4, 0] := by decide +kernel
theorem loop3 : (loopsL (plusL [6, 4, 0]) == 0) = true := by decide +kernel
theorem glue1 : glueF smR [(3, 2)] = ([3, 2, 0, 1], 0) := by decide +kernel
theorem glue2 : glueF smR [(0, 2)] = ([], 3) := by decide +kernel
theorem glue3 : glueF smR [(0, 3)] = ([2, 0, 3, 1], 0) := by decide +kernel
theorem glue4 : glueF smR [(0, 3), (3, 1)] = ([], 1) := by decide +kernel
theorem glue5 : glueF smR [(1, 1)] = ([], 1) := by decide +kernel
theorem glue6 : glueF smR [(1, 4)] = ([], 1) := by decide +kernel
theorem lin3 : linB smR [3, 2, 1, 0] = true ∧ linB smR [2, 0, 3] = false ∧ linB smR [2, 0, 3, 3] = false := by decide +kernel
/-- What Extensions answers at a relation that is known. -/
theorem ext_known {w w' : World} {L : List Nat} {most : Int} {e : Ending} (h : ExtR w L most e w') (os : List (List Nat)) (qq : Bool) (n : Nat) (ho : (allO L).take most.toNat = os) (hq : decide ((allO L).length ≤ most.toNat) = qq) (hn : os.length = n) :
    ∃ a cap, e = .returned (.tuple #[.slice a n cap, .bool qq]) ∧ BlocksR w' (.slice a n cap) os ∧ Below w.heap.size w w' := by
  obtain ⟨v, q, rfl, ⟨vs, hC, hqq⟩, hB⟩ := h
  rw [ho] at hC
  rw [hq] at hqq
  have hb := hC.blocks
  obtain ⟨p, cap, e, _⟩ := id hb
  rw [hn] at e
  subst e
  subst hqq
  exact ⟨p, cap, rfl, hb, hB⟩
theorem pP1 (w : World) (a b : Int) : PairsAt (w.alloc (.cells #[.int .i64 a, .int .i64 b] 37)) w.heap.size 0 [(a, b)] := by
  have hk := Blk.new w 37 #[.int .i64 a, .int .i64 b]
  refine ⟨by simp, ?_, ?_⟩
  all_goals
    intro i x hx
    match i with
    | 0 => simp at hx; subst hx; exact hk.cell rfl
    | i + 1 => simp at hx
theorem pP2 (w : World) (a b c d : Int) : PairsAt (w.alloc (.cells #[.int .i64 a, .int .i64 b, .int .i64 c, .int .i64 d] 37)) w.heap.size 0 [(a, b), (c, d)] := by
  have hk := Blk.new w 37 #[.int .i64 a, .int .i64 b, .int .i64 c, .int .i64 d]
  refine ⟨by simp, ?_, ?_⟩
  all_goals
    intro i x hx
    match i with
    | 0 => simp at hx; subst hx; exact hk.cell rfl
    | 1 => simp at hx; subst hx; exact hk.cell rfl
    | i + 2 => simp at hx
theorem pP3 (w : World) (a b c d e f : Int) : PairsAt (w.alloc (.cells #[.int .i64 a, .int .i64 b, .int .i64 c, .int .i64 d, .int .i64 e, .int .i64 f] 37)) w.heap.size 0 [(a, b), (c, d), (e, f)] := by
  have hk := Blk.new w 37 #[.int .i64 a, .int .i64 b, .int .i64 c, .int .i64 d, .int .i64 e, .int .i64 f]
  refine ⟨by simp, ?_, ?_⟩
  all_goals
    intro i x hx
    match i with
    | 0 => simp at hx; subst hx; exact hk.cell rfl
    | 1 => simp at hx; subst hx; exact hk.cell rfl
    | 2 => simp at hx; subst hx; exact hk.cell rfl
    | i + 3 => simp at hx
theorem three_ints (w : World) (a b c : Int) : IntsR (w.alloc (.cells #[.int .i64 a, .int .i64 b, .int .i64 c] 3)) (.slice (some ⟨w.heap.size, 0, none⟩) 3 3) [a, b, c] := by
  have hk := Blk.new w 3 #[.int .i64 a, .int .i64 b, .int .i64 c]
  refine .inr ⟨w.heap.size, 0, 3, rfl, hk.lt, fun i x hx => ?_⟩
  match i with
  | 0 => simp at hx; subst hx; exact hk.cell rfl
  | 1 => simp at hx; subst hx; exact hk.cell rfl
  | 2 => simp at hx; subst hx; exact hk.cell rfl
  | i + 3 => simp at hx
theorem bA1 (w : World) (o : Obj) : Below w.heap.size w (w.alloc o) := (Below.refl _ _).alloc (Nat.le_refl _) _
theorem bA4 (w : World) (o p q r : Obj) : Below w.heap.size w ((((w.alloc o).alloc p).alloc q).alloc r) := ((((Below.refl _ _).alloc (Nat.le_refl _) _).alloc (by simp) _).alloc (by simp; omega) _).alloc (by simp; omega) _
theorem bA5 (w : World) (o p q r s : Obj) : Below w.heap.size w (((((w.alloc o).alloc p).alloc q).alloc r).alloc s) := (bA4 w o p q r).alloc (by simp; omega) _
theorem rd_lit {W : World} {g : Nat} {bl : List Nat} (h : Blk W g 3 (intsA (toI bl))) : IntsR W (.slice (some ⟨g, 0, none⟩) bl.length bl.length) (toI bl) := by
  have e : bl.length = (toI bl).length := (toI_length bl).symm
  rw [e]
  refine .inr ⟨g, 0, (toI bl).length, rfl, h.lt, fun i x hx => ?_⟩
  rw [Nat.zero_add]
  exact h.cell (by simp [intsA, hx])
theorem lit_blocks {W : World} {s : Nat} (gs : List (Nat × List Nat)) (hs : Blk W s 29 (gs.map (fun x => Value.slice (some ⟨x.1, 0, none⟩) x.2.length x.2.length)).toArray) (hr : ∀ x ∈ gs, Blk W x.1 3 (intsA (toI x.2))) : BlocksR W (.slice (some ⟨s, 0, none⟩) gs.length gs.length) (gs.map (·.2)) := by
  refine ⟨_, _, by rw [List.length_map], gs.map (fun x => Value.slice (some ⟨x.1, 0, none⟩) x.2.length x.2.length), by simp, fun _ => ⟨s, rfl, hs.lt, fun i u hu => hs.cell (by simpa using hu)⟩, fun i u bl hu hbl => ?_⟩
  rw [List.getElem?_map] at hu hbl
  cases hx : gs[i]? with
  | none => rw [hx] at hu; cases hu
  | some x =>
    rw [hx] at hu hbl
    simp at hu hbl
    subst hu
    subst hbl
    exact rd_lit (hr x (List.mem_of_getElem? hx))
theorem lit_a (w : World) : BlocksR ((((w.alloc (.cells #[.int .i64 2, .int .i64 0, .int .i64 3, .int .i64 1] 3)).alloc (.cells #[.int .i64 2, .int .i64 3, .int .i64 0, .int .i64 1] 3)).alloc (.cells #[.int .i64 2, .int .i64 3, .int .i64 1, .int .i64 0] 3)).alloc (.cells #[.slice (some ⟨w.heap.size, 0, none⟩) 4 4, .slice (some ⟨w.heap.size + 1, 0, none⟩) 4 4, .slice (some ⟨w.heap.size + 1 + 1, 0, none⟩) 4 4] 29)) (.slice (some ⟨w.heap.size + 1 + 1 + 1, 0, none⟩) 3 3) [[2, 0, 3, 1], [2, 3, 0, 1], [2, 3, 1, 0]] := by
  have hs := Blk.new (((w.alloc (.cells #[.int .i64 2, .int .i64 0, .int .i64 3, .int .i64 1] 3)).alloc (.cells #[.int .i64 2, .int .i64 3, .int .i64 0, .int .i64 1] 3)).alloc (.cells #[.int .i64 2, .int .i64 3, .int .i64 1, .int .i64 0] 3)) 29 #[.slice (some ⟨w.heap.size, 0, none⟩) 4 4, .slice (some ⟨w.heap.size + 1, 0, none⟩) 4 4, .slice (some ⟨w.heap.size + 1 + 1, 0, none⟩) 4 4]
  simp only [World.size_alloc] at hs
  have h0 : Blk ((((w.alloc (.cells #[.int .i64 2, .int .i64 0, .int .i64 3, .int .i64 1] 3)).alloc (.cells #[.int .i64 2, .int .i64 3, .int .i64 0, .int .i64 1] 3)).alloc (.cells #[.int .i64 2, .int .i64 3, .int .i64 1, .int .i64 0] 3)).alloc (.cells #[.slice (some ⟨w.heap.size, 0, none⟩) 4 4, .slice (some ⟨w.heap.size + 1, 0, none⟩) 4 4, .slice (some ⟨w.heap.size + 1 + 1, 0, none⟩) 4 4] 29)) (w.heap.size) 3 #[.int .i64 2, .int .i64 0, .int .i64 3, .int .i64 1] := by
    have h := Blk.new w 3 #[.int .i64 2, .int .i64 0, .int .i64 3, .int .i64 1]
    try simp only [World.size_alloc] at h
    exact (((h.alloc _).alloc _).alloc _)
  have h1 : Blk ((((w.alloc (.cells #[.int .i64 2, .int .i64 0, .int .i64 3, .int .i64 1] 3)).alloc (.cells #[.int .i64 2, .int .i64 3, .int .i64 0, .int .i64 1] 3)).alloc (.cells #[.int .i64 2, .int .i64 3, .int .i64 1, .int .i64 0] 3)).alloc (.cells #[.slice (some ⟨w.heap.size, 0, none⟩) 4 4, .slice (some ⟨w.heap.size + 1, 0, none⟩) 4 4, .slice (some ⟨w.heap.size + 1 + 1, 0, none⟩) 4 4] 29)) (w.heap.size + 1) 3 #[.int .i64 2, .int .i64 3, .int .i64 0, .int .i64 1] := by
    have h := Blk.new (w.alloc (.cells #[.int .i64 2, .int .i64 0, .int .i64 3, .int .i64 1] 3)) 3 #[.int .i64 2, .int .i64 3, .int .i64 0, .int .i64 1]
    try simp only [World.size_alloc] at h
    exact ((h.alloc _).alloc _)
  have h2 : Blk ((((w.alloc (.cells #[.int .i64 2, .int .i64 0, .int .i64 3, .int .i64 1] 3)).alloc (.cells #[.int .i64 2, .int .i64 3, .int .i64 0, .int .i64 1] 3)).alloc (.cells #[.int .i64 2, .int .i64 3, .int .i64 1, .int .i64 0] 3)).alloc (.cells #[.slice (some ⟨w.heap.size, 0, none⟩) 4 4, .slice (some ⟨w.heap.size + 1, 0, none⟩) 4 4, .slice (some ⟨w.heap.size + 1 + 1, 0, none⟩) 4 4] 29)) (w.heap.size + 1 + 1) 3 #[.int .i64 2, .int .i64 3, .int .i64 1, .int .i64 0] := by
    have h := Blk.new ((w.alloc (.cells #[.int .i64 2, .int .i64 0, .int .i64 3, .int .i64 1] 3)).alloc (.cells #[.int .i64 2, .int .i64 3, .int .i64 0, .int .i64 1] 3)) 3 #[.int .i64 2, .int .i64 3, .int .i64 1, .int .i64 0]
    try simp only [World.size_alloc] at h
    exact (h.alloc _)
  exact lit_blocks [(w.heap.size, [2, 0, 3, 1]), (w.heap.size + 1, [2, 3, 0, 1]), (w.heap.size + 1 + 1, [2, 3, 1, 0])] hs (fun x hx => by
    simp only [List.mem_cons, List.not_mem_nil, or_false] at hx
    rcases hx with rfl | rfl | rfl
    · exact h0
    · exact h1
    · exact h2)
theorem lit_b (w : World) : BlocksR (((((w.alloc (.cells #[.int .i64 0, .int .i64 1] 3)).alloc (.cells #[.int .i64 3] 3)).alloc (.cells #[.int .i64 4] 3)).alloc (.cells #[.int .i64 2] 3)).alloc (.cells #[.slice (some ⟨w.heap.size, 0, none⟩) 2 2, .slice (some ⟨w.heap.size + 1, 0, none⟩) 1 1, .slice (some ⟨w.heap.size + 1 + 1, 0, none⟩) 1 1, .slice (some ⟨w.heap.size + 1 + 1 + 1, 0, none⟩) 1 1] 29)) (.slice (some ⟨w.heap.size + 1 + 1 + 1 + 1, 0, none⟩) 4 4) [[0, 1], [3], [4], [2]] := by
  have hs := Blk.new ((((w.alloc (.cells #[.int .i64 0, .int .i64 1] 3)).alloc (.cells #[.int .i64 3] 3)).alloc (.cells #[.int .i64 4] 3)).alloc (.cells #[.int .i64 2] 3)) 29 #[.slice (some ⟨w.heap.size, 0, none⟩) 2 2, .slice (some ⟨w.heap.size + 1, 0, none⟩) 1 1, .slice (some ⟨w.heap.size + 1 + 1, 0, none⟩) 1 1, .slice (some ⟨w.heap.size + 1 + 1 + 1, 0, none⟩) 1 1]
  simp only [World.size_alloc] at hs
  have h0 : Blk (((((w.alloc (.cells #[.int .i64 0, .int .i64 1] 3)).alloc (.cells #[.int .i64 3] 3)).alloc (.cells #[.int .i64 4] 3)).alloc (.cells #[.int .i64 2] 3)).alloc (.cells #[.slice (some ⟨w.heap.size, 0, none⟩) 2 2, .slice (some ⟨w.heap.size + 1, 0, none⟩) 1 1, .slice (some ⟨w.heap.size + 1 + 1, 0, none⟩) 1 1, .slice (some ⟨w.heap.size + 1 + 1 + 1, 0, none⟩) 1 1] 29)) (w.heap.size) 3 #[.int .i64 0, .int .i64 1] := by
    have h := Blk.new w 3 #[.int .i64 0, .int .i64 1]
    try simp only [World.size_alloc] at h
    exact ((((h.alloc _).alloc _).alloc _).alloc _)
  have h1 : Blk (((((w.alloc (.cells #[.int .i64 0, .int .i64 1] 3)).alloc (.cells #[.int .i64 3] 3)).alloc (.cells #[.int .i64 4] 3)).alloc (.cells #[.int .i64 2] 3)).alloc (.cells #[.slice (some ⟨w.heap.size, 0, none⟩) 2 2, .slice (some ⟨w.heap.size + 1, 0, none⟩) 1 1, .slice (some ⟨w.heap.size + 1 + 1, 0, none⟩) 1 1, .slice (some ⟨w.heap.size + 1 + 1 + 1, 0, none⟩) 1 1] 29)) (w.heap.size + 1) 3 #[.int .i64 3] := by
    have h := Blk.new (w.alloc (.cells #[.int .i64 0, .int .i64 1] 3)) 3 #[.int .i64 3]
    try simp only [World.size_alloc] at h
    exact (((h.alloc _).alloc _).alloc _)
  have h2 : Blk (((((w.alloc (.cells #[.int .i64 0, .int .i64 1] 3)).alloc (.cells #[.int .i64 3] 3)).alloc (.cells #[.int .i64 4] 3)).alloc (.cells #[.int .i64 2] 3)).alloc (.cells #[.slice (some ⟨w.heap.size, 0, none⟩) 2 2, .slice (some ⟨w.heap.size + 1, 0, none⟩) 1 1, .slice (some ⟨w.heap.size + 1 + 1, 0, none⟩) 1 1, .slice (some ⟨w.heap.size + 1 + 1 + 1, 0, none⟩) 1 1] 29)) (w.heap.size + 1 + 1) 3 #[.int .i64 4] := by
    have h := Blk.new ((w.alloc (.cells #[.int .i64 0, .int .i64 1] 3)).alloc (.cells #[.int .i64 3] 3)) 3 #[.int .i64 4]
    try simp only [World.size_alloc] at h
    exact ((h.alloc _).alloc _)
  have h3 : Blk (((((w.alloc (.cells #[.int .i64 0, .int .i64 1] 3)).alloc (.cells #[.int .i64 3] 3)).alloc (.cells #[.int .i64 4] 3)).alloc (.cells #[.int .i64 2] 3)).alloc (.cells #[.slice (some ⟨w.heap.size, 0, none⟩) 2 2, .slice (some ⟨w.heap.size + 1, 0, none⟩) 1 1, .slice (some ⟨w.heap.size + 1 + 1, 0, none⟩) 1 1, .slice (some ⟨w.heap.size + 1 + 1 + 1, 0, none⟩) 1 1] 29)) (w.heap.size + 1 + 1 + 1) 3 #[.int .i64 2] := by
    have h := Blk.new (((w.alloc (.cells #[.int .i64 0, .int .i64 1] 3)).alloc (.cells #[.int .i64 3] 3)).alloc (.cells #[.int .i64 4] 3)) 3 #[.int .i64 2]
    try simp only [World.size_alloc] at h
    exact (h.alloc _)
  exact lit_blocks [(w.heap.size, [0, 1]), (w.heap.size + 1, [3]), (w.heap.size + 1 + 1, [4]), (w.heap.size + 1 + 1 + 1, [2])] hs (fun x hx => by
    simp only [List.mem_cons, List.not_mem_nil, or_false] at hx
    rcases hx with rfl | rfl | rfl | rfl
    · exact h0
    · exact h1
    · exact h2
    · exact h3)
theorem lit_c (w : World) : BlocksR (((((w.alloc (.cells #[.int .i64 2] 3)).alloc (.cells #[.int .i64 0] 3)).alloc (.cells #[.int .i64 3] 3)).alloc (.cells #[.int .i64 1] 3)).alloc (.cells #[.slice (some ⟨w.heap.size, 0, none⟩) 1 1, .slice (some ⟨w.heap.size + 1, 0, none⟩) 1 1, .slice (some ⟨w.heap.size + 1 + 1, 0, none⟩) 1 1, .slice (some ⟨w.heap.size + 1 + 1 + 1, 0, none⟩) 1 1] 29)) (.slice (some ⟨w.heap.size + 1 + 1 + 1 + 1, 0, none⟩) 4 4) [[2], [0], [3], [1]] := by
  have hs := Blk.new ((((w.alloc (.cells #[.int .i64 2] 3)).alloc (.cells #[.int .i64 0] 3)).alloc (.cells #[.int .i64 3] 3)).alloc (.cells #[.int .i64 1] 3)) 29 #[.slice (some ⟨w.heap.size, 0, none⟩) 1 1, .slice (some ⟨w.heap.size + 1, 0, none⟩) 1 1, .slice (some ⟨w.heap.size + 1 + 1, 0, none⟩) 1 1, .slice (some ⟨w.heap.size + 1 + 1 + 1, 0, none⟩) 1 1]
  simp only [World.size_alloc] at hs
  have h0 : Blk (((((w.alloc (.cells #[.int .i64 2] 3)).alloc (.cells #[.int .i64 0] 3)).alloc (.cells #[.int .i64 3] 3)).alloc (.cells #[.int .i64 1] 3)).alloc (.cells #[.slice (some ⟨w.heap.size, 0, none⟩) 1 1, .slice (some ⟨w.heap.size + 1, 0, none⟩) 1 1, .slice (some ⟨w.heap.size + 1 + 1, 0, none⟩) 1 1, .slice (some ⟨w.heap.size + 1 + 1 + 1, 0, none⟩) 1 1] 29)) (w.heap.size) 3 #[.int .i64 2] := by
    have h := Blk.new w 3 #[.int .i64 2]
    try simp only [World.size_alloc] at h
    exact ((((h.alloc _).alloc _).alloc _).alloc _)
  have h1 : Blk (((((w.alloc (.cells #[.int .i64 2] 3)).alloc (.cells #[.int .i64 0] 3)).alloc (.cells #[.int .i64 3] 3)).alloc (.cells #[.int .i64 1] 3)).alloc (.cells #[.slice (some ⟨w.heap.size, 0, none⟩) 1 1, .slice (some ⟨w.heap.size + 1, 0, none⟩) 1 1, .slice (some ⟨w.heap.size + 1 + 1, 0, none⟩) 1 1, .slice (some ⟨w.heap.size + 1 + 1 + 1, 0, none⟩) 1 1] 29)) (w.heap.size + 1) 3 #[.int .i64 0] := by
    have h := Blk.new (w.alloc (.cells #[.int .i64 2] 3)) 3 #[.int .i64 0]
    try simp only [World.size_alloc] at h
    exact (((h.alloc _).alloc _).alloc _)
  have h2 : Blk (((((w.alloc (.cells #[.int .i64 2] 3)).alloc (.cells #[.int .i64 0] 3)).alloc (.cells #[.int .i64 3] 3)).alloc (.cells #[.int .i64 1] 3)).alloc (.cells #[.slice (some ⟨w.heap.size, 0, none⟩) 1 1, .slice (some ⟨w.heap.size + 1, 0, none⟩) 1 1, .slice (some ⟨w.heap.size + 1 + 1, 0, none⟩) 1 1, .slice (some ⟨w.heap.size + 1 + 1 + 1, 0, none⟩) 1 1] 29)) (w.heap.size + 1 + 1) 3 #[.int .i64 3] := by
    have h := Blk.new ((w.alloc (.cells #[.int .i64 2] 3)).alloc (.cells #[.int .i64 0] 3)) 3 #[.int .i64 3]
    try simp only [World.size_alloc] at h
    exact ((h.alloc _).alloc _)
  have h3 : Blk (((((w.alloc (.cells #[.int .i64 2] 3)).alloc (.cells #[.int .i64 0] 3)).alloc (.cells #[.int .i64 3] 3)).alloc (.cells #[.int .i64 1] 3)).alloc (.cells #[.slice (some ⟨w.heap.size, 0, none⟩) 1 1, .slice (some ⟨w.heap.size + 1, 0, none⟩) 1 1, .slice (some ⟨w.heap.size + 1 + 1, 0, none⟩) 1 1, .slice (some ⟨w.heap.size + 1 + 1 + 1, 0, none⟩) 1 1] 29)) (w.heap.size + 1 + 1 + 1) 3 #[.int .i64 1] := by
    have h := Blk.new (((w.alloc (.cells #[.int .i64 2] 3)).alloc (.cells #[.int .i64 0] 3)).alloc (.cells #[.int .i64 3] 3)) 3 #[.int .i64 1]
    try simp only [World.size_alloc] at h
    exact (h.alloc _)
  exact lit_blocks [(w.heap.size, [2]), (w.heap.size + 1, [0]), (w.heap.size + 1 + 1, [3]), (w.heap.size + 1 + 1 + 1, [1])] hs (fun x hx => by
    simp only [List.mem_cons, List.not_mem_nil, or_false] at hx
    rcases hx with rfl | rfl | rfl | rfl
    · exact h0
    · exact h1
    · exact h2
    · exact h3)
structure OKn (w W : World) (b1 c1 b2 c2 : Nat) : Prop where
  bel : Below w.heap.size w W
  r : IsRel W b1 c1 smR
  c : IsRel W b2 c2 rdR
theorem OKn.step {w W W' : World} {b1 c1 b2 c2 : Nat} (h : OKn w W b1 c1 b2 c2) (hb : Below W.heap.size W W') : OKn w W' b1 c1 b2 c2 := ⟨below_step h.bel h.bel.size hb, h.r.below hb, h.c.below hb⟩
theorem glueT {b c s n : Nat} {W : World} {l : List (Int × Int)} {r : List Nat × Int} (hn : l.length = n) (hr : IsRel W b c smR) (hT : Tab W) (hP : PairsAt W s 0 l) (hm : l.length ≤ 3) (hg : glueF smR l = r) :
    Calls Tryd.prog 19 #[pv b, .slice (some ⟨s, 0, none⟩) n n] W fun e w' => GlueAns W w' r e ∧ Below W.heap.size W w' := by
  subst hn
  rw [← hg]
  exact oGlue_calls b c smR _ l W hr hT ⟨_, _, rfl, fun _ => ⟨_, _, rfl, hP⟩⟩ (by omega)
set_option maxRecDepth 100000 in
set_option maxHeartbeats 16000000 in
theorem OrderKnown_calls (w : World) (hT : Tab w) : Calls Tryd.prog 3 #[] w fun e w' => e = .returned (.bool true) ∧ Below w.heap.size w w' := by
  go_enter Tryd.func3, Tryd.ntmps3
  go_wp2_with fail
  refine (small2_calls _).mono ?_
  rintro e w1 ⟨b1, c1, rfl, hM1⟩
  go_wp2_with fail
  refine (round2_calls _).mono ?_
  rintro e w2 ⟨b2, c2, rfl, hM2⟩
  have HK2 : Hid (OKn w w2 b1 c1 b2 c2) := ⟨below_step hM1.below hM1.below.size hM2.below, hM1.rel.below hM2.below, hM2.rel⟩
  clear hM1 hM2
  go_wp2_with fail
  refine (lives2_calls w2 (hT.step HK2.out.bel)).mono ?_
  rintro e w3 ⟨rfl, hB3⟩
  have HK3 := hid_of (HK2.out.step hB3)
  clear HK2 hB3
  go_wp2_with fail
  refine (oExt_calls b1 c1 smR 3 (by decide) w3 HK3.out.r (hT.step HK3.out.bel)).mono ?_
  rintro e w4 hE
  obtain ⟨a3, ca3, rfl, hL3, hB⟩ := ext_known hE [[2, 0, 3, 1], [2, 3, 0, 1], [2, 3, 1, 0]] false 3 (by rw [all_sm]; rfl) (by rw [all_sm]; rfl) rfl
  have HK4 := hid_of (HK3.out.step hB)
  have HL3 := hid_of hL3
  clear hE hL3 hB HK3
  go_wp2_with fail
  refine (oExt_calls b1 c1 smR 6 (by decide) w4 HK4.out.r (hT.step HK4.out.bel)).mono ?_
  rintro e w5 hE
  obtain ⟨a5, ca5, rfl, hL5, hB⟩ := ext_known hE [[2, 0, 3, 1], [2, 3, 0, 1], [2, 3, 1, 0], [3, 1, 2, 0], [3, 2, 0, 1], [3, 2, 1, 0]] true 6 (by rw [all_sm]; rfl) (by rw [all_sm]; rfl) rfl
  have HK5 := hid_of (HK4.out.step hB)
  have HL5 := hid_of hL5
  have HL3n := hid_of (HL3.out.below hB)
  clear HL3
  have HL3 := hid_of HL3n.out
  clear HL3n
  clear hE hL5 hB HK4
  clear HL5
  go_wp2_with fail
  refine (lists2_same _ _ [[2, 0, 3, 1], [2, 3, 0, 1], [2, 3, 1, 0]] _ (HL3.out.below (bA4 w5 _ _ _ _)) (lit_a w5) (by decide) (by decide)).mono ?_
  rintro e w6 ⟨rfl, hB⟩
  have HK6 := hid_of (HK5.out.step (below_step (bA4 w5 _ _ _ _) (bA4 w5 _ _ _ _).size hB))
  clear HK5 HL3 hB
  go_wp2_with fail
  refine (show Calls Tryd.prog 14 #[.int .i64 0] w6 _ from New_c 0 (by decide) w6).mono ?_
  rintro e w7 ⟨b3, c3, rfl, hM⟩
  have HK7 := hid_of (HK6.out.step hM.below)
  have HZ : Hid (IsRel w7 b3 c3 []) := hM.rel
  clear HK6 hM
  go_wp2_with fail
  refine (oExt_calls b3 c3 [] 5 (by decide) w7 HZ.out (hT.step HK7.out.bel)).mono ?_
  rintro e w8 hE
  obtain ⟨a8, ca8, rfl, hL8, hB⟩ := ext_known hE [[]] true 1 (by rw [all_zero]; rfl) (by rw [all_zero]; rfl) rfl
  have HK8 := hid_of (HK7.out.step hB)
  have HL8 := hid_of hL8
  clear hE hL8 hB HK7
  clear HZ
  go_wp2_with fail
  refine (oExt_calls b2 c2 rdR 5 (by decide) w8 HK8.out.c (hT.step HK8.out.bel)).mono ?_
  rintro e w9 hE
  obtain ⟨a9, ca9, rfl, hL9, hB⟩ := ext_known hE [] true 0 (by rw [all_rd]; rfl) (by rw [all_rd]; rfl) rfl
  have HK9 := hid_of (HK8.out.step hB)
  have HL9 := hid_of hL9
  have HL8n := hid_of (HL8.out.below hB)
  clear HL8
  have HL8 := hid_of HL8n.out
  clear HL8n
  clear hE hL9 hB HK8
  clear HL9
  go_wp2_with fail
  refine (oExt_calls b1 c1 smR 0 (by decide) w9 HK9.out.r (hT.step HK9.out.bel)).mono ?_
  rintro e w10 hE
  obtain ⟨a10, ca10, rfl, hL10, hB⟩ := ext_known hE [] false 0 (by rw [all_sm]; rfl) (by rw [all_sm]; rfl) rfl
  have HK10 := hid_of (HK9.out.step hB)
  have HL10 := hid_of hL10
  have HL8n := hid_of (HL8.out.below hB)
  clear HL8
  have HL8 := hid_of HL8n.out
  clear HL8n
  clear hE hL10 hB HK9
  clear HL10
  obtain ⟨s8, u8a, u8c, e8, c8⟩ : ∃ s x c, a8 = some ⟨s, 0, none⟩ ∧ w10.cell? ⟨s, 0, none⟩ = some (.slice x 0 c) := by
    obtain ⟨p, cap, e, vs, h1, h2, h3⟩ := HL8.out
    obtain ⟨s, rfl, _, h4⟩ := h2 (by decide)
    injection e with e _ _
    have hv : vs[0]? = some (vs[0]'(by rw [h1]; decide)) := List.getElem?_eq_getElem _
    obtain ⟨x, c, e5⟩ := (h3 0 _ [] hv rfl).len
    exact ⟨s, x, c, e, by rw [h4 0 _ hv, e5]; rfl⟩
  subst e8
  clear HL8
  go_wp2_with fail
  refine (oComponents_calls b2 c2 rdR (tabF rdR) w10 HK10.out.c (hT.step HK10.out.bel) (tab_two rdR)).mono ?_
  rintro e w11 ⟨vc, vcs, rfl, hC, hB⟩
  rw [comp_rd] at hC
  have HK11 := hid_of (HK10.out.step hB)
  have HC := hid_of hC.blocks
  clear c8 hC hB HK10
  go_wp2_with fail
  refine (lists2_same _ _ [[0, 1], [3], [4], [2]] _ (HC.out.below (bA5 w11 _ _ _ _ _)) (lit_b w11) (by decide) (by decide)).mono ?_
  rintro e w12 ⟨rfl, hB⟩
  have HK12 := hid_of (HK11.out.step (below_step (bA5 w11 _ _ _ _ _) (bA5 w11 _ _ _ _ _).size hB))
  clear HC HK11 hB
  go_wp2_with fail
  refine (oComponents_calls b1 c1 smR (tabF smR) w12 HK12.out.r (hT.step HK12.out.bel) (tab_two smR)).mono ?_
  rintro e w13 ⟨vd, vds, rfl, hC, hB⟩
  rw [comp_sm] at hC
  have HK13 := hid_of (HK12.out.step hB)
  have HC := hid_of hC.blocks
  clear hC hB HK12
  go_wp2_with fail
  refine (lists2_same _ _ [[2], [0], [3], [1]] _ (HC.out.below (bA5 w13 _ _ _ _ _)) (lit_c w13) (by decide) (by decide)).mono ?_
  rintro e w14 ⟨rfl, hB⟩
  have HK14 := hid_of (HK13.out.step (below_step (bA5 w13 _ _ _ _ _) (bA5 w13 _ _ _ _ _).size hB))
  clear HC HK13 hB
  have hO := Of_calls 3 w14.heap.size 0 3 [(0, 1), (1, 2), (0, 2)] _ (pP3 w14 0 1 1 2 0 2) (by decide)
  rw [of3] at hO
  have HO := hid_of hO
  clear hO
  go_wp2_with fail
  refine HO.out.mono ?_
  rintro e w15 ⟨b5, c5, rfl, hM⟩
  have HK15 := hid_of (HK14.out.step (below_step (bA1 w14 _) (bA1 w14 _).size hM.below))
  have HR5 := hid_of hM.rel
  clear HO HK14 hM
  go_wp2_with fail
  refine (oReduction_yes b5 c5 [6, 4, 0] w15 HR5.out (hT.step HK15.out.bel) loop3).mono ?_
  rintro e w16 ⟨b6, c6, rfl, hM⟩
  have hM6 := hM.rel
  rw [red3] at hM6
  have HK16 := hid_of (HK15.out.step hM.below)
  have HR6 := hid_of hM6
  clear HR5 HK15 hM hM6
  have hO := Of_calls 3 w16.heap.size 0 2 [(0, 1), (1, 2)] _ (pP2 w16 0 1 1 2) (by decide)
  rw [of2] at hO
  have HO := hid_of hO
  clear hO
  go_wp2_with fail
  refine HO.out.mono ?_
  rintro e w17 ⟨b7, c7, rfl, hM⟩
  have HK17 := hid_of (HK16.out.step (below_step (bA1 w16 _) (bA1 w16 _).size hM.below))
  have HR7 := hid_of hM.rel
  have HR8 := hid_of ((HR6.out.below (bA1 w16 _)).below hM.below)
  clear HO HK16 hM HR6
  go_wp2_with fail
  refine (Equal_calls b6 c6 b7 c7 [2, 4, 0] [2, 4, 0] w17 HR8.out HR7.out).mono ?_
  rw [show (([2, 4, 0] : List Nat) == [2, 4, 0]) = true from by decide]
  rintro e w18 ⟨rfl, hB⟩
  have HK18 := hid_of (HK17.out.step hB)
  clear HK17 HR7 HR8 hB
  have hG := glueT (b := b1) (c := c1) (n := 1) rfl (HK18.out.r.below (bA1 w18 _)) (hT.step (HK18.out.step (bA1 w18 _)).bel) (pP1 w18 3 2) (by decide) glue1
  have HG := hid_of hG
  clear hG
  go_wp2_with fail
  refine HG.out.mono ?_
  rintro e w19 ⟨⟨va, rfl, ho, hno⟩, hB⟩
  have HK19 := hid_of (HK18.out.step (below_step (bA1 w18 _) (bA1 w18 _).size hB))
  have Hva : Hid (IntsR w19 va [3, 2, 0, 1]) := owns_intsR (ho rfl)
  clear HG ho hno hB HK18
  have hG := glueT (b := b1) (c := c1) (n := 1) rfl (HK19.out.r.below (bA1 w19 _)) (hT.step (HK19.out.step (bA1 w19 _)).bel) (pP1 w19 0 2) (by decide) glue2
  have HG := hid_of hG
  clear hG
  go_wp2_with fail
  refine HG.out.mono ?_
  rintro e w20 ⟨⟨vf, rfl, ho, hno⟩, hB⟩
  have HK20 := hid_of (HK19.out.step (below_step (bA1 w19 _) (bA1 w19 _).size hB))
  have Hvan := hid_of ((Hva.out.below (bA1 w19 _)).below hB)
  clear Hva
  have Hva := hid_of Hvan.out
  clear Hvan
  clear HG ho hno hB HK19
  have hG := glueT (b := b1) (c := c1) (n := 1) rfl (HK20.out.r.below (bA1 w20 _)) (hT.step (HK20.out.step (bA1 w20 _)).bel) (pP1 w20 0 3) (by decide) glue3
  have HG := hid_of hG
  clear hG
  go_wp2_with fail
  refine HG.out.mono ?_
  rintro e w21 ⟨⟨vb, rfl, ho, hno⟩, hB⟩
  have HK21 := hid_of (HK20.out.step (below_step (bA1 w20 _) (bA1 w20 _).size hB))
  have Hvb : Hid (IntsR w21 vb [2, 0, 3, 1]) := owns_intsR (ho rfl)
  have Hvan := hid_of ((Hva.out.below (bA1 w20 _)).below hB)
  clear Hva
  have Hva := hid_of Hvan.out
  clear Hvan
  clear HG ho hno hB HK20
  have hG := glueT (b := b1) (c := c1) (n := 2) rfl (HK21.out.r.below (bA1 w21 _)) (hT.step (HK21.out.step (bA1 w21 _)).bel) (pP2 w21 0 3 3 1) (by decide) glue4
  have HG := hid_of hG
  clear hG
  go_wp2_with fail
  refine HG.out.mono ?_
  rintro e w22 ⟨⟨vh, rfl, ho, hno⟩, hB⟩
  have HK22 := hid_of (HK21.out.step (below_step (bA1 w21 _) (bA1 w21 _).size hB))
  have Hvan := hid_of ((Hva.out.below (bA1 w21 _)).below hB)
  clear Hva
  have Hva := hid_of Hvan.out
  clear Hvan
  have Hvbn := hid_of ((Hvb.out.below (bA1 w21 _)).below hB)
  clear Hvb
  have Hvb := hid_of Hvbn.out
  clear Hvbn
  clear HG ho hno hB HK21
  have hG := glueT (b := b1) (c := c1) (n := 1) rfl (HK22.out.r.below (bA1 w22 _)) (hT.step (HK22.out.step (bA1 w22 _)).bel) (pP1 w22 1 1) (by decide) glue5
  have HG := hid_of hG
  clear hG
  go_wp2_with fail
  refine HG.out.mono ?_
  rintro e w23 ⟨⟨vi, rfl, ho, hno⟩, hB⟩
  have HK23 := hid_of (HK22.out.step (below_step (bA1 w22 _) (bA1 w22 _).size hB))
  have Hvan := hid_of ((Hva.out.below (bA1 w22 _)).below hB)
  clear Hva
  have Hva := hid_of Hvan.out
  clear Hvan
  have Hvbn := hid_of ((Hvb.out.below (bA1 w22 _)).below hB)
  clear Hvb
  have Hvb := hid_of Hvbn.out
  clear Hvbn
  clear HG ho hno hB HK22
  have hG := glueT (b := b1) (c := c1) (n := 1) rfl (HK23.out.r.below (bA1 w23 _)) (hT.step (HK23.out.step (bA1 w23 _)).bel) (pP1 w23 1 4) (by decide) glue6
  have HG := hid_of hG
  clear hG
  go_wp2_with fail
  refine HG.out.mono ?_
  rintro e w24 ⟨⟨vj, rfl, ho, hno⟩, hB⟩
  have HK24 := hid_of (HK23.out.step (below_step (bA1 w23 _) (bA1 w23 _).size hB))
  have Hvan := hid_of ((Hva.out.below (bA1 w23 _)).below hB)
  clear Hva
  have Hva := hid_of Hvan.out
  clear Hvan
  have Hvbn := hid_of ((Hvb.out.below (bA1 w23 _)).below hB)
  clear Hvb
  have Hvb := hid_of Hvbn.out
  clear Hvbn
  clear HG ho hno hB HK23
  go_wp2_with fail
  refine (ints2_calls va _ _ _ _ (Hva.out.below (bA1 w24 _)) (four_ints w24 3 2 0 1) (by decide)).mono ?_
  rw [show (([3, 2, 0, 1] : List Int) == [3, 2, 0, 1]) = true from by decide]
  rintro e w25 ⟨rfl, hB⟩
  have HK25 := hid_of (HK24.out.step (below_step (bA1 w24 _) (bA1 w24 _).size hB))
  have Hvb' := hid_of ((Hvb.out.below (bA1 w24 _)).below hB)
  clear HK24 Hva Hvb hB
  go_wp2_with fail
  refine (ints2_calls vb _ _ _ _ (Hvb'.out.below (bA1 w25 _)) (four_ints w25 2 0 3 1) (by decide)).mono ?_
  rw [show (([2, 0, 3, 1] : List Int) == [2, 0, 3, 1]) = true from by decide]
  rintro e w26 ⟨rfl, hB⟩
  have HK26 := hid_of (HK25.out.step (below_step (bA1 w25 _) (bA1 w25 _).size hB))
  clear HK25 Hvb' hB
  have hl := oLinear_calls b1 c1 smR _ _ _ (HK26.out.r.below (bA1 w26 _)) (hT.step (HK26.out.step (bA1 w26 _)).bel) (four_ints w26 3 2 1 0)
  rw [lin3.1] at hl
  have HL := hid_of hl
  clear hl
  go_wp2_with fail
  refine HL.out.mono ?_
  rintro e w27 ⟨rfl, hB⟩
  have HK27 := hid_of (HK26.out.step (below_step (bA1 w26 _) (bA1 w26 _).size hB))
  clear HL HK26 hB
  have hl := oLinear_calls b1 c1 smR _ _ _ (HK27.out.r.below (bA1 w27 _)) (hT.step (HK27.out.step (bA1 w27 _)).bel) (three_ints w27 2 0 3)
  rw [lin3.2.1] at hl
  have HL := hid_of hl
  clear hl
  go_wp2_with fail
  refine HL.out.mono ?_
  rintro e w28 ⟨rfl, hB⟩
  have HK28 := hid_of (HK27.out.step (below_step (bA1 w27 _) (bA1 w27 _).size hB))
  clear HL HK27 hB
  have hl := oLinear_calls b1 c1 smR _ _ _ (HK28.out.r.below (bA1 w28 _)) (hT.step (HK28.out.step (bA1 w28 _)).bel) (four_ints w28 2 0 3 3)
  rw [lin3.2.2] at hl
  have HL := hid_of hl
  clear hl
  go_wp2_with fail
  refine HL.out.mono ?_
  rintro e w29 ⟨rfl, hB⟩
  have HK29 := hid_of (HK28.out.step (below_step (bA1 w28 _) (bA1 w28 _).size hB))
  clear HL HK28 hB
  go_wp2_with fail
  go_ret
  exact ⟨rfl, HK29.out.bel⟩
end Go.Proofs.YtmmgdeoballhpaaDoor
