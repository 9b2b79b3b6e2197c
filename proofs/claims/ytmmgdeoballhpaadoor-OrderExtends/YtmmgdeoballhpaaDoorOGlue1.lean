/- What OrderGlues wants besides: the copy of its pairs, sextantlaw2.same at two copies of one list, what three Glues leave. -/
import Derived.Test.YtmmgdeoballhpaaDoorJ19
import Derived.Test.YtmmgdeoballhpaaDoorJ20
import Derived.Test.YtmmgdeoballhpaaDoorJ08
import Derived.Deep.AppendSrc
namespace Go.Proofs.YtmmgdeoballhpaaDoor
open Go.RowKit Go.Shelf Sx

def encPI (l : List (Int × Int)) : List Value := l.flatMap (fun x => [.int .i64 x.1, .int .i64 x.2])
theorem encPI_length (l : List (Int × Int)) : (encPI l).length = l.length * 2 := by
  induction l with
  | nil => rfl
  | cons x l ih => simp only [encPI, List.flatMap_cons, List.length_append, List.length_cons, List.length_nil] at ih ⊢; omega
theorem encPI_at : ∀ (l : List (Int × Int)) (i : Nat) (x : Int × Int), l[i]? = some x → (encPI l)[i * 2]? = some (.int .i64 x.1) ∧ (encPI l)[i * 2 + 1]? = some (.int .i64 x.2)
  | [], i, x, h => by simp at h
  | y :: l, 0, x, h => by
    simp only [List.getElem?_cons_zero, Option.some.injEq] at h
    subst h
    exact ⟨rfl, rfl⟩
  | y :: l, i + 1, x, h => by
    rw [List.getElem?_cons_succ] at h
    have := encPI_at l i x h
    rw [show (i + 1) * 2 = i * 2 + 1 + 1 by omega]
    exact this
theorem encPI_get : ∀ (l : List (Int × Int)) (j : Nat) (u : Value), (encPI l)[j]? = some u → ∃ i x, l[i]? = some x ∧ ((j = i * 2 ∧ u = .int .i64 x.1) ∨ (j = i * 2 + 1 ∧ u = .int .i64 x.2))
  | [], j, u, h => by simp [encPI] at h
  | y :: l, 0, u, h => by
    have h : some (Value.int .i64 y.1) = some u := h
    injection h with h
    exact ⟨0, y, rfl, .inl ⟨rfl, h.symm⟩⟩
  | y :: l, 1, u, h => by
    have h : some (Value.int .i64 y.2) = some u := h
    injection h with h
    exact ⟨0, y, rfl, .inr ⟨rfl, h.symm⟩⟩
  | y :: l, j + 2, u, h => by
    have h : (encPI l)[j]? = some u := h
    obtain ⟨i, x, h1, h2⟩ := encPI_get l j u h
    exact ⟨i + 1, x, h1, h2.imp (fun h => ⟨by omega, h.2⟩) (fun h => ⟨by omega, h.2⟩)⟩
theorem encPI_one (l : List (Int × Int)) : ∀ u ∈ encPI l, u.oneCell' = true := by
  intro u hu
  obtain ⟨j, hj⟩ := List.getElem?_of_mem hu
  obtain ⟨i, x, _, ⟨_, rfl⟩ | ⟨_, rfl⟩⟩ := encPI_get l j u hj <;> rfl
theorem run_append_nil0 {P : Program} (w : World) (t ty e : TypeId) (i : TypeInfo) (ht : P.underlying t = some (.slice e)) (hi : P.info? e = some i) (x : Option Addr) (cap : Nat) :
    (Builtin.append_ #[t, t] ty #[.slice none 0 0, .slice x 0 cap]).run P w = .ok (.slice none 0 0) w := by
  have hc : (Builtin.firstCells i.size 0 (.slice x 0 cap)).run P w = .ok #[] w := by
    cases x with
    | none => exact run_firstCells_none w i.size 0 0 cap
    | some a => exact run_firstCells_some w i.size 0 a 0 cap [] (by simp) (fun j u h => by simp at h)
  simp [Builtin.append_, run_underlying ht, sizeOf, typeInfo, hi, Builtin.lenOf, hc]
theorem grown_refl (w : World) (r : Option Nat) : w.grownBy w r := ⟨rfl, rfl, rfl, Nat.le_refl _, fun _ _ _ => rfl⟩
theorem wpList_append_pairs {w : World} {ops : Array Oper} {rest : List Oper} {o : Oper} {a : Act} {Q : Exit → Act → World → Prop} (hgd : o.guard = none) (s x : Operand)
    (ho : o.op = .call { callee := .builtin .append, args := #[s, x], argTypes := #[38, 38] }) (hs : a.eval s = .slice none 0 0) (v : Value) (hx : a.eval x = v) (l : List (Int × Int)) (hP : PArg w v l) (hl : l.length * 16 ≤ 140737488355328)
    (h : ∀ v' w', w'.ownsRow w.heap.size 37 2 v' l.length (encPI l) → w.grownBy w' none → wpList Tryd.prog ops Q rest (a.put o.dst v') w') : wpList Tryd.prog ops Q (o :: rest) a w := by
  obtain ⟨i0, hi, hz0, hz1, hz2⟩ := info_parts Tryd.infopair
  rcases hP with ⟨x0, cap, rfl, rfl⟩ | ⟨s0, o0, cap, rfl, h2, _⟩
  · refine wpList_plain hgd fun K hK => ?_
    have hrun := run_append_nil0 (P := Tryd.prog) w 38 o.type 37 i0 Tryd.underlying38 hi x0 cap
    unfold Oper.wp
    simp [execOp, ho, resolve, invoke, builtin, hs, hx, hrun, Result.andThen]
    exact hK _ _ (h _ _ (World.ownsRow_nil _ _ _ _) (grown_refl w none))
  · refine wpList_append_own w hgd s x 38 ho w.heap.size 37 i0 (.agg #[.int .i64 0, .int .i64 0]) 2 16 Tryd.underlying38 hi hz0 hz1 hz2 rfl (by decide) (.slice none 0 0) 0 [] hs (World.ownsRow_nil _ _ _ _) ⟨s0, o0, none⟩ l.length cap (encPI l) hx (encPI_length l) ?_ (encPI_one l) (by unfold maxLen; omega) (by omega) (Nat.le_refl _) ?_
    · intro j u hj
      obtain ⟨i, y, hy, ⟨rfl, rfl⟩ | ⟨rfl, rfl⟩⟩ := encPI_get l j u hj
      · rw [Addr.add_lit]; exact h2.fst i y hy
      · rw [Addr.add_lit]; exact h2.snd i y hy
    · intro v' w' hown hg _
      rw [Nat.zero_add, List.nil_append] at hown
      exact h v' w' hown hg
theorem owns_parg {w : World} {base : Nat} {v : Value} {l : List (Int × Int)} (h : w.ownsRow base 37 2 v l.length (encPI l)) (hl : l.length * 16 ≤ 140737488355328) : PArg w v l := by
  rcases h.2 with ⟨e, e2⟩ | ⟨g, cap, cur, e, _, hb, _, _, _, ht⟩
  · exact .inl ⟨none, 0, e.trans (by rw [e2] at *), List.eq_nil_of_length_eq_zero e2⟩
  · have hb : Blk w g 37 cur := hb
    have key : ∀ j u, (encPI l)[j]? = some u → w.cell? ⟨g, j, none⟩ = some u := by
      intro j u hj
      apply hb.cell
      rw [← ht, List.getElem?_take] at hj
      split at hj
      · rw [← Array.getElem?_toList]; exact hj
      · cases hj
    refine .inr ⟨g, 0, cap, e, ⟨hb.lt, fun i x hx => ?_, fun i x hx => ?_⟩, by omega⟩
    · rw [Nat.zero_add]; exact key _ _ (encPI_at l i x hx).1
    · rw [Nat.zero_add]; exact key _ _ (encPI_at l i x hx).2
theorem below_of_grown {w w' : World} (h : w.grownBy w' none) : Below w.heap.size w w' := ⟨h.os, h.tape, h.output, h.size, fun k hk => h.block k hk (by simp)⟩
theorem encN_J (l : List Nat) : encN l = encJ (l.map (fun x => ((x : Nat) : Int))) := by simp [encN, encJ]
/-- A row of one's own, when other blocks are written. -/
theorem owns_other {w w' : World} {base : Nat} {v : Value} {l : List Int} {va : Value} (h : w.ownsRow base 3 1 v l.length (encJ l)) (hne : ∀ g, v.ownBlock = some g → some g ≠ va.ownBlock) (hs : ∀ k, k < w.heap.size → some k ≠ va.ownBlock → w'.heap[k]? = w.heap[k]?) : IntsR w' v l := by
  apply owns_intsR (base := base)
  refine ⟨h.1, ?_⟩
  rcases h.2 with h2 | ⟨g, cap, cur, rfl, h4, h5, h6⟩
  · exact .inl h2
  · exact .inr ⟨g, cap, cur, rfl, h4, (hs g (Blk.lt (t := 3) (cs := cur) h5) (hne g rfl)).trans h5, h6⟩
theorem PArg.form {w : World} {v : Value} {l : List (Int × Int)} (h : PArg w v l) : ∃ p cap, v = .slice p l.length cap ∧ (0 < l.length → ∃ s o, p = some ⟨s, o, none⟩ ∧ PairsAt w s o l) := by
  rcases h with ⟨x, cap, rfl, rfl⟩ | ⟨s, o, cap, rfl, h, _⟩
  · exact ⟨_, _, rfl, fun h => by simp at h⟩
  · exact ⟨_, _, rfl, fun _ => ⟨s, o, rfl, h⟩⟩
set_option maxHeartbeats 2000000 in
theorem same2_calls (v1 v2 : Value) (l : List (Int × Int)) (w : World) (h1 : PArg w v1 l) (h2 : PArg w v2 l) (hm : l.length ≤ 9223372036854775807) :
    Calls Tryd.prog 32 #[v1, v2] w fun e w' => e = .returned (.bool true) ∧ Below w.heap.size w w' := by
  obtain ⟨p1, c1, rfl, hp1⟩ := h1.form
  obtain ⟨p2, c2, rfl, hp2⟩ := h2.form
  have HP1 := hid_of hp1
  have HP2 := hid_of hp2
  clear hp1 hp2 h1 h2
  have hn : ((l.length : Int) != (l.length : Int)) = false := by simp
  go_enter Tryd.func32, Tryd.ntmps32
  go_wp2_with fail
  go_loopw [5] (fun i wr => ∃ k : Nat, k ≤ l.length ∧ i = .int .i64 k ∧ Below w.heap.size w wr) (fun i _ => l.length - (intOf i).toNat)
  case atStart => exact ⟨0, by omega, rfl, Below.refl _ _⟩
  case round =>
    obtain ⟨k, hk, rfl, hB⟩ := hrel
    by_cases hlt : k < l.length
    · obtain ⟨s1, o1, rfl, k1⟩ := HP1.out (by omega)
      obtain ⟨s2, o2, rfl, k2⟩ := HP2.out (by omega)
      obtain ⟨⟨xa, xb⟩, hx⟩ : ∃ x, l[k]? = some x := ⟨_, List.getElem?_eq_getElem hlt⟩
      have x0 := (hB.cell (p := ⟨s1, o1 + k * 2, none⟩) k1.lt).trans (k1.fst k _ hx)
      have x1 := (hB.cell (p := ⟨s1, o1 + k * 2 + 1, none⟩) k1.lt).trans (k1.snd k _ hx)
      have y0 := (hB.cell (p := ⟨s2, o2 + k * 2, none⟩) k2.lt).trans (k2.fst k _ hx)
      have y1 := (hB.cell (p := ⟨s2, o2 + k * 2 + 1, none⟩) k2.lt).trans (k2.snd k _ hx)
      clear hx k1 k2
      go_wp2_with fail
      go_quiet (fail)
      go_wp2_with fail
      exact ⟨⟨k + 1, by omega, by go_num, below_drewN hB _⟩, by simp [intOf]; omega⟩
    · obtain rfl : k = l.length := by omega
      go_wp2_with fail
      go_ret
      exact ⟨rfl, hB⟩
theorem glueF_len (L : List Nat) (l : List (Int × Int)) : (glueF L l).1.length ≤ L.length := by
  unfold glueF
  split
  · simp
  · split
    · split
      · rename_i h
        rw [linB, Bool.and_eq_true, beq_iff_eq] at h
        have := h.1
        simp only [toI, List.length_map] at this
        exact Nat.le_of_eq this
      · simp
    · simp
/-- What the three Glues leave. -/
structure ThreeG (w5 w6 w7 : World) (vw va vb : Value) (l : List Int) : Prop where
  w : w7.ownsRow 0 3 1 vw l.length (encJ l) ∧ ∀ g, vw.ownBlock = some g → g < w5.heap.size
  a : w7.ownsRow w5.heap.size 3 1 va l.length (encJ l) ∧ ∀ g, va.ownBlock = some g → g < w6.heap.size
  b : w7.ownsRow w6.heap.size 3 1 vb l.length (encJ l)
  len : l.length ≤ 256
def GlueV (w w' : World) (r : List Nat × Int) (v : Value) : Prop := (r.2 = 0 → w'.ownsRow w.heap.size 3 1 v r.1.length (encN r.1)) ∧ (r.2 ≠ 0 → v = .slice none 0 0)
theorem threeG {w4 w5 w6 w7 : World} {r : List Nat × Int} {vw va vb : Value} (hL : r.1.length ≤ 256) (h5 : GlueV w4 w5 r vw) (h6 : GlueV w5 w6 r va) (h7 : GlueV w6 w7 r vb) (hB6 : Below w5.heap.size w5 w6) (hB7 : Below w6.heap.size w6 w7) : ∃ l, ThreeG w5 w6 w7 vw va vb l := by
  by_cases hf : r.2 = 0
  · have o5 := h5.1 hf
    have o6 := h6.1 hf
    have o7 := h7.1 hf
    have hl : (r.1.map (fun x => ((x : Nat) : Int))).length = r.1.length := by simp
    rw [encN_J, ← hl] at o5 o6 o7
    exact ⟨_, ⟨owns_lo (owns_below' (owns_below' o5 hB6) hB7) (Nat.zero_le _), fun g hg => (o5.lt g hg).2⟩, ⟨owns_below' o6 hB7, fun g hg => (o6.lt g hg).2⟩, o7, by omega⟩
  · obtain rfl := h5.2 hf
    obtain rfl := h6.2 hf
    obtain rfl := h7.2 hf
    exact ⟨[], ⟨World.ownsRow_nil _ _ _ _, fun g hg => by cases hg⟩, ⟨World.ownsRow_nil _ _ _ _, fun g hg => by cases hg⟩, World.ownsRow_nil _ _ _ _, by simp⟩
end Go.Proofs.YtmmgdeoballhpaaDoor
