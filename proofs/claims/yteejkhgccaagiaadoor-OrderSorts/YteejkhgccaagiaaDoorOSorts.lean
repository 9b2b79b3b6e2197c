/- The statement OrderSorts, walked. -/
import Derived.Test.YteejkhgccaagiaaDoorJ18
import Derived.Test.YteejkhgccaagiaaDoorJ08
import Derived.Deep.AppendSrc
namespace Go.Proofs.YteejkhgccaagiaaDoor
open Go.RowKit Go.Shelf Sx

theorem run_append_nil0 {P : Program} (w : World) (t ty e : TypeId) (i : TypeInfo) (ht : P.underlying t = some (.slice e)) (hi : P.info? e = some i) (x : Option Addr) (cap : Nat) :
    (Builtin.append_ #[t, t] ty #[.slice none 0 0, .slice x 0 cap]).run P w = .ok (.slice none 0 0) w := by
  have hc : (Builtin.firstCells i.size 0 (.slice x 0 cap)).run P w = .ok #[] w := by
    cases x with
    | none => exact run_firstCells_none w i.size 0 0 cap
    | some a => exact run_firstCells_some w i.size 0 a 0 cap [] (by simp) (fun j u h => by simp at h)
  simp [Builtin.append_, run_underlying ht, sizeOf, typeInfo, hi, Builtin.lenOf, hc]
theorem grown_refl (w : World) (r : Option Nat) : w.grownBy w r := ⟨rfl, rfl, rfl, Nat.le_refl _, fun _ _ _ => rfl⟩
theorem wpList_append_ints {w : World} {ops : Array Oper} {rest : List Oper} {o : Oper} {a : Act} {Q : Exit → Act → World → Prop} (hgd : o.guard = none) (s x : Operand)
    (ho : o.op = .call { callee := .builtin .append, args := #[s, x], argTypes := #[29, 29] }) (hs : a.eval s = .slice none 0 0) (v : Value) (hx : a.eval x = v) (l : List Int) (hP : IntsR w v l) (hl : l.length * 8 ≤ 140737488355328)
    (h : ∀ v' w', w'.ownsRow w.heap.size 3 1 v' l.length (encJ l) → w.grownBy w' none → wpList Tryd.prog ops Q rest (a.put o.dst v') w') : wpList Tryd.prog ops Q (o :: rest) a w := by
  obtain ⟨i0, hi, hz0, hz1, hz2⟩ := info_parts Tryd.infoint
  rcases hP with ⟨x0, cap, rfl, rfl⟩ | ⟨s0, o0, cap, rfl, _, h2⟩
  · refine wpList_plain hgd fun K hK => ?_
    have hrun := run_append_nil0 (P := Tryd.prog) w 29 o.type 3 i0 Tryd.underlying29 hi x0 cap
    unfold Oper.wp
    simp [execOp, ho, resolve, invoke, builtin, hs, hx, hrun, Result.andThen]
    exact hK _ _ (h _ _ (World.ownsRow_nil _ _ _ _) (grown_refl w none))
  · refine wpList_append_own w hgd s x 29 ho w.heap.size 3 i0 (.int .i64 0) 1 8 Tryd.underlying29 hi hz0 hz1 hz2 rfl (by decide) (.slice none 0 0) 0 [] hs (World.ownsRow_nil _ _ _ _) ⟨s0, o0, none⟩ l.length cap (encJ l) hx (by simp [encJ]) ?_ ?_ (by unfold maxLen; omega) (by omega) (Nat.le_refl _) ?_
    · intro j u hj
      rw [Addr.add_lit]
      simp only [encJ, List.getElem?_map, Option.map_eq_some_iff] at hj
      obtain ⟨y, hy, rfl⟩ := hj
      exact h2 j y hy
    · intro u hu
      obtain ⟨y, _, rfl⟩ := List.mem_map.1 hu
      rfl
    · intro v' w' hown hg _
      rw [Nat.zero_add, List.nil_append] at hown
      exact h v' w' hown hg
theorem below_of_grown {w w' : World} (h : w.grownBy w' none) : Below w.heap.size w w' := ⟨h.os, h.tape, h.output, h.size, fun k hk => h.block k hk (by simp)⟩
theorem encN_J (l : List Nat) : encN l = encJ (l.map (fun x => ((x : Nat) : Int))) := by simp [encN, encJ]
/-- A row of one's own, when other blocks are written. -/
theorem owns_other {w w' : World} {base : Nat} {v : Value} {l : List Int} {va : Value} (h : w.ownsRow base 3 1 v l.length (encJ l)) (hne : ∀ g, v.ownBlock = some g → some g ≠ va.ownBlock) (hs : ∀ k, k < w.heap.size → some k ≠ va.ownBlock → w'.heap[k]? = w.heap[k]?) : IntsR w' v l := by
  apply owns_intsR (base := base)
  refine ⟨h.1, ?_⟩
  rcases h.2 with h2 | ⟨g, cap, cur, rfl, h4, h5, h6⟩
  · exact .inl h2
  · exact .inr ⟨g, cap, cur, rfl, h4, (hs g (Blk.lt (t := 3) (cs := cur) h5) (hne g rfl)).trans h5, h6⟩
/-- What the three Sorts leave. -/
structure Three (w5 w6 w7 : World) (L : List Nat) (vw va vb : Value) (cw ca cb : Int) (l : List Int) : Prop where
  ca : ca = cw
  cb : cb = cw
  w : w7.ownsRow 0 3 1 vw l.length (encJ l) ∧ ∀ g, vw.ownBlock = some g → g < w5.heap.size
  a : w7.ownsRow w5.heap.size 3 1 va l.length (encJ l) ∧ ∀ g, va.ownBlock = some g → g < w6.heap.size
  b : w7.ownsRow w6.heap.size 3 1 vb l.length (encJ l)
  len : l.length ≤ 256
theorem three {w4 w5 w6 w7 : World} {L : List Nat} {vw va vb : Value} {cw ca cb : Int} (hL : L.length ≤ 256) (h5 : SortAns w4 w5 L vw cw) (h6 : SortAns w5 w6 L va ca) (h7 : SortAns w6 w7 L vb cb) (hB6 : Below w5.heap.size w5 w6) (hB7 : Below w6.heap.size w6 w7) : ∃ l, Three w5 w6 w7 L vw va vb cw ca cb l := by
  by_cases hf : (sortOf L).length = L.length
  · obtain ⟨rfl, o5⟩ := h5.1 hf
    obtain ⟨rfl, o6⟩ := h6.1 hf
    obtain ⟨rfl, o7⟩ := h7.1 hf
    have hl : ((sortOf L).map (fun x => ((x : Nat) : Int))).length = L.length := by simp [hf]
    rw [encN_J, ← hl] at o5 o6 o7
    exact ⟨_, rfl, rfl, ⟨owns_lo (owns_below' (owns_below' o5 hB6) hB7) (Nat.zero_le _), fun g hg => (o5.lt g hg).2⟩, ⟨owns_below' o6 hB7, fun g hg => (o6.lt g hg).2⟩, o7, by omega⟩
  · obtain ⟨rfl, rfl⟩ := h5.2 hf
    obtain ⟨rfl, rfl⟩ := h6.2 hf
    obtain ⟨rfl, rfl⟩ := h7.2 hf
    exact ⟨[], rfl, rfl, ⟨World.ownsRow_nil _ _ _ _, fun g hg => by cases hg⟩, ⟨World.ownsRow_nil _ _ _ _, fun g hg => by cases hg⟩, World.ownsRow_nil _ _ _ _, by simp⟩
set_option maxRecDepth 100000 in
set_option maxHeartbeats 4000000 in
theorem OrderSorts_calls (n : Int) (v1 v2 : Value) (l1 : List (Int × Int)) (l2 : List Int) (w : World) (hT : Tab w) (a1 : PArg w v1 l1) (a2 : IntsR w v2 l2) (hl2 : l2.length * 8 ≤ 140737488355328) :
    Calls Tryd.prog 4 #[.int .i64 n, v1, v2] w fun e w' => e = .returned (.bool true) ∧ Below w.heap.size w w' := by
  go_enter Tryd.func4, Tryd.ntmps4
  go_wp2_with fail
  refine (OfT n v1 l1 _ a1).mono ?_
  rintro e w1 ⟨b, c, rfl, hM1⟩
  have hB1 := hM1.below
  have hR1 := hM1.rel
  clear hM1
  go_wp2_with fail
  refine (refOf_calls n v1 l1 _ (a1.below hB1)).mono ?_
  rintro e w2 ⟨M, rb, rfl, hF2, hB2⟩
  obtain ⟨x2, y2, z2, rfl⟩ := hF2.slice
  have hn : clampN n ≤ 256 := by unfold clampN; omega
  have HTw := hid_of (twO_of n l1)
  have HLo := hid_of hR1.low
  have hLn := (twO_of n l1).len
  generalize hF : ofFn (clampN n) l1 = F at *
  clear hF
  generalize hLL : ofL n l1 = L at *
  have HLL := hid_of hLL
  clear hLL
  rw [← hLn] at hn HTw hF2 ⊢
  clear hLn
  have hX2 : Below w.heap.size w w2 := below_step hB1 hB1.size hB2
  have hR2 := hR1.below hB2
  have hbx := Blk.new w2 46 #[.int .i64 ((L.length : Nat) : Int), .slice x2 y2 z2]
  have hbA := (Below.refl w2.heap.size w2).alloc (Nat.le_refl _) (.cells #[.int .i64 ((L.length : Nat) : Int), .slice x2 y2 z2] 46)
  have hX3 : Below w.heap.size w (w2.alloc (.cells #[.int .i64 ((L.length : Nat) : Int), .slice x2 y2 z2] 46)) := below_step hX2 hX2.size hbA
  have hR3 := hR2.below hbA
  have hF3 := hF2.below hbA
  have HX3 := hid_of hX3
  have Hbx := hid_of hbx
  clear hX3 hbx hbA hR1 hR2 hF2 hX2 hB1 hB2
  go_wp2_with (at_builtin; refine wpList_append_ints rfl _ _ rfl rfl v2 rfl l2 (a2.below HX3.out) hl2 ?_; intro v4 w4 hown4 hg4)
  have hB4 := below_of_grown hg4
  have hX4 : Below w.heap.size w w4 := below_step HX3.out HX3.out.size hB4
  have hR4 := hR3.below hB4
  have hF4 := hF3.below hB4
  have hbx4 := Hbx.out.of_below hB4
  have hI4 := owns_intsR hown4
  generalize w2.heap.size = g8 at *
  clear HX3 Hbx hB4 hg4 hown4 hR3 hF3
  have hq := linR_eq HTw.out hn HLo.out l2
  obtain ⟨q, HQ⟩ : ∃ q, Hid (linB L l2 = q) := ⟨_, rfl⟩
  have HQ2 : Hid (linR L.length F l2 = q) := hq.trans HQ.out
  clear hq
  have c0 := hbx4.cell (j := 0) rfl
  have c1 := hbx4.cell (j := 1) rfl
  have hl63 : l2.length ≤ 9223372036854775807 := by omega
  go_region_held3 (fun w' => w'.cell? ⟨g8, 0, none⟩ = some (.int .i64 ((L.length : Nat) : Int)) ∧ w'.cell? ⟨g8, 1, none⟩ = some (.slice x2 y2 z2)) (first | assumption | exact ⟨hbx4.cell rfl, hbx4.cell rfl⟩)
    (first
      | (go_at_call 21; refine (oLinear_calls b c L v4 l2 _ hR4.drew (hT.step hX4).drew (hI4.below (Below.refl _ _).drew)).mono ?_; rw [HQ.out]; rintro e w5 ⟨rfl, hB5⟩; have hX5 := below_of_drew' hB5; have K5 : w5.cell? ⟨g8, 0, none⟩ = some (.int .i64 ((L.length : Nat) : Int)) ∧ w5.cell? ⟨g8, 1, none⟩ = some (.slice x2 y2 z2) := ⟨(hbx4.of_below hX5).cell rfl, (hbx4.of_below hX5).cell rfl⟩)
      | (go_at_call 23; refine (r2lin_calls _ L.length hn x2 y2 z2 rb F v2 l2 _ (hF4.below hX5) (a2.below (below_step hX4 hX4.size hX5))).mono ?_; rw [HQ2.out]; rintro e w6 ⟨rfl, hB6⟩; have hX6 := below_step hX5 hX5.size hB6; have K6 : w6.cell? ⟨g8, 0, none⟩ = some (.int .i64 ((L.length : Nat) : Int)) ∧ w6.cell? ⟨g8, 1, none⟩ = some (.slice x2 y2 z2) := ⟨(hbx4.of_below hX6).cell rfl, (hbx4.of_below hX6).cell rfl⟩; have hqq : (q != q) = false := by simp)
      | (go_at_call 20; refine (ints2_calls v4 v2 l2 l2 _ (hI4.below hX6) (a2.below (below_step hX4 hX4.size hX6)) hl63).mono ?_; rw [show (l2 == l2) = true from by simp]; rintro e w7 ⟨rfl, hB7⟩; have hX7 := below_step hX6 hX6.size hB7; have K7 : w7.cell? ⟨g8, 0, none⟩ = some (.int .i64 ((L.length : Nat) : Int)) ∧ w7.cell? ⟨g8, 1, none⟩ = some (.slice x2 y2 z2) := ⟨(hbx4.of_below hX7).cell rfl, (hbx4.of_below hX7).cell rfl⟩))
  have hX8 : Below w.heap.size w w7 := below_step hX4 hX4.size hX7
  have hR7 := hR4.below hX7
  have hF7 := hF4.below hX7
  obtain ⟨d0, d1⟩ := K7
  rename_i hHeld
  clear hHeld hqq K5 K6 hB5 hB6 hB7 hX5 hX6 hX7 c0 c1 hbx4 hR4 hF4 hI4 HQ HQ2
  go_wp2_with fail
  refine (r2sort_calls _ L.length hn x2 y2 z2 rb F L _ hF7 rfl HTw.out HLo.out).mono ?_
  rintro e w8 ⟨vw, cw, rfl, hS8, hB8⟩
  have hY8 : Below w.heap.size w w8 := below_step hX8 hX8.size hB8
  have hR8 := hR7.below hB8
  clear d0 d1 hF7 hR7 HTw HLo
  go_wp2_with fail
  refine (oSort_calls b c L _ hR8 (hT.step hY8)).mono ?_
  rintro e w9 ⟨va, ca, rfl, hS9, hB9⟩
  have hY9 : Below w.heap.size w w9 := below_step hY8 hY8.size hB9
  have hR9 := hR8.below hB9
  go_wp2_with fail
  refine (oSort_calls b c L _ hR9 (hT.step hY9)).mono ?_
  rintro e w10 ⟨vb, cb, rfl, hS10, hB10⟩
  have hY10 : Below w.heap.size w w10 := below_step hY9 hY9.size hB10
  obtain ⟨l, rfl, rfl, ⟨ow, bw⟩, ⟨oa, ba⟩, ob, hll⟩ := three hn hS8 hS9 hS10 hB9 hB10
  have htw := twice_calls va vb vw l l l w8.heap.size w10 oa (Nat.le_trans hB9.size hB10.size) (fun w' hs _ => ⟨owns_other ob (fun g hg e => by have h1 := (ob.lt g hg).1; have h2 := ba g e.symm; omega) hs, owns_other ow (fun g hg e => by have h1 := (oa.lt g e.symm).1; have h2 := bw g hg; omega) hs⟩) (by omega) (by omega)
  rw [show (l == l && l == l) = true from by simp] at htw
  have Htw := hid_of htw
  have hR10 : ∀ W, Below w8.heap.size w10 W → IsRel W b c L := fun W hW => hR8.below ((hB9.trans (hB10.mono hB9.size)).trans hW)
  have HR10 := hid_of hR10
  have hz : w.heap.size ≤ w8.heap.size := hY8.size
  clear htw hR10 hS8 hS9 hS10 ow bw oa ba ob hB8 hB9 hB10 hR8 hR9 hY8 hY9 hX8
  go_wp2_with fail
  refine Htw.out.mono ?_
  rintro e w11 ⟨rfl, hB11⟩
  have hR11 := HR10.out w11 hB11
  have hY11 : Below w.heap.size w w11 := hY10.trans (hB11.mono hz)
  clear Htw HR10 hB11 hY10
  go_wp2_with fail
  refine (OfT n v1 l1 _ (a1.below hY11)).mono ?_
  rw [HLL.out]
  rintro e w12 ⟨b2, c2, rfl, hM12⟩
  have hR12 := hR11.below hM12.below
  have hY12 : Below w.heap.size w w12 := below_step hY11 hY11.size hM12.below
  have heq := Equal_calls b c b2 c2 L L w12 hR12 hM12.rel
  rw [show (L == L) = true from by simp] at heq
  clear hM12 hR11 hY11 hR12
  go_wp2_with fail
  refine heq.mono ?_
  rintro e w13 ⟨rfl, hB13⟩
  have hY13 : Below w.heap.size w w13 := below_step hY12 hY12.size hB13
  clear heq
  go_wp2_with fail
  refine (lives2_calls _ (hT.step hY13)).mono ?_
  rintro e w14 ⟨rfl, hB14⟩
  go_wp2_with fail
  go_ret
  exact ⟨rfl, below_step hY13 hY13.size hB14⟩
end Go.Proofs.YteejkhgccaagiaaDoor
