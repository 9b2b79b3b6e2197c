/- The contract of made where it makes a relation of a list of pairs: the list is copied, and the copy is spoilt behind the making. -/
import Derived.Test.YtogifpilfckenaaDoorJ24
import Derived.Test.YtogifpilfckenaaDoorJ21
import Derived.Laws.AppendOwn
import Derived.Deep.AppendSrc
import Derived.Deep.RegionHeld3
namespace Go.Proofs.YtogifpilfckenaaDoor
open Go.RowKit Go.Shelf Sx

def encPI (l : List (Int × Int)) : List Value := l.flatMap (fun x => [.int .i64 x.1, .int .i64 x.2])
theorem encPI_length (l : List (Int × Int)) : (encPI l).length = l.length * 2 := by
  induction l with
  | nil => rfl
  | cons x l ih => simp only [encPI, List.flatMap_cons, List.length_append, List.length_cons, List.length_nil] at ih ⊢; omega
theorem encPI_at : ∀ (l : List (Int × Int)) (i : Nat) (x : Int × Int), l[i]? = some x → (encPI l)[i * 2]? = some (.int .i64 x.1) ∧ (encPI l)[i * 2 + 1]? = some (.int .i64 x.2)
  | [], i, x, h => by simp at h
  | y :: l, 0, x, h => by
    simp only [List.getElem?_cons_zero, Option.some.injEq] at h
    subst h
    exact ⟨rfl, rfl⟩
  | y :: l, i + 1, x, h => by
    rw [List.getElem?_cons_succ] at h
    have := encPI_at l i x h
    rw [show (i + 1) * 2 = i * 2 + 1 + 1 by omega]
    exact this
theorem encPI_get : ∀ (l : List (Int × Int)) (j : Nat) (u : Value), (encPI l)[j]? = some u → ∃ i x, l[i]? = some x ∧ ((j = i * 2 ∧ u = .int .i64 x.1) ∨ (j = i * 2 + 1 ∧ u = .int .i64 x.2))
  | [], j, u, h => by simp [encPI] at h
  | y :: l, 0, u, h => by
    have h : some (Value.int .i64 y.1) = some u := h
    injection h with h
    exact ⟨0, y, rfl, .inl ⟨rfl, h.symm⟩⟩
  | y :: l, 1, u, h => by
    have h : some (Value.int .i64 y.2) = some u := h
    injection h with h
    exact ⟨0, y, rfl, .inr ⟨rfl, h.symm⟩⟩
  | y :: l, j + 2, u, h => by
    have h : (encPI l)[j]? = some u := h
    obtain ⟨i, x, h1, h2⟩ := encPI_get l j u h
    exact ⟨i + 1, x, h1, h2.imp (fun h => ⟨by omega, h.2⟩) (fun h => ⟨by omega, h.2⟩)⟩
theorem encPI_one (l : List (Int × Int)) : ∀ u ∈ encPI l, u.oneCell' = true := by
  intro u hu
  obtain ⟨j, hj⟩ := List.getElem?_of_mem hu
  obtain ⟨i, x, _, ⟨_, rfl⟩ | ⟨_, rfl⟩⟩ := encPI_get l j u hj <;> rfl
theorem run_append_nil0 {P : Program} (w : World) (t ty e : TypeId) (i : TypeInfo) (ht : P.underlying t = some (.slice e)) (hi : P.info? e = some i) (x : Option Addr) (cap : Nat) :
    (Builtin.append_ #[t, t] ty #[.slice none 0 0, .slice x 0 cap]).run P w = .ok (.slice none 0 0) w := by
  have hc : (Builtin.firstCells i.size 0 (.slice x 0 cap)).run P w = .ok #[] w := by
    cases x with
    | none => exact run_firstCells_none w i.size 0 0 cap
    | some a => exact run_firstCells_some w i.size 0 a 0 cap [] (by simp) (fun j u h => by simp at h)
  simp [Builtin.append_, run_underlying ht, sizeOf, typeInfo, hi, Builtin.lenOf, hc]
theorem grown_refl (w : World) (r : Option Nat) : w.grownBy w r := ⟨rfl, rfl, rfl, Nat.le_refl _, fun _ _ _ => rfl⟩
theorem wpList_append_pairs {w : World} {ops : Array Oper} {rest : List Oper} {o : Oper} {a : Act} {Q : Exit → Act → World → Prop} (hgd : o.guard = none) (s x : Operand)
    (ho : o.op = .call { callee := .builtin .append, args := #[s, x], argTypes := #[26, 26] }) (hs : a.eval s = .slice none 0 0) (v : Value) (hx : a.eval x = v) (l : List (Int × Int)) (hP : PArg w v l) (hl : l.length * 16 ≤ 140737488355328)
    (h : ∀ v' w', w'.ownsRow w.heap.size 29 2 v' l.length (encPI l) → w.grownBy w' none → wpList Tryd.prog ops Q rest (a.put o.dst v') w') : wpList Tryd.prog ops Q (o :: rest) a w := by
  obtain ⟨i0, hi, hz0, hz1, hz2⟩ := info_parts Tryd.infopair
  rcases hP with ⟨x0, cap, rfl, rfl⟩ | ⟨s0, o0, cap, rfl, h2, _⟩
  · refine wpList_plain hgd fun K hK => ?_
    have hrun := run_append_nil0 (P := Tryd.prog) w 26 o.type 29 i0 Tryd.underlying26 hi x0 cap
    unfold Oper.wp
    simp [execOp, ho, resolve, invoke, builtin, hs, hx, hrun, Result.andThen]
    exact hK _ _ (h _ _ (World.ownsRow_nil _ _ _ _) (grown_refl w none))
  · refine wpList_append_own w hgd s x 26 ho w.heap.size 29 i0 (.agg #[.int .i64 0, .int .i64 0]) 2 16 Tryd.underlying26 hi hz0 hz1 hz2 rfl (by decide) (.slice none 0 0) 0 [] hs (World.ownsRow_nil _ _ _ _) ⟨s0, o0, none⟩ l.length cap (encPI l) hx (encPI_length l) ?_ (encPI_one l) (by unfold maxLen; omega) (by omega) (Nat.le_refl _) ?_
    · intro j u hj
      obtain ⟨i, y, hy, ⟨rfl, rfl⟩ | ⟨rfl, rfl⟩⟩ := encPI_get l j u hj
      · rw [Addr.add_lit]; exact h2.fst i y hy
      · rw [Addr.add_lit]; exact h2.snd i y hy
    · intro v' w' hown hg _
      rw [Nat.zero_add, List.nil_append] at hown
      exact h v' w' hown hg
theorem owns_parg {w : World} {base : Nat} {v : Value} {l : List (Int × Int)} (h : w.ownsRow base 29 2 v l.length (encPI l)) (hl : l.length * 16 ≤ 140737488355328) : PArg w v l := by
  rcases h.2 with ⟨e, e2⟩ | ⟨g, cap, cur, e, _, hb, _, _, _, ht⟩
  · exact .inl ⟨none, 0, e.trans (by rw [e2] at *), List.eq_nil_of_length_eq_zero e2⟩
  · have hb : Blk w g 29 cur := hb
    have key : ∀ j u, (encPI l)[j]? = some u → w.cell? ⟨g, j, none⟩ = some u := by
      intro j u hj
      apply hb.cell
      rw [← ht, List.getElem?_take] at hj
      split at hj
      · rw [← Array.getElem?_toList]; exact hj
      · cases hj
    refine .inr ⟨g, 0, cap, e, ⟨hb.lt, fun i x hx => ?_, fun i x hx => ?_⟩, by omega⟩
    · rw [Nat.zero_add]; exact key _ _ (encPI_at l i x hx).1
    · rw [Nat.zero_add]; exact key _ _ (encPI_at l i x hx).2
/-- Where the copy lies while it is spoilt. -/
def CopyAt (wr : World) (p : Option Addr) (lo n b c : Nat) : Prop := n = 0 ∨ ∃ g cur, p = some ⟨g, 0, none⟩ ∧ lo ≤ g ∧ g ≠ b ∧ g ≠ c ∧ Blk wr g 29 cur ∧ n * 2 ≤ cur.size
theorem below_of_grown {w w' : World} (h : w.grownBy w' none) : Below w.heap.size w w' := ⟨h.os, h.tape, h.output, h.size, fun k hk => h.block k hk (by simp)⟩
set_option maxRecDepth 100000 in
set_option maxHeartbeats 4000000 in
theorem made_of (s t to a b : Int) (v : Bool) (P R C : Value) (ba ca bb cb n m : Nat) (A B : List Nat) (x : Option Addr) (y z : Nat) (x1 : Option Addr) (y1 z1 : Nat) (rb rb1 : Nat → Nat) (F G : Nat → Nat → Bool) (w : World)
    (_h1 : Two w ba ca n A x y z rb F) (_h2 : Two w bb cb m B x1 y1 z1 rb1 G) (_hT : Tab w) (l : List (Int × Int)) (hP : PArg w P l) (hl : l.length * 16 ≤ 140737488355328) :
    Calls Tryd.prog 30 #[.agg (stepA 1 s t to a b v P R C), pv ba, pv bb, .agg #[.int .i64 ((n : Nat) : Int), .slice x y z], .agg #[.int .i64 ((m : Nat) : Int), .slice x1 y1 z1]] w fun e w' => MadeOK w w' e := by
  unfold stepA
  go_enter Tryd.func30, Tryd.ntmps30
  go_wp2_with (at_builtin; refine wpList_append_pairs rfl _ _ rfl rfl P rfl l (hP.below (boxes5 w _ _ _ _).1) hl ?_; intro v' w2 hown hg; have s4 : w2.cell? ⟨w.heap.size, 4, none⟩ = some (.int .i64 a) := ((boxes5 w _ _ _ _).2.1.of_below (below_of_grown hg)).cell rfl)
  obtain ⟨hW, hst, hc, hd, hz⟩ := boxes5 w #[.int .i64 1, .int .i64 s, .int .i64 t, .int .i64 to, .int .i64 a, .int .i64 b, .bool v, P, R, C] #[.int .i64 ((n : Nat) : Int), .slice x y z] #[.int .i64 ((m : Nat) : Int), .slice x1 y1 z1] #[.int .i64 0, .slice none 0 0]
  generalize ((((w.alloc _).alloc _).alloc _).alloc _) = W at *
  have hBg := below_of_grown hg
  have hP2 := owns_parg hown hl
  obtain ⟨p, cp, rfl, hp⟩ : ∃ p cp, v' = .slice p l.length cp ∧ (l.length = 0 ∨ ∃ g cur, p = some ⟨g, 0, none⟩ ∧ W.heap.size ≤ g ∧ Blk w2 g 29 cur ∧ l.length * 2 ≤ cur.size) := by
    rcases hown.2 with ⟨e, e2⟩ | ⟨g, cap, cur, e, h4, h5, h6, _, h8, _⟩
    · exact ⟨none, 0, by rw [e2]; exact e, .inl e2⟩
    · exact ⟨_, cap, e, .inr ⟨g, cur, rfl, h4, h5, by rw [h8]; omega⟩⟩
  have hl63 : l.length ≤ 9223372036854775807 := by omega
  clear hown hg
  refine (OfT a _ l _ hP2).mono ?_
  rintro e w3 ⟨b', c', rfl, hM3⟩
  have hM : Made W w3 b' c' (ofL a l) := Made.from_ hBg hM3
  have hC : CopyAt w3 p W.heap.size l.length b' c' := by
    rcases hp with h | ⟨g, cur, h1, h2, h3, h4⟩
    · exact .inl h
    · have := h3.lt
      have := hM3.hb
      have := hM3.hc
      exact .inr ⟨g, cur, h1, h2, by omega, by omega, h3.of_below hM3.below, h4⟩
  clear hp hP2 hM3 hBg s4
  go_wp2_with fail
  go_loopw [15] (fun i wr => ∃ k, k ≤ l.length ∧ i = .int .i64 ((k : Nat) : Int) ∧ Made W wr b' c' (ofL a l) ∧ CopyAt wr p W.heap.size l.length b' c') (fun i _ => l.length - (intOf i).toNat)
  case atStart => exact ⟨0, by omega, rfl, hM, hC⟩
  case round =>
    clear hM hC
    obtain ⟨k, hk, rfl, hM, hC⟩ := hrel
    by_cases hlt : k < l.length
    · rcases hC with hC | ⟨g, cur, rfl, q1, q2, q3, q4, q5⟩
      · omega
      obtain ⟨u0, hu0⟩ : ∃ u, cur[k * 2]? = some u := ⟨_, Array.getElem?_eq_getElem (by omega)⟩
      obtain ⟨u1, hu1⟩ : ∃ u, cur[k * 2 + 1]? = some u := ⟨_, Array.getElem?_eq_getElem (by omega)⟩
      have g0 := q4.cell hu0
      have g1 := q4.cell hu1
      have f0 := q4.frozen (k * 2)
      have f1 := q4.frozen (k * 2 + 1)
      clear hu0 hu1
      go_wp2_with fail
      refine ⟨⟨k + 1, by omega, by go_num, ⟨(hM.rel.other (by simpa using q2.symm) (by simpa using q3.symm) _).other (by simpa using q2.symm) (by simpa using q3.symm) _, hM.hb, hM.hc, (hM.below.setCell (by simpa using q1) _).setCell (by simpa using q1) _⟩, .inr ⟨g, _, rfl, q1, q2, q3, (q4.set _ _).set _ _, by simpa using q5⟩⟩, by simp [intOf]; omega⟩
    · have hst3 := hst.of_below hM.below
      have s4 := hst3.cell (j := 4) rfl
      have s7 := hst3.cell (j := 7) rfl
      go_wp2_with fail
      refine (refOf_calls a P l _ ((hP.below hW).below hM.below)).mono ?_
      rintro e w4 ⟨M, rb', rfl, hRM, hB2⟩
      obtain ⟨x2, y2, z2, rfl⟩ := hRM.slice
      have hz2 := (hz.of_below hM.below).of_below hB2
      have e0 := hz2.cell (j := 0) rfl
      have e1 := hz2.cell (j := 1) rfl
      have f0 := hz2.frozen 0
      have f1 := hz2.frozen 1
      go_wp2_with fail
      have hres := (hz2.set 0 (.int .i64 ((clampN a : Nat) : Int))).set 1 (.slice x2 y2 z2)
      simp only [List.setIfInBounds_toArray, List.set_cons_zero, List.set_cons_succ] at hres
      exact bodyPost_ret (ret_ref3 rfl rfl rfl rfl hres) rfl (made_end hW hz hM hB2 hRM (twin_of a l) (by unfold clampN; omega))
end Go.Proofs.YtogifpilfckenaaDoor
/- The contracts of like, made and asked. -/
namespace Go.Proofs.YtogifpilfckenaaDoor
open Go.RowKit Go.Shelf Sx

set_option maxRecDepth 100000 in
set_option maxHeartbeats 4000000 in
theorem like_calls (ba ca n : Nat) (A : List Nat) (x : Option Addr) (y z : Nat) (rb : Nat → Nat) (F : Nat → Nat → Bool) (w : World) (h1 : Two w ba ca n A x y z rb F) (hT : Tab w) :
    Calls Tryd.prog 32 #[pv ba, .agg #[.int .i64 ((n : Nat) : Int), .slice x y z]] w fun e w' => e = .returned (.bool true) ∧ Below w.heap.size w w' := by
  obtain ⟨Q, hQ⟩ : ∃ Q, Hid (pairsL A = Q) := ⟨_, rfl⟩
  have hQ2 : Hid (prsF n F n 0 = Q) := (twin_pairs h1.le h1.twin).symm.trans hQ.out
  have hQl : Q.length ≤ 65536 := by
    rw [← hQ.out]
    have := pairsK_length A A.length
    have e := h1.twin.wf.len
    have := h1.le
    unfold pairsL
    omega
  have HL := hid_of (show (Q.map (fun x => (((x.1 : Nat) : Int), ((x.2 : Nat) : Int)))).length ≤ 100000 by simp; omega)
  have hl : Hid (A.length = n) := h1.twin.wf.len
  go_enter Tryd.func32, Tryd.ntmps32
  go_wp2_with fail
  have hW : Below w.heap.size w (w.alloc (.cells #[.int .i64 ((n : Nat) : Int), .slice x y z] 46)) := (Below.refl _ _).alloc (Nat.le_refl _) _
  have hc := Blk.new w 46 #[.int .i64 ((n : Nat) : Int), .slice x y z]
  generalize (w.alloc _) = W at *
  have c0 := hc.cell (j := 0) rfl
  have c1 := hc.cell (j := 1) rfl
  go_region_held3 (fun w' => w'.cell? ⟨w.heap.size, 0, none⟩ = some (.int .i64 ((n : Nat) : Int)) ∧ w'.cell? ⟨w.heap.size, 1, none⟩ = some (.slice x y z)) (first | assumption | exact ⟨c0, c1⟩) (first | (go_at_call 25; refine (Len_c ba ca A _ (h1.rel.below hW).drew).mono ?_; rw [hl.out]; rintro e w1 ⟨rfl, rfl⟩) | (go_at_call 10; refine (Pairs_calls ba ca A _ (h1.rel.below hW).drew ((hT.step hW).drew)).mono ?_; rw [hQ.out]; rintro e w2 ⟨v2, rfl, ho2, hB2⟩; have hX2 := below_of_drew' hB2; have K2 : w2.cell? ⟨w.heap.size, 0, none⟩ = some (.int .i64 ((n : Nat) : Int)) ∧ w2.cell? ⟨w.heap.size, 1, none⟩ = some (.slice x y z) := ⟨(hc.of_below hX2).cell rfl, (hc.of_below hX2).cell rfl⟩) | (go_at_call 68; refine (refPairs_calls 0 n h1.le x y z rb F _ ((h1.ref.below hW).below hX2)).mono ?_; rw [hQ2.out]; rintro e w3 ⟨v3, rfl, ho3, hB3⟩; have hX3 := below_step hX2 hX2.size hB3; have K3 : w3.cell? ⟨w.heap.size, 0, none⟩ = some (.int .i64 ((n : Nat) : Int)) ∧ w3.cell? ⟨w.heap.size, 1, none⟩ = some (.slice x y z) := ⟨(hc.of_below hX3).cell rfl, (hc.of_below hX3).cell rfl⟩) | (go_at_call 9; refine (pairs_calls _ _ (Q.map (fun x => (((x.1 : Nat) : Int), ((x.2 : Nat) : Int)))) (Q.map (fun x => (((x.1 : Nat) : Int), ((x.2 : Nat) : Int)))) _ (owns_pairs (owns_step ho2 hB3)) (owns_pairs ho3) HL.out HL.out).mono ?_; rw [beq_self_eq_true]; rintro e w4 ⟨rfl, hB4⟩; have hX4 := below_step hX3 hX3.size hB4; have K4 : w4.cell? ⟨w.heap.size, 0, none⟩ = some (.int .i64 ((n : Nat) : Int)) ∧ w4.cell? ⟨w.heap.size, 1, none⟩ = some (.slice x y z) := ⟨(hc.of_below hX4).cell rfl, (hc.of_below hX4).cell rfl⟩))
  all_goals
    go_wp2_with fail
    go_ret
    exact ⟨rfl, below_step hW hW.size hX4⟩

theorem made_yes (op : Int) (ho0 : 0 ≤ op) (ho1 : op ≤ 14) (ho2 : op ≠ 3) (s t to a b : Int) (v : Bool) (P R C : Value) (ba ca bb cb n m : Nat) (A B : List Nat) (x : Option Addr) (y z : Nat) (x1 : Option Addr) (y1 z1 : Nat) (rb rb1 : Nat → Nat) (F G : Nat → Nat → Bool) (w : World)
    (h1 : Two w ba ca n A x y z rb F) (h2 : Two w bb cb m B x1 y1 z1 rb1 G) (hT : Tab w) (lp : List (Int × Int)) (lr lc : List Bool) (hP : PArg w P lp) (hl : lp.length * 16 ≤ 140737488355328) (hR : SetAt w R lr) (hC : SetAt w C lc) :
    Calls Tryd.prog 30 #[.agg (stepA op s t to a b v P R C), pv ba, pv bb, .agg #[.int .i64 ((n : Nat) : Int), .slice x y z], .agg #[.int .i64 ((m : Nat) : Int), .slice x1 y1 z1]] w fun e w' => MadeOK w w' e := by
  by_cases e0 : op = 0
  · subst e0; exact made_new s t to a b v P R C ba ca bb cb n m A B x y z x1 y1 z1 rb rb1 F G w h1 h2 hT
  by_cases e1 : op = 1
  · subst e1; exact made_of s t to a b v P R C ba ca bb cb n m A B x y z x1 y1 z1 rb rb1 F G w h1 h2 hT lp hP hl
  by_cases e2 : op = 2
  · subst e2; exact made_ident s t to a b v P R C ba ca bb cb n m A B x y z x1 y1 z1 rb rb1 F G w h1 h2 hT lr hR
  by_cases e4 : op = 4
  · subst e4; exact made_copy s t to a b v P R C ba ca bb cb n m A B x y z x1 y1 z1 rb rb1 F G w h1 h2 hT
  by_cases e5 : op = 5
  · subst e5; exact made_union s t to a b v P R C ba ca bb cb n m A B x y z x1 y1 z1 rb rb1 F G w h1 h2 hT
  by_cases e6 : op = 6
  · subst e6; exact made_inter s t to a b v P R C ba ca bb cb n m A B x y z x1 y1 z1 rb rb1 F G w h1 h2 hT
  by_cases e7 : op = 7
  · subst e7; exact made_minus s t to a b v P R C ba ca bb cb n m A B x y z x1 y1 z1 rb rb1 F G w h1 h2 hT
  by_cases e8 : op = 8
  · subst e8; exact made_comp s t to a b v P R C ba ca bb cb n m A B x y z x1 y1 z1 rb rb1 F G w h1 h2 hT
  by_cases e9 : op = 9
  · subst e9; exact made_inverse s t to a b v P R C ba ca bb cb n m A B x y z x1 y1 z1 rb rb1 F G w h1 h2 hT
  by_cases e10 : op = 10
  · subst e10; exact made_cut s t to a b v P R C ba ca bb cb n m A B x y z x1 y1 z1 rb rb1 F G w h1 h2 hT lr hR lc hC
  by_cases e11 : op = 11
  · subst e11; exact made_plus s t to a b v P R C ba ca bb cb n m A B x y z x1 y1 z1 rb rb1 F G w h1 h2 hT
  by_cases e12 : op = 12
  · subst e12; exact made_star s t to a b v P R C ba ca bb cb n m A B x y z x1 y1 z1 rb rb1 F G w h1 h2 hT
  by_cases e13 : op = 13
  · subst e13; exact made_opt s t to a b v P R C ba ca bb cb n m A B x y z x1 y1 z1 rb rb1 F G w h1 h2 hT
  by_cases e14 : op = 14
  · subst e14; exact made_many s t to a b v P R C ba ca bb cb n m A B x y z x1 y1 z1 rb rb1 F G w h1 h2 hT
  omega
theorem asked_calls (op s t to a b : Int) (v : Bool) (P R C : Value) (ba ca bb cb n m : Nat) (A B : List Nat) (x : Option Addr) (y z : Nat) (x1 : Option Addr) (y1 z1 : Nat) (rb rb1 : Nat → Nat) (F G : Nat → Nat → Bool) (w : World)
    (h1 : Two w ba ca n A x y z rb F) (h2 : Two w bb cb m B x1 y1 z1 rb1 G) (hT : Tab w) (lr : List Bool) (hR : SetAt w R lr) :
    Calls Tryd.prog 31 #[.agg (stepA op s t to a b v P R C), pv ba, pv bb, .agg #[.int .i64 ((n : Nat) : Int), .slice x y z], .agg #[.int .i64 ((m : Nat) : Int), .slice x1 y1 z1]] w fun e w' => e = .returned (.bool true) ∧ Below w.heap.size w w' := by
  by_cases e15 : op = 15
  · subst e15; exact asked_has s t to a b v P R C ba ca bb cb n m A B x y z x1 y1 z1 rb rb1 F G w h1 h2 hT
  by_cases e16 : op = 16
  · subst e16; exact asked_image s t to a b v P R C ba ca bb cb n m A B x y z x1 y1 z1 rb rb1 F G w h1 h2 hT lr hR
  by_cases e17 : op = 17
  · subst e17; exact asked_cycle s t to a b v P R C ba ca bb cb n m A B x y z x1 y1 z1 rb rb1 F G w h1 h2 hT
  by_cases e18 : op = 18
  · subst e18; exact asked_equal s t to a b v P R C ba ca bb cb n m A B x y z x1 y1 z1 rb rb1 F G w h1 h2 hT
  by_cases e19 : op = 19
  · subst e19; exact asked_look s t to a b v P R C ba ca bb cb n m A B x y z x1 y1 z1 rb rb1 F G w h1 h2 hT
  exact asked_none op (by omega) s t to a b v P R C ba ca bb cb n m A B x y z x1 y1 z1 rb rb1 F G w h1 h2 hT
end Go.Proofs.YtogifpilfckenaaDoor
/- The play: steps of any kind, each answered as the document asks. -/
namespace Go.Proofs.YtogifpilfckenaaDoor
open Go.RowKit Go.Shelf Sx

theorem cellA {w : World} {a : Addr} {v : Value} (h : w.cell? a = some v) {o : Obj} : (w.alloc o).cell? a = some v := (World.cell?_alloc_some w a o (by rw [h]; rfl)).trans h
theorem below_alloc_drew {W w2 : World} {o : Obj} (h : Below (W.drew.alloc o).heap.size (W.drew.alloc o) w2) : Below W.heap.size W w2 := by
  have h1 : Below W.heap.size W (W.drew.alloc o) := (Below.refl W.heap.size W).drew.alloc (Nat.le_refl _) _
  exact below_step h1 h1.size h
theorem below_ad (W : World) (o : Obj) : Below W.heap.size W (W.drew.alloc o) := (Below.refl W.heap.size W).drew.alloc (Nat.le_refl _) _
theorem play_cells {w wr W : World} {M Dn Ds : Nat → Value} (h : PlB w W M Dn Ds) {op s t to a c : Int} {v : Bool} {P R C : Value} (hst : Blk W wr.heap.size 50 #[.int .i64 op, .int .i64 s, .int .i64 t, .int .i64 to, .int .i64 a, .int .i64 c, .bool v, P, R, C])
    {si ti b1 b2 n1 n2 : Nat} (hsi : si < 4) (hti : ti < 4) {D1 D2 : Value} (m1 : M si = pv b1) (m2 : M ti = pv b2) (d1 : Dn si = .int .i64 ((n1 : Nat) : Int)) (e1 : Ds si = D1) (d2 : Dn ti = .int .i64 ((n2 : Nat) : Int)) (e2 : Ds ti = D2) :
    W.cell? ⟨wr.heap.size, 0, none⟩ = some (.int .i64 op) ∧ W.cell? ⟨wr.heap.size, 1, none⟩ = some (.int .i64 s) ∧ W.cell? ⟨wr.heap.size, 2, none⟩ = some (.int .i64 t) ∧ W.cell? ⟨wr.heap.size, 3, none⟩ = some (.int .i64 to) ∧ W.cell? ⟨wr.heap.size, 4, none⟩ = some (.int .i64 a) ∧ W.cell? ⟨wr.heap.size, 5, none⟩ = some (.int .i64 c) ∧ W.cell? ⟨wr.heap.size, 6, none⟩ = some (.bool v) ∧ W.cell? ⟨wr.heap.size, 7, none⟩ = some (P) ∧ W.cell? ⟨wr.heap.size, 8, none⟩ = some (R) ∧ W.cell? ⟨wr.heap.size, 9, none⟩ = some (C) ∧ W.cell? ⟨w.heap.size, si, none⟩ = some (pv b1) ∧ W.cell? ⟨w.heap.size, ti, none⟩ = some (pv b2) ∧ W.cell? ⟨w.heap.size + 1, si * 2, none⟩ = some (.int .i64 ((n1 : Nat) : Int)) ∧ W.cell? ⟨w.heap.size + 1, si * 2 + 1, none⟩ = some (D1) ∧ W.cell? ⟨w.heap.size + 1, ti * 2, none⟩ = some (.int .i64 ((n2 : Nat) : Int)) ∧ W.cell? ⟨w.heap.size + 1, ti * 2 + 1, none⟩ = some (D2) :=
  ⟨hst.cell rfl, hst.cell rfl, hst.cell rfl, hst.cell rfl, hst.cell rfl, hst.cell rfl, hst.cell rfl, hst.cell rfl, hst.cell rfl, hst.cell rfl, (h.mcell hsi).1.trans (by rw [m1]), (h.mcell hti).1.trans (by rw [m2]), (h.dcell hsi).1.trans (by rw [d1]), (h.dcell hsi).2.1.trans (by rw [e1]), (h.dcell hti).1.trans (by rw [d2]), (h.dcell hti).2.1.trans (by rw [e2])⟩
def StepCells (W : World) (b o : Nat) (op s t to a c : Int) (v : Bool) (P R C : Value) : Prop :=
  W.cell? ⟨b, o, none⟩ = some (.int .i64 op) ∧ W.cell? ⟨b, o + 1, none⟩ = some (.int .i64 s) ∧ W.cell? ⟨b, o + 2, none⟩ = some (.int .i64 t) ∧ W.cell? ⟨b, o + 3, none⟩ = some (.int .i64 to) ∧
  W.cell? ⟨b, o + 4, none⟩ = some (.int .i64 a) ∧ W.cell? ⟨b, o + 5, none⟩ = some (.int .i64 c) ∧ W.cell? ⟨b, o + 6, none⟩ = some (.bool v) ∧ W.cell? ⟨b, o + 7, none⟩ = some P ∧ W.cell? ⟨b, o + 8, none⟩ = some R ∧ W.cell? ⟨b, o + 9, none⟩ = some C
def StepOK (W : World) (b o : Nat) : Prop := ∃ op s t to a c v P R C lp lr lc, StepCells W b o op s t to a c v P R C ∧ PArg W P lp ∧ lp.length * 16 ≤ 140737488355328 ∧ SetAt W R lr ∧ SetAt W C lc
/-- The list of steps that was handed in. -/
def StepsAt (W : World) (vs : Value) (N : Nat) : Prop := ∃ p cap, vs = .slice p N cap ∧ ∀ i, i < N → ∃ b o, p = some ⟨b, o, none⟩ ∧ b < W.heap.size ∧ StepOK W b (o + i * 10)
theorem StepCells.below {W W' : World} {b o : Nat} {op s t to a c : Int} {v : Bool} {P R C : Value} (h : StepCells W b o op s t to a c v P R C) (hb : b < W.heap.size) (hB : Below W.heap.size W W') : StepCells W' b o op s t to a c v P R C := by
  obtain ⟨h0, h1, h2, h3, h4, h5, h6, h7, h8, h9⟩ := h
  exact ⟨(hB.cell (p := ⟨b, o, none⟩) hb).trans h0, (hB.cell (p := ⟨b, o + 1, none⟩) hb).trans h1, (hB.cell (p := ⟨b, o + 2, none⟩) hb).trans h2, (hB.cell (p := ⟨b, o + 3, none⟩) hb).trans h3, (hB.cell (p := ⟨b, o + 4, none⟩) hb).trans h4,
    (hB.cell (p := ⟨b, o + 5, none⟩) hb).trans h5, (hB.cell (p := ⟨b, o + 6, none⟩) hb).trans h6, (hB.cell (p := ⟨b, o + 7, none⟩) hb).trans h7, (hB.cell (p := ⟨b, o + 8, none⟩) hb).trans h8, (hB.cell (p := ⟨b, o + 9, none⟩) hb).trans h9⟩
theorem PArg.slice {w : World} {v : Value} {l : List (Int × Int)} (h : PArg w v l) : ∃ x n cap, v = .slice x n cap := by
  rcases h with ⟨x, cap, rfl, _⟩ | ⟨s, o, cap, rfl, _⟩
  · exact ⟨_, _, _, rfl⟩
  · exact ⟨_, _, _, rfl⟩
theorem SetAt.slice {w : World} {v : Value} {l : List Bool} (h : SetAt w v l) : ∃ x n cap, v = .slice x n cap := by
  rcases h with ⟨x, cap, rfl, _⟩ | ⟨s, o, cap, rfl, _⟩
  · exact ⟨_, _, _, rfl⟩
  · exact ⟨_, _, _, rfl⟩
def Playing (w wr : World) (k : Nat) : Prop := ∃ σ M Dn Ds, PlB w wr M Dn Ds ∧ PlS w.heap.size wr k σ ∧ PlL k σ M Dn Ds
theorem playing_start (w : World) : Playing w ((w.alloc (.cells #[.pointer none, .pointer none, .pointer none, .pointer none] 43)).alloc (.cells #[.int .i64 0, .slice none 0 0, .int .i64 0, .slice none 0 0, .int .i64 0, .slice none 0 0, .int .i64 0, .slice none 0 0] 47)) 0 :=
  ⟨fun _ => ⟨0, 0, 0, [], none, 0, 0, fun _ => 0, fun _ _ => false⟩, fun _ => .pointer none, fun _ => .int .i64 0, fun _ => .slice none 0 0, ⟨((Below.refl _ w).alloc (Nat.le_refl _) _).alloc (by simp) _, (Blk.new w _ _).alloc _, Blk.new2 w _ _ _⟩,
    ⟨fun i hi => absurd hi (by omega), fun i hi => absurd hi (by omega), fun i j hi => absurd hi (by omega)⟩, fun i hi => absurd hi (by omega)⟩

set_option maxRecDepth 100000 in
set_option maxHeartbeats 8000000 in
theorem Plays_calls (vs : Value) (N : Nat) (w : World) (hT : Tab w) (hS : StepsAt w vs N) :
    Calls Tryd.prog 4 #[vs] w fun e w' => e = .returned (.bool true) ∧ Below w.heap.size w w' := by
  obtain ⟨p, cap, rfl, hS⟩ := hS
  have hcl : clampN 0 = 0 := by decide
  have hnew := hid_of (New_calls 0)
  have hrnew := hid_of (refNew_calls 0)
  rw [hcl] at hnew hrnew
  go_enter Tryd.func4, Tryd.ntmps4
  go_wp2_with fail
  go_loopw [5] (fun i wr => ∃ k : Nat, k ≤ 4 ∧ i = .int .i64 ((k : Nat) : Int) ∧ Playing w wr k) (fun i _ => 4 - (intOf i).toNat)
  case atStart => exact ⟨0, by omega, rfl, playing_start w⟩
  case round =>
    obtain ⟨k, hk, rfl, σ, M, Dn, Ds, hPB, hPS, hPL⟩ := hrel
    by_cases hlt : k < 4
    · go_wp2_with fail
      refine (hnew.out _).mono ?_
      rintro e w1 ⟨b, c, rfl, h1, h2, h3, hB1⟩
      have hPB1 := hPB.step hB1
      have m0 := (hPB1.mcell hlt).1
      have m1 := (hPB1.mcell hlt).2
      go_wp2_with fail
      have hPB2 := hPB1.setM hlt (pv b)
      refine (hrnew.out _).mono ?_
      rintro e w2 ⟨M2, rb2, rfl, hR2, hB2⟩
      obtain ⟨x2, y2, z2, rfl⟩ := hR2.slice
      have hPB3 := hPB2.step hB2
      obtain ⟨d0, d1, d2, d3⟩ := hPB3.dcell hlt
      clear m0 m1
      have m4 := (hPB3.mcell hlt).1
      rw [setAt_same] at m4
      go_wp2_with fail
      have hPB4 := hPB3.setD hlt (.int .i64 ((0 : Nat) : Int)) (.slice x2 y2 z2)
      have hsl : Slot.ok w2 ⟨b, c, 0, List.replicate 0 0, x2, y2, z2, rb2, fun _ _ => false⟩ := ⟨(h1.other (by simp; have := hPB.mine.lt; omega) (by simp; have := hPB.mine.lt; omega) _).below hB2, hR2.mono (Nat.zero_le _), twin_zero 0, by simp⟩
      have hPS2 : PlS w.heap.size w2 (k + 1) (setAt σ k ⟨b, c, 0, List.replicate 0 0, x2, y2, z2, rb2, fun _ _ => false⟩) :=
        hPS.add (((hPS.step hB1).other hPB1.mine (by decide) (by decide) (by decide) (by decide) k (pv b)).step hB2) _ hsl h2 h3 hPB.below.size k (k + 1) (fun j hj => by omega)
      have hkk : ∀ j, j < k + 1 → j = k ∨ j < k := fun j hj => by omega
      refine ⟨⟨k + 1, by omega, by go_num, _, _, _, _, hPB4, (hPS2.other hPB3.docs (by decide) (by decide) (by decide) (by decide) _ _).other (hPB3.docs.set _ _) (by decide) (by decide) (by decide) (by decide) _ _, hPL.set ⟨b, c, 0, List.replicate 0 0, x2, y2, z2, rb2, fun _ _ => false⟩ k (k + 1) hkk⟩, by simp [intOf]; omega⟩
    · obtain rfl : k = 4 := by omega
      clear hnew hrnew
      go_wp2_with fail
      refine (lives_calls _ (hT.step hPB.below)).mono ?_
      rintro e w1 ⟨rfl, hB1⟩
      have hPlay : Playing w w1 4 := ⟨σ, M, Dn, Ds, hPB.step hB1, hPS.step hB1, hPL⟩
      clear hPB hPS hPL hB1
      go_wp2_with fail
      go_loopw [6] (fun i wr => ∃ k : Nat, k ≤ N ∧ k ≤ 200 ∧ i = .int .i64 ((k : Nat) : Int) ∧ Playing w wr 4) (fun i _ => N - (intOf i).toNat)
      case atStart => exact ⟨0, by omega, by omega, rfl, hPlay⟩
      case round =>
        clear hPlay
        obtain ⟨k, hk, hk2, rfl, σ, M, Dn, Ds, hPB, hPS, hPL⟩ := hrel
        by_cases hlt : k < N ∧ k < 200
        · obtain ⟨hlt1, hlt2⟩ := hlt
          obtain ⟨sb, so, rfl, hsb, op, s, t, to, a, c, v, P, R, C, lp, lr, lc, hcells, hP, hl, hR, hC⟩ := hS k hlt1
          obtain ⟨px, pn, pc, rfl⟩ := hP.slice
          obtain ⟨rx, rn, rc, rfl⟩ := hR.slice
          obtain ⟨cx, cn, cc, rfl⟩ := hC.slice
          obtain ⟨x0, x1, x2, x3, x4, x5, x6, x7, x8, x9⟩ := hcells.below hsb hPB.below
          obtain ⟨si, hsi, es⟩ := and3_nat s
          obtain ⟨ti, hti, et⟩ := and3_nat t
          obtain ⟨ui, hui, eu⟩ := and3_nat to
          have bs0 : (0 : Int) ≤ ((si : Nat) : Int) := by omega
          have bs1 : ((si : Nat) : Int) < 4 := by omega
          have bt0 : (0 : Int) ≤ ((ti : Nat) : Int) := by omega
          have bt1 : ((ti : Nat) : Int) < 4 := by omega
          have bu0 : (0 : Int) ≤ ((ui : Nat) : Int) := by omega
          have bu1 : ((ui : Nat) : Int) < 4 := by omega
          by_cases ho : op = 3
          · subst ho
            go_wp2_with fail
            have hBW : Below wr.heap.size wr (wr.alloc (.cells #[.int .i64 3, .int .i64 s, .int .i64 t, .int .i64 to, .int .i64 a, .int .i64 c, .bool v, .slice px pn pc, .slice rx rn rc, .slice cx cn cc] 50)) := (Below.refl _ _).alloc (Nat.le_refl _) _
            have hst := Blk.new wr 50 #[.int .i64 3, .int .i64 s, .int .i64 t, .int .i64 to, .int .i64 a, .int .i64 c, .bool v, .slice px pn pc, .slice rx rn rc, .slice cx cn cc]
            generalize wr.alloc _ = W at *
            have hPB1 := hPB.step hBW
            have hPS1 := hPS.step hBW
            have hok := hPS1.ok si hsi
            obtain ⟨q, hq⟩ : ∃ q, σ si = q := ⟨_, rfl⟩
            have hL := hPL si hsi
            rw [hq] at hok hL
            obtain ⟨b1, c1, n1, A1, X1, Y1, Z1, rb1, F1⟩ := q
            have hok : Two W b1 c1 n1 A1 X1 Y1 Z1 rb1 F1 := hok
            obtain ⟨em, ed, es2⟩ : M si = pv b1 ∧ Dn si = .int .i64 ((n1 : Nat) : Int) ∧ Ds si = .slice X1 Y1 Z1 := hL
            obtain ⟨d0, d1, _, _⟩ := hPB1.dcell hsi
            rw [ed] at d0
            rw [es2] at d1
            have s4 := hst.cell (j := 4) rfl
            have s5 := hst.cell (j := 5) rfl
            have s6 := hst.cell (j := 6) rfl
            obtain ⟨qc, hqc⟩ : ∃ q, Hid (putcF n1 F1 a c v = q) := ⟨_, rfl⟩
            have hqc2 : Hid (putC A1 a c v = qc) := (twin_putc hok.twin a c v).symm.trans hqc.out
            have hne1 : w.heap.size + 1 ≠ W.heap.size := Nat.ne_of_lt hPB1.docs.lt
            have hne2 : wr.heap.size ≠ W.heap.size := Nat.ne_of_lt hst.lt
            go_region_held3 (fun w' => w'.cell? ⟨w.heap.size + 1, si * 2, none⟩ = some (.int .i64 ((n1 : Nat) : Int)) ∧ w'.cell? ⟨w.heap.size + 1, si * 2 + 1, none⟩ = some (.slice X1 Y1 Z1) ∧ w'.cell? ⟨wr.heap.size, 4, none⟩ = some (.int .i64 a) ∧ w'.cell? ⟨wr.heap.size, 5, none⟩ = some (.int .i64 c) ∧ w'.cell? ⟨wr.heap.size, 6, none⟩ = some (.bool v)) (first | assumption | exact ⟨d0, d1, s4, s5, s6⟩ | exact ⟨cellA d0, cellA d1, cellA s4, cellA s5, cellA s6⟩ | exact ⟨cellA K2.1, cellA K2.2.1, cellA K2.2.2.1, cellA K2.2.2.2.1, cellA K2.2.2.2.2⟩ | (simp only [cell2 hne1, cell2 hne2]; assumption))
              (first | (go_at_call 29; refine (refPut_calls 0 n1 hok.le X1 Y1 Z1 rb1 F1 a c v W.drew hok.ref.drew).mono ?_; rw [hqc.out]; rintro e w2 ⟨M2, rb2, rfl, hR2, hB2⟩; have hX2 := below_of_drew' hB2; obtain ⟨x2, y2, z2, rfl⟩ := hR2.slice; have K2 : w2.cell? ⟨w.heap.size + 1, si * 2, none⟩ = some (.int .i64 ((n1 : Nat) : Int)) ∧ w2.cell? ⟨w.heap.size + 1, si * 2 + 1, none⟩ = some (.slice X1 Y1 Z1) ∧ w2.cell? ⟨wr.heap.size, 4, none⟩ = some (.int .i64 a) ∧ w2.cell? ⟨wr.heap.size, 5, none⟩ = some (.int .i64 c) ∧ w2.cell? ⟨wr.heap.size, 6, none⟩ = some (.bool v) := ⟨(hX2.cell hPB1.docs.lt).trans d0, (hX2.cell hPB1.docs.lt).trans d1, (hst.of_below hX2).cell rfl, (hst.of_below hX2).cell rfl, (hst.of_below hX2).cell rfl⟩) | (go_at_call 29; refine (refPut_calls 0 n1 hok.le X1 Y1 Z1 rb1 F1 a c v _ (hok.ref.drew.alloc _)).mono ?_; rw [hqc.out]; rintro e w2 ⟨M2, rb2, rfl, hR2, hB2⟩; have hX2 := below_alloc_drew hB2; obtain ⟨x2, y2, z2, rfl⟩ := hR2.slice; have hbx : Blk w2 W.heap.size 46 #[.int .i64 0, .slice none 0 0] := (Blk.new W.drew 46 #[.int .i64 0, .slice none 0 0]).of_below hB2; have e0 := hbx.cell (j := 0) rfl; have e1 := hbx.cell (j := 1) rfl; have f0 := hbx.frozen 0; have f1 := hbx.frozen 1; have K2 : w2.cell? ⟨w.heap.size + 1, si * 2, none⟩ = some (.int .i64 ((n1 : Nat) : Int)) ∧ w2.cell? ⟨w.heap.size + 1, si * 2 + 1, none⟩ = some (.slice X1 Y1 Z1) ∧ w2.cell? ⟨wr.heap.size, 4, none⟩ = some (.int .i64 a) ∧ w2.cell? ⟨wr.heap.size, 5, none⟩ = some (.int .i64 c) ∧ w2.cell? ⟨wr.heap.size, 6, none⟩ = some (.bool v) := ⟨(hX2.cell hPB1.docs.lt).trans d0, (hX2.cell hPB1.docs.lt).trans d1, (hst.of_below hX2).cell rfl, (hst.of_below hX2).cell rfl, (hst.of_below hX2).cell rfl⟩))
            · have hX3 : Below W.heap.size W (w2.alloc (.cells #[.int .i64 ((n1 : Nat) : Int), .slice x2 y2 z2] 46)) := hX2.alloc hX2.size _
              have hR3 := hR2.alloc (.cells #[.int .i64 ((n1 : Nat) : Int), .slice x2 y2 z2] 46)
              have hbx3 := Blk.new w2 46 #[.int .i64 ((n1 : Nat) : Int), .slice x2 y2 z2]
              clear K2 d0 d1 s4 s5 s6
              generalize w2.heap.size = g at *
              generalize w2.alloc _ = W3 at *
              have hPB3 := hPB1.step hX3
              have hPS3 := hPS1.step hX3
              have hok3 := hok.below hX3
              have hst3 := hst.of_below hX3
              have g0 := hbx3.cell (j := 0) rfl
              have g1 := hbx3.cell (j := 1) rfl
              obtain ⟨d0, d1, d2, d3⟩ := hPB3.dcell hsi
              go_wp2_with fail
              have hPB4 := hPB3.setD hsi (.int .i64 ((n1 : Nat) : Int)) (.slice x2 y2 z2)
              have hPS4 := (hPS3.other hPB3.docs (by decide) (by decide) (by decide) (by decide) (si * 2) (.int .i64 ((n1 : Nat) : Int))).other (hPB3.docs.set _ _) (by decide) (by decide) (by decide) (by decide) (si * 2 + 1) (.slice x2 y2 z2)
              have hR4 := (hR3.otherB hPB3.docs (by decide) (by decide) (si * 2) (.int .i64 ((n1 : Nat) : Int))).otherB (hPB3.docs.set _ _) (by decide) (by decide) (si * 2 + 1) (.slice x2 y2 z2)
              have hst4 := (hst3.setOther (a := ⟨w.heap.size + 1, si * 2, none⟩) (by have := hPB.docs.lt; simp; omega) (.int .i64 ((n1 : Nat) : Int))).setOther (a := ⟨w.heap.size + 1, si * 2 + 1, none⟩) (by have := hPB.docs.lt; simp; omega) (.slice x2 y2 z2)
              clear d0 d1 d2 d3 g0 g1 hPB3 hPS3 hok3 hst3 hR3 hbx3
              generalize (W3.setCell _ _).setCell _ _ = W4 at *
              have hok4 := hPS4.ok si hsi
              rw [hq] at hok4
              have hok4 : Two W4 b1 c1 n1 A1 X1 Y1 Z1 rb1 F1 := hok4
              have hlo : w.heap.size ≤ c1 := by have := hPS4.lo si hsi; rw [hq] at this; exact this
              have m0 := (hPB4.mcell hsi).1
              rw [em] at m0
              have s4 := hst4.cell (j := 4) rfl
              have s5 := hst4.cell (j := 5) rfl
              have s6 := hst4.cell (j := 6) rfl
              go_region_held3 (fun w' => w'.cell? ⟨w.heap.size, si, none⟩ = some (pv b1) ∧ w'.cell? ⟨wr.heap.size, 4, none⟩ = some (.int .i64 a) ∧ w'.cell? ⟨wr.heap.size, 5, none⟩ = some (.int .i64 c) ∧ w'.cell? ⟨wr.heap.size, 6, none⟩ = some (.bool v)) (first | assumption | exact ⟨m0, s4, s5, s6⟩)
                (first | (go_at_call 11; refine (Put_calls b1 c1 A1 a c v _ hok4.rel.drew).mono ?_; rw [hqc2.out]; rintro e w5 ⟨rfl, hI5, ht5⟩; have ht5 := ht5.undrew; have hPB5 := hPB4.touch hok4.rel.rows hlo ht5; have hst5 : Blk w5 wr.heap.size 50 _ := (ht5.block _ hst4.lt (hst4.ne hok4.rel.rows (by decide))).trans hst4; have m5 := (hPB5.mcell hsi).1; rw [em] at m5; have K5 : w5.cell? ⟨w.heap.size, si, none⟩ = some (pv b1) ∧ w5.cell? ⟨wr.heap.size, 4, none⟩ = some (.int .i64 a) ∧ w5.cell? ⟨wr.heap.size, 5, none⟩ = some (.int .i64 c) ∧ w5.cell? ⟨wr.heap.size, 6, none⟩ = some (.bool v) := ⟨m5, hst5.cell rfl, hst5.cell rfl, hst5.cell rfl⟩))
              go_wp2_with fail
              have hs5 : Slot.ok w5 ⟨b1, c1, n1, putP A1 a c v, x2, y2, z2, rb2, putF n1 F1 a c v⟩ := ⟨hI5, hR4.touch hok4.rel.rows ht5, twin_put hok4.twin a c v, hok4.le⟩
              have hPS5 := hPS4.put hsi _ hs5 (by rw [hq]) (by rw [hq]) (by rw [hq]; exact ht5)
              refine ⟨⟨k + 1, by omega, by omega, by go_num, _, _, _, _, hPB5, hPS5, fun j hj => ?_⟩, by simp [intOf]; omega⟩
              by_cases e : j = si
              · subst e
                rw [setAt_same, setAt_same, setAt_same]
                exact ⟨em, rfl, rfl⟩
              · rw [setAt_ne _ _ e, setAt_ne _ _ e, setAt_ne _ _ e]
                exact hPL j hj
            · have hX3 : Below W.heap.size W ((w2.setCell ⟨W.heap.size, 0, none⟩ (.int .i64 ((n1 : Nat) : Int))).setCell ⟨W.heap.size, 1, none⟩ (.slice x2 y2 z2)) := (hX2.setCell (by simp) _).setCell (by simp) _
              have hR3 := (hR2.setBox hbx 0 (.int .i64 ((n1 : Nat) : Int))).setBox (hbx.set 0 _) 1 (.slice x2 y2 z2)
              have hbx3 := (hbx.set 0 (.int .i64 ((n1 : Nat) : Int))).set 1 (.slice x2 y2 z2)
              simp only [List.setIfInBounds_toArray, List.set_cons_zero, List.set_cons_succ] at hbx3
              clear K2 d0 d1 s4 s5 s6 e0 e1 f0 f1 hbx
              generalize (w2.setCell _ _).setCell _ _ = W3 at *
              have hPB3 := hPB1.step hX3
              have hPS3 := hPS1.step hX3
              have hok3 := hok.below hX3
              have hst3 := hst.of_below hX3
              have g0 := hbx3.cell (j := 0) rfl
              have g1 := hbx3.cell (j := 1) rfl
              obtain ⟨d0, d1, d2, d3⟩ := hPB3.dcell hsi
              go_wp2_with fail
              have hPB4 := hPB3.setD hsi (.int .i64 ((n1 : Nat) : Int)) (.slice x2 y2 z2)
              have hPS4 := (hPS3.other hPB3.docs (by decide) (by decide) (by decide) (by decide) (si * 2) (.int .i64 ((n1 : Nat) : Int))).other (hPB3.docs.set _ _) (by decide) (by decide) (by decide) (by decide) (si * 2 + 1) (.slice x2 y2 z2)
              have hR4 := (hR3.otherB hPB3.docs (by decide) (by decide) (si * 2) (.int .i64 ((n1 : Nat) : Int))).otherB (hPB3.docs.set _ _) (by decide) (by decide) (si * 2 + 1) (.slice x2 y2 z2)
              have hst4 := (hst3.setOther (a := ⟨w.heap.size + 1, si * 2, none⟩) (by have := hPB.docs.lt; simp; omega) (.int .i64 ((n1 : Nat) : Int))).setOther (a := ⟨w.heap.size + 1, si * 2 + 1, none⟩) (by have := hPB.docs.lt; simp; omega) (.slice x2 y2 z2)
              clear d0 d1 d2 d3 g0 g1 hPB3 hPS3 hok3 hst3 hR3 hbx3
              generalize (W3.setCell _ _).setCell _ _ = W4 at *
              have hok4 := hPS4.ok si hsi
              rw [hq] at hok4
              have hok4 : Two W4 b1 c1 n1 A1 X1 Y1 Z1 rb1 F1 := hok4
              have hlo : w.heap.size ≤ c1 := by have := hPS4.lo si hsi; rw [hq] at this; exact this
              have m0 := (hPB4.mcell hsi).1
              rw [em] at m0
              have s4 := hst4.cell (j := 4) rfl
              have s5 := hst4.cell (j := 5) rfl
              have s6 := hst4.cell (j := 6) rfl
              go_region_held3 (fun w' => w'.cell? ⟨w.heap.size, si, none⟩ = some (pv b1) ∧ w'.cell? ⟨wr.heap.size, 4, none⟩ = some (.int .i64 a) ∧ w'.cell? ⟨wr.heap.size, 5, none⟩ = some (.int .i64 c) ∧ w'.cell? ⟨wr.heap.size, 6, none⟩ = some (.bool v)) (first | assumption | exact ⟨m0, s4, s5, s6⟩)
                (first | (go_at_call 11; refine (Put_calls b1 c1 A1 a c v _ hok4.rel.drew).mono ?_; rw [hqc2.out]; rintro e w5 ⟨rfl, hI5, ht5⟩; have ht5 := ht5.undrew; have hPB5 := hPB4.touch hok4.rel.rows hlo ht5; have hst5 : Blk w5 wr.heap.size 50 _ := (ht5.block _ hst4.lt (hst4.ne hok4.rel.rows (by decide))).trans hst4; have m5 := (hPB5.mcell hsi).1; rw [em] at m5; have K5 : w5.cell? ⟨w.heap.size, si, none⟩ = some (pv b1) ∧ w5.cell? ⟨wr.heap.size, 4, none⟩ = some (.int .i64 a) ∧ w5.cell? ⟨wr.heap.size, 5, none⟩ = some (.int .i64 c) ∧ w5.cell? ⟨wr.heap.size, 6, none⟩ = some (.bool v) := ⟨m5, hst5.cell rfl, hst5.cell rfl, hst5.cell rfl⟩))
              go_wp2_with fail
              have hs5 : Slot.ok w5 ⟨b1, c1, n1, putP A1 a c v, x2, y2, z2, rb2, putF n1 F1 a c v⟩ := ⟨hI5, hR4.touch hok4.rel.rows ht5, twin_put hok4.twin a c v, hok4.le⟩
              have hPS5 := hPS4.put hsi _ hs5 (by rw [hq]) (by rw [hq]) (by rw [hq]; exact ht5)
              refine ⟨⟨k + 1, by omega, by omega, by go_num, _, _, _, _, hPB5, hPS5, fun j hj => ?_⟩, by simp [intOf]; omega⟩
              by_cases e : j = si
              · subst e
                rw [setAt_same, setAt_same, setAt_same]
                exact ⟨em, rfl, rfl⟩
              · rw [setAt_ne _ _ e, setAt_ne _ _ e, setAt_ne _ _ e]
                exact hPL j hj
          · have ho3 : (op == (3 : Int)) = false := by rw [beq_eq_false_iff_ne]; exact ho
            go_wp2_with fail
            have hBW : Below wr.heap.size wr (wr.alloc (.cells #[.int .i64 op, .int .i64 s, .int .i64 t, .int .i64 to, .int .i64 a, .int .i64 c, .bool v, .slice px pn pc, .slice rx rn rc, .slice cx cn cc] 50)) := (Below.refl _ _).alloc (Nat.le_refl _) _
            have hst := Blk.new wr 50 #[.int .i64 op, .int .i64 s, .int .i64 t, .int .i64 to, .int .i64 a, .int .i64 c, .bool v, .slice px pn pc, .slice rx rn rc, .slice cx cn cc]
            generalize wr.alloc _ = W at *
            have hPB1 := hPB.step hBW
            have hPS1 := hPS.step hBW
            have hT1 := (hT.step hPB.below).step hBW
            have hP1 := (hP.below hPB.below).below hBW
            have hR1 := (hR.below hPB.below).below hBW
            have hC1 := (hC.below hPB.below).below hBW
            have hok1 := hPS1.ok si hsi
            have hL1 := hPL si hsi
            obtain ⟨q1, hq1⟩ : ∃ q, σ si = q := ⟨_, rfl⟩
            rw [hq1] at hok1 hL1
            obtain ⟨b1, c1, n1, A1, X1, Y1, Z1, rb1, F1⟩ := q1
            have hok1 : Two W b1 c1 n1 A1 X1 Y1 Z1 rb1 F1 := hok1
            obtain ⟨em1, ed1, es1⟩ : M si = pv b1 ∧ Dn si = .int .i64 ((n1 : Nat) : Int) ∧ Ds si = .slice X1 Y1 Z1 := hL1
            have hok2 := hPS1.ok ti hti
            have hL2 := hPL ti hti
            obtain ⟨q2, hq2⟩ : ∃ q, σ ti = q := ⟨_, rfl⟩
            rw [hq2] at hok2 hL2
            obtain ⟨b2, c2, n2, A2, X2, Y2, Z2, rb2, F2⟩ := q2
            have hok2 : Two W b2 c2 n2 A2 X2 Y2 Z2 rb2 F2 := hok2
            obtain ⟨em2, ed2, es2⟩ : M ti = pv b2 ∧ Dn ti = .int .i64 ((n2 : Nat) : Int) ∧ Ds ti = .slice X2 Y2 Z2 := hL2
            clear hq1 hq2
            have K0 : W.cell? ⟨wr.heap.size, 0, none⟩ = some (.int .i64 op) ∧ W.cell? ⟨wr.heap.size, 1, none⟩ = some (.int .i64 s) ∧ W.cell? ⟨wr.heap.size, 2, none⟩ = some (.int .i64 t) ∧ W.cell? ⟨wr.heap.size, 3, none⟩ = some (.int .i64 to) ∧ W.cell? ⟨wr.heap.size, 4, none⟩ = some (.int .i64 a) ∧ W.cell? ⟨wr.heap.size, 5, none⟩ = some (.int .i64 c) ∧ W.cell? ⟨wr.heap.size, 6, none⟩ = some (.bool v) ∧ W.cell? ⟨wr.heap.size, 7, none⟩ = some (.slice px pn pc) ∧ W.cell? ⟨wr.heap.size, 8, none⟩ = some (.slice rx rn rc) ∧ W.cell? ⟨wr.heap.size, 9, none⟩ = some (.slice cx cn cc) ∧ W.cell? ⟨w.heap.size, si, none⟩ = some (pv b1) ∧ W.cell? ⟨w.heap.size, ti, none⟩ = some (pv b2) ∧ W.cell? ⟨w.heap.size + 1, si * 2, none⟩ = some (.int .i64 ((n1 : Nat) : Int)) ∧ W.cell? ⟨w.heap.size + 1, si * 2 + 1, none⟩ = some (.slice X1 Y1 Z1) ∧ W.cell? ⟨w.heap.size + 1, ti * 2, none⟩ = some (.int .i64 ((n2 : Nat) : Int)) ∧ W.cell? ⟨w.heap.size + 1, ti * 2 + 1, none⟩ = some (.slice X2 Y2 Z2) := play_cells hPB1 hst hsi hti em1 em2 ed1 es1 ed2 es2
            have hne0 : w.heap.size ≠ W.heap.size := Nat.ne_of_lt hPB1.mine.lt
            have hne1 : w.heap.size + 1 ≠ W.heap.size := Nat.ne_of_lt hPB1.docs.lt
            have hne2 : wr.heap.size ≠ W.heap.size := Nat.ne_of_lt hst.lt
            by_cases hmk : 0 ≤ op ∧ op ≤ 14
            · obtain ⟨ho0, ho1⟩ := hmk
              have ho2 := ho
              go_region_held3 (fun w' => w'.cell? ⟨wr.heap.size, 0, none⟩ = some (.int .i64 op) ∧ w'.cell? ⟨wr.heap.size, 1, none⟩ = some (.int .i64 s) ∧ w'.cell? ⟨wr.heap.size, 2, none⟩ = some (.int .i64 t) ∧ w'.cell? ⟨wr.heap.size, 3, none⟩ = some (.int .i64 to) ∧ w'.cell? ⟨wr.heap.size, 4, none⟩ = some (.int .i64 a) ∧ w'.cell? ⟨wr.heap.size, 5, none⟩ = some (.int .i64 c) ∧ w'.cell? ⟨wr.heap.size, 6, none⟩ = some (.bool v) ∧ w'.cell? ⟨wr.heap.size, 7, none⟩ = some (.slice px pn pc) ∧ w'.cell? ⟨wr.heap.size, 8, none⟩ = some (.slice rx rn rc) ∧ w'.cell? ⟨wr.heap.size, 9, none⟩ = some (.slice cx cn cc) ∧ w'.cell? ⟨w.heap.size, si, none⟩ = some (pv b1) ∧ w'.cell? ⟨w.heap.size, ti, none⟩ = some (pv b2) ∧ w'.cell? ⟨w.heap.size + 1, si * 2, none⟩ = some (.int .i64 ((n1 : Nat) : Int)) ∧ w'.cell? ⟨w.heap.size + 1, si * 2 + 1, none⟩ = some (.slice X1 Y1 Z1) ∧ w'.cell? ⟨w.heap.size + 1, ti * 2, none⟩ = some (.int .i64 ((n2 : Nat) : Int)) ∧ w'.cell? ⟨w.heap.size + 1, ti * 2 + 1, none⟩ = some (.slice X2 Y2 Z2)) (first | assumption | exact K0 | exact ⟨cellA K0.1, cellA K0.2.1, cellA K0.2.2.1, cellA K0.2.2.2.1, cellA K0.2.2.2.2.1, cellA K0.2.2.2.2.2.1, cellA K0.2.2.2.2.2.2.1, cellA K0.2.2.2.2.2.2.2.1, cellA K0.2.2.2.2.2.2.2.2.1, cellA K0.2.2.2.2.2.2.2.2.2.1, cellA K0.2.2.2.2.2.2.2.2.2.2.1, cellA K0.2.2.2.2.2.2.2.2.2.2.2.1, cellA K0.2.2.2.2.2.2.2.2.2.2.2.2.1, cellA K0.2.2.2.2.2.2.2.2.2.2.2.2.2.1, cellA K0.2.2.2.2.2.2.2.2.2.2.2.2.2.2.1, cellA K0.2.2.2.2.2.2.2.2.2.2.2.2.2.2.2⟩ | exact ⟨cellA K2.1, cellA K2.2.1, cellA K2.2.2.1, cellA K2.2.2.2.1, cellA K2.2.2.2.2.1, cellA K2.2.2.2.2.2.1, cellA K2.2.2.2.2.2.2.1, cellA K2.2.2.2.2.2.2.2.1, cellA K2.2.2.2.2.2.2.2.2.1, cellA K2.2.2.2.2.2.2.2.2.2.1, cellA K2.2.2.2.2.2.2.2.2.2.2.1, cellA K2.2.2.2.2.2.2.2.2.2.2.2.1, cellA K2.2.2.2.2.2.2.2.2.2.2.2.2.1, cellA K2.2.2.2.2.2.2.2.2.2.2.2.2.2.1, cellA K2.2.2.2.2.2.2.2.2.2.2.2.2.2.2.1, cellA K2.2.2.2.2.2.2.2.2.2.2.2.2.2.2.2⟩ | (simp only [cell2 hne0, cell2 hne1, cell2 hne2]; assumption))
                (first | (go_at_call 30; refine (made_yes op ho0 ho1 ho2 s t to a c v (.slice px pn pc) (.slice rx rn rc) (.slice cx cn cc) b1 c1 b2 c2 n1 n2 A1 A2 X1 Y1 Z1 X2 Y2 Z2 rb1 rb2 F1 F2 W.drew (hok1.below (Below.refl _ _).drew) (hok2.below (Below.refl _ _).drew) hT1.drew lp lr lc (hP1.below (Below.refl _ _).drew) hl (hR1.below (Below.refl _ _).drew) (hC1.below (Below.refl _ _).drew)).mono ?_; rintro e w2 ⟨b', c', L', n', M', rb', F', rfl, hM2, hR2, hTw, hN'⟩; obtain ⟨x', y', z', rfl⟩ := hR2.slice; have hX2 := below_of_drew' hM2.below; have hbb : W.heap.size ≤ b' ∧ W.heap.size ≤ c' := ⟨hM2.hb, hM2.hc⟩; have hI2 := hM2.rel; have K2 : w2.cell? ⟨wr.heap.size, 0, none⟩ = some (.int .i64 op) ∧ w2.cell? ⟨wr.heap.size, 1, none⟩ = some (.int .i64 s) ∧ w2.cell? ⟨wr.heap.size, 2, none⟩ = some (.int .i64 t) ∧ w2.cell? ⟨wr.heap.size, 3, none⟩ = some (.int .i64 to) ∧ w2.cell? ⟨wr.heap.size, 4, none⟩ = some (.int .i64 a) ∧ w2.cell? ⟨wr.heap.size, 5, none⟩ = some (.int .i64 c) ∧ w2.cell? ⟨wr.heap.size, 6, none⟩ = some (.bool v) ∧ w2.cell? ⟨wr.heap.size, 7, none⟩ = some (.slice px pn pc) ∧ w2.cell? ⟨wr.heap.size, 8, none⟩ = some (.slice rx rn rc) ∧ w2.cell? ⟨wr.heap.size, 9, none⟩ = some (.slice cx cn cc) ∧ w2.cell? ⟨w.heap.size, si, none⟩ = some (pv b1) ∧ w2.cell? ⟨w.heap.size, ti, none⟩ = some (pv b2) ∧ w2.cell? ⟨w.heap.size + 1, si * 2, none⟩ = some (.int .i64 ((n1 : Nat) : Int)) ∧ w2.cell? ⟨w.heap.size + 1, si * 2 + 1, none⟩ = some (.slice X1 Y1 Z1) ∧ w2.cell? ⟨w.heap.size + 1, ti * 2, none⟩ = some (.int .i64 ((n2 : Nat) : Int)) ∧ w2.cell? ⟨w.heap.size + 1, ti * 2 + 1, none⟩ = some (.slice X2 Y2 Z2) := play_cells (hPB1.step hX2) (hst.of_below hX2) hsi hti em1 em2 ed1 es1 ed2 es2) | (go_at_call 30; refine (made_yes op ho0 ho1 ho2 s t to a c v (.slice px pn pc) (.slice rx rn rc) (.slice cx cn cc) b1 c1 b2 c2 n1 n2 A1 A2 X1 Y1 Z1 X2 Y2 Z2 rb1 rb2 F1 F2 _ (hok1.below (below_ad W _)) (hok2.below (below_ad W _)) (hT1.step (below_ad W _)) lp lr lc (hP1.below (below_ad W _)) hl (hR1.below (below_ad W _)) (hC1.below (below_ad W _))).mono ?_; rintro e w2 ⟨b', c', L', n', M', rb', F', rfl, hM2, hR2, hTw, hN'⟩; obtain ⟨x', y', z', rfl⟩ := hR2.slice; have hX2 := below_alloc_drew hM2.below; have hbb : W.heap.size ≤ b' ∧ W.heap.size ≤ c' := ⟨Nat.le_trans (below_ad W _).size hM2.hb, Nat.le_trans (below_ad W _).size hM2.hc⟩; have hI2 := hM2.rel; have hbx : Blk w2 W.heap.size 46 #[.int .i64 0, .slice none 0 0] := (Blk.new W.drew 46 #[.int .i64 0, .slice none 0 0]).of_below hM2.below; have e0 := hbx.cell (j := 0) rfl; have e1 := hbx.cell (j := 1) rfl; have f0 := hbx.frozen 0; have f1 := hbx.frozen 1; have K2 : w2.cell? ⟨wr.heap.size, 0, none⟩ = some (.int .i64 op) ∧ w2.cell? ⟨wr.heap.size, 1, none⟩ = some (.int .i64 s) ∧ w2.cell? ⟨wr.heap.size, 2, none⟩ = some (.int .i64 t) ∧ w2.cell? ⟨wr.heap.size, 3, none⟩ = some (.int .i64 to) ∧ w2.cell? ⟨wr.heap.size, 4, none⟩ = some (.int .i64 a) ∧ w2.cell? ⟨wr.heap.size, 5, none⟩ = some (.int .i64 c) ∧ w2.cell? ⟨wr.heap.size, 6, none⟩ = some (.bool v) ∧ w2.cell? ⟨wr.heap.size, 7, none⟩ = some (.slice px pn pc) ∧ w2.cell? ⟨wr.heap.size, 8, none⟩ = some (.slice rx rn rc) ∧ w2.cell? ⟨wr.heap.size, 9, none⟩ = some (.slice cx cn cc) ∧ w2.cell? ⟨w.heap.size, si, none⟩ = some (pv b1) ∧ w2.cell? ⟨w.heap.size, ti, none⟩ = some (pv b2) ∧ w2.cell? ⟨w.heap.size + 1, si * 2, none⟩ = some (.int .i64 ((n1 : Nat) : Int)) ∧ w2.cell? ⟨w.heap.size + 1, si * 2 + 1, none⟩ = some (.slice X1 Y1 Z1) ∧ w2.cell? ⟨w.heap.size + 1, ti * 2, none⟩ = some (.int .i64 ((n2 : Nat) : Int)) ∧ w2.cell? ⟨w.heap.size + 1, ti * 2 + 1, none⟩ = some (.slice X2 Y2 Z2) := play_cells (hPB1.step hX2) (hst.of_below hX2) hsi hti em1 em2 ed1 es1 ed2 es2))
              · have hX3 : Below W.heap.size W (w2.alloc (.cells #[.int .i64 ((n' : Nat) : Int), .slice x' y' z'] 46)) := hX2.alloc hX2.size _
                have hR3 := hR2.alloc (.cells #[.int .i64 ((n' : Nat) : Int), .slice x' y' z'] 46)
                have hI3 := hI2.alloc (.cells #[.int .i64 ((n' : Nat) : Int), .slice x' y' z'] 46)
                have hbx3 := Blk.new w2 46 #[.int .i64 ((n' : Nat) : Int), .slice x' y' z']
                have hgX : W.heap.size ≤ w2.heap.size := hX2.size
                clear K2 K0
                generalize w2.heap.size = g at *
                generalize w2.alloc _ = W3 at *
                have hPB3 := hPB1.step hX3
                have hst3 := hst.of_below hX3
                have g0 := hbx3.cell (j := 0) rfl
                have g1 := hbx3.cell (j := 1) rfl
                have s3 := hst3.cell (j := 3) rfl
                obtain ⟨m0, m1⟩ := hPB3.mcell hui
                obtain ⟨d0, d1, d2, d3⟩ := hPB3.dcell hui
                have l1 := hPB.mine.lt
                have l2 := hPB.docs.lt
                have l3 := hst.lt
                have a1 : wr.heap.size ≠ w.heap.size := by omega
                have a2 : w.heap.size ≠ wr.heap.size := by omega
                have a3 : g ≠ w.heap.size := by omega
                have a4 : w.heap.size ≠ g := by omega
                clear l1 l2 l3
                go_wp2_with fail
                have hs3 : Slot.ok W3 ⟨b', c', n', L', x', y', z', rb', F'⟩ := ⟨hI3, hR3, hTw, hN'⟩
                have hPS3 := hPS1.add (hPS1.step hX3) _ hs3 hbb.1 hbb.2 hPB1.below.size ui 4 (fun j hj => .inr hj)
                have hPBm := hPB3.setM hui (pv b')
                refine ⟨⟨k + 1, by omega, by omega, by go_num, _, _, _, _, hPBm.setD hui (.int .i64 ((n' : Nat) : Int)) (.slice x' y' z'), ((hPS3.other hPB3.mine (by decide) (by decide) (by decide) (by decide) ui (pv b')).other hPBm.docs (by decide) (by decide) (by decide) (by decide) _ _).other (hPBm.docs.set _ _) (by decide) (by decide) (by decide) (by decide) _ _, hPL.set ⟨b', c', n', L', x', y', z', rb', F'⟩ ui 4 (fun j hj => .inr hj)⟩, by simp [intOf]; omega⟩
              · have hX3 : Below W.heap.size W ((w2.setCell ⟨W.heap.size, 0, none⟩ (.int .i64 ((n' : Nat) : Int))).setCell ⟨W.heap.size, 1, none⟩ (.slice x' y' z')) := (hX2.setCell (by simp) _).setCell (by simp) _
                have hR3 := (hR2.setBox hbx 0 (.int .i64 ((n' : Nat) : Int))).setBox (hbx.set 0 _) 1 (.slice x' y' z')
                have hI3 := (hI2.other (a := ⟨W.heap.size, 0, none⟩) (hI2.head.ne hbx (by decide)) (hI2.rows.ne hbx (by decide)) (.int .i64 ((n' : Nat) : Int))).other (a := ⟨W.heap.size, 1, none⟩) (hI2.head.ne hbx (by decide)) (hI2.rows.ne hbx (by decide)) (.slice x' y' z')
                have hbx3 := (hbx.set 0 (.int .i64 ((n' : Nat) : Int))).set 1 (.slice x' y' z')
                simp only [List.setIfInBounds_toArray, List.set_cons_zero, List.set_cons_succ] at hbx3
                have hgX : W.heap.size ≤ W.heap.size := Nat.le_refl _
                clear K2 K0 e0 e1 f0 f1 hbx
                generalize (w2.setCell _ _).setCell _ _ = W3 at *
                have hPB3 := hPB1.step hX3
                have hst3 := hst.of_below hX3
                have g0 := hbx3.cell (j := 0) rfl
                have g1 := hbx3.cell (j := 1) rfl
                have s3 := hst3.cell (j := 3) rfl
                obtain ⟨m0, m1⟩ := hPB3.mcell hui
                obtain ⟨d0, d1, d2, d3⟩ := hPB3.dcell hui
                have l1 := hPB.mine.lt
                have l2 := hPB.docs.lt
                have l3 := hst.lt
                have a1 : wr.heap.size ≠ w.heap.size := by omega
                have a2 : w.heap.size ≠ wr.heap.size := by omega
                have a3 : W.heap.size ≠ w.heap.size := by omega
                have a4 : w.heap.size ≠ W.heap.size := by omega
                clear l1 l2 l3
                go_wp2_with fail
                have hs3 : Slot.ok W3 ⟨b', c', n', L', x', y', z', rb', F'⟩ := ⟨hI3, hR3, hTw, hN'⟩
                have hPS3 := hPS1.add (hPS1.step hX3) _ hs3 hbb.1 hbb.2 hPB1.below.size ui 4 (fun j hj => .inr hj)
                have hPBm := hPB3.setM hui (pv b')
                refine ⟨⟨k + 1, by omega, by omega, by go_num, _, _, _, _, hPBm.setD hui (.int .i64 ((n' : Nat) : Int)) (.slice x' y' z'), ((hPS3.other hPB3.mine (by decide) (by decide) (by decide) (by decide) ui (pv b')).other hPBm.docs (by decide) (by decide) (by decide) (by decide) _ _).other (hPBm.docs.set _ _) (by decide) (by decide) (by decide) (by decide) _ _, hPL.set ⟨b', c', n', L', x', y', z', rb', F'⟩ ui 4 (fun j hj => .inr hj)⟩, by simp [intOf]; omega⟩
            · have hop : op < 0 ∨ 14 < op ∨ op = 3 := by omega
              go_region_held3 (fun w' => w'.cell? ⟨wr.heap.size, 0, none⟩ = some (.int .i64 op) ∧ w'.cell? ⟨wr.heap.size, 1, none⟩ = some (.int .i64 s) ∧ w'.cell? ⟨wr.heap.size, 2, none⟩ = some (.int .i64 t) ∧ w'.cell? ⟨wr.heap.size, 3, none⟩ = some (.int .i64 to) ∧ w'.cell? ⟨wr.heap.size, 4, none⟩ = some (.int .i64 a) ∧ w'.cell? ⟨wr.heap.size, 5, none⟩ = some (.int .i64 c) ∧ w'.cell? ⟨wr.heap.size, 6, none⟩ = some (.bool v) ∧ w'.cell? ⟨wr.heap.size, 7, none⟩ = some (.slice px pn pc) ∧ w'.cell? ⟨wr.heap.size, 8, none⟩ = some (.slice rx rn rc) ∧ w'.cell? ⟨wr.heap.size, 9, none⟩ = some (.slice cx cn cc) ∧ w'.cell? ⟨w.heap.size, si, none⟩ = some (pv b1) ∧ w'.cell? ⟨w.heap.size, ti, none⟩ = some (pv b2) ∧ w'.cell? ⟨w.heap.size + 1, si * 2, none⟩ = some (.int .i64 ((n1 : Nat) : Int)) ∧ w'.cell? ⟨w.heap.size + 1, si * 2 + 1, none⟩ = some (.slice X1 Y1 Z1) ∧ w'.cell? ⟨w.heap.size + 1, ti * 2, none⟩ = some (.int .i64 ((n2 : Nat) : Int)) ∧ w'.cell? ⟨w.heap.size + 1, ti * 2 + 1, none⟩ = some (.slice X2 Y2 Z2)) (first | assumption | exact K0 | exact ⟨cellA K0.1, cellA K0.2.1, cellA K0.2.2.1, cellA K0.2.2.2.1, cellA K0.2.2.2.2.1, cellA K0.2.2.2.2.2.1, cellA K0.2.2.2.2.2.2.1, cellA K0.2.2.2.2.2.2.2.1, cellA K0.2.2.2.2.2.2.2.2.1, cellA K0.2.2.2.2.2.2.2.2.2.1, cellA K0.2.2.2.2.2.2.2.2.2.2.1, cellA K0.2.2.2.2.2.2.2.2.2.2.2.1, cellA K0.2.2.2.2.2.2.2.2.2.2.2.2.1, cellA K0.2.2.2.2.2.2.2.2.2.2.2.2.2.1, cellA K0.2.2.2.2.2.2.2.2.2.2.2.2.2.2.1, cellA K0.2.2.2.2.2.2.2.2.2.2.2.2.2.2.2⟩ | exact ⟨cellA K2.1, cellA K2.2.1, cellA K2.2.2.1, cellA K2.2.2.2.1, cellA K2.2.2.2.2.1, cellA K2.2.2.2.2.2.1, cellA K2.2.2.2.2.2.2.1, cellA K2.2.2.2.2.2.2.2.1, cellA K2.2.2.2.2.2.2.2.2.1, cellA K2.2.2.2.2.2.2.2.2.2.1, cellA K2.2.2.2.2.2.2.2.2.2.2.1, cellA K2.2.2.2.2.2.2.2.2.2.2.2.1, cellA K2.2.2.2.2.2.2.2.2.2.2.2.2.1, cellA K2.2.2.2.2.2.2.2.2.2.2.2.2.2.1, cellA K2.2.2.2.2.2.2.2.2.2.2.2.2.2.2.1, cellA K2.2.2.2.2.2.2.2.2.2.2.2.2.2.2.2⟩ | (simp only [cell2 hne0, cell2 hne1, cell2 hne2]; assumption))
                (first | (go_at_call 30; refine (made_none op hop s t to a c v (.slice px pn pc) (.slice rx rn rc) (.slice cx cn cc) b1 c1 b2 c2 n1 n2 A1 A2 X1 Y1 Z1 X2 Y2 Z2 rb1 rb2 F1 F2 W.drew (hok1.below (Below.refl _ _).drew) (hok2.below (Below.refl _ _).drew) hT1.drew).mono ?_; rintro e w2 ⟨x', y', z', rfl, hB2⟩; have hX2 := below_of_drew' hB2; have K2 : w2.cell? ⟨wr.heap.size, 0, none⟩ = some (.int .i64 op) ∧ w2.cell? ⟨wr.heap.size, 1, none⟩ = some (.int .i64 s) ∧ w2.cell? ⟨wr.heap.size, 2, none⟩ = some (.int .i64 t) ∧ w2.cell? ⟨wr.heap.size, 3, none⟩ = some (.int .i64 to) ∧ w2.cell? ⟨wr.heap.size, 4, none⟩ = some (.int .i64 a) ∧ w2.cell? ⟨wr.heap.size, 5, none⟩ = some (.int .i64 c) ∧ w2.cell? ⟨wr.heap.size, 6, none⟩ = some (.bool v) ∧ w2.cell? ⟨wr.heap.size, 7, none⟩ = some (.slice px pn pc) ∧ w2.cell? ⟨wr.heap.size, 8, none⟩ = some (.slice rx rn rc) ∧ w2.cell? ⟨wr.heap.size, 9, none⟩ = some (.slice cx cn cc) ∧ w2.cell? ⟨w.heap.size, si, none⟩ = some (pv b1) ∧ w2.cell? ⟨w.heap.size, ti, none⟩ = some (pv b2) ∧ w2.cell? ⟨w.heap.size + 1, si * 2, none⟩ = some (.int .i64 ((n1 : Nat) : Int)) ∧ w2.cell? ⟨w.heap.size + 1, si * 2 + 1, none⟩ = some (.slice X1 Y1 Z1) ∧ w2.cell? ⟨w.heap.size + 1, ti * 2, none⟩ = some (.int .i64 ((n2 : Nat) : Int)) ∧ w2.cell? ⟨w.heap.size + 1, ti * 2 + 1, none⟩ = some (.slice X2 Y2 Z2) := play_cells (hPB1.step hX2) (hst.of_below hX2) hsi hti em1 em2 ed1 es1 ed2 es2) | (go_at_call 30; refine (made_none op hop s t to a c v (.slice px pn pc) (.slice rx rn rc) (.slice cx cn cc) b1 c1 b2 c2 n1 n2 A1 A2 X1 Y1 Z1 X2 Y2 Z2 rb1 rb2 F1 F2 _ (hok1.below (below_ad W _)) (hok2.below (below_ad W _)) (hT1.step (below_ad W _))).mono ?_; rintro e w2 ⟨x', y', z', rfl, hB2⟩; have hX2 := below_alloc_drew hB2; have hbx : Blk w2 W.heap.size 46 #[.int .i64 0, .slice none 0 0] := (Blk.new W.drew 46 #[.int .i64 0, .slice none 0 0]).of_below hB2; have e0 := hbx.cell (j := 0) rfl; have e1 := hbx.cell (j := 1) rfl; have f0 := hbx.frozen 0; have f1 := hbx.frozen 1; have K2 : w2.cell? ⟨wr.heap.size, 0, none⟩ = some (.int .i64 op) ∧ w2.cell? ⟨wr.heap.size, 1, none⟩ = some (.int .i64 s) ∧ w2.cell? ⟨wr.heap.size, 2, none⟩ = some (.int .i64 t) ∧ w2.cell? ⟨wr.heap.size, 3, none⟩ = some (.int .i64 to) ∧ w2.cell? ⟨wr.heap.size, 4, none⟩ = some (.int .i64 a) ∧ w2.cell? ⟨wr.heap.size, 5, none⟩ = some (.int .i64 c) ∧ w2.cell? ⟨wr.heap.size, 6, none⟩ = some (.bool v) ∧ w2.cell? ⟨wr.heap.size, 7, none⟩ = some (.slice px pn pc) ∧ w2.cell? ⟨wr.heap.size, 8, none⟩ = some (.slice rx rn rc) ∧ w2.cell? ⟨wr.heap.size, 9, none⟩ = some (.slice cx cn cc) ∧ w2.cell? ⟨w.heap.size, si, none⟩ = some (pv b1) ∧ w2.cell? ⟨w.heap.size, ti, none⟩ = some (pv b2) ∧ w2.cell? ⟨w.heap.size + 1, si * 2, none⟩ = some (.int .i64 ((n1 : Nat) : Int)) ∧ w2.cell? ⟨w.heap.size + 1, si * 2 + 1, none⟩ = some (.slice X1 Y1 Z1) ∧ w2.cell? ⟨w.heap.size + 1, ti * 2, none⟩ = some (.int .i64 ((n2 : Nat) : Int)) ∧ w2.cell? ⟨w.heap.size + 1, ti * 2 + 1, none⟩ = some (.slice X2 Y2 Z2) := play_cells (hPB1.step hX2) (hst.of_below hX2) hsi hti em1 em2 ed1 es1 ed2 es2))
              · have hX3 : Below W.heap.size W (w2.alloc (.cells #[.int .i64 0, .slice x' y' z'] 46)) := hX2.alloc hX2.size _
                have hbx3 := Blk.new w2 46 #[.int .i64 0, .slice x' y' z']
                have hgX : W.heap.size ≤ w2.heap.size := hX2.size
                clear K2 K0
                generalize w2.heap.size = g at *
                generalize w2.alloc _ = W3 at *
                have K3 : W3.cell? ⟨wr.heap.size, 0, none⟩ = some (.int .i64 op) ∧ W3.cell? ⟨wr.heap.size, 1, none⟩ = some (.int .i64 s) ∧ W3.cell? ⟨wr.heap.size, 2, none⟩ = some (.int .i64 t) ∧ W3.cell? ⟨wr.heap.size, 3, none⟩ = some (.int .i64 to) ∧ W3.cell? ⟨wr.heap.size, 4, none⟩ = some (.int .i64 a) ∧ W3.cell? ⟨wr.heap.size, 5, none⟩ = some (.int .i64 c) ∧ W3.cell? ⟨wr.heap.size, 6, none⟩ = some (.bool v) ∧ W3.cell? ⟨wr.heap.size, 7, none⟩ = some (.slice px pn pc) ∧ W3.cell? ⟨wr.heap.size, 8, none⟩ = some (.slice rx rn rc) ∧ W3.cell? ⟨wr.heap.size, 9, none⟩ = some (.slice cx cn cc) ∧ W3.cell? ⟨w.heap.size, si, none⟩ = some (pv b1) ∧ W3.cell? ⟨w.heap.size, ti, none⟩ = some (pv b2) ∧ W3.cell? ⟨w.heap.size + 1, si * 2, none⟩ = some (.int .i64 ((n1 : Nat) : Int)) ∧ W3.cell? ⟨w.heap.size + 1, si * 2 + 1, none⟩ = some (.slice X1 Y1 Z1) ∧ W3.cell? ⟨w.heap.size + 1, ti * 2, none⟩ = some (.int .i64 ((n2 : Nat) : Int)) ∧ W3.cell? ⟨w.heap.size + 1, ti * 2 + 1, none⟩ = some (.slice X2 Y2 Z2) := play_cells (hPB1.step hX3) (hst.of_below hX3) hsi hti em1 em2 ed1 es1 ed2 es2
                clear hbx3 hgX
                go_wp2_with fail
                go_region_held3 (fun w' => w'.cell? ⟨wr.heap.size, 0, none⟩ = some (.int .i64 op) ∧ w'.cell? ⟨wr.heap.size, 1, none⟩ = some (.int .i64 s) ∧ w'.cell? ⟨wr.heap.size, 2, none⟩ = some (.int .i64 t) ∧ w'.cell? ⟨wr.heap.size, 3, none⟩ = some (.int .i64 to) ∧ w'.cell? ⟨wr.heap.size, 4, none⟩ = some (.int .i64 a) ∧ w'.cell? ⟨wr.heap.size, 5, none⟩ = some (.int .i64 c) ∧ w'.cell? ⟨wr.heap.size, 6, none⟩ = some (.bool v) ∧ w'.cell? ⟨wr.heap.size, 7, none⟩ = some (.slice px pn pc) ∧ w'.cell? ⟨wr.heap.size, 8, none⟩ = some (.slice rx rn rc) ∧ w'.cell? ⟨wr.heap.size, 9, none⟩ = some (.slice cx cn cc) ∧ w'.cell? ⟨w.heap.size, si, none⟩ = some (pv b1) ∧ w'.cell? ⟨w.heap.size, ti, none⟩ = some (pv b2) ∧ w'.cell? ⟨w.heap.size + 1, si * 2, none⟩ = some (.int .i64 ((n1 : Nat) : Int)) ∧ w'.cell? ⟨w.heap.size + 1, si * 2 + 1, none⟩ = some (.slice X1 Y1 Z1) ∧ w'.cell? ⟨w.heap.size + 1, ti * 2, none⟩ = some (.int .i64 ((n2 : Nat) : Int)) ∧ w'.cell? ⟨w.heap.size + 1, ti * 2 + 1, none⟩ = some (.slice X2 Y2 Z2)) (first | assumption | exact K3)
                  (first | (go_at_call 31; refine (asked_calls op s t to a c v (.slice px pn pc) (.slice rx rn rc) (.slice cx cn cc) b1 c1 b2 c2 n1 n2 A1 A2 X1 Y1 Z1 X2 Y2 Z2 rb1 rb2 F1 F2 W3.drew (hok1.below hX3.drew) (hok2.below hX3.drew) ((hT1.step hX3).drew) lr (hR1.below hX3.drew)).mono ?_; rintro e w5 ⟨rfl, hB5⟩; have hX5 : Below W.heap.size W w5 := below_step hX3.drew hX3.drew.size hB5; have K5 : w5.cell? ⟨wr.heap.size, 0, none⟩ = some (.int .i64 op) ∧ w5.cell? ⟨wr.heap.size, 1, none⟩ = some (.int .i64 s) ∧ w5.cell? ⟨wr.heap.size, 2, none⟩ = some (.int .i64 t) ∧ w5.cell? ⟨wr.heap.size, 3, none⟩ = some (.int .i64 to) ∧ w5.cell? ⟨wr.heap.size, 4, none⟩ = some (.int .i64 a) ∧ w5.cell? ⟨wr.heap.size, 5, none⟩ = some (.int .i64 c) ∧ w5.cell? ⟨wr.heap.size, 6, none⟩ = some (.bool v) ∧ w5.cell? ⟨wr.heap.size, 7, none⟩ = some (.slice px pn pc) ∧ w5.cell? ⟨wr.heap.size, 8, none⟩ = some (.slice rx rn rc) ∧ w5.cell? ⟨wr.heap.size, 9, none⟩ = some (.slice cx cn cc) ∧ w5.cell? ⟨w.heap.size, si, none⟩ = some (pv b1) ∧ w5.cell? ⟨w.heap.size, ti, none⟩ = some (pv b2) ∧ w5.cell? ⟨w.heap.size + 1, si * 2, none⟩ = some (.int .i64 ((n1 : Nat) : Int)) ∧ w5.cell? ⟨w.heap.size + 1, si * 2 + 1, none⟩ = some (.slice X1 Y1 Z1) ∧ w5.cell? ⟨w.heap.size + 1, ti * 2, none⟩ = some (.int .i64 ((n2 : Nat) : Int)) ∧ w5.cell? ⟨w.heap.size + 1, ti * 2 + 1, none⟩ = some (.slice X2 Y2 Z2) := play_cells (hPB1.step hX5) (hst.of_below hX5) hsi hti em1 em2 ed1 es1 ed2 es2))
                go_wp2_with fail
                refine ⟨⟨k + 1, by omega, by omega, by go_num, σ, M, Dn, Ds, hPB1.step hX5, hPS1.step hX5, hPL⟩, by simp [intOf]; omega⟩
              · have hX3 : Below W.heap.size W ((w2.setCell ⟨W.heap.size, 0, none⟩ (.int .i64 0)).setCell ⟨W.heap.size, 1, none⟩ (.slice x' y' z')) := (hX2.setCell (by simp) _).setCell (by simp) _
                have hbx3 := (hbx.set 0 (.int .i64 0)).set 1 (.slice x' y' z')
                simp only [List.setIfInBounds_toArray, List.set_cons_zero, List.set_cons_succ] at hbx3
                have hgX : W.heap.size ≤ W.heap.size := Nat.le_refl _
                clear K2 K0 e0 e1 f0 f1 hbx
                generalize (w2.setCell _ _).setCell _ _ = W3 at *
                have K3 : W3.cell? ⟨wr.heap.size, 0, none⟩ = some (.int .i64 op) ∧ W3.cell? ⟨wr.heap.size, 1, none⟩ = some (.int .i64 s) ∧ W3.cell? ⟨wr.heap.size, 2, none⟩ = some (.int .i64 t) ∧ W3.cell? ⟨wr.heap.size, 3, none⟩ = some (.int .i64 to) ∧ W3.cell? ⟨wr.heap.size, 4, none⟩ = some (.int .i64 a) ∧ W3.cell? ⟨wr.heap.size, 5, none⟩ = some (.int .i64 c) ∧ W3.cell? ⟨wr.heap.size, 6, none⟩ = some (.bool v) ∧ W3.cell? ⟨wr.heap.size, 7, none⟩ = some (.slice px pn pc) ∧ W3.cell? ⟨wr.heap.size, 8, none⟩ = some (.slice rx rn rc) ∧ W3.cell? ⟨wr.heap.size, 9, none⟩ = some (.slice cx cn cc) ∧ W3.cell? ⟨w.heap.size, si, none⟩ = some (pv b1) ∧ W3.cell? ⟨w.heap.size, ti, none⟩ = some (pv b2) ∧ W3.cell? ⟨w.heap.size + 1, si * 2, none⟩ = some (.int .i64 ((n1 : Nat) : Int)) ∧ W3.cell? ⟨w.heap.size + 1, si * 2 + 1, none⟩ = some (.slice X1 Y1 Z1) ∧ W3.cell? ⟨w.heap.size + 1, ti * 2, none⟩ = some (.int .i64 ((n2 : Nat) : Int)) ∧ W3.cell? ⟨w.heap.size + 1, ti * 2 + 1, none⟩ = some (.slice X2 Y2 Z2) := play_cells (hPB1.step hX3) (hst.of_below hX3) hsi hti em1 em2 ed1 es1 ed2 es2
                clear hbx3 hgX
                go_wp2_with fail
                go_region_held3 (fun w' => w'.cell? ⟨wr.heap.size, 0, none⟩ = some (.int .i64 op) ∧ w'.cell? ⟨wr.heap.size, 1, none⟩ = some (.int .i64 s) ∧ w'.cell? ⟨wr.heap.size, 2, none⟩ = some (.int .i64 t) ∧ w'.cell? ⟨wr.heap.size, 3, none⟩ = some (.int .i64 to) ∧ w'.cell? ⟨wr.heap.size, 4, none⟩ = some (.int .i64 a) ∧ w'.cell? ⟨wr.heap.size, 5, none⟩ = some (.int .i64 c) ∧ w'.cell? ⟨wr.heap.size, 6, none⟩ = some (.bool v) ∧ w'.cell? ⟨wr.heap.size, 7, none⟩ = some (.slice px pn pc) ∧ w'.cell? ⟨wr.heap.size, 8, none⟩ = some (.slice rx rn rc) ∧ w'.cell? ⟨wr.heap.size, 9, none⟩ = some (.slice cx cn cc) ∧ w'.cell? ⟨w.heap.size, si, none⟩ = some (pv b1) ∧ w'.cell? ⟨w.heap.size, ti, none⟩ = some (pv b2) ∧ w'.cell? ⟨w.heap.size + 1, si * 2, none⟩ = some (.int .i64 ((n1 : Nat) : Int)) ∧ w'.cell? ⟨w.heap.size + 1, si * 2 + 1, none⟩ = some (.slice X1 Y1 Z1) ∧ w'.cell? ⟨w.heap.size + 1, ti * 2, none⟩ = some (.int .i64 ((n2 : Nat) : Int)) ∧ w'.cell? ⟨w.heap.size + 1, ti * 2 + 1, none⟩ = some (.slice X2 Y2 Z2)) (first | assumption | exact K3)
                  (first | (go_at_call 31; refine (asked_calls op s t to a c v (.slice px pn pc) (.slice rx rn rc) (.slice cx cn cc) b1 c1 b2 c2 n1 n2 A1 A2 X1 Y1 Z1 X2 Y2 Z2 rb1 rb2 F1 F2 W3.drew (hok1.below hX3.drew) (hok2.below hX3.drew) ((hT1.step hX3).drew) lr (hR1.below hX3.drew)).mono ?_; rintro e w5 ⟨rfl, hB5⟩; have hX5 : Below W.heap.size W w5 := below_step hX3.drew hX3.drew.size hB5; have K5 : w5.cell? ⟨wr.heap.size, 0, none⟩ = some (.int .i64 op) ∧ w5.cell? ⟨wr.heap.size, 1, none⟩ = some (.int .i64 s) ∧ w5.cell? ⟨wr.heap.size, 2, none⟩ = some (.int .i64 t) ∧ w5.cell? ⟨wr.heap.size, 3, none⟩ = some (.int .i64 to) ∧ w5.cell? ⟨wr.heap.size, 4, none⟩ = some (.int .i64 a) ∧ w5.cell? ⟨wr.heap.size, 5, none⟩ = some (.int .i64 c) ∧ w5.cell? ⟨wr.heap.size, 6, none⟩ = some (.bool v) ∧ w5.cell? ⟨wr.heap.size, 7, none⟩ = some (.slice px pn pc) ∧ w5.cell? ⟨wr.heap.size, 8, none⟩ = some (.slice rx rn rc) ∧ w5.cell? ⟨wr.heap.size, 9, none⟩ = some (.slice cx cn cc) ∧ w5.cell? ⟨w.heap.size, si, none⟩ = some (pv b1) ∧ w5.cell? ⟨w.heap.size, ti, none⟩ = some (pv b2) ∧ w5.cell? ⟨w.heap.size + 1, si * 2, none⟩ = some (.int .i64 ((n1 : Nat) : Int)) ∧ w5.cell? ⟨w.heap.size + 1, si * 2 + 1, none⟩ = some (.slice X1 Y1 Z1) ∧ w5.cell? ⟨w.heap.size + 1, ti * 2, none⟩ = some (.int .i64 ((n2 : Nat) : Int)) ∧ w5.cell? ⟨w.heap.size + 1, ti * 2 + 1, none⟩ = some (.slice X2 Y2 Z2) := play_cells (hPB1.step hX5) (hst.of_below hX5) hsi hti em1 em2 ed1 es1 ed2 es2))
                go_wp2_with fail
                refine ⟨⟨k + 1, by omega, by omega, by go_num, σ, M, Dn, Ds, hPB1.step hX5, hPS1.step hX5, hPL⟩, by simp [intOf]; omega⟩
        · have hPlay : Playing w wr 4 := ⟨σ, M, Dn, Ds, hPB, hPS, hPL⟩
          clear hPB hPS hPL
          by_cases hN : k < N
          · obtain rfl : k = 200 := by omega
            go_wp2_with fail
            go_loopw [15] (fun i wr => ∃ j : Nat, j ≤ 4 ∧ i = .int .i64 ((j : Nat) : Int) ∧ Playing w wr 4) (fun i _ => 4 - (intOf i).toNat)
            case atStart => exact ⟨0, by omega, rfl, hPlay⟩
            case round =>
              clear hPlay
              obtain ⟨j, hj, rfl, σ, M, Dn, Ds, hPB, hPS, hPL⟩ := hrel
              by_cases hjl : j < 4
              · have hok1 := hPS.ok j hjl
                have hL1 := hPL j hjl
                obtain ⟨q1, hq1⟩ : ∃ q, σ j = q := ⟨_, rfl⟩
                rw [hq1] at hok1 hL1
                obtain ⟨b1, c1, n1, A1, X1, Y1, Z1, rb1, F1⟩ := q1
                have hok1 : Two wr b1 c1 n1 A1 X1 Y1 Z1 rb1 F1 := hok1
                obtain ⟨em1, ed1, es1⟩ : M j = pv b1 ∧ Dn j = .int .i64 ((n1 : Nat) : Int) ∧ Ds j = .slice X1 Y1 Z1 := hL1
                obtain ⟨d0, d1, _, _⟩ := hPB.dcell hjl
                have m0 := (hPB.mcell hjl).1
                rw [ed1] at d0
                rw [es1] at d1
                rw [em1] at m0
                have bj0 : (0 : Int) ≤ ((j : Nat) : Int) := by omega
                have bj1 : ((j : Nat) : Int) < 4 := by omega
                go_wp2_with fail
                go_region_held3 (fun w' => w'.cell? ⟨w.heap.size, j, none⟩ = some (pv b1) ∧ w'.cell? ⟨w.heap.size + 1, j * 2, none⟩ = some (.int .i64 ((n1 : Nat) : Int)) ∧ w'.cell? ⟨w.heap.size + 1, j * 2 + 1, none⟩ = some (.slice X1 Y1 Z1)) (first | assumption | exact ⟨m0, d0, d1⟩)
                  (first | (go_at_call 32; refine (like_calls b1 c1 n1 A1 X1 Y1 Z1 rb1 F1 wr.drew (hok1.below (Below.refl _ _).drew) ((hT.step hPB.below).drew)).mono ?_; rintro e w5 ⟨rfl, hB5⟩; have hX5 := below_of_drew' hB5; have K5 : w5.cell? ⟨w.heap.size, j, none⟩ = some (pv b1) ∧ w5.cell? ⟨w.heap.size + 1, j * 2, none⟩ = some (.int .i64 ((n1 : Nat) : Int)) ∧ w5.cell? ⟨w.heap.size + 1, j * 2 + 1, none⟩ = some (.slice X1 Y1 Z1) := ⟨(hX5.cell hPB.mine.lt).trans m0, (hX5.cell hPB.docs.lt).trans d0, (hX5.cell hPB.docs.lt).trans d1⟩))
                go_wp2_with fail
                refine ⟨⟨j + 1, by omega, by go_num, σ, M, Dn, Ds, hPB.step hX5, hPS.step hX5, hPL⟩, by simp [intOf]; omega⟩
              · obtain rfl : j = 4 := by omega
                go_wp2_with fail
                go_ret
                exact ⟨rfl, hPB.below⟩
          · go_wp2_with fail
            go_loopw [15] (fun i wr => ∃ j : Nat, j ≤ 4 ∧ i = .int .i64 ((j : Nat) : Int) ∧ Playing w wr 4) (fun i _ => 4 - (intOf i).toNat)
            case atStart => exact ⟨0, by omega, rfl, hPlay⟩
            case round =>
              clear hPlay
              obtain ⟨j, hj, rfl, σ, M, Dn, Ds, hPB, hPS, hPL⟩ := hrel
              by_cases hjl : j < 4
              · have hok1 := hPS.ok j hjl
                have hL1 := hPL j hjl
                obtain ⟨q1, hq1⟩ : ∃ q, σ j = q := ⟨_, rfl⟩
                rw [hq1] at hok1 hL1
                obtain ⟨b1, c1, n1, A1, X1, Y1, Z1, rb1, F1⟩ := q1
                have hok1 : Two wr b1 c1 n1 A1 X1 Y1 Z1 rb1 F1 := hok1
                obtain ⟨em1, ed1, es1⟩ : M j = pv b1 ∧ Dn j = .int .i64 ((n1 : Nat) : Int) ∧ Ds j = .slice X1 Y1 Z1 := hL1
                obtain ⟨d0, d1, _, _⟩ := hPB.dcell hjl
                have m0 := (hPB.mcell hjl).1
                rw [ed1] at d0
                rw [es1] at d1
                rw [em1] at m0
                have bj0 : (0 : Int) ≤ ((j : Nat) : Int) := by omega
                have bj1 : ((j : Nat) : Int) < 4 := by omega
                go_wp2_with fail
                go_region_held3 (fun w' => w'.cell? ⟨w.heap.size, j, none⟩ = some (pv b1) ∧ w'.cell? ⟨w.heap.size + 1, j * 2, none⟩ = some (.int .i64 ((n1 : Nat) : Int)) ∧ w'.cell? ⟨w.heap.size + 1, j * 2 + 1, none⟩ = some (.slice X1 Y1 Z1)) (first | assumption | exact ⟨m0, d0, d1⟩)
                  (first | (go_at_call 32; refine (like_calls b1 c1 n1 A1 X1 Y1 Z1 rb1 F1 wr.drew (hok1.below (Below.refl _ _).drew) ((hT.step hPB.below).drew)).mono ?_; rintro e w5 ⟨rfl, hB5⟩; have hX5 := below_of_drew' hB5; have K5 : w5.cell? ⟨w.heap.size, j, none⟩ = some (pv b1) ∧ w5.cell? ⟨w.heap.size + 1, j * 2, none⟩ = some (.int .i64 ((n1 : Nat) : Int)) ∧ w5.cell? ⟨w.heap.size + 1, j * 2 + 1, none⟩ = some (.slice X1 Y1 Z1) := ⟨(hX5.cell hPB.mine.lt).trans m0, (hX5.cell hPB.docs.lt).trans d0, (hX5.cell hPB.docs.lt).trans d1⟩))
                go_wp2_with fail
                refine ⟨⟨j + 1, by omega, by go_num, σ, M, Dn, Ds, hPB.step hX5, hPS.step hX5, hPL⟩, by simp [intOf]; omega⟩
              · obtain rfl : j = 4 := by omega
                go_wp2_with fail
                go_ret
                exact ⟨rfl, hPB.below⟩
end Go.Proofs.YtogifpilfckenaaDoor
