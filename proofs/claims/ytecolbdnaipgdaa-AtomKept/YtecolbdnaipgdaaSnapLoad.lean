/- The contract of one step of a look, in the run of one goroutine. -/
import Derived.Test.YtecolbdnaipgdaaSnapFns
import Derived.Deep.RegionLaw
import Derived.Deep.DeepCutAuto
namespace Go.Proofs.Ytecolbdnaipgdaa
open Go.RowKit

theorem step_call {P : Program} {ops : Array Oper} {o : Oper} {a : Act} {w : World} {K : Act → World → Prop} {Q : Exit → Act → World → Prop} {E : Prop}
    (hg : o.guard = none) (f : FuncId) (s : Operand) (t : TypeId) (hop : o.op = Op.call { callee := Callee.value (Operand.func f), args := #[s], argTypes := #[t] })
    (v u : Value) (hs : a.eval s = v) (hrun : (callFunc f #[v]).run P w = .ok (.enter f #[v]) w) (h : Calls P f #[v] w fun e w' => e = .returned u ∧ w' = w) (hK : K (a.put o.dst u) w) :
    if Region.wanted o (yielded ops a.tmps) = true then Oper.wp P o a w K Q else E := by
  have hw : Region.wanted o (yielded ops a.tmps) = true := by simp [Region.wanted, hg]
  rw [if_pos hw]
  unfold Oper.wp
  have hfv : a.eval (Operand.func f) = Value.func (.func f) #[] #[] := rfl
  simp [execOp, hop, resolve, invoke, hs, hfv, Deferred.ofValue, hrun]
  refine h.mono ?_
  rintro e w' ⟨rfl, h2⟩
  subst h2
  exact hK
theorem Blk.grownE {w w' : World} {b : Nat} {t e : TypeId} {cs : Array Value} {base size n : Nat} {v : Value} {xs : List Value} (h : Blk w b t cs) (hg : w.grownBy w' v.ownBlock) (ho : w.ownsRow base e size v n xs) (ht : t ≠ e) : Blk w' b t cs := by
  refine (hg.block b h.lt (fun e1 => ?_)).trans h
  rcases ho.2 with ⟨rfl, _⟩ | ⟨g, cap, cur, rfl, _, h3, _⟩
  · cases e1
  · simp only [Value.ownBlock, Option.some.injEq] at e1
    subst e1
    have h4 : w.heap[b]? = some (.cells cs t (0, 0)) := h
    rw [h3] at h4
    simp at h4
    exact ht h4.2.symm
theorem owns_ge' {w : World} {base : Nat} {e : TypeId} {size : Nat} {v : Value} {n : Nat} {xs : List Value} (h : w.ownsRow base e size v n xs) {k : Nat} (hk : v.ownBlock = some k) : base ≤ k := by
  rcases h.2 with ⟨rfl, _⟩ | ⟨g, cap, cur, rfl, hg, _⟩
  · cases hk
  · simp only [Value.ownBlock, Option.some.injEq] at hk
    omega
theorem owns_set' {w : World} {base : Nat} {e : TypeId} {size : Nat} {v : Value} {n : Nat} {xs : List Value} (h : w.ownsRow base e size v n xs) {a : Addr} (hne : some a.block ≠ v.ownBlock) (u : Value) : (w.setCell a u).ownsRow base e size v n xs := by
  refine ⟨h.1, ?_⟩
  rcases h.2 with h2 | ⟨g, cap, cur, rfl, h4, h5, h6⟩
  · exact .inl h2
  · refine .inr ⟨g, cap, cur, rfl, h4, (Below.heap_setCell _ _ _ _ ?_).trans h5, h6⟩
    intro e'
    exact hne (by simp [Value.ownBlock, e'])
theorem Blk.ne' {w : World} {b g : Nat} {t e : TypeId} {cs : Array Value} {base size n m cap : Nat} {xs : List Value} (h : Blk w b t cs) (ho : w.ownsRow base e size (.slice (some ⟨g, 0, none⟩) m cap) n xs) (ht : t ≠ e) : b ≠ g := by
  intro e1
  subst e1
  rcases ho.2 with ⟨h1, _⟩ | ⟨g', cap', cur, h1, _, h3, _⟩
  · cases h1
  · injection h1 with h1 _ _
    injection h1 with h1
    injection h1 with h1 _ _
    subst h1
    have h4 : w.heap[b]? = some (.cells cs t (0, 0)) := h
    rw [h3] at h4
    simp at h4
    exact ht h4.2.symm
theorem owns_drewN {w : World} {base : Nat} {e : TypeId} {size : Nat} {v : Value} {n : Nat} {xs : List Value} (h : w.ownsRow base e size v n xs) (k : Nat) : (w.drewN k).ownsRow base e size v n xs := h
theorem owns_step' {w w' : World} {b : Nat} {e : TypeId} {size : Nat} {v : Value} {n : Nat} {xs : List Value} (h : w.ownsRow b e size v n xs) (hb : Below w.heap.size w w') : w'.ownsRow b e size v n xs := by
  refine ⟨h.1, ?_⟩
  rcases h.2 with h2 | ⟨g, cap, cur, h3, h4, h5, h6⟩
  · exact .inl h2
  · exact .inr ⟨g, cap, cur, h3, h4, (hb.block g (Array.getElem?_eq_some_iff.1 h5).1).trans h5, h6⟩
theorem recLoad_enters (v : Value) (w : World) : (callFunc 30 #[v]).run Try.prog w = .ok (.enter 30 #[v]) w := by kernel_rfl
/-- What a step of a look leaves as it was: old memory below n; every block but those of bs and the lists of records from base on. -/
structure Kp (n base : Nat) (bs : List Nat) (w w' : World) : Prop where
  below : Below n w w'
  keep : ∀ b t cs, Blk w b t cs → b ∉ bs → (t ≠ 47 ∨ b < base) → Blk w' b t cs
theorem Kp.refl (n base : Nat) (bs : List Nat) (w : World) : Kp n base bs w w := ⟨Below.refl _ _, fun _ _ _ h _ _ => h⟩
theorem Kp.trans {n base : Nat} {bs : List Nat} {w w' w'' : World} (h : Kp n base bs w w') (k : Kp n base bs w' w'') : Kp n base bs w w'' := ⟨h.below.trans k.below, fun b t cs hb h1 h2 => k.keep b t cs (h.keep b t cs hb h1 h2) h1 h2⟩
theorem Kp.mono {n base : Nat} {bs cs : List Nat} {w w' : World} (h : Kp n base bs w w') (hs : ∀ k ∈ bs, k ∈ cs) : Kp n base cs w w' := ⟨h.below, fun b t c hb h1 h2 => h.keep b t c hb (fun e => h1 (hs b e)) h2⟩
theorem Kp.of_below {n base : Nat} {bs : List Nat} {w w' : World} (h : Below w.heap.size w w') (hn : n ≤ w.heap.size) : Kp n base bs w w' := ⟨h.mono hn, fun _ _ _ hb _ _ => hb.of_below h⟩
theorem Kp.of_only {n base : Nat} {bs : List Nat} {w w' : World} (h : Only bs w w') (hb : ∀ k ∈ bs, n ≤ k) (hn : n ≤ w.heap.size) : Kp n base bs w w' := ⟨h.below hb hn, fun _ _ _ hB h1 _ => hB.only h h1⟩
theorem Kp.set {n base : Nat} {bs : List Nat} (w : World) {c : Nat} (hc : c ∈ bs) (hn : n ≤ c) (j : Nat) (v : Value) : Kp n base bs w (w.setCell ⟨c, j, none⟩ v) :=
  ⟨(Below.refl n w).setCell hn _, fun b t cs hb h1 _ => hb.setOther (fun e => h1 (by rw [show b = c from e]; exact hc)) _⟩
set_option maxRecDepth 100000 in
set_option maxHeartbeats 8000000 in
theorem lookPush (LK S R MV r j base n : Nat) (hj : j < r) (hr : r ≤ 16) (lp : Option Addr) (ln lc : Nat) (kv : Value) (p : Option Addr) (cap : Nat) (xs : List Value) (q : Option Addr) (w : World)
    (hL : Blk w LK 107 #[pv S, .slice lp ln lc, .slice p j cap, .slice (some ⟨MV, 0, none⟩) r r]) (hS : Blk w S 46 #[.slice (some ⟨R, 0, none⟩) r r, kv]) (hR : w.cell? ⟨R, j, none⟩ = some (.pointer q)) (hq : PtrTo w 49 2 q)
    (hown : w.ownsRow base 47 1 (.slice p j cap) j xs) (hb : base ≤ w.heap.size) (hn : n ≤ base) (hnL : n ≤ LK) (post : Ending → World → Prop)
    (hA : ∀ w1 g cp, j + 1 < r → Blk w1 LK 107 #[pv S, .slice lp ln lc, .slice (some ⟨g, 0, none⟩) (j + 1) cp, .slice (some ⟨MV, 0, none⟩) r r] → w1.ownsRow base 47 1 (.slice (some ⟨g, 0, none⟩) (j + 1) cp) (j + 1) (xs ++ [.pointer q]) → Kp n base [LK] w w1 → post (.returned (.slice none 0 0)) w1)
    (hB : ∀ w1 g cp, j + 1 = r → Blk w1 LK 107 #[pv S, .slice lp ln lc, .slice (some ⟨g, 0, none⟩) (j + 1) cp, .slice (some ⟨MV, 0, none⟩) r r] → w1.ownsRow base 47 1 (.slice (some ⟨g, 0, none⟩) (j + 1) cp) (j + 1) (xs ++ [.pointer q]) → Kp n base [LK] w w1 →
      Calls Try.prog 40 #[pv LK] w1 fun e w2 => ∃ v, e = .returned v ∧ Below w1.heap.size w1 w2 ∧ ∀ w3, Blk w3 LK 107 #[pv S, .slice (some ⟨g, 0, none⟩) (j + 1) cp, .slice lp 0 lc, .slice (some ⟨MV, 0, none⟩) r r] → w3.ownsRow base 47 1 (.slice (some ⟨g, 0, none⟩) (j + 1) cp) (j + 1) (xs ++ [.pointer q]) → Kp n base [LK] w2 w3 → post (.returned v) w3) :
    Calls Try.prog 32 #[pv LK] w post := by
  obtain ⟨i0, hi, hz0, hz1, hz2⟩ := info_parts' Try.infoprec
  have l0 := hL.cell (j := 0) rfl
  have l2 := hL.cell (j := 2) rfl
  have s0 := hS.cell (j := 0) rfl
  have bj0 : (0 : Int) ≤ ((j : Nat) : Int) := by omega
  have bj1 : ((j : Nat) : Int) < ((r : Nat) : Int) := by omega
  have hlo : n ≤ w.heap.size := by omega
  go_enter Try.func32, Try.ntmps32
  go_wp2_with fail
  go_cut [] (fun wx => ∃ g cp, Blk wx LK 107 #[pv S, .slice lp ln lc, .slice (some ⟨g, 0, none⟩) (j + 1) cp, .slice (some ⟨MV, 0, none⟩) r r] ∧ wx.ownsRow base 47 1 (.slice (some ⟨g, 0, none⟩) (j + 1) cp) (j + 1) (xs ++ [.pointer q]) ∧ Kp n base [LK] w wx)
  case first =>
    clear hA hB
    have l2' := cellA l2 (o := .cells #[.pointer q] 47)
    go_region_law
      (first | (refine step_append_lies _ rfl _ _ 105 rfl base 47 i0 (.pointer none) 1 8 Try.underlying105 hi hz0 hz1 hz2 rfl (by decide) (.slice p j cap) j xs rfl (hown.alloc _) ⟨w.heap.size, 0, none⟩ 1 1 [.pointer q] rfl rfl (by intro k u hk; match k, hk with | 0, hk => simp at hk; subst hk; exact (Blk.new w.drew _ _).cell rfl) (by simp [Value.oneCell']) (by omega) (by unfold maxLen; omega) (by omega) (by simp; omega) _ rfl ?_; intro g cp w2 hown2 hgrow hat hlt; have hL2 := (hL.alloc (.cells #[.pointer q] 47)).drew.grownE hgrow (hown.alloc _) (by decide); have e2 := hL2.cell (j := 2) rfl; have f2 := hL2.frozen 2) | (refine step_call rfl 30 _ _ rfl _ (.pointer q) rfl (recLoad_enters _ _) (recLoad_calls R j q w.drew hR hq) ?_))
    all_goals
      go_wp2_with fail
      go_meet
      have hL3 := hL2.set 2 (.slice (some ⟨g, 0, none⟩) (j + 1) cp)
      simp only [List.setIfInBounds_toArray, List.set_cons_zero, List.set_cons_succ] at hL3
      have hgn : ∀ k, (Value.slice p j cap).ownBlock = some k → base ≤ k := fun k e => owns_ge' hown e
      have hK : Kp n base [LK] w w2 := ⟨((Below.refl n w).alloc hlo _).drew.grown hgrow (by simp; omega) (fun k e => by have := hgn k e; omega), fun b t cs hb _ ht => by
        rcases ht with ht | ht
        · exact (hb.alloc (.cells #[.pointer q] 47)).drew.grownE hgrow (hown.alloc _) ht
        · exact (hgrow.block b ((hb.alloc (.cells #[.pointer q] 47)).drew.lt) (fun e => by have := hgn b e.symm; omega)).trans (hb.alloc (.cells #[.pointer q] 47)).drew⟩
      exact ⟨g, cp, hL3, owns_set' hown2 (by simp [Value.ownBlock]; intro e; exact absurd e (Blk.ne' hL2 hown2 (by decide))) _, hK.trans (Kp.set _ (by simp) hnL _ _)⟩
  case rest =>
    obtain ⟨g, cp, hL1, hown1, hK1⟩ := hcut
    have q1 := hL1.cell (j := 1) rfl
    have q2 := hL1.cell (j := 2) rfl
    have q3 := hL1.cell (j := 3) rfl
    by_cases hlt : j + 1 < r
    · have hlt' : ((j : Nat) : Int) + 1 < ((r : Nat) : Int) := by omega
      go_wp2_with fail
      go_quiet (fail)
      go_wp2_with fail
      exact hA _ g cp hlt (hL1.drewN _) (owns_drewN hown1 _) (hK1.trans (Kp.of_below (below_drewN (Below.refl _ _) _) (by have := hK1.below.size; omega)))
    · obtain rfl : r = j + 1 := by omega
      clear hlt bj1
      go_wp2_with fail
      go_quiet (fail)
      go_wp2_with fail
      refine (hB _ g cp (by trivial) (hL1.drewN _) (owns_drewN hown1 _) (hK1.trans (Kp.of_below (below_drewN (Below.refl _ _) _) (by have := hK1.below.size; omega)))).mono ?_
      rintro e w2 ⟨v, rfl, hB2, hpost⟩
      have hL2 := (hL1.drewN nq).of_below hB2
      have hown2 : w2.ownsRow base 47 1 (.slice (some ⟨g, 0, none⟩) (j + 1) cp) (j + 1) (xs ++ [.pointer q]) := owns_step' (owns_drewN hown1 nq) hB2
      clear q1 q2 q3
      have q1 := hL2.cell (j := 1) rfl
      have q2 := hL2.cell (j := 2) rfl
      have f1 := hL2.frozen 1
      have f2 := hL2.frozen 2
      go_wp2_with fail
      go_region
      all_goals
        go_wp2_with fail
        have hL3 := ((hL2.set 1 (.slice (some ⟨g, 0, none⟩) (j + 1) cp)).set 2 (.slice lp 0 lc)).drew
        simp only [List.setIfInBounds_toArray, List.set_cons_zero, List.set_cons_succ] at hL3
        have hne := Blk.ne' hL2 hown2 (by decide)
        have hw2 : n ≤ w2.heap.size := by have := hK1.below.size; have := hB2.size; simp at this; omega
        exact hpost _ hL3 (owns_set' (owns_set' hown2 (by simp [Value.ownBlock]; exact hne) _) (by simp [Value.ownBlock]; exact hne) _) (((Kp.set _ (by simp) hnL _ _).trans (Kp.set _ (by simp) hnL _ _)).trans (Kp.of_below (Below.refl _ _).drew (by simp; omega)))
end Go.Proofs.Ytecolbdnaipgdaa
