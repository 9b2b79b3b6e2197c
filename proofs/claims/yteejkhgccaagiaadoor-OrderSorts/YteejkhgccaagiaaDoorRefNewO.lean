/- The contract of the document's own New. -/
import Derived.Test.YteejkhgccaagiaaDoorRefMemO
import Derived.Maps.AppendAt
namespace Go.Proofs.YteejkhgccaagiaaDoor
open Go.RowKit Go.Shelf Sx

theorem Tryd.infobools : (Tryd.prog.info? 91).map (fun i => (i.zero, i.size, i.bytes)) = some (some (.slice none 0 0), 1, 24) := by kernel_rfl
/-- In the middle of New. -/
structure RefMid (w W : World) (M : Value) (k n : Nat) (rb : Nat → Nat) : Prop where
  below : Below w.heap.size w W
  res : Blk W w.heap.size 46 #[.int .i64 0, .slice none 0 0]
  box : Blk W (w.heap.size + 1) 46 #[.int .i64 ((n : Nat) : Int), M]
  ref : RefM (w.heap.size + 2) W M k n rb (fun _ _ => false)
theorem RefMid.kept {w W W' : World} {M : Value} {k n : Nat} {rb : Nat → Nat} (h : RefMid w W M k n rb)
    (hg : ((W.drew.alloc (.cells (arrB (List.replicate n false)) 4)).alloc (.cells #[hdr n W.heap.size] 91)).grownBy W' M.ownBlock) : Blk W' (w.heap.size + 1) 46 #[.int .i64 ((n : Nat) : Int), M] :=
  (hg.block _ (by have := h.box.lt; simp; omega) (fun e => by have := (h.ref.own.lt _ e.symm).1; omega)).trans ((h.box.drew.alloc _).alloc _)
theorem RefMid.next {w W W' : World} {M M' : Value} {k n : Nat} {rb : Nat → Nat} (h : RefMid w W M k n rb)
    (hown : W'.ownsRow (w.heap.size + 2) 91 1 M' (k + 1) ((List.range k).map (fun p => hdr n (rb p)) ++ [hdr n W.heap.size]))
    (hg : ((W.drew.alloc (.cells (arrB (List.replicate n false)) 4)).alloc (.cells #[hdr n W.heap.size] 91)).grownBy W' M.ownBlock)
    (hat : M'.ownBlock = M.ownBlock ∨ M'.ownBlock = some ((W.drew.alloc (.cells (arrB (List.replicate n false)) 4)).alloc (.cells #[hdr n W.heap.size] 91)).heap.size) :
    RefMid w (W'.setCell ⟨w.heap.size + 1, 1, none⟩ M') M' (k + 1) n (fun p => if p = k then W.heap.size else rb p) := by
  have hx := h.box.lt
  have hge : ∀ g, M.ownBlock = some g → w.heap.size + 2 ≤ g := fun g e => (h.ref.own.lt g e).1
  have hlt : ∀ g, M.ownBlock = some g → g < W.heap.size := fun g e => (h.ref.own.lt g e).2
  have hB : Below w.heap.size w W' := ((h.below.drew.alloc (by have := h.below.size; simpa using this) _).alloc (by simp; omega) _).grown hg (by simp; omega) (fun g e => by have := hge g e; omega)
  have keep : ∀ (x : Nat) (t : TypeId) (cs : Array Value), Blk W x t cs → x < w.heap.size + 2 → Blk W' x t cs := fun x t cs hb hx2 =>
    (hg.block x (by have := hb.lt; simp; omega) (fun e => by have := hge x e.symm; omega)).trans ((hb.drew.alloc _).alloc _)
  have hR : RefM (w.heap.size + 2) W' M' (k + 1) n (fun p => if p = k then W.heap.size else rb p) (fun _ _ => false) := by
    refine ((h.ref.drew.alloc _).alloc _).more ?_ (by omega) ?_ ?_ hown hg ?_
    · rw [rowL_false]
      exact (Blk.new W.drew _ _).alloc _
    · intro p hp e
      have := (h.ref.row p hp).2.lt
      omega
    · intro e
      have := hlt _ e
      omega
    · rcases hat with hat | hat
      · exact .inl hat
      · exact .inr ⟨_, hat, Nat.le_refl _⟩
  refine ⟨hB.setCell (by simp) _, (keep _ _ _ h.res (by omega)).setOther (by simp) _, ?_, ?_⟩
  · have := (keep _ _ _ h.box (by omega)).set 1 M'
    simpa using this
  · exact hR.below' fun x hx _ => Below.heap_setCell W' ⟨w.heap.size + 1, 1, none⟩ M' x (by simp; omega)

set_option maxRecDepth 100000 in
set_option maxHeartbeats 4000000 in
theorem refNew_mid (N : Nat) (hN : N ≤ 256) (w : World) :
    Calls Tryd.prog 51 #[.int .i64 ((N : Nat) : Int)] w fun e w' => ∃ M rb, e = .returned (.agg #[.int .i64 ((N : Nat) : Int), M]) ∧ RefM w.heap.size w' M N N rb (fun _ _ => false) ∧ Below w.heap.size w w' := by
  obtain ⟨i0, hi, hz0, hz1, hz2⟩ := info_parts Tryd.infobools
  go_enter Tryd.func51, Tryd.ntmps51
  go_wp2_with fail
  go_loopw [4] (fun i wr => ∃ k M rb, k ≤ N ∧ i = .int .i64 ((k : Nat) : Int) ∧ RefMid w wr M k N rb) (fun i _ => N - (intOf i).toNat)
  case atStart =>
    refine ⟨0, .slice none 0 0, fun _ => 0, by omega, rfl, ?_, ?_, ?_, RefM.nil _ _ _ _ _⟩
    · exact ((Below.refl _ w).alloc (Nat.le_refl _) _).alloc (by simp) _
    · exact (Blk.new w _ _).alloc _
    · skip
      exact Blk.new2 w _ _ _
  case round =>
    obtain ⟨k, M, rb, hk, rfl, hR⟩ := hrel
    by_cases hlt : k < N
    · have cM := hR.box.cell (j := 1) rfl
      have cM1 := (hR.box.alloc (.cells (arrB (List.replicate N false)) 4)).cell (j := 1) rfl
      have cM3 := ((hR.box.alloc (.cells (arrB (List.replicate N false)) 4)).alloc (.cells #[hdr N wr.heap.size] 91)).cell (j := 1) rfl
      have hmk := make_bools N (by omega)
      go_wp2_with fail
      generalize hA : Act.mk _ _ = a0
      have hsz : a0.tmps.size = 24 := by rw [← hA]; rfl
      have b0 : Act.eval a0 (.tmp 0) = .int .i64 ((N : Nat) : Int) := by rw [← hA]; rfl
      have b3 : Act.eval a0 (.tmp 3) = pv (w.heap.size + 1) := by rw [← hA]; rfl
      refine wp_region_held_drew (S := fun _ => True) (by kernel_rfl) trivial (fun _ => ?_)
      refine any_take (i := 0) (d := some 16) (v := .pointer (some ⟨w.heap.size + 1, 1, none⟩)) rfl rfl (by kernel_rfl) (by kernel_rfl) (by kernel_rfl) (fun _ _ _ h => h) (by rfl) ?_ ?_
      · intro w9
        have e3 := b3
        have ec : ∀ v, Act.eval a0 (.const v) = v := fun _ => rfl
        have ef : ∀ f, Act.eval a0 (.func f) = .func (.func f) #[] #[] := fun _ => rfl
        generalize Act.eval a0 = ρ at *
        simp only [List.getElem_toArray, List.getElem_cons_zero]
        go_simp
      refine any_take (i := 2) (d := some 18) (v := .int .i64 ((N : Nat) : Int)) rfl rfl (by kernel_rfl) (by kernel_rfl) (by kernel_rfl) (fun _ _ _ h => h) (by rfl) ?_ ?_
      · intro w9
        have e0 : Act.eval (a0.put (some 16) (.pointer (some ⟨w.heap.size + 1, 1, none⟩))) (.tmp 0) = .int .i64 ((N : Nat) : Int) := by rw [Act.eval_put_ne _ _ _ _ (by decide), b0]
        have ec : ∀ v, Act.eval (a0.put (some 16) (.pointer (some ⟨w.heap.size + 1, 1, none⟩))) (.const v) = v := fun _ => rfl
        have ef : ∀ f, Act.eval (a0.put (some 16) (.pointer (some ⟨w.heap.size + 1, 1, none⟩))) (.func f) = .func (.func f) #[] #[] := fun _ => rfl
        generalize Act.eval (a0.put (some 16) (.pointer (some ⟨w.heap.size + 1, 1, none⟩))) = ρ at *
        simp only [List.getElem_toArray, List.getElem_cons_zero, List.getElem_cons_succ]
        go_simp
      refine wpAnyH_ready (rs := [1, 3]) (by kernel_rfl) (by simp) ?_
      refine any_value (i := 1) (d := some 17) (v := M) (w' := wr.drew) rfl rfl (by rfl) ?_ ?_ ?_
      · skip
        have e16 : Act.eval ((a0.put (some 16) (.pointer (some ⟨w.heap.size + 1, 1, none⟩))).put (some 18) (.int .i64 ((N : Nat) : Int))) (.tmp 16) = .pointer (some ⟨w.heap.size + 1, 1, none⟩) := by rw [Act.eval_put_ne _ _ _ _ (by decide), Act.eval_put_same _ _ _ (by (repeat rw [Act.size_put]); omega)]
        have ec : ∀ v, Act.eval ((a0.put (some 16) (.pointer (some ⟨w.heap.size + 1, 1, none⟩))).put (some 18) (.int .i64 ((N : Nat) : Int))) (.const v) = v := fun _ => rfl
        have ef : ∀ f, Act.eval ((a0.put (some 16) (.pointer (some ⟨w.heap.size + 1, 1, none⟩))).put (some 18) (.int .i64 ((N : Nat) : Int))) (.func f) = .func (.func f) #[] #[] := fun _ => rfl
        generalize Act.eval ((a0.put (some 16) (.pointer (some ⟨w.heap.size + 1, 1, none⟩))).put (some 18) (.int .i64 ((N : Nat) : Int))) = ρ at *
        simp only [List.getElem_toArray, List.getElem_cons_zero, List.getElem_cons_succ]
        go_simp
      · skip
        refine wpAnyH_ready (rs := [3]) (by kernel_rfl) (by simp) ?_
        refine any_value (i := 3) (d := some 19) (v := hdr N wr.heap.size) (w' := (wr.drew.alloc (.cells (arrB (List.replicate N false)) 4))) rfl rfl (by rfl) ?_ ?_ AllReadyH.nil
        · skip
          have e18 : Act.eval (((a0.put (some 16) (.pointer (some ⟨w.heap.size + 1, 1, none⟩))).put (some 18) (.int .i64 ((N : Nat) : Int))).put (some 17) (M)) (.tmp 18) = .int .i64 ((N : Nat) : Int) := by rw [Act.eval_put_ne _ _ _ _ (by decide), Act.eval_put_same _ _ _ (by (repeat rw [Act.size_put]); omega)]
          have ec : ∀ v, Act.eval (((a0.put (some 16) (.pointer (some ⟨w.heap.size + 1, 1, none⟩))).put (some 18) (.int .i64 ((N : Nat) : Int))).put (some 17) (M)) (.const v) = v := fun _ => rfl
          have ef : ∀ f, Act.eval (((a0.put (some 16) (.pointer (some ⟨w.heap.size + 1, 1, none⟩))).put (some 18) (.int .i64 ((N : Nat) : Int))).put (some 17) (M)) (.func f) = .func (.func f) #[] #[] := fun _ => rfl
          generalize Act.eval (((a0.put (some 16) (.pointer (some ⟨w.heap.size + 1, 1, none⟩))).put (some 18) (.int .i64 ((N : Nat) : Int))).put (some 17) (M)) = ρ at *
          simp only [List.getElem_toArray, List.getElem_cons_zero, List.getElem_cons_succ]
          go_simp
        refine wpAnyH_ready (rs := [4]) (by kernel_rfl) (by simp) ?_
        refine any_value (i := 4) (d := some 20) (v := .slice (some ⟨wr.heap.size + 1, 0, none⟩) 1 1) (w' := ((wr.drew.alloc (.cells (arrB (List.replicate N false)) 4)).alloc (.cells #[hdr N wr.heap.size] 91))) rfl rfl (by rfl) ?_ ?_ AllReadyH.nil
        · skip
          have e19 : Act.eval ((((a0.put (some 16) (.pointer (some ⟨w.heap.size + 1, 1, none⟩))).put (some 18) (.int .i64 ((N : Nat) : Int))).put (some 17) (M)).put (some 19) (hdr N wr.heap.size)) (.tmp 19) = hdr N wr.heap.size := by rw [Act.eval_put_same _ _ _ (by (repeat rw [Act.size_put]); omega)]
          have ec : ∀ v, Act.eval ((((a0.put (some 16) (.pointer (some ⟨w.heap.size + 1, 1, none⟩))).put (some 18) (.int .i64 ((N : Nat) : Int))).put (some 17) (M)).put (some 19) (hdr N wr.heap.size)) (.const v) = v := fun _ => rfl
          have ef : ∀ f, Act.eval ((((a0.put (some 16) (.pointer (some ⟨w.heap.size + 1, 1, none⟩))).put (some 18) (.int .i64 ((N : Nat) : Int))).put (some 17) (M)).put (some 19) (hdr N wr.heap.size)) (.func f) = .func (.func f) #[] #[] := fun _ => rfl
          generalize Act.eval ((((a0.put (some 16) (.pointer (some ⟨w.heap.size + 1, 1, none⟩))).put (some 18) (.int .i64 ((N : Nat) : Int))).put (some 17) (M)).put (some 19) (hdr N wr.heap.size)) = ρ at *
          simp only [List.getElem_toArray, List.getElem_cons_zero, List.getElem_cons_succ]
          go_simp
        refine wpAnyH_ready (rs := [5]) (by kernel_rfl) (by simp) ?_
        obtain ⟨M2, w2, hr, hown, hg, _, hat⟩ := run_append_own_at (P := Tryd.prog) ((wr.drew.alloc (.cells (arrB (List.replicate N false)) 4)).alloc (.cells #[hdr N wr.heap.size] 91)) (w.heap.size + 2) 44 44 91 i0 (.slice none 0 0) 1 24 Tryd.underlying44 hi hz0 hz1 hz2 rfl (by decide) M k _ ((hR.ref.drew.alloc _).alloc _).own ⟨wr.heap.size + 1, 0, none⟩ 1 1 [hdr N wr.heap.size] rfl (by have := cell_one_new (wr.drew.alloc (.cells (arrB (List.replicate N false)) 4)) (hdr N wr.heap.size) 91; simpa using this) (by simp [Value.oneCell']) (by unfold maxLen; omega) (by omega) (by have := hR.below.size; have := hR.box.lt; simp; omega)
        obtain ⟨g2, cap2, rfl⟩ := ownsRow_succ hown
        refine any_value (i := 5) (d := some 21) (v := .slice (some ⟨g2, 0, none⟩) (k + 1) cap2) (w' := w2) rfl rfl (by rfl) ?_ ?_ AllReadyH.nil
        · skip
          have e17 : Act.eval (((((a0.put (some 16) (.pointer (some ⟨w.heap.size + 1, 1, none⟩))).put (some 18) (.int .i64 ((N : Nat) : Int))).put (some 17) (M)).put (some 19) (hdr N wr.heap.size)).put (some 20) (.slice (some ⟨wr.heap.size + 1, 0, none⟩) 1 1)) (.tmp 17) = M := by rw [Act.eval_put_ne _ _ _ _ (by decide), Act.eval_put_ne _ _ _ _ (by decide), Act.eval_put_same _ _ _ (by (repeat rw [Act.size_put]); omega)]
          have e20 : Act.eval (((((a0.put (some 16) (.pointer (some ⟨w.heap.size + 1, 1, none⟩))).put (some 18) (.int .i64 ((N : Nat) : Int))).put (some 17) (M)).put (some 19) (hdr N wr.heap.size)).put (some 20) (.slice (some ⟨wr.heap.size + 1, 0, none⟩) 1 1)) (.tmp 20) = .slice (some ⟨wr.heap.size + 1, 0, none⟩) 1 1 := by rw [Act.eval_put_same _ _ _ (by (repeat rw [Act.size_put]); omega)]
          have ec : ∀ v, Act.eval (((((a0.put (some 16) (.pointer (some ⟨w.heap.size + 1, 1, none⟩))).put (some 18) (.int .i64 ((N : Nat) : Int))).put (some 17) (M)).put (some 19) (hdr N wr.heap.size)).put (some 20) (.slice (some ⟨wr.heap.size + 1, 0, none⟩) 1 1)) (.const v) = v := fun _ => rfl
          have ef : ∀ f, Act.eval (((((a0.put (some 16) (.pointer (some ⟨w.heap.size + 1, 1, none⟩))).put (some 18) (.int .i64 ((N : Nat) : Int))).put (some 17) (M)).put (some 19) (hdr N wr.heap.size)).put (some 20) (.slice (some ⟨wr.heap.size + 1, 0, none⟩) 1 1)) (.func f) = .func (.func f) #[] #[] := fun _ => rfl
          generalize Act.eval (((((a0.put (some 16) (.pointer (some ⟨w.heap.size + 1, 1, none⟩))).put (some 18) (.int .i64 ((N : Nat) : Int))).put (some 17) (M)).put (some 19) (hdr N wr.heap.size)).put (some 20) (.slice (some ⟨wr.heap.size + 1, 0, none⟩) 1 1)) = ρ at *
          simp only [List.getElem_toArray, List.getElem_cons_zero, List.getElem_cons_succ]
          unfold execOp
          simp only [resolve, invoke, builtin, Sem.run_bind, Sem.run_pure, Result.andThen_ok, List.map_toArray, List.map_cons, List.map_nil, e17, e20, hr]
          done
        have hR2 := hR.next hown hg hat
        have hb2 := hR.kept hg
        have cM2 := hb2.cell (j := 1) rfl
        have fz2 := hb2.frozen 1
        refine any_take (i := 6) (d := some 22) (v := .pointer (some ⟨w.heap.size + 1, 1, none⟩)) rfl rfl (by kernel_rfl) (by kernel_rfl) (by kernel_rfl) (fun _ _ _ h => h) (by rfl) ?_ ?_
        · intro w9
          have e3 : Act.eval ((((((a0.put (some 16) (.pointer (some ⟨w.heap.size + 1, 1, none⟩))).put (some 18) (.int .i64 ((N : Nat) : Int))).put (some 17) (M)).put (some 19) (hdr N wr.heap.size)).put (some 20) (.slice (some ⟨wr.heap.size + 1, 0, none⟩) 1 1)).put (some 21) (.slice (some ⟨g2, 0, none⟩) (k + 1) cap2)) (.tmp 3) = pv (w.heap.size + 1) := by rw [Act.eval_put_ne _ _ _ _ (by decide), Act.eval_put_ne _ _ _ _ (by decide), Act.eval_put_ne _ _ _ _ (by decide), Act.eval_put_ne _ _ _ _ (by decide), Act.eval_put_ne _ _ _ _ (by decide), Act.eval_put_ne _ _ _ _ (by decide), b3]
          have ec : ∀ v, Act.eval ((((((a0.put (some 16) (.pointer (some ⟨w.heap.size + 1, 1, none⟩))).put (some 18) (.int .i64 ((N : Nat) : Int))).put (some 17) (M)).put (some 19) (hdr N wr.heap.size)).put (some 20) (.slice (some ⟨wr.heap.size + 1, 0, none⟩) 1 1)).put (some 21) (.slice (some ⟨g2, 0, none⟩) (k + 1) cap2)) (.const v) = v := fun _ => rfl
          have ef : ∀ f, Act.eval ((((((a0.put (some 16) (.pointer (some ⟨w.heap.size + 1, 1, none⟩))).put (some 18) (.int .i64 ((N : Nat) : Int))).put (some 17) (M)).put (some 19) (hdr N wr.heap.size)).put (some 20) (.slice (some ⟨wr.heap.size + 1, 0, none⟩) 1 1)).put (some 21) (.slice (some ⟨g2, 0, none⟩) (k + 1) cap2)) (.func f) = .func (.func f) #[] #[] := fun _ => rfl
          generalize Act.eval ((((((a0.put (some 16) (.pointer (some ⟨w.heap.size + 1, 1, none⟩))).put (some 18) (.int .i64 ((N : Nat) : Int))).put (some 17) (M)).put (some 19) (hdr N wr.heap.size)).put (some 20) (.slice (some ⟨wr.heap.size + 1, 0, none⟩) 1 1)).put (some 21) (.slice (some ⟨g2, 0, none⟩) (k + 1) cap2)) = ρ at *
          simp only [List.getElem_toArray, List.getElem_cons_zero, List.getElem_cons_succ]
          go_simp
        refine wpAnyH_ready (rs := [7]) (by kernel_rfl) (by simp) ?_
        refine any_skip (i := 7) (d := none) (w' := w2.setCell ⟨w.heap.size + 1, 1, none⟩ (.slice (some ⟨g2, 0, none⟩) (k + 1) cap2)) rfl rfl (by rfl) ?_ ?_ AllReadyH.nil
        · skip
          have e21 : Act.eval (((((((a0.put (some 16) (.pointer (some ⟨w.heap.size + 1, 1, none⟩))).put (some 18) (.int .i64 ((N : Nat) : Int))).put (some 17) (M)).put (some 19) (hdr N wr.heap.size)).put (some 20) (.slice (some ⟨wr.heap.size + 1, 0, none⟩) 1 1)).put (some 21) (.slice (some ⟨g2, 0, none⟩) (k + 1) cap2)).put (some 22) (.pointer (some ⟨w.heap.size + 1, 1, none⟩))) (.tmp 21) = .slice (some ⟨g2, 0, none⟩) (k + 1) cap2 := by rw [Act.eval_put_ne _ _ _ _ (by decide), Act.eval_put_same _ _ _ (by (repeat rw [Act.size_put]); omega)]
          have e22 : Act.eval (((((((a0.put (some 16) (.pointer (some ⟨w.heap.size + 1, 1, none⟩))).put (some 18) (.int .i64 ((N : Nat) : Int))).put (some 17) (M)).put (some 19) (hdr N wr.heap.size)).put (some 20) (.slice (some ⟨wr.heap.size + 1, 0, none⟩) 1 1)).put (some 21) (.slice (some ⟨g2, 0, none⟩) (k + 1) cap2)).put (some 22) (.pointer (some ⟨w.heap.size + 1, 1, none⟩))) (.tmp 22) = .pointer (some ⟨w.heap.size + 1, 1, none⟩) := by rw [Act.eval_put_same _ _ _ (by (repeat rw [Act.size_put]); omega)]
          have ec : ∀ v, Act.eval (((((((a0.put (some 16) (.pointer (some ⟨w.heap.size + 1, 1, none⟩))).put (some 18) (.int .i64 ((N : Nat) : Int))).put (some 17) (M)).put (some 19) (hdr N wr.heap.size)).put (some 20) (.slice (some ⟨wr.heap.size + 1, 0, none⟩) 1 1)).put (some 21) (.slice (some ⟨g2, 0, none⟩) (k + 1) cap2)).put (some 22) (.pointer (some ⟨w.heap.size + 1, 1, none⟩))) (.const v) = v := fun _ => rfl
          have ef : ∀ f, Act.eval (((((((a0.put (some 16) (.pointer (some ⟨w.heap.size + 1, 1, none⟩))).put (some 18) (.int .i64 ((N : Nat) : Int))).put (some 17) (M)).put (some 19) (hdr N wr.heap.size)).put (some 20) (.slice (some ⟨wr.heap.size + 1, 0, none⟩) 1 1)).put (some 21) (.slice (some ⟨g2, 0, none⟩) (k + 1) cap2)).put (some 22) (.pointer (some ⟨w.heap.size + 1, 1, none⟩))) (.func f) = .func (.func f) #[] #[] := fun _ => rfl
          generalize Act.eval (((((((a0.put (some 16) (.pointer (some ⟨w.heap.size + 1, 1, none⟩))).put (some 18) (.int .i64 ((N : Nat) : Int))).put (some 17) (M)).put (some 19) (hdr N wr.heap.size)).put (some 20) (.slice (some ⟨wr.heap.size + 1, 0, none⟩) 1 1)).put (some 21) (.slice (some ⟨g2, 0, none⟩) (k + 1) cap2)).put (some 22) (.pointer (some ⟨w.heap.size + 1, 1, none⟩))) = ρ at *
          simp only [List.getElem_toArray, List.getElem_cons_zero, List.getElem_cons_succ]
          go_simp
        refine wpAnyH_done (by kernel_rfl) ?_ _
        subst hA
        simp only [Act.put, List.setIfInBounds_toArray, List.set_cons_zero, List.set_cons_succ]
        go_wp2_with fail
        refine ⟨⟨k + 1, _, _, by omega, by go_num, hR2⟩, by simp [intOf]; omega⟩
      refine any_value (i := 3) (d := some 19) (v := hdr N wr.heap.size) (w' := (wr.drew.alloc (.cells (arrB (List.replicate N false)) 4))) rfl rfl (by rfl) ?_ ?_ AllReadyH.nil
      · skip
        have e18 : Act.eval ((a0.put (some 16) (.pointer (some ⟨w.heap.size + 1, 1, none⟩))).put (some 18) (.int .i64 ((N : Nat) : Int))) (.tmp 18) = .int .i64 ((N : Nat) : Int) := by rw [Act.eval_put_same _ _ _ (by (repeat rw [Act.size_put]); omega)]
        have ec : ∀ v, Act.eval ((a0.put (some 16) (.pointer (some ⟨w.heap.size + 1, 1, none⟩))).put (some 18) (.int .i64 ((N : Nat) : Int))) (.const v) = v := fun _ => rfl
        have ef : ∀ f, Act.eval ((a0.put (some 16) (.pointer (some ⟨w.heap.size + 1, 1, none⟩))).put (some 18) (.int .i64 ((N : Nat) : Int))) (.func f) = .func (.func f) #[] #[] := fun _ => rfl
        generalize Act.eval ((a0.put (some 16) (.pointer (some ⟨w.heap.size + 1, 1, none⟩))).put (some 18) (.int .i64 ((N : Nat) : Int))) = ρ at *
        simp only [List.getElem_toArray, List.getElem_cons_zero, List.getElem_cons_succ]
        go_simp
      refine wpAnyH_ready (rs := [1, 4]) (by kernel_rfl) (by simp) ?_
      refine any_value (i := 1) (d := some 17) (v := M) (w' := (wr.drew.alloc (.cells (arrB (List.replicate N false)) 4))) rfl rfl (by rfl) ?_ ?_ ?_
      · skip
        have e16 : Act.eval (((a0.put (some 16) (.pointer (some ⟨w.heap.size + 1, 1, none⟩))).put (some 18) (.int .i64 ((N : Nat) : Int))).put (some 19) (hdr N wr.heap.size)) (.tmp 16) = .pointer (some ⟨w.heap.size + 1, 1, none⟩) := by rw [Act.eval_put_ne _ _ _ _ (by decide), Act.eval_put_ne _ _ _ _ (by decide), Act.eval_put_same _ _ _ (by (repeat rw [Act.size_put]); omega)]
        have ec : ∀ v, Act.eval (((a0.put (some 16) (.pointer (some ⟨w.heap.size + 1, 1, none⟩))).put (some 18) (.int .i64 ((N : Nat) : Int))).put (some 19) (hdr N wr.heap.size)) (.const v) = v := fun _ => rfl
        have ef : ∀ f, Act.eval (((a0.put (some 16) (.pointer (some ⟨w.heap.size + 1, 1, none⟩))).put (some 18) (.int .i64 ((N : Nat) : Int))).put (some 19) (hdr N wr.heap.size)) (.func f) = .func (.func f) #[] #[] := fun _ => rfl
        generalize Act.eval (((a0.put (some 16) (.pointer (some ⟨w.heap.size + 1, 1, none⟩))).put (some 18) (.int .i64 ((N : Nat) : Int))).put (some 19) (hdr N wr.heap.size)) = ρ at *
        simp only [List.getElem_toArray, List.getElem_cons_zero, List.getElem_cons_succ]
        go_simp
      · skip
        refine wpAnyH_ready (rs := [4]) (by kernel_rfl) (by simp) ?_
        refine any_value (i := 4) (d := some 20) (v := .slice (some ⟨wr.heap.size + 1, 0, none⟩) 1 1) (w' := ((wr.drew.alloc (.cells (arrB (List.replicate N false)) 4)).alloc (.cells #[hdr N wr.heap.size] 91))) rfl rfl (by rfl) ?_ ?_ AllReadyH.nil
        · skip
          have e19 : Act.eval ((((a0.put (some 16) (.pointer (some ⟨w.heap.size + 1, 1, none⟩))).put (some 18) (.int .i64 ((N : Nat) : Int))).put (some 19) (hdr N wr.heap.size)).put (some 17) (M)) (.tmp 19) = hdr N wr.heap.size := by rw [Act.eval_put_ne _ _ _ _ (by decide), Act.eval_put_same _ _ _ (by (repeat rw [Act.size_put]); omega)]
          have ec : ∀ v, Act.eval ((((a0.put (some 16) (.pointer (some ⟨w.heap.size + 1, 1, none⟩))).put (some 18) (.int .i64 ((N : Nat) : Int))).put (some 19) (hdr N wr.heap.size)).put (some 17) (M)) (.const v) = v := fun _ => rfl
          have ef : ∀ f, Act.eval ((((a0.put (some 16) (.pointer (some ⟨w.heap.size + 1, 1, none⟩))).put (some 18) (.int .i64 ((N : Nat) : Int))).put (some 19) (hdr N wr.heap.size)).put (some 17) (M)) (.func f) = .func (.func f) #[] #[] := fun _ => rfl
          generalize Act.eval ((((a0.put (some 16) (.pointer (some ⟨w.heap.size + 1, 1, none⟩))).put (some 18) (.int .i64 ((N : Nat) : Int))).put (some 19) (hdr N wr.heap.size)).put (some 17) (M)) = ρ at *
          simp only [List.getElem_toArray, List.getElem_cons_zero, List.getElem_cons_succ]
          go_simp
        refine wpAnyH_ready (rs := [5]) (by kernel_rfl) (by simp) ?_
        obtain ⟨M2, w2, hr, hown, hg, _, hat⟩ := run_append_own_at (P := Tryd.prog) ((wr.drew.alloc (.cells (arrB (List.replicate N false)) 4)).alloc (.cells #[hdr N wr.heap.size] 91)) (w.heap.size + 2) 44 44 91 i0 (.slice none 0 0) 1 24 Tryd.underlying44 hi hz0 hz1 hz2 rfl (by decide) M k _ ((hR.ref.drew.alloc _).alloc _).own ⟨wr.heap.size + 1, 0, none⟩ 1 1 [hdr N wr.heap.size] rfl (by have := cell_one_new (wr.drew.alloc (.cells (arrB (List.replicate N false)) 4)) (hdr N wr.heap.size) 91; simpa using this) (by simp [Value.oneCell']) (by unfold maxLen; omega) (by omega) (by have := hR.below.size; have := hR.box.lt; simp; omega)
        obtain ⟨g2, cap2, rfl⟩ := ownsRow_succ hown
        refine any_value (i := 5) (d := some 21) (v := .slice (some ⟨g2, 0, none⟩) (k + 1) cap2) (w' := w2) rfl rfl (by rfl) ?_ ?_ AllReadyH.nil
        · skip
          have e17 : Act.eval (((((a0.put (some 16) (.pointer (some ⟨w.heap.size + 1, 1, none⟩))).put (some 18) (.int .i64 ((N : Nat) : Int))).put (some 19) (hdr N wr.heap.size)).put (some 17) (M)).put (some 20) (.slice (some ⟨wr.heap.size + 1, 0, none⟩) 1 1)) (.tmp 17) = M := by rw [Act.eval_put_ne _ _ _ _ (by decide), Act.eval_put_same _ _ _ (by (repeat rw [Act.size_put]); omega)]
          have e20 : Act.eval (((((a0.put (some 16) (.pointer (some ⟨w.heap.size + 1, 1, none⟩))).put (some 18) (.int .i64 ((N : Nat) : Int))).put (some 19) (hdr N wr.heap.size)).put (some 17) (M)).put (some 20) (.slice (some ⟨wr.heap.size + 1, 0, none⟩) 1 1)) (.tmp 20) = .slice (some ⟨wr.heap.size + 1, 0, none⟩) 1 1 := by rw [Act.eval_put_same _ _ _ (by (repeat rw [Act.size_put]); omega)]
          have ec : ∀ v, Act.eval (((((a0.put (some 16) (.pointer (some ⟨w.heap.size + 1, 1, none⟩))).put (some 18) (.int .i64 ((N : Nat) : Int))).put (some 19) (hdr N wr.heap.size)).put (some 17) (M)).put (some 20) (.slice (some ⟨wr.heap.size + 1, 0, none⟩) 1 1)) (.const v) = v := fun _ => rfl
          have ef : ∀ f, Act.eval (((((a0.put (some 16) (.pointer (some ⟨w.heap.size + 1, 1, none⟩))).put (some 18) (.int .i64 ((N : Nat) : Int))).put (some 19) (hdr N wr.heap.size)).put (some 17) (M)).put (some 20) (.slice (some ⟨wr.heap.size + 1, 0, none⟩) 1 1)) (.func f) = .func (.func f) #[] #[] := fun _ => rfl
          generalize Act.eval (((((a0.put (some 16) (.pointer (some ⟨w.heap.size + 1, 1, none⟩))).put (some 18) (.int .i64 ((N : Nat) : Int))).put (some 19) (hdr N wr.heap.size)).put (some 17) (M)).put (some 20) (.slice (some ⟨wr.heap.size + 1, 0, none⟩) 1 1)) = ρ at *
          simp only [List.getElem_toArray, List.getElem_cons_zero, List.getElem_cons_succ]
          unfold execOp
          simp only [resolve, invoke, builtin, Sem.run_bind, Sem.run_pure, Result.andThen_ok, List.map_toArray, List.map_cons, List.map_nil, e17, e20, hr]
          done
        have hR2 := hR.next hown hg hat
        have hb2 := hR.kept hg
        have cM2 := hb2.cell (j := 1) rfl
        have fz2 := hb2.frozen 1
        refine any_take (i := 6) (d := some 22) (v := .pointer (some ⟨w.heap.size + 1, 1, none⟩)) rfl rfl (by kernel_rfl) (by kernel_rfl) (by kernel_rfl) (fun _ _ _ h => h) (by rfl) ?_ ?_
        · intro w9
          have e3 : Act.eval ((((((a0.put (some 16) (.pointer (some ⟨w.heap.size + 1, 1, none⟩))).put (some 18) (.int .i64 ((N : Nat) : Int))).put (some 19) (hdr N wr.heap.size)).put (some 17) (M)).put (some 20) (.slice (some ⟨wr.heap.size + 1, 0, none⟩) 1 1)).put (some 21) (.slice (some ⟨g2, 0, none⟩) (k + 1) cap2)) (.tmp 3) = pv (w.heap.size + 1) := by rw [Act.eval_put_ne _ _ _ _ (by decide), Act.eval_put_ne _ _ _ _ (by decide), Act.eval_put_ne _ _ _ _ (by decide), Act.eval_put_ne _ _ _ _ (by decide), Act.eval_put_ne _ _ _ _ (by decide), Act.eval_put_ne _ _ _ _ (by decide), b3]
          have ec : ∀ v, Act.eval ((((((a0.put (some 16) (.pointer (some ⟨w.heap.size + 1, 1, none⟩))).put (some 18) (.int .i64 ((N : Nat) : Int))).put (some 19) (hdr N wr.heap.size)).put (some 17) (M)).put (some 20) (.slice (some ⟨wr.heap.size + 1, 0, none⟩) 1 1)).put (some 21) (.slice (some ⟨g2, 0, none⟩) (k + 1) cap2)) (.const v) = v := fun _ => rfl
          have ef : ∀ f, Act.eval ((((((a0.put (some 16) (.pointer (some ⟨w.heap.size + 1, 1, none⟩))).put (some 18) (.int .i64 ((N : Nat) : Int))).put (some 19) (hdr N wr.heap.size)).put (some 17) (M)).put (some 20) (.slice (some ⟨wr.heap.size + 1, 0, none⟩) 1 1)).put (some 21) (.slice (some ⟨g2, 0, none⟩) (k + 1) cap2)) (.func f) = .func (.func f) #[] #[] := fun _ => rfl
          generalize Act.eval ((((((a0.put (some 16) (.pointer (some ⟨w.heap.size + 1, 1, none⟩))).put (some 18) (.int .i64 ((N : Nat) : Int))).put (some 19) (hdr N wr.heap.size)).put (some 17) (M)).put (some 20) (.slice (some ⟨wr.heap.size + 1, 0, none⟩) 1 1)).put (some 21) (.slice (some ⟨g2, 0, none⟩) (k + 1) cap2)) = ρ at *
          simp only [List.getElem_toArray, List.getElem_cons_zero, List.getElem_cons_succ]
          go_simp
        refine wpAnyH_ready (rs := [7]) (by kernel_rfl) (by simp) ?_
        refine any_skip (i := 7) (d := none) (w' := w2.setCell ⟨w.heap.size + 1, 1, none⟩ (.slice (some ⟨g2, 0, none⟩) (k + 1) cap2)) rfl rfl (by rfl) ?_ ?_ AllReadyH.nil
        · skip
          have e21 : Act.eval (((((((a0.put (some 16) (.pointer (some ⟨w.heap.size + 1, 1, none⟩))).put (some 18) (.int .i64 ((N : Nat) : Int))).put (some 19) (hdr N wr.heap.size)).put (some 17) (M)).put (some 20) (.slice (some ⟨wr.heap.size + 1, 0, none⟩) 1 1)).put (some 21) (.slice (some ⟨g2, 0, none⟩) (k + 1) cap2)).put (some 22) (.pointer (some ⟨w.heap.size + 1, 1, none⟩))) (.tmp 21) = .slice (some ⟨g2, 0, none⟩) (k + 1) cap2 := by rw [Act.eval_put_ne _ _ _ _ (by decide), Act.eval_put_same _ _ _ (by (repeat rw [Act.size_put]); omega)]
          have e22 : Act.eval (((((((a0.put (some 16) (.pointer (some ⟨w.heap.size + 1, 1, none⟩))).put (some 18) (.int .i64 ((N : Nat) : Int))).put (some 19) (hdr N wr.heap.size)).put (some 17) (M)).put (some 20) (.slice (some ⟨wr.heap.size + 1, 0, none⟩) 1 1)).put (some 21) (.slice (some ⟨g2, 0, none⟩) (k + 1) cap2)).put (some 22) (.pointer (some ⟨w.heap.size + 1, 1, none⟩))) (.tmp 22) = .pointer (some ⟨w.heap.size + 1, 1, none⟩) := by rw [Act.eval_put_same _ _ _ (by (repeat rw [Act.size_put]); omega)]
          have ec : ∀ v, Act.eval (((((((a0.put (some 16) (.pointer (some ⟨w.heap.size + 1, 1, none⟩))).put (some 18) (.int .i64 ((N : Nat) : Int))).put (some 19) (hdr N wr.heap.size)).put (some 17) (M)).put (some 20) (.slice (some ⟨wr.heap.size + 1, 0, none⟩) 1 1)).put (some 21) (.slice (some ⟨g2, 0, none⟩) (k + 1) cap2)).put (some 22) (.pointer (some ⟨w.heap.size + 1, 1, none⟩))) (.const v) = v := fun _ => rfl
          have ef : ∀ f, Act.eval (((((((a0.put (some 16) (.pointer (some ⟨w.heap.size + 1, 1, none⟩))).put (some 18) (.int .i64 ((N : Nat) : Int))).put (some 19) (hdr N wr.heap.size)).put (some 17) (M)).put (some 20) (.slice (some ⟨wr.heap.size + 1, 0, none⟩) 1 1)).put (some 21) (.slice (some ⟨g2, 0, none⟩) (k + 1) cap2)).put (some 22) (.pointer (some ⟨w.heap.size + 1, 1, none⟩))) (.func f) = .func (.func f) #[] #[] := fun _ => rfl
          generalize Act.eval (((((((a0.put (some 16) (.pointer (some ⟨w.heap.size + 1, 1, none⟩))).put (some 18) (.int .i64 ((N : Nat) : Int))).put (some 19) (hdr N wr.heap.size)).put (some 17) (M)).put (some 20) (.slice (some ⟨wr.heap.size + 1, 0, none⟩) 1 1)).put (some 21) (.slice (some ⟨g2, 0, none⟩) (k + 1) cap2)).put (some 22) (.pointer (some ⟨w.heap.size + 1, 1, none⟩))) = ρ at *
          simp only [List.getElem_toArray, List.getElem_cons_zero, List.getElem_cons_succ]
          go_simp
        refine wpAnyH_done (by kernel_rfl) ?_ _
        subst hA
        simp only [Act.put, List.setIfInBounds_toArray, List.set_cons_zero, List.set_cons_succ]
        go_wp2_with fail
        refine ⟨⟨k + 1, _, _, by omega, by go_num, hR2⟩, by simp [intOf]; omega⟩
      refine any_value (i := 4) (d := some 20) (v := .slice (some ⟨wr.heap.size + 1, 0, none⟩) 1 1) (w' := ((wr.drew.alloc (.cells (arrB (List.replicate N false)) 4)).alloc (.cells #[hdr N wr.heap.size] 91))) rfl rfl (by rfl) ?_ ?_ AllReadyH.nil
      · skip
        have e19 : Act.eval (((a0.put (some 16) (.pointer (some ⟨w.heap.size + 1, 1, none⟩))).put (some 18) (.int .i64 ((N : Nat) : Int))).put (some 19) (hdr N wr.heap.size)) (.tmp 19) = hdr N wr.heap.size := by rw [Act.eval_put_same _ _ _ (by (repeat rw [Act.size_put]); omega)]
        have ec : ∀ v, Act.eval (((a0.put (some 16) (.pointer (some ⟨w.heap.size + 1, 1, none⟩))).put (some 18) (.int .i64 ((N : Nat) : Int))).put (some 19) (hdr N wr.heap.size)) (.const v) = v := fun _ => rfl
        have ef : ∀ f, Act.eval (((a0.put (some 16) (.pointer (some ⟨w.heap.size + 1, 1, none⟩))).put (some 18) (.int .i64 ((N : Nat) : Int))).put (some 19) (hdr N wr.heap.size)) (.func f) = .func (.func f) #[] #[] := fun _ => rfl
        generalize Act.eval (((a0.put (some 16) (.pointer (some ⟨w.heap.size + 1, 1, none⟩))).put (some 18) (.int .i64 ((N : Nat) : Int))).put (some 19) (hdr N wr.heap.size)) = ρ at *
        simp only [List.getElem_toArray, List.getElem_cons_zero, List.getElem_cons_succ]
        go_simp
      refine wpAnyH_ready (rs := [1]) (by kernel_rfl) (by simp) ?_
      refine any_value (i := 1) (d := some 17) (v := M) (w' := ((wr.drew.alloc (.cells (arrB (List.replicate N false)) 4)).alloc (.cells #[hdr N wr.heap.size] 91))) rfl rfl (by rfl) ?_ ?_ AllReadyH.nil
      · skip
        have e16 : Act.eval ((((a0.put (some 16) (.pointer (some ⟨w.heap.size + 1, 1, none⟩))).put (some 18) (.int .i64 ((N : Nat) : Int))).put (some 19) (hdr N wr.heap.size)).put (some 20) (.slice (some ⟨wr.heap.size + 1, 0, none⟩) 1 1)) (.tmp 16) = .pointer (some ⟨w.heap.size + 1, 1, none⟩) := by rw [Act.eval_put_ne _ _ _ _ (by decide), Act.eval_put_ne _ _ _ _ (by decide), Act.eval_put_ne _ _ _ _ (by decide), Act.eval_put_same _ _ _ (by (repeat rw [Act.size_put]); omega)]
        have ec : ∀ v, Act.eval ((((a0.put (some 16) (.pointer (some ⟨w.heap.size + 1, 1, none⟩))).put (some 18) (.int .i64 ((N : Nat) : Int))).put (some 19) (hdr N wr.heap.size)).put (some 20) (.slice (some ⟨wr.heap.size + 1, 0, none⟩) 1 1)) (.const v) = v := fun _ => rfl
        have ef : ∀ f, Act.eval ((((a0.put (some 16) (.pointer (some ⟨w.heap.size + 1, 1, none⟩))).put (some 18) (.int .i64 ((N : Nat) : Int))).put (some 19) (hdr N wr.heap.size)).put (some 20) (.slice (some ⟨wr.heap.size + 1, 0, none⟩) 1 1)) (.func f) = .func (.func f) #[] #[] := fun _ => rfl
        generalize Act.eval ((((a0.put (some 16) (.pointer (some ⟨w.heap.size + 1, 1, none⟩))).put (some 18) (.int .i64 ((N : Nat) : Int))).put (some 19) (hdr N wr.heap.size)).put (some 20) (.slice (some ⟨wr.heap.size + 1, 0, none⟩) 1 1)) = ρ at *
        simp only [List.getElem_toArray, List.getElem_cons_zero, List.getElem_cons_succ]
        go_simp
      refine wpAnyH_ready (rs := [5]) (by kernel_rfl) (by simp) ?_
      obtain ⟨M2, w2, hr, hown, hg, _, hat⟩ := run_append_own_at (P := Tryd.prog) ((wr.drew.alloc (.cells (arrB (List.replicate N false)) 4)).alloc (.cells #[hdr N wr.heap.size] 91)) (w.heap.size + 2) 44 44 91 i0 (.slice none 0 0) 1 24 Tryd.underlying44 hi hz0 hz1 hz2 rfl (by decide) M k _ ((hR.ref.drew.alloc _).alloc _).own ⟨wr.heap.size + 1, 0, none⟩ 1 1 [hdr N wr.heap.size] rfl (by have := cell_one_new (wr.drew.alloc (.cells (arrB (List.replicate N false)) 4)) (hdr N wr.heap.size) 91; simpa using this) (by simp [Value.oneCell']) (by unfold maxLen; omega) (by omega) (by have := hR.below.size; have := hR.box.lt; simp; omega)
      obtain ⟨g2, cap2, rfl⟩ := ownsRow_succ hown
      refine any_value (i := 5) (d := some 21) (v := .slice (some ⟨g2, 0, none⟩) (k + 1) cap2) (w' := w2) rfl rfl (by rfl) ?_ ?_ AllReadyH.nil
      · skip
        have e17 : Act.eval (((((a0.put (some 16) (.pointer (some ⟨w.heap.size + 1, 1, none⟩))).put (some 18) (.int .i64 ((N : Nat) : Int))).put (some 19) (hdr N wr.heap.size)).put (some 20) (.slice (some ⟨wr.heap.size + 1, 0, none⟩) 1 1)).put (some 17) (M)) (.tmp 17) = M := by rw [Act.eval_put_same _ _ _ (by (repeat rw [Act.size_put]); omega)]
        have e20 : Act.eval (((((a0.put (some 16) (.pointer (some ⟨w.heap.size + 1, 1, none⟩))).put (some 18) (.int .i64 ((N : Nat) : Int))).put (some 19) (hdr N wr.heap.size)).put (some 20) (.slice (some ⟨wr.heap.size + 1, 0, none⟩) 1 1)).put (some 17) (M)) (.tmp 20) = .slice (some ⟨wr.heap.size + 1, 0, none⟩) 1 1 := by rw [Act.eval_put_ne _ _ _ _ (by decide), Act.eval_put_same _ _ _ (by (repeat rw [Act.size_put]); omega)]
        have ec : ∀ v, Act.eval (((((a0.put (some 16) (.pointer (some ⟨w.heap.size + 1, 1, none⟩))).put (some 18) (.int .i64 ((N : Nat) : Int))).put (some 19) (hdr N wr.heap.size)).put (some 20) (.slice (some ⟨wr.heap.size + 1, 0, none⟩) 1 1)).put (some 17) (M)) (.const v) = v := fun _ => rfl
        have ef : ∀ f, Act.eval (((((a0.put (some 16) (.pointer (some ⟨w.heap.size + 1, 1, none⟩))).put (some 18) (.int .i64 ((N : Nat) : Int))).put (some 19) (hdr N wr.heap.size)).put (some 20) (.slice (some ⟨wr.heap.size + 1, 0, none⟩) 1 1)).put (some 17) (M)) (.func f) = .func (.func f) #[] #[] := fun _ => rfl
        generalize Act.eval (((((a0.put (some 16) (.pointer (some ⟨w.heap.size + 1, 1, none⟩))).put (some 18) (.int .i64 ((N : Nat) : Int))).put (some 19) (hdr N wr.heap.size)).put (some 20) (.slice (some ⟨wr.heap.size + 1, 0, none⟩) 1 1)).put (some 17) (M)) = ρ at *
        simp only [List.getElem_toArray, List.getElem_cons_zero, List.getElem_cons_succ]
        unfold execOp
        simp only [resolve, invoke, builtin, Sem.run_bind, Sem.run_pure, Result.andThen_ok, List.map_toArray, List.map_cons, List.map_nil, e17, e20, hr]
        done
      have hR2 := hR.next hown hg hat
      have hb2 := hR.kept hg
      have cM2 := hb2.cell (j := 1) rfl
      have fz2 := hb2.frozen 1
      refine any_take (i := 6) (d := some 22) (v := .pointer (some ⟨w.heap.size + 1, 1, none⟩)) rfl rfl (by kernel_rfl) (by kernel_rfl) (by kernel_rfl) (fun _ _ _ h => h) (by rfl) ?_ ?_
      · intro w9
        have e3 : Act.eval ((((((a0.put (some 16) (.pointer (some ⟨w.heap.size + 1, 1, none⟩))).put (some 18) (.int .i64 ((N : Nat) : Int))).put (some 19) (hdr N wr.heap.size)).put (some 20) (.slice (some ⟨wr.heap.size + 1, 0, none⟩) 1 1)).put (some 17) (M)).put (some 21) (.slice (some ⟨g2, 0, none⟩) (k + 1) cap2)) (.tmp 3) = pv (w.heap.size + 1) := by rw [Act.eval_put_ne _ _ _ _ (by decide), Act.eval_put_ne _ _ _ _ (by decide), Act.eval_put_ne _ _ _ _ (by decide), Act.eval_put_ne _ _ _ _ (by decide), Act.eval_put_ne _ _ _ _ (by decide), Act.eval_put_ne _ _ _ _ (by decide), b3]
        have ec : ∀ v, Act.eval ((((((a0.put (some 16) (.pointer (some ⟨w.heap.size + 1, 1, none⟩))).put (some 18) (.int .i64 ((N : Nat) : Int))).put (some 19) (hdr N wr.heap.size)).put (some 20) (.slice (some ⟨wr.heap.size + 1, 0, none⟩) 1 1)).put (some 17) (M)).put (some 21) (.slice (some ⟨g2, 0, none⟩) (k + 1) cap2)) (.const v) = v := fun _ => rfl
        have ef : ∀ f, Act.eval ((((((a0.put (some 16) (.pointer (some ⟨w.heap.size + 1, 1, none⟩))).put (some 18) (.int .i64 ((N : Nat) : Int))).put (some 19) (hdr N wr.heap.size)).put (some 20) (.slice (some ⟨wr.heap.size + 1, 0, none⟩) 1 1)).put (some 17) (M)).put (some 21) (.slice (some ⟨g2, 0, none⟩) (k + 1) cap2)) (.func f) = .func (.func f) #[] #[] := fun _ => rfl
        generalize Act.eval ((((((a0.put (some 16) (.pointer (some ⟨w.heap.size + 1, 1, none⟩))).put (some 18) (.int .i64 ((N : Nat) : Int))).put (some 19) (hdr N wr.heap.size)).put (some 20) (.slice (some ⟨wr.heap.size + 1, 0, none⟩) 1 1)).put (some 17) (M)).put (some 21) (.slice (some ⟨g2, 0, none⟩) (k + 1) cap2)) = ρ at *
        simp only [List.getElem_toArray, List.getElem_cons_zero, List.getElem_cons_succ]
        go_simp
      refine wpAnyH_ready (rs := [7]) (by kernel_rfl) (by simp) ?_
      refine any_skip (i := 7) (d := none) (w' := w2.setCell ⟨w.heap.size + 1, 1, none⟩ (.slice (some ⟨g2, 0, none⟩) (k + 1) cap2)) rfl rfl (by rfl) ?_ ?_ AllReadyH.nil
      · skip
        have e21 : Act.eval (((((((a0.put (some 16) (.pointer (some ⟨w.heap.size + 1, 1, none⟩))).put (some 18) (.int .i64 ((N : Nat) : Int))).put (some 19) (hdr N wr.heap.size)).put (some 20) (.slice (some ⟨wr.heap.size + 1, 0, none⟩) 1 1)).put (some 17) (M)).put (some 21) (.slice (some ⟨g2, 0, none⟩) (k + 1) cap2)).put (some 22) (.pointer (some ⟨w.heap.size + 1, 1, none⟩))) (.tmp 21) = .slice (some ⟨g2, 0, none⟩) (k + 1) cap2 := by rw [Act.eval_put_ne _ _ _ _ (by decide), Act.eval_put_same _ _ _ (by (repeat rw [Act.size_put]); omega)]
        have e22 : Act.eval (((((((a0.put (some 16) (.pointer (some ⟨w.heap.size + 1, 1, none⟩))).put (some 18) (.int .i64 ((N : Nat) : Int))).put (some 19) (hdr N wr.heap.size)).put (some 20) (.slice (some ⟨wr.heap.size + 1, 0, none⟩) 1 1)).put (some 17) (M)).put (some 21) (.slice (some ⟨g2, 0, none⟩) (k + 1) cap2)).put (some 22) (.pointer (some ⟨w.heap.size + 1, 1, none⟩))) (.tmp 22) = .pointer (some ⟨w.heap.size + 1, 1, none⟩) := by rw [Act.eval_put_same _ _ _ (by (repeat rw [Act.size_put]); omega)]
        have ec : ∀ v, Act.eval (((((((a0.put (some 16) (.pointer (some ⟨w.heap.size + 1, 1, none⟩))).put (some 18) (.int .i64 ((N : Nat) : Int))).put (some 19) (hdr N wr.heap.size)).put (some 20) (.slice (some ⟨wr.heap.size + 1, 0, none⟩) 1 1)).put (some 17) (M)).put (some 21) (.slice (some ⟨g2, 0, none⟩) (k + 1) cap2)).put (some 22) (.pointer (some ⟨w.heap.size + 1, 1, none⟩))) (.const v) = v := fun _ => rfl
        have ef : ∀ f, Act.eval (((((((a0.put (some 16) (.pointer (some ⟨w.heap.size + 1, 1, none⟩))).put (some 18) (.int .i64 ((N : Nat) : Int))).put (some 19) (hdr N wr.heap.size)).put (some 20) (.slice (some ⟨wr.heap.size + 1, 0, none⟩) 1 1)).put (some 17) (M)).put (some 21) (.slice (some ⟨g2, 0, none⟩) (k + 1) cap2)).put (some 22) (.pointer (some ⟨w.heap.size + 1, 1, none⟩))) (.func f) = .func (.func f) #[] #[] := fun _ => rfl
        generalize Act.eval (((((((a0.put (some 16) (.pointer (some ⟨w.heap.size + 1, 1, none⟩))).put (some 18) (.int .i64 ((N : Nat) : Int))).put (some 19) (hdr N wr.heap.size)).put (some 20) (.slice (some ⟨wr.heap.size + 1, 0, none⟩) 1 1)).put (some 17) (M)).put (some 21) (.slice (some ⟨g2, 0, none⟩) (k + 1) cap2)).put (some 22) (.pointer (some ⟨w.heap.size + 1, 1, none⟩))) = ρ at *
        simp only [List.getElem_toArray, List.getElem_cons_zero, List.getElem_cons_succ]
        go_simp
      refine wpAnyH_done (by kernel_rfl) ?_ _
      subst hA
      simp only [Act.put, List.setIfInBounds_toArray, List.set_cons_zero, List.set_cons_succ]
      go_wp2_with fail
      refine ⟨⟨k + 1, _, _, by omega, by go_num, hR2⟩, by simp [intOf]; omega⟩
    · have e : N = k := by omega
      subst e
      have c0 := hR.box.cell (j := 0) rfl
      have c1 := hR.box.cell (j := 1) rfl
      have d0 := hR.res.cell (j := 0) rfl
      have d1 := hR.res.cell (j := 1) rfl
      have f0 := hR.res.frozen 0
      have f1 := hR.res.frozen 1
      have hM1 : ∃ x y z, M = .slice x y z := by
        rcases hR.ref.own.2 with ⟨e, _⟩ | ⟨g, cap, cur, e, _⟩
        · exact ⟨_, _, _, e⟩
        · exact ⟨_, _, _, e⟩
      obtain ⟨x, y, z, rfl⟩ := hM1
      go_wp2_with fail
      have hres := (hR.res.set 0 (.int .i64 ((N : Nat) : Int))).set 1 (.slice x y z)
      simp only [List.setIfInBounds_toArray, List.set_cons_zero, List.set_cons_succ] at hres
      (try simp only [Exit.inBlock, Exit.then])
      refine bodyPost_ret (ret_ref rfl rfl hres) rfl ?_
      have hA1 : RefM w.heap.size ((wr.setCell ⟨w.heap.size, 0, none⟩ (.int .i64 ((N : Nat) : Int))).setCell ⟨w.heap.size, 1, none⟩ (.slice x y z)) (.slice x y z) N N rb (fun _ _ => false) := RefM.mono (hR.ref.below' fun g hg _ => by rw [Below.heap_setCell _ _ _ _ (by simp; omega), Below.heap_setCell _ _ _ _ (by simp; omega)]) (by omega)
      have hB1 := (hR.below.setCell (p := ⟨w.heap.size, 0, none⟩) (Nat.le_refl _) (.int .i64 ((N : Nat) : Int))).setCell (p := ⟨w.heap.size, 1, none⟩) (Nat.le_refl _) (.slice x y z)
      first | exact ⟨_, rb, rfl, hA1, hB1⟩ | exact ⟨_, rfl, ⟨rb, hA1⟩, hB1⟩
set_option maxRecDepth 100000 in
set_option maxHeartbeats 4000000 in
theorem refNew_big (n : Int) (hn : 256 < n) (w : World) (N : Nat) (HN : Hid (N = 256)) :
    Calls Tryd.prog 51 #[.int .i64 n] w fun e w' => ∃ M rb, e = .returned (.agg #[.int .i64 ((N : Nat) : Int), M]) ∧ RefM w.heap.size w' M N N rb (fun _ _ => false) ∧ Below w.heap.size w w' := by
  obtain ⟨i0, hi, hz0, hz1, hz2⟩ := info_parts Tryd.infobools
  go_enter Tryd.func51, Tryd.ntmps51
  go_wp2_with fail
  go_loopw [4] (fun i wr => ∃ k M rb, k ≤ N ∧ i = .int .i64 ((k : Nat) : Int) ∧ RefMid w wr M k N rb) (fun i _ => N - (intOf i).toNat)
  case atStart =>
    refine ⟨0, .slice none 0 0, fun _ => 0, by omega, rfl, ?_, ?_, ?_, RefM.nil _ _ _ _ _⟩
    · exact ((Below.refl _ w).alloc (Nat.le_refl _) _).alloc (by simp) _
    · exact (Blk.new w _ _).alloc _
    · rw [HN.out]
      exact Blk.new2 w _ _ _
  case round =>
    obtain ⟨k, M, rb, hk, rfl, hR⟩ := hrel
    by_cases hlt : k < N
    · have cM := hR.box.cell (j := 1) rfl
      have hlt2 : ((k : Nat) : Int) < 256 := by have := HN.out; omega
      have hN : N ≤ 256 := by have := HN.out; omega
      have cM1 := (hR.box.alloc (.cells (arrB (List.replicate N false)) 4)).cell (j := 1) rfl
      have cM3 := ((hR.box.alloc (.cells (arrB (List.replicate N false)) 4)).alloc (.cells #[hdr N wr.heap.size] 91)).cell (j := 1) rfl
      have hmk := make_bools N (by omega)
      go_wp2_with fail
      generalize hA : Act.mk _ _ = a0
      have hsz : a0.tmps.size = 24 := by rw [← hA]; rfl
      have b0 : Act.eval a0 (.tmp 0) = .int .i64 ((N : Nat) : Int) := by rw [← hA, HN.out]; rfl
      have b3 : Act.eval a0 (.tmp 3) = pv (w.heap.size + 1) := by rw [← hA]; rfl
      refine wp_region_held_drew (S := fun _ => True) (by kernel_rfl) trivial (fun _ => ?_)
      refine any_take (i := 0) (d := some 16) (v := .pointer (some ⟨w.heap.size + 1, 1, none⟩)) rfl rfl (by kernel_rfl) (by kernel_rfl) (by kernel_rfl) (fun _ _ _ h => h) (by rfl) ?_ ?_
      · intro w9
        have e3 := b3
        have ec : ∀ v, Act.eval a0 (.const v) = v := fun _ => rfl
        have ef : ∀ f, Act.eval a0 (.func f) = .func (.func f) #[] #[] := fun _ => rfl
        generalize Act.eval a0 = ρ at *
        simp only [List.getElem_toArray, List.getElem_cons_zero]
        go_simp
      refine any_take (i := 2) (d := some 18) (v := .int .i64 ((N : Nat) : Int)) rfl rfl (by kernel_rfl) (by kernel_rfl) (by kernel_rfl) (fun _ _ _ h => h) (by rfl) ?_ ?_
      · intro w9
        have e0 : Act.eval (a0.put (some 16) (.pointer (some ⟨w.heap.size + 1, 1, none⟩))) (.tmp 0) = .int .i64 ((N : Nat) : Int) := by rw [Act.eval_put_ne _ _ _ _ (by decide), b0]
        have ec : ∀ v, Act.eval (a0.put (some 16) (.pointer (some ⟨w.heap.size + 1, 1, none⟩))) (.const v) = v := fun _ => rfl
        have ef : ∀ f, Act.eval (a0.put (some 16) (.pointer (some ⟨w.heap.size + 1, 1, none⟩))) (.func f) = .func (.func f) #[] #[] := fun _ => rfl
        generalize Act.eval (a0.put (some 16) (.pointer (some ⟨w.heap.size + 1, 1, none⟩))) = ρ at *
        simp only [List.getElem_toArray, List.getElem_cons_zero, List.getElem_cons_succ]
        go_simp
      refine wpAnyH_ready (rs := [1, 3]) (by kernel_rfl) (by simp) ?_
      refine any_value (i := 1) (d := some 17) (v := M) (w' := wr.drew) rfl rfl (by rfl) ?_ ?_ ?_
      · skip
        have e16 : Act.eval ((a0.put (some 16) (.pointer (some ⟨w.heap.size + 1, 1, none⟩))).put (some 18) (.int .i64 ((N : Nat) : Int))) (.tmp 16) = .pointer (some ⟨w.heap.size + 1, 1, none⟩) := by rw [Act.eval_put_ne _ _ _ _ (by decide), Act.eval_put_same _ _ _ (by (repeat rw [Act.size_put]); omega)]
        have ec : ∀ v, Act.eval ((a0.put (some 16) (.pointer (some ⟨w.heap.size + 1, 1, none⟩))).put (some 18) (.int .i64 ((N : Nat) : Int))) (.const v) = v := fun _ => rfl
        have ef : ∀ f, Act.eval ((a0.put (some 16) (.pointer (some ⟨w.heap.size + 1, 1, none⟩))).put (some 18) (.int .i64 ((N : Nat) : Int))) (.func f) = .func (.func f) #[] #[] := fun _ => rfl
        generalize Act.eval ((a0.put (some 16) (.pointer (some ⟨w.heap.size + 1, 1, none⟩))).put (some 18) (.int .i64 ((N : Nat) : Int))) = ρ at *
        simp only [List.getElem_toArray, List.getElem_cons_zero, List.getElem_cons_succ]
        go_simp
      · skip
        refine wpAnyH_ready (rs := [3]) (by kernel_rfl) (by simp) ?_
        refine any_value (i := 3) (d := some 19) (v := hdr N wr.heap.size) (w' := (wr.drew.alloc (.cells (arrB (List.replicate N false)) 4))) rfl rfl (by rfl) ?_ ?_ AllReadyH.nil
        · skip
          have e18 : Act.eval (((a0.put (some 16) (.pointer (some ⟨w.heap.size + 1, 1, none⟩))).put (some 18) (.int .i64 ((N : Nat) : Int))).put (some 17) (M)) (.tmp 18) = .int .i64 ((N : Nat) : Int) := by rw [Act.eval_put_ne _ _ _ _ (by decide), Act.eval_put_same _ _ _ (by (repeat rw [Act.size_put]); omega)]
          have ec : ∀ v, Act.eval (((a0.put (some 16) (.pointer (some ⟨w.heap.size + 1, 1, none⟩))).put (some 18) (.int .i64 ((N : Nat) : Int))).put (some 17) (M)) (.const v) = v := fun _ => rfl
          have ef : ∀ f, Act.eval (((a0.put (some 16) (.pointer (some ⟨w.heap.size + 1, 1, none⟩))).put (some 18) (.int .i64 ((N : Nat) : Int))).put (some 17) (M)) (.func f) = .func (.func f) #[] #[] := fun _ => rfl
          generalize Act.eval (((a0.put (some 16) (.pointer (some ⟨w.heap.size + 1, 1, none⟩))).put (some 18) (.int .i64 ((N : Nat) : Int))).put (some 17) (M)) = ρ at *
          simp only [List.getElem_toArray, List.getElem_cons_zero, List.getElem_cons_succ]
          go_simp
        refine wpAnyH_ready (rs := [4]) (by kernel_rfl) (by simp) ?_
        refine any_value (i := 4) (d := some 20) (v := .slice (some ⟨wr.heap.size + 1, 0, none⟩) 1 1) (w' := ((wr.drew.alloc (.cells (arrB (List.replicate N false)) 4)).alloc (.cells #[hdr N wr.heap.size] 91))) rfl rfl (by rfl) ?_ ?_ AllReadyH.nil
        · skip
          have e19 : Act.eval ((((a0.put (some 16) (.pointer (some ⟨w.heap.size + 1, 1, none⟩))).put (some 18) (.int .i64 ((N : Nat) : Int))).put (some 17) (M)).put (some 19) (hdr N wr.heap.size)) (.tmp 19) = hdr N wr.heap.size := by rw [Act.eval_put_same _ _ _ (by (repeat rw [Act.size_put]); omega)]
          have ec : ∀ v, Act.eval ((((a0.put (some 16) (.pointer (some ⟨w.heap.size + 1, 1, none⟩))).put (some 18) (.int .i64 ((N : Nat) : Int))).put (some 17) (M)).put (some 19) (hdr N wr.heap.size)) (.const v) = v := fun _ => rfl
          have ef : ∀ f, Act.eval ((((a0.put (some 16) (.pointer (some ⟨w.heap.size + 1, 1, none⟩))).put (some 18) (.int .i64 ((N : Nat) : Int))).put (some 17) (M)).put (some 19) (hdr N wr.heap.size)) (.func f) = .func (.func f) #[] #[] := fun _ => rfl
          generalize Act.eval ((((a0.put (some 16) (.pointer (some ⟨w.heap.size + 1, 1, none⟩))).put (some 18) (.int .i64 ((N : Nat) : Int))).put (some 17) (M)).put (some 19) (hdr N wr.heap.size)) = ρ at *
          simp only [List.getElem_toArray, List.getElem_cons_zero, List.getElem_cons_succ]
          go_simp
        refine wpAnyH_ready (rs := [5]) (by kernel_rfl) (by simp) ?_
        obtain ⟨M2, w2, hr, hown, hg, _, hat⟩ := run_append_own_at (P := Tryd.prog) ((wr.drew.alloc (.cells (arrB (List.replicate N false)) 4)).alloc (.cells #[hdr N wr.heap.size] 91)) (w.heap.size + 2) 44 44 91 i0 (.slice none 0 0) 1 24 Tryd.underlying44 hi hz0 hz1 hz2 rfl (by decide) M k _ ((hR.ref.drew.alloc _).alloc _).own ⟨wr.heap.size + 1, 0, none⟩ 1 1 [hdr N wr.heap.size] rfl (by have := cell_one_new (wr.drew.alloc (.cells (arrB (List.replicate N false)) 4)) (hdr N wr.heap.size) 91; simpa using this) (by simp [Value.oneCell']) (by unfold maxLen; omega) (by omega) (by have := hR.below.size; have := hR.box.lt; simp; omega)
        obtain ⟨g2, cap2, rfl⟩ := ownsRow_succ hown
        refine any_value (i := 5) (d := some 21) (v := .slice (some ⟨g2, 0, none⟩) (k + 1) cap2) (w' := w2) rfl rfl (by rfl) ?_ ?_ AllReadyH.nil
        · skip
          have e17 : Act.eval (((((a0.put (some 16) (.pointer (some ⟨w.heap.size + 1, 1, none⟩))).put (some 18) (.int .i64 ((N : Nat) : Int))).put (some 17) (M)).put (some 19) (hdr N wr.heap.size)).put (some 20) (.slice (some ⟨wr.heap.size + 1, 0, none⟩) 1 1)) (.tmp 17) = M := by rw [Act.eval_put_ne _ _ _ _ (by decide), Act.eval_put_ne _ _ _ _ (by decide), Act.eval_put_same _ _ _ (by (repeat rw [Act.size_put]); omega)]
          have e20 : Act.eval (((((a0.put (some 16) (.pointer (some ⟨w.heap.size + 1, 1, none⟩))).put (some 18) (.int .i64 ((N : Nat) : Int))).put (some 17) (M)).put (some 19) (hdr N wr.heap.size)).put (some 20) (.slice (some ⟨wr.heap.size + 1, 0, none⟩) 1 1)) (.tmp 20) = .slice (some ⟨wr.heap.size + 1, 0, none⟩) 1 1 := by rw [Act.eval_put_same _ _ _ (by (repeat rw [Act.size_put]); omega)]
          have ec : ∀ v, Act.eval (((((a0.put (some 16) (.pointer (some ⟨w.heap.size + 1, 1, none⟩))).put (some 18) (.int .i64 ((N : Nat) : Int))).put (some 17) (M)).put (some 19) (hdr N wr.heap.size)).put (some 20) (.slice (some ⟨wr.heap.size + 1, 0, none⟩) 1 1)) (.const v) = v := fun _ => rfl
          have ef : ∀ f, Act.eval (((((a0.put (some 16) (.pointer (some ⟨w.heap.size + 1, 1, none⟩))).put (some 18) (.int .i64 ((N : Nat) : Int))).put (some 17) (M)).put (some 19) (hdr N wr.heap.size)).put (some 20) (.slice (some ⟨wr.heap.size + 1, 0, none⟩) 1 1)) (.func f) = .func (.func f) #[] #[] := fun _ => rfl
          generalize Act.eval (((((a0.put (some 16) (.pointer (some ⟨w.heap.size + 1, 1, none⟩))).put (some 18) (.int .i64 ((N : Nat) : Int))).put (some 17) (M)).put (some 19) (hdr N wr.heap.size)).put (some 20) (.slice (some ⟨wr.heap.size + 1, 0, none⟩) 1 1)) = ρ at *
          simp only [List.getElem_toArray, List.getElem_cons_zero, List.getElem_cons_succ]
          unfold execOp
          simp only [resolve, invoke, builtin, Sem.run_bind, Sem.run_pure, Result.andThen_ok, List.map_toArray, List.map_cons, List.map_nil, e17, e20, hr]
          done
        have hR2 := hR.next hown hg hat
        have hb2 := hR.kept hg
        have cM2 := hb2.cell (j := 1) rfl
        have fz2 := hb2.frozen 1
        refine any_take (i := 6) (d := some 22) (v := .pointer (some ⟨w.heap.size + 1, 1, none⟩)) rfl rfl (by kernel_rfl) (by kernel_rfl) (by kernel_rfl) (fun _ _ _ h => h) (by rfl) ?_ ?_
        · intro w9
          have e3 : Act.eval ((((((a0.put (some 16) (.pointer (some ⟨w.heap.size + 1, 1, none⟩))).put (some 18) (.int .i64 ((N : Nat) : Int))).put (some 17) (M)).put (some 19) (hdr N wr.heap.size)).put (some 20) (.slice (some ⟨wr.heap.size + 1, 0, none⟩) 1 1)).put (some 21) (.slice (some ⟨g2, 0, none⟩) (k + 1) cap2)) (.tmp 3) = pv (w.heap.size + 1) := by rw [Act.eval_put_ne _ _ _ _ (by decide), Act.eval_put_ne _ _ _ _ (by decide), Act.eval_put_ne _ _ _ _ (by decide), Act.eval_put_ne _ _ _ _ (by decide), Act.eval_put_ne _ _ _ _ (by decide), Act.eval_put_ne _ _ _ _ (by decide), b3]
          have ec : ∀ v, Act.eval ((((((a0.put (some 16) (.pointer (some ⟨w.heap.size + 1, 1, none⟩))).put (some 18) (.int .i64 ((N : Nat) : Int))).put (some 17) (M)).put (some 19) (hdr N wr.heap.size)).put (some 20) (.slice (some ⟨wr.heap.size + 1, 0, none⟩) 1 1)).put (some 21) (.slice (some ⟨g2, 0, none⟩) (k + 1) cap2)) (.const v) = v := fun _ => rfl
          have ef : ∀ f, Act.eval ((((((a0.put (some 16) (.pointer (some ⟨w.heap.size + 1, 1, none⟩))).put (some 18) (.int .i64 ((N : Nat) : Int))).put (some 17) (M)).put (some 19) (hdr N wr.heap.size)).put (some 20) (.slice (some ⟨wr.heap.size + 1, 0, none⟩) 1 1)).put (some 21) (.slice (some ⟨g2, 0, none⟩) (k + 1) cap2)) (.func f) = .func (.func f) #[] #[] := fun _ => rfl
          generalize Act.eval ((((((a0.put (some 16) (.pointer (some ⟨w.heap.size + 1, 1, none⟩))).put (some 18) (.int .i64 ((N : Nat) : Int))).put (some 17) (M)).put (some 19) (hdr N wr.heap.size)).put (some 20) (.slice (some ⟨wr.heap.size + 1, 0, none⟩) 1 1)).put (some 21) (.slice (some ⟨g2, 0, none⟩) (k + 1) cap2)) = ρ at *
          simp only [List.getElem_toArray, List.getElem_cons_zero, List.getElem_cons_succ]
          go_simp
        refine wpAnyH_ready (rs := [7]) (by kernel_rfl) (by simp) ?_
        refine any_skip (i := 7) (d := none) (w' := w2.setCell ⟨w.heap.size + 1, 1, none⟩ (.slice (some ⟨g2, 0, none⟩) (k + 1) cap2)) rfl rfl (by rfl) ?_ ?_ AllReadyH.nil
        · skip
          have e21 : Act.eval (((((((a0.put (some 16) (.pointer (some ⟨w.heap.size + 1, 1, none⟩))).put (some 18) (.int .i64 ((N : Nat) : Int))).put (some 17) (M)).put (some 19) (hdr N wr.heap.size)).put (some 20) (.slice (some ⟨wr.heap.size + 1, 0, none⟩) 1 1)).put (some 21) (.slice (some ⟨g2, 0, none⟩) (k + 1) cap2)).put (some 22) (.pointer (some ⟨w.heap.size + 1, 1, none⟩))) (.tmp 21) = .slice (some ⟨g2, 0, none⟩) (k + 1) cap2 := by rw [Act.eval_put_ne _ _ _ _ (by decide), Act.eval_put_same _ _ _ (by (repeat rw [Act.size_put]); omega)]
          have e22 : Act.eval (((((((a0.put (some 16) (.pointer (some ⟨w.heap.size + 1, 1, none⟩))).put (some 18) (.int .i64 ((N : Nat) : Int))).put (some 17) (M)).put (some 19) (hdr N wr.heap.size)).put (some 20) (.slice (some ⟨wr.heap.size + 1, 0, none⟩) 1 1)).put (some 21) (.slice (some ⟨g2, 0, none⟩) (k + 1) cap2)).put (some 22) (.pointer (some ⟨w.heap.size + 1, 1, none⟩))) (.tmp 22) = .pointer (some ⟨w.heap.size + 1, 1, none⟩) := by rw [Act.eval_put_same _ _ _ (by (repeat rw [Act.size_put]); omega)]
          have ec : ∀ v, Act.eval (((((((a0.put (some 16) (.pointer (some ⟨w.heap.size + 1, 1, none⟩))).put (some 18) (.int .i64 ((N : Nat) : Int))).put (some 17) (M)).put (some 19) (hdr N wr.heap.size)).put (some 20) (.slice (some ⟨wr.heap.size + 1, 0, none⟩) 1 1)).put (some 21) (.slice (some ⟨g2, 0, none⟩) (k + 1) cap2)).put (some 22) (.pointer (some ⟨w.heap.size + 1, 1, none⟩))) (.const v) = v := fun _ => rfl
          have ef : ∀ f, Act.eval (((((((a0.put (some 16) (.pointer (some ⟨w.heap.size + 1, 1, none⟩))).put (some 18) (.int .i64 ((N : Nat) : Int))).put (some 17) (M)).put (some 19) (hdr N wr.heap.size)).put (some 20) (.slice (some ⟨wr.heap.size + 1, 0, none⟩) 1 1)).put (some 21) (.slice (some ⟨g2, 0, none⟩) (k + 1) cap2)).put (some 22) (.pointer (some ⟨w.heap.size + 1, 1, none⟩))) (.func f) = .func (.func f) #[] #[] := fun _ => rfl
          generalize Act.eval (((((((a0.put (some 16) (.pointer (some ⟨w.heap.size + 1, 1, none⟩))).put (some 18) (.int .i64 ((N : Nat) : Int))).put (some 17) (M)).put (some 19) (hdr N wr.heap.size)).put (some 20) (.slice (some ⟨wr.heap.size + 1, 0, none⟩) 1 1)).put (some 21) (.slice (some ⟨g2, 0, none⟩) (k + 1) cap2)).put (some 22) (.pointer (some ⟨w.heap.size + 1, 1, none⟩))) = ρ at *
          simp only [List.getElem_toArray, List.getElem_cons_zero, List.getElem_cons_succ]
          go_simp
        refine wpAnyH_done (by kernel_rfl) ?_ _
        subst hA
        simp only [Act.put, List.setIfInBounds_toArray, List.set_cons_zero, List.set_cons_succ]
        go_wp2_with fail
        refine ⟨⟨k + 1, _, _, by omega, by go_num, hR2⟩, by simp [intOf]; omega⟩
      refine any_value (i := 3) (d := some 19) (v := hdr N wr.heap.size) (w' := (wr.drew.alloc (.cells (arrB (List.replicate N false)) 4))) rfl rfl (by rfl) ?_ ?_ AllReadyH.nil
      · skip
        have e18 : Act.eval ((a0.put (some 16) (.pointer (some ⟨w.heap.size + 1, 1, none⟩))).put (some 18) (.int .i64 ((N : Nat) : Int))) (.tmp 18) = .int .i64 ((N : Nat) : Int) := by rw [Act.eval_put_same _ _ _ (by (repeat rw [Act.size_put]); omega)]
        have ec : ∀ v, Act.eval ((a0.put (some 16) (.pointer (some ⟨w.heap.size + 1, 1, none⟩))).put (some 18) (.int .i64 ((N : Nat) : Int))) (.const v) = v := fun _ => rfl
        have ef : ∀ f, Act.eval ((a0.put (some 16) (.pointer (some ⟨w.heap.size + 1, 1, none⟩))).put (some 18) (.int .i64 ((N : Nat) : Int))) (.func f) = .func (.func f) #[] #[] := fun _ => rfl
        generalize Act.eval ((a0.put (some 16) (.pointer (some ⟨w.heap.size + 1, 1, none⟩))).put (some 18) (.int .i64 ((N : Nat) : Int))) = ρ at *
        simp only [List.getElem_toArray, List.getElem_cons_zero, List.getElem_cons_succ]
        go_simp
      refine wpAnyH_ready (rs := [1, 4]) (by kernel_rfl) (by simp) ?_
      refine any_value (i := 1) (d := some 17) (v := M) (w' := (wr.drew.alloc (.cells (arrB (List.replicate N false)) 4))) rfl rfl (by rfl) ?_ ?_ ?_
      · skip
        have e16 : Act.eval (((a0.put (some 16) (.pointer (some ⟨w.heap.size + 1, 1, none⟩))).put (some 18) (.int .i64 ((N : Nat) : Int))).put (some 19) (hdr N wr.heap.size)) (.tmp 16) = .pointer (some ⟨w.heap.size + 1, 1, none⟩) := by rw [Act.eval_put_ne _ _ _ _ (by decide), Act.eval_put_ne _ _ _ _ (by decide), Act.eval_put_same _ _ _ (by (repeat rw [Act.size_put]); omega)]
        have ec : ∀ v, Act.eval (((a0.put (some 16) (.pointer (some ⟨w.heap.size + 1, 1, none⟩))).put (some 18) (.int .i64 ((N : Nat) : Int))).put (some 19) (hdr N wr.heap.size)) (.const v) = v := fun _ => rfl
        have ef : ∀ f, Act.eval (((a0.put (some 16) (.pointer (some ⟨w.heap.size + 1, 1, none⟩))).put (some 18) (.int .i64 ((N : Nat) : Int))).put (some 19) (hdr N wr.heap.size)) (.func f) = .func (.func f) #[] #[] := fun _ => rfl
        generalize Act.eval (((a0.put (some 16) (.pointer (some ⟨w.heap.size + 1, 1, none⟩))).put (some 18) (.int .i64 ((N : Nat) : Int))).put (some 19) (hdr N wr.heap.size)) = ρ at *
        simp only [List.getElem_toArray, List.getElem_cons_zero, List.getElem_cons_succ]
        go_simp
      · skip
        refine wpAnyH_ready (rs := [4]) (by kernel_rfl) (by simp) ?_
        refine any_value (i := 4) (d := some 20) (v := .slice (some ⟨wr.heap.size + 1, 0, none⟩) 1 1) (w' := ((wr.drew.alloc (.cells (arrB (List.replicate N false)) 4)).alloc (.cells #[hdr N wr.heap.size] 91))) rfl rfl (by rfl) ?_ ?_ AllReadyH.nil
        · skip
          have e19 : Act.eval ((((a0.put (some 16) (.pointer (some ⟨w.heap.size + 1, 1, none⟩))).put (some 18) (.int .i64 ((N : Nat) : Int))).put (some 19) (hdr N wr.heap.size)).put (some 17) (M)) (.tmp 19) = hdr N wr.heap.size := by rw [Act.eval_put_ne _ _ _ _ (by decide), Act.eval_put_same _ _ _ (by (repeat rw [Act.size_put]); omega)]
          have ec : ∀ v, Act.eval ((((a0.put (some 16) (.pointer (some ⟨w.heap.size + 1, 1, none⟩))).put (some 18) (.int .i64 ((N : Nat) : Int))).put (some 19) (hdr N wr.heap.size)).put (some 17) (M)) (.const v) = v := fun _ => rfl
          have ef : ∀ f, Act.eval ((((a0.put (some 16) (.pointer (some ⟨w.heap.size + 1, 1, none⟩))).put (some 18) (.int .i64 ((N : Nat) : Int))).put (some 19) (hdr N wr.heap.size)).put (some 17) (M)) (.func f) = .func (.func f) #[] #[] := fun _ => rfl
          generalize Act.eval ((((a0.put (some 16) (.pointer (some ⟨w.heap.size + 1, 1, none⟩))).put (some 18) (.int .i64 ((N : Nat) : Int))).put (some 19) (hdr N wr.heap.size)).put (some 17) (M)) = ρ at *
          simp only [List.getElem_toArray, List.getElem_cons_zero, List.getElem_cons_succ]
          go_simp
        refine wpAnyH_ready (rs := [5]) (by kernel_rfl) (by simp) ?_
        obtain ⟨M2, w2, hr, hown, hg, _, hat⟩ := run_append_own_at (P := Tryd.prog) ((wr.drew.alloc (.cells (arrB (List.replicate N false)) 4)).alloc (.cells #[hdr N wr.heap.size] 91)) (w.heap.size + 2) 44 44 91 i0 (.slice none 0 0) 1 24 Tryd.underlying44 hi hz0 hz1 hz2 rfl (by decide) M k _ ((hR.ref.drew.alloc _).alloc _).own ⟨wr.heap.size + 1, 0, none⟩ 1 1 [hdr N wr.heap.size] rfl (by have := cell_one_new (wr.drew.alloc (.cells (arrB (List.replicate N false)) 4)) (hdr N wr.heap.size) 91; simpa using this) (by simp [Value.oneCell']) (by unfold maxLen; omega) (by omega) (by have := hR.below.size; have := hR.box.lt; simp; omega)
        obtain ⟨g2, cap2, rfl⟩ := ownsRow_succ hown
        refine any_value (i := 5) (d := some 21) (v := .slice (some ⟨g2, 0, none⟩) (k + 1) cap2) (w' := w2) rfl rfl (by rfl) ?_ ?_ AllReadyH.nil
        · skip
          have e17 : Act.eval (((((a0.put (some 16) (.pointer (some ⟨w.heap.size + 1, 1, none⟩))).put (some 18) (.int .i64 ((N : Nat) : Int))).put (some 19) (hdr N wr.heap.size)).put (some 17) (M)).put (some 20) (.slice (some ⟨wr.heap.size + 1, 0, none⟩) 1 1)) (.tmp 17) = M := by rw [Act.eval_put_ne _ _ _ _ (by decide), Act.eval_put_same _ _ _ (by (repeat rw [Act.size_put]); omega)]
          have e20 : Act.eval (((((a0.put (some 16) (.pointer (some ⟨w.heap.size + 1, 1, none⟩))).put (some 18) (.int .i64 ((N : Nat) : Int))).put (some 19) (hdr N wr.heap.size)).put (some 17) (M)).put (some 20) (.slice (some ⟨wr.heap.size + 1, 0, none⟩) 1 1)) (.tmp 20) = .slice (some ⟨wr.heap.size + 1, 0, none⟩) 1 1 := by rw [Act.eval_put_same _ _ _ (by (repeat rw [Act.size_put]); omega)]
          have ec : ∀ v, Act.eval (((((a0.put (some 16) (.pointer (some ⟨w.heap.size + 1, 1, none⟩))).put (some 18) (.int .i64 ((N : Nat) : Int))).put (some 19) (hdr N wr.heap.size)).put (some 17) (M)).put (some 20) (.slice (some ⟨wr.heap.size + 1, 0, none⟩) 1 1)) (.const v) = v := fun _ => rfl
          have ef : ∀ f, Act.eval (((((a0.put (some 16) (.pointer (some ⟨w.heap.size + 1, 1, none⟩))).put (some 18) (.int .i64 ((N : Nat) : Int))).put (some 19) (hdr N wr.heap.size)).put (some 17) (M)).put (some 20) (.slice (some ⟨wr.heap.size + 1, 0, none⟩) 1 1)) (.func f) = .func (.func f) #[] #[] := fun _ => rfl
          generalize Act.eval (((((a0.put (some 16) (.pointer (some ⟨w.heap.size + 1, 1, none⟩))).put (some 18) (.int .i64 ((N : Nat) : Int))).put (some 19) (hdr N wr.heap.size)).put (some 17) (M)).put (some 20) (.slice (some ⟨wr.heap.size + 1, 0, none⟩) 1 1)) = ρ at *
          simp only [List.getElem_toArray, List.getElem_cons_zero, List.getElem_cons_succ]
          unfold execOp
          simp only [resolve, invoke, builtin, Sem.run_bind, Sem.run_pure, Result.andThen_ok, List.map_toArray, List.map_cons, List.map_nil, e17, e20, hr]
          done
        have hR2 := hR.next hown hg hat
        have hb2 := hR.kept hg
        have cM2 := hb2.cell (j := 1) rfl
        have fz2 := hb2.frozen 1
        refine any_take (i := 6) (d := some 22) (v := .pointer (some ⟨w.heap.size + 1, 1, none⟩)) rfl rfl (by kernel_rfl) (by kernel_rfl) (by kernel_rfl) (fun _ _ _ h => h) (by rfl) ?_ ?_
        · intro w9
          have e3 : Act.eval ((((((a0.put (some 16) (.pointer (some ⟨w.heap.size + 1, 1, none⟩))).put (some 18) (.int .i64 ((N : Nat) : Int))).put (some 19) (hdr N wr.heap.size)).put (some 17) (M)).put (some 20) (.slice (some ⟨wr.heap.size + 1, 0, none⟩) 1 1)).put (some 21) (.slice (some ⟨g2, 0, none⟩) (k + 1) cap2)) (.tmp 3) = pv (w.heap.size + 1) := by rw [Act.eval_put_ne _ _ _ _ (by decide), Act.eval_put_ne _ _ _ _ (by decide), Act.eval_put_ne _ _ _ _ (by decide), Act.eval_put_ne _ _ _ _ (by decide), Act.eval_put_ne _ _ _ _ (by decide), Act.eval_put_ne _ _ _ _ (by decide), b3]
          have ec : ∀ v, Act.eval ((((((a0.put (some 16) (.pointer (some ⟨w.heap.size + 1, 1, none⟩))).put (some 18) (.int .i64 ((N : Nat) : Int))).put (some 19) (hdr N wr.heap.size)).put (some 17) (M)).put (some 20) (.slice (some ⟨wr.heap.size + 1, 0, none⟩) 1 1)).put (some 21) (.slice (some ⟨g2, 0, none⟩) (k + 1) cap2)) (.const v) = v := fun _ => rfl
          have ef : ∀ f, Act.eval ((((((a0.put (some 16) (.pointer (some ⟨w.heap.size + 1, 1, none⟩))).put (some 18) (.int .i64 ((N : Nat) : Int))).put (some 19) (hdr N wr.heap.size)).put (some 17) (M)).put (some 20) (.slice (some ⟨wr.heap.size + 1, 0, none⟩) 1 1)).put (some 21) (.slice (some ⟨g2, 0, none⟩) (k + 1) cap2)) (.func f) = .func (.func f) #[] #[] := fun _ => rfl
          generalize Act.eval ((((((a0.put (some 16) (.pointer (some ⟨w.heap.size + 1, 1, none⟩))).put (some 18) (.int .i64 ((N : Nat) : Int))).put (some 19) (hdr N wr.heap.size)).put (some 17) (M)).put (some 20) (.slice (some ⟨wr.heap.size + 1, 0, none⟩) 1 1)).put (some 21) (.slice (some ⟨g2, 0, none⟩) (k + 1) cap2)) = ρ at *
          simp only [List.getElem_toArray, List.getElem_cons_zero, List.getElem_cons_succ]
          go_simp
        refine wpAnyH_ready (rs := [7]) (by kernel_rfl) (by simp) ?_
        refine any_skip (i := 7) (d := none) (w' := w2.setCell ⟨w.heap.size + 1, 1, none⟩ (.slice (some ⟨g2, 0, none⟩) (k + 1) cap2)) rfl rfl (by rfl) ?_ ?_ AllReadyH.nil
        · skip
          have e21 : Act.eval (((((((a0.put (some 16) (.pointer (some ⟨w.heap.size + 1, 1, none⟩))).put (some 18) (.int .i64 ((N : Nat) : Int))).put (some 19) (hdr N wr.heap.size)).put (some 17) (M)).put (some 20) (.slice (some ⟨wr.heap.size + 1, 0, none⟩) 1 1)).put (some 21) (.slice (some ⟨g2, 0, none⟩) (k + 1) cap2)).put (some 22) (.pointer (some ⟨w.heap.size + 1, 1, none⟩))) (.tmp 21) = .slice (some ⟨g2, 0, none⟩) (k + 1) cap2 := by rw [Act.eval_put_ne _ _ _ _ (by decide), Act.eval_put_same _ _ _ (by (repeat rw [Act.size_put]); omega)]
          have e22 : Act.eval (((((((a0.put (some 16) (.pointer (some ⟨w.heap.size + 1, 1, none⟩))).put (some 18) (.int .i64 ((N : Nat) : Int))).put (some 19) (hdr N wr.heap.size)).put (some 17) (M)).put (some 20) (.slice (some ⟨wr.heap.size + 1, 0, none⟩) 1 1)).put (some 21) (.slice (some ⟨g2, 0, none⟩) (k + 1) cap2)).put (some 22) (.pointer (some ⟨w.heap.size + 1, 1, none⟩))) (.tmp 22) = .pointer (some ⟨w.heap.size + 1, 1, none⟩) := by rw [Act.eval_put_same _ _ _ (by (repeat rw [Act.size_put]); omega)]
          have ec : ∀ v, Act.eval (((((((a0.put (some 16) (.pointer (some ⟨w.heap.size + 1, 1, none⟩))).put (some 18) (.int .i64 ((N : Nat) : Int))).put (some 19) (hdr N wr.heap.size)).put (some 17) (M)).put (some 20) (.slice (some ⟨wr.heap.size + 1, 0, none⟩) 1 1)).put (some 21) (.slice (some ⟨g2, 0, none⟩) (k + 1) cap2)).put (some 22) (.pointer (some ⟨w.heap.size + 1, 1, none⟩))) (.const v) = v := fun _ => rfl
          have ef : ∀ f, Act.eval (((((((a0.put (some 16) (.pointer (some ⟨w.heap.size + 1, 1, none⟩))).put (some 18) (.int .i64 ((N : Nat) : Int))).put (some 19) (hdr N wr.heap.size)).put (some 17) (M)).put (some 20) (.slice (some ⟨wr.heap.size + 1, 0, none⟩) 1 1)).put (some 21) (.slice (some ⟨g2, 0, none⟩) (k + 1) cap2)).put (some 22) (.pointer (some ⟨w.heap.size + 1, 1, none⟩))) (.func f) = .func (.func f) #[] #[] := fun _ => rfl
          generalize Act.eval (((((((a0.put (some 16) (.pointer (some ⟨w.heap.size + 1, 1, none⟩))).put (some 18) (.int .i64 ((N : Nat) : Int))).put (some 19) (hdr N wr.heap.size)).put (some 17) (M)).put (some 20) (.slice (some ⟨wr.heap.size + 1, 0, none⟩) 1 1)).put (some 21) (.slice (some ⟨g2, 0, none⟩) (k + 1) cap2)).put (some 22) (.pointer (some ⟨w.heap.size + 1, 1, none⟩))) = ρ at *
          simp only [List.getElem_toArray, List.getElem_cons_zero, List.getElem_cons_succ]
          go_simp
        refine wpAnyH_done (by kernel_rfl) ?_ _
        subst hA
        simp only [Act.put, List.setIfInBounds_toArray, List.set_cons_zero, List.set_cons_succ]
        go_wp2_with fail
        refine ⟨⟨k + 1, _, _, by omega, by go_num, hR2⟩, by simp [intOf]; omega⟩
      refine any_value (i := 4) (d := some 20) (v := .slice (some ⟨wr.heap.size + 1, 0, none⟩) 1 1) (w' := ((wr.drew.alloc (.cells (arrB (List.replicate N false)) 4)).alloc (.cells #[hdr N wr.heap.size] 91))) rfl rfl (by rfl) ?_ ?_ AllReadyH.nil
      · skip
        have e19 : Act.eval (((a0.put (some 16) (.pointer (some ⟨w.heap.size + 1, 1, none⟩))).put (some 18) (.int .i64 ((N : Nat) : Int))).put (some 19) (hdr N wr.heap.size)) (.tmp 19) = hdr N wr.heap.size := by rw [Act.eval_put_same _ _ _ (by (repeat rw [Act.size_put]); omega)]
        have ec : ∀ v, Act.eval (((a0.put (some 16) (.pointer (some ⟨w.heap.size + 1, 1, none⟩))).put (some 18) (.int .i64 ((N : Nat) : Int))).put (some 19) (hdr N wr.heap.size)) (.const v) = v := fun _ => rfl
        have ef : ∀ f, Act.eval (((a0.put (some 16) (.pointer (some ⟨w.heap.size + 1, 1, none⟩))).put (some 18) (.int .i64 ((N : Nat) : Int))).put (some 19) (hdr N wr.heap.size)) (.func f) = .func (.func f) #[] #[] := fun _ => rfl
        generalize Act.eval (((a0.put (some 16) (.pointer (some ⟨w.heap.size + 1, 1, none⟩))).put (some 18) (.int .i64 ((N : Nat) : Int))).put (some 19) (hdr N wr.heap.size)) = ρ at *
        simp only [List.getElem_toArray, List.getElem_cons_zero, List.getElem_cons_succ]
        go_simp
      refine wpAnyH_ready (rs := [1]) (by kernel_rfl) (by simp) ?_
      refine any_value (i := 1) (d := some 17) (v := M) (w' := ((wr.drew.alloc (.cells (arrB (List.replicate N false)) 4)).alloc (.cells #[hdr N wr.heap.size] 91))) rfl rfl (by rfl) ?_ ?_ AllReadyH.nil
      · skip
        have e16 : Act.eval ((((a0.put (some 16) (.pointer (some ⟨w.heap.size + 1, 1, none⟩))).put (some 18) (.int .i64 ((N : Nat) : Int))).put (some 19) (hdr N wr.heap.size)).put (some 20) (.slice (some ⟨wr.heap.size + 1, 0, none⟩) 1 1)) (.tmp 16) = .pointer (some ⟨w.heap.size + 1, 1, none⟩) := by rw [Act.eval_put_ne _ _ _ _ (by decide), Act.eval_put_ne _ _ _ _ (by decide), Act.eval_put_ne _ _ _ _ (by decide), Act.eval_put_same _ _ _ (by (repeat rw [Act.size_put]); omega)]
        have ec : ∀ v, Act.eval ((((a0.put (some 16) (.pointer (some ⟨w.heap.size + 1, 1, none⟩))).put (some 18) (.int .i64 ((N : Nat) : Int))).put (some 19) (hdr N wr.heap.size)).put (some 20) (.slice (some ⟨wr.heap.size + 1, 0, none⟩) 1 1)) (.const v) = v := fun _ => rfl
        have ef : ∀ f, Act.eval ((((a0.put (some 16) (.pointer (some ⟨w.heap.size + 1, 1, none⟩))).put (some 18) (.int .i64 ((N : Nat) : Int))).put (some 19) (hdr N wr.heap.size)).put (some 20) (.slice (some ⟨wr.heap.size + 1, 0, none⟩) 1 1)) (.func f) = .func (.func f) #[] #[] := fun _ => rfl
        generalize Act.eval ((((a0.put (some 16) (.pointer (some ⟨w.heap.size + 1, 1, none⟩))).put (some 18) (.int .i64 ((N : Nat) : Int))).put (some 19) (hdr N wr.heap.size)).put (some 20) (.slice (some ⟨wr.heap.size + 1, 0, none⟩) 1 1)) = ρ at *
        simp only [List.getElem_toArray, List.getElem_cons_zero, List.getElem_cons_succ]
        go_simp
      refine wpAnyH_ready (rs := [5]) (by kernel_rfl) (by simp) ?_
      obtain ⟨M2, w2, hr, hown, hg, _, hat⟩ := run_append_own_at (P := Tryd.prog) ((wr.drew.alloc (.cells (arrB (List.replicate N false)) 4)).alloc (.cells #[hdr N wr.heap.size] 91)) (w.heap.size + 2) 44 44 91 i0 (.slice none 0 0) 1 24 Tryd.underlying44 hi hz0 hz1 hz2 rfl (by decide) M k _ ((hR.ref.drew.alloc _).alloc _).own ⟨wr.heap.size + 1, 0, none⟩ 1 1 [hdr N wr.heap.size] rfl (by have := cell_one_new (wr.drew.alloc (.cells (arrB (List.replicate N false)) 4)) (hdr N wr.heap.size) 91; simpa using this) (by simp [Value.oneCell']) (by unfold maxLen; omega) (by omega) (by have := hR.below.size; have := hR.box.lt; simp; omega)
      obtain ⟨g2, cap2, rfl⟩ := ownsRow_succ hown
      refine any_value (i := 5) (d := some 21) (v := .slice (some ⟨g2, 0, none⟩) (k + 1) cap2) (w' := w2) rfl rfl (by rfl) ?_ ?_ AllReadyH.nil
      · skip
        have e17 : Act.eval (((((a0.put (some 16) (.pointer (some ⟨w.heap.size + 1, 1, none⟩))).put (some 18) (.int .i64 ((N : Nat) : Int))).put (some 19) (hdr N wr.heap.size)).put (some 20) (.slice (some ⟨wr.heap.size + 1, 0, none⟩) 1 1)).put (some 17) (M)) (.tmp 17) = M := by rw [Act.eval_put_same _ _ _ (by (repeat rw [Act.size_put]); omega)]
        have e20 : Act.eval (((((a0.put (some 16) (.pointer (some ⟨w.heap.size + 1, 1, none⟩))).put (some 18) (.int .i64 ((N : Nat) : Int))).put (some 19) (hdr N wr.heap.size)).put (some 20) (.slice (some ⟨wr.heap.size + 1, 0, none⟩) 1 1)).put (some 17) (M)) (.tmp 20) = .slice (some ⟨wr.heap.size + 1, 0, none⟩) 1 1 := by rw [Act.eval_put_ne _ _ _ _ (by decide), Act.eval_put_same _ _ _ (by (repeat rw [Act.size_put]); omega)]
        have ec : ∀ v, Act.eval (((((a0.put (some 16) (.pointer (some ⟨w.heap.size + 1, 1, none⟩))).put (some 18) (.int .i64 ((N : Nat) : Int))).put (some 19) (hdr N wr.heap.size)).put (some 20) (.slice (some ⟨wr.heap.size + 1, 0, none⟩) 1 1)).put (some 17) (M)) (.const v) = v := fun _ => rfl
        have ef : ∀ f, Act.eval (((((a0.put (some 16) (.pointer (some ⟨w.heap.size + 1, 1, none⟩))).put (some 18) (.int .i64 ((N : Nat) : Int))).put (some 19) (hdr N wr.heap.size)).put (some 20) (.slice (some ⟨wr.heap.size + 1, 0, none⟩) 1 1)).put (some 17) (M)) (.func f) = .func (.func f) #[] #[] := fun _ => rfl
        generalize Act.eval (((((a0.put (some 16) (.pointer (some ⟨w.heap.size + 1, 1, none⟩))).put (some 18) (.int .i64 ((N : Nat) : Int))).put (some 19) (hdr N wr.heap.size)).put (some 20) (.slice (some ⟨wr.heap.size + 1, 0, none⟩) 1 1)).put (some 17) (M)) = ρ at *
        simp only [List.getElem_toArray, List.getElem_cons_zero, List.getElem_cons_succ]
        unfold execOp
        simp only [resolve, invoke, builtin, Sem.run_bind, Sem.run_pure, Result.andThen_ok, List.map_toArray, List.map_cons, List.map_nil, e17, e20, hr]
        done
      have hR2 := hR.next hown hg hat
      have hb2 := hR.kept hg
      have cM2 := hb2.cell (j := 1) rfl
      have fz2 := hb2.frozen 1
      refine any_take (i := 6) (d := some 22) (v := .pointer (some ⟨w.heap.size + 1, 1, none⟩)) rfl rfl (by kernel_rfl) (by kernel_rfl) (by kernel_rfl) (fun _ _ _ h => h) (by rfl) ?_ ?_
      · intro w9
        have e3 : Act.eval ((((((a0.put (some 16) (.pointer (some ⟨w.heap.size + 1, 1, none⟩))).put (some 18) (.int .i64 ((N : Nat) : Int))).put (some 19) (hdr N wr.heap.size)).put (some 20) (.slice (some ⟨wr.heap.size + 1, 0, none⟩) 1 1)).put (some 17) (M)).put (some 21) (.slice (some ⟨g2, 0, none⟩) (k + 1) cap2)) (.tmp 3) = pv (w.heap.size + 1) := by rw [Act.eval_put_ne _ _ _ _ (by decide), Act.eval_put_ne _ _ _ _ (by decide), Act.eval_put_ne _ _ _ _ (by decide), Act.eval_put_ne _ _ _ _ (by decide), Act.eval_put_ne _ _ _ _ (by decide), Act.eval_put_ne _ _ _ _ (by decide), b3]
        have ec : ∀ v, Act.eval ((((((a0.put (some 16) (.pointer (some ⟨w.heap.size + 1, 1, none⟩))).put (some 18) (.int .i64 ((N : Nat) : Int))).put (some 19) (hdr N wr.heap.size)).put (some 20) (.slice (some ⟨wr.heap.size + 1, 0, none⟩) 1 1)).put (some 17) (M)).put (some 21) (.slice (some ⟨g2, 0, none⟩) (k + 1) cap2)) (.const v) = v := fun _ => rfl
        have ef : ∀ f, Act.eval ((((((a0.put (some 16) (.pointer (some ⟨w.heap.size + 1, 1, none⟩))).put (some 18) (.int .i64 ((N : Nat) : Int))).put (some 19) (hdr N wr.heap.size)).put (some 20) (.slice (some ⟨wr.heap.size + 1, 0, none⟩) 1 1)).put (some 17) (M)).put (some 21) (.slice (some ⟨g2, 0, none⟩) (k + 1) cap2)) (.func f) = .func (.func f) #[] #[] := fun _ => rfl
        generalize Act.eval ((((((a0.put (some 16) (.pointer (some ⟨w.heap.size + 1, 1, none⟩))).put (some 18) (.int .i64 ((N : Nat) : Int))).put (some 19) (hdr N wr.heap.size)).put (some 20) (.slice (some ⟨wr.heap.size + 1, 0, none⟩) 1 1)).put (some 17) (M)).put (some 21) (.slice (some ⟨g2, 0, none⟩) (k + 1) cap2)) = ρ at *
        simp only [List.getElem_toArray, List.getElem_cons_zero, List.getElem_cons_succ]
        go_simp
      refine wpAnyH_ready (rs := [7]) (by kernel_rfl) (by simp) ?_
      refine any_skip (i := 7) (d := none) (w' := w2.setCell ⟨w.heap.size + 1, 1, none⟩ (.slice (some ⟨g2, 0, none⟩) (k + 1) cap2)) rfl rfl (by rfl) ?_ ?_ AllReadyH.nil
      · skip
        have e21 : Act.eval (((((((a0.put (some 16) (.pointer (some ⟨w.heap.size + 1, 1, none⟩))).put (some 18) (.int .i64 ((N : Nat) : Int))).put (some 19) (hdr N wr.heap.size)).put (some 20) (.slice (some ⟨wr.heap.size + 1, 0, none⟩) 1 1)).put (some 17) (M)).put (some 21) (.slice (some ⟨g2, 0, none⟩) (k + 1) cap2)).put (some 22) (.pointer (some ⟨w.heap.size + 1, 1, none⟩))) (.tmp 21) = .slice (some ⟨g2, 0, none⟩) (k + 1) cap2 := by rw [Act.eval_put_ne _ _ _ _ (by decide), Act.eval_put_same _ _ _ (by (repeat rw [Act.size_put]); omega)]
        have e22 : Act.eval (((((((a0.put (some 16) (.pointer (some ⟨w.heap.size + 1, 1, none⟩))).put (some 18) (.int .i64 ((N : Nat) : Int))).put (some 19) (hdr N wr.heap.size)).put (some 20) (.slice (some ⟨wr.heap.size + 1, 0, none⟩) 1 1)).put (some 17) (M)).put (some 21) (.slice (some ⟨g2, 0, none⟩) (k + 1) cap2)).put (some 22) (.pointer (some ⟨w.heap.size + 1, 1, none⟩))) (.tmp 22) = .pointer (some ⟨w.heap.size + 1, 1, none⟩) := by rw [Act.eval_put_same _ _ _ (by (repeat rw [Act.size_put]); omega)]
        have ec : ∀ v, Act.eval (((((((a0.put (some 16) (.pointer (some ⟨w.heap.size + 1, 1, none⟩))).put (some 18) (.int .i64 ((N : Nat) : Int))).put (some 19) (hdr N wr.heap.size)).put (some 20) (.slice (some ⟨wr.heap.size + 1, 0, none⟩) 1 1)).put (some 17) (M)).put (some 21) (.slice (some ⟨g2, 0, none⟩) (k + 1) cap2)).put (some 22) (.pointer (some ⟨w.heap.size + 1, 1, none⟩))) (.const v) = v := fun _ => rfl
        have ef : ∀ f, Act.eval (((((((a0.put (some 16) (.pointer (some ⟨w.heap.size + 1, 1, none⟩))).put (some 18) (.int .i64 ((N : Nat) : Int))).put (some 19) (hdr N wr.heap.size)).put (some 20) (.slice (some ⟨wr.heap.size + 1, 0, none⟩) 1 1)).put (some 17) (M)).put (some 21) (.slice (some ⟨g2, 0, none⟩) (k + 1) cap2)).put (some 22) (.pointer (some ⟨w.heap.size + 1, 1, none⟩))) (.func f) = .func (.func f) #[] #[] := fun _ => rfl
        generalize Act.eval (((((((a0.put (some 16) (.pointer (some ⟨w.heap.size + 1, 1, none⟩))).put (some 18) (.int .i64 ((N : Nat) : Int))).put (some 19) (hdr N wr.heap.size)).put (some 20) (.slice (some ⟨wr.heap.size + 1, 0, none⟩) 1 1)).put (some 17) (M)).put (some 21) (.slice (some ⟨g2, 0, none⟩) (k + 1) cap2)).put (some 22) (.pointer (some ⟨w.heap.size + 1, 1, none⟩))) = ρ at *
        simp only [List.getElem_toArray, List.getElem_cons_zero, List.getElem_cons_succ]
        go_simp
      refine wpAnyH_done (by kernel_rfl) ?_ _
      subst hA
      simp only [Act.put, List.setIfInBounds_toArray, List.set_cons_zero, List.set_cons_succ]
      go_wp2_with fail
      refine ⟨⟨k + 1, _, _, by omega, by go_num, hR2⟩, by simp [intOf]; omega⟩
    · have e : N = k := by omega
      subst e
      have hge : ¬ ((N : Nat) : Int) < 256 := by have := HN.out; omega
      have c0 := hR.box.cell (j := 0) rfl
      have c1 := hR.box.cell (j := 1) rfl
      have d0 := hR.res.cell (j := 0) rfl
      have d1 := hR.res.cell (j := 1) rfl
      have f0 := hR.res.frozen 0
      have f1 := hR.res.frozen 1
      have hM1 : ∃ x y z, M = .slice x y z := by
        rcases hR.ref.own.2 with ⟨e, _⟩ | ⟨g, cap, cur, e, _⟩
        · exact ⟨_, _, _, e⟩
        · exact ⟨_, _, _, e⟩
      obtain ⟨x, y, z, rfl⟩ := hM1
      go_wp2_with fail
      have hres := (hR.res.set 0 (.int .i64 ((N : Nat) : Int))).set 1 (.slice x y z)
      simp only [List.setIfInBounds_toArray, List.set_cons_zero, List.set_cons_succ] at hres
      (try simp only [Exit.inBlock, Exit.then])
      refine bodyPost_ret (ret_ref rfl rfl hres) rfl ?_
      have hA1 : RefM w.heap.size ((wr.setCell ⟨w.heap.size, 0, none⟩ (.int .i64 ((N : Nat) : Int))).setCell ⟨w.heap.size, 1, none⟩ (.slice x y z)) (.slice x y z) N N rb (fun _ _ => false) := RefM.mono (hR.ref.below' fun g hg _ => by rw [Below.heap_setCell _ _ _ _ (by simp; omega), Below.heap_setCell _ _ _ _ (by simp; omega)]) (by omega)
      have hB1 := (hR.below.setCell (p := ⟨w.heap.size, 0, none⟩) (Nat.le_refl _) (.int .i64 ((N : Nat) : Int))).setCell (p := ⟨w.heap.size, 1, none⟩) (Nat.le_refl _) (.slice x y z)
      first | exact ⟨_, rb, rfl, hA1, hB1⟩ | exact ⟨_, rfl, ⟨rb, hA1⟩, hB1⟩
set_option maxHeartbeats 4000000 in
theorem refNew_neg (n : Int) (hn : n < 0) (w : World) :
    Calls Tryd.prog 51 #[.int .i64 n] w fun e w' => ∃ M rb, e = .returned (.agg #[.int .i64 ((0 : Nat) : Int), M]) ∧ RefM w.heap.size w' M 0 0 rb (fun _ _ => false) ∧ Below w.heap.size w w' := by
  go_enter Tryd.func51, Tryd.ntmps51
  go_wp2_with fail
  go_loopw [4] (fun i wr => i = .int .i64 0 ∧ RefMid w wr (.slice none 0 0) 0 0 (fun _ => 0)) (fun _ _ => 0)
  case atStart =>
    refine ⟨rfl, ?_, ?_, ?_, RefM.nil _ _ _ _ _⟩
    · exact ((Below.refl _ w).alloc (Nat.le_refl _) _).alloc (by simp) _
    · exact (Blk.new w _ _).alloc _
    · exact Blk.new2 w _ _ _
  case round =>
    obtain ⟨rfl, hR⟩ := hrel
    have c0 := hR.box.cell (j := 0) rfl
    have c1 := hR.box.cell (j := 1) rfl
    have d0 := hR.res.cell (j := 0) rfl
    have d1 := hR.res.cell (j := 1) rfl
    have f0 := hR.res.frozen 0
    have f1 := hR.res.frozen 1
    go_wp2_with fail
    have hres := (hR.res.set 0 (.int .i64 ((0 : Nat) : Int))).set 1 (.slice none 0 0)
    simp only [List.setIfInBounds_toArray, List.set_cons_zero, List.set_cons_succ] at hres
    (try simp only [Exit.inBlock, Exit.then])
    refine bodyPost_ret (ret_ref rfl rfl hres) rfl ?_
    refine ⟨_, fun _ => 0, rfl, RefM.mono (hR.ref.below' fun g hg _ => ?_) (by omega), (hR.below.setCell (Nat.le_refl _) _).setCell (Nat.le_refl _) _⟩
    rw [Below.heap_setCell _ _ _ _ (by simp; omega), Below.heap_setCell _ _ _ _ (by simp; omega)]
theorem refNew_calls (n : Int) (w : World) :
    Calls Tryd.prog 51 #[.int .i64 n] w fun e w' => ∃ M rb, e = .returned (.agg #[.int .i64 ((clampN n : Nat) : Int), M]) ∧ RefM w.heap.size w' M (clampN n) (clampN n) rb (fun _ _ => false) ∧ Below w.heap.size w w' := by
  by_cases h1 : n < 0
  · rw [show clampN n = 0 by unfold clampN; omega]
    exact refNew_neg n h1 w
  · by_cases h2 : 256 < n
    · rw [show clampN n = 256 by unfold clampN; omega]
      exact refNew_big n h2 w 256 rfl
    · obtain ⟨N, rfl⟩ : ∃ N : Nat, n = ((N : Nat) : Int) := ⟨n.toNat, by omega⟩
      rw [show clampN ((N : Nat) : Int) = N by unfold clampN; omega]
      exact refNew_mid N (by omega) w
end Go.Proofs.YteejkhgccaagiaaDoor
