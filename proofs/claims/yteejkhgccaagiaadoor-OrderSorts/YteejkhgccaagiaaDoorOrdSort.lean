/- Package order's Sort: a range over an iterator whose body leaves in its first round. -/
import Derived.Test.YteejkhgccaagiaaDoorOrdOrd
namespace Go.Proofs.YteejkhgccaagiaaDoor
open Go.RowKit Go.Shelf Sx
attribute [local go_sem] Oper.semAt_some

/-- A range over a function that calls yield once at the most, with a value of its own making; the body returns at once. -/
theorem rf_once {P : Program} {n : Nat} {g : Operand} {ps : Array Tmp} {assign body : Code} {Q : Exit → Act → World → Prop} {a : Act} {w : World} (hn : 1 ≤ n) {gf : Nat} {lb : Array Value}
    (hg : a.eval g = .func (.func gf) #[] lb) (eg : ∀ args w, (callFunc gf args).run P w = .ok (.enter gf args) w) (hps : ps.size = 1) (X : Prop) (G B : Value → World → Prop)
    (hG : ∀ v W l o o', G v W → W.heap[l]? = some o → o.isCells = false → G v (W.putObj l o'))
    (hB : ∀ v W l o o', w.heap.size ≤ l → B v W → W.heap[l]? = some o → o.isCells = false → B v (W.putObj l o'))
    (hgen : ∀ (W1 : World) (l : Nat) (Jx : Value → World → Prop), Below w.heap.size w W1 → (∀ v W', X → G v W' → Below W1.heap.size W1 W' → YieldAt Fence.wide (n - 1 - 1) P l #[v] W' fun e W2 => e = .returned (.bool false) ∧ Jx v W2) →
      CallsIn Fence.wide (n - 1) P gf (#[.func (.yield l) #[] #[]] ++ lb) W1 fun e W' => (∃ r, e = .returned r) ∧ (¬ X ∧ Below W1.heap.size W1 W' ∨ X ∧ ∃ v, Jx v W'))
    (a₁ : Value → Act)
    (hassign : ∀ (l : Nat) (v : Value) (W : World) (K : Act → World → Prop), K (a₁ v) W → assign.wpIn (Fence.wide.inRound l) (n - 1 - 1) P (Exit.then K (fun _ _ _ => False)) { tmps := (ps.zip #[v]).foldl (fun t (p, v) => t.setIfInBounds p v) a.tmps, defers := [] } W)
    (hbody : ∀ (l : Nat) (v : Value) (W : World), X → G v W → Below w.heap.size w W → body.wpIn (Fence.wide.inRound l) (n - 1 - 1) P (fun e _ W3 => e = .ret ∧ KeepsOthers W W3 ∧ B v W3) (a₁ v) W)
    (hdone : ¬ X → ∀ (D : Nat) (W : World), w.heap.size ≤ D → Below w.heap.size w W → W.heap[D]? = some (.deferred (some [])) → Q .normal { a with defers := { target := .collected D, args := #[] } :: a.defers } W)
    (hstop : X → ∀ (D : Nat) (v : Value) (W : World), w.heap.size ≤ D → B v W → W.heap[D]? = some (.deferred (some [])) → Code.ret.wpIn Fence.wide n P Q { a with defers := { target := .collected D, args := #[] } :: a.defers } W) :
    (Code.rangeFunc g ps assign body).wpIn Fence.wide n P Q a w := by
  refine wpIn_rangeFunc fun fn hfn => ?_
  obtain ⟨rc, hrc⟩ : ∃ rc : LoopState → Option Code → Loop, rc = fun st pe => { state := st, pending := pe, fn, tmps := a.tmps, params := ps, assign, body, defers := w.heap.size } := ⟨_, rfl⟩
  obtain ⟨W1, hW1⟩ : ∃ W1, (w.alloc (.deferred (some []))).alloc (.loop (rc .ready none)) = W1 := ⟨_, rfl⟩
  have hL1 : W1.heap[w.heap.size + 1]? = some (.loop (rc .ready none)) := by
    have := World.alloc_heap_new (w.alloc (.deferred (some []))) (.loop (rc .ready none))
    rwa [World.size_alloc, hW1] at this
  have hD1 : W1.heap[w.heap.size]? = some (.deferred (some [])) := by
    rw [← hW1]
    exact (Below.heap_alloc _ _ _ (by simp)).trans (World.alloc_heap_new w _)
  have hb1 : Below w.heap.size w W1 := by
    rw [← hW1]
    exact ((Below.refl _ w).alloc (Nat.le_refl _) _).alloc (by simp) _
  have hs1 : W1.heap.size = w.heap.size + 2 := by rw [← hW1]; simp
  refine ⟨w.heap.size + 1, [{ target := .collected w.heap.size, args := #[] }], W1, { target := .fn (.func gf) lb, args := #[.func (.yield (w.heap.size + 1)) #[] #[]] }, W1, gf,
    #[.func (.yield (w.heap.size + 1)) #[] #[]] ++ lb, W1, ?_, ?_, fun _ _ => trivial, ?_, fun _ => hn, ?_⟩
  · rw [← hW1, hrc]; exact run_enterLoop_outer _ _ _ _ _
  · simp only [resolve, hg]
    simp [go_sem]
  · simp [invoke, go_sem, eg]
  refine (hgen W1 (w.heap.size + 1) (fun v W => B v W ∧ W.heap[w.heap.size + 1]? = some (.loop (rc .done (some .ret))) ∧ W.heap[w.heap.size]? = some (.deferred (some []))) hb1 ?_).mono ?_
  · intro v W hX hGv hBW
    have hl := (hBW.block _ (by omega)).trans hL1
    have hd := (hBW.block _ (by omega)).trans hD1
    have hlt : w.heap.size + 1 < W.heap.size := (Array.getElem?_eq_some_iff.1 hl).1
    have hy := run_yield (P := P) (args := #[v]) hl (by rw [hrc]; simp [hps])
    rw [hrc] at hy
    refine ⟨fn, _, assign, body, hy, roundIn_of_wpIn hfn (hassign _ v W _ ⟨_, run_beginRound hl (by rw [hrc]), ?_⟩)⟩
    have hl2 : (W.putObj (w.heap.size + 1) (.loop { rc .ready none with state := .busy })).heap[w.heap.size + 1]? = some (.loop { rc .ready none with state := .busy }) := World.putObj_heap_same hlt
    have hd2 : (W.putObj (w.heap.size + 1) (.loop { rc .ready none with state := .busy })).heap[w.heap.size]? = some (.deferred (some [])) := (World.putObj_heap_other (by omega)).trans hd
    have hb2 : Below w.heap.size w (W.putObj (w.heap.size + 1) (.loop { rc .ready none with state := .busy })) := by
      have h3 : Below w.heap.size w W := below_step hb1 (by omega) hBW
      refine ⟨h3.os, h3.tape, h3.output, ?_, fun k hk => (World.putObj_heap_other (by omega)).trans (h3.block k hk)⟩
      have := h3.size
      simp [World.putObj]
      omega
    refine wpIn_mono (hbody _ v _ hX (hG v W _ _ _ hGv hl rfl) hb2) ?_
    rintro e a3 W3 ⟨rfl, hk3, hB3⟩
    have hl3 := hk3.same _ _ hl2 rfl
    have hr := run_endRound (P := P) (some .ret) hl3
    refine ⟨_, _, hr, rfl, hB v W3 _ _ _ (by omega) hB3 hl3 rfl, ?_, (World.putObj_heap_other (by omega)).trans (hk3.same _ _ hd2 rfl)⟩
    rw [World.putObj_heap_same (Array.getElem?_eq_some_iff.1 hl3).1, hrc]
    rfl
  · rintro e W2 ⟨⟨r, rfl⟩, ⟨hX, hBW⟩ | ⟨hX, v, hBv, hl, hd⟩⟩
    · have hl := (hBW.block _ (by omega)).trans hL1
      have hd := (hBW.block _ (by omega)).trans hD1
      refine ⟨none, _, by have := run_endLoop (P := P) hl (by rw [hrc]; simp); rw [hrc] at this; exact this, hdone hX _ _ (Nat.le_refl _) ?_ ((World.putObj_heap_other (by omega)).trans hd)⟩
      have h3 : Below w.heap.size w W2 := below_step hb1 (by omega) hBW
      refine ⟨h3.os, h3.tape, h3.output, ?_, fun k hk => (World.putObj_heap_other (by omega)).trans (h3.block k hk)⟩
      have := h3.size
      simp [World.putObj]
      omega
    · exact ⟨some .ret, _, by have := run_endLoop (P := P) hl (by rw [hrc]; simp); rw [hrc] at this; exact this, hstop hX _ v _ (Nat.le_refl _) (hB v W2 _ _ _ (by omega) hBv hl rfl) ((World.putObj_heap_other (by omega)).trans hd)⟩
end Go.Proofs.YteejkhgccaagiaaDoor
