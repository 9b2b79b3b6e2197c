/- The contract of package rel's step: the join of the rows of a set's points. -/
import Derived.Test.YteejkhgccaagiaaDoorSeqWalks
namespace Go.Proofs.YteejkhgccaagiaaDoor
open Go.RowKit Go.Shelf Sx
attribute [local go_sem] Oper.semAt_some

theorem below_of_drew {n : Nat} {w w' : World} (h : Below n w.drew w') : Below n w w' := ⟨h.os, h.tape, h.output, h.size, h.block⟩
theorem below_of_drew' {w w' : World} (h : Below w.drew.heap.size w.drew w') : Below w.heap.size w w' := ⟨h.os, h.tape, h.output, h.size, h.block⟩
theorem Blk.putObj {w : World} {b D : Nat} {t : TypeId} {cs : Array Value} {o : Obj} (h : Blk w b t cs) (hD : w.heap[D]? = some o) (ho : o.isCells = false) (o' : Obj) : Blk (w.putObj D o') b t cs := by
  have : b ≠ D := by
    rintro rfl
    have := h.symm.trans hD
    cases this
    cases ho
  exact (World.putObj_heap_other this).trans h
/-- The word of a round: four stores into a row of one's own. -/
theorem KeepsOthers.setRow (W : World) (b : Nat) (o1 o2 o3 o4 : Nat) (v1 v2 v3 v4 : Value) : KeepsOthers W ((((W.setCell ⟨b, o1, none⟩ v1).setCell ⟨b, o2, none⟩ v2).setCell ⟨b, o3, none⟩ v3).setCell ⟨b, o4, none⟩ v4) :=
  (((KeepsOthers.setCell _ _ _).trans (KeepsOthers.setCell _ _ _)).trans (KeepsOthers.setCell _ _ _)).trans (KeepsOthers.setCell _ _ _)
theorem below_setRow {n : Nat} {a W : World} (h : Below n a W) {b : Nat} (hb : n ≤ b) (o1 o2 o3 o4 : Nat) (v1 v2 v3 v4 : Value) : Below n a ((((W.setCell ⟨b, o1, none⟩ v1).setCell ⟨b, o2, none⟩ v2).setCell ⟨b, o3, none⟩ v3).setCell ⟨b, o4, none⟩ v4) :=
  (((h.setCell hb _).setCell hb _).setCell hb _).setCell hb _
theorem Blk.otherRow {w : World} {b c : Nat} {t : TypeId} {cs : Array Value} (h : Blk w b t cs) (hb : b ≠ c) (o1 o2 o3 o4 : Nat) (v1 v2 v3 v4 : Value) : Blk ((((w.setCell ⟨c, o1, none⟩ v1).setCell ⟨c, o2, none⟩ v2).setCell ⟨c, o3, none⟩ v3).setCell ⟨c, o4, none⟩ v4) b t cs :=
  (((h.setOther hb _).setOther hb _).setOther hb _).setOther hb _
theorem IsRel.otherRow {w : World} {b c d : Nat} {L : List Nat} (h : IsRel w b c L) (h1 : b ≠ d) (h2 : c ≠ d) (o1 o2 o3 o4 : Nat) (v1 v2 v3 v4 : Value) : IsRel ((((w.setCell ⟨d, o1, none⟩ v1).setCell ⟨d, o2, none⟩ v2).setCell ⟨d, o3, none⟩ v3).setCell ⟨d, o4, none⟩ v4) b c L :=
  (((h.other h1 h2 _).other h1 h2 _).other h1 h2 _).other h1 h2 _

/-- An invariant that only speaks of what lay ahead of the loop abides the law's book-keeping. -/
theorem ownFrom_old {β : Type} {B : Nat} {I : β → World → Prop} (hs : ∀ s W, I s W → B ≤ W.heap.size) (h : ∀ s W W', I s W → Below B W W' → I s W') : OwnFrom B I :=
  fun s W W' _ hi hg hr => h s W W' hi ((Below.refl B W).grown hg (hs s W hi) (fun k e => (hr k e).1))
theorem ownFrom_false {β : Type} {B : Nat} : OwnFrom B (fun (_ : β) (_ : World) => False) := fun _ _ _ _ h _ _ => h

theorem Blk.new4 (w : World) (o o' o'' : Obj) (t : TypeId) (cs : Array Value) : Blk ((((w.alloc o).alloc o').alloc o'').alloc (.cells cs t)) (w.heap.size + 1 + 1 + 1) t cs := by
  have := Blk.new3 (w.alloc o) o' o'' t cs
  rwa [World.size_alloc] at this
theorem Blk.new5 (w : World) (o o' o'' o3 : Obj) (t : TypeId) (cs : Array Value) : Blk (((((w.alloc o).alloc o').alloc o'').alloc o3).alloc (.cells cs t)) (w.heap.size + 1 + 1 + 1 + 1) t cs := by
  have := Blk.new4 (w.alloc o) o' o'' o3 t cs
  rwa [World.size_alloc] at this

theorem two_lit (A B : Nat) : rcs A ++ rcs B = #[.int .u64 ((wd A 0 : Nat) : Int), .int .u64 ((wd A 1 : Nat) : Int), .int .u64 ((wd A 2 : Nat) : Int), .int .u64 ((wd A 3 : Nat) : Int), .int .u64 ((wd B 0 : Nat) : Int), .int .u64 ((wd B 1 : Nat) : Int), .int .u64 ((wd B 2 : Nat) : Int), .int .u64 ((wd B 3 : Nat) : Int)] := by simp [rcs]
/-- All that a load or a store of a row in a block of its own wants to know. -/
theorem Blk.row {w : World} {b R : Nat} (h : Blk w b 83 (rcs R)) :
    (w.cell? ⟨b, 0, none⟩ = some (.int .u64 ((wd R 0 : Nat) : Int)) ∧ w.cell? ⟨b, 1, none⟩ = some (.int .u64 ((wd R 1 : Nat) : Int)) ∧ w.cell? ⟨b, 2, none⟩ = some (.int .u64 ((wd R 2 : Nat) : Int)) ∧ w.cell? ⟨b, 3, none⟩ = some (.int .u64 ((wd R 3 : Nat) : Int))) ∧
    (w.frozen? ⟨b, 0, none⟩ = false ∧ w.frozen? ⟨b, 1, none⟩ = false ∧ w.frozen? ⟨b, 2, none⟩ = false ∧ w.frozen? ⟨b, 3, none⟩ = false) ∧ b < w.heap.size :=
  ⟨⟨h.cell (rcs_at (by omega)), h.cell (rcs_at (by omega)), h.cell (rcs_at (by omega)), h.cell (rcs_at (by omega))⟩, ⟨h.frozen _, h.frozen _, h.frozen _, h.frozen _⟩, h.lt⟩
theorem Blk.setRow {w : World} {b R : Nat} (h : Blk w b 83 (rcs R)) (S : Nat) :
    Blk ((((w.setCell ⟨b, 0, none⟩ (.int .u64 ((wd S 0 : Nat) : Int))).setCell ⟨b, 1, none⟩ (.int .u64 ((wd S 1 : Nat) : Int))).setCell ⟨b, 2, none⟩ (.int .u64 ((wd S 2 : Nat) : Int))).setCell ⟨b, 3, none⟩ (.int .u64 ((wd S 3 : Nat) : Int))) b 83 (rcs S) := by
  have := (((h.set 0 (.int .u64 ((wd S 0 : Nat) : Int))).set 1 (.int .u64 ((wd S 1 : Nat) : Int))).set 2 (.int .u64 ((wd S 2 : Nat) : Int))).set 3 (.int .u64 ((wd S 3 : Nat) : Int))
  simpa [rcs] using this

/-- The join of the rows of the points in a list. -/
def joinRows (L : List Nat) (l : List Nat) : Nat := l.foldl (fun s p => s ||| gr L p) 0
theorem joinRows_snoc (L l : List Nat) (p : Nat) : joinRows L (l ++ [p]) = joinRows L l ||| gr L p := by simp [joinRows]

set_option maxRecDepth 100000 in
set_option maxHeartbeats 2000000 in
theorem step_in (b c : Nat) (L : List Nat) (S : Nat) (w : World) (h : IsRel w b c L) (hT : Tab w) :
    CallsIn Fence.wide 6 Tryd.prog 80 #[pv b, rv S] w fun e w' => e = .returned (rv (joinRows L (bitsOf S))) ∧ Below w.heap.size w w' := by
  refine callsIn_of_wp_marks Tryd.func80 rfl trivial ?_ rfl
  simp only [Tryd.ntmps80, List.size_toArray, List.length_cons, List.length_nil, Nat.reduceAdd, Nat.reduceSub, Array.replicate_succ, Array.replicate_zero, List.push_toArray, List.append_toArray, List.nil_append, List.cons_append]
  gi_wp2_with (refine ⟨trivial, ?_⟩; gi_at_call 62; refine (points_in Fence.wide _ trivial rfl S _).mono ?_; rintro e w' ⟨rfl, rfl⟩)
  have hb := h.head.lt
  have hc := h.rows.lt
  refine wpIn_rangeFunc_ownF rfl (by omega) (gf := 88) (lb := #[.pointer (some ⟨w.heap.size + 1 + 1 + 1 + 1, 0, none⟩)]) rfl trivial (enters_of Tryd.func88 (by kernel_rfl) rfl)
    (points_stops S (w.heap.size + 1 + 1 + 1 + 1) (6 - 1) (by omega) _ ?hB ?hT) belowK_t (belowK_b (by simp)) (Below.refl _ _) (fun _ => rfl)
    (fun pre W => w.heap.size + 1 + 1 + 1 + 1 + 1 ≤ W.heap.size ∧ Blk W w.heap.size 22 #[pv b] ∧ Blk W (w.heap.size + 1 + 1 + 1) 83 (rcs (joinRows L (vals pre))) ∧ Blk W (w.heap.size + 1 + 1) 83 #[.int .u64 0, .int .u64 0, .int .u64 0, .int .u64 0] ∧ IsRel W b c L ∧ Tab W ∧ Below w.heap.size w W)
    (fun _ _ _ => False) ?hI (fun _ => ownFrom_false) ?h0
    (fun x => { tmps := #[pv b, rv S, pv w.heap.size, pv (w.heap.size + 1), pv (w.heap.size + 1 + 1), pv (w.heap.size + 1 + 1 + 1), .int .i64 ((x.1 : Nat) : Int), rv S, .func (.func 88) #[] #[.pointer (some ⟨w.heap.size + 1 + 1 + 1 + 1, 0, none⟩)], .int .i64 ((x.1 : Nat) : Int), undef, undef, undef, undef, undef, undef, undef], defers := [] }) ?assign ?body ?done ?stop
  case hB => exact Blk.new5 _ _ _ _ _ _ _
  case hT => exact ((((hT.alloc _).alloc _).alloc _).alloc _).alloc _
  case hI =>
    refine ownFrom_old (fun s W hi => by simpa using hi.1) ?_
    rintro s W W' ⟨h1, h2, h3, h4, h5, h6, h7⟩ hb'
    have hb' : Below (w.heap.size + 1 + 1 + 1 + 1 + 1) W W' := by simpa using hb'
    exact ⟨Nat.le_trans h1 hb'.size, h2.below hb' (by omega), h3.below hb' (by omega), h4.below hb' (by omega), h5.below' hb' (by omega) (by omega), h6.below hb' (by omega), h7.trans (hb'.mono (by omega))⟩
  case h0 =>
    refine ⟨by simp, ((((Blk.new w _ _).alloc _).alloc _).alloc _).alloc _, ?_, ?_, ((((h.alloc _).alloc _).alloc _).alloc _).alloc _, ((((hT.alloc _).alloc _).alloc _).alloc _).alloc _, ?_⟩
    · rw [show joinRows L (vals (R := S) []) = 0 from rfl, rcs_zero]
      exact (Blk.new4 w _ _ _ _ _).alloc _
    · exact ((Blk.new3 w _ _ _ _).alloc _).alloc _
    · exact (((((Below.refl _ w).alloc (Nat.le_refl _) _).alloc (by simp) _).alloc (by simp; omega) _).alloc (by simp; omega) _).alloc (by simp; omega) _
  case assign =>
    intro l x W K hK
    gi_wp2
    exact hK
  case body =>
    rintro l pre x W ⟨h1, h2, h3, h4, h5, h6, h7⟩ _
    have k0 := h2.cell (j := 0) rfl
    obtain ⟨⟨k1, k2, k3, k4⟩, _, k5⟩ := h3.row
    have hmx : Tryd.prog.follows .mixedOrders = true := by kernel_rfl
    gi_wp2
    gi_region_with_o (first | (refine ⟨trivial, ?_⟩; gi_at_call 93; refine (CallsIn.inRound l (callsIn_wide.2 (rowAt_calls b c L x.1 _ h5.drew))).mono ?_; rintro e w1 ⟨rfl, hB1⟩; have h3a := h3.drew.of_below hB1; obtain ⟨⟨a0, a1, a2, a3⟩, _, a5⟩ := h3a.row) | (refine ⟨trivial, ?_⟩; gi_at_call 75; refine (CallsIn.inRound l (callsIn_wide.2 (join_calls (joinRows L (vals pre)) (gr L x.1) _ _ (by rw [two_lit]; exact Blk.new _ _ _)))).mono ?_; rintro e w2 ⟨rfl, hB2⟩; have h3b := (h3a.alloc _).of_below hB2; obtain ⟨⟨b0, b1, b2, b3⟩, ⟨f0, f1, f2, f3⟩, b5⟩ := h3b.row))
    all_goals
      gi_wp2
      have hBW : Below W.heap.size W w2 := ((below_of_drew' hB1).alloc (below_of_drew' hB1).size _).trans (hB2.mono (by simpa using Nat.le_succ_of_le (below_of_drew' hB1).size))
      refine ⟨(keeps_of_below hBW).trans (KeepsOthers.setRow _ _ _ _ _ _ _ _ _ _), below_setRow (hBW.mono (by omega)) (by omega) _ _ _ _ _ _ _ _, ?_⟩
      refine ⟨Nat.le_trans h1 (by simpa [World.setCell] using hBW.size), (h2.of_below hBW).otherRow (by omega) _ _ _ _ _ _ _ _, ?_, (h4.of_below hBW).otherRow (by omega) _ _ _ _ _ _ _ _, (h5.below hBW).otherRow (by omega) (by omega) _ _ _ _ _ _ _ _, (h6.step hBW).below (n := 1) (below_setRow (Below.refl _ _) (by omega) _ _ _ _ _ _ _ _) (by omega), below_setRow (h7.trans (hBW.mono h7.size)) (by omega) _ _ _ _ _ _ _ _⟩
      rw [vals_snoc, joinRows_snoc]
      exact h3b.setRow _
  case done =>
    rintro D ys W hD hys ⟨h1, h2, h3, h4, h5, h6, h7⟩ hK
    rw [hys] at h3
    rw [← rcs_zero] at h4
    obtain ⟨⟨k1, k2, k3, k4⟩, _, k5⟩ := h3.row
    obtain ⟨⟨m1, m2, m3, m4⟩, ⟨g1, g2, g3, g4⟩, m5⟩ := h4.row
    have hR := h4.setRow (joinRows L (bitsOf S))
    have hK' := (KeepsOthers.setRow W (w.heap.size + 1 + 1) 0 1 2 3 (.int .u64 ((wd (joinRows L (bitsOf S)) 0 : Nat) : Int)) (.int .u64 ((wd (joinRows L (bitsOf S)) 1 : Nat) : Int)) (.int .u64 ((wd (joinRows L (bitsOf S)) 2 : Nat) : Int)) (.int .u64 ((wd (joinRows L (bitsOf S)) 3 : Nat) : Int))).same D _ hK rfl
    gi_wp2
    refine ⟨by simp, .inl ⟨_, _, rfl, run_takeDeferred hK', ?_⟩⟩
    obtain ⟨⟨r1, r2, r3, r4⟩, _, _⟩ := (hR.putObj hK' rfl (.deferred none)).row
    refine ⟨rv (joinRows L (bitsOf S)), ?_, rfl, ?_⟩
    · simp [results, Tryd.f80, go_sem, r1, r2, r3, r4]
    · exact (below_setRow h7 (by omega) _ _ _ _ _ _ _ _).trans (belowK_b (w := w) (Nat.le_refl _) _ D _ _ (by simp at hD; omega) hK' rfl rfl)
  case stop =>
    rintro D c pre W _ _ h _
    exact h.elim
theorem step_calls (b c : Nat) (L : List Nat) (S : Nat) (w : World) (h : IsRel w b c L) (hT : Tab w) :
    Calls Tryd.prog 80 #[pv b, rv S] w fun e w' => e = .returned (rv (joinRows L (bitsOf S))) ∧ Below w.heap.size w w' := callsIn_wide.1 (step_in b c L S w h hT)
end Go.Proofs.YteejkhgccaagiaaDoor
