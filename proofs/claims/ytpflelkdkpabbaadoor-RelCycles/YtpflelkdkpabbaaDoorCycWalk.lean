/- The contracts of package rel's Cycle, Irreflexive, Acyclic and Star. -/
import Derived.Test.YtpflelkdkpabbaaDoorCycleWalk
import Derived.Test.YtpflelkdkpabbaaDoorPlusWalk
import Derived.Test.YtpflelkdkpabbaaDoorLoopsWalk
namespace Go.Proofs.YtpflelkdkpabbaaDoor
open Go.RowKit Go.Shelf Sx
attribute [local go_sem] Oper.semAt_some

theorem testBit_loopsK (L : List Nat) (k p : Nat) : (loopsK L k).testBit p = (decide (p < k) && (gr L p).testBit p) := by
  induction k with
  | zero => simp [loopsK]
  | succ k ih =>
    rw [loopsK_succ, testBit_setB, ih]
    by_cases h : p = k
    · subst h; simp
    · rw [if_neg h]
      by_cases h2 : p < k
      · rw [decide_eq_true h2, decide_eq_true (show p < k + 1 by omega)]
      · rw [decide_eq_false h2, decide_eq_false (show ¬ p < k + 1 by omega)]
theorem loopsL_lt (L : List Nat) : loopsL L < 2 ^ L.length := lt_pow_of_testBit fun i hi => by rw [loopsL, testBit_loopsK, decide_eq_false (by omega), Bool.false_and]
theorem plusL_length (L : List Nat) : (plusL L).length = L.length := plusN_length L L.length

/-- What Cycle tells. -/
def CycOK (L out : List Nat) : Prop :=
  (bitsOf (loopsL (plusL L)) = [] ∧ out = []) ∨ ∃ s tl ly, bitsOf (loopsL (plusL L)) = s :: tl ∧ LayOK L (invL L) s 0 (setB 0 s true) ly ∧ out = s :: cycF L s (remL ly (ly.length - 1))

set_option maxRecDepth 100000 in
set_option maxHeartbeats 4000000 in
theorem Cycle_in (b c : Nat) (L : List Nat) (w : World) (h : IsRel w b c L) (hT : Tab w) :
    CallsIn Fence.wide 6 Tryd.prog 37 #[pv b] w fun e w' => ∃ v out, e = .returned v ∧ CycOK L out ∧ w'.ownsRow w.heap.size 3 1 v out.length (encI out) ∧ Below w.heap.size w w' := by
  have hl := h.len
  have hT2 := (hT.alloc (.cells #[pv b] 22)).alloc (.cells #[.slice none 0 0] 61)
  have h2 := (h.alloc (.cells #[pv b] 22)).alloc (.cells #[.slice none 0 0] 61)
  refine callsIn_of_wp_marks Tryd.func37 rfl trivial ?_ rfl
  simp only [Tryd.ntmps37, List.size_toArray, List.length_cons, List.length_nil, Nat.reduceAdd, Nat.reduceSub, Array.replicate_succ, Array.replicate_zero, List.push_toArray, List.append_toArray, List.nil_append, List.cons_append]
  gi_wp2_with fail
  refine ⟨trivial, ?_⟩
  refine (callsIn_wide.2 (Plus_calls b c L _ h2)).mono ?_
  rintro e w1 ⟨b2, c2, rfl, hM⟩
  have hB1 : Below w.heap.size w w1 := (((Below.refl _ w).alloc (Nat.le_refl _) _).alloc (by simp) _).trans (hM.below.mono (by simp; omega))
  have hbx1 : Blk w1 w.heap.size 22 #[pv b] := ((Blk.new w _ _).alloc _).of_below hM.below
  have hrs1 : Boxed w1 (w.heap.size + 1) 61 (.slice none 0 0) := (Blk.new2 w _ _ _).of_below hM.below
  gi_wp2_with fail
  refine ⟨trivial, ?_⟩
  refine (callsIn_wide.2 (loops_calls b2 c2 (plusL L) _ hM.rel)).mono ?_
  rintro e w2 ⟨rfl, hB2⟩
  have hBw2 : Below w.heap.size w w2 := below_step hB1 hB1.size hB2
  have hbx2 := hbx1.of_below hB2
  have hrs2 : Boxed w2 (w.heap.size + 1) 61 (.slice none 0 0) := Blk.of_below hrs1 hB2
  have hTw2 := hT.step hBw2
  have HL : Hid (∀ p, p ∈ bitsOf (loopsL (plusL L)) → p < L.length) := by
    intro p hp
    have h1 := (mem_bitsOf.1 hp).2
    apply Nat.lt_of_not_le
    intro hle
    have := loopsL_lt (plusL L)
    rw [plusL_length] at this
    rw [testBit_of_lt this hle] at h1
    cases h1
  have HC : Hid (∀ out, ((bitsOf (loopsL (plusL L)) = [] ∧ out = []) ∨ ∃ s tl ly, bitsOf (loopsL (plusL L)) = s :: tl ∧ LayOK L (invL L) s 0 (setB 0 s true) ly ∧ out = s :: cycF L s (remL ly (ly.length - 1))) → CycOK L out) := fun _ h => h
  generalize loopsL (plusL L) = M at *
  clear hB2 hB1 hM hbx1 hrs1 h2 hT2
  have hs2 := hBw2.size
  have hp := hT.pos
  have hs3 := hbx2.lt
  have hs4 := hrs2.lt
  gi_wp2_with (refine ⟨trivial, ?_⟩; gi_at_call 42; refine (points_in Fence.wide _ trivial rfl M _).mono ?_; rintro e w' ⟨rfl, rfl⟩)
  refine wpIn_rangeFunc_ownF rfl (by omega) (gf := 77) (lb := #[.pointer (some ⟨w2.heap.size, 0, none⟩)]) rfl trivial (enters_of Tryd.func77 (by kernel_rfl) rfl)
    (points_stops M w2.heap.size (6 - 1) (by omega) _ ?hB ?hT) belowK_t (belowK_b (by simp)) (Below.refl _ _) (fun _ => rfl)
    (fun pre W => w2.heap.size + 1 ≤ W.heap.size ∧ pre = [] ∧ Blk W w.heap.size 22 #[pv b] ∧ Boxed W (w.heap.size + 1) 61 (.slice none 0 0) ∧ Tab W ∧ Below w.heap.size w W)
    (fun cd pre W => w2.heap.size + 1 ≤ W.heap.size ∧ cd = .ret ∧ ∃ q v ly, vals pre = [q] ∧ LayOK L (invL L) q 0 (setB 0 q true) ly ∧ Boxed W (w.heap.size + 1) 61 v ∧ W.ownsRow w.heap.size 3 1 v (q :: cycF L q (remL ly (ly.length - 1))).length (encI (q :: cycF L q (remL ly (ly.length - 1)))) ∧ Tab W ∧ Below w.heap.size w W)
    ?hI ?hIx ?h0
    (fun x => { tmps := #[pv b, pv w.heap.size, pv (w.heap.size + 1), .int .i64 ((x.1 : Nat) : Int), pv b, pv b2, rv M, .func (.func 77) #[] #[.pointer (some ⟨w2.heap.size, 0, none⟩)], .int .i64 ((x.1 : Nat) : Int), undef, undef, undef], defers := [] }) ?assign ?body ?done ?stop
  case hB => exact Blk.new _ _ _
  case hT => exact hTw2.alloc _
  case hI =>
    refine ownFrom_rows (fun s W hi => by simpa using hi.1) ?_
    rintro s W W' ⟨h1, h2, h3, h4, h5, h6⟩ hb' ho
    have hb' : Below (w2.heap.size + 1) W W' := by simpa using hb'
    exact ⟨Nat.le_trans h1 hb'.size, h2, h3.below hb' (by omega), (hb'.block _ (by omega)).trans h4, h5.below hb' (by omega), h6.trans (hb'.mono (by omega))⟩
  case hIx =>
    intro cd
    refine ownFrom_rows (fun s W hi => by simpa using hi.1) ?_
    rintro s W W' ⟨h1, h2, q, v, ly, h9, h10, h3, h4, h5, h6⟩ hb' ho
    have hb' : Below (w2.heap.size + 1) W W' := by simpa using hb'
    exact ⟨Nat.le_trans h1 hb'.size, h2, q, v, ly, h9, h10, (hb'.block _ (by omega)).trans h3, ho _ _ _ _ _ _ h4, h5.below hb' (by omega), h6.trans (hb'.mono (by omega))⟩
  case h0 =>
    exact ⟨by simp, rfl, hbx2.alloc _, hrs2.alloc _, hTw2.alloc _, hBw2.alloc hs2 _⟩
  case assign =>
    intro l x W K hK
    gi_wp2
    exact hK
  case body =>
    rintro l pre x W ⟨h1, rfl, h3, h4, h5, h6⟩ _
    have k0 : W.cell? ⟨w.heap.size, 0, none⟩ = some (pv b) := h3.cell rfl
    have hq := HL.out x.1 x.2
    gi_wp2_with (refine ⟨trivial, ?_⟩; gi_at_call 76; refine (CallsIn.inRound l (callsIn_wide.2 (cycleFrom_calls b c L x.1 _ (h.below h6) h5 hq))).mono ?_; rintro e w3 ⟨v, ly, rfl, hly, hown, hB3⟩; have h4b : Boxed w3 (w.heap.size + 1) 61 (.slice none 0 0) := Blk.of_below h4 hB3; have hc1 := h4b.cell; have hf1 := h4b.frozen; have HO := hid_of hown; rw [List.length_cons] at hown; obtain ⟨g', cap', rfl⟩ := ownsRow_succ hown; clear hown)
    have hs6 := h6.size
    refine ⟨(keeps_of_below hB3).trans (KeepsOthers.setCell _ _ _), Nat.le_trans h1 (Nat.le_trans hB3.size (by simp [World.setCell])), rfl, x.1, _, ly, rfl, hly, h4b.set _, ?_, (h5.step hB3).set (by simp) _, (h6.trans (hB3.mono hs6)).setCell (by simp) _⟩
    refine owns_set (ownsRow_le HO.out hs6) ?_ _
    exact h4b.not_row (by decide) HO.out
  case done =>
    rintro D ys W hDD hys ⟨h1, rfl, h3, h4, h5, h6⟩ hK
    have hc := h4.cell
    have hf := h4.frozen
    have hnil : bitsOf M = [] := hys.symm
    gi_wp2
    have hK' := (KeepsOthers.setCell W ⟨w.heap.size + 1, 0, none⟩ (.slice none 0 0)).same D _ hK rfl
    refine ⟨by simp, .inl ⟨_, _, rfl, run_takeDeferred hK', ?_⟩⟩
    have h7 := Blk.putObj (h4.set (.slice none 0 0)) hK' rfl (.deferred none)
    have hc7 : (World.putObj _ D (.deferred none)).cell? ⟨w.heap.size + 1, 0, none⟩ = some (.slice none 0 0) := h7.cell rfl
    refine ⟨.slice none 0 0, ?_, .slice none 0 0, [], rfl, HC.out [] (.inl ⟨hnil, rfl⟩), World.ownsRow_nil _ _ _ _, (h6.setCell (by simp) _).trans (belowK_b (w := w) (Nat.le_refl _) _ D _ _ (by simp at hDD; omega) hK' rfl rfl)⟩
    simp [results, Tryd.f37, go_sem, hc7]
  case stop =>
    rintro D cd pre W hDD hpre ⟨h1, rfl, q, v, ly, hq, hly, h3, h4, h5, h6⟩ hK
    rw [hq] at hpre
    obtain ⟨tl, htl⟩ := hpre
    gi_wp2
    refine ⟨by simp, .inl ⟨_, _, rfl, run_takeDeferred hK, ?_⟩⟩
    have h7 := Blk.putObj h3 hK rfl (.deferred none)
    have hc7 : (W.putObj D (.deferred none)).cell? ⟨w.heap.size + 1, 0, none⟩ = some v := h7.cell rfl
    refine ⟨v, ?_, v, _, rfl, HC.out _ (.inr ⟨q, tl, ly, htl.symm, hly, rfl⟩), ownsRow_putObj h4 _ hK rfl, h6.trans (belowK_b (w := w) (Nat.le_refl _) _ D _ _ (by simp at hDD; omega) hK rfl rfl)⟩
    simp [results, Tryd.f37, go_sem, hc7]
theorem Cycle_calls (b c : Nat) (L : List Nat) (w : World) (h : IsRel w b c L) (hT : Tab w) :
    Calls Tryd.prog 37 #[pv b] w fun e w' => ∃ v out, e = .returned v ∧ CycOK L out ∧ w'.ownsRow w.heap.size 3 1 v out.length (encI out) ∧ Below w.heap.size w w' := callsIn_wide.1 (Cycle_in b c L w h hT)

set_option maxHeartbeats 400000 in
theorem Irr_calls (b c : Nat) (L : List Nat) (w : World) (h : IsRel w b c L) :
    Calls Tryd.prog 36 #[pv b] w fun e w' => e = .returned (.bool (loopsL L == 0)) ∧ Below w.heap.size w w' := by
  have HL : Hid (loopsL L < 2 ^ 256) := Nat.lt_of_lt_of_le (loopsL_lt L) (Nat.pow_le_pow_right (by omega) h.len)
  go_enter Tryd.func36, Tryd.ntmps36
  go_wp2_with fail
  refine (loops_calls b c L _ h).mono ?_
  rintro e w1 ⟨rfl, hB1⟩
  go_wp2_with fail
  refine (empty_calls (loopsL L) HL _).mono ?_
  rintro e w2 ⟨rfl, hB2⟩
  go_wp2_with fail
  go_ret
  exact ⟨rfl, below_step hB1 hB1.size hB2⟩
set_option maxHeartbeats 400000 in
theorem Acyclic_calls (b c : Nat) (L : List Nat) (w : World) (h : IsRel w b c L) :
    Calls Tryd.prog 35 #[pv b] w fun e w' => e = .returned (.bool (loopsL (plusL L) == 0)) ∧ Below w.heap.size w w' := by
  go_enter Tryd.func35, Tryd.ntmps35
  go_wp2_with fail
  refine (Plus_calls b c L _ h).mono ?_
  rintro e w1 ⟨b2, c2, rfl, hM⟩
  go_wp2_with fail
  refine (Irr_calls b2 c2 (plusL L) _ hM.rel).mono ?_
  rintro e w2 ⟨rfl, hB2⟩
  go_wp2_with fail
  go_ret
  exact ⟨rfl, below_step hM.below hM.below.size hB2⟩
set_option maxHeartbeats 400000 in
theorem Star_calls (b c : Nat) (L : List Nat) (w : World) (h : IsRel w b c L) :
    Calls Tryd.prog 12 #[pv b] w fun e w' => ∃ b' c', e = .returned (pv b') ∧ Made w w' b' c' (optL (plusL L)) := by
  go_enter Tryd.func12, Tryd.ntmps12
  go_wp2_with fail
  refine (Plus_calls b c L _ h).mono ?_
  rintro e w1 ⟨b2, c2, rfl, hM⟩
  go_wp2_with fail
  refine (Opt_calls b2 c2 (plusL L) _ hM.rel).mono ?_
  rintro e w2 ⟨b3, c3, rfl, hM2⟩
  go_wp2_with fail
  go_ret
  have hs := hM.below.size
  exact ⟨b3, c3, rfl, hM2.rel, Nat.le_trans hs hM2.hb, Nat.le_trans hs hM2.hc, below_step hM.below hs hM2.below⟩
end Go.Proofs.YtpflelkdkpabbaaDoor
