/- The contracts of package rel's Cycle, Irreflexive, Acyclic and Star. -/
import Derived.Test.YtjhhimjnoljojaaGreatDoorJ12
import Derived.Test.YtjhhimjnoljojaaGreatDoorPlusWalkO
import Derived.Test.YtjhhimjnoljojaaGreatDoorJ09
namespace Go.Proofs.YtjhhimjnoljojaaGreatDoor
open Go.RowKit Go.Shelf Sx
attribute [local go_sem] Oper.semAt_some
theorem testBit_loopsK (L : List Nat) (k p : Nat) : (loopsK L k).testBit p = (decide (p < k) && (gr L p).testBit p) := by
  induction k with
  | zero => simp [loopsK]
  | succ k ih =>
    rw [loopsK_succ, testBit_setB, ih]
    by_cases h : p = k
    · subst h; simp
    · rw [if_neg h]
      by_cases h2 : p < k
      · rw [decide_eq_true h2, decide_eq_true (show p < k + 1 by omega)]
      · rw [decide_eq_false h2, decide_eq_false (show ¬ p < k + 1 by omega)]
theorem loopsL_lt (L : List Nat) : loopsL L < 2 ^ L.length := lt_pow_of_testBit fun i hi => by rw [loopsL, testBit_loopsK, decide_eq_false (by omega), Bool.false_and]
theorem plusL_length (L : List Nat) : (plusL L).length = L.length := plusN_length L L.length
def CycOK (L out : List Nat) : Prop :=
  (bitsOf (loopsL (plusL L)) = [] ∧ out = []) ∨ ∃ s tl ly, bitsOf (loopsL (plusL L)) = s :: tl ∧ LayOK L (invL L) s 0 (setB 0 s true) ly ∧ out = s :: cycF L s (remL ly (ly.length - 1))
set_option maxRecDepth 100000 in
set_option maxHeartbeats 4000000 in
theorem Cycle_in (b c : Nat) (L : List Nat) (w : World) (h : IsRel w b c L) (hT : Tab w) :
    CallsIn Fence.wide 6 Tryz.prog 126 #[pv b] w fun e w' => ∃ v out, e = .returned v ∧ CycOK L out ∧ w'.ownsRow w.heap.size 3 1 v out.length (encI out) ∧ Below w.heap.size w w' := by
  have hl := h.len
  have hT2 := (hT.alloc (.cells #[pv b] 43)).alloc (.cells #[.slice none 0 0] 35)
  have h2 := (h.alloc (.cells #[pv b] 43)).alloc (.cells #[.slice none 0 0] 35)
  refine callsIn_of_wp_marks Tryz.func126 rfl trivial ?_ rfl
  simp only [Tryz.ntmps126, List.size_toArray, List.length_cons, List.length_nil, Nat.reduceAdd, Nat.reduceSub, Array.replicate_succ, Array.replicate_zero, List.push_toArray, List.append_toArray, List.nil_append, List.cons_append]
  gi_wp2_with fail
  refine ⟨trivial, ?_⟩
  refine (callsIn_wide.2 (Plus_calls b c L _ h2)).mono ?_
  rintro e w1 ⟨b2, c2, rfl, hM⟩
  have hB1 : Below w.heap.size w w1 := (((Below.refl _ w).alloc (Nat.le_refl _) _).alloc (by simp) _).trans (hM.below.mono (by simp; omega))
  have hbx1 : Blk w1 w.heap.size 43 #[pv b] := ((Blk.new w _ _).alloc _).of_below hM.below
  have hrs1 : Boxed w1 (w.heap.size + 1) 35 (.slice none 0 0) := (Blk.new2 w _ _ _).of_below hM.below
  gi_wp2_with fail
  refine ⟨trivial, ?_⟩
  refine (callsIn_wide.2 (loops_calls b2 c2 (plusL L) _ hM.rel)).mono ?_
  rintro e w2 ⟨rfl, hB2⟩
  have hBw2 : Below w.heap.size w w2 := below_step hB1 hB1.size hB2
  have hbx2 := hbx1.of_below hB2
  have hrs2 : Boxed w2 (w.heap.size + 1) 35 (.slice none 0 0) := Blk.of_below hrs1 hB2
  have hTw2 := hT.step hBw2
  have HL : Hid (∀ p, p ∈ bitsOf (loopsL (plusL L)) → p < L.length) := by
    intro p hp
    have h1 := (mem_bitsOf.1 hp).2
    apply Nat.lt_of_not_le
    intro hle
    have := loopsL_lt (plusL L)
    rw [plusL_length] at this
    rw [testBit_of_lt this hle] at h1
    cases h1
  have HC : Hid (∀ out, ((bitsOf (loopsL (plusL L)) = [] ∧ out = []) ∨ ∃ s tl ly, bitsOf (loopsL (plusL L)) = s :: tl ∧ LayOK L (invL L) s 0 (setB 0 s true) ly ∧ out = s :: cycF L s (remL ly (ly.length - 1))) → CycOK L out) := fun _ h => h
  generalize loopsL (plusL L) = M at *
  clear hB2 hB1 hM hbx1 hrs1 h2 hT2
  have hs2 := hBw2.size
  have hp := hT.pos
  have hs3 := hbx2.lt
  have hs4 := hrs2.lt
  gi_wp2_with (refine ⟨trivial, ?_⟩; gi_at_call 71; refine (points_in Fence.wide _ trivial rfl M _).mono ?_; rintro e w' ⟨rfl, rfl⟩)
  refine wpIn_rangeFunc_ownF rfl (by omega) (gf := 102) (lb := #[.pointer (some ⟨w2.heap.size, 0, none⟩)]) rfl trivial (enters_of Tryz.func102 (by kernel_rfl) rfl)
    (points_stops M w2.heap.size (6 - 1) (by omega) _ ?hB ?hT) belowK_t (belowK_b (by simp)) (Below.refl _ _) (fun _ => rfl)
    (fun pre W => w2.heap.size + 1 ≤ W.heap.size ∧ pre = [] ∧ Blk W w.heap.size 43 #[pv b] ∧ Boxed W (w.heap.size + 1) 35 (.slice none 0 0) ∧ Tab W ∧ Below w.heap.size w W)
    (fun cd pre W => w2.heap.size + 1 ≤ W.heap.size ∧ cd = .ret ∧ ∃ q v ly, vals pre = [q] ∧ LayOK L (invL L) q 0 (setB 0 q true) ly ∧ Boxed W (w.heap.size + 1) 35 v ∧ W.ownsRow w.heap.size 3 1 v (q :: cycF L q (remL ly (ly.length - 1))).length (encI (q :: cycF L q (remL ly (ly.length - 1)))) ∧ Tab W ∧ Below w.heap.size w W)
    ?hI ?hIx ?h0
    (fun x => { tmps := #[pv b, pv w.heap.size, pv (w.heap.size + 1), .int .i64 ((x.1 : Nat) : Int), pv b, pv b2, rv M, .func (.func 102) #[] #[.pointer (some ⟨w2.heap.size, 0, none⟩)], .int .i64 ((x.1 : Nat) : Int), undef, undef, undef], defers := [] }) ?assign ?body ?done ?stop
  case hB => exact Blk.new _ _ _
  case hT => exact hTw2.alloc _
  case hI =>
    refine ownFrom_rows (fun s W hi => by simpa using hi.1) ?_
    rintro s W W' ⟨h1, h2, h3, h4, h5, h6⟩ hb' ho
    have hb' : Below (w2.heap.size + 1) W W' := by simpa using hb'
    exact ⟨Nat.le_trans h1 hb'.size, h2, h3.below hb' (by omega), (hb'.block _ (by omega)).trans h4, h5.below hb' (by omega), h6.trans (hb'.mono (by omega))⟩
  case hIx =>
    intro cd
    refine ownFrom_rows (fun s W hi => by simpa using hi.1) ?_
    rintro s W W' ⟨h1, h2, q, v, ly, h9, h10, h3, h4, h5, h6⟩ hb' ho
    have hb' : Below (w2.heap.size + 1) W W' := by simpa using hb'
    exact ⟨Nat.le_trans h1 hb'.size, h2, q, v, ly, h9, h10, (hb'.block _ (by omega)).trans h3, ho _ _ _ _ _ _ h4, h5.below hb' (by omega), h6.trans (hb'.mono (by omega))⟩
  case h0 =>
    exact ⟨by simp, rfl, hbx2.alloc _, hrs2.alloc _, hTw2.alloc _, hBw2.alloc hs2 _⟩
  case assign =>
    intro l x W K hK
    gi_wp2
    exact hK
  case body =>
    rintro l pre x W ⟨h1, rfl, h3, h4, h5, h6⟩ _
    have k0 : W.cell? ⟨w.heap.size, 0, none⟩ = some (pv b) := h3.cell rfl
    have hq := HL.out x.1 x.2
    gi_wp2_with (refine ⟨trivial, ?_⟩; gi_at_call 144; refine (CallsIn.inRound l (callsIn_wide.2 (cycleFrom_calls b c L x.1 _ (h.below h6) h5 hq))).mono ?_; rintro e w3 ⟨v, ly, rfl, hly, hown, hB3⟩; have h4b : Boxed w3 (w.heap.size + 1) 35 (.slice none 0 0) := Blk.of_below h4 hB3; have hc1 := h4b.cell; have hf1 := h4b.frozen; have HO := hid_of hown; rw [List.length_cons] at hown; obtain ⟨g', cap', rfl⟩ := ownsRow_succ hown; clear hown)
    have hs6 := h6.size
    refine ⟨(keeps_of_below hB3).trans (KeepsOthers.setCell _ _ _), Nat.le_trans h1 (Nat.le_trans hB3.size (by simp [World.setCell])), rfl, x.1, _, ly, rfl, hly, h4b.set _, ?_, (h5.step hB3).set (by simp) _, (h6.trans (hB3.mono hs6)).setCell (by simp) _⟩
    refine owns_set (ownsRow_le HO.out hs6) ?_ _
    exact h4b.not_row (by decide) HO.out
  case done =>
    rintro D ys W hDD hys ⟨h1, rfl, h3, h4, h5, h6⟩ hK
    have hc := h4.cell
    have hf := h4.frozen
    have hnil : bitsOf M = [] := hys.symm
    gi_wp2
    have hK' := (KeepsOthers.setCell W ⟨w.heap.size + 1, 0, none⟩ (.slice none 0 0)).same D _ hK rfl
    refine ⟨by simp, .inl ⟨_, _, rfl, run_takeDeferred hK', ?_⟩⟩
    have h7 := Blk.putObj (h4.set (.slice none 0 0)) hK' rfl (.deferred none)
    have hc7 : (World.putObj _ D (.deferred none)).cell? ⟨w.heap.size + 1, 0, none⟩ = some (.slice none 0 0) := h7.cell rfl
    refine ⟨.slice none 0 0, ?_, .slice none 0 0, [], rfl, HC.out [] (.inl ⟨hnil, rfl⟩), World.ownsRow_nil _ _ _ _, (h6.setCell (by simp) _).trans (belowK_b (w := w) (Nat.le_refl _) _ D _ _ (by simp at hDD; omega) hK' rfl rfl)⟩
    simp [results, Tryz.f126, go_sem, hc7]
  case stop =>
    rintro D cd pre W hDD hpre ⟨h1, rfl, q, v, ly, hq, hly, h3, h4, h5, h6⟩ hK
    rw [hq] at hpre
    obtain ⟨tl, htl⟩ := hpre
    gi_wp2
    refine ⟨by simp, .inl ⟨_, _, rfl, run_takeDeferred hK, ?_⟩⟩
    have h7 := Blk.putObj h3 hK rfl (.deferred none)
    have hc7 : (W.putObj D (.deferred none)).cell? ⟨w.heap.size + 1, 0, none⟩ = some v := h7.cell rfl
    refine ⟨v, ?_, v, _, rfl, HC.out _ (.inr ⟨q, tl, ly, htl.symm, hly, rfl⟩), ownsRow_putObj h4 _ hK rfl, h6.trans (belowK_b (w := w) (Nat.le_refl _) _ D _ _ (by simp at hDD; omega) hK rfl rfl)⟩
    simp [results, Tryz.f126, go_sem, hc7]
theorem Cycle_calls (b c : Nat) (L : List Nat) (w : World) (h : IsRel w b c L) (hT : Tab w) :
    Calls Tryz.prog 126 #[pv b] w fun e w' => ∃ v out, e = .returned v ∧ CycOK L out ∧ w'.ownsRow w.heap.size 3 1 v out.length (encI out) ∧ Below w.heap.size w w' := callsIn_wide.1 (Cycle_in b c L w h hT)
set_option maxHeartbeats 400000 in
theorem Irr_calls (b c : Nat) (L : List Nat) (w : World) (h : IsRel w b c L) :
    Calls Tryz.prog 33 #[pv b] w fun e w' => e = .returned (.bool (loopsL L == 0)) ∧ Below w.heap.size w w' := by
  have HL : Hid (loopsL L < 2 ^ 256) := Nat.lt_of_lt_of_le (loopsL_lt L) (Nat.pow_le_pow_right (by omega) h.len)
  go_enter Tryz.func33, Tryz.ntmps33
  go_wp2_with fail
  refine (loops_calls b c L _ h).mono ?_
  rintro e w1 ⟨rfl, hB1⟩
  go_wp2_with fail
  refine (empty_calls (loopsL L) HL _).mono ?_
  rintro e w2 ⟨rfl, hB2⟩
  go_wp2_with fail
  go_ret
  exact ⟨rfl, below_step hB1 hB1.size hB2⟩
set_option maxHeartbeats 400000 in
theorem Acyclic_calls (b c : Nat) (L : List Nat) (w : World) (h : IsRel w b c L) :
    Calls Tryz.prog 30 #[pv b] w fun e w' => e = .returned (.bool (loopsL (plusL L) == 0)) ∧ Below w.heap.size w w' := by
  go_enter Tryz.func30, Tryz.ntmps30
  go_wp2_with fail
  refine (Plus_calls b c L _ h).mono ?_
  rintro e w1 ⟨b2, c2, rfl, hM⟩
  go_wp2_with fail
  refine (Irr_calls b2 c2 (plusL L) _ hM.rel).mono ?_
  rintro e w2 ⟨rfl, hB2⟩
  go_wp2_with fail
  go_ret
  exact ⟨rfl, below_step hM.below hM.below.size hB2⟩
set_option maxHeartbeats 400000 in
theorem Star_calls (b c : Nat) (L : List Nat) (w : World) (h : IsRel w b c L) :
    Calls Tryz.prog 125 #[pv b] w fun e w' => ∃ b' c', e = .returned (pv b') ∧ Made w w' b' c' (optL (plusL L)) := by
  go_enter Tryz.func125, Tryz.ntmps125
  go_wp2_with fail
  refine (Plus_calls b c L _ h).mono ?_
  rintro e w1 ⟨b2, c2, rfl, hM⟩
  go_wp2_with fail
  refine (Opt_calls b2 c2 (plusL L) _ hM.rel).mono ?_
  rintro e w2 ⟨b3, c3, rfl, hM2⟩
  go_wp2_with fail
  go_ret
  have hs := hM.below.size
  exact ⟨b3, c3, rfl, hM2.rel, Nat.le_trans hs hM2.hb, Nat.le_trans hs hM2.hc, below_step hM.below hs hM2.below⟩
end Go.Proofs.YtjhhimjnoljojaaGreatDoor
namespace Go.Proofs.YtjhhimjnoljojaaGreatDoor
open Go.RowKit Go.Shelf Sx Relation
def hs (L : List Nat) (p q : Nat) : Prop := (gr L p).testBit q = true
structure WF (n : Nat) (L : List Nat) : Prop where
  len : L.length = n
  low : ∀ p q, hs L p q → q < n
theorem hs_left {L : List Nat} {p q : Nat} (h : hs L p q) : p < L.length := by
  apply Nat.lt_of_not_le
  intro hle
  unfold hs at h
  rw [gr_not (by omega)] at h
  simp at h
theorem IsRel.wf {w : World} {b c : Nat} {L : List Nat} (h : IsRel w b c L) {n : Nat} (hn : L.length = n) : WF n L := by
  refine ⟨hn, fun p q hq => ?_⟩
  apply Nat.lt_of_not_le
  intro hle
  have h1 := testBit_of_lt (h.gr_lt p) (by omega : L.length ≤ q)
  unfold hs at hq
  rw [h1] at hq
  cases hq
theorem WF.ext {n : Nat} {A B : List Nat} (ha : WF n A) (hb : WF n B) (h : ∀ p q, hs A p q ↔ hs B p q) : A = B := by
  apply List.ext_getElem?
  intro p
  by_cases hp : p < n
  · rw [gr_of (by rw [ha.len]; exact hp), gr_of (by rw [hb.len]; exact hp)]
    congr 1
    apply Nat.eq_of_testBit_eq
    intro q
    rw [Bool.eq_iff_iff]
    exact h p q
  · rw [List.getElem?_eq_none (by rw [ha.len]; omega), List.getElem?_eq_none (by rw [hb.len]; omega)]
theorem join_bits (L : List Nat) (q : Nat) : ∀ (l : List Nat) (s : Nat), (l.foldl (fun s p => s ||| gr L p) s).testBit q = true ↔ s.testBit q = true ∨ ∃ p ∈ l, hs L p q
  | [], s => by simp
  | x :: l, s => by
    rw [List.foldl_cons, join_bits L q l, Nat.testBit_or, Bool.or_eq_true]
    unfold hs
    simp [or_assoc]
theorem hs_fill {n k : Nat} {f : Nat → Nat} {p q : Nat} (hk : n ≤ k) : hs (fillK n f k) p q ↔ p < n ∧ (f p).testBit q = true := by
  by_cases hp : p < n
  · unfold hs
    rw [gr_eq (fillK_at hp), if_pos (by omega)]
    simp [hp]
  · constructor
    · intro h
      have := hs_left h
      rw [fillK_length] at this
      omega
    · exact fun h => absurd h.1 hp
section
variable {n : Nat} {A B C : List Nat}
theorem hs_comp (hn : n ≤ 256) (ha : WF n A) (hb : WF n B) (p q : Nat) : hs (compL A B) p q ↔ ∃ m, hs A p m ∧ hs B m q := by
  unfold compL
  rw [ha.len, hb.len, Nat.max_self, hs_fill (Nat.le_refl _)]
  unfold joinRows
  rw [join_bits]
  constructor
  · rintro ⟨_, h | ⟨m, hm, h⟩⟩
    · simp at h
    · exact ⟨m, (mem_bitsOf.1 hm).2, h⟩
  · rintro ⟨m, h1, h2⟩
    refine ⟨by have := hs_left h1; rw [ha.len] at this; exact this, Or.inr ⟨m, mem_bitsOf.2 ⟨?_, h1⟩, h2⟩⟩
    have := ha.low _ _ h1
    omega
theorem wf_comp (hn : n ≤ 256) (ha : WF n A) (hb : WF n B) : WF n (compL A B) := by
  refine ⟨by unfold compL; rw [fillK_length, ha.len, hb.len, Nat.max_self], fun p q h => ?_⟩
  obtain ⟨m, _, h2⟩ := (hs_comp hn ha hb p q).1 h
  exact hb.low _ _ h2
theorem hs_inter (ha : WF n A) (hb : WF n B) (p q : Nat) : hs (interL A B) p q ↔ hs A p q ∧ hs B p q := by
  unfold interL
  rw [ha.len, hb.len, Nat.max_self, hs_fill (Nat.le_refl _), Nat.testBit_and, Bool.and_eq_true]
  constructor
  · exact fun h => h.2
  · exact fun h => ⟨by have := hs_left h.1; rw [ha.len] at this; exact this, h⟩
theorem wf_inter (ha : WF n A) (hb : WF n B) : WF n (interL A B) := by
  refine ⟨by unfold interL; rw [fillK_length, ha.len, hb.len, Nat.max_self], fun p q h => ?_⟩
  exact ha.low _ _ ((hs_inter ha hb p q).1 h).1
theorem hs_zero (m p q : Nat) : ¬ hs (List.replicate m 0) p q := by
  intro h
  have hp := hs_left h
  rw [List.length_replicate] at hp
  unfold hs at h
  rw [gr_eq (R := 0) (by simp [hp])] at h
  simp at h
theorem hs_uni {X : List Nat} (hx : X.length = n) (ha : WF n A) (p q : Nat) : hs (uniK X A A.length) p q ↔ hs X p q ∨ hs A p q := by
  by_cases hp : p < n
  · unfold hs
    rw [gr_uniK (by omega), if_pos (by rw [ha.len]; exact hp), Nat.testBit_or, Bool.or_eq_true]
  · constructor
    · intro h
      have := hs_left h
      rw [uniK_length] at this
      omega
    · rintro (h | h)
      · have := hs_left h; omega
      · have := hs_left h; rw [ha.len] at this; omega
theorem hs_union (ha : WF n A) (hb : WF n B) (p q : Nat) : hs (unionL [A, B]) p q ↔ hs A p q ∨ hs B p q := by
  have e : unionL [A, B] = uniK (uniK (List.replicate n 0) A A.length) B B.length := by
    simp [unionL, maxLenL, ha.len, hb.len]
  rw [e, hs_uni (by rw [uniK_length, List.length_replicate]) hb, hs_uni (by rw [List.length_replicate]) ha]
  constructor
  · rintro ((h | h) | h)
    · exact absurd h (hs_zero _ _ _)
    · exact Or.inl h
    · exact Or.inr h
  · rintro (h | h)
    · exact Or.inl (Or.inr h)
    · exact Or.inr h
theorem wf_union (ha : WF n A) (hb : WF n B) : WF n (unionL [A, B]) := by
  refine ⟨by simp [unionL, maxLenL, uniK_length, ha.len, hb.len], fun p q h => ?_⟩
  rcases (hs_union ha hb p q).1 h with h | h
  · exact ha.low _ _ h
  · exact hb.low _ _ h
theorem hs_set {X : List Nat} {j R p q : Nat} : hs (X.set j R) p q ↔ if p = j ∧ j < X.length then R.testBit q = true else hs X p q := by
  unfold hs gr
  rw [List.getD_eq_getElem?_getD, List.getD_eq_getElem?_getD, List.getElem?_set]
  by_cases e : j = p
  · subst e
    by_cases hj : j < X.length
    · simp [hj]
    · simp [hj]
  · rw [if_neg e, if_neg (fun h => e h.1.symm)]
theorem hs_put {X : List Nat} {x y p q : Nat} (hx : x < X.length) (hy : y < X.length) : hs (putP X (x : Int) (y : Int) true) p q ↔ hs X p q ∨ (p = x ∧ q = y) := by
  rw [putP_nat hx hy (gr_of hx), hs_set]
  by_cases e : p = x
  · subst e
    rw [if_pos ⟨rfl, hx⟩, testBit_setB]
    by_cases e2 : q = y
    · subst e2; simp
    · rw [if_neg e2]
      constructor
      · exact fun h => Or.inl h
      · rintro (h | ⟨_, h⟩)
        · exact h
        · exact absurd h e2
  · rw [if_neg (fun h => e h.1)]
    constructor
    · exact fun h => Or.inl h
    · rintro (h | ⟨h, _⟩)
      · exact h
      · exact absurd h e
theorem putP_len (X : List Nat) (x y : Int) (v : Bool) : (putP X x y v).length = X.length := by
  unfold putP; split <;> simp
theorem invIn_len (p : Nat) : ∀ (l : List Nat) (X : List Nat), (invIn X p l).length = X.length
  | [], _ => rfl
  | q :: l, X => by
    show (invIn (putP X q p true) p l).length = _
    rw [invIn_len p l, putP_len]
theorem hs_invIn {p : Nat} : ∀ (l : List Nat) (X : List Nat), p < X.length → (∀ q ∈ l, q < X.length) → ∀ a b, hs (invIn X p l) a b ↔ hs X a b ∨ (b = p ∧ a ∈ l)
  | [], X, _, _, a, b => by simp [invIn]
  | q :: l, X, hp, hq, a, b => by
    show hs (invIn (putP X q p true) p l) a b ↔ _
    rw [hs_invIn l _ (by rw [putP_len]; exact hp) (fun r hr => by rw [putP_len]; exact hq r (List.mem_cons_of_mem _ hr)), hs_put (hq q (by simp)) hp]
    constructor
    · rintro ((h | ⟨rfl, rfl⟩) | ⟨rfl, h⟩)
      · exact Or.inl h
      · exact Or.inr ⟨rfl, by simp⟩
      · exact Or.inr ⟨rfl, List.mem_cons_of_mem _ h⟩
    · rintro (h | ⟨rfl, h⟩)
      · exact Or.inl (Or.inl h)
      · rcases List.mem_cons.1 h with rfl | h
        · exact Or.inl (Or.inr ⟨rfl, rfl⟩)
        · exact Or.inr ⟨rfl, h⟩
theorem invK_len (L : List Nat) (k : Nat) : (invK L k).length = L.length := by
  induction k with
  | zero => simp [invK]
  | succ k ih => rw [invK_succ, invIn_len, ih]
theorem hs_invK (hn : n ≤ 256) (ha : WF n A) (k : Nat) (hk : k ≤ n) (a b : Nat) : hs (invK A k) a b ↔ hs A b a ∧ b < k := by
  induction k generalizing a b with
  | zero =>
    constructor
    · intro h; exact absurd h (by simpa [invK] using hs_zero _ a b)
    · intro h; omega
  | succ k ih =>
    rw [invK_succ, hs_invIn _ _ (by rw [invK_len, ha.len]; omega) (fun q hq => by rw [invK_len, ha.len]; exact ha.low _ _ (mem_bitsOf.1 hq).2), ih (by omega)]
    constructor
    · rintro (⟨h1, h2⟩ | ⟨rfl, h⟩)
      · exact ⟨h1, by omega⟩
      · exact ⟨(mem_bitsOf.1 h).2, by omega⟩
    · rintro ⟨h1, h2⟩
      by_cases e : b = k
      · subst e
        exact Or.inr ⟨rfl, mem_bitsOf.2 ⟨by have := ha.low _ _ h1; omega, h1⟩⟩
      · exact Or.inl ⟨h1, by omega⟩
theorem hs_inv (hn : n ≤ 256) (ha : WF n A) (a b : Nat) : hs (invL A) a b ↔ hs A b a := by
  unfold invL
  rw [ha.len, hs_invK hn ha n (Nat.le_refl _)]
  constructor
  · exact fun h => h.1
  · exact fun h => ⟨h, by have := hs_left h; rw [ha.len] at this; exact this⟩
theorem wf_inv (hn : n ≤ 256) (ha : WF n A) : WF n (invL A) := by
  refine ⟨by unfold invL; rw [invK_len, ha.len], fun p q h => ?_⟩
  have := hs_left ((hs_inv hn ha p q).1 h)
  rw [ha.len] at this
  exact this
theorem hs_via (k j : Nat) (p q : Nat) : hs (plusVia A k j) p q ↔ hs A p q ∨ (p < j ∧ hs A p k ∧ hs A k q) := by
  induction j generalizing p q with
  | zero => simp [plusVia]
  | succ j ih =>
    rw [plusVia_succ]
    have hrow : ∀ q, hs (plusVia A k j) j q ↔ hs A j q := fun q => by
      rw [ih]
      constructor
      · rintro (h | h)
        · exact h
        · omega
      · exact Or.inl
    have hk : ∀ q, hs (plusVia A k j) k q ↔ hs A k q := fun q => by
      rw [ih]
      constructor
      · rintro (h | h)
        · exact h
        · exact h.2.2
      · exact Or.inl
    unfold plusRow
    by_cases hb : (gr (plusVia A k j) j).testBit k = true
    · rw [if_pos hb, hs_set]
      have hjk : hs A j k := (hrow k).1 hb
      by_cases e : p = j
      · subst e
        rw [if_pos ⟨rfl, hs_left (show hs (plusVia A k p) p k from hb)⟩, Nat.testBit_or, Bool.or_eq_true]
        constructor
        · rintro (h | h)
          · exact Or.inl ((hrow q).1 h)
          · exact Or.inr ⟨by omega, hjk, (hk q).1 h⟩
        · rintro (h | ⟨_, _, h⟩)
          · exact Or.inl ((hrow q).2 h)
          · exact Or.inr ((hk q).2 h)
      · rw [if_neg (fun h => e h.1), ih]
        constructor
        · rintro (h | ⟨h1, h2⟩)
          · exact Or.inl h
          · exact Or.inr ⟨by omega, h2⟩
        · rintro (h | ⟨h1, h2⟩)
          · exact Or.inl h
          · exact Or.inr ⟨by omega, h2⟩
    · rw [if_neg hb, ih]
      constructor
      · rintro (h | ⟨h1, h2⟩)
        · exact Or.inl h
        · exact Or.inr ⟨by omega, h2⟩
      · rintro (h | ⟨h1, h2⟩)
        · exact Or.inl h
        · by_cases e : p = j
          · subst e
            exact absurd ((hrow k).2 h2.1) hb
          · exact Or.inr ⟨by omega, h2⟩
theorem hs_viaN (ha : A.length = n) (k : Nat) (p q : Nat) : hs (plusVia A k n) p q ↔ hs A p q ∨ (hs A p k ∧ hs A k q) := by
  rw [hs_via]
  constructor
  · rintro (h | h)
    · exact Or.inl h
    · exact Or.inr h.2
  · rintro (h | h)
    · exact Or.inl h
    · exact Or.inr ⟨by have := hs_left h.1; omega, h⟩
theorem plusN_step (ha : A.length = n) (k p q : Nat) : hs (plusN A (k + 1)) p q ↔ hs (plusN A k) p q ∨ (hs (plusN A k) p k ∧ hs (plusN A k) k q) := by
  rw [plusN_succ, ha]
  exact hs_viaN (by rw [plusN_length]; exact ha) k p q
theorem plusN_sub (ha : A.length = n) (k : Nat) {p q : Nat} (h : hs A p q) : hs (plusN A k) p q := by
  induction k with
  | zero => exact h
  | succ k ih => exact (plusN_step ha k p q).2 (Or.inl ih)
theorem plusN_sound (ha : A.length = n) (k : Nat) {p q : Nat} (h : hs (plusN A k) p q) : TransGen (hs A) p q := by
  induction k generalizing p q with
  | zero => exact TransGen.single h
  | succ k ih =>
    rcases (plusN_step ha k p q).1 h with h | ⟨h1, h2⟩
    · exact ih h
    · exact TransGen.trans (ih h1) (ih h2)
theorem plusN_via (ha : A.length = n) (k : Nat) {p v q : Nat} (hv : v < k) (h1 : hs (plusN A k) p v) (h2 : hs (plusN A k) v q) : hs (plusN A k) p q := by
  induction k generalizing p v q with
  | zero => omega
  | succ k ih =>
    rw [plusN_step ha] at h1 h2 ⊢
    by_cases e : v = k
    · subst e
      have a1 : hs (plusN A v) p v := by
        rcases h1 with h | h
        · exact h
        · exact h.1
      have a2 : hs (plusN A v) v q := by
        rcases h2 with h | h
        · exact h
        · exact h.2
      exact Or.inr ⟨a1, a2⟩
    · have hv : v < k := by omega
      rcases h1 with h1 | ⟨h1, h1'⟩ <;> rcases h2 with h2 | ⟨h2, h2'⟩
      · exact Or.inl (ih hv h1 h2)
      · exact Or.inr ⟨ih hv h1 h2, h2'⟩
      · exact Or.inr ⟨h1, ih hv h1' h2⟩
      · exact Or.inr ⟨h1, h2'⟩
theorem hs_plus (ha : WF n A) (p q : Nat) : hs (plusL A) p q ↔ TransGen (hs A) p q := by
  constructor
  · exact plusN_sound ha.len _
  · intro h
    induction h with
    | single h => exact plusN_sub ha.len _ h
    | tail _ h2 ih =>
      refine plusN_via ha.len _ ?_ ih (plusN_sub ha.len _ h2)
      exact hs_left h2
theorem trans_low (ha : WF n A) {p q : Nat} (h : TransGen (hs A) p q) : q < n := by
  cases h with
  | single h => exact ha.low _ _ h
  | tail _ h => exact ha.low _ _ h
theorem wf_plus (ha : WF n A) : WF n (plusL A) := by
  refine ⟨by unfold plusL; rw [plusN_length, ha.len], fun p q h => ?_⟩
  exact trans_low ha ((hs_plus ha p q).1 h)
theorem trans_mono {R S : Nat → Nat → Prop} (h : ∀ p q, R p q → S p q) {p q : Nat} (k : TransGen R p q) : TransGen S p q := by
  induction k with
  | single k => exact TransGen.single (h _ _ k)
  | tail _ k ih => exact TransGen.tail ih (h _ _ k)
theorem loops_bit (L : List Nat) (k p : Nat) : (loopsK L k).testBit p = true ↔ p < k ∧ hs L p p := by
  induction k with
  | zero => simp [loopsK]
  | succ k ih =>
    rw [loopsK_succ, testBit_setB]
    by_cases e : p = k
    · subst e
      rw [if_pos rfl]
      unfold hs
      constructor
      · exact fun h => ⟨by omega, h⟩
      · exact fun h => h.2
    · rw [if_neg e, ih]
      constructor
      · exact fun h => ⟨by omega, h.2⟩
      · exact fun h => ⟨by omega, h.2⟩
theorem loops_zero (L : List Nat) : loopsL L = 0 ↔ ∀ p, ¬ hs L p p := by
  constructor
  · intro h p hp
    have := (loops_bit L L.length p).2 ⟨hs_left hp, hp⟩
    unfold loopsL at h
    rw [h] at this
    simp at this
  · intro h
    apply Nat.eq_of_testBit_eq
    intro p
    rw [Nat.zero_testBit, Bool.eq_false_iff]
    intro hb
    exact h p ((loops_bit L L.length p).1 hb).2
end
end Go.Proofs.YtjhhimjnoljojaaGreatDoor
namespace Go.Proofs.YtjhhimjnoljojaaGreatDoor
open Go.RowKit Go.Shelf Sx Relation
def Same (N : Nat) (F : Nat → Nat → Bool) (L : List Nat) : Prop := ∀ p q, p < N → q < N → (F p q = true ↔ hs L p q)
structure Twin (n : Nat) (F : Nat → Nat → Bool) (L : List Nat) : Prop where
  wf : WF n L
  same : Same n F L
section
variable {n N : Nat} {F : Nat → Nat → Bool} {A : List Nat}
theorem Twin.low (h : Twin n F A) {p q : Nat} (h1 : hs A p q) : p < n ∧ q < n := by
  have h2 := hs_left h1
  rw [h.wf.len] at h2
  exact ⟨h2, h.wf.low _ _ h1⟩
end
end Go.Proofs.YtjhhimjnoljojaaGreatDoor
