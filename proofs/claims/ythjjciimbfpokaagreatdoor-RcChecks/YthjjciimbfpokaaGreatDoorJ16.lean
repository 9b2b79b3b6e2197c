/- The contracts of package rel's Cycle, Irreflexive, Acyclic and Star. -/
import Derived.Test.YthjjciimbfpokaaGreatDoorJ15
import Derived.Test.YthjjciimbfpokaaGreatDoorJ13
import Derived.Test.YthjjciimbfpokaaGreatDoorJ09
import Derived.Deep.LoopGhost
import Derived.Deep.RegionHeld3
namespace Go.Proofs.YthjjciimbfpokaaGreatDoor
open Go.RowKit Go.Shelf Sx
set_option maxRecDepth 100000
set_option maxHeartbeats 16000000
set_option linter.unusedSimpArgs false
set_option linter.unusedVariables false
attribute [local go_sem] Oper.semAt_some
theorem Qn4 (L : List Nat) (k p : Nat) : (Qdy L k).testBit p = (decide (p < k) && (gr L p).testBit p) := by
 induction k with
 | zero => simp [Qdy]
 | succ k ih =>
  rw [Qim, Qbl, ih]
  by_cases h : p = k
  ·subst h; simp
  ·rw [if_neg h]
   by_cases h2 : p < k
   ·rw [decide_eq_true h2, decide_eq_true (show p < k + 1 by omega)]
   ·rw [decide_eq_false h2, decide_eq_false (show ¬ p < k + 1 by omega)]
theorem Qxg (L : List Nat) : Qb3 L < 2 ^ L.length := Qd fun i hi => by rw [Qb3, Qn4, decide_eq_false (by omega), Bool.false_and]
theorem Qj8 (L : List Nat) : (Qaw L).length = L.length := Qfu L L.length
def Qcj (L out : List Nat) : Prop :=
 (Qae (Qb3 (Qaw L)) = [] ∧ out = []) ∨ ∃ s tl ly, Qae (Qb3 (Qaw L)) = s :: tl ∧ Qck L (Qbd L) s 0 (Qav 0 s true) ly ∧ out = s :: Qbi L s (Qbp ly (ly.length - 1))
theorem Qzw (b c : Nat) (L : List Nat) (w : World) (h : IsRel w b c L) (hT : Tab w) :
  CallsIn Fence.wide 6 Tryz.prog 126 #[pv b] w fun e w' => ∃ v out, e = .returned v ∧ Qcj L out ∧ w'.ownsRow w.heap.size 3 1 v out.length (Qcg out) ∧ Below w.heap.size w w' := by
 have hl := h.len
 have hT2 := (hT.alloc (.cells #[pv b] 43)).alloc (.cells #[.slice none 0 0] 35)
 have h2 := (h.alloc (.cells #[pv b] 43)).alloc (.cells #[.slice none 0 0] 35)
 refine callsIn_of_wp_marks Tryz.func126 rfl trivial ?_ rfl
 simp only [Tryz.ntmps126, List.size_toArray, List.length_cons, List.length_nil, Nat.reduceAdd, Nat.reduceSub, Array.replicate_succ, Array.replicate_zero, List.push_toArray, List.append_toArray, List.nil_append, List.cons_append]
 gi_wp2_with fail
 refine ⟨trivial, ?_⟩
 refine (callsIn_wide.2 (Qjm b c L _ h2)).mono ?_
 rintro e w1 ⟨b2, c2, rfl, hM⟩
 have hB1 : Below w.heap.size w w1 := (((Below.refl _ w).alloc (Nat.le_refl _) _).alloc (by simp) _).trans (hM.below.mono (by simp; omega))
 have hbx1 : Blk w1 w.heap.size 43 #[pv b] := ((Blk.new w _ _).alloc _).of_below hM.below
 have hrs1 : Boxed w1 (w.heap.size + 1) 35 (.slice none 0 0) := (Blk.new2 w _ _ _).of_below hM.below
 gi_wp2_with fail
 refine ⟨trivial, ?_⟩
 refine (callsIn_wide.2 (Qud b2 c2 (Qaw L) _ hM.rel)).mono ?_
 rintro e w2 ⟨rfl, hB2⟩
 have hBw2 : Below w.heap.size w w2 := Qaa hB1 hB1.size hB2
 have hbx2 := hbx1.of_below hB2
 have hrs2 : Boxed w2 (w.heap.size + 1) 35 (.slice none 0 0) := Blk.of_below hrs1 hB2
 have hTw2 := hT.step hBw2
 have HL : Hid (∀ p, p ∈ Qae (Qb3 (Qaw L)) → p < L.length) := by
  intro p hp
  have h1 := (Qay.1 hp).2
  apply Nat.lt_of_not_le
  intro hle
  have := Qxg (Qaw L)
  rw [Qj8] at this
  rw [Qch this hle] at h1
  cases h1
 have HC : Hid (∀ out, ((Qae (Qb3 (Qaw L)) = [] ∧ out = []) ∨ ∃ s tl ly, Qae (Qb3 (Qaw L)) = s :: tl ∧ Qck L (Qbd L) s 0 (Qav 0 s true) ly ∧ out = s :: Qbi L s (Qbp ly (ly.length - 1))) → Qcj L out) := fun _ h => h
 generalize Qb3 (Qaw L) = M at *
 clear hB2 hB1 hM hbx1 hrs1 h2 hT2
 have hs2 := hBw2.size
 have hp := hT.pos
 have hs3 := hbx2.lt
 have hs4 := hrs2.lt
 gi_wp2_with (refine ⟨trivial, ?_⟩; gi_at_call 71; refine (Qfm Fence.wide _ trivial rfl M _).mono ?_; rintro e w' ⟨rfl, rfl⟩)
 refine wpIn_rangeFunc_ownF rfl (by omega) (gf := 102) (lb := #[.pointer (some ⟨w2.heap.size, 0, none⟩)]) rfl trivial (enters_of Tryz.func102 (by kernel_rfl) rfl)
  (Qdg M w2.heap.size (6 - 1) (by omega) _ ?hB ?hT) belowK_t (belowK_b (by simp)) (Below.refl _ _) (fun _ => rfl)
  (fun pre W => w2.heap.size + 1 ≤ W.heap.size ∧ pre = [] ∧ Blk W w.heap.size 43 #[pv b] ∧ Boxed W (w.heap.size + 1) 35 (.slice none 0 0) ∧ Tab W ∧ Below w.heap.size w W)
  (fun cd pre W => w2.heap.size + 1 ≤ W.heap.size ∧ cd = .ret ∧ ∃ q v ly, Qb7 pre = [q] ∧ Qck L (Qbd L) q 0 (Qav 0 q true) ly ∧ Boxed W (w.heap.size + 1) 35 v ∧ W.ownsRow w.heap.size 3 1 v (q :: Qbi L q (Qbp ly (ly.length - 1))).length (Qcg (q :: Qbi L q (Qbp ly (ly.length - 1)))) ∧ Tab W ∧ Below w.heap.size w W)
  ?hI ?hIx ?h0
  (fun x => { tmps := #[pv b, pv w.heap.size, pv (w.heap.size + 1), .int .i64 ((x.1 : Nat) : Int), pv b, pv b2, rv M, .func (.func 102) #[] #[.pointer (some ⟨w2.heap.size, 0, none⟩)], .int .i64 ((x.1 : Nat) : Int), undef, undef, undef], defers := [] }) ?assign ?body ?done ?stop
 case hB => exact Blk.new _ _ _
 case hT => exact hTw2.alloc _
 case hI =>
  refine Qef (fun s W hi => by simpa using hi.1) ?_
  rintro s W W' ⟨h1, h2, h3, h4, h5, h6⟩ hb' ho
  have hb' : Below (w2.heap.size + 1) W W' := by simpa using hb'
  exact ⟨Nat.le_trans h1 hb'.size, h2, h3.below hb' (by omega), (hb'.block _ (by omega)).trans h4, h5.below hb' (by omega), h6.trans (hb'.mono (by omega))⟩
 case hIx =>
  intro cd
  refine Qef (fun s W hi => by simpa using hi.1) ?_
  rintro s W W' ⟨h1, h2, q, v, ly, h9, h10, h3, h4, h5, h6⟩ hb' ho
  have hb' : Below (w2.heap.size + 1) W W' := by simpa using hb'
  exact ⟨Nat.le_trans h1 hb'.size, h2, q, v, ly, h9, h10, (hb'.block _ (by omega)).trans h3, ho _ _ _ _ _ _ h4, h5.below hb' (by omega), h6.trans (hb'.mono (by omega))⟩
 case h0 =>
  exact ⟨by simp, rfl, hbx2.alloc _, hrs2.alloc _, hTw2.alloc _, hBw2.alloc hs2 _⟩
 case assign =>
  intro l x W K hK
  gi_wp2
  exact hK
 case body =>
  rintro l pre x W ⟨h1, rfl, h3, h4, h5, h6⟩ _
  have k0 : W.cell? ⟨w.heap.size, 0, none⟩ = some (pv b) := h3.cell rfl
  have hq := HL.out x.1 x.2
  gi_wp2_with (refine ⟨trivial, ?_⟩; gi_at_call 144; refine (CallsIn.inRound l (callsIn_wide.2 (Qm7 b c L x.1 _ (h.below h6) h5 hq))).mono ?_; rintro e w3 ⟨v, ly, rfl, hly, hown, hB3⟩; have h4b : Boxed w3 (w.heap.size + 1) 35 (.slice none 0 0) := Blk.of_below h4 hB3; have hc1 := h4b.cell; have hf1 := h4b.frozen; have HO := Qa hown; rw [List.length_cons] at hown; obtain ⟨g', cap', rfl⟩ := ownsRow_succ hown; clear hown)
  have hs6 := h6.size
  refine ⟨(Qf6 hB3).trans (KeepsOthers.setCell _ _ _), Nat.le_trans h1 (Nat.le_trans hB3.size (by simp [World.setCell])), rfl, x.1, _, ly, rfl, hly, h4b.set _, ?_, (h5.step hB3).set (by simp) _, (h6.trans (hB3.mono hs6)).setCell (by simp) _⟩
  refine Qds (Qji HO.out hs6) ?_ _
  exact h4b.not_row (by decide) HO.out
 case done =>
  rintro D ys W hDD hys ⟨h1, rfl, h3, h4, h5, h6⟩ hK
  have hc := h4.cell
  have hf := h4.frozen
  have hnil : Qae M = [] := hys.symm
  gi_wp2
  have hK' := (KeepsOthers.setCell W ⟨w.heap.size + 1, 0, none⟩ (.slice none 0 0)).same D _ hK rfl
  refine ⟨by simp, .inl ⟨_, _, rfl, run_takeDeferred hK', ?_⟩⟩
  have h7 := Blk.putObj (h4.set (.slice none 0 0)) hK' rfl (.deferred none)
  have hc7 : (World.putObj _ D (.deferred none)).cell? ⟨w.heap.size + 1, 0, none⟩ = some (.slice none 0 0) := h7.cell rfl
  refine ⟨.slice none 0 0, ?_, .slice none 0 0, [], rfl, HC.out [] (.inl ⟨hnil, rfl⟩), World.ownsRow_nil _ _ _ _, (h6.setCell (by simp) _).trans (belowK_b (w := w) (Nat.le_refl _) _ D _ _ (by simp at hDD; omega) hK' rfl rfl)⟩
  simp [results, Tryz.f126, go_sem, hc7]
 case stop =>
  rintro D cd pre W hDD hpre ⟨h1, rfl, q, v, ly, hq, hly, h3, h4, h5, h6⟩ hK
  rw [hq] at hpre
  obtain ⟨tl, htl⟩ := hpre
  gi_wp2
  refine ⟨by simp, .inl ⟨_, _, rfl, run_takeDeferred hK, ?_⟩⟩
  have h7 := Blk.putObj h3 hK rfl (.deferred none)
  have hc7 : (W.putObj D (.deferred none)).cell? ⟨w.heap.size + 1, 0, none⟩ = some v := h7.cell rfl
  refine ⟨v, ?_, v, _, rfl, HC.out _ (.inr ⟨q, tl, ly, htl.symm, hly, rfl⟩), ownsRow_putObj h4 _ hK rfl, h6.trans (belowK_b (w := w) (Nat.le_refl _) _ D _ _ (by simp at hDD; omega) hK rfl rfl)⟩
  simp [results, Tryz.f126, go_sem, hc7]
theorem Qti (b c : Nat) (L : List Nat) (w : World) (h : IsRel w b c L) (hT : Tab w) :
  Calls Tryz.prog 126 #[pv b] w fun e w' => ∃ v out, e = .returned v ∧ Qcj L out ∧ w'.ownsRow w.heap.size 3 1 v out.length (Qcg out) ∧ Below w.heap.size w w' := callsIn_wide.1 (Qzw b c L w h hT)
theorem Qvi (b c : Nat) (L : List Nat) (w : World) (h : IsRel w b c L) :
  Calls Tryz.prog 125 #[pv b] w fun e w' => ∃ b' c', e = .returned (pv b') ∧ Made w w' b' c' (Qb4 (Qaw L)) := by
 go_enter Tryz.func125, Tryz.ntmps125
 go_wp2_with fail
 refine (Qjm b c L _ h).mono ?_
 rintro e w1 ⟨b2, c2, rfl, hM⟩
 go_wp2_with fail
 refine (Qpv b2 c2 (Qaw L) _ hM.rel).mono ?_
 rintro e w2 ⟨b3, c3, rfl, hM2⟩
 go_wp2_with fail
 go_ret
 have hs := hM.below.size
 exact ⟨b3, c3, rfl, hM2.rel, Nat.le_trans hs hM2.hb, Nat.le_trans hs hM2.hc, Qaa hM.below hs hM2.below⟩
end Go.Proofs.YthjjciimbfpokaaGreatDoor
namespace Go.Proofs.YthjjciimbfpokaaGreatDoor
open Go.RowKit Go.Shelf Sx Relation
set_option maxRecDepth 100000
set_option maxHeartbeats 16000000
set_option linter.unusedSimpArgs false
set_option linter.unusedVariables false
def hs (L : List Nat) (p q : Nat) : Prop := (gr L p).testBit q = true
structure WF (n : Nat) (L : List Nat) : Prop where
 len : L.length = n
 low : ∀ p q, hs L p q → q < n
theorem Qa9 {L : List Nat} {p q : Nat} (h : hs L p q) : p < L.length := by
 apply Nat.lt_of_not_le
 intro hle
 unfold hs at h
 rw [Qkr (by omega)] at h
 simp at h
theorem IsRel.wf {w : World} {b c : Nat} {L : List Nat} (h : IsRel w b c L) {n : Nat} (hn : L.length = n) : WF n L := by
 refine ⟨hn, fun p q hq => ?_⟩
 apply Nat.lt_of_not_le
 intro hle
 have h1 := Qch (h.gr_lt p) (by omega : L.length ≤ q)
 unfold hs at hq
 rw [h1] at hq
 cases hq
theorem WF.ext {n : Nat} {A B : List Nat} (ha : WF n A) (hb : WF n B) (h : ∀ p q, hs A p q ↔ hs B p q) : A = B := by
 apply List.ext_getElem?
 intro p
 by_cases hp : p < n
 ·rw [Qbh (by rw [ha.len]; exact hp), Qbh (by rw [hb.len]; exact hp)]
  congr 1
  apply Nat.eq_of_testBit_eq
  intro q
  rw [Bool.eq_iff_iff]
  exact h p q
 ·rw [List.getElem?_eq_none (by rw [ha.len]; omega), List.getElem?_eq_none (by rw [hb.len]; omega)]
theorem Qhw (L : List Nat) (q : Nat) : ∀ (l : List Nat) (s : Nat), (l.foldl (fun s p => s ||| gr L p) s).testBit q = true ↔ s.testBit q = true ∨ ∃ p ∈ l, hs L p q
 | [], s => by simp
 | x :: l, s => by
  rw [List.foldl_cons, Qhw L q l, Nat.testBit_or, Bool.or_eq_true]
  unfold hs
  simp [or_assoc]
theorem Qhe {n k : Nat} {f : Nat → Nat} {p q : Nat} (hk : n ≤ k) : hs (Qa4 n f k) p q ↔ p < n ∧ (f p).testBit q = true := by
 by_cases hp : p < n
 ·unfold hs
  rw [Qgf (Qff hp), if_pos (by omega)]
  simp [hp]
 ·constructor
  ·intro h
   have := Qa9 h
   rw [Qat] at this
   omega
  ·exact fun h => absurd h.1 hp
section
variable {n : Nat} {A B C : List Nat}
theorem Qn5 (hn : n ≤ 256) (ha : WF n A) (hb : WF n B) (p q : Nat) : hs (Qbf A B) p q ↔ ∃ m, hs A p m ∧ hs B m q := by
 unfold Qbf
 rw [ha.len, hb.len, Nat.max_self, Qhe (Nat.le_refl _)]
 unfold Qak
 rw [Qhw]
 constructor
 ·rintro ⟨_, h | ⟨m, hm, h⟩⟩
  ·simp at h
  ·exact ⟨m, (Qay.1 hm).2, h⟩
 ·rintro ⟨m, h1, h2⟩
  refine ⟨by have := Qa9 h1; rw [ha.len] at this; exact this, Or.inr ⟨m, Qay.2 ⟨?_, h1⟩, h2⟩⟩
  have := ha.low _ _ h1
  omega
theorem Qix (hn : n ≤ 256) (ha : WF n A) (hb : WF n B) : WF n (Qbf A B) := by
 refine ⟨by unfold Qbf; rw [Qat, ha.len, hb.len, Nat.max_self], fun p q h => ?_⟩
 obtain ⟨m, _, h2⟩ := (Qn5 hn ha hb p q).1 h
 exact hb.low _ _ h2
theorem Qzx (ha : WF n A) (hb : WF n B) (p q : Nat) : hs (Qcs A B) p q ↔ hs A p q ∧ hs B p q := by
 unfold Qcs
 rw [ha.len, hb.len, Nat.max_self, Qhe (Nat.le_refl _), Nat.testBit_and, Bool.and_eq_true]
 constructor
 ·exact fun h => h.2
 ·exact fun h => ⟨by have := Qa9 h.1; rw [ha.len] at this; exact this, h⟩
theorem Qq2 (ha : WF n A) (hb : WF n B) : WF n (Qcs A B) := by
 refine ⟨by unfold Qcs; rw [Qat, ha.len, hb.len, Nat.max_self], fun p q h => ?_⟩
 exact ha.low _ _ ((Qzx ha hb p q).1 h).1
theorem Qzy (ha : WF n A) (hb : WF n B) (p q : Nat) : hs (Qc1 A B) p q ↔ hs A p q ∧ ¬ hs B p q := by
 unfold Qc1
 rw [ha.len, hb.len, Nat.max_self, Qhe (Nat.le_refl _), Qbn, Bool.and_eq_true, Bool.not_eq_true']
 unfold hs
 rw [Bool.not_eq_true]
 constructor
 ·exact fun h => h.2
 ·exact fun h => ⟨by have := Qa9 (L := A) h.1; rw [ha.len] at this; exact this, h⟩
theorem Qzz (ha : WF n A) (hb : WF n B) : WF n (Qc1 A B) := by
 refine ⟨by unfold Qc1; rw [Qat, ha.len, hb.len, Nat.max_self], fun p q h => ?_⟩
 exact ha.low _ _ ((Qzy ha hb p q).1 h).1
theorem Qk4 (m p q : Nat) : ¬ hs (List.replicate m 0) p q := by
 intro h
 have hp := Qa9 h
 rw [List.length_replicate] at hp
 unfold hs at h
 rw [Qgf (R := 0) (by simp [hp])] at h
 simp at h
theorem Qxh {X : List Nat} (hx : X.length = n) (ha : WF n A) (p q : Nat) : hs (Qcn X A A.length) p q ↔ hs X p q ∨ hs A p q := by
 by_cases hp : p < n
 ·unfold hs
  rw [Qu2 (by omega), if_pos (by rw [ha.len]; exact hp), Nat.testBit_or, Bool.or_eq_true]
 ·constructor
  ·intro h
   have := Qa9 h
   rw [Qbb] at this
   omega
  ·rintro (h | h)
   ·have := Qa9 h; omega
   ·have := Qa9 h; rw [ha.len] at this; omega
theorem Qq3 (ha : WF n A) (hb : WF n B) (p q : Nat) : hs (Qan [A, B]) p q ↔ hs A p q ∨ hs B p q := by
 have e : Qan [A, B] = Qcn (Qcn (List.replicate n 0) A A.length) B B.length := by
  simp [Qan, Qbk, ha.len, hb.len]
 rw [e, Qxh (by rw [Qbb, List.length_replicate]) hb, Qxh (by rw [List.length_replicate]) ha]
 constructor
 ·rintro ((h | h) | h)
  ·exact absurd h (Qk4 _ _ _)
  ·exact Or.inl h
  ·exact Or.inr h
 ·rintro (h | h)
  ·exact Or.inl (Or.inr h)
  ·exact Or.inr h
theorem Qd6 (ha : WF n A) (hb : WF n B) : WF n (Qan [A, B]) := by
 refine ⟨by simp [Qan, Qbk, Qbb, ha.len, hb.len], fun p q h => ?_⟩
 rcases (Qq3 ha hb p q).1 h with h | h
 ·exact ha.low _ _ h
 ·exact hb.low _ _ h
theorem Qxi {X : List Nat} {j R p q : Nat} : hs (X.set j R) p q ↔ if p = j ∧ j < X.length then R.testBit q = true else hs X p q := by
 unfold hs gr
 rw [List.getD_eq_getElem?_getD, List.getD_eq_getElem?_getD, List.getElem?_set]
 by_cases e : j = p
 ·subst e
  by_cases hj : j < X.length
  ·simp [hj]
  ·simp [hj]
 ·rw [if_neg e, if_neg (fun h => e h.1.symm)]
theorem Qxj {X : List Nat} {x y p q : Nat} (hx : x < X.length) (hy : y < X.length) : hs (Qbm X (x : Int) (y : Int) true) p q ↔ hs X p q ∨ (p = x ∧ q = y) := by
 rw [Qmk hx hy (Qbh hx), Qxi]
 by_cases e : p = x
 ·subst e
  rw [if_pos ⟨rfl, hx⟩, Qbl]
  by_cases e2 : q = y
  ·subst e2; simp
  ·rw [if_neg e2]
   constructor
   ·exact fun h => Or.inl h
   ·rintro (h | ⟨_, h⟩)
    ·exact h
    ·exact absurd h e2
 ·rw [if_neg (fun h => e h.1)]
  constructor
  ·exact fun h => Or.inl h
  ·rintro (h | ⟨h, _⟩)
   ·exact h
   ·exact absurd h e
theorem Qhi (X : List Nat) (x y : Int) (v : Bool) : (Qbm X x y v).length = X.length := by
 unfold Qbm; split <;> simp
theorem Qpe (p : Nat) : ∀ (l : List Nat) (X : List Nat), (Qeq X p l).length = X.length
 | [], _ => rfl
 | q :: l, X => by
  show (Qeq (Qbm X q p true) p l).length = _
  rw [Qpe p l, Qhi]
theorem Qq4 {p : Nat} : ∀ (l : List Nat) (X : List Nat), p < X.length → (∀ q ∈ l, q < X.length) → ∀ a b, hs (Qeq X p l) a b ↔ hs X a b ∨ (b = p ∧ a ∈ l)
 | [], X, _, _, a, b => by simp [Qeq]
 | q :: l, X, hp, hq, a, b => by
  show hs (Qeq (Qbm X q p true) p l) a b ↔ _
  rw [Qq4 l _ (by rw [Qhi]; exact hp) (fun r hr => by rw [Qhi]; exact hq r (List.mem_cons_of_mem _ hr)), Qxj (hq q (by simp)) hp]
  constructor
  ·rintro ((h | ⟨rfl, rfl⟩) | ⟨rfl, h⟩)
   ·exact Or.inl h
   ·exact Or.inr ⟨rfl, by simp⟩
   ·exact Or.inr ⟨rfl, List.mem_cons_of_mem _ h⟩
  ·rintro (h | ⟨rfl, h⟩)
   ·exact Or.inl (Or.inl h)
   ·rcases List.mem_cons.1 h with rfl | h
    ·exact Or.inl (Or.inr ⟨rfl, rfl⟩)
    ·exact Or.inr ⟨rfl, h⟩
theorem Qlv (L : List Nat) (k : Nat) : (Qgz L k).length = L.length := by
 induction k with
 | zero => simp [Qgz]
 | succ k ih => rw [Qi, Qpe, ih]
theorem QCp (hn : n ≤ 256) (ha : WF n A) (k : Nat) (hk : k ≤ n) (a b : Nat) : hs (Qgz A k) a b ↔ hs A b a ∧ b < k := by
 induction k generalizing a b with
 | zero =>
  constructor
  ·intro h; exact absurd h (by simpa [Qgz] using Qk4 _ a b)
  ·intro h; omega
 | succ k ih =>
  rw [Qi, Qq4 _ _ (by rw [Qlv, ha.len]; omega) (fun q hq => by rw [Qlv, ha.len]; exact ha.low _ _ (Qay.1 hq).2), ih (by omega)]
  constructor
  ·rintro (⟨h1, h2⟩ | ⟨rfl, h⟩)
   ·exact ⟨h1, by omega⟩
   ·exact ⟨(Qay.1 h).2, by omega⟩
  ·rintro ⟨h1, h2⟩
   by_cases e : b = k
   ·subst e
    exact Or.inr ⟨rfl, Qay.2 ⟨by have := ha.low _ _ h1; omega, h1⟩⟩
   ·exact Or.inl ⟨h1, by omega⟩
theorem Qj9 (hn : n ≤ 256) (ha : WF n A) (a b : Nat) : hs (Qbd A) a b ↔ hs A b a := by
 unfold Qbd
 rw [ha.len, QCp hn ha n (Nat.le_refl _)]
 constructor
 ·exact fun h => h.1
 ·exact fun h => ⟨h, by have := Qa9 h; rw [ha.len] at this; exact this⟩
theorem Qxk (hn : n ≤ 256) (ha : WF n A) : WF n (Qbd A) := by
 refine ⟨by unfold Qbd; rw [Qlv, ha.len], fun p q h => ?_⟩
 have := Qa9 ((Qj9 hn ha p q).1 h)
 rw [ha.len] at this
 exact this
theorem QEs (k j : Nat) (p q : Nat) : hs (Qb9 A k j) p q ↔ hs A p q ∨ (p < j ∧ hs A p k ∧ hs A k q) := by
 induction j generalizing p q with
 | zero => simp [Qb9]
 | succ j ih =>
  rw [Qhm]
  have hrow : ∀ q, hs (Qb9 A k j) j q ↔ hs A j q := fun q => by
   rw [ih]
   constructor
   ·rintro (h | h)
    ·exact h
    ·omega
   ·exact Or.inl
  have hk : ∀ q, hs (Qb9 A k j) k q ↔ hs A k q := fun q => by
   rw [ih]
   constructor
   ·rintro (h | h)
    ·exact h
    ·exact h.2.2
   ·exact Or.inl
  unfold Qem
  by_cases hb : (gr (Qb9 A k j) j).testBit k = true
  ·rw [if_pos hb, Qxi]
   have hjk : hs A j k := (hrow k).1 hb
   by_cases e : p = j
   ·subst e
    rw [if_pos ⟨rfl, Qa9 (show hs (Qb9 A k p) p k from hb)⟩, Nat.testBit_or, Bool.or_eq_true]
    constructor
    ·rintro (h | h)
     ·exact Or.inl ((hrow q).1 h)
     ·exact Or.inr ⟨by omega, hjk, (hk q).1 h⟩
    ·rintro (h | ⟨_, _, h⟩)
     ·exact Or.inl ((hrow q).2 h)
     ·exact Or.inr ((hk q).2 h)
   ·rw [if_neg (fun h => e h.1), ih]
    constructor
    ·rintro (h | ⟨h1, h2⟩)
     ·exact Or.inl h
     ·exact Or.inr ⟨by omega, h2⟩
    ·rintro (h | ⟨h1, h2⟩)
     ·exact Or.inl h
     ·exact Or.inr ⟨by omega, h2⟩
  ·rw [if_neg hb, ih]
   constructor
   ·rintro (h | ⟨h1, h2⟩)
    ·exact Or.inl h
    ·exact Or.inr ⟨by omega, h2⟩
   ·rintro (h | ⟨h1, h2⟩)
    ·exact Or.inl h
    ·by_cases e : p = j
     ·subst e
      exact absurd ((hrow k).2 h2.1) hb
     ·exact Or.inr ⟨by omega, h2⟩
theorem QCq (ha : A.length = n) (k : Nat) (p q : Nat) : hs (Qb9 A k n) p q ↔ hs A p q ∨ (hs A p k ∧ hs A k q) := by
 rw [QEs]
 constructor
 ·rintro (h | h)
  ·exact Or.inl h
  ·exact Or.inr h.2
 ·rintro (h | h)
  ·exact Or.inl h
  ·exact Or.inr ⟨by have := Qa9 h.1; omega, h⟩
theorem Qg4 (ha : A.length = n) (k p q : Nat) : hs (Qcl A (k + 1)) p q ↔ hs (Qcl A k) p q ∨ (hs (Qcl A k) p k ∧ hs (Qcl A k) k q) := by
 rw [Qjl, ha]
 exact QCq (by rw [Qfu]; exact ha) k p q
theorem Qpf (ha : A.length = n) (k : Nat) {p q : Nat} (h : hs A p q) : hs (Qcl A k) p q := by
 induction k with
 | zero => exact h
 | succ k ih => exact (Qg4 ha k p q).2 (Or.inl ih)
theorem Qtj (ha : A.length = n) (k : Nat) {p q : Nat} (h : hs (Qcl A k) p q) : TransGen (hs A) p q := by
 induction k generalizing p q with
 | zero => exact TransGen.single h
 | succ k ih =>
  rcases (Qg4 ha k p q).1 h with h | ⟨h1, h2⟩
  ·exact ih h
  ·exact TransGen.trans (ih h1) (ih h2)
theorem Qxl (ha : A.length = n) (k : Nat) {p v q : Nat} (hv : v < k) (h1 : hs (Qcl A k) p v) (h2 : hs (Qcl A k) v q) : hs (Qcl A k) p q := by
 induction k generalizing p v q with
 | zero => omega
 | succ k ih =>
  rw [Qg4 ha] at h1 h2 ⊢
  by_cases e : v = k
  ·subst e
   have a1 : hs (Qcl A v) p v := by
    rcases h1 with h | h
    ·exact h
    ·exact h.1
   have a2 : hs (Qcl A v) v q := by
    rcases h2 with h | h
    ·exact h
    ·exact h.2
   exact Or.inr ⟨a1, a2⟩
  ·have hv : v < k := by omega
   rcases h1 with h1 | ⟨h1, h1'⟩ <;> rcases h2 with h2 | ⟨h2, h2'⟩
   ·exact Or.inl (ih hv h1 h2)
   ·exact Or.inr ⟨ih hv h1 h2, h2'⟩
   ·exact Or.inr ⟨h1, ih hv h1' h2⟩
   ·exact Or.inr ⟨h1, h2'⟩
theorem Qiy (ha : WF n A) (p q : Nat) : hs (Qaw A) p q ↔ TransGen (hs A) p q := by
 constructor
 ·exact Qtj ha.len _
 ·intro h
  induction h with
  | single h => exact Qpf ha.len _ h
  | tail _ h2 ih =>
   refine Qxl ha.len _ ?_ ih (Qpf ha.len _ h2)
   exact Qa9 h2
theorem Qgk (ha : WF n A) {p q : Nat} (h : TransGen (hs A) p q) : q < n := by
 cases h with
 | single h => exact ha.low _ _ h
 | tail _ h => exact ha.low _ _ h
theorem Qn6 (ha : WF n A) : WF n (Qaw A) := by
 refine ⟨by unfold Qaw; rw [Qfu, ha.len], fun p q h => ?_⟩
 exact Qgk ha ((Qiy ha p q).1 h)
theorem Qvj {R : Nat → Nat → Prop} {p q : Nat} (k : TransGen R p q) : R p q ∨ ∃ m, R p m ∧ TransGen R m q := by
 induction k with
 | single k => exact Or.inl k
 | tail _ k ih =>
  rcases ih with h | ⟨m, h1, h2⟩
  ·exact Or.inr ⟨_, h, TransGen.single k⟩
  ·exact Or.inr ⟨m, h1, TransGen.tail h2 k⟩
theorem Qxm (L : List Nat) (k p : Nat) : (Qdy L k).testBit p = true ↔ p < k ∧ hs L p p := by
 induction k with
 | zero => simp [Qdy]
 | succ k ih =>
  rw [Qim, Qbl]
  by_cases e : p = k
  ·subst e
   rw [if_pos rfl]
   unfold hs
   constructor
   ·exact fun h => ⟨by omega, h⟩
   ·exact fun h => h.2
  ·rw [if_neg e, ih]
   constructor
   ·exact fun h => ⟨by omega, h.2⟩
   ·exact fun h => ⟨by omega, h.2⟩
end
section
variable {n : Nat} {A B C : List Nat}
theorem Qq5 (ha : WF n A) (p q : Nat) : hs (Qb4 A) p q ↔ hs A p q ∨ (p = q ∧ p < n) := by
 by_cases hp : p < n
 ·unfold hs Qb4
  rw [Qgf (Qi9 (by rw [ha.len]; exact hp)), if_pos (by rw [ha.len]; exact hp), Qbl]
  by_cases e : q = p
  ·subst e; simp [hp]
  ·rw [if_neg e]
   constructor
   ·exact fun h => Or.inl h
   ·rintro (h | ⟨h, _⟩)
    ·exact h
    ·exact absurd h.symm e
 ·constructor
  ·intro h
   have := Qa9 h
   unfold Qb4 at this
   rw [Qco, ha.len] at this
   omega
  ·rintro (h | h)
   ·have := Qa9 h; rw [ha.len] at this; omega
   ·omega
end
def Qjd (N : Nat) (F : Nat → Nat → Bool) (L : List Nat) : Prop := ∀ p q, p < N → q < N → (F p q = true ↔ hs L p q)
structure Twin (n : Nat) (F : Nat → Nat → Bool) (L : List Nat) : Prop where
 wf : WF n L
 same : Qjd n F L
section
variable {n N : Nat} {F : Nat → Nat → Bool} {A : List Nat}
theorem Twin.low (h : Twin n F A) {p q : Nat} (h1 : hs A p q) : p < n ∧ q < n := by
 have h2 := Qa9 h1
 rw [h.wf.len] at h2
 exact ⟨h2, h.wf.low _ _ h1⟩
theorem Twin.mk' {L : List Nat} {H : Nat → Nat → Bool} (hl : L.length = N) (h1 : ∀ p q, hs L p q → q < N) (h2 : ∀ p q, p < N → q < N → (H p q = true ↔ hs L p q)) : Twin N H L := ⟨⟨hl, h1⟩, h2⟩
end
theorem Qxn {x : Nat} (h : x ≠ 0) : ∃ q, x.testBit q = true := by
 apply Classical.byContradiction
 intro hn
 apply h
 apply Nat.eq_of_testBit_eq
 intro q
 rw [Nat.zero_testBit, Bool.eq_false_iff]
 exact fun hq => hn ⟨q, hq⟩
theorem Qq6 {x y : Nat} (h : x &&& y ≠ 0) : ∃ q, x.testBit q = true ∧ y.testBit q = true := by
 obtain ⟨q, hq⟩ := Qxn h
 rw [Nat.testBit_and, Bool.and_eq_true] at hq
 exact ⟨q, hq⟩
theorem Qhj {x y q : Nat} (h : x &&& y = 0) (h1 : x.testBit q = true) (h2 : y.testBit q = true) : False := by
 have := Nat.testBit_and x y q
 rw [h, h1, h2, Nat.zero_testBit] at this
 cases this
theorem Qd7 {x y q : Nat} : (x ||| y).testBit q = true ↔ x.testBit q = true ∨ y.testBit q = true := by
 rw [Nat.testBit_or, Bool.or_eq_true]
theorem Qq7 (x : Nat) (l : List Nat) (i : Nat) : gr (x :: l) (i + 1) = gr l i := rfl
def Qq8 (L : List Nat) : Nat → List Nat → Nat → Prop
 | a, [], b => hs L a b
 | a, x :: l, b => hs L a x ∧ Qq8 L x l b
section
variable {n : Nat} {L : List Nat}
theorem Qk (hn : n ≤ 256) (ha : WF n L) (near q : Nat) : (Qak (Qbd L) (Qae near)).testBit q = true ↔ ∃ r, near.testBit r = true ∧ hs L q r := by
 unfold Qak
 rw [Qhw]
 constructor
 ·rintro (h | ⟨r, hr, h⟩)
  ·simp at h
  ·exact ⟨r, (Qay.1 hr).2, (Qj9 hn ha r q).1 h⟩
 ·rintro ⟨r, h1, h2⟩
  exact Or.inr ⟨r, Qay.2 ⟨by have := ha.low _ _ h2; omega, h1⟩, (Qj9 hn ha r q).2 h2⟩
theorem Qka (hn : n ≤ 256) (ha : WF n L) {s : Nat} (hc : TransGen (hs L) s s) : ∀ (ly : List Nat) (seen near : Nat), Qck L (Qbd L) s seen near ly → (seen ||| near).testBit s = true →
  (∀ x y, seen.testBit x = true → hs L y x → (seen ||| near).testBit y = true) → gr L s &&& seen = 0 → ∃ k, ly.length = k + 1 ∧ gr L s &&& gr ly k ≠ 0
 | [], seen, near, hl, h1, h2, h3 => by
  have e : near = 0 := hl
  subst e
  rw [Nat.or_zero] at h1
  have key : ∀ m x, TransGen (hs L) m x → seen.testBit x = true → seen.testBit m = true := by
   intro m x h
   induction h with
   | single h => intro hx; have := h2 _ _ hx h; rwa [Nat.or_zero] at this
   | tail _ h ih => intro hx; have := h2 _ _ hx h; rw [Nat.or_zero] at this; exact ih this
  rcases Qvj hc with h | ⟨m, h4, h5⟩
  ·exact (Qhj h3 h h1).elim
  ·exact (Qhj h3 h4 (key m s h5 h1)).elim
 | x :: rest, seen, near, hl, h1, h2, h3 => by
  obtain ⟨hne, rfl, hgo, hstop⟩ : near ≠ 0 ∧ x = near ∧ (gr L s &&& near = 0 → Qck L (Qbd L) s (seen ||| near) (Qby (Qak (Qbd L) (Qae near)) (seen ||| near)) rest) ∧ (gr L s &&& near ≠ 0 → rest = []) := hl
  by_cases hm : gr L s &&& x = 0
  ·have c1 : ∀ a b, (seen ||| x).testBit a = true → hs L b a → ((seen ||| x) ||| Qby (Qak (Qbd L) (Qae x)) (seen ||| x)).testBit b = true := by
    intro a b ha1 hb
    rcases Qd7.1 ha1 with h | h
    ·exact Qd7.2 (Or.inl (h2 a b h hb))
    ·by_cases hs2 : (seen ||| x).testBit b = true
     ·exact Qd7.2 (Or.inl hs2)
     ·refine Qd7.2 (Or.inr ?_)
      rw [Qbn, Bool.and_eq_true, Bool.not_eq_true']
      exact ⟨(Qk hn ha x b).2 ⟨a, h, hb⟩, by simpa using hs2⟩
   have c2 : gr L s &&& (seen ||| x) = 0 := by
    apply Nat.eq_of_testBit_eq
    intro q
    rw [Nat.zero_testBit, Nat.testBit_and, Bool.eq_false_iff]
    intro hq
    rw [Bool.and_eq_true, Qd7] at hq
    rcases hq.2 with h | h
    ·exact Qhj h3 hq.1 h
    ·exact Qhj hm hq.1 h
   obtain ⟨k, hk1, hk2⟩ := Qka hn ha hc rest _ _ (hgo hm) (Qd7.2 (Or.inl h1)) c1 c2
   exact ⟨k + 1, by rw [List.length_cons, hk1], hk2⟩
  ·exact ⟨0, by rw [hstop hm]; rfl, hm⟩
structure LayP (L : List Nat) (seen near : Nat) (ly : List Nat) : Prop where
 off : ∀ i, i < ly.length → ∀ q, (gr ly i).testBit q = true → seen.testBit q = true → False
 first : 0 < ly.length → gr ly 0 = near
 down : ∀ i, i + 1 < ly.length → ∀ q, (gr ly (i + 1)).testBit q = true → ∃ r, hs L q r ∧ (gr ly i).testBit r = true
 apart : ∀ i j, i < j → j < ly.length → ∀ q, (gr ly i).testBit q = true → (gr ly j).testBit q = true → False
theorem Qkb (hn : n ≤ 256) (ha : WF n L) (s : Nat) : ∀ (ly : List Nat) (seen near : Nat), Qck L (Qbd L) s seen near ly → (∀ q, near.testBit q = true → seen.testBit q = true → False) → LayP L seen near ly
 | [], seen, near, _, _ => ⟨fun i h => by simp at h, fun h => by simp at h, fun i h => by simp at h, fun i j _ h => by simp at h⟩
 | x :: rest, seen, near, hl, hd => by
  obtain ⟨hne, rfl, hgo, hstop⟩ : near ≠ 0 ∧ x = near ∧ (gr L s &&& near = 0 → Qck L (Qbd L) s (seen ||| near) (Qby (Qak (Qbd L) (Qae near)) (seen ||| near)) rest) ∧ (gr L s &&& near ≠ 0 → rest = []) := hl
  by_cases hm : gr L s &&& x = 0
  ·have ih := Qkb hn ha s rest _ _ (hgo hm) (fun q h1 h2 => by
    rw [Qbn, h2] at h1
    simp at h1)
   refine ⟨?_, fun _ => rfl, ?_, ?_⟩
   ·intro i hi q h1 h2
    cases i with
    | zero => exact hd q h1 h2
    | succ i => exact ih.off i (by simpa using hi) q h1 (Qd7.2 (Or.inl h2))
   ·intro i hi q h1
    cases i with
    | zero =>
     have hr : 0 < rest.length := by simpa using hi
     rw [Qq7, ih.first hr, Qbn, Bool.and_eq_true] at h1
     obtain ⟨r, h2, h3⟩ := (Qk hn ha x q).1 h1.1
     exact ⟨r, h3, h2⟩
    | succ i => exact ih.down i (by simpa using hi) q h1
   ·intro i j hij hj q h1 h2
    cases j with
    | zero => omega
    | succ j =>
     cases i with
     | zero => exact ih.off j (by simpa using hj) q h2 (Qd7.2 (Or.inr h1))
     | succ i => exact ih.apart i j (by omega) (by simpa using hj) q h1 h2
  ·have e := hstop hm
   subst e
   refine ⟨?_, fun _ => rfl, fun i h => by simp at h, fun i j h1 h2 => by simp at h2; omega⟩
   intro i hi q h1 h2
   obtain rfl : i = 0 := by simp at hi; omega
   exact hd q h1 h2
theorem Qz0 (hn : n ≤ 256) (ha : WF n L) {s seen near : Nat} {ly : List Nat} (hp : LayP L seen near ly) (h0 : ∀ q, (gr ly 0).testBit q = true → q = s) :
  ∀ i, i < ly.length → ∀ last, (∃ q, hs L last q ∧ (gr ly i).testBit q = true) →
   Qq8 L last (Qbi L last (Qbp ly i)) s ∧ (Qbi L last (Qbp ly i)).Pairwise (· ≠ ·) ∧ ∀ x ∈ Qbi L last (Qbp ly i), ∃ m, 1 ≤ m ∧ m ≤ i ∧ (gr ly m).testBit x = true := by
 intro i
 induction i with
 | zero =>
  rintro _ last ⟨q, h1, h2⟩
  rw [Qhy]
  obtain rfl := h0 q h2
  exact ⟨h1, List.Pairwise.nil, fun x hx => by cases hx⟩
 | succ i ih =>
  rintro hi last ⟨q0, h1, h2⟩
  rw [Qhz hi]
  have hmem : q0 ∈ Qae (gr L last &&& gr ly (i + 1)) := Qay.2 ⟨by have := ha.low _ _ h1; omega, by rw [Nat.testBit_and, Bool.and_eq_true]; exact ⟨h1, h2⟩⟩
  cases hb : Qae (gr L last &&& gr ly (i + 1)) with
  | nil => rw [hb] at hmem; cases hmem
  | cons q tl =>
   have e : Qbi L last (gr ly (i + 1) :: Qbp ly i) = q :: Qbi L q (Qbp ly i) := by
    show (match Qae (gr L last &&& gr ly (i + 1)) with
     | [] => Qbi L last (Qbp ly i)
     | q :: _ => q :: Qbi L q (Qbp ly i)) = _
    rw [hb]
   rw [e]
   have hq : q ∈ Qae (gr L last &&& gr ly (i + 1)) := by rw [hb]; simp
   have hq2 := (Qay.1 hq).2
   rw [Nat.testBit_and, Bool.and_eq_true] at hq2
   obtain ⟨p1, p2, p3⟩ := ih (by omega) q (hp.down i hi q hq2.2)
   refine ⟨⟨hq2.1, p1⟩, List.Pairwise.cons (fun x hx e => ?_) p2, ?_⟩
   ·subst e
    obtain ⟨m, _, h4, h5⟩ := p3 _ hx
    exact hp.apart m (i + 1) (by omega) hi _ h5 hq2.2
   ·intro x hx
    rcases List.mem_cons.1 hx with rfl | hx
    ·exact ⟨i + 1, by omega, by omega, hq2.2⟩
    ·obtain ⟨m, h3, h4, h5⟩ := p3 x hx
     exact ⟨m, h3, by omega, h5⟩
theorem Qm1 : ∀ (l : List Nat) (a b : Nat), Qq8 L a l b → TransGen (hs L) a b ∧ ∀ x ∈ l, TransGen (hs L) a x ∧ TransGen (hs L) x b
 | [], a, b, h => ⟨TransGen.single h, fun x hx => by cases hx⟩
 | y :: l, a, b, h => by
  obtain ⟨h1, h2⟩ : hs L a y ∧ Qq8 L y l b := h
  obtain ⟨h3, h4⟩ := Qm1 l y b h2
  refine ⟨TransGen.trans (TransGen.single h1) h3, fun x hx => ?_⟩
  rcases List.mem_cons.1 hx with rfl | hx
  ·exact ⟨TransGen.single h1, h3⟩
  ·exact ⟨TransGen.trans (TransGen.single h1) (h4 x hx).1, (h4 x hx).2⟩
theorem Qgl (hn : n ≤ 256) (ha : WF n L) (p : Nat) : p ∈ Qae (Qb3 (Qaw L)) ↔ TransGen (hs L) p p := by
 rw [Qay]
 unfold Qb3
 rw [Qxm, Qiy ha, Qj8]
 constructor
 ·exact fun h => h.2.2
 ·intro h
  have := Qgk ha h
  exact ⟨by omega, by rw [ha.len]; exact this, h⟩
theorem Qxo (hn : n ≤ 256) (ha : WF n L) {out : List Nat} (h : Qcj L out) :
  (out = [] ∧ ∀ p, ¬ TransGen (hs L) p p) ∨ ∃ s l, out = s :: l ∧ Qq8 L s l s ∧ (s :: l).Pairwise (· ≠ ·) ∧ (∀ x ∈ s :: l, s ≤ x ∧ x < n) ∧ (∀ q, q < s → ¬ hs (Qaw L) q q) ∧ hs (Qaw L) s s := by
 rcases h with ⟨h1, h2⟩ | ⟨s, tl, ly, h1, h2, h3⟩
 ·left
  refine ⟨h2, fun p hp => ?_⟩
  have := (Qgl hn ha p).2 hp
  rw [h1] at this
  cases this
 ·right
  have hmem : s ∈ Qae (Qb3 (Qaw L)) := by rw [h1]; simp
  have hc := (Qgl hn ha s).1 hmem
  have hleast : ∀ q, TransGen (hs L) q q → s ≤ q := by
   intro q hq
   have h5 := (Qgl hn ha q).2 hq
   have h6 := Qgx (Qb3 (Qaw L))
   rw [h1] at h5 h6
   rcases List.mem_cons.1 h5 with rfl | h5
   ·exact Nat.le_refl _
   ·exact Nat.le_of_lt ((List.pairwise_cons.1 h6).1 q h5)
  have hbit : ∀ q, (Qav 0 s true).testBit q = true ↔ q = s := by
   intro q
   rw [Qbl]
   by_cases e : q = s
   ·simp [e]
   ·simp [e]
  obtain ⟨k, hk1, hk2⟩ := Qka hn ha hc ly 0 _ h2 (Qd7.2 (Or.inr ((hbit s).2 rfl))) (fun x y hx => by simp at hx) (by simp)
  have hp := Qkb hn ha s ly 0 _ h2 (fun q _ h => by simp at h)
  have h0 : ∀ q, (gr ly 0).testBit q = true → q = s := by
   intro q hq
   rw [hp.first (by omega)] at hq
   exact (hbit q).1 hq
  obtain ⟨q0, hq1, hq2⟩ := Qq6 hk2
  have hk : ly.length - 1 = k := by omega
  rw [hk] at h3
  obtain ⟨p1, p2, p3⟩ := Qz0 hn ha hp h0 k (by omega) s ⟨q0, hq1, hq2⟩
  have hpt := Qm1 _ s s p1
  refine ⟨s, _, h3, p1, List.Pairwise.cons (fun x hx e => ?_) p2, ?_, ?_, (Qiy ha s s).2 hc⟩
  ·subst e
   obtain ⟨m, h4, h5, h6⟩ := p3 _ hx
   refine hp.apart 0 m (by omega) (by omega) s ?_ h6
   rw [hp.first (by omega)]
   exact (hbit s).2 rfl
  ·intro x hx
   rcases List.mem_cons.1 hx with rfl | hx
   ·exact ⟨Nat.le_refl _, Qgk ha hc⟩
   ·have hx2 := hpt.2 x hx
    have hxx := TransGen.trans hx2.2 hx2.1
    exact ⟨hleast x hxx, Qgk ha hxx⟩
  ·intro q hq hqq
   have := hleast q ((Qiy ha q q).1 hqq)
   omega
theorem Qq9 : ∀ (n : Nat) (l : List Nat), l.Pairwise (· ≠ ·) → (∀ x ∈ l, x < n) → l.length ≤ n
 | 0, l, _, h => by
  cases l with
  | nil => simp
  | cons x l => have := h x (by simp); omega
 | n + 1, l, h1, h2 => by
  have h3 := Qq9 n (l.filter (fun y => !decide (y = n))) (List.Pairwise.filter _ h1) (fun x hx => by
   rw [List.mem_filter] at hx
   have := h2 x hx.1
   have : x ≠ n := by simpa using hx.2
   omega)
  have h4 : l.length ≤ (l.filter (fun y => !decide (y = n))).length + 1 := by
   clear h2 h3
   induction l with
   | nil => simp
   | cons x l ih =>
    have hx := List.pairwise_cons.1 h1
    by_cases e : x = n
    ·subst e
     have : l.filter (fun y => !decide (y = x)) = l := by
      rw [List.filter_eq_self]
      intro y hy
      have := hx.1 y hy
      simpa using fun e => this e.symm
     rw [List.filter_cons_of_neg (by simp), this, List.length_cons]
     omega
    ·have := ih hx.2
     rw [List.filter_cons_of_pos (by simpa using e), List.length_cons, List.length_cons]
     omega
  omega
end
end Go.Proofs.YthjjciimbfpokaaGreatDoor
namespace Go.Proofs.YthjjciimbfpokaaGreatDoor
open Go.RowKit Go.Shelf Sx
set_option maxRecDepth 100000
set_option maxHeartbeats 16000000
set_option linter.unusedSimpArgs false
set_option linter.unusedVariables false
def Qhx (k : Int) (q : Bool) : Nat := if k = 1 then (if q then 71680 else 38) else if k = 2 then (if q then 10240 else 42) else (if q then 49152 else 60)
def Qgs (k m : Int) (q : Bool) : Bool := decide (0 ≤ m) && (Qhx k q).testBit m.toNat
theorem QCr {N : Nat} (h : ∀ j : Fin 17, (bits BinOp.and IntKind.i64 ((N : Int) / 2 ^ min j.1 64) 1 == 1) = N.testBit j.1) (hN : N < 2 ^ 17) (j : Nat) : (bits BinOp.and IntKind.i64 ((N : Int) / 2 ^ min j 64) 1 == 1) = N.testBit j := by
 by_cases hj : j < 17
 ·exact h ⟨j, hj⟩
 ·have e1 : N.testBit j = false := Nat.testBit_lt_two_pow (Nat.lt_of_lt_of_le hN (Nat.pow_le_pow_right (by decide) (by omega)))
  have e2 : ((N : Int) / 2 ^ min j 64) = 0 := by
   have h2 : N / 2 ^ min j 64 = 0 := Nat.div_eq_of_lt (Nat.lt_of_lt_of_le hN (Nat.pow_le_pow_right (by decide) (by omega)))
   have h3 : ((N / 2 ^ min j 64 : Nat) : Int) = (N : Int) / 2 ^ min j 64 := by push_cast; rfl
   rw [← h3, h2]
   rfl
  rw [e1, e2]
  decide +kernel
theorem Qje (k m : Int) (q : Bool) (w : World) (hF : Frm w) (hk : k = 1 ∨ k = 2 ∨ k = 3) :
  Calls Tryz.prog 149 #[.int .i64 k, .int .i64 m, .bool q] w fun e w' => e = .returned (.bool (Qgs k m q)) ∧ w' = w := by
 have d2 : w.cell? ⟨1, 2, none⟩ = some (.int .i64 38) := hF.c 2 (by decide)
 have d3 : w.cell? ⟨1, 3, none⟩ = some (.int .i64 71680) := hF.c 3 (by decide)
 have d4 : w.cell? ⟨1, 4, none⟩ = some (.int .i64 42) := hF.c 4 (by decide)
 have d5 : w.cell? ⟨1, 5, none⟩ = some (.int .i64 10240) := hF.c 5 (by decide)
 have d6 : w.cell? ⟨1, 6, none⟩ = some (.int .i64 60) := hF.c 6 (by decide)
 have d7 : w.cell? ⟨1, 7, none⟩ = some (.int .i64 49152) := hF.c 7 (by decide)
 by_cases hm : 0 ≤ m
 ·have hmd : decide (0 ≤ m) = true := decide_eq_true hm
  have key : ∀ k', (k' = 1 ∨ k' = 2 ∨ k' = 3) → ∀ q' : Bool, (bits BinOp.and IntKind.i64 (((Qhx k' q' : Nat) : Int) / 2 ^ min m.toNat 64) 1 == 1) = Qgs k' m q' := by
   intro k' hk' q'
   unfold Qgs
   rw [hmd, Bool.true_and]
   rcases hk' with rfl | rfl | rfl <;> cases q'
   all_goals exact QCr (by decide +kernel) (by decide) _
  have HK1 := Qa (key 1 (.inl rfl))
  have HK2 := Qa (key 2 (.inr (.inl rfl)))
  have HK3 := Qa (key 3 (.inr (.inr rfl)))
  clear key
  rcases hk with rfl | rfl | rfl
  all_goals
   cases q
   all_goals
    go_enter Tryz.func149, Tryz.ntmps149
    go_wp2_with fail
    go_ret
    first | rw [← HK1.out] | rw [← HK2.out] | rw [← HK3.out]
    exact ⟨rfl, rfl⟩
 ·have hn : Qgs k m q = false := by simp [Qgs, hm]
  rw [hn]
  rcases hk with rfl | rfl | rfl
  all_goals
   cases q
   all_goals
    go_enter Tryz.func149, Tryz.ntmps149
    go_wp2_with fail
    go_ret
    exact ⟨rfl, rfl⟩
theorem Frm.drew {w : World} (h : Frm w) : Frm w.drew := ⟨h.lt, fun j hj => h.c j hj⟩
theorem Frm.drewN {w : World} (h : Frm w) (n : Nat) : Frm (w.drewN n) := h.below h.lt (Qac (Below.refl _ w) n)
def Qbx (cells : Int) (e : Ev) (q : Bool) : Bool := decide (0 ≤ e.t) && decide (e.t < 64) && decide (1 ≤ e.k) && decide (e.k ≤ 3) && (if e.k = 3 then decide (e.l = -1) && decide (e.v = 0) else decide (0 ≤ e.l) && decide (e.l < cells)) && Qgs e.k e.m q
def Ev.val (e : Ev) : Value := .agg #[.int .i64 e.t, .int .i64 e.k, .int .i64 e.l, .int .u64 e.v, .int .i64 e.m]
theorem Qn7 (b : Nat) (V : GrV) (g : Gr) (q : Bool) (e : Ev) (w : World) (h : BkR w b V g q) (hF : Frm w) :
  Calls Tryz.prog 134 #[pv b, .agg #[.int .i64 e.t, .int .i64 e.k, .int .i64 e.l, .int .u64 e.v, .int .i64 e.m]] w fun r w' => r = .returned (.bool (Qbx g.cells e q)) ∧ Below w.heap.size w w' := by
 obtain ⟨t, k, l, v, m⟩ := e
 dsimp only
 have hb := Blk.new w 31 #[.int .i64 t, .int .i64 k, .int .i64 l, .int .u64 v, .int .i64 m]
 have hBA := (Below.refl w.heap.size w).alloc (Nat.le_refl _) (.cells #[.int .i64 t, .int .i64 k, .int .i64 l, .int .u64 v, .int .i64 m] 31)
 have e0 : (w.alloc (.cells #[.int .i64 t, .int .i64 k, .int .i64 l, .int .u64 v, .int .i64 m] 31)).cell? ⟨w.heap.size, 0, none⟩ = some (.int .i64 t) := hb.cell rfl
 have e1 : (w.alloc (.cells #[.int .i64 t, .int .i64 k, .int .i64 l, .int .u64 v, .int .i64 m] 31)).cell? ⟨w.heap.size, 1, none⟩ = some (.int .i64 k) := hb.cell rfl
 have e2 : (w.alloc (.cells #[.int .i64 t, .int .i64 k, .int .i64 l, .int .u64 v, .int .i64 m] 31)).cell? ⟨w.heap.size, 2, none⟩ = some (.int .i64 l) := hb.cell rfl
 have e3 : (w.alloc (.cells #[.int .i64 t, .int .i64 k, .int .i64 l, .int .u64 v, .int .i64 m] 31)).cell? ⟨w.heap.size, 3, none⟩ = some (.int .u64 v) := hb.cell rfl
 have e4 : (w.alloc (.cells #[.int .i64 t, .int .i64 k, .int .i64 l, .int .u64 v, .int .i64 m] 31)).cell? ⟨w.heap.size, 4, none⟩ = some (.int .i64 m) := hb.cell rfl
 have hB := h.below hBA
 have f0 := hB.cells
 have f8 := hB.wds
 have hFA := hF.step hBA
 have HBA := Qa hBA
 have HFA := Qa hFA
 clear hb hBA hB h hF hFA
 generalize hok : Qbx g.cells ⟨t, k, l, v, m⟩ q = r
 have HOK := Qa hok
 clear hok
 go_enter Tryz.func134, Tryz.ntmps134
 by_cases ht : t < 0
 ·obtain rfl : r = false := by rw [← HOK.out]; simp [Qbx]; omega
  go_wp2_with fail
  go_ret
  exact ⟨rfl, HBA.out⟩
 ·by_cases ht2 : (64 : Int) ≤ t
  ·obtain rfl : r = false := by rw [← HOK.out]; simp [Qbx]; omega
   go_wp2_with fail
   go_ret
   exact ⟨rfl, HBA.out⟩
  ·by_cases hk1 : k < 1
   ·obtain rfl : r = false := by rw [← HOK.out]; simp [Qbx]; omega
    go_wp2_with fail
    go_ret
    exact ⟨rfl, HBA.out⟩
   ·by_cases hk3 : (3 : Int) < k
    ·obtain rfl : r = false := by rw [← HOK.out]; simp [Qbx]; omega
     go_wp2_with fail
     go_ret
     exact ⟨rfl, HBA.out⟩
    ·obtain hk | hk | hk : k = 1 ∨ k = 2 ∨ k = 3 := by omega
     all_goals subst hk
     ·by_cases hl0 : l < 0
      ·obtain rfl : r = false := by rw [← HOK.out]; simp [Qbx]; omega
       go_wp2_with fail
       go_quiet (fail)
       go_wp2_with fail
       go_ret
       exact ⟨rfl, Qac HBA.out _⟩
      ·by_cases hl1 : g.cells ≤ l
       ·obtain rfl : r = false := by rw [← HOK.out]; simp [Qbx]; omega
        go_wp2_with fail
        go_quiet (fail)
        go_wp2_with fail
        go_ret
        exact ⟨rfl, Qac HBA.out _⟩
       ·obtain rfl : Qgs 1 m q = r := by rw [← HOK.out]; simp [Qbx]; omega
        go_wp2_with fail
        go_quiet (fail)
        go_wp2_with fail
        go_region_held3 (fun w' => w'.cell? ⟨w.heap.size, 1, none⟩ = some (.int .i64 1) ∧ w'.cell? ⟨w.heap.size, 4, none⟩ = some (.int .i64 m) ∧ w'.cell? ⟨b, 8, none⟩ = some (.bool q)) (first | assumption | exact ⟨e1, e4, f8⟩) (first | (go_at_call 149; refine (Qje 1 m q _ (by first | exact HFA.out | exact HFA.out.drew | exact HFA.out.drew.drew | exact (HFA.out.drewN _).drew) (by first | exact .inl rfl | exact .inr (.inl rfl) | exact .inr (.inr rfl))).mono ?_; rintro e w' ⟨rfl, rfl⟩))
        go_wp2_with fail
        go_ret
        exact ⟨rfl, by first | exact HBA.out | exact HBA.out.drew | exact HBA.out.drew.drew | exact (Qac HBA.out _).drew⟩
     ·by_cases hl0 : l < 0
      ·obtain rfl : r = false := by rw [← HOK.out]; simp [Qbx]; omega
       go_wp2_with fail
       go_quiet (fail)
       go_wp2_with fail
       go_ret
       exact ⟨rfl, Qac HBA.out _⟩
      ·by_cases hl1 : g.cells ≤ l
       ·obtain rfl : r = false := by rw [← HOK.out]; simp [Qbx]; omega
        go_wp2_with fail
        go_quiet (fail)
        go_wp2_with fail
        go_ret
        exact ⟨rfl, Qac HBA.out _⟩
       ·obtain rfl : Qgs 2 m q = r := by rw [← HOK.out]; simp [Qbx]; omega
        go_wp2_with fail
        go_quiet (fail)
        go_wp2_with fail
        go_region_held3 (fun w' => w'.cell? ⟨w.heap.size, 1, none⟩ = some (.int .i64 2) ∧ w'.cell? ⟨w.heap.size, 4, none⟩ = some (.int .i64 m) ∧ w'.cell? ⟨b, 8, none⟩ = some (.bool q)) (first | assumption | exact ⟨e1, e4, f8⟩) (first | (go_at_call 149; refine (Qje 2 m q _ (by first | exact HFA.out | exact HFA.out.drew | exact HFA.out.drew.drew | exact (HFA.out.drewN _).drew) (by first | exact .inl rfl | exact .inr (.inl rfl) | exact .inr (.inr rfl))).mono ?_; rintro e w' ⟨rfl, rfl⟩))
        go_wp2_with fail
        go_ret
        exact ⟨rfl, by first | exact HBA.out | exact HBA.out.drew | exact HBA.out.drew.drew | exact (Qac HBA.out _).drew⟩
     ·by_cases hl : l = -1
      ·by_cases hv : v = 0
       ·subst hl
        subst hv
        obtain rfl : Qgs 3 m q = r := by rw [← HOK.out]; simp [Qbx]; omega
        go_wp2_with fail
        go_quiet (fail)
        go_wp2_with fail
        go_region_held3 (fun w' => w'.cell? ⟨w.heap.size, 1, none⟩ = some (.int .i64 3) ∧ w'.cell? ⟨w.heap.size, 4, none⟩ = some (.int .i64 m) ∧ w'.cell? ⟨b, 8, none⟩ = some (.bool q)) (first | assumption | exact ⟨e1, e4, f8⟩) (first | (go_at_call 149; refine (Qje 3 m q _ (by first | exact HFA.out | exact HFA.out.drew | exact HFA.out.drew.drew | exact (HFA.out.drewN _).drew) (by first | exact .inl rfl | exact .inr (.inl rfl) | exact .inr (.inr rfl))).mono ?_; rintro e w' ⟨rfl, rfl⟩))
        go_wp2_with fail
        go_ret
        exact ⟨rfl, by first | exact HBA.out | exact HBA.out.drew | exact HBA.out.drew.drew | exact (Qac HBA.out _).drew⟩
       ·obtain rfl : r = false := by rw [← HOK.out]; simp [Qbx]; omega
        subst hl
        have q1 : ((v : Int) != 0) = true := by simp [hv]
        go_wp2_with fail
        go_ret
        exact ⟨rfl, HBA.out⟩
      ·obtain rfl : r = false := by rw [← HOK.out]; simp [Qbx]; omega
       have q1 : ((l : Int) != -1) = true := by simp [hl]
       go_wp2_with fail
       go_ret
       exact ⟨rfl, HBA.out⟩
end Go.Proofs.YthjjciimbfpokaaGreatDoor
