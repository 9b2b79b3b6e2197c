import Derived.Test.YtdkogbfamdnheaaGreatDoorJ15
import Derived.Test.YtdkogbfamdnheaaGreatDoorJ13
namespace Go.Proofs.YtdkogbfamdnheaaGreatDoor
open Go.RowKit Go.Shelf Sx
set_option maxRecDepth 100000
set_option maxHeartbeats 16000000
set_option linter.unusedSimpArgs false
set_option linter.unusedVariables false
attribute [local go_sem] Oper.semAt_some
theorem Qp5 (L : List Nat) (k p : Nat) : (Qeb L k).testBit p = (decide (p < k) && (gr L p).testBit p) := by
 induction k with
 | zero => simp [Qeb]
 | succ k ih =>
  rw [Qjb, Qcb, ih]
  by_cases h : p = k
  ·subst h; simp
  ·rw [if_neg h]
   by_cases h2 : p < k
   ·rw [decide_eq_true h2, decide_eq_true (show p < k + 1 by omega)]
   ·rw [decide_eq_false h2, decide_eq_false (show ¬ p < k + 1 by omega)]
theorem QAp (L : List Nat) : Qcf L < 2 ^ L.length := Qdq fun i hi => by rw [Qcf, Qp5, decide_eq_false oW, Bool.false_and]
theorem Qlp (L : List Nat) : (Qci L).length = L.length := Qid L L.length
def Qb8 (L out : List Nat) : Prop :=
 (Qae (Qcf (Qci L)) = [] ∧ out = []) ∨ ∃ s tl ly, Qae (Qcf (Qci L)) = s :: tl ∧ Qc6 L (Qbm L) s 0 (Qa5 0 s true) ly ∧ out = s :: Qbu L s (Qbz ly (ly.length - 1))
theorem QDg (b c : Nat) (L : List Nat) (w : World) (h : IsRel w b c L) (hT : Tab w) :
  CallsIn Fence.wide 6 Tryz.prog 139 #[pv b] w fun e w' => ∃ v out, e = .returned v ∧ Qb8 L out ∧ w'.ownsRow w.heap.size 3 1 v out.length (Qcl out) ∧ Below w.heap.size w w' := by
 have hl := h.len
 have hT2 := (hT.alloc (.cells #[pv b] 42)).alloc (.cells #[.slice none 0 0] 36)
 have h2 := (h.alloc (.cells #[pv b] 42)).alloc (.cells #[.slice none 0 0] 36)
 refine callsIn_of_wp_marks Tryz.func139 rfl trivial ?_ rfl
 simp only [Tryz.ntmps139, List.size_toArray, List.length_cons, List.length_nil, Nat.reduceAdd, Nat.reduceSub, Array.replicate_succ, Array.replicate_zero, List.push_toArray, List.append_toArray, List.nil_append, List.cons_append]
 gi_wp2_with fail
 refine ⟨trivial, ?_⟩
 refine (callsIn_wide.2 (Qyu b c L _ h2)).mono ?_
 rintro e w1 ⟨b2, c2, rfl, hM⟩
 have hB1 : Below w.heap.size w w1 := (((Below.refl _ w).alloc nW _).alloc sW _).trans (hM.below.mono (by simp; omega))
 have hbx1 : Blk w1 w.heap.size 42 #[pv b] := ((Blk.new w _ _).alloc _).of_below hM.below
 have hrs1 : Boxed w1 (w.heap.size + 1) 36 (.slice none 0 0) := (Blk.new2 w _ _ _).of_below hM.below
 gi_wp2_with fail
 refine ⟨trivial, ?_⟩
 refine (callsIn_wide.2 (Qui b2 c2 (Qci L) _ hM.rel)).mono ?_
 rintro e w2 ⟨rfl, hB2⟩
 have hBw2 : Below w.heap.size w w2 := Qaa hB1 hB1.size hB2
 have hbx2 := hbx1.of_below hB2
 have hrs2 : Boxed w2 (w.heap.size + 1) 36 (.slice none 0 0) := Blk.of_below hrs1 hB2
 have hTw2 := hT.step hBw2
 have HL : Hid (∀ p, p ∈ Qae (Qcf (Qci L)) → p < L.length) := by
  intro p hp
  have h1 := (Qa1.1 hp).2
  apply Nat.lt_of_not_le
  intro hle
  have := QAp (Qci L)
  rw [Qlp] at this
  rw [Qc2 this hle] at h1
  cases h1
 have HC : Hid (∀ out, ((Qae (Qcf (Qci L)) = [] ∧ out = []) ∨ ∃ s tl ly, Qae (Qcf (Qci L)) = s :: tl ∧ Qc6 L (Qbm L) s 0 (Qa5 0 s true) ly ∧ out = s :: Qbu L s (Qbz ly (ly.length - 1))) → Qb8 L out) := fun _ h => h
 generalize Qcf (Qci L) = M at *
 clear hB2 hB1 hM hbx1 hrs1 h2 hT2
 have hs2 := hBw2.size
 have hp := hT.pos
 have hs3 := hbx2.lt
 have hs4 := hrs2.lt
 gi_wp2_with (refine ⟨trivial, ?_⟩; gi_at_call 72; refine (Qep Fence.wide _ trivial rfl M _).mono ?_; rintro e w' ⟨rfl, rfl⟩)
 refine wpIn_rangeFunc_ownF rfl oW (gf := 114) (lb := #[.pointer (some ⟨w2.heap.size, 0, none⟩)]) rfl trivial (enters_of Tryz.func114 kW rfl)
  (Qdc M w2.heap.size (6 - 1) oW _ ?hB ?hT) belowK_t (belowK_b sW) bW (fun _ => rfl)
  (fun pre W => w2.heap.size + 1 ≤ W.heap.size ∧ pre = [] ∧ Blk W w.heap.size 42 #[pv b] ∧ Boxed W (w.heap.size + 1) 36 (.slice none 0 0) ∧ Tab W ∧ Below w.heap.size w W)
  (fun cd pre W => w2.heap.size + 1 ≤ W.heap.size ∧ cd = .ret ∧ ∃ q v ly, Qc pre = [q] ∧ Qc6 L (Qbm L) q 0 (Qa5 0 q true) ly ∧ Boxed W (w.heap.size + 1) 36 v ∧ W.ownsRow w.heap.size 3 1 v (q :: Qbu L q (Qbz ly (ly.length - 1))).length (Qcl (q :: Qbu L q (Qbz ly (ly.length - 1)))) ∧ Tab W ∧ Below w.heap.size w W)
  ?hI ?hIx ?h0
  (fun x => { tmps := #[pv b, pv w.heap.size, pv (w.heap.size + 1), .int .i64 (x.1 : Int), pv b, pv b2, rv M, .func (.func 114) #[] #[.pointer (some ⟨w2.heap.size, 0, none⟩)], .int .i64 (x.1 : Int), undef, undef, undef], defers := [] }) ?assign ?body ?done ?stop
 case hB => exact Blk.new _ _ _
 case hT => exact hTw2.alloc _
 case hI =>
  refine Qex (fun s W hi => by simpa using hi.1) ?_
  rintro s W W' ⟨h1, h2, h3, h4, h5, h6⟩ hb' ho
  have hb' : Below (w2.heap.size + 1) W W' := by simpa using hb'
  exact ⟨Nat.le_trans h1 hb'.size, h2, h3.below hb' oW, (hb'.block _ oW).trans h4, h5.below hb' oW, h6.trans (hb'.mono oW)⟩
 case hIx =>
  intro cd
  refine Qex (fun s W hi => by simpa using hi.1) ?_
  rintro s W W' ⟨h1, h2, q, v, ly, h9, h10, h3, h4, h5, h6⟩ hb' ho
  have hb' : Below (w2.heap.size + 1) W W' := by simpa using hb'
  exact ⟨Nat.le_trans h1 hb'.size, h2, q, v, ly, h9, h10, (hb'.block _ oW).trans h3, ho _ _ _ _ _ _ h4, h5.below hb' oW, h6.trans (hb'.mono oW)⟩
 case h0 =>
  exact ⟨by simp, rfl, hbx2.alloc _, hrs2.alloc _, hTw2.alloc _, hBw2.alloc hs2 _⟩
 case assign =>
  intro l x W K hK
  gi_wp2
  exact hK
 case body =>
  rintro l pre x W ⟨h1, rfl, h3, h4, h5, h6⟩ _
  have k0 : W.cell? ⟨w.heap.size, 0, none⟩ = some (pv b) := h3.cell rfl
  have hq := HL.out x.1 x.2
  gi_wp2_with (refine ⟨trivial, ?_⟩; gi_at_call 158; refine (CallsIn.inRound l (callsIn_wide.2 (Qod b c L x.1 _ (h.below h6) h5 hq))).mono ?_; rintro e w3 ⟨v, ly, rfl, hly, hown, hB3⟩; have h4b : Boxed w3 (w.heap.size + 1) 36 (.slice none 0 0) := Blk.of_below h4 hB3; have hc1 := h4b.cell; have hf1 := h4b.frozen; have HO := Qa hown; rw [List.length_cons] at hown; obtain ⟨g', cap', rfl⟩ := ownsRow_succ hown; clear hown)
  have hs6 := h6.size
  refine ⟨(Qgn hB3).trans (KeepsOthers.setCell _ _ _), Nat.le_trans h1 (Nat.le_trans hB3.size (by simp [World.setCell])), rfl, x.1, _, ly, rfl, hly, h4b.set _, ?_, (h5.step hB3).set sW _, (h6.trans (hB3.mono hs6)).setCell sW _⟩
  refine Qd5 (Qk HO.out hs6) ?_ _
  exact h4b.not_row dW HO.out
 case done =>
  rintro D ys W hDD hys ⟨h1, rfl, h3, h4, h5, h6⟩ hK
  have hc := h4.cell
  have hf := h4.frozen
  have hnil : Qae M = [] := hys.symm
  gi_wp2
  have hK' := (KeepsOthers.setCell W ⟨w.heap.size + 1, 0, none⟩ (.slice none 0 0)).same D _ hK rfl
  refine ⟨by simp, .inl ⟨_, _, rfl, run_takeDeferred hK', ?_⟩⟩
  have h7 := Blk.putObj (h4.set (.slice none 0 0)) hK' rfl (.deferred none)
  have hc7 : (World.putObj _ D (.deferred none)).cell? ⟨w.heap.size + 1, 0, none⟩ = some (.slice none 0 0) := h7.cell rfl
  refine ⟨.slice none 0 0, ?_, .slice none 0 0, [], rfl, HC.out [] (.inl ⟨hnil, rfl⟩), World.ownsRow_nil _ _ _ _, (h6.setCell sW _).trans (belowK_b (w := w) nW _ D _ _ (by simp at hDD; omega) hK' rfl rfl)⟩
  simp [results, Tryz.f139, go_sem, hc7]
 case stop =>
  rintro D cd pre W hDD hpre ⟨h1, rfl, q, v, ly, hq, hly, h3, h4, h5, h6⟩ hK
  rw [hq] at hpre
  obtain ⟨tl, htl⟩ := hpre
  gi_wp2
  refine ⟨by simp, .inl ⟨_, _, rfl, run_takeDeferred hK, ?_⟩⟩
  have h7 := Blk.putObj h3 hK rfl (.deferred none)
  have hc7 : (W.putObj D (.deferred none)).cell? ⟨w.heap.size + 1, 0, none⟩ = some v := h7.cell rfl
  refine ⟨v, ?_, v, _, rfl, HC.out _ (.inr ⟨q, tl, ly, htl.symm, hly, rfl⟩), ownsRow_putObj h4 _ hK rfl, h6.trans (belowK_b (w := w) nW _ D _ _ (by simp at hDD; omega) hK rfl rfl)⟩
  simp [results, Tryz.f139, go_sem, hc7]
theorem Qmu (b c : Nat) (L : List Nat) (w : World) (h : IsRel w b c L) (hT : Tab w) :
  Calls Tryz.prog 139 #[pv b] w fun e w' => ∃ v out, e = .returned v ∧ Qb8 L out ∧ w'.ownsRow w.heap.size 3 1 v out.length (Qcl out) ∧ Below w.heap.size w w' := callsIn_wide.1 (QDg b c L w h hT)
end Go.Proofs.YtdkogbfamdnheaaGreatDoor
namespace Go.Proofs.YtdkogbfamdnheaaGreatDoor
open Go.RowKit Go.Shelf Sx Relation
set_option maxRecDepth 100000
set_option maxHeartbeats 16000000
set_option linter.unusedSimpArgs false
set_option linter.unusedVariables false
def hs (L : List Nat) (p q : Nat) : Prop := (gr L p).testBit q = true
structure WF (n : Nat) (L : List Nat) : Prop where
 len : L.length = n
 low : ∀ p q, hs L p q → q < n
theorem Qbb {L : List Nat} {p q : Nat} (h : hs L p q) : p < L.length := by
 apply Nat.lt_of_not_le
 intro hle
 unfold hs at h
 rw [Qle oW] at h
 simp at h
theorem Qh (L : List Nat) (q : Nat) : ∀ (l : List Nat) (s : Nat), (l.foldl (fun s p => s ||| gr L p) s).testBit q = true ↔ s.testBit q = true ∨ ∃ p ∈ l, hs L p q
 | [], s => by simp
 | x :: l, s => by
  rw [List.foldl_cons, Qh L q l, Nat.testBit_or, Bool.or_eq_true]
  unfold hs
  simp [or_assoc]
theorem Qh0 {n k : Nat} {f : Nat → Nat} {p q : Nat} (hk : n ≤ k) : hs (Qbc n f k) p q ↔ p < n ∧ (f p).testBit q = true := by
 by_cases hp : p < n
 ·unfold hs
  rw [Qho (Qfq hp), if_pos oW]
  simp [hp]
 ·constructor
  ·intro h
   have := Qbb h
   rw [Qaz] at this
   omega
  ·exact fun h => absurd h.1 hp
section
variable {n : Nat} {A B C : List Nat}
theorem Qav (hn : n ≤ 256) (ha : WF n A) (hb : WF n B) (p q : Nat) : hs (Qaw A B) p q ↔ ∃ m, hs A p m ∧ hs B m q := by
 unfold Qaw
 rw [ha.len, hb.len, Nat.max_self, Qh0 nW]
 unfold Qal
 rw [Qh]
 constructor
 ·rintro ⟨_, h | ⟨m, hm, h⟩⟩
  ·simp at h
  ·exact ⟨m, (Qa1.1 hm).2, h⟩
 ·rintro ⟨m, h1, h2⟩
  refine ⟨by have := Qbb h1; rw [ha.len] at this; exact this, Or.inr ⟨m, Qa1.2 ⟨?_, h1⟩, h2⟩⟩
  have := ha.low _ _ h1
  omega
theorem Qak (hn : n ≤ 256) (ha : WF n A) (hb : WF n B) : WF n (Qaw A B) := by
 refine ⟨by unfold Qaw; rw [Qaz, ha.len, hb.len, Nat.max_self], fun p q h => ?_⟩
 obtain ⟨m, _, h2⟩ := (Qav hn ha hb p q).1 h
 exact hb.low _ _ h2
theorem Qif (ha : WF n A) (hb : WF n B) (p q : Nat) : hs (Qbk A B) p q ↔ hs A p q ∧ hs B p q := by
 unfold Qbk
 rw [ha.len, hb.len, Nat.max_self, Qh0 nW, Nat.testBit_and, Bool.and_eq_true]
 constructor
 ·exact fun h => h.2
 ·exact fun h => ⟨by have := Qbb h.1; rw [ha.len] at this; exact this, h⟩
theorem Qd9 (ha : WF n A) (hb : WF n B) : WF n (Qbk A B) := by
 refine ⟨by unfold Qbk; rw [Qaz, ha.len, hb.len, Nat.max_self], fun p q h => ?_⟩
 exact ha.low _ _ ((Qif ha hb p q).1 h).1
theorem Qdf (ha : WF n A) (hb : WF n B) (p q : Nat) : hs (Qcn A B) p q ↔ hs A p q ∧ ¬ hs B p q := by
 unfold Qcn
 rw [ha.len, hb.len, Nat.max_self, Qh0 nW, Qby, Bool.and_eq_true, Bool.not_eq_true']
 unfold hs
 rw [Bool.not_eq_true]
 constructor
 ·exact fun h => h.2
 ·exact fun h => ⟨by have := Qbb (L := A) h.1; rw [ha.len] at this; exact this, h⟩
theorem Qdo (ha : WF n A) (hb : WF n B) : WF n (Qcn A B) := by
 refine ⟨by unfold Qcn; rw [Qaz, ha.len, hb.len, Nat.max_self], fun p q h => ?_⟩
 exact ha.low _ _ ((Qdf ha hb p q).1 h).1
theorem Qgq (m p q : Nat) : ¬ hs (List.replicate m 0) p q := by
 intro h
 have hp := Qbb h
 rw [List.length_replicate] at hp
 unfold hs at h
 rw [Qho (R := 0) (by simp [hp])] at h
 simp at h
theorem Qtv {X : List Nat} (hx : X.length = n) (ha : WF n A) (p q : Nat) : hs (Qcv X A A.length) p q ↔ hs X p q ∨ hs A p q := by
 by_cases hp : p < n
 ·unfold hs
  rw [Qv5 oW, if_pos (by rw [ha.len]; exact hp), Nat.testBit_or, Bool.or_eq_true]
 ·constructor
  ·intro h
   have := Qbb h
   rw [Qa7] at this
   omega
  ·rintro (h | h)
   ·have := Qbb h; omega
   ·have := Qbb h; rw [ha.len] at this; omega
theorem Qig (ha : WF n A) (hb : WF n B) (p q : Nat) : hs (Qar [A, B]) p q ↔ hs A p q ∨ hs B p q := by
 have e : Qar [A, B] = Qcv (Qcv (List.replicate n 0) A A.length) B B.length := by
  simp [Qar, Qb9, ha.len, hb.len]
 rw [e, Qtv (by rw [Qa7, List.length_replicate]) hb, Qtv (by rw [List.length_replicate]) ha]
 constructor
 ·rintro ((h | h) | h)
  ·exact absurd h (Qgq _ _ _)
  ·exact Or.inl h
  ·exact Or.inr h
 ·rintro (h | h)
  ·exact Or.inl (Or.inr h)
  ·exact Or.inr h
theorem Qks (ha : WF n A) (hb : WF n B) : WF n (Qar [A, B]) := by
 refine ⟨by simp [Qar, Qb9, Qa7, ha.len, hb.len], fun p q h => ?_⟩
 rcases (Qig ha hb p q).1 h with h | h
 ·exact ha.low _ _ h
 ·exact hb.low _ _ h
theorem QAq {X : List Nat} {j R p q : Nat} : hs (X.set j R) p q ↔ if p = j ∧ j < X.length then R.testBit q = true else hs X p q := by
 unfold hs gr
 rw [List.getD_eq_getElem?_getD, List.getD_eq_getElem?_getD, List.getElem?_set]
 by_cases e : j = p
 ·subst e
  by_cases hj : j < X.length
  ·simp [hj]
  ·simp [hj]
 ·rw [if_neg e, if_neg (fun h => e h.1.symm)]
theorem QAr {X : List Nat} {x y p q : Nat} (hx : x < X.length) (hy : y < X.length) : hs (Qb0 X (x : Int) (y : Int) true) p q ↔ hs X p q ∨ (p = x ∧ q = y) := by
 rw [Qsy hx hy (Qb7 hx), QAq]
 by_cases e : p = x
 ·subst e
  rw [if_pos ⟨rfl, hx⟩, Qcb]
  by_cases e2 : q = y
  ·subst e2; simp
  ·rw [if_neg e2]
   constructor
   ·exact fun h => Or.inl h
   ·rintro (h | ⟨_, h⟩)
    ·exact h
    ·exact absurd h e2
 ·rw [if_neg (fun h => e h.1)]
  constructor
  ·exact fun h => Or.inl h
  ·rintro (h | ⟨h, _⟩)
   ·exact h
   ·exact absurd h e
theorem Qih (X : List Nat) (x y : Int) (v : Bool) : (Qb0 X x y v).length = X.length := by
 unfold Qb0; split <;> simp
theorem Qqz (p : Nat) : ∀ (l : List Nat) (X : List Nat), (Qe3 X p l).length = X.length
 | [], _ => rfl
 | q :: l, X => by
  show (Qe3 (Qb0 X q p true) p l).length = _
  rw [Qqz p l, Qih]
theorem Qtw {p : Nat} : ∀ (l : List Nat) (X : List Nat), p < X.length → (∀ q ∈ l, q < X.length) → ∀ a b, hs (Qe3 X p l) a b ↔ hs X a b ∨ (b = p ∧ a ∈ l)
 | [], X, _, _, a, b => by simp [Qe3]
 | q :: l, X, hp, hq, a, b => by
  show hs (Qe3 (Qb0 X q p true) p l) a b ↔ _
  rw [Qtw l _ (by rw [Qih]; exact hp) (fun r hr => by rw [Qih]; exact hq r (List.mem_cons_of_mem _ hr)), QAr (hq q sW) hp]
  constructor
  ·rintro ((h | ⟨rfl, rfl⟩) | ⟨rfl, h⟩)
   ·exact Or.inl h
   ·exact Or.inr ⟨rfl, by simp⟩
   ·exact Or.inr ⟨rfl, List.mem_cons_of_mem _ h⟩
  ·rintro (h | ⟨rfl, h⟩)
   ·exact Or.inl (Or.inl h)
   ·rcases List.mem_cons.1 h with rfl | h
    ·exact Or.inl (Or.inr ⟨rfl, rfl⟩)
    ·exact Or.inr ⟨rfl, h⟩
theorem Qnx (L : List Nat) (k : Nat) : (Qhc L k).length = L.length := by
 induction k with
 | zero => simp [Qhc]
 | succ k ih => rw [Qio, Qqz, ih]
theorem QGh (hn : n ≤ 256) (ha : WF n A) (k : Nat) (hk : k ≤ n) (a b : Nat) : hs (Qhc A k) a b ↔ hs A b a ∧ b < k := by
 induction k generalizing a b with
 | zero =>
  constructor
  ·intro h; exact absurd h (by simpa [Qhc] using Qgq _ a b)
  ·intro h; omega
 | succ k ih =>
  rw [Qio, Qtw _ _ (by rw [Qnx, ha.len]; omega) (fun q hq => by rw [Qnx, ha.len]; exact ha.low _ _ (Qa1.1 hq).2), ih oW]
  constructor
  ·rintro (⟨h1, h2⟩ | ⟨rfl, h⟩)
   ·exact ⟨h1, oW⟩
   ·exact ⟨(Qa1.1 h).2, oW⟩
  ·rintro ⟨h1, h2⟩
   by_cases e : b = k
   ·subst e
    exact Or.inr ⟨rfl, Qa1.2 ⟨by have := ha.low _ _ h1; omega, h1⟩⟩
   ·exact Or.inl ⟨h1, oW⟩
theorem Qlq (hn : n ≤ 256) (ha : WF n A) (a b : Nat) : hs (Qbm A) a b ↔ hs A b a := by
 unfold Qbm
 rw [ha.len, QGh hn ha n nW]
 constructor
 ·exact fun h => h.1
 ·exact fun h => ⟨h, by have := Qbb h; rw [ha.len] at this; exact this⟩
theorem QAs (hn : n ≤ 256) (ha : WF n A) : WF n (Qbm A) := by
 refine ⟨by unfold Qbm; rw [Qnx, ha.len], fun p q h => ?_⟩
 have := Qbb ((Qlq hn ha p q).1 h)
 rw [ha.len] at this
 exact this
theorem QIh (k j : Nat) (p q : Nat) : hs (Qck A k j) p q ↔ hs A p q ∨ (p < j ∧ hs A p k ∧ hs A k q) := by
 induction j generalizing p q with
 | zero => simp [Qck]
 | succ j ih =>
  rw [Qic]
  have hrow : ∀ q, hs (Qck A k j) j q ↔ hs A j q := fun q => by
   rw [ih]
   constructor
   ·rintro (h | h)
    ·exact h
    ·omega
   ·exact Or.inl
  have hk : ∀ q, hs (Qck A k j) k q ↔ hs A k q := fun q => by
   rw [ih]
   constructor
   ·rintro (h | h)
    ·exact h
    ·exact h.2.2
   ·exact Or.inl
  unfold Qe9
  by_cases hb : (gr (Qck A k j) j).testBit k = true
  ·rw [if_pos hb, QAq]
   have hjk : hs A j k := (hrow k).1 hb
   by_cases e : p = j
   ·subst e
    rw [if_pos ⟨rfl, Qbb (show hs (Qck A k p) p k from hb)⟩, Nat.testBit_or, Bool.or_eq_true]
    constructor
    ·rintro (h | h)
     ·exact Or.inl ((hrow q).1 h)
     ·exact Or.inr ⟨oW, hjk, (hk q).1 h⟩
    ·rintro (h | ⟨_, _, h⟩)
     ·exact Or.inl ((hrow q).2 h)
     ·exact Or.inr ((hk q).2 h)
   ·rw [if_neg (fun h => e h.1), ih]
    constructor
    ·rintro (h | ⟨h1, h2⟩)
     ·exact Or.inl h
     ·exact Or.inr ⟨oW, h2⟩
    ·rintro (h | ⟨h1, h2⟩)
     ·exact Or.inl h
     ·exact Or.inr ⟨oW, h2⟩
  ·rw [if_neg hb, ih]
   constructor
   ·rintro (h | ⟨h1, h2⟩)
    ·exact Or.inl h
    ·exact Or.inr ⟨oW, h2⟩
   ·rintro (h | ⟨h1, h2⟩)
    ·exact Or.inl h
    ·by_cases e : p = j
     ·subst e
      exact absurd ((hrow k).2 h2.1) hb
     ·exact Or.inr ⟨oW, h2⟩
theorem QGi (ha : A.length = n) (k : Nat) (p q : Nat) : hs (Qck A k n) p q ↔ hs A p q ∨ (hs A p k ∧ hs A k q) := by
 rw [QIh]
 constructor
 ·rintro (h | h)
  ·exact Or.inl h
  ·exact Or.inr h.2
 ·rintro (h | h)
  ·exact Or.inl h
  ·exact Or.inr ⟨by have := Qbb h.1; omega, h⟩
theorem Qhu (ha : A.length = n) (k p q : Nat) : hs (Qc9 A (k + 1)) p q ↔ hs (Qc9 A k) p q ∨ (hs (Qc9 A k) p k ∧ hs (Qc9 A k) k q) := by
 rw [Qkr, ha]
 exact QGi (by rw [Qid]; exact ha) k p q
theorem Qq0 (ha : A.length = n) (k : Nat) {p q : Nat} (h : hs A p q) : hs (Qc9 A k) p q := by
 induction k with
 | zero => exact h
 | succ k ih => exact (Qhu ha k p q).2 (Or.inl ih)
theorem Qvk (ha : A.length = n) (k : Nat) {p q : Nat} (h : hs (Qc9 A k) p q) : TransGen (hs A) p q := by
 induction k generalizing p q with
 | zero => exact TransGen.single h
 | succ k ih =>
  rcases (Qhu ha k p q).1 h with h | ⟨h1, h2⟩
  ·exact ih h
  ·exact TransGen.trans (ih h1) (ih h2)
theorem QAt (ha : A.length = n) (k : Nat) {p v q : Nat} (hv : v < k) (h1 : hs (Qc9 A k) p v) (h2 : hs (Qc9 A k) v q) : hs (Qc9 A k) p q := by
 induction k generalizing p v q with
 | zero => omega
 | succ k ih =>
  rw [Qhu ha] at h1 h2 ⊢
  by_cases e : v = k
  ·subst e
   have a1 : hs (Qc9 A v) p v := by
    rcases h1 with h | h
    ·exact h
    ·exact h.1
   have a2 : hs (Qc9 A v) v q := by
    rcases h2 with h | h
    ·exact h
    ·exact h.2
   exact Or.inr ⟨a1, a2⟩
  ·have hv : v < k := by omega
   rcases h1 with h1 | ⟨h1, h1'⟩ <;> rcases h2 with h2 | ⟨h2, h2'⟩
   ·exact Or.inl (ih hv h1 h2)
   ·exact Or.inr ⟨ih hv h1 h2, h2'⟩
   ·exact Or.inr ⟨h1, ih hv h1' h2⟩
   ·exact Or.inr ⟨h1, h2'⟩
theorem Qma (ha : WF n A) (p q : Nat) : hs (Qci A) p q ↔ TransGen (hs A) p q := by
 constructor
 ·exact Qvk ha.len _
 ·intro h
  induction h with
  | single h => exact Qq0 ha.len _ h
  | tail _ h2 ih =>
   refine QAt ha.len _ ?_ ih (Qq0 ha.len _ h2)
   exact Qbb h2
theorem Qi3 (ha : WF n A) {p q : Nat} (h : TransGen (hs A) p q) : q < n := by
 cases h with
 | single h => exact ha.low _ _ h
 | tail _ h => exact ha.low _ _ h
theorem Qyy {R : Nat → Nat → Prop} {p q : Nat} (k : TransGen R p q) : R p q ∨ ∃ m, R p m ∧ TransGen R m q := by
 induction k with
 | single k => exact Or.inl k
 | tail _ k ih =>
  rcases ih with h | ⟨m, h1, h2⟩
  ·exact Or.inr ⟨_, h, TransGen.single k⟩
  ·exact Or.inr ⟨m, h1, TransGen.tail h2 k⟩
theorem QAu (L : List Nat) (k p : Nat) : (Qeb L k).testBit p = true ↔ p < k ∧ hs L p p := by
 induction k with
 | zero => simp [Qeb]
 | succ k ih =>
  rw [Qjb, Qcb]
  by_cases e : p = k
  ·subst e
   rw [if_pos rfl]
   unfold hs
   constructor
   ·exact fun h => ⟨oW, h⟩
   ·exact fun h => h.2
  ·rw [if_neg e, ih]
   constructor
   ·exact fun h => ⟨oW, h.2⟩
   ·exact fun h => ⟨oW, h.2⟩
end
section
variable {n : Nat} {A B C : List Nat}
end
def Qkt (N : Nat) (F : Nat → Nat → Bool) (L : List Nat) : Prop := ∀ p q, p < N → q < N → (F p q = true ↔ hs L p q)
structure Twin (n : Nat) (F : Nat → Nat → Bool) (L : List Nat) : Prop where
 wf : WF n L
 same : Qkt n F L
section
variable {n N : Nat} {F : Nat → Nat → Bool} {A : List Nat}
theorem Twin.low (h : Twin n F A) {p q : Nat} (h1 : hs A p q) : p < n ∧ q < n := by
 have h2 := Qbb h1
 rw [h.wf.len] at h2
 exact ⟨h2, h.wf.low _ _ h1⟩
theorem Twin.mk' {L : List Nat} {H : Nat → Nat → Bool} (hl : L.length = N) (h1 : ∀ p q, hs L p q → q < N) (h2 : ∀ p q, p < N → q < N → (H p q = true ↔ hs L p q)) : Twin N H L := ⟨⟨hl, h1⟩, h2⟩
end
theorem QAv {x : Nat} (h : x ≠ 0) : ∃ q, x.testBit q = true := by
 apply Classical.byContradiction
 intro hn
 apply h
 apply Nat.eq_of_testBit_eq
 intro q
 rw [Nat.zero_testBit, Bool.eq_false_iff]
 exact fun hq => hn ⟨q, hq⟩
theorem Qtx {x y : Nat} (h : x &&& y ≠ 0) : ∃ q, x.testBit q = true ∧ y.testBit q = true := by
 obtain ⟨q, hq⟩ := QAv h
 rw [Nat.testBit_and, Bool.and_eq_true] at hq
 exact ⟨q, hq⟩
theorem Qii {x y q : Nat} (h : x &&& y = 0) (h1 : x.testBit q = true) (h2 : y.testBit q = true) : False := by
 have := Nat.testBit_and x y q
 rw [h, h1, h2, Nat.zero_testBit] at this
 cases this
theorem Qez {x y q : Nat} : (x ||| y).testBit q = true ↔ x.testBit q = true ∨ y.testBit q = true := by
 rw [Nat.testBit_or, Bool.or_eq_true]
theorem Qty (x : Nat) (l : List Nat) (i : Nat) : gr (x :: l) (i + 1) = gr l i := rfl
def Qtz (L : List Nat) : Nat → List Nat → Nat → Prop
 | a, [], b => hs L a b
 | a, x :: l, b => hs L a x ∧ Qtz L x l b
section
variable {n : Nat} {L : List Nat}
theorem Qlr (hn : n ≤ 256) (ha : WF n L) (near q : Nat) : (Qal (Qbm L) (Qae near)).testBit q = true ↔ ∃ r, near.testBit r = true ∧ hs L q r := by
 unfold Qal
 rw [Qh]
 constructor
 ·rintro (h | ⟨r, hr, h⟩)
  ·simp at h
  ·exact ⟨r, (Qa1.1 hr).2, (Qlq hn ha r q).1 h⟩
 ·rintro ⟨r, h1, h2⟩
  exact Or.inr ⟨r, Qa1.2 ⟨by have := ha.low _ _ h2; omega, h1⟩, (Qlq hn ha r q).2 h2⟩
theorem Qls (hn : n ≤ 256) (ha : WF n L) {s : Nat} (hc : TransGen (hs L) s s) : ∀ (ly : List Nat) (seen near : Nat), Qc6 L (Qbm L) s seen near ly → (seen ||| near).testBit s = true →
  (∀ x y, seen.testBit x = true → hs L y x → (seen ||| near).testBit y = true) → gr L s &&& seen = 0 → ∃ k, ly.length = k + 1 ∧ gr L s &&& gr ly k ≠ 0
 | [], seen, near, hl, h1, h2, h3 => by
  have e : near = 0 := hl
  subst e
  rw [Nat.or_zero] at h1
  have key : ∀ m x, TransGen (hs L) m x → seen.testBit x = true → seen.testBit m = true := by
   intro m x h
   induction h with
   | single h => intro hx; have := h2 _ _ hx h; rwa [Nat.or_zero] at this
   | tail _ h ih => intro hx; have := h2 _ _ hx h; rw [Nat.or_zero] at this; exact ih this
  rcases Qyy hc with h | ⟨m, h4, h5⟩
  ·exact (Qii h3 h h1).elim
  ·exact (Qii h3 h4 (key m s h5 h1)).elim
 | x :: rest, seen, near, hl, h1, h2, h3 => by
  obtain ⟨hne, rfl, hgo, hstop⟩ : near ≠ 0 ∧ x = near ∧ (gr L s &&& near = 0 → Qc6 L (Qbm L) s (seen ||| near) (Qcd (Qal (Qbm L) (Qae near)) (seen ||| near)) rest) ∧ (gr L s &&& near ≠ 0 → rest = []) := hl
  by_cases hm : gr L s &&& x = 0
  ·have c1 : ∀ a b, (seen ||| x).testBit a = true → hs L b a → ((seen ||| x) ||| Qcd (Qal (Qbm L) (Qae x)) (seen ||| x)).testBit b = true := by
    intro a b ha1 hb
    rcases Qez.1 ha1 with h | h
    ·exact Qez.2 (Or.inl (h2 a b h hb))
    ·by_cases hs2 : (seen ||| x).testBit b = true
     ·exact Qez.2 (Or.inl hs2)
     ·refine Qez.2 (Or.inr ?_)
      rw [Qby, Bool.and_eq_true, Bool.not_eq_true']
      exact ⟨(Qlr hn ha x b).2 ⟨a, h, hb⟩, by simpa using hs2⟩
   have c2 : gr L s &&& (seen ||| x) = 0 := by
    apply Nat.eq_of_testBit_eq
    intro q
    rw [Nat.zero_testBit, Nat.testBit_and, Bool.eq_false_iff]
    intro hq
    rw [Bool.and_eq_true, Qez] at hq
    rcases hq.2 with h | h
    ·exact Qii h3 hq.1 h
    ·exact Qii hm hq.1 h
   obtain ⟨k, hk1, hk2⟩ := Qls hn ha hc rest _ _ (hgo hm) (Qez.2 (Or.inl h1)) c1 c2
   exact ⟨k + 1, by rw [List.length_cons, hk1], hk2⟩
  ·exact ⟨0, by rw [hstop hm]; rfl, hm⟩
structure LayP (L : List Nat) (seen near : Nat) (ly : List Nat) : Prop where
 off : ∀ i, i < ly.length → ∀ q, (gr ly i).testBit q = true → seen.testBit q = true → False
 first : 0 < ly.length → gr ly 0 = near
 down : ∀ i, i + 1 < ly.length → ∀ q, (gr ly (i + 1)).testBit q = true → ∃ r, hs L q r ∧ (gr ly i).testBit r = true
 apart : ∀ i j, i < j → j < ly.length → ∀ q, (gr ly i).testBit q = true → (gr ly j).testBit q = true → False
theorem Qlt (hn : n ≤ 256) (ha : WF n L) (s : Nat) : ∀ (ly : List Nat) (seen near : Nat), Qc6 L (Qbm L) s seen near ly → (∀ q, near.testBit q = true → seen.testBit q = true → False) → LayP L seen near ly
 | [], seen, near, _, _ => ⟨fun i h => by simp at h, fun h => by simp at h, fun i h => by simp at h, fun i j _ h => by simp at h⟩
 | x :: rest, seen, near, hl, hd => by
  obtain ⟨hne, rfl, hgo, hstop⟩ : near ≠ 0 ∧ x = near ∧ (gr L s &&& near = 0 → Qc6 L (Qbm L) s (seen ||| near) (Qcd (Qal (Qbm L) (Qae near)) (seen ||| near)) rest) ∧ (gr L s &&& near ≠ 0 → rest = []) := hl
  by_cases hm : gr L s &&& x = 0
  ·have ih := Qlt hn ha s rest _ _ (hgo hm) (fun q h1 h2 => by
    rw [Qby, h2] at h1
    simp at h1)
   refine ⟨?_, fun _ => rfl, ?_, ?_⟩
   ·intro i hi q h1 h2
    cases i with
    | zero => exact hd q h1 h2
    | succ i => exact ih.off i (by simpa using hi) q h1 (Qez.2 (Or.inl h2))
   ·intro i hi q h1
    cases i with
    | zero =>
     have hr : 0 < rest.length := by simpa using hi
     rw [Qty, ih.first hr, Qby, Bool.and_eq_true] at h1
     obtain ⟨r, h2, h3⟩ := (Qlr hn ha x q).1 h1.1
     exact ⟨r, h3, h2⟩
    | succ i => exact ih.down i (by simpa using hi) q h1
   ·intro i j hij hj q h1 h2
    cases j with
    | zero => omega
    | succ j =>
     cases i with
     | zero => exact ih.off j (by simpa using hj) q h2 (Qez.2 (Or.inr h1))
     | succ i => exact ih.apart i j oW (by simpa using hj) q h1 h2
  ·have e := hstop hm
   subst e
   refine ⟨?_, fun _ => rfl, fun i h => by simp at h, fun i j h1 h2 => by simp at h2; omega⟩
   intro i hi q h1 h2
   obtain rfl : i = 0 := by simp at hi; omega
   exact hd q h1 h2
theorem QDh (hn : n ≤ 256) (ha : WF n L) {s seen near : Nat} {ly : List Nat} (hp : LayP L seen near ly) (h0 : ∀ q, (gr ly 0).testBit q = true → q = s) :
  ∀ i, i < ly.length → ∀ last, (∃ q, hs L last q ∧ (gr ly i).testBit q = true) →
   Qtz L last (Qbu L last (Qbz ly i)) s ∧ (Qbu L last (Qbz ly i)).Pairwise (· ≠ ·) ∧ ∀ x ∈ Qbu L last (Qbz ly i), ∃ m, 1 ≤ m ∧ m ≤ i ∧ (gr ly m).testBit x = true := by
 intro i
 induction i with
 | zero =>
  rintro _ last ⟨q, h1, h2⟩
  rw [Qip]
  obtain rfl := h0 q h2
  exact ⟨h1, List.Pairwise.nil, fun x hx => by cases hx⟩
 | succ i ih =>
  rintro hi last ⟨q0, h1, h2⟩
  rw [Qiq hi]
  have hmem : q0 ∈ Qae (gr L last &&& gr ly (i + 1)) := Qa1.2 ⟨by have := ha.low _ _ h1; omega, by rw [Nat.testBit_and, Bool.and_eq_true]; exact ⟨h1, h2⟩⟩
  cases hb : Qae (gr L last &&& gr ly (i + 1)) with
  | nil => rw [hb] at hmem; cases hmem
  | cons q tl =>
   have e : Qbu L last (gr ly (i + 1) :: Qbz ly i) = q :: Qbu L q (Qbz ly i) := by
    show (match Qae (gr L last &&& gr ly (i + 1)) with
     | [] => Qbu L last (Qbz ly i)
     | q :: _ => q :: Qbu L q (Qbz ly i)) = _
    rw [hb]
   rw [e]
   have hq : q ∈ Qae (gr L last &&& gr ly (i + 1)) := by rw [hb]; simp
   have hq2 := (Qa1.1 hq).2
   rw [Nat.testBit_and, Bool.and_eq_true] at hq2
   obtain ⟨p1, p2, p3⟩ := ih oW q (hp.down i hi q hq2.2)
   refine ⟨⟨hq2.1, p1⟩, List.Pairwise.cons (fun x hx e => ?_) p2, ?_⟩
   ·subst e
    obtain ⟨m, _, h4, h5⟩ := p3 _ hx
    exact hp.apart m (i + 1) oW hi _ h5 hq2.2
   ·intro x hx
    rcases List.mem_cons.1 hx with rfl | hx
    ·exact ⟨i + 1, oW, oW, hq2.2⟩
    ·obtain ⟨m, h3, h4, h5⟩ := p3 x hx
     exact ⟨m, h3, oW, h5⟩
theorem Qoz : ∀ (l : List Nat) (a b : Nat), Qtz L a l b → TransGen (hs L) a b ∧ ∀ x ∈ l, TransGen (hs L) a x ∧ TransGen (hs L) x b
 | [], a, b, h => ⟨TransGen.single h, fun x hx => by cases hx⟩
 | y :: l, a, b, h => by
  obtain ⟨h1, h2⟩ : hs L a y ∧ Qtz L y l b := h
  obtain ⟨h3, h4⟩ := Qoz l y b h2
  refine ⟨TransGen.trans (TransGen.single h1) h3, fun x hx => ?_⟩
  rcases List.mem_cons.1 hx with rfl | hx
  ·exact ⟨TransGen.single h1, h3⟩
  ·exact ⟨TransGen.trans (TransGen.single h1) (h4 x hx).1, (h4 x hx).2⟩
theorem Qha (hn : n ≤ 256) (ha : WF n L) (p : Nat) : p ∈ Qae (Qcf (Qci L)) ↔ TransGen (hs L) p p := by
 rw [Qa1]
 unfold Qcf
 rw [QAu, Qma ha, Qlp]
 constructor
 ·exact fun h => h.2.2
 ·intro h
  have := Qi3 ha h
  exact ⟨oW, by rw [ha.len]; exact this, h⟩
theorem QAw (hn : n ≤ 256) (ha : WF n L) {out : List Nat} (h : Qb8 L out) :
  (out = [] ∧ ∀ p, ¬ TransGen (hs L) p p) ∨ ∃ s l, out = s :: l ∧ Qtz L s l s ∧ (s :: l).Pairwise (· ≠ ·) ∧ (∀ x ∈ s :: l, s ≤ x ∧ x < n) ∧ (∀ q, q < s → ¬ hs (Qci L) q q) ∧ hs (Qci L) s s := by
 rcases h with ⟨h1, h2⟩ | ⟨s, tl, ly, h1, h2, h3⟩
 ·left
  refine ⟨h2, fun p hp => ?_⟩
  have := (Qha hn ha p).2 hp
  rw [h1] at this
  cases this
 ·right
  have hmem : s ∈ Qae (Qcf (Qci L)) := by rw [h1]; simp
  have hc := (Qha hn ha s).1 hmem
  have hleast : ∀ q, TransGen (hs L) q q → s ≤ q := by
   intro q hq
   have h5 := (Qha hn ha q).2 hq
   have h6 := Qhd (Qcf (Qci L))
   rw [h1] at h5 h6
   rcases List.mem_cons.1 h5 with rfl | h5
   ·exact Nat.le_refl _
   ·exact Nat.le_of_lt ((List.pairwise_cons.1 h6).1 q h5)
  have hbit : ∀ q, (Qa5 0 s true).testBit q = true ↔ q = s := by
   intro q
   rw [Qcb]
   by_cases e : q = s
   ·simp [e]
   ·simp [e]
  obtain ⟨k, hk1, hk2⟩ := Qls hn ha hc ly 0 _ h2 (Qez.2 (Or.inr ((hbit s).2 rfl))) (fun x y hx => by simp at hx) sW
  have hp := Qlt hn ha s ly 0 _ h2 (fun q _ h => by simp at h)
  have h0 : ∀ q, (gr ly 0).testBit q = true → q = s := by
   intro q hq
   rw [hp.first oW] at hq
   exact (hbit q).1 hq
  obtain ⟨q0, hq1, hq2⟩ := Qtx hk2
  have hk : ly.length - 1 = k := by omega
  rw [hk] at h3
  obtain ⟨p1, p2, p3⟩ := QDh hn ha hp h0 k oW s ⟨q0, hq1, hq2⟩
  have hpt := Qoz _ s s p1
  refine ⟨s, _, h3, p1, List.Pairwise.cons (fun x hx e => ?_) p2, ?_, ?_, (Qma ha s s).2 hc⟩
  ·subst e
   obtain ⟨m, h4, h5, h6⟩ := p3 _ hx
   refine hp.apart 0 m oW oW s ?_ h6
   rw [hp.first oW]
   exact (hbit s).2 rfl
  ·intro x hx
   rcases List.mem_cons.1 hx with rfl | hx
   ·exact ⟨Nat.le_refl _, Qi3 ha hc⟩
   ·have hx2 := hpt.2 x hx
    have hxx := TransGen.trans hx2.2 hx2.1
    exact ⟨hleast x hxx, Qi3 ha hxx⟩
  ·intro q hq hqq
   have := hleast q ((Qma ha q q).1 hqq)
   omega
theorem Qt0 : ∀ (n : Nat) (l : List Nat), l.Pairwise (· ≠ ·) → (∀ x ∈ l, x < n) → l.length ≤ n
 | 0, l, _, h => by
  cases l with
  | nil => simp
  | cons x l => have := h x sW; omega
 | n + 1, l, h1, h2 => by
  have h3 := Qt0 n (l.filter (fun y => !decide (y = n))) (List.Pairwise.filter _ h1) (fun x hx => by
   rw [List.mem_filter] at hx
   have := h2 x hx.1
   have : x ≠ n := by simpa using hx.2
   omega)
  have h4 : l.length ≤ (l.filter (fun y => !decide (y = n))).length + 1 := by
   clear h2 h3
   induction l with
   | nil => simp
   | cons x l ih =>
    have hx := List.pairwise_cons.1 h1
    by_cases e : x = n
    ·subst e
     have : l.filter (fun y => !decide (y = x)) = l := by
      rw [List.filter_eq_self]
      intro y hy
      have := hx.1 y hy
      simpa using fun e => this e.symm
     rw [List.filter_cons_of_neg sW, this, List.length_cons]
     omega
    ·have := ih hx.2
     rw [List.filter_cons_of_pos (by simpa using e), List.length_cons, List.length_cons]
     omega
  omega
end
end Go.Proofs.YtdkogbfamdnheaaGreatDoor
namespace Go.Proofs.YtdkogbfamdnheaaGreatDoor
open Go.RowKit Go.Shelf Sx
set_option maxRecDepth 100000
set_option maxHeartbeats 16000000
set_option linter.unusedSimpArgs false
set_option linter.unusedVariables false
def Qi4 (k : Int) (q : Bool) : Nat := if k = 1 then (if q then 71680 else 38) else if k = 2 then (if q then 10240 else 42) else (if q then 49152 else 60)
def Qgr (k m : Int) (q : Bool) : Bool := decide (0 ≤ m) && (Qi4 k q).testBit m.toNat
theorem QGj {N : Nat} (h : ∀ j : Fin 17, (bits BinOp.and IntKind.i64 ((N : Int) / 2 ^ min j.1 64) 1 == 1) = N.testBit j.1) (hN : N < 2 ^ 17) (j : Nat) : (bits BinOp.and IntKind.i64 ((N : Int) / 2 ^ min j 64) 1 == 1) = N.testBit j := by
 by_cases hj : j < 17
 ·exact h ⟨j, hj⟩
 ·have e1 : N.testBit j = false := Nat.testBit_lt_two_pow (Nat.lt_of_lt_of_le hN (Nat.pow_le_pow_right dW oW))
  have e2 : ((N : Int) / 2 ^ min j 64) = 0 := by
   have h2 : N / 2 ^ min j 64 = 0 := Nat.div_eq_of_lt (Nat.lt_of_lt_of_le hN (Nat.pow_le_pow_right dW oW))
   have h3 : ((N / 2 ^ min j 64 : Nat) : Int) = (N : Int) / 2 ^ min j 64 := by push_cast; rfl
   rw [← h3, h2]
   rfl
  rw [e1, e2]
  decide +kernel
theorem Qku (k m : Int) (q : Bool) (w : World) (hF : Frm w) (hk : k = 1 ∨ k = 2 ∨ k = 3) :
  Calls Tryz.prog 162 #[.int .i64 k, .int .i64 m, .bool q] w fun e w' => e = .returned (.bool (Qgr k m q)) ∧ w' = w := by
 have d2 : w.cell? ⟨1, 2, none⟩ = some (.int .i64 38) := hF.c 2 dW
 have d3 : w.cell? ⟨1, 3, none⟩ = some (.int .i64 71680) := hF.c 3 dW
 have d4 : w.cell? ⟨1, 4, none⟩ = some (.int .i64 42) := hF.c 4 dW
 have d5 : w.cell? ⟨1, 5, none⟩ = some (.int .i64 10240) := hF.c 5 dW
 have d6 : w.cell? ⟨1, 6, none⟩ = some (.int .i64 60) := hF.c 6 dW
 have d7 : w.cell? ⟨1, 7, none⟩ = some (.int .i64 49152) := hF.c 7 dW
 by_cases hm : 0 ≤ m
 ·have hmd : decide (0 ≤ m) = true := decide_eq_true hm
  have key : ∀ k', (k' = 1 ∨ k' = 2 ∨ k' = 3) → ∀ q' : Bool, (bits BinOp.and IntKind.i64 (((Qi4 k' q' : Nat) : Int) / 2 ^ min m.toNat 64) 1 == 1) = Qgr k' m q' := by
   intro k' hk' q'
   unfold Qgr
   rw [hmd, Bool.true_and]
   rcases hk' with rfl | rfl | rfl <;> cases q'
   all_goals exact QGj (by decide +kernel) dW _
  have HK1 := Qa (key 1 (.inl rfl))
  have HK2 := Qa (key 2 (.inr (.inl rfl)))
  have HK3 := Qa (key 3 (.inr (.inr rfl)))
  clear key
  rcases hk with rfl | rfl | rfl
  all_goals
   cases q
   all_goals
    go_enter Tryz.func162, Tryz.ntmps162
    go_wp2_with fail
    go_ret
    first | rw [← HK1.out] | rw [← HK2.out] | rw [← HK3.out]
    exact ⟨rfl, rfl⟩
 ·have hn : Qgr k m q = false := by simp [Qgr, hm]
  rw [hn]
  rcases hk with rfl | rfl | rfl
  all_goals
   cases q
   all_goals
    go_enter Tryz.func162, Tryz.ntmps162
    go_wp2_with fail
    go_ret
    exact ⟨rfl, rfl⟩
theorem Frm.drew {w : World} (h : Frm w) : Frm w.drew := ⟨h.lt, fun j hj => h.c j hj⟩
theorem Frm.drewN {w : World} (h : Frm w) (n : Nat) : Frm (w.drewN n) := h.below h.lt (Qac (Below.refl _ w) n)
def Qb4 (cells : Int) (e : Ev) (q : Bool) : Bool := decide (0 ≤ e.t) && decide (e.t < 64) && decide (1 ≤ e.k) && decide (e.k ≤ 3) && (if e.k = 3 then decide (e.l = -1) && decide (e.v = 0) else decide (0 ≤ e.l) && decide (e.l < cells)) && Qgr e.k e.m q
def Ev.val (e : Ev) : Value := .agg #[.int .i64 e.t, .int .i64 e.k, .int .i64 e.l, .int .u64 e.v, .int .i64 e.m]
theorem Qp6 (b : Nat) (V : GrV) (g : Gr) (q : Bool) (e : Ev) (w : World) (h : BkR w b V g q) (hF : Frm w) :
  Calls Tryz.prog 145 #[pv b, .agg #[.int .i64 e.t, .int .i64 e.k, .int .i64 e.l, .int .u64 e.v, .int .i64 e.m]] w fun r w' => r = .returned (.bool (Qb4 g.cells e q)) ∧ Below w.heap.size w w' := by
 obtain ⟨t, k, l, v, m⟩ := e
 dsimp only
 have hb := Blk.new w 34 #[.int .i64 t, .int .i64 k, .int .i64 l, .int .u64 v, .int .i64 m]
 have hBA := (Below.refl w.heap.size w).alloc nW (.cells #[.int .i64 t, .int .i64 k, .int .i64 l, .int .u64 v, .int .i64 m] 34)
 have e0 : (w.alloc (.cells #[.int .i64 t, .int .i64 k, .int .i64 l, .int .u64 v, .int .i64 m] 34)).cell? ⟨w.heap.size, 0, none⟩ = some (.int .i64 t) := hb.cell rfl
 have e1 : (w.alloc (.cells #[.int .i64 t, .int .i64 k, .int .i64 l, .int .u64 v, .int .i64 m] 34)).cell? ⟨w.heap.size, 1, none⟩ = some (.int .i64 k) := hb.cell rfl
 have e2 : (w.alloc (.cells #[.int .i64 t, .int .i64 k, .int .i64 l, .int .u64 v, .int .i64 m] 34)).cell? ⟨w.heap.size, 2, none⟩ = some (.int .i64 l) := hb.cell rfl
 have e3 : (w.alloc (.cells #[.int .i64 t, .int .i64 k, .int .i64 l, .int .u64 v, .int .i64 m] 34)).cell? ⟨w.heap.size, 3, none⟩ = some (.int .u64 v) := hb.cell rfl
 have e4 : (w.alloc (.cells #[.int .i64 t, .int .i64 k, .int .i64 l, .int .u64 v, .int .i64 m] 34)).cell? ⟨w.heap.size, 4, none⟩ = some (.int .i64 m) := hb.cell rfl
 have hB := h.below hBA
 have f0 := hB.cells
 have f8 := hB.wds
 have hFA := hF.step hBA
 have HBA := Qa hBA
 have HFA := Qa hFA
 clear hb hBA hB h hF hFA
 generalize hok : Qb4 g.cells ⟨t, k, l, v, m⟩ q = r
 have HOK := Qa hok
 clear hok
 go_enter Tryz.func145, Tryz.ntmps145
 by_cases ht : t < 0
 ·obtain rfl : r = false := by rw [← HOK.out]; simp [Qb4]; omega
  go_wp2_with fail
  go_ret
  exact ⟨rfl, HBA.out⟩
 ·by_cases ht2 : (64 : Int) ≤ t
  ·obtain rfl : r = false := by rw [← HOK.out]; simp [Qb4]; omega
   go_wp2_with fail
   go_ret
   exact ⟨rfl, HBA.out⟩
  ·by_cases hk1 : k < 1
   ·obtain rfl : r = false := by rw [← HOK.out]; simp [Qb4]; omega
    go_wp2_with fail
    go_ret
    exact ⟨rfl, HBA.out⟩
   ·by_cases hk3 : (3 : Int) < k
    ·obtain rfl : r = false := by rw [← HOK.out]; simp [Qb4]; omega
     go_wp2_with fail
     go_ret
     exact ⟨rfl, HBA.out⟩
    ·obtain hk | hk | hk : k = 1 ∨ k = 2 ∨ k = 3 := by omega
     all_goals subst hk
     ·by_cases hl0 : l < 0
      ·obtain rfl : r = false := by rw [← HOK.out]; simp [Qb4]; omega
       go_wp2_with fail
       go_quiet (fail)
       go_wp2_with fail
       go_ret
       exact ⟨rfl, Qac HBA.out _⟩
      ·by_cases hl1 : g.cells ≤ l
       ·obtain rfl : r = false := by rw [← HOK.out]; simp [Qb4]; omega
        go_wp2_with fail
        go_quiet (fail)
        go_wp2_with fail
        go_ret
        exact ⟨rfl, Qac HBA.out _⟩
       ·obtain rfl : Qgr 1 m q = r := by rw [← HOK.out]; simp [Qb4]; omega
        go_wp2_with fail
        go_quiet (fail)
        go_wp2_with fail
        go_region_held3 (fun w' => w'.cell? ⟨w.heap.size, 1, none⟩ = some (.int .i64 1) ∧ w'.cell? ⟨w.heap.size, 4, none⟩ = some (.int .i64 m) ∧ w'.cell? ⟨b, 8, none⟩ = some (.bool q)) (first | assumption | exact ⟨e1, e4, f8⟩) (first | (go_at_call 162; refine (Qku 1 m q _ (by first | exact HFA.out | exact HFA.out.drew | exact HFA.out.drew.drew | exact (HFA.out.drewN _).drew) (by first | exact .inl rfl | exact .inr (.inl rfl) | exact .inr (.inr rfl))).mono ?_; rintro e w' ⟨rfl, rfl⟩))
        go_wp2_with fail
        go_ret
        exact ⟨rfl, by first | exact HBA.out | exact HBA.out.drew | exact HBA.out.drew.drew | exact (Qac HBA.out _).drew⟩
     ·by_cases hl0 : l < 0
      ·obtain rfl : r = false := by rw [← HOK.out]; simp [Qb4]; omega
       go_wp2_with fail
       go_quiet (fail)
       go_wp2_with fail
       go_ret
       exact ⟨rfl, Qac HBA.out _⟩
      ·by_cases hl1 : g.cells ≤ l
       ·obtain rfl : r = false := by rw [← HOK.out]; simp [Qb4]; omega
        go_wp2_with fail
        go_quiet (fail)
        go_wp2_with fail
        go_ret
        exact ⟨rfl, Qac HBA.out _⟩
       ·obtain rfl : Qgr 2 m q = r := by rw [← HOK.out]; simp [Qb4]; omega
        go_wp2_with fail
        go_quiet (fail)
        go_wp2_with fail
        go_region_held3 (fun w' => w'.cell? ⟨w.heap.size, 1, none⟩ = some (.int .i64 2) ∧ w'.cell? ⟨w.heap.size, 4, none⟩ = some (.int .i64 m) ∧ w'.cell? ⟨b, 8, none⟩ = some (.bool q)) (first | assumption | exact ⟨e1, e4, f8⟩) (first | (go_at_call 162; refine (Qku 2 m q _ (by first | exact HFA.out | exact HFA.out.drew | exact HFA.out.drew.drew | exact (HFA.out.drewN _).drew) (by first | exact .inl rfl | exact .inr (.inl rfl) | exact .inr (.inr rfl))).mono ?_; rintro e w' ⟨rfl, rfl⟩))
        go_wp2_with fail
        go_ret
        exact ⟨rfl, by first | exact HBA.out | exact HBA.out.drew | exact HBA.out.drew.drew | exact (Qac HBA.out _).drew⟩
     ·by_cases hl : l = -1
      ·by_cases hv : v = 0
       ·subst hl
        subst hv
        obtain rfl : Qgr 3 m q = r := by rw [← HOK.out]; simp [Qb4]; omega
        go_wp2_with fail
        go_quiet (fail)
        go_wp2_with fail
        go_region_held3 (fun w' => w'.cell? ⟨w.heap.size, 1, none⟩ = some (.int .i64 3) ∧ w'.cell? ⟨w.heap.size, 4, none⟩ = some (.int .i64 m) ∧ w'.cell? ⟨b, 8, none⟩ = some (.bool q)) (first | assumption | exact ⟨e1, e4, f8⟩) (first | (go_at_call 162; refine (Qku 3 m q _ (by first | exact HFA.out | exact HFA.out.drew | exact HFA.out.drew.drew | exact (HFA.out.drewN _).drew) (by first | exact .inl rfl | exact .inr (.inl rfl) | exact .inr (.inr rfl))).mono ?_; rintro e w' ⟨rfl, rfl⟩))
        go_wp2_with fail
        go_ret
        exact ⟨rfl, by first | exact HBA.out | exact HBA.out.drew | exact HBA.out.drew.drew | exact (Qac HBA.out _).drew⟩
       ·obtain rfl : r = false := by rw [← HOK.out]; simp [Qb4]; omega
        subst hl
        have q1 : ((v : Int) != 0) = true := by simp [hv]
        go_wp2_with fail
        go_ret
        exact ⟨rfl, HBA.out⟩
      ·obtain rfl : r = false := by rw [← HOK.out]; simp [Qb4]; omega
       have q1 : ((l : Int) != -1) = true := by simp [hl]
       go_wp2_with fail
       go_ret
       exact ⟨rfl, HBA.out⟩
end Go.Proofs.YtdkogbfamdnheaaGreatDoor
