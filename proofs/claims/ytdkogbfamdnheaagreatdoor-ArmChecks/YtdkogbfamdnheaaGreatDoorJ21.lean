import Derived.Test.YtdkogbfamdnheaaGreatDoorIdentWalk
import Derived.Test.YtdkogbfamdnheaaGreatDoorJ16
namespace Go.Proofs.YtdkogbfamdnheaaGreatDoor
open Go.RowKit Go.Shelf Sx Relation
set_option maxRecDepth 100000
set_option maxHeartbeats 16000000
set_option linter.unusedSimpArgs false
set_option linter.unusedVariables false
theorem QE (n : Nat) (l : List Bool) (p : Nat) : (Qc4 n l).testBit p = true ↔ p < n ∧ l.getD p false = true := by
 unfold Qc4
 rw [Qp, Bool.and_eq_true, decide_eq_true_eq]
 constructor
 ·exact fun h => ⟨oW, h.2⟩
 ·rintro ⟨h1, h2⟩
  refine ⟨?_, h2⟩
  have : p < l.length := by
   apply Nat.lt_of_not_le
   intro hle
   rw [List.getD_eq_getElem?_getD, List.getElem?_eq_none hle] at h2
   cases h2
  omega
theorem Qf1 {n : Nat} (hn : n ≤ 256) (l : List Bool) (p : Nat) : p ∈ Qae (Qc4 n l) ↔ p < n ∧ l.getD p false = true := by
 rw [Qa1, QE]
 exact ⟨fun h => h.2, fun h => ⟨oW, h⟩⟩
theorem Qgs : ∀ (l : List Nat) (X : List Nat), (Qd0 X l).length = X.length
 | [], _ => rfl
 | q :: l, X => by
  show (Qd0 (Qb0 X q q true) l).length = _
  rw [Qgs l, Qih]
theorem Qhk : ∀ (l : List Nat) (X : List Nat), (∀ q ∈ l, q < X.length) → ∀ a b, hs (Qd0 X l) a b ↔ hs X a b ∨ (a = b ∧ a ∈ l)
 | [], X, _, a, b => by simp [Qd0]
 | q :: l, X, hq, a, b => by
  show hs (Qd0 (Qb0 X q q true) l) a b ↔ _
  rw [Qhk l _ (fun r hr => by rw [Qih]; exact hq r (List.mem_cons_of_mem _ hr)), QAr (hq q sW) (hq q sW)]
  constructor
  ·rintro ((h | ⟨rfl, rfl⟩) | ⟨rfl, h⟩)
   ·exact Or.inl h
   ·exact Or.inr ⟨rfl, by simp⟩
   ·exact Or.inr ⟨rfl, List.mem_cons_of_mem _ h⟩
  ·rintro (h | ⟨rfl, h⟩)
   ·exact Or.inl (Or.inl h)
   ·rcases List.mem_cons.1 h with rfl | h
    ·exact Or.inl (Or.inr ⟨rfl, rfl⟩)
    ·exact Or.inr ⟨rfl, h⟩
end Go.Proofs.YtdkogbfamdnheaaGreatDoor
namespace Go.Proofs.YtdkogbfamdnheaaGreatDoor
open Go.RowKit Go.Shelf Sx
set_option maxRecDepth 100000
set_option maxHeartbeats 16000000
set_option linter.unusedSimpArgs false
set_option linter.unusedVariables false
attribute [local go_sem] Oper.semAt_some
def Qe1 (A : List Bool) (l : List Nat) : List Bool := l.foldl (fun (A : List Bool) (q : Nat) => A.set q true) A
theorem Qwq (A : List Bool) (l : List Nat) (q : Nat) : Qe1 A (l ++ [q]) = (Qe1 A l).set q true := by simp [Qe1]
theorem Qh1 (A : List Bool) (l : List Nat) : (Qe1 A l).length = A.length := by
 unfold Qe1
 induction l generalizing A with
 | nil => rfl
 | cons q l ih => rw [List.foldl_cons, ih, List.length_set]
def Qhb (L : List Nat) (l : List Bool) : List Bool := Qe1 (List.replicate L.length false) (Qae (Qal L (Qae (Qc4 L.length l))))
theorem QA8 (b c : Nat) (L : List Nat) (v : Value) (l : List Bool) (w : World) (h : IsRel w b c L) (hS : SetAt w v l) (hT : Tab w) :
  CallsIn Fence.wide 6 Tryz.prog 142 #[pv b, v] w fun e w' => ∃ v', e = .returned v' ∧ w'.ownsRow w.heap.size 4 1 v' (Qhb L l).length ((Qhb L l).map Value.bool) ∧ Below w.heap.size w w' := by
 have hl := h.len
 have hmk := Qkl L.length hl
 refine callsIn_of_wp_marks Tryz.func142 rfl trivial ?_ rfl
 simp only [Tryz.ntmps142, List.size_toArray, List.length_cons, List.length_nil, Nat.reduceAdd, Nat.reduceSub, Array.replicate_succ, Array.replicate_zero, List.push_toArray, List.append_toArray, List.nil_append, List.cons_append]
 gi_wp2_with fail
 refine ⟨trivial, ?_⟩
 refine (callsIn_wide.2 (Qgv b c L _ h)).mono ?_
 rintro e w' ⟨rfl, rfl⟩
 gi_wp2_with fail
 refine ⟨trivial, ?_⟩
 have hA : Below w.heap.size w ((w.alloc (.cells (Qap (List.replicate L.length false)) 4)).alloc (.cells #[.slice (some ⟨w.heap.size, 0, none⟩) L.length L.length] 65)) := ((Below.refl _ w).alloc nW _).alloc sW _
 refine (callsIn_wide.2 (Qgv b c L _ (h.below hA))).mono ?_
 rintro e w' ⟨rfl, rfl⟩
 gi_wp2_with fail
 refine ⟨trivial, ?_⟩
 refine (callsIn_wide.2 (Qmh L.length hl v l _ (hS.below hA))).mono ?_
 rintro e w2 ⟨rfl, hB2⟩
 have hw2 : Below w.heap.size w w2 := hA.trans (hB2.mono (by simp; omega))
 have hg2 : Blk w2 w.heap.size 4 (Qap (List.replicate L.length false)) := ((Blk.new w _ _).alloc _).of_below hB2
 have hbx2 : Blk w2 (w.heap.size + 1) 65 #[.slice (some ⟨w.heap.size, 0, none⟩) L.length L.length] := (Blk.new2 w _ _ _).of_below hB2
 clear hA hB2 hmk
 gi_wp2_with fail
 refine ⟨trivial, ?_⟩
 refine (callsIn_wide.2 (Qj7 b c L (Qc4 L.length l) _ (h.below hw2) (hT.step hw2))).mono ?_
 rintro e w3 ⟨rfl, hB3⟩
 have hw3 : Below w.heap.size w w3 := Qaa hw2 hw2.size hB3
 have hg3 := hg2.of_below hB3
 have hbx3 := hbx2.of_below hB3
 have hT3 := hT.step hw3
 have HL : Hid (∀ p, p ∈ Qae (Qal L (Qae (Qc4 L.length l))) → p < L.length) := by
  intro p hp
  have h1 := (Qa1.1 hp).2
  apply Nat.lt_of_not_le
  intro hle
  rw [Qc2 (Qi9 h.low _) hle] at h1
  cases h1
 have HI : Hid (Qhb L l = Qe1 (List.replicate L.length false) (Qae (Qal L (Qae (Qc4 L.length l))))) := rfl
 generalize Qc4 L.length l = M0 at *
 generalize Qal L (Qae M0) = M at *
 clear hg2 hbx2 hw2 hB3
 have hs1 := hbx3.lt
 have hs3 := hg3.lt
 have hsw := hw3.size
 have hpos := hT.pos
 gi_wp2_with (refine ⟨trivial, ?_⟩; gi_at_call 72; refine (Qep Fence.wide _ trivial rfl M _).mono ?_; rintro e w' ⟨rfl, rfl⟩)
 refine wpIn_rangeFunc_ownF rfl oW (gf := 114) (lb := #[.pointer (some ⟨w3.heap.size, 0, none⟩)]) rfl trivial (enters_of Tryz.func114 kW rfl)
  (Qdc M w3.heap.size (6 - 1) oW _ ?hB ?hT) belowK_t (belowK_b sW) bW (fun _ => rfl)
  (fun pre W => w3.heap.size + 1 ≤ W.heap.size ∧ Blk W w.heap.size 4 (Qap (Qe1 (List.replicate L.length false) (Qc pre))) ∧ Blk W (w.heap.size + 1) 65 #[.slice (some ⟨w.heap.size, 0, none⟩) L.length L.length] ∧ Tab W ∧ Below w.heap.size w W)
  (fun _ _ _ => False) ?hI (fun _ => Qe) ?h0
  (fun x => { tmps := #[pv b, v, undef, undef, .slice none 0 0, pv (w.heap.size + 1), .int .i64 (x.1 : Int), pv b, .int .i64 L.length, .slice (some ⟨w.heap.size, 0, none⟩) L.length L.length, pv b, pv b, .int .i64 L.length, v, rv M0, rv M, .func (.func 114) #[] #[.pointer (some ⟨w3.heap.size, 0, none⟩)], .int .i64 (x.1 : Int), undef, undef, undef, undef], defers := [] }) ?assign ?body ?done ?stop
 case hB => exact Blk.new _ _ _
 case hT => exact hT3.alloc _
 case hI =>
  refine Qgu (fun s W hi => by simpa using hi.1) ?_
  rintro s W W' ⟨h1, h2, h3, h4, h5⟩ hb'
  have hb' : Below (w3.heap.size + 1) W W' := by simpa using hb'
  exact ⟨Nat.le_trans h1 hb'.size, h2.below hb' oW, h3.below hb' oW, h4.below hb' oW, h5.trans (hb'.mono oW)⟩
 case h0 => exact ⟨by simp, hg3.alloc _, hbx3.alloc _, hT3.alloc _, hw3.alloc hsw _⟩
 case assign =>
  intro l x W K hK
  gi_wp2
  exact hK
 case body =>
  rintro l pre x W ⟨h1, h2, h3, h4, h5⟩ _
  have k0 : W.cell? ⟨w.heap.size + 1, 0, none⟩ = some (.slice (some ⟨w.heap.size, 0, none⟩) L.length L.length) := h3.cell rfl
  have hq := HL.out x.1 x.2
  have hlen : (Qe1 (List.replicate L.length false) (Qc pre)).length = L.length := by rw [Qh1, List.length_replicate]
  obtain ⟨y, hy⟩ : ∃ y, (Qe1 (List.replicate L.length false) (Qc pre))[x.1]? = some y := ⟨_, List.getElem?_eq_getElem (by rw [hlen]; exact hq)⟩
  have k1 : W.cell? ⟨w.heap.size, x.1, none⟩ = some (.bool y) := h2.cell (by simp [Qap, hy])
  have f1 := h2.frozen x.1
  clear hlen hy
  gi_wp2
  refine ⟨KeepsOthers.setCell _ _ _, bW.setCell (by simp; omega) _, Nat.le_trans h1 (by simp [World.setCell]), ?_, h3.setOther sW _, h4.set (by simpa using hpos) _, h5.setCell nW _⟩
  rw [Qeo, Qwq, ← Qkk]
  exact h2.set _ _
 case done =>
  rintro D ys W hDD hys ⟨h1, h2, h3, h4, h5⟩ hK
  have k0 : W.cell? ⟨w.heap.size + 1, 0, none⟩ = some (.slice (some ⟨w.heap.size, 0, none⟩) L.length L.length) := h3.cell rfl
  rw [hys, ← HI.out] at h2
  gi_wp2
  have hmk : Marks w.heap.size W [D] := (Marks.nil _ _).cons hK (by simp at hDD; omega) (fun E hE => by cases hE)
  have hlen : (Qhb L l).length = L.length := by rw [HI.out, Qh1, List.length_replicate]
  refine Qeg hmk ⟨_, results_tmp rfl _ _ _, _, rfl, ?_, h5.trans (Qf5 hmk)⟩
  refine Qiw hmk ⟨by simp, .inr ⟨w.heap.size, L.length, Qap (Qhb L l), by rw [hlen]; rfl, Nat.le_refl _, h2, oW, by unfold maxLen; omega, by simp [Qap, hlen], ?_⟩⟩
  simp only [Qap, Nat.mul_one, List.toList_toArray]
  exact List.take_of_length_le sW
 case stop =>
  rintro D c pre W _ _ h _
  exact h.elim
theorem Quf (b c : Nat) (L : List Nat) (v : Value) (l : List Bool) (w : World) (h : IsRel w b c L) (hS : SetAt w v l) (hT : Tab w) :
  Calls Tryz.prog 142 #[pv b, v] w fun e w' => ∃ v', e = .returned v' ∧ w'.ownsRow w.heap.size 4 1 v' (Qhb L l).length ((Qhb L l).map Value.bool) ∧ Below w.heap.size w w' := callsIn_wide.1 (QA8 b c L v l w h hS hT)
end Go.Proofs.YtdkogbfamdnheaaGreatDoor
