import Derived.Test.YtdkogbfamdnheaaGreatDoorJ09
import Derived.Deep.OwnRows
namespace Go.Proofs.YtdkogbfamdnheaaGreatDoor
open Go.RowKit Go.Shelf Sx
set_option maxRecDepth 100000
set_option maxHeartbeats 16000000
set_option linter.unusedSimpArgs false
set_option linter.unusedVariables false
attribute [local go_sem] Oper.semAt_some
def Qc9 (A : List Nat) (l : List Nat) : List Nat := l.foldl (fun (A : List Nat) (q : Nat) => Qbc A (q : Int) (q : Int) true) A
theorem Qqt (A : List Nat) (l : List Nat) (q : Nat) : Qc9 A (l ++ [q]) = Qbc (Qc9 A l) q q true := by simp [Qc9]
def Qa8 (n : Int) (l : List Bool) : List Nat := Qc9 (List.replicate (Qbi n) 0) (Qad (Qca (Qbi n) l))
theorem Qyr (n : Int) (v : Value) (l : List Bool) (w : World) (hS : SetAt w v l) (hT : Tab w) (m : Nat) (Hm : Hid (Qbi n = m)) :
  CallsIn Fence.wide 6 Tryz.prog 159 #[.int .i64 n, v] w fun e w' => ∃ b c, e = .returned (pv b) ∧ Made w w' b c (Qc9 (List.replicate m 0) (Qad (Qca m l))) := by
 have hm : m ≤ 256 := by rw [← Hm.out]; unfold Qbi; omega
 refine callsIn_of_wp_marks Tryz.func159 rfl trivial ?_ rfl
 simp only [Tryz.ntmps159, List.size_toArray, List.length_cons, List.length_nil, Nat.reduceAdd, Nat.reduceSub, Array.replicate_succ, Array.replicate_zero, List.push_toArray, List.append_toArray, List.nil_append, List.cons_append]
 gi_wp2_with fail
 refine ⟨trivial, ?_⟩
 refine (callsIn_wide.2 (Qfw n _)).mono ?_
 rw [Hm.out]
 rintro e w1 ⟨b, c, rfl, g1, g2, g3, g4⟩
 have hM : Made w w1 b c (List.replicate m 0) := ⟨g1, g2, g3, g4⟩
 clear g1 g2 g3 g4
 gi_wp2_with fail
 refine ⟨trivial, ?_⟩
 refine (callsIn_wide.2 (Qfq b c _ _ (hM.alloc _).rel)).mono ?_
 rw [List.length_replicate]
 rintro e w' ⟨rfl, rfl⟩
 gi_wp2_with fail
 refine ⟨trivial, ?_⟩
 refine (callsIn_wide.2 (Qkp m hm v l _ (hS.below (hM.alloc _).below))).mono ?_
 rintro e w2 ⟨rfl, hB2⟩
 have hM2 := (hM.alloc (.cells #[pv b] 42)).step hB2
 have hbx : Blk w2 w1.heap.size 42 #[pv b] := (Blk.new w1 _ _).of_below hB2
 have hcw1 := hM.rel.rows.lt
 generalize hMM : Qca m l = M at *
 have HMM : Hid (Qca m l = M) := hMM
 clear hMM
 clear hB2 hM
 have hT2 := hT.step hM2.below
 have hs1 := hbx.lt
 have hs2 := hM2.rel.head.lt
 have hs3 := hM2.rel.rows.lt
 have hsw := hM2.below.size
 have hcp : 0 < c := Nat.lt_of_lt_of_le hT.pos hM2.hc
 gi_wp2_with (refine ⟨trivial, ?_⟩; gi_at_call 72; refine (Qdz Fence.wide _ trivial rfl M _).mono ?_; rintro e w' ⟨rfl, rfl⟩)
 refine wpIn_rangeFunc_ownF rfl oW (gf := 114) (lb := #[.pointer (some ⟨w2.heap.size, 0, none⟩)]) rfl trivial (enters_of Tryz.func114 kW rfl)
  (Qcj M w2.heap.size (6 - 1) oW _ ?hB ?hT) belowK_t (belowK_b sW) bW (fun _ => rfl)
  (fun pre W => w2.heap.size + 1 ≤ W.heap.size ∧ Blk W w1.heap.size 42 #[pv b] ∧ Made w W b c (Qc9 (List.replicate m 0) (Qbg pre)) ∧ Tab W)
  (fun _ _ _ => False) ?hI (fun _ => Qdn) ?h0
  (fun x => { tmps := #[.int .i64 n, v, undef, undef, .pointer none, pv w1.heap.size, .int .i64 (x.1 : Int), .int .i64 n, pv b, pv b, .int .i64 m, v, rv M, .func (.func 114) #[] #[.pointer (some ⟨w2.heap.size, 0, none⟩)], .int .i64 (x.1 : Int), undef, undef, undef, undef, undef], defers := [] }) ?assign ?body ?done ?stop
 case hB => exact Blk.new _ _ _
 case hT => exact hT2.alloc _
 case hI =>
  refine Qfp (fun s W hi => by simpa using hi.1) ?_
  rintro s W W' ⟨h1, h2, h4, h5⟩ hb'
  have hb' : Below (w2.heap.size + 1) W W' := by simpa using hb'
  exact ⟨Nat.le_trans h1 hb'.size, h2.below hb' oW, ⟨h4.rel.below' hb' oW oW, h4.hb, h4.hc, h4.below.trans (hb'.mono oW)⟩, h5.below hb' oW⟩
 case h0 => exact ⟨by simp, hbx.alloc _, hM2.alloc _, hT2.alloc _⟩
 case assign =>
  intro l x W K hK
  gi_wp2
  exact hK
 case body =>
  rintro l pre x W ⟨h1, h2, h4, h5⟩ _
  have k0 : W.cell? ⟨w1.heap.size, 0, none⟩ = some (pv b) := h2.cell rfl
  gi_wp2_with (refine ⟨trivial, ?_⟩; gi_at_call 22; refine (CallsIn.inRound l (callsIn_wide.2 (Qd6 b c _ (x.1 : Nat) (x.1 : Nat) true _ h4.rel))).mono ?_; rintro e w3 ⟨rfl, hI2, ht2⟩)
  refine ⟨Qfb ht2 h4.rel.rows, ht2.below hcp oW, Nat.le_trans h1 ht2.size, h2.touch ht2 oW, ?_, h5.touch ht2 hcp⟩
  rw [Qdy, Qqt]
  exact h4.touch hI2 ht2
 case done =>
  rintro D ys W hDD hys ⟨h1, h2, h4, h5⟩ hK
  have k0 : W.cell? ⟨w1.heap.size, 0, none⟩ = some (pv b) := h2.cell rfl
  rw [hys, ← HMM.out] at h4
  gi_wp2
  have hmk : Marks w.heap.size W [D] := (Marks.nil _ _).cons hK (by simp at hDD; omega) (fun E hE => by cases hE)
  exact Qds hmk ⟨_, results_tmp rfl _ _ _, b, c, rfl, Qnx hmk h4⟩
 case stop =>
  rintro D c pre W _ _ h _
  exact h.elim
theorem Qry (n : Int) (v : Value) (l : List Bool) (w : World) (hS : SetAt w v l) (hT : Tab w) :
  Calls Tryz.prog 159 #[.int .i64 n, v] w fun e w' => ∃ b c, e = .returned (pv b) ∧ Made w w' b c (Qa8 n l) := callsIn_wide.1 (Qyr n v l w hS hT _ rfl)
end Go.Proofs.YtdkogbfamdnheaaGreatDoor
