/- The contracts of package rel's Ident and Image. -/
import Derived.Test.YtmmadkghojoniaaGreatDoorJ09
import Derived.Deep.OwnRows
namespace Go.Proofs.YtmmadkghojoniaaGreatDoor
open Go.RowKit Go.Shelf Sx
attribute [local go_sem] Oper.semAt_some
def identIn (A : List Nat) (l : List Nat) : List Nat := l.foldl (fun (A : List Nat) (q : Nat) => putP A (q : Int) (q : Int) true) A
theorem identIn_snoc (A : List Nat) (l : List Nat) (q : Nat) : identIn A (l ++ [q]) = putP (identIn A l) q q true := by simp [identIn]
def identL (n : Int) (l : List Bool) : List Nat := identIn (List.replicate (clampN n) 0) (bitsOf (rowOfL (clampN n) l))
set_option maxRecDepth 100000 in
set_option maxHeartbeats 2000000 in
theorem Ident_in (n : Int) (v : Value) (l : List Bool) (w : World) (hS : SetAt w v l) (hT : Tab w) (m : Nat) (Hm : Hid (clampN n = m)) :
    CallsIn Fence.wide 6 Tryz.prog 159 #[.int .i64 n, v] w fun e w' => ∃ b c, e = .returned (pv b) ∧ Made w w' b c (identIn (List.replicate m 0) (bitsOf (rowOfL m l))) := by
  have hm : m ≤ 256 := by rw [← Hm.out]; unfold clampN; omega
  refine callsIn_of_wp_marks Tryz.func159 rfl trivial ?_ rfl
  simp only [Tryz.ntmps159, List.size_toArray, List.length_cons, List.length_nil, Nat.reduceAdd, Nat.reduceSub, Array.replicate_succ, Array.replicate_zero, List.push_toArray, List.append_toArray, List.nil_append, List.cons_append]
  gi_wp2_with fail
  refine ⟨trivial, ?_⟩
  refine (callsIn_wide.2 (New_calls n _)).mono ?_
  rw [Hm.out]
  rintro e w1 ⟨b, c, rfl, g1, g2, g3, g4⟩
  have hM : Made w w1 b c (List.replicate m 0) := ⟨g1, g2, g3, g4⟩
  clear g1 g2 g3 g4
  gi_wp2_with fail
  refine ⟨trivial, ?_⟩
  refine (callsIn_wide.2 (Len_c b c _ _ (hM.alloc _).rel)).mono ?_
  rw [List.length_replicate]
  rintro e w' ⟨rfl, rfl⟩
  gi_wp2_with fail
  refine ⟨trivial, ?_⟩
  refine (callsIn_wide.2 (rowOf_calls m hm v l _ (hS.below (hM.alloc _).below))).mono ?_
  rintro e w2 ⟨rfl, hB2⟩
  have hM2 := (hM.alloc (.cells #[pv b] 42)).step hB2
  have hbx : Blk w2 w1.heap.size 42 #[pv b] := (Blk.new w1 _ _).of_below hB2
  have hcw1 := hM.rel.rows.lt
  generalize hMM : rowOfL m l = M at *
  have HMM : Hid (rowOfL m l = M) := hMM
  clear hMM
  clear hB2 hM
  have hT2 := hT.step hM2.below
  have hs1 := hbx.lt
  have hs2 := hM2.rel.head.lt
  have hs3 := hM2.rel.rows.lt
  have hsw := hM2.below.size
  have hcp : 0 < c := Nat.lt_of_lt_of_le hT.pos hM2.hc
  gi_wp2_with (refine ⟨trivial, ?_⟩; gi_at_call 72; refine (points_in Fence.wide _ trivial rfl M _).mono ?_; rintro e w' ⟨rfl, rfl⟩)
  refine wpIn_rangeFunc_ownF rfl (by omega) (gf := 114) (lb := #[.pointer (some ⟨w2.heap.size, 0, none⟩)]) rfl trivial (enters_of Tryz.func114 (by kernel_rfl) rfl)
    (points_stops M w2.heap.size (6 - 1) (by omega) _ ?hB ?hT) belowK_t (belowK_b (by simp)) (Below.refl _ _) (fun _ => rfl)
    (fun pre W => w2.heap.size + 1 ≤ W.heap.size ∧ Blk W w1.heap.size 42 #[pv b] ∧ Made w W b c (identIn (List.replicate m 0) (vals pre)) ∧ Tab W)
    (fun _ _ _ => False) ?hI (fun _ => ownFrom_false) ?h0
    (fun x => { tmps := #[.int .i64 n, v, undef, undef, .pointer none, pv w1.heap.size, .int .i64 ((x.1 : Nat) : Int), .int .i64 n, pv b, pv b, .int .i64 m, v, rv M, .func (.func 114) #[] #[.pointer (some ⟨w2.heap.size, 0, none⟩)], .int .i64 ((x.1 : Nat) : Int), undef, undef, undef, undef, undef], defers := [] }) ?assign ?body ?done ?stop
  case hB => exact Blk.new _ _ _
  case hT => exact hT2.alloc _
  case hI =>
    refine ownFrom_old (fun s W hi => by simpa using hi.1) ?_
    rintro s W W' ⟨h1, h2, h4, h5⟩ hb'
    have hb' : Below (w2.heap.size + 1) W W' := by simpa using hb'
    exact ⟨Nat.le_trans h1 hb'.size, h2.below hb' (by omega), ⟨h4.rel.below' hb' (by omega) (by omega), h4.hb, h4.hc, h4.below.trans (hb'.mono (by omega))⟩, h5.below hb' (by omega)⟩
  case h0 => exact ⟨by simp, hbx.alloc _, hM2.alloc _, hT2.alloc _⟩
  case assign =>
    intro l x W K hK
    gi_wp2
    exact hK
  case body =>
    rintro l pre x W ⟨h1, h2, h4, h5⟩ _
    have k0 : W.cell? ⟨w1.heap.size, 0, none⟩ = some (pv b) := h2.cell rfl
    gi_wp2_with (refine ⟨trivial, ?_⟩; gi_at_call 22; refine (CallsIn.inRound l (callsIn_wide.2 (Put_calls b c _ (x.1 : Nat) (x.1 : Nat) true _ h4.rel))).mono ?_; rintro e w3 ⟨rfl, hI2, ht2⟩)
    refine ⟨keeps_of_touch ht2 h4.rel.rows, ht2.below hcp (by omega), Nat.le_trans h1 ht2.size, h2.touch ht2 (by omega), ?_, h5.touch ht2 hcp⟩
    rw [vals_snoc, identIn_snoc]
    exact h4.touch hI2 ht2
  case done =>
    rintro D ys W hDD hys ⟨h1, h2, h4, h5⟩ hK
    have k0 : W.cell? ⟨w1.heap.size, 0, none⟩ = some (pv b) := h2.cell rfl
    rw [hys, ← HMM.out] at h4
    gi_wp2
    have hmk : Marks w.heap.size W [D] := (Marks.nil _ _).cons hK (by simp at hDD; omega) (fun E hE => by cases hE)
    exact leave_marks hmk ⟨_, results_tmp rfl _ _ _, b, c, rfl, shut_made hmk h4⟩
  case stop =>
    rintro D c pre W _ _ h _
    exact h.elim
theorem Ident_calls (n : Int) (v : Value) (l : List Bool) (w : World) (hS : SetAt w v l) (hT : Tab w) :
    Calls Tryz.prog 159 #[.int .i64 n, v] w fun e w' => ∃ b c, e = .returned (pv b) ∧ Made w w' b c (identL n l) := callsIn_wide.1 (Ident_in n v l w hS hT _ rfl)
end Go.Proofs.YtmmadkghojoniaaGreatDoor
