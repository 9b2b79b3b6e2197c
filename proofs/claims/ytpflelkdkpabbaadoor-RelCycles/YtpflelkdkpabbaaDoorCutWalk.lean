/- The contract of package rel's Cut. -/
import Derived.Test.YtpflelkdkpabbaaDoorIdentWalk
import Derived.Test.YtpflelkdkpabbaaDoorCopyOpt
import Derived.Test.YtpflelkdkpabbaaDoorRoundAny
namespace Go.Proofs.YtpflelkdkpabbaaDoor
open Go.RowKit Go.Shelf Sx
attribute [local go_sem] Oper.semAt_some

def cutIn (L : List Nat) (E : Nat) (A : List Nat) (l : List Nat) : List Nat := l.foldl (fun (A : List Nat) (q : Nat) => A.set q (gr L q &&& E)) A
theorem cutIn_snoc (L : List Nat) (E : Nat) (A : List Nat) (l : List Nat) (q : Nat) : cutIn L E A (l ++ [q]) = (cutIn L E A l).set q (gr L q &&& E) := by simp [cutIn]
theorem cutIn_length (L : List Nat) (E : Nat) (A : List Nat) (l : List Nat) : (cutIn L E A l).length = A.length := by
  unfold cutIn
  induction l generalizing A with
  | nil => rfl
  | cons q l ih => rw [List.foldl_cons, ih, List.length_set]
def cutL (L : List Nat) (rows cols : List Bool) : List Nat := cutIn L (rowOfL L.length cols) (List.replicate L.length 0) (bitsOf (rowOfL L.length rows))

set_option maxRecDepth 100000 in
set_option maxHeartbeats 20000000 in
theorem Cut_in (ba ca : Nat) (L : List Nat) (v1 v2 : Value) (l1 l2 : List Bool) (w : World) (h : IsRel w ba ca L) (hS1 : SetAt w v1 l1) (hS2 : SetAt w v2 l2) (hT : Tab w) (M E : Nat) (HM : Hid (rowOfL L.length l1 = M)) (HEE : Hid (rowOfL L.length l2 = E)) :
    CallsIn Fence.wide 6 Tryd.prog 17 #[pv ba, v1, v2] w fun e w' => ∃ b c, e = .returned (pv b) ∧ Made w w' b c (cutIn L E (List.replicate L.length 0) (bitsOf M)) := by
  have hl := h.len
  refine callsIn_of_wp_marks Tryd.func17 rfl trivial ?_ rfl
  simp only [Tryd.ntmps17, List.size_toArray, List.length_cons, List.length_nil, Nat.reduceAdd, Nat.reduceSub, Array.replicate_succ, Array.replicate_zero, List.push_toArray, List.append_toArray, List.nil_append, List.cons_append]
  gi_wp2_with fail
  refine ⟨trivial, ?_⟩
  refine (callsIn_wide.2 (Len_c ba ca L _ (h.alloc _))).mono ?_
  rintro e w' ⟨rfl, rfl⟩
  gi_wp2_with fail
  refine ⟨trivial, ?_⟩
  refine (callsIn_wide.2 (New_c L.length hl _)).mono ?_
  rintro e w1 ⟨b, c, rfl, hM0⟩
  have hA1 : Below w.heap.size w w1 := ((Below.refl _ w).alloc (Nat.le_refl _) _).trans (hM0.below.mono (by simp))
  have hM : Made w w1 b c (List.replicate L.length 0) := ⟨hM0.rel, by have := hM0.hb; simp at this; omega, by have := hM0.hc; simp at this; omega, hA1⟩
  have hbx1 : Blk w1 w.heap.size 22 #[pv ba] := (Blk.new w _ _).of_below hM0.below
  have k1 : w1.cell? ⟨w.heap.size, 0, none⟩ = some (pv ba) := hbx1.cell rfl
  have k1l := hbx1.lt
  have hbc : w.heap.size + 1 ≤ b ∧ w.heap.size + 1 ≤ c := ⟨by have := hM0.hb; simpa using this, by have := hM0.hc; simpa using this⟩
  have hbl : b < w1.heap.size ∧ c < w1.heap.size := ⟨hM0.rel.head.lt, hM0.rel.rows.lt⟩
  clear hM0 hA1
  gi_wp2_with fail
  refine ⟨trivial, ?_⟩
  have hM1 := hM.alloc (.cells #[pv b] 22)
  refine (callsIn_wide.2 (Len_c ba ca L _ (hM1.old h))).mono ?_
  rintro e w' ⟨rfl, rfl⟩
  gi_wp2_with fail
  refine ⟨trivial, ?_⟩
  refine (callsIn_wide.2 (rowOf_calls L.length hl v2 l2 _ (hS2.below hM1.below))).mono ?_
  rw [HEE.out]
  rintro e w2 ⟨rfl, hB2⟩
  have hM2 := hM1.step hB2
  have hbx2 := (hbx1.alloc (.cells #[pv b] 22)).of_below hB2
  have hob2 : Blk w2 w1.heap.size 22 #[pv b] := (Blk.new w1 _ _).of_below hB2
  have k2 : w2.cell? ⟨w.heap.size, 0, none⟩ = some (pv ba) := hbx2.cell rfl
  have k2l := hbx2.lt
  clear hM hM1 hbx1 hB2 k1 k1l
  gi_wp2_with fail
  refine ⟨trivial, ?_⟩
  have hM3 := hM2.alloc (.cells (rcs E) 71)
  refine (callsIn_wide.2 (Len_c ba ca L _ (hM3.old h))).mono ?_
  rintro e w' ⟨rfl, rfl⟩
  gi_wp2_with fail
  refine ⟨trivial, ?_⟩
  refine (callsIn_wide.2 (rowOf_calls L.length hl v1 l1 _ (hS1.below hM3.below))).mono ?_
  rw [HM.out]
  rintro e w3 ⟨rfl, hB3⟩
  have hM4 := hM3.step hB3
  have hbx := (hbx2.alloc (.cells (rcs E) 71)).of_below hB3
  have hob := (hob2.alloc (.cells (rcs E) 71)).of_below hB3
  have hen : Blk w3 w2.heap.size 71 (rcs E) := (Blk.new w2 _ _).of_below hB3
  have hs12 := hob2.lt
  have HQ : Hid (∀ p, p ∈ bitsOf M → p < L.length) := by
    intro p hp
    have h1 := (mem_bitsOf.1 hp).2
    apply Nat.lt_of_not_le
    intro hle
    have := rowOfL_lt L.length l1
    rw [HM.out] at this
    rw [testBit_of_lt this hle] at h1
    cases h1
  clear hM2 hM3 hB3 hbx2 hob2 k2 k2l
  have hs0 := hM4.below.size
  have hs1 := hbx.lt
  have hs2 := hob.lt
  have hs3 := hen.lt
  have hT3 := hT.step hM4.below
  have hpos := hT.pos
  have hlo := h.head.lt
  have hlo2 := h.rows.lt
  gi_wp2_with (refine ⟨trivial, ?_⟩; gi_at_call 42; refine (points_in Fence.wide _ trivial rfl M _).mono ?_; rintro e w' ⟨rfl, rfl⟩)
  refine wpIn_rangeFunc_ownF rfl (by omega) (gf := 77) (lb := #[.pointer (some ⟨w3.heap.size, 0, none⟩)]) rfl trivial (enters_of Tryd.func77 (by kernel_rfl) rfl)
    (points_stops M w3.heap.size (6 - 1) (by omega) _ ?hB ?hT) belowK_t (belowK_b (by simp)) (Below.refl _ _) (fun _ => rfl)
    (fun pre W => w3.heap.size + 1 ≤ W.heap.size ∧ Blk W w.heap.size 22 #[pv ba] ∧ Blk W w1.heap.size 22 #[pv b] ∧ Blk W w2.heap.size 71 (rcs E) ∧ Made w W b c (cutIn L E (List.replicate L.length 0) (vals pre)) ∧ Tab W)
    (fun _ _ _ => False) ?hI (fun _ => ownFrom_false) ?h0
    (fun x => { tmps := #[pv ba, v1, v2, pv w.heap.size, undef, undef, .pointer none, pv w1.heap.size, pv w2.heap.size, .int .i64 ((x.1 : Nat) : Int), pv ba, .int .i64 L.length, pv b, pv ba, .int .i64 L.length, v2, rv E, pv ba, .int .i64 L.length, v1, rv M, .func (.func 77) #[] #[.pointer (some ⟨w3.heap.size, 0, none⟩)], .int .i64 ((x.1 : Nat) : Int), undef, undef, undef, undef, undef, undef, undef, undef, undef, undef, undef, undef, undef, undef, undef, undef], defers := [] }) ?assign ?body ?done ?stop
  case hB => exact Blk.new _ _ _
  case hT => exact hT3.alloc _
  case hI =>
    refine ownFrom_old (fun s W hi => by simpa using hi.1) ?_
    rintro s W W' ⟨h1, h2, h3, h4, h5, h6⟩ hb'
    have hb' : Below (w3.heap.size + 1) W W' := by simpa using hb'
    exact ⟨Nat.le_trans h1 hb'.size, h2.below hb' (by omega), h3.below hb' (by omega), h4.below hb' (by omega), ⟨h5.rel.below' hb' (by omega) (by omega), h5.hb, h5.hc, h5.below.trans (hb'.mono (by omega))⟩, h6.below hb' (by omega)⟩
  case h0 => exact ⟨by simp, hbx.alloc _, hob.alloc _, hen.alloc _, hM4.alloc _, hT3.alloc _⟩
  case assign =>
    intro l x W K hK
    gi_wp2
    exact hK
  case body =>
    rintro l pre x W ⟨h1, h2, h3, h4, h5, h6⟩ _
    have hq := HQ.out x.1 x.2
    have hcl : (cutIn L E (List.replicate L.length 0) (vals pre)).length = L.length := by rw [cutIn_length, List.length_replicate]
    have hqc : x.1 < (cutIn L E (List.replicate L.length 0) (vals pre)).length := by rw [hcl]; exact hq
    have HS : Hid (_ = _) := cutIn_snoc L E (List.replicate L.length 0) (vals pre) x.1
    have HG := hid_of (gr_of hqc)
    have HR : Hid (gr L x.1 &&& E < 2 ^ (cutIn L E (List.replicate L.length 0) (vals pre)).length) := by rw [hcl]; exact and_lt (h.gr_lt x.1)
    generalize cutIn L E (List.replicate L.length 0) (vals pre) = A at *
    clear hcl
    have hmx : Tryd.prog.follows .mixedOrders = true := by kernel_rfl
    gi_wp2
    refine wpIn_region_round (fun w' => Blk w' w.heap.size 22 #[pv ba] ∧ Blk w' w1.heap.size 22 #[pv b] ∧ Blk w' w2.heap.size 71 (rcs E) ∧ ∃ A', A'.length = A.length ∧ Made w w' b c A') hmx (by kernel_rfl) ⟨h2.drew, h3.drew, h4.drew, A, rfl, h5.drew⟩ (fun hHeld => ?_)
    have facts : ∀ w', (Blk w' w.heap.size 22 #[pv ba] ∧ Blk w' w1.heap.size 22 #[pv b] ∧ Blk w' w2.heap.size 71 (rcs E) ∧ ∃ A', A'.length = A.length ∧ Made w w' b c A') →
        w'.cell? ⟨w.heap.size, 0, none⟩ = some (pv ba) ∧ w'.cell? ⟨w1.heap.size, 0, none⟩ = some (pv b) ∧ (w'.cell? ⟨w2.heap.size, 0, none⟩ = some (.int .u64 ((wd E 0 : Nat) : Int)) ∧ w'.cell? ⟨w2.heap.size, 1, none⟩ = some (.int .u64 ((wd E 1 : Nat) : Int)) ∧ w'.cell? ⟨w2.heap.size, 2, none⟩ = some (.int .u64 ((wd E 2 : Nat) : Int)) ∧ w'.cell? ⟨w2.heap.size, 3, none⟩ = some (.int .u64 ((wd E 3 : Nat) : Int))) ∧
        w'.cell? ⟨ba, 0, none⟩ = some (.slice (some ⟨ca, 0, none⟩) L.length L.length) ∧ (w'.cell? ⟨ca, x.1 * 4, none⟩ = some (.int .u64 ((wd (gr L x.1) 0 : Nat) : Int)) ∧ w'.cell? ⟨ca, x.1 * 4 + 1, none⟩ = some (.int .u64 ((wd (gr L x.1) 1 : Nat) : Int)) ∧ w'.cell? ⟨ca, x.1 * 4 + 2, none⟩ = some (.int .u64 ((wd (gr L x.1) 2 : Nat) : Int)) ∧ w'.cell? ⟨ca, x.1 * 4 + 3, none⟩ = some (.int .u64 ((wd (gr L x.1) 3 : Nat) : Int))) ∧
        w'.cell? ⟨b, 0, none⟩ = some (.slice (some ⟨c, 0, none⟩) A.length A.length) := by
      rintro w' ⟨g0, g1, g2, A', g3, g4⟩
      have z := g4.rel.hcell
      rw [g3] at z
      exact ⟨g0.cell rfl, g1.cell rfl, g2.row.1, ((g4.old h).slots (gr_of hq)).1, ((g4.old h).slots (gr_of hq)).2.1, z⟩
    refine wpAnyH_take (i := 0) (v := pv b) rfl (by kernel_rfl) (by kernel_rfl) (by kernel_rfl) (fun _ _ _ h => h) (Or.inl ⟨by rfl, ?_⟩) hHeld ?_
    · intro w' hSw
      obtain ⟨k0, k1, ⟨e0, e1, e2, e3⟩, y, ⟨y0, y1, y2, y3⟩, z⟩ := facts w' hSw
      clear hHeld facts
      simp only [List.getElem_toArray, List.getElem_cons_zero]
      go_simp
    simp only [Act.put, List.getElem_toArray, List.getElem_cons_zero, List.setIfInBounds_toArray, List.set_cons_zero, List.set_cons_succ]
    refine wpAnyH_take (i := 1) (v := pv b) rfl (by kernel_rfl) (by kernel_rfl) (by kernel_rfl) (fun _ _ _ h => h) (Or.inl ⟨by rfl, ?_⟩) hHeld ?_
    · intro w' hSw
      obtain ⟨k0, k1, ⟨e0, e1, e2, e3⟩, y, ⟨y0, y1, y2, y3⟩, z⟩ := facts w' hSw
      clear hHeld facts
      simp only [List.getElem_toArray, List.getElem_cons_zero, List.getElem_cons_succ]
      go_simp
    simp only [Act.put, List.getElem_toArray, List.getElem_cons_zero, List.getElem_cons_succ, List.setIfInBounds_toArray, List.set_cons_zero, List.set_cons_succ]
    refine wpAnyH_take (i := 2) (v := pv b) rfl (by kernel_rfl) (by kernel_rfl) (by kernel_rfl) (fun _ _ _ h => h) (Or.inl ⟨by rfl, ?_⟩) hHeld ?_
    · intro w' hSw
      obtain ⟨k0, k1, ⟨e0, e1, e2, e3⟩, y, ⟨y0, y1, y2, y3⟩, z⟩ := facts w' hSw
      clear hHeld facts
      simp only [List.getElem_toArray, List.getElem_cons_zero, List.getElem_cons_succ]
      go_simp
    simp only [Act.put, List.getElem_toArray, List.getElem_cons_zero, List.getElem_cons_succ, List.setIfInBounds_toArray, List.set_cons_zero, List.set_cons_succ]
    refine wpAnyH_take (i := 3) (v := .slice (some ⟨c, 0, none⟩) A.length A.length) rfl (by kernel_rfl) (by kernel_rfl) (by kernel_rfl) (fun _ _ _ h => h) (Or.inl ⟨by rfl, ?_⟩) hHeld ?_
    · intro w' hSw
      obtain ⟨k0, k1, ⟨e0, e1, e2, e3⟩, y, ⟨y0, y1, y2, y3⟩, z⟩ := facts w' hSw
      clear hHeld facts
      simp only [List.getElem_toArray, List.getElem_cons_zero, List.getElem_cons_succ]
      go_simp
    simp only [Act.put, List.getElem_toArray, List.getElem_cons_zero, List.getElem_cons_succ, List.setIfInBounds_toArray, List.set_cons_zero, List.set_cons_succ]
    refine wpAnyH_take (i := 4) (v := .int .i64 ((x.1 : Nat) : Int)) rfl (by kernel_rfl) (by kernel_rfl) (by kernel_rfl) (fun _ _ _ h => h) (Or.inl ⟨by rfl, ?_⟩) hHeld ?_
    · intro w' hSw
      obtain ⟨k0, k1, ⟨e0, e1, e2, e3⟩, y, ⟨y0, y1, y2, y3⟩, z⟩ := facts w' hSw
      clear hHeld facts
      simp only [List.getElem_toArray, List.getElem_cons_zero, List.getElem_cons_succ]
      go_simp
    simp only [Act.put, List.getElem_toArray, List.getElem_cons_zero, List.getElem_cons_succ, List.setIfInBounds_toArray, List.set_cons_zero, List.set_cons_succ]
    refine wpAnyH_take (i := 5) (v := pv ba) rfl (by kernel_rfl) (by kernel_rfl) (by kernel_rfl) (fun _ _ _ h => h) (Or.inl ⟨by rfl, ?_⟩) hHeld ?_
    · intro w' hSw
      obtain ⟨k0, k1, ⟨e0, e1, e2, e3⟩, y, ⟨y0, y1, y2, y3⟩, z⟩ := facts w' hSw
      clear hHeld facts
      simp only [List.getElem_toArray, List.getElem_cons_zero, List.getElem_cons_succ]
      go_simp
    simp only [Act.put, List.getElem_toArray, List.getElem_cons_zero, List.getElem_cons_succ, List.setIfInBounds_toArray, List.set_cons_zero, List.set_cons_succ]
    refine wpAnyH_take (i := 6) (v := pv ba) rfl (by kernel_rfl) (by kernel_rfl) (by kernel_rfl) (fun _ _ _ h => h) (Or.inl ⟨by rfl, ?_⟩) hHeld ?_
    · intro w' hSw
      obtain ⟨k0, k1, ⟨e0, e1, e2, e3⟩, y, ⟨y0, y1, y2, y3⟩, z⟩ := facts w' hSw
      clear hHeld facts
      simp only [List.getElem_toArray, List.getElem_cons_zero, List.getElem_cons_succ]
      go_simp
    simp only [Act.put, List.getElem_toArray, List.getElem_cons_zero, List.getElem_cons_succ, List.setIfInBounds_toArray, List.set_cons_zero, List.set_cons_succ]
    refine wpAnyH_take (i := 7) (v := pv ba) rfl (by kernel_rfl) (by kernel_rfl) (by kernel_rfl) (fun _ _ _ h => h) (Or.inl ⟨by rfl, ?_⟩) hHeld ?_
    · intro w' hSw
      obtain ⟨k0, k1, ⟨e0, e1, e2, e3⟩, y, ⟨y0, y1, y2, y3⟩, z⟩ := facts w' hSw
      clear hHeld facts
      simp only [List.getElem_toArray, List.getElem_cons_zero, List.getElem_cons_succ]
      go_simp
    simp only [Act.put, List.getElem_toArray, List.getElem_cons_zero, List.getElem_cons_succ, List.setIfInBounds_toArray, List.set_cons_zero, List.set_cons_succ]
    refine wpAnyH_take (i := 8) (v := .slice (some ⟨ca, 0, none⟩) L.length L.length) rfl (by kernel_rfl) (by kernel_rfl) (by kernel_rfl) (fun _ _ _ h => h) (Or.inl ⟨by rfl, ?_⟩) hHeld ?_
    · intro w' hSw
      obtain ⟨k0, k1, ⟨e0, e1, e2, e3⟩, y, ⟨y0, y1, y2, y3⟩, z⟩ := facts w' hSw
      clear hHeld facts
      simp only [List.getElem_toArray, List.getElem_cons_zero, List.getElem_cons_succ]
      go_simp
    simp only [Act.put, List.getElem_toArray, List.getElem_cons_zero, List.getElem_cons_succ, List.setIfInBounds_toArray, List.set_cons_zero, List.set_cons_succ]
    refine wpAnyH_take (i := 9) (v := .int .i64 ((x.1 : Nat) : Int)) rfl (by kernel_rfl) (by kernel_rfl) (by kernel_rfl) (fun _ _ _ h => h) (Or.inl ⟨by rfl, ?_⟩) hHeld ?_
    · intro w' hSw
      obtain ⟨k0, k1, ⟨e0, e1, e2, e3⟩, y, ⟨y0, y1, y2, y3⟩, z⟩ := facts w' hSw
      clear hHeld facts
      simp only [List.getElem_toArray, List.getElem_cons_zero, List.getElem_cons_succ]
      go_simp
    simp only [Act.put, List.getElem_toArray, List.getElem_cons_zero, List.getElem_cons_succ, List.setIfInBounds_toArray, List.set_cons_zero, List.set_cons_succ]
    refine wpAnyH_take (i := 10) (v := .pointer (some ⟨ca, x.1 * 4, none⟩)) rfl (by kernel_rfl) (by kernel_rfl) (by kernel_rfl) (fun _ _ _ h => h) (Or.inl ⟨by rfl, ?_⟩) hHeld ?_
    · intro w' hSw
      obtain ⟨k0, k1, ⟨e0, e1, e2, e3⟩, y, ⟨y0, y1, y2, y3⟩, z⟩ := facts w' hSw
      clear hHeld facts
      simp only [List.getElem_toArray, List.getElem_cons_zero, List.getElem_cons_succ]
      go_simp
    simp only [Act.put, List.getElem_toArray, List.getElem_cons_zero, List.getElem_cons_succ, List.setIfInBounds_toArray, List.set_cons_zero, List.set_cons_succ]
    refine wpAnyH_take (i := 11) (v := rv (gr L x.1)) rfl (by kernel_rfl) (by kernel_rfl) (by kernel_rfl) (fun _ _ _ h => h) (Or.inl ⟨by rfl, ?_⟩) hHeld ?_
    · intro w' hSw
      obtain ⟨k0, k1, ⟨e0, e1, e2, e3⟩, y, ⟨y0, y1, y2, y3⟩, z⟩ := facts w' hSw
      clear hHeld facts
      simp only [List.getElem_toArray, List.getElem_cons_zero, List.getElem_cons_succ]
      go_simp
    simp only [Act.put, List.getElem_toArray, List.getElem_cons_zero, List.getElem_cons_succ, List.setIfInBounds_toArray, List.set_cons_zero, List.set_cons_succ]
    refine wpAnyH_take (i := 12) (v := rv E) rfl (by kernel_rfl) (by kernel_rfl) (by kernel_rfl) (fun _ _ _ h => h) (Or.inl ⟨by rfl, ?_⟩) hHeld ?_
    · intro w' hSw
      obtain ⟨k0, k1, ⟨e0, e1, e2, e3⟩, y, ⟨y0, y1, y2, y3⟩, z⟩ := facts w' hSw
      clear hHeld facts
      simp only [List.getElem_toArray, List.getElem_cons_zero, List.getElem_cons_succ]
      go_simp
    simp only [Act.put, List.getElem_toArray, List.getElem_cons_zero, List.getElem_cons_succ, List.setIfInBounds_toArray, List.set_cons_zero, List.set_cons_succ]
    refine wpAnyH_ready (rs := [13]) (by kernel_rfl) (by simp) ?_
    refine AllReadyH.cons rfl (fun K hK => ?_) AllReadyH.nil
    simp only [List.getElem_toArray, List.getElem_cons_zero, List.getElem_cons_succ]
    go_simp
    go_at_call 48
    refine (meet_calls (gr L x.1) E _).mono ?_
    rintro e w4 ⟨rfl, hB4⟩
    have h5b := h5.drew.step hB4
    have hBW : Below W.heap.size W w4 := below_of_drew' hB4
    have hHeld4 : Blk w4 w.heap.size 22 #[pv ba] ∧ Blk w4 w1.heap.size 22 #[pv b] ∧ Blk w4 w2.heap.size 71 (rcs E) ∧ ∃ A', A'.length = A.length ∧ Made w w4 b c A' := ⟨h2.of_below hBW, h3.of_below hBW, h4.of_below hBW, A, rfl, h5b⟩
    clear hHeld
    refine hK.out _ _ hHeld4 (fun hHeld => ?_)
    clear hK K hHeld4
    refine wpAnyH_take (i := 14) (v := .pointer (some ⟨c, x.1 * 4, none⟩)) rfl (by kernel_rfl) (by kernel_rfl) (by kernel_rfl) (fun _ _ _ h => h) (Or.inl ⟨by rfl, ?_⟩) hHeld ?_
    · intro w' hSw
      clear hHeld facts hSw
      simp only [List.getElem_toArray, List.getElem_cons_zero, List.getElem_cons_succ]
      go_simp
    simp only [Act.put, List.getElem_toArray, List.getElem_cons_zero, List.getElem_cons_succ, List.setIfInBounds_toArray, List.set_cons_zero, List.set_cons_succ]
    refine wpAnyH_ready (rs := [15]) (by kernel_rfl) (by simp) ?_
    refine AllReadyH.cons rfl (fun K hK => ?_) AllReadyH.nil
    simp only [List.getElem_toArray, List.getElem_cons_zero, List.getElem_cons_succ]
    obtain ⟨z, ⟨z0, z1, z2, z3⟩, ⟨f0, f1, f2, f3⟩, q5, q6⟩ := h5b.rel.slots HG.out
    go_simp
    have hM5 := h5b.put hqc HR.out
    refine hK.out _ _ ⟨(h2.of_below hBW).otherRow (by omega) _ _ _ _ _ _ _ _, (h3.of_below hBW).otherRow (by omega) _ _ _ _ _ _ _ _, (h4.of_below hBW).otherRow (by omega) _ _ _ _ _ _ _ _, _, List.length_set, hM5⟩ (fun _ => ?_)
    clear hK K
    refine wpAnyH_done (by kernel_rfl) ?_ _
    clear hHeld facts z z0 z1 z2 z3 f0 f1 f2 f3
    refine norm_intro ?_
    gi_wp2
    refine ⟨(keeps_of_below hBW).trans (KeepsOthers.setRow _ _ _ _ _ _ _ _ _ _), below_setRow (hBW.mono (by omega)) (by omega) _ _ _ _ _ _ _ _, Nat.le_trans h1 (by simpa [World.setCell] using hBW.size), (h2.of_below hBW).otherRow (by omega) _ _ _ _ _ _ _ _, (h3.of_below hBW).otherRow (by omega) _ _ _ _ _ _ _ _, (h4.of_below hBW).otherRow (by omega) _ _ _ _ _ _ _ _, ?_, (h6.step hBW).below (n := 1) (below_setRow (Below.refl _ _) (by omega) _ _ _ _ _ _ _ _) (by omega)⟩
    rw [vals_snoc, HS.out]
    exact hM5
  case done =>
    rintro D ys W hDD hys ⟨h1, h2, h3, h4, h5, h6⟩ hK
    have k1 : W.cell? ⟨w1.heap.size, 0, none⟩ = some (pv b) := h3.cell rfl
    rw [hys] at h5
    gi_wp2
    have hmk : Marks w.heap.size W [D] := (Marks.nil _ _).cons hK (by simp at hDD; omega) (fun E hE => by cases hE)
    exact leave_marks hmk ⟨_, results_tmp rfl _ _ _, b, c, rfl, shut_made hmk h5⟩
  case stop =>
    rintro D c pre W _ _ h _
    exact h.elim
theorem Cut_calls (ba ca : Nat) (L : List Nat) (v1 v2 : Value) (l1 l2 : List Bool) (w : World) (h : IsRel w ba ca L) (hS1 : SetAt w v1 l1) (hS2 : SetAt w v2 l2) (hT : Tab w) :
    Calls Tryd.prog 17 #[pv ba, v1, v2] w fun e w' => ∃ b c, e = .returned (pv b) ∧ Made w w' b c (cutL L l1 l2) := callsIn_wide.1 (Cut_in ba ca L v1 v2 l1 l2 w h hS1 hS2 hT _ _ rfl rfl)
end Go.Proofs.YtpflelkdkpabbaaDoor
