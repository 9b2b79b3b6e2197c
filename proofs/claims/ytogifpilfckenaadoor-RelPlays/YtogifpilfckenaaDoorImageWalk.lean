/- The contract of package rel's Image. -/
import Derived.Test.YtogifpilfckenaaDoorIdentWalk
import Derived.Test.YtogifpilfckenaaDoorPairsWalk
namespace Go.Proofs.YtogifpilfckenaaDoor
open Go.RowKit Go.Shelf Sx
attribute [local go_sem] Oper.semAt_some

def arrB (l : List Bool) : Array Value := (l.map Value.bool).toArray
theorem arrB_set (l : List Bool) (q : Nat) (b : Bool) : (arrB l).setIfInBounds q (.bool b) = arrB (l.set q b) := by simp [arrB]
theorem Tryd.infobool : (Tryd.prog.info? 4).map (fun i => (i.zero, i.size, i.bytes)) = some (some (.bool false), 1, 1) := by kernel_rfl
theorem make_bools (n : Nat) (h : n ≤ 256) (w : World) : (Instr.makeSlice 35 (.int .i64 n) (.int .i64 n)).run Tryd.prog w = .ok (.slice (some ⟨w.heap.size, 0, none⟩) n n) (w.alloc (.cells (arrB (List.replicate n false)) 4)) := by
  obtain ⟨i, hx, hz, hs, hb⟩ := info_parts Tryd.infobool
  have := run_make (P := Tryd.prog) w 35 4 i _ Tryd.underlying35 hx hz .i64 .i64 n n (by omega) (by omega) (by rw [hb]; omega) (by omega)
  rw [this, hs]
  have e : madeCells (Value.bool false).cells ((n : Int).toNat * 1) = arrB (List.replicate n false) := by
    apply Array.toList_inj.1
    rw [Int.toNat_natCast, Nat.mul_one, show (Value.bool false).cells = #[.bool false] from rfl, toList_madeCells_one]
    simp [arrB]
  rw [e]
  rfl
def imgIn (A : List Bool) (l : List Nat) : List Bool := l.foldl (fun (A : List Bool) (q : Nat) => A.set q true) A
theorem imgIn_snoc (A : List Bool) (l : List Nat) (q : Nat) : imgIn A (l ++ [q]) = (imgIn A l).set q true := by simp [imgIn]
theorem imgIn_length (A : List Bool) (l : List Nat) : (imgIn A l).length = A.length := by
  unfold imgIn
  induction l generalizing A with
  | nil => rfl
  | cons q l ih => rw [List.foldl_cons, ih, List.length_set]
def imgL (L : List Nat) (l : List Bool) : List Bool := imgIn (List.replicate L.length false) (bitsOf (joinRows L (bitsOf (rowOfL L.length l))))

set_option maxRecDepth 100000 in
set_option maxHeartbeats 2000000 in
theorem Image_in (b c : Nat) (L : List Nat) (v : Value) (l : List Bool) (w : World) (h : IsRel w b c L) (hS : SetAt w v l) (hT : Tab w) :
    CallsIn Fence.wide 6 Tryd.prog 20 #[pv b, v] w fun e w' => ∃ v', e = .returned v' ∧ w'.ownsRow w.heap.size 4 1 v' (imgL L l).length ((imgL L l).map Value.bool) ∧ Below w.heap.size w w' := by
  have hl := h.len
  have hmk := make_bools L.length hl
  refine callsIn_of_wp_marks Tryd.func20 rfl trivial ?_ rfl
  simp only [Tryd.ntmps20, List.size_toArray, List.length_cons, List.length_nil, Nat.reduceAdd, Nat.reduceSub, Array.replicate_succ, Array.replicate_zero, List.push_toArray, List.append_toArray, List.nil_append, List.cons_append]
  gi_wp2_with fail
  refine ⟨trivial, ?_⟩
  refine (callsIn_wide.2 (Len_c b c L _ h)).mono ?_
  rintro e w' ⟨rfl, rfl⟩
  gi_wp2_with fail
  refine ⟨trivial, ?_⟩
  have hA : Below w.heap.size w ((w.alloc (.cells (arrB (List.replicate L.length false)) 4)).alloc (.cells #[.slice (some ⟨w.heap.size, 0, none⟩) L.length L.length] 35)) := ((Below.refl _ w).alloc (Nat.le_refl _) _).alloc (by simp) _
  refine (callsIn_wide.2 (Len_c b c L _ (h.below hA))).mono ?_
  rintro e w' ⟨rfl, rfl⟩
  gi_wp2_with fail
  refine ⟨trivial, ?_⟩
  refine (callsIn_wide.2 (rowOf_calls L.length hl v l _ (hS.below hA))).mono ?_
  rintro e w2 ⟨rfl, hB2⟩
  have hw2 : Below w.heap.size w w2 := hA.trans (hB2.mono (by simp; omega))
  have hg2 : Blk w2 w.heap.size 4 (arrB (List.replicate L.length false)) := ((Blk.new w _ _).alloc _).of_below hB2
  have hbx2 : Blk w2 (w.heap.size + 1) 35 #[.slice (some ⟨w.heap.size, 0, none⟩) L.length L.length] := (Blk.new2 w _ _ _).of_below hB2
  clear hA hB2 hmk
  gi_wp2_with fail
  refine ⟨trivial, ?_⟩
  refine (callsIn_wide.2 (step_calls b c L (rowOfL L.length l) _ (h.below hw2) (hT.step hw2))).mono ?_
  rintro e w3 ⟨rfl, hB3⟩
  have hw3 : Below w.heap.size w w3 := below_step hw2 hw2.size hB3
  have hg3 := hg2.of_below hB3
  have hbx3 := hbx2.of_below hB3
  have hT3 := hT.step hw3
  have HL : Hid (∀ p, p ∈ bitsOf (joinRows L (bitsOf (rowOfL L.length l))) → p < L.length) := by
    intro p hp
    have h1 := (mem_bitsOf.1 hp).2
    apply Nat.lt_of_not_le
    intro hle
    rw [testBit_of_lt (joinRows_lt h.low _) hle] at h1
    cases h1
  have HI : Hid (imgL L l = imgIn (List.replicate L.length false) (bitsOf (joinRows L (bitsOf (rowOfL L.length l))))) := rfl
  generalize rowOfL L.length l = M0 at *
  generalize joinRows L (bitsOf M0) = M at *
  clear hg2 hbx2 hw2 hB3
  have hs1 := hbx3.lt
  have hs3 := hg3.lt
  have hsw := hw3.size
  have hpos := hT.pos
  gi_wp2_with (refine ⟨trivial, ?_⟩; gi_at_call 42; refine (points_in Fence.wide _ trivial rfl M _).mono ?_; rintro e w' ⟨rfl, rfl⟩)
  refine wpIn_rangeFunc_ownF rfl (by omega) (gf := 77) (lb := #[.pointer (some ⟨w3.heap.size, 0, none⟩)]) rfl trivial (enters_of Tryd.func77 (by kernel_rfl) rfl)
    (points_stops M w3.heap.size (6 - 1) (by omega) _ ?hB ?hT) belowK_t (belowK_b (by simp)) (Below.refl _ _) (fun _ => rfl)
    (fun pre W => w3.heap.size + 1 ≤ W.heap.size ∧ Blk W w.heap.size 4 (arrB (imgIn (List.replicate L.length false) (vals pre))) ∧ Blk W (w.heap.size + 1) 35 #[.slice (some ⟨w.heap.size, 0, none⟩) L.length L.length] ∧ Tab W ∧ Below w.heap.size w W)
    (fun _ _ _ => False) ?hI (fun _ => ownFrom_false) ?h0
    (fun x => { tmps := #[pv b, v, undef, undef, .slice none 0 0, pv (w.heap.size + 1), .int .i64 ((x.1 : Nat) : Int), pv b, .int .i64 L.length, .slice (some ⟨w.heap.size, 0, none⟩) L.length L.length, pv b, pv b, .int .i64 L.length, v, rv M0, rv M, .func (.func 77) #[] #[.pointer (some ⟨w3.heap.size, 0, none⟩)], .int .i64 ((x.1 : Nat) : Int), undef, undef, undef, undef], defers := [] }) ?assign ?body ?done ?stop
  case hB => exact Blk.new _ _ _
  case hT => exact hT3.alloc _
  case hI =>
    refine ownFrom_old (fun s W hi => by simpa using hi.1) ?_
    rintro s W W' ⟨h1, h2, h3, h4, h5⟩ hb'
    have hb' : Below (w3.heap.size + 1) W W' := by simpa using hb'
    exact ⟨Nat.le_trans h1 hb'.size, h2.below hb' (by omega), h3.below hb' (by omega), h4.below hb' (by omega), h5.trans (hb'.mono (by omega))⟩
  case h0 => exact ⟨by simp, hg3.alloc _, hbx3.alloc _, hT3.alloc _, hw3.alloc hsw _⟩
  case assign =>
    intro l x W K hK
    gi_wp2
    exact hK
  case body =>
    rintro l pre x W ⟨h1, h2, h3, h4, h5⟩ _
    have k0 : W.cell? ⟨w.heap.size + 1, 0, none⟩ = some (.slice (some ⟨w.heap.size, 0, none⟩) L.length L.length) := h3.cell rfl
    have hq := HL.out x.1 x.2
    have hlen : (imgIn (List.replicate L.length false) (vals pre)).length = L.length := by rw [imgIn_length, List.length_replicate]
    obtain ⟨y, hy⟩ : ∃ y, (imgIn (List.replicate L.length false) (vals pre))[x.1]? = some y := ⟨_, List.getElem?_eq_getElem (by rw [hlen]; exact hq)⟩
    have k1 : W.cell? ⟨w.heap.size, x.1, none⟩ = some (.bool y) := h2.cell (by simp [arrB, hy])
    have f1 := h2.frozen x.1
    clear hlen hy
    gi_wp2
    refine ⟨KeepsOthers.setCell _ _ _, (Below.refl _ _).setCell (by simp; omega) _, Nat.le_trans h1 (by simp [World.setCell]), ?_, h3.setOther (by simp) _, h4.set (by simpa using hpos) _, h5.setCell (Nat.le_refl _) _⟩
    rw [vals_snoc, imgIn_snoc, ← arrB_set]
    exact h2.set _ _
  case done =>
    rintro D ys W hDD hys ⟨h1, h2, h3, h4, h5⟩ hK
    have k0 : W.cell? ⟨w.heap.size + 1, 0, none⟩ = some (.slice (some ⟨w.heap.size, 0, none⟩) L.length L.length) := h3.cell rfl
    rw [hys, ← HI.out] at h2
    gi_wp2
    have hmk : Marks w.heap.size W [D] := (Marks.nil _ _).cons hK (by simp at hDD; omega) (fun E hE => by cases hE)
    have hlen : (imgL L l).length = L.length := by rw [HI.out, imgIn_length, List.length_replicate]
    refine leave_marks hmk ⟨_, results_tmp rfl _ _ _, _, rfl, ?_, h5.trans (shut_below hmk)⟩
    refine shut_owns hmk ⟨by simp, .inr ⟨w.heap.size, L.length, arrB (imgL L l), by rw [hlen]; rfl, Nat.le_refl _, h2, by omega, by unfold maxLen; omega, by simp [arrB, hlen], ?_⟩⟩
    simp only [arrB, Nat.mul_one, List.toList_toArray]
    exact List.take_of_length_le (by simp)
  case stop =>
    rintro D c pre W _ _ h _
    exact h.elim
theorem Image_calls (b c : Nat) (L : List Nat) (v : Value) (l : List Bool) (w : World) (h : IsRel w b c L) (hS : SetAt w v l) (hT : Tab w) :
    Calls Tryd.prog 20 #[pv b, v] w fun e w' => ∃ v', e = .returned v' ∧ w'.ownsRow w.heap.size 4 1 v' (imgL L l).length ((imgL L l).map Value.bool) ∧ Below w.heap.size w w' := callsIn_wide.1 (Image_in b c L v l w h hS hT)
end Go.Proofs.YtogifpilfckenaaDoor
