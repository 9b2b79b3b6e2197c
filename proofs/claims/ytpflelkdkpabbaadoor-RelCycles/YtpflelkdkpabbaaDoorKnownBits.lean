/- The contracts of package rel's Within, of Union of nothing and of two. -/
import Derived.Test.YtpflelkdkpabbaaDoorLivesWalk
import Derived.Test.YtpflelkdkpabbaaDoorByRows
import Derived.Test.YtpflelkdkpabbaaDoorEqWalk
import Derived.Test.YtpflelkdkpabbaaDoorCompWalk
namespace Go.Proofs.YtpflelkdkpabbaaDoor
open Go.RowKit Go.Shelf Sx

set_option maxHeartbeats 1000000 in
theorem Union_nil (w : World) :
    Calls Tryd.prog 21 #[.slice none 0 0] w fun e w' => ∃ b c, e = .returned (pv b) ∧ Made w w' b c [] := by
  go_enter Tryd.func21, Tryd.ntmps21
  go_wp2_with fail
  go_loopw [3, 13] (fun n i wr => n = .int .i64 0 ∧ i = .int .i64 0 ∧ w = wr) (fun _ _ _ => 0)
  case atStart => exact ⟨rfl, rfl, rfl⟩
  case round =>
    obtain ⟨rfl, rfl, rfl⟩ := hrel
    go_wp2_with fail
    refine (New_c 0 (by omega) _).mono ?_
    rintro e w1 ⟨b, c, rfl, hM1⟩
    go_wp2_with fail
    go_loopw [26] (fun i wr => i = .int .i64 0 ∧ w1 = wr) (fun _ _ => 0)
    case atStart => exact ⟨rfl, rfl⟩
    case round =>
      obtain ⟨rfl, rfl⟩ := hrel
      go_wp2_with fail
      go_ret
      exact ⟨b, c, rfl, hM1⟩

theorem rels_two (w : World) (ba ca bb cb : Nat) (A B : List Nat) (ha : IsRel w ba ca A) (hb : IsRel w bb cb B) : RelsAt (w.alloc (.cells #[pv ba, pv bb] 22)) w.heap.size [(ba, ca, A), (bb, cb, B)] := by
  have hk := Blk.new w 22 #[pv ba, pv bb]
  refine ⟨?_, hk.lt, ?_⟩
  · intro i r hi
    match i with
    | 0 => simp at hi; subst hi; exact hk.cell rfl
    | 1 => simp at hi; subst hi; exact hk.cell rfl
    | i + 2 => simp at hi
  · intro i r hi
    match i with
    | 0 => simp at hi; subst hi; exact ha.alloc _
    | 1 => simp at hi; subst hi; exact hb.alloc _
    | i + 2 => simp at hi
/-- Union of two, behind the making of their list. -/
theorem Union_two (w : World) (ba ca bb cb : Nat) (A B : List Nat) (ha : IsRel w ba ca A) (hb : IsRel w bb cb B) :
    Calls Tryd.prog 21 #[.slice (some ⟨w.heap.size, 0, none⟩) 2 2] (w.alloc (.cells #[pv ba, pv bb] 22)) fun e w' => ∃ b c, e = .returned (pv b) ∧ Made w w' b c (unionL [A, B]) := by
  refine (Union_calls w.heap.size [(ba, ca, A), (bb, cb, B)] _ (rels_two w ba ca bb cb A B ha hb) (by simp)).mono ?_
  rintro e w1 ⟨b, c, rfl, hM⟩
  refine ⟨b, c, rfl, hM.rel, ?_, ?_, ?_⟩
  · have := hM.hb; simp at this; omega
  · have := hM.hc; simp at this; omega
  · exact ((Below.refl _ w).alloc (Nat.le_refl _) _).trans (hM.below.mono (by simp))

set_option maxHeartbeats 1000000 in
theorem Within_at (n : Nat) (ba ca bb cb : Nat) (A B : List Nat) (w : World) (ha : IsRel w ba ca A) (hb : IsRel w bb cb B) (Hn : Hid (sizeL (minusL A B) = n)) :
    Calls Tryd.prog 27 #[pv ba, pv bb] w fun e w' => e = .returned (.bool ((n : Int) == 0)) ∧ Below w.heap.size w w' := by
  go_enter Tryd.func27, Tryd.ntmps27
  go_wp2_with fail
  refine (Minus_calls ba ca bb cb A B _ ha hb).mono ?_
  rintro e w1 ⟨b, c, rfl, hM⟩
  go_wp2_with fail
  refine (Size_calls b c (minusL A B) _ hM.rel).mono ?_
  rw [Hn.out]
  rintro e w2 ⟨rfl, hB2⟩
  go_wp2_with fail
  go_ret
  exact ⟨rfl, below_step hM.below hM.below.size hB2⟩
theorem Within_calls (ba ca bb cb : Nat) (A B : List Nat) (w : World) (ha : IsRel w ba ca A) (hb : IsRel w bb cb B) :
    Calls Tryd.prog 27 #[pv ba, pv bb] w fun e w' => e = .returned (.bool (sizeL (minusL A B) == 0)) ∧ Below w.heap.size w w' := by
  refine (Within_at _ ba ca bb cb A B w ha hb (hid_of rfl)).mono ?_
  rintro e w1 ⟨rfl, hB⟩
  refine ⟨?_, hB⟩
  congr 2
  rw [Bool.eq_iff_iff]; simp
end Go.Proofs.YtpflelkdkpabbaaDoor
