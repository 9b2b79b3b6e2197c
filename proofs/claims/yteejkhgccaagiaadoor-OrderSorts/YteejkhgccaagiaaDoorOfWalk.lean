/- The contract of package rel's Of. -/
import Derived.Test.YteejkhgccaagiaaDoorFillMem
namespace Go.Proofs.YteejkhgccaagiaaDoor
open Go.RowKit Go.Shelf Sx

theorem hid_of {p : Prop} (h : p) : Hid p := h
/-- What Of makes of a list of pairs. -/
def ofK (n : Nat) (l : List (Int × Int)) : List Nat := l.foldl (fun A x => putP A x.1 x.2 true) (List.replicate n 0)
theorem ofK_snoc (n : Nat) (l : List (Int × Int)) (x : Int × Int) : ofK n (l ++ [x]) = putP (ofK n l) x.1 x.2 true := by simp [ofK]
def ofL (n : Int) (l : List (Int × Int)) : List Nat := ofK (clampN n) l
/-- The pairs lie in block s from o on. -/
structure PairsAt (w : World) (s o : Nat) (l : List (Int × Int)) : Prop where
  lt : s < w.heap.size
  fst : ∀ (i : Nat) (x : Int × Int), l[i]? = some x → w.cell? ⟨s, o + i * 2, none⟩ = some (.int .i64 x.1)
  snd : ∀ (i : Nat) (x : Int × Int), l[i]? = some x → w.cell? ⟨s, o + i * 2 + 1, none⟩ = some (.int .i64 x.2)
theorem PairsAt.below {w w' : World} {s o : Nat} {l : List (Int × Int)} (h : PairsAt w s o l) (hb : Below w.heap.size w w') : PairsAt w' s o l :=
  ⟨Nat.lt_of_lt_of_le h.lt hb.size, fun i x hx => (hb.cell (p := ⟨s, o + i * 2, none⟩) h.lt).trans (h.fst i x hx), fun i x hx => (hb.cell (p := ⟨s, o + i * 2 + 1, none⟩) h.lt).trans (h.snd i x hx)⟩

set_option maxHeartbeats 1000000 in
theorem Of_at (n : Int) (s o cap : Nat) (l : List (Int × Int)) (w : World) (h : PairsAt w s o l) (hm : l.length ≤ 1152921504606846975) (m : Nat) (Hm : Hid (clampN n = m)) :
    Calls Tryd.prog 17 #[.int .i64 n, .slice (some ⟨s, o, none⟩) l.length cap] w fun e w' => ∃ b c, e = .returned (pv b) ∧ Made w w' b c (ofK m l) := by
  go_enter Tryd.func17, Tryd.ntmps17
  go_wp2_with fail
  refine (New_calls n _).mono ?_
  rw [Hm.out]
  rintro e w1 ⟨b, c, rfl, h1, h2, h3, h4⟩
  have hM1 : Made w w1 b c (List.replicate m 0) := ⟨h1, h2, h3, h4⟩
  clear h1 h2 h3 h4
  go_wp2_with fail
  go_loopw [12] (fun i wr => ∃ k : Nat, k ≤ l.length ∧ i = .int .i64 k ∧ Made w wr b c (ofK m (l.take k))) (fun i _ => l.length - (intOf i).toNat)
  case atStart => exact ⟨0, by omega, rfl, hM1⟩
  case round =>
    clear hM1
    obtain ⟨k, hk, rfl, hM⟩ := hrel
    by_cases hlt : k < l.length
    · obtain ⟨⟨x, y⟩, hx⟩ : ∃ x, l[k]? = some x := ⟨_, List.getElem?_eq_getElem hlt⟩
      have hp := h.below hM.below
      have c0 := hp.fst k _ hx
      have c1 := hp.snd k _ hx
      have HE : Hid (putP (ofK m (l.take k)) x y true = ofK m (l.take (k + 1))) := by
        show _ = _
        rw [List.take_add_one, hx]
        exact (ofK_snoc m _ (x, y)).symm
      clear hx
      go_wp2_with fail
      refine (Put_calls b c (ofK m (l.take k)) x y true _ (hM.alloc _).rel).mono ?_
      rw [HE.out]
      rintro e w2 ⟨rfl, hI, ht⟩
      go_wp2_with fail
      refine ⟨⟨k + 1, by omega, by go_num, (hM.alloc _).touch hI ht⟩, by simp [intOf]; omega⟩
    · obtain rfl : k = l.length := by omega
      rw [List.take_length] at hM
      go_wp2_with fail
      go_ret
      exact ⟨b, c, rfl, hM⟩
theorem Of_calls (n : Int) (s o cap : Nat) (l : List (Int × Int)) (w : World) (h : PairsAt w s o l) (hm : l.length ≤ 1152921504606846975) :
    Calls Tryd.prog 17 #[.int .i64 n, .slice (some ⟨s, o, none⟩) l.length cap] w fun e w' => ∃ b c, e = .returned (pv b) ∧ Made w w' b c (ofL n l) := Of_at n s o cap l w h hm _ rfl
set_option maxHeartbeats 1000000 in
theorem Of_nil (n : Int) (w : World) :
    Calls Tryd.prog 17 #[.int .i64 n, .slice none 0 0] w fun e w' => ∃ b c, e = .returned (pv b) ∧ Made w w' b c (ofL n []) := by
  go_enter Tryd.func17, Tryd.ntmps17
  go_wp2_with fail
  refine (New_calls n _).mono ?_
  rintro e w1 ⟨b, c, rfl, h1, h2, h3, h4⟩
  go_wp2_with fail
  go_loopw [12] (fun i wr => i = .int .i64 0 ∧ wr = w1) (fun _ _ => 0)
  case atStart => exact ⟨rfl, rfl⟩
  case round =>
    obtain ⟨rfl, rfl⟩ := hrel
    go_wp2_with fail
    go_ret
    exact ⟨b, c, rfl, h1, h2, h3, h4⟩
end Go.Proofs.YteejkhgccaagiaaDoor
