/- Of, for lists of pairs that were handed in: of any length, at any address. -/
import Derived.Test.YteejkhgccaagiaaDoorOfWalk
namespace Go.Proofs.YteejkhgccaagiaaDoor
open Go.RowKit Go.Shelf Sx

set_option maxHeartbeats 1000000 in
theorem Of_big (n : Int) (s o cap : Nat) (l : List (Int × Int)) (w : World) (h : PairsAt w s o l) (hm : l.length ≤ 9223372036854775807) (m : Nat) (Hm : Hid (clampN n = m)) :
    Calls Tryd.prog 17 #[.int .i64 n, .slice (some ⟨s, o, none⟩) l.length cap] w fun e w' => ∃ b c, e = .returned (pv b) ∧ Made w w' b c (ofK m l) := by
  go_enter Tryd.func17, Tryd.ntmps17
  go_wp2_with fail
  refine (New_calls n _).mono ?_
  rw [Hm.out]
  rintro e w1 ⟨b, c, rfl, h1, h2, h3, h4⟩
  have hM1 : Made w w1 b c (List.replicate m 0) := ⟨h1, h2, h3, h4⟩
  clear h1 h2 h3 h4
  go_wp2_with fail
  go_loopw [12] (fun i wr => ∃ k : Nat, k ≤ l.length ∧ i = .int .i64 k ∧ Made w wr b c (ofK m (l.take k))) (fun i _ => l.length - (intOf i).toNat)
  case atStart => exact ⟨0, by omega, rfl, hM1⟩
  case round =>
    clear hM1
    obtain ⟨k, hk, rfl, hM⟩ := hrel
    by_cases hlt : k < l.length
    · obtain ⟨⟨x, y⟩, hx⟩ : ∃ x, l[k]? = some x := ⟨_, List.getElem?_eq_getElem hlt⟩
      have hp := h.below hM.below
      have c0 := hp.fst k _ hx
      have c1 := hp.snd k _ hx
      have HE : Hid (putP (ofK m (l.take k)) x y true = ofK m (l.take (k + 1))) := by
        show _ = _
        rw [List.take_add_one, hx]
        exact (ofK_snoc m _ (x, y)).symm
      clear hx
      go_wp2_with fail
      refine (Put_calls b c (ofK m (l.take k)) x y true _ (hM.alloc _).rel).mono ?_
      rw [HE.out]
      rintro e w2 ⟨rfl, hI, ht⟩
      go_wp2_with fail
      refine ⟨⟨k + 1, by omega, by go_num, (hM.alloc _).touch hI ht⟩, by simp [intOf]; omega⟩
    · obtain rfl : k = l.length := by omega
      rw [List.take_length] at hM
      go_wp2_with fail
      go_ret
      exact ⟨b, c, rfl, hM⟩
set_option maxHeartbeats 1000000 in
theorem Of_none (n : Int) (x : Option Addr) (cap : Nat) (w : World) :
    Calls Tryd.prog 17 #[.int .i64 n, .slice x 0 cap] w fun e w' => ∃ b c, e = .returned (pv b) ∧ Made w w' b c (ofL n []) := by
  go_enter Tryd.func17, Tryd.ntmps17
  go_wp2_with fail
  refine (New_calls n _).mono ?_
  rintro e w1 ⟨b, c, rfl, h1, h2, h3, h4⟩
  go_wp2_with fail
  go_loopw [12] (fun i wr => i = .int .i64 0 ∧ wr = w1) (fun _ _ => 0)
  case atStart => exact ⟨rfl, rfl⟩
  case round =>
    obtain ⟨rfl, rfl⟩ := hrel
    go_wp2_with fail
    go_ret
    exact ⟨b, c, rfl, h1, h2, h3, h4⟩
/-- A list of pairs that was handed in. -/
def PArg (w : World) (v : Value) (l : List (Int × Int)) : Prop := (∃ x cap, v = .slice x 0 cap ∧ l = []) ∨ ∃ s o cap, v = .slice (some ⟨s, o, none⟩) l.length cap ∧ PairsAt w s o l ∧ l.length ≤ 9223372036854775807
theorem PArg.below {w w' : World} {v : Value} {l : List (Int × Int)} (h : PArg w v l) (hb : Below w.heap.size w w') : PArg w' v l := by
  rcases h with h | ⟨s, o, cap, h1, h2, h3⟩
  · exact .inl h
  · exact .inr ⟨s, o, cap, h1, h2.below hb, h3⟩
theorem OfT (n : Int) (v : Value) (l : List (Int × Int)) (w : World) (h : PArg w v l) :
    Calls Tryd.prog 17 #[.int .i64 n, v] w fun e w' => ∃ b c, e = .returned (pv b) ∧ Made w w' b c (ofL n l) := by
  rcases h with ⟨x, cap, rfl, rfl⟩ | ⟨s, o, cap, rfl, h2, h3⟩
  · exact Of_none n x cap w
  · exact Of_big n s o cap l w h2 h3 _ rfl
end Go.Proofs.YteejkhgccaagiaaDoor
