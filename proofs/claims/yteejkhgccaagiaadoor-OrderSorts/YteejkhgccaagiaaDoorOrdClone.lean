/- The contract of slices.Clone at lists of ints. -/
import Derived.Test.YteejkhgccaagiaaDoorOrdIdx
import Derived.Shelf.Lay
import Derived.Deep.Onto
import Derived.Ground.SlgnProg
import Derived.Shelf.SlicesE.Clone
namespace Go.Proofs
open Go.Shelf
shelf_lay_g SlLaysE0.n41 Slgn 41 at Tryd 68 as Tryd.laysCloneI
end Go.Proofs
namespace Go.Proofs.YteejkhgccaagiaaDoor
open Go.RowKit Go.Shelf Sx

theorem sizeOf_int (w : World) : (Go.sizeOf 3).run Tryd.prog w = .ok 1 w := by
  obtain ⟨i, hx, hz, hs, hb⟩ := info_parts Tryd.infoint
  simp [Go.sizeOf, typeInfo, hx, hs]
set_option maxRecDepth 100000 in
theorem cloneI_calls (v : Value) (l : List Int) (w : World) (hv : IntsR w v l) (hn : l = [] → v = .slice none 0 0) (hm : l.length ≤ 1000000) :
    Calls Tryd.prog 68 #[v] w fun e w' => ∃ v', e = .returned v' ∧ w'.ownsRow w.heap.size 3 1 v' l.length (encJ l) ∧ Below w.heap.size w w' := by
  obtain ⟨i, hx, hz, hs, hby⟩ := info_parts Tryd.infoint
  cases l with
  | nil =>
    rw [hn rfl]
    refine (AnyE.slices_Clone_nil Tryd.laysCloneI 0 0 w).mono ?_
    rintro e w' ⟨rfl, rfl⟩
    exact ⟨_, rfl, World.ownsRow_nil _ _ _ _, Below.refl _ _⟩
  | cons x0 l0 =>
    obtain ⟨s, o, cap, rfl, h1, h2⟩ := hv.some (by simp)
    generalize x0 :: l0 = l at *
    refine (AnyE.slices_Clone Tryd.laysCloneI i (.int .i64 0) 1 8 hx hz hs hby rfl (by omega) sizeOf_int s o l.length cap (encJ l) w (by simp [encJ]) (by unfold maxLen; omega) (by omega) (fun j u hj => ?_) (fun u hu => ?_)).mono ?_
    · rw [encJ, List.getElem?_map] at hj
      cases hx : l[j]? with
      | none => rw [hx] at hj; cases hj
      | some y =>
        rw [hx] at hj
        injection hj with hj
        subst hj
        exact h2 j y hx
    · obtain ⟨k, _, rfl⟩ := List.mem_map.1 hu
      rfl
    · rintro e w' ⟨v', rfl, ho, _, hB⟩
      exact ⟨v', rfl, ho, hB⟩
end Go.Proofs.YteejkhgccaagiaaDoor
