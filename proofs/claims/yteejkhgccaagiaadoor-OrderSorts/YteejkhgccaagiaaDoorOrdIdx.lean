/- The contracts of slices.Index and slices.Clone at lists of ints. -/
import Derived.Test.YteejkhgccaagiaaDoorOrdMem
import Derived.Maps.AppendAt
namespace Go.Proofs.YteejkhgccaagiaaDoor
open Go.RowKit Go.Shelf Sx

/-- The first nought's place, or -1. -/
def fz (l : List Int) : Int := match l.findIdx? (fun x => x == 0) with | some i => (i : Int) | none => -1
theorem fz_at {l : List Int} {k : Nat} (h0 : l[k]? = some 0) (hb : ∀ i, i < k → l[i]? ≠ some 0) : fz l = (k : Int) := by
  obtain ⟨hk, e⟩ := List.getElem?_eq_some_iff.1 h0
  have : l.findIdx? (fun x => x == 0) = some k := by
    rw [List.findIdx?_eq_some_iff_getElem]
    refine ⟨hk, by rw [e]; rfl, fun j hj => ?_⟩
    have := hb j hj
    rw [List.getElem?_eq_getElem (by omega)] at this
    simpa using this
  simp [fz, this]
theorem fz_none {l : List Int} (hb : ∀ i, i < l.length → l[i]? ≠ some 0) : fz l = -1 := by
  have : l.findIdx? (fun x => x == 0) = none := by
    rw [List.findIdx?_eq_none_iff]
    intro x hx
    obtain ⟨i, hi, rfl⟩ := List.mem_iff_getElem.1 hx
    have := hb i hi
    rw [List.getElem?_eq_getElem hi] at this
    simpa using this
  simp [fz, this]
set_option maxHeartbeats 2000000 in
theorem slIndex_calls (v : Value) (l : List Int) (w : World) (hv : IntsR w v l) (hm : l.length ≤ 1000000) :
    Calls Tryd.prog 66 #[v, .int .i64 0] w fun e w' => e = .returned (.int .i64 (fz l)) ∧ Below w.heap.size w w' := by
  have hp : ∃ p cap, v = .slice p l.length cap ∧ (0 < l.length → ∃ s o, p = some ⟨s, o, none⟩ ∧ s < w.heap.size ∧ ∀ (i : Nat) (x : Int), l[i]? = some x → w.cell? ⟨s, o + i, none⟩ = some (.int .i64 x)) := by
    rcases hv with ⟨a, cap, rfl, rfl⟩ | ⟨s, o, cap, rfl, h1, h2⟩
    · exact ⟨_, _, rfl, fun h => by simp at h⟩
    · exact ⟨_, _, rfl, fun _ => ⟨s, o, rfl, h1, h2⟩⟩
  clear hv
  obtain ⟨p, cap, rfl, hp⟩ := hp
  go_enter Tryd.func66, Tryd.ntmps66
  go_wp2_with fail
  go_loopw [8] (fun i wr => ∃ k : Nat, k ≤ l.length ∧ i = .int .i64 k ∧ Hid (∀ i, i < k → l[i]? ≠ some 0) ∧ Below w.heap.size w wr) (fun i _ => l.length - (intOf i).toNat)
  case atStart => exact ⟨0, by omega, rfl, fun i h => by omega, Below.refl _ _⟩
  case round =>
    obtain ⟨k, hk, rfl, HC, hB⟩ := hrel
    by_cases hlt : k < l.length
    · obtain ⟨s, o, rfl, hs, hc⟩ := hp (by omega)
      obtain ⟨x, hx⟩ : ∃ x, l[k]? = some x := ⟨_, List.getElem?_eq_getElem hlt⟩
      have c0 := (hB.cell (p := ⟨s, o + k, none⟩) hs).trans (hc k x hx)
      have HX := hid_of hx
      clear hx hc hp
      cases hz : ((0 : Int) == x)
      · have HZ : Hid (¬ x = 0) := by show ¬ _; intro e; rw [e] at hz; simp at hz
        go_wp2_with fail
        refine ⟨⟨k + 1, by omega, by go_num, ?_, hB⟩, by simp [intOf]; omega⟩
        intro i hi
        by_cases e : i = k
        · rw [e, HX.out]; intro h; exact HZ.out (by injection h)
        · exact HC.out i (by omega)
      · have HZ : Hid (x = 0) := by show x = 0; have := eq_of_beq hz; exact this.symm
        go_wp2_with fail
        go_ret
        refine ⟨?_, hB⟩
        rw [fz_at (k := k) (by rw [HX.out, HZ.out]) HC.out]
        rfl
    · obtain rfl : k = l.length := by omega
      go_wp2_with fail
      go_ret
      exact ⟨by rw [fz_none HC.out]; rfl, hB⟩
end Go.Proofs.YteejkhgccaagiaaDoor
