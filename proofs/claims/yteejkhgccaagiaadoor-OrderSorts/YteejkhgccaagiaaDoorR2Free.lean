/- The reference's free. -/
import Derived.Test.YteejkhgccaagiaaDoorOrdTwice
import Derived.Test.YteejkhgccaagiaaDoorRefOfO
namespace Go.Proofs.YteejkhgccaagiaaDoor
open Go.RowKit Go.Shelf Sx

def freeF (n : Nat) (F : Nat → Nat → Bool) (D : List Bool) (p : Nat) : Bool := !(D.getD p false) && (List.range n).all (fun a => !(F a p && !(D.getD a false)))
theorem arrB_cell {w : World} {g : Nat} {D : List Bool} (h : Blk w g 4 (arrB D)) {i : Nat} (hi : i < D.length) : w.cell? ⟨g, i, none⟩ = some (.bool (D.getD i false)) := h.cell (by simp [arrB, List.getD, hi])
set_option maxRecDepth 100000 in
set_option maxHeartbeats 2000000 in
theorem r2free_calls (lo n : Nat) (hn : n ≤ 256) (x : Option Addr) (y z : Nat) (rb : Nat → Nat) (F : Nat → Nat → Bool) (D : List Bool) (g p : Nat) (w : World) (h : RefM lo w (.slice x y z) n n rb F) (hD : Blk w g 4 (arrB D)) (hDn : D.length = n) (hp : p < n) :
    Calls Tryd.prog 53 #[.agg #[.int .i64 ((n : Nat) : Int), .slice x y z], .slice (some ⟨g, 0, none⟩) n n, .int .i64 p] w fun e w' => e = .returned (.bool (freeF n F D p)) ∧ Below w.heap.size w w' := by
  have d0 := cellA' (arrB_cell hD (i := p) (by omega)) (.cells #[.int .i64 ((n : Nat) : Int), .slice x y z] 46)
  have p0 : (0 : Int) ≤ (p : Int) := by omega
  have p1 : (p : Int) < (n : Int) := by omega
  have hb := Blk.new w 46 #[.int .i64 ((n : Nat) : Int), .slice x y z]
  have hBA := (Below.refl w.heap.size w).alloc (Nat.le_refl _) (.cells #[.int .i64 ((n : Nat) : Int), .slice x y z] 46)
  have HB0 := hid_of hb
  cases hd : D.getD p false
  · rw [hd] at d0
    have er : freeF n F D p = (List.range n).all (fun a => !(F a p && !(D.getD a false))) := by unfold freeF; rw [hd]; rfl
    rw [er]
    generalize hr : (List.range n).all (fun a => !(F a p && !(D.getD a false))) = r
    have HR := hid_of hr
    clear er hr hd
    go_enter Tryd.func53, Tryd.ntmps53
    go_wp2_with fail
    go_loopw [7] (fun i wr => ∃ a : Nat, a ≤ n ∧ i = .int .i64 a ∧ Hid (∀ j, j < a → (F j p && !(D.getD j false)) = false) ∧ Below (w.heap.size + 1) (w.alloc (.cells #[.int .i64 ((n : Nat) : Int), .slice x y z] 46)) wr) (fun i _ => n - (intOf i).toNat)
    case atStart => exact ⟨0, by omega, rfl, fun j hj => by omega, Below.refl _ _⟩
    case round =>
      obtain ⟨a, ha, rfl, HC, hBl⟩ := hrel
      have hbr := HB0.out.below hBl (by omega)
      have b0 := hbr.cell (j := 0) rfl
      have b1 := hbr.cell (j := 1) rfl
      have hBw : Below w.heap.size w wr := hBA.trans (hBl.mono (by omega))
      by_cases hlt : a < n
      · obtain ⟨gm, cap, hM, _, _, _, m1, m2, _, _⟩ := (h.below hBw).at_ hlt hp
        injection hM with hM1 hM2 hM3
        have e2 := hM2.symm
        have e3 := hM3.symm
        subst hM1; subst e2; subst e3
        have d1 := arrB_cell (hD.of_below hBw) (i := a) (by omega)
        have a0 : (0 : Int) ≤ (a : Int) := by omega
        have a1 : (a : Int) < (n : Int) := by omega
        cases hF : F a p
        · rw [hF] at m2
          go_wp2_with fail
          refine ⟨⟨a + 1, by omega, by go_num, ?_, hBl⟩, by simp [intOf]; omega⟩
          intro j hj
          by_cases e : j = a
          · subst e; rw [hF]; rfl
          · exact HC.out j (by omega)
        · rw [hF] at m2
          cases hDa : D.getD a false
          · rw [hDa] at d1
            have er : r = false := by
              rw [← HR.out, List.all_eq_false]
              exact ⟨a, by simpa using hlt, by rw [hF, hDa]; decide⟩
            subst er
            go_wp2_with fail
            go_ret
            exact ⟨rfl, hBw⟩
          · rw [hDa] at d1
            go_wp2_with fail
            refine ⟨⟨a + 1, by omega, by go_num, ?_, hBl⟩, by simp [intOf]; omega⟩
            intro j hj
            by_cases e : j = a
            · subst e; rw [hF, hDa]; rfl
            · exact HC.out j (by omega)
      · obtain rfl : a = n := by omega
        have er : r = true := by
          rw [← HR.out, List.all_eq_true]
          intro j hj
          rw [HC.out j (by simpa using hj)]
          rfl
        subst er
        go_wp2_with fail
        go_ret
        exact ⟨rfl, hBw⟩
  · rw [hd] at d0
    have er : freeF n F D p = false := by unfold freeF; rw [hd]; rfl
    rw [er]
    clear er hd
    go_enter Tryd.func53, Tryd.ntmps53
    go_wp2_with fail
    go_ret
    exact ⟨rfl, hBA⟩
end Go.Proofs.YteejkhgccaagiaaDoor
