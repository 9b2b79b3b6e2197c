/- The statements' own helpers: ints, small, round. -/
import Derived.Test.YteejkhgccaagiaaDoorOrdGlue
namespace Go.Proofs.YteejkhgccaagiaaDoor
open Go.RowKit Go.Shelf Sx

theorem intsR_form {w : World} {v : Value} {l : List Int} (h : IntsR w v l) : ∃ p cap, v = .slice p l.length cap ∧ (0 < l.length → ∃ s o, p = some ⟨s, o, none⟩ ∧ s < w.heap.size ∧ ∀ (i : Nat) (x : Int), l[i]? = some x → w.cell? ⟨s, o + i, none⟩ = some (.int .i64 x)) := by
  rcases h with ⟨a, cap, rfl, rfl⟩ | ⟨s, o, cap, rfl, h1, h2⟩
  · exact ⟨_, _, rfl, fun h => by simp at h⟩
  · exact ⟨_, _, rfl, fun _ => ⟨s, o, rfl, h1, h2⟩⟩
set_option maxRecDepth 100000 in
set_option maxHeartbeats 1000000 in
theorem ints2_calls (v1 v2 : Value) (a b : List Int) (w : World) (h1 : IntsR w v1 a) (h2 : IntsR w v2 b) (hm : a.length ≤ 9223372036854775807) :
    Calls Tryd.prog 20 #[v1, v2] w fun e w' => e = .returned (.bool (a == b)) ∧ Below w.heap.size w w' := by
  obtain ⟨p1, c1, rfl, hp1⟩ := intsR_form h1
  obtain ⟨p2, c2, rfl, hp2⟩ := intsR_form h2
  have HP1 := hid_of hp1
  have HP2 := hid_of hp2
  clear hp1 hp2 h1 h2
  by_cases hl : a.length = b.length
  · have hn : ((a.length : Int) != (b.length : Int)) = false := by rw [hl]; simp
    have HL := hid_of hl
    have HRE : Hid (∀ r : Bool, (a == b) = r → (a == b) = r) := fun _ h => h
    clear hl
    generalize hr : (a == b) = r at *
    have HR := hid_of hr
    clear hr
    go_enter Tryd.func20, Tryd.ntmps20
    go_wp2_with fail
    go_loopw [5] (fun i wr => ∃ k : Nat, k ≤ a.length ∧ i = .int .i64 k ∧ Hid (∀ i, i < k → a[i]? = b[i]?) ∧ Below w.heap.size w wr) (fun i _ => a.length - (intOf i).toNat)
    case atStart => exact ⟨0, by omega, rfl, fun i h => by omega, Below.refl _ _⟩
    case round =>
      obtain ⟨k, hk, rfl, HC, hB⟩ := hrel
      by_cases hlt : k < a.length
      · have hltB : k < b.length := by rw [← HL.out]; exact hlt
        obtain ⟨s1, o1, rfl, l1, k1⟩ := HP1.out (by omega)
        obtain ⟨s2, o2, rfl, l2, k2⟩ := HP2.out (by omega)
        obtain ⟨x, hx⟩ : ∃ x, a[k]? = some x := ⟨_, List.getElem?_eq_getElem hlt⟩
        obtain ⟨y, hy⟩ : ∃ y, b[k]? = some y := ⟨_, List.getElem?_eq_getElem hltB⟩
        have x0 := (hB.cell (p := ⟨s1, o1 + k, none⟩) l1).trans (k1 k x hx)
        have y0 := (hB.cell (p := ⟨s2, o2 + k, none⟩) l2).trans (k2 k y hy)
        have HX := hid_of hx
        have HY := hid_of hy
        clear hx hy k1 k2
        cases hq : (x != y)
        · have Hq : Hid (x = y) := by show x = y; simpa using hq
          go_wp2_with fail
          go_quiet (fail)
          go_wp2_with fail
          refine ⟨⟨k + 1, by omega, by go_num, ?_, below_drewN hB _⟩, by simp [intOf]; omega⟩
          intro i hi
          by_cases e : i = k
          · rw [e, HX.out, HY.out, Hq.out]
          · exact HC.out i (by omega)
        · have Hq : Hid (¬ x = y) := by show ¬ x = y; simpa using hq
          have er : r = false := by
            rw [← HR.out, beq_eq_false_iff_ne]
            intro e
            have h1 := HX.out
            rw [e, HY.out] at h1
            injection h1 with h1
            exact Hq.out h1.symm
          subst er
          go_wp2_with fail
          go_quiet (fail)
          go_wp2_with fail
          go_ret
          exact ⟨rfl, below_drewN hB _⟩
      · obtain rfl : k = a.length := by omega
        have er : r = true := by
          rw [← HR.out, beq_iff_eq]
          apply List.ext_getElem?
          intro i
          by_cases hi : i < a.length
          · exact HC.out i hi
          · rw [List.getElem?_eq_none (by omega), List.getElem?_eq_none (by have := HL.out; omega)]
        subst er
        go_wp2_with fail
        go_ret
        exact ⟨rfl, hB⟩
  · have hn : ((a.length : Int) != (b.length : Int)) = true := by simp; omega
    have e : (a == b) = false := by
      rw [beq_eq_false_iff_ne]
      intro e
      exact hl (by rw [e])
    rw [e]
    go_enter Tryd.func20, Tryd.ntmps20
    go_wp2_with fail
    go_ret
    exact ⟨rfl, Below.refl _ _⟩
def smL : List (Int × Int) := [(2, 0), (3, 1)]
def smR : List Nat := [0, 0, 1, 2]
theorem smR_eq : ofL 4 smL = smR := by decide +kernel
def rdL : List (Int × Int) := [(0, 1), (1, 0), (1, 4), (3, 3), (4, 2)]
def rdR : List Nat := [2, 17, 0, 8, 4]
theorem rdR_eq : ofL 5 rdL = rdR := by decide +kernel
set_option maxHeartbeats 1000000 in
theorem small2_calls (w : World) : Calls Tryd.prog 9 #[] w fun e w' => ∃ b c, e = .returned (pv b) ∧ Made w w' b c smR := by
  have hP : PairsAt (w.alloc (.cells #[.int .i64 2, .int .i64 0, .int .i64 3, .int .i64 1] 37)) w.heap.size 0 smL := by
    have hk := Blk.new w 37 #[.int .i64 2, .int .i64 0, .int .i64 3, .int .i64 1]
    refine ⟨by simp, ?_, ?_⟩
    all_goals
      intro i x hx
      match i with
      | 0 => simp [smL] at hx; subst hx; exact hk.cell rfl
      | 1 => simp [smL] at hx; subst hx; exact hk.cell rfl
      | i + 2 => simp [smL] at hx
  have HP := hid_of hP
  clear hP
  have HC := hid_of (Of_calls 4 w.heap.size 0 2 smL _ HP.out (by decide))
  rw [smR_eq] at HC
  go_enter Tryd.func9, Tryd.ntmps9
  go_wp2_with fail
  refine HC.out.mono ?_
  rintro e w1 ⟨b, c, rfl, hM⟩
  go_wp2_with fail
  go_ret
  refine ⟨b, c, rfl, hM.rel, ?_, ?_, ?_⟩
  · have := hM.hb; simp at this; omega
  · have := hM.hc; simp at this; omega
  · exact ((Below.refl _ w).alloc (Nat.le_refl _) _).trans (hM.below.mono (by simp))
set_option maxHeartbeats 1000000 in
theorem round2_calls (w : World) : Calls Tryd.prog 10 #[] w fun e w' => ∃ b c, e = .returned (pv b) ∧ Made w w' b c rdR := by
  have hP : PairsAt (w.alloc (.cells #[.int .i64 0, .int .i64 1, .int .i64 1, .int .i64 0, .int .i64 1, .int .i64 4, .int .i64 3, .int .i64 3, .int .i64 4, .int .i64 2] 37)) w.heap.size 0 rdL := by
    have hk := Blk.new w 37 #[.int .i64 0, .int .i64 1, .int .i64 1, .int .i64 0, .int .i64 1, .int .i64 4, .int .i64 3, .int .i64 3, .int .i64 4, .int .i64 2]
    refine ⟨by simp, ?_, ?_⟩
    all_goals
      intro i x hx
      match i with
      | 0 => simp [rdL] at hx; subst hx; exact hk.cell rfl
      | 1 => simp [rdL] at hx; subst hx; exact hk.cell rfl
      | 2 => simp [rdL] at hx; subst hx; exact hk.cell rfl
      | 3 => simp [rdL] at hx; subst hx; exact hk.cell rfl
      | 4 => simp [rdL] at hx; subst hx; exact hk.cell rfl
      | i + 5 => simp [rdL] at hx
  have HP := hid_of hP
  clear hP
  have HC := hid_of (Of_calls 5 w.heap.size 0 5 rdL _ HP.out (by decide))
  rw [rdR_eq] at HC
  go_enter Tryd.func10, Tryd.ntmps10
  go_wp2_with fail
  refine HC.out.mono ?_
  rintro e w1 ⟨b, c, rfl, hM⟩
  go_wp2_with fail
  go_ret
  refine ⟨b, c, rfl, hM.rel, ?_, ?_, ?_⟩
  · have := hM.hb; simp at this; omega
  · have := hM.hc; simp at this; omega
  · exact ((Below.refl _ w).alloc (Nat.le_refl _) _).trans (hM.below.mono (by simp))
theorem sort_sm : sortOf smR = [2, 0, 3, 1] := by decide +kernel
theorem sort_rd : (sortOf rdR).length ≠ rdR.length := by decide +kernel
theorem glue_sm : glueF smR [(2, 3)] = ([2, 3, 0, 1], 0) := by decide +kernel
theorem lin_sm : linB smR [2, 0, 3, 1] = true ∧ linB smR [0, 1, 2, 3] = false := by decide +kernel
end Go.Proofs.YteejkhgccaagiaaDoor
