/- The contract of package rel's Plus. -/
import Derived.Test.YtjhhimjnoljojaaGreatDoorJ09
import Derived.Test.YtjhhimjnoljojaaGreatDoorRoundAny
namespace Go.Proofs.YtjhhimjnoljojaaGreatDoor
open Go.RowKit Go.Shelf Sx
def plusRow (A : List Nat) (via p : Nat) : List Nat := if (gr A p).testBit via then A.set p (gr A p ||| gr A via) else A
def plusVia (A : List Nat) (via k : Nat) : List Nat := (List.range k).foldl (fun A p => plusRow A via p) A
def plusN (L : List Nat) (k : Nat) : List Nat := (List.range k).foldl (fun A via => plusVia A via L.length) L
def plusL (L : List Nat) : List Nat := plusN L L.length
theorem plusRow_length (A : List Nat) (via p : Nat) : (plusRow A via p).length = A.length := by unfold plusRow; split <;> simp
theorem plusVia_succ (A : List Nat) (via k : Nat) : plusVia A via (k + 1) = plusRow (plusVia A via k) via k := by simp [plusVia, List.range_succ]
theorem plusN_succ (L : List Nat) (k : Nat) : plusN L (k + 1) = plusVia (plusN L k) k L.length := by simp [plusN, List.range_succ]
theorem plusVia_length (A : List Nat) (via k : Nat) : (plusVia A via k).length = A.length := by
  induction k with
  | zero => rfl
  | succ k ih => rw [plusVia_succ, plusRow_length, ih]
theorem plusN_length (L : List Nat) (k : Nat) : (plusN L k).length = L.length := by
  induction k with
  | zero => rfl
  | succ k ih => rw [plusN_succ, plusVia_length, ih]
set_option maxRecDepth 100000 in
set_option maxHeartbeats 40000000 in
theorem Plus_calls (ba ca : Nat) (L : List Nat) (w : World) (h : IsRel w ba ca L) :
    Calls Tryz.prog 72 #[pv ba] w fun e w' => ∃ b c, e = .returned (pv b) ∧ Made w w' b c (plusL L) := by
  have hl := h.len
  go_enter Tryz.func72, Tryz.ntmps72
  go_wp2_with fail
  refine (Copy_calls ba ca L _ h).mono ?_
  rintro e w1 ⟨b, c, rfl, hM1⟩
  have hh := hM1.rel.hcell
  go_wp2_with fail
  clear hh h
  go_loopw [13] (fun i wr => ∃ k : Nat, k ≤ L.length ∧ i = .int .i64 k ∧ Made w wr b c (plusN L k)) (fun i _ => L.length - (intOf i).toNat)
  case atStart => exact ⟨0, by omega, rfl, hM1⟩
  case round =>
    clear hM1
    obtain ⟨k, hk, rfl, hM⟩ := hrel
    by_cases hlt : k < L.length
    · have HE : Hid (_ = _) := plusN_succ L k
      have hlA := plusN_length L k
      generalize plusN L k = A at *
      have hh := hM.rel.hcell
      rw [hlA] at hh
      have HA : Hid (A.length = L.length) := hlA
      clear hlA
      go_wp2_with fail
      clear hh
      go_loopw [21] (fun i wr => ∃ p : Nat, p ≤ L.length ∧ i = .int .i64 p ∧ Made w wr b c (plusVia A k p)) (fun i _ => L.length - (intOf i).toNat)
      case atStart => exact ⟨0, by omega, rfl, hM⟩
      case round =>
        clear hM
        obtain ⟨p, hp, rfl, hM⟩ := hrel
        by_cases hlt2 : p < L.length
        · have HE2 : Hid (_ = _) := plusVia_succ A k p
          have hlB : (plusVia A k p).length = L.length := by rw [plusVia_length, HA.out]
          generalize plusVia A k p = B at *
          have hpB : p < B.length := by omega
          have hkB : k < B.length := by omega
          obtain ⟨y, ⟨y0, y1, y2, y3⟩, _, q1, q2⟩ := hM.rel.slots (gr_of hpB)
          have HlB : Hid (B.length = L.length) := hlB
          clear hlB
          have hp256 : p < 256 := by omega
          go_wp2_with fail
          refine (has_calls (gr B p) k (by omega) _).mono ?_
          rintro e w2 ⟨rfl, hB2⟩
          have hM2 := hM.step hB2
          clear y y0 y1 y2 y3 q1 q2 hM hB2
          cases hbit : (gr B p).testBit k
          · have HF : Hid (plusRow B k p = B) := by show _ = _; simp [plusRow, hbit]
            go_wp2_with fail
            refine ⟨⟨p + 1, by omega, by go_num, ?_⟩, by simp [intOf]; omega⟩
            rw [HE2.out, HF.out]
            exact hM2
          · have HF : Hid (plusRow B k p = B.set p (gr B p ||| gr B k)) := by show _ = _; simp [plusRow, hbit]
            have HR : Hid (gr B p ||| gr B k < 2 ^ B.length) := or_lt (hM2.rel.gr_lt p) (hM2.rel.gr_lt k)
            clear hbit
            have hg := gr_of hpB
            have HG : Hid (B[p]? = some (gr B p)) := hg
            obtain ⟨y, ⟨y0, y1, y2, y3⟩, _, q1, q2⟩ := hM2.rel.slots hg
            obtain ⟨v0, v1, v2, v3⟩ := hM2.rel.cells (gr_of hkB)
            clear hg
            go_wp2_with fail
            clear hlt hk hp
            refine wp_region_held_drew (S := fun w' => w'.cell? ⟨b, 0, none⟩ = some (.slice (some ⟨c, 0, none⟩) B.length B.length)) (by kernel_rfl) y (fun hHeld => ?_)
            refine wpAnyH_take (i := 0) (v := pv b) rfl (by kernel_rfl) (by kernel_rfl) (by kernel_rfl) (fun _ _ _ h => h) (Or.inl ⟨by rfl, ?_⟩) hHeld ?_
            · intro w' hSw
              clear hHeld
              clear y y0 y1 y2 y3 v0 v1 v2 v3
              simp only [List.getElem_toArray, List.getElem_cons_zero]
              go_simp
            simp only [Act.put, List.getElem_toArray, List.getElem_cons_zero, List.setIfInBounds_toArray, List.set_cons_zero, List.set_cons_succ]
            refine wpAnyH_take (i := 1) (v := pv b) rfl (by kernel_rfl) (by kernel_rfl) (by kernel_rfl) (fun _ _ _ h => h) (Or.inl ⟨by rfl, ?_⟩) hHeld ?_
            · intro w' hSw
              clear hHeld
              clear y y0 y1 y2 y3 v0 v1 v2 v3
              simp only [List.getElem_toArray, List.getElem_cons_zero, List.getElem_cons_succ]
              go_simp
            simp only [Act.put, List.getElem_toArray, List.getElem_cons_zero, List.getElem_cons_succ, List.setIfInBounds_toArray, List.set_cons_zero, List.set_cons_succ]
            refine wpAnyH_take (i := 2) (v := pv b) rfl (by kernel_rfl) (by kernel_rfl) (by kernel_rfl) (fun _ _ _ h => h) (Or.inl ⟨by rfl, ?_⟩) hHeld ?_
            · intro w' hSw
              clear hHeld
              clear y y0 y1 y2 y3 v0 v1 v2 v3
              simp only [List.getElem_toArray, List.getElem_cons_zero, List.getElem_cons_succ]
              go_simp
            simp only [Act.put, List.getElem_toArray, List.getElem_cons_zero, List.getElem_cons_succ, List.setIfInBounds_toArray, List.set_cons_zero, List.set_cons_succ]
            refine wpAnyH_take (i := 3) (v := .slice (some ⟨c, 0, none⟩) B.length B.length) rfl (by kernel_rfl) (by kernel_rfl) (by kernel_rfl) (fun _ _ _ h => h) (Or.inl ⟨by rfl, ?_⟩) hHeld ?_
            · intro w' hSw
              clear hHeld
              clear y y0 y1 y2 y3 v0 v1 v2 v3
              simp only [List.getElem_toArray, List.getElem_cons_zero, List.getElem_cons_succ]
              go_simp
            simp only [Act.put, List.getElem_toArray, List.getElem_cons_zero, List.getElem_cons_succ, List.setIfInBounds_toArray, List.set_cons_zero, List.set_cons_succ]
            refine wpAnyH_take (i := 4) (v := .int .i64 ((p : Nat) : Int)) rfl (by kernel_rfl) (by kernel_rfl) (by kernel_rfl) (fun _ _ _ h => h) (Or.inl ⟨by rfl, ?_⟩) hHeld ?_
            · intro w' hSw
              clear hHeld
              clear y y0 y1 y2 y3 v0 v1 v2 v3
              simp only [List.getElem_toArray, List.getElem_cons_zero, List.getElem_cons_succ]
              go_simp
            simp only [Act.put, List.getElem_toArray, List.getElem_cons_zero, List.getElem_cons_succ, List.setIfInBounds_toArray, List.set_cons_zero, List.set_cons_succ]
            refine wpAnyH_take (i := 5) (v := pv b) rfl (by kernel_rfl) (by kernel_rfl) (by kernel_rfl) (fun _ _ _ h => h) (Or.inl ⟨by rfl, ?_⟩) hHeld ?_
            · intro w' hSw
              clear hHeld
              clear y y0 y1 y2 y3 v0 v1 v2 v3
              simp only [List.getElem_toArray, List.getElem_cons_zero, List.getElem_cons_succ]
              go_simp
            simp only [Act.put, List.getElem_toArray, List.getElem_cons_zero, List.getElem_cons_succ, List.setIfInBounds_toArray, List.set_cons_zero, List.set_cons_succ]
            refine wpAnyH_take (i := 6) (v := pv b) rfl (by kernel_rfl) (by kernel_rfl) (by kernel_rfl) (fun _ _ _ h => h) (Or.inl ⟨by rfl, ?_⟩) hHeld ?_
            · intro w' hSw
              clear hHeld
              clear y y0 y1 y2 y3 v0 v1 v2 v3
              simp only [List.getElem_toArray, List.getElem_cons_zero, List.getElem_cons_succ]
              go_simp
            simp only [Act.put, List.getElem_toArray, List.getElem_cons_zero, List.getElem_cons_succ, List.setIfInBounds_toArray, List.set_cons_zero, List.set_cons_succ]
            refine wpAnyH_take (i := 7) (v := pv b) rfl (by kernel_rfl) (by kernel_rfl) (by kernel_rfl) (fun _ _ _ h => h) (Or.inl ⟨by rfl, ?_⟩) hHeld ?_
            · intro w' hSw
              clear hHeld
              clear y y0 y1 y2 y3 v0 v1 v2 v3
              simp only [List.getElem_toArray, List.getElem_cons_zero, List.getElem_cons_succ]
              go_simp
            simp only [Act.put, List.getElem_toArray, List.getElem_cons_zero, List.getElem_cons_succ, List.setIfInBounds_toArray, List.set_cons_zero, List.set_cons_succ]
            refine wpAnyH_take (i := 8) (v := .slice (some ⟨c, 0, none⟩) B.length B.length) rfl (by kernel_rfl) (by kernel_rfl) (by kernel_rfl) (fun _ _ _ h => h) (Or.inl ⟨by rfl, ?_⟩) hHeld ?_
            · intro w' hSw
              clear hHeld
              clear y y0 y1 y2 y3 v0 v1 v2 v3
              simp only [List.getElem_toArray, List.getElem_cons_zero, List.getElem_cons_succ]
              go_simp
            simp only [Act.put, List.getElem_toArray, List.getElem_cons_zero, List.getElem_cons_succ, List.setIfInBounds_toArray, List.set_cons_zero, List.set_cons_succ]
            refine wpAnyH_take (i := 9) (v := .int .i64 ((p : Nat) : Int)) rfl (by kernel_rfl) (by kernel_rfl) (by kernel_rfl) (fun _ _ _ h => h) (Or.inl ⟨by rfl, ?_⟩) hHeld ?_
            · intro w' hSw
              clear hHeld
              clear y y0 y1 y2 y3 v0 v1 v2 v3
              simp only [List.getElem_toArray, List.getElem_cons_zero, List.getElem_cons_succ]
              go_simp
            simp only [Act.put, List.getElem_toArray, List.getElem_cons_zero, List.getElem_cons_succ, List.setIfInBounds_toArray, List.set_cons_zero, List.set_cons_succ]
            refine wpAnyH_take (i := 10) (v := .pointer (some ⟨c, p * 4, none⟩)) rfl (by kernel_rfl) (by kernel_rfl) (by kernel_rfl) (fun _ _ _ h => h) (Or.inl ⟨by rfl, ?_⟩) hHeld ?_
            · intro w' hSw
              clear hHeld
              clear y y0 y1 y2 y3 v0 v1 v2 v3
              simp only [List.getElem_toArray, List.getElem_cons_zero, List.getElem_cons_succ]
              go_simp
            simp only [Act.put, List.getElem_toArray, List.getElem_cons_zero, List.getElem_cons_succ, List.setIfInBounds_toArray, List.set_cons_zero, List.set_cons_succ]
            refine wpAnyH_take (i := 12) (v := pv b) rfl (by kernel_rfl) (by kernel_rfl) (by kernel_rfl) (fun _ _ _ h => h) (Or.inl ⟨by rfl, ?_⟩) hHeld ?_
            · intro w' hSw
              clear hHeld
              clear y y0 y1 y2 y3 v0 v1 v2 v3
              simp only [List.getElem_toArray, List.getElem_cons_zero, List.getElem_cons_succ]
              go_simp
            simp only [Act.put, List.getElem_toArray, List.getElem_cons_zero, List.getElem_cons_succ, List.setIfInBounds_toArray, List.set_cons_zero, List.set_cons_succ]
            refine wpAnyH_take (i := 13) (v := pv b) rfl (by kernel_rfl) (by kernel_rfl) (by kernel_rfl) (fun _ _ _ h => h) (Or.inl ⟨by rfl, ?_⟩) hHeld ?_
            · intro w' hSw
              clear hHeld
              clear y y0 y1 y2 y3 v0 v1 v2 v3
              simp only [List.getElem_toArray, List.getElem_cons_zero, List.getElem_cons_succ]
              go_simp
            simp only [Act.put, List.getElem_toArray, List.getElem_cons_zero, List.getElem_cons_succ, List.setIfInBounds_toArray, List.set_cons_zero, List.set_cons_succ]
            refine wpAnyH_take (i := 14) (v := pv b) rfl (by kernel_rfl) (by kernel_rfl) (by kernel_rfl) (fun _ _ _ h => h) (Or.inl ⟨by rfl, ?_⟩) hHeld ?_
            · intro w' hSw
              clear hHeld
              clear y y0 y1 y2 y3 v0 v1 v2 v3
              simp only [List.getElem_toArray, List.getElem_cons_zero, List.getElem_cons_succ]
              go_simp
            simp only [Act.put, List.getElem_toArray, List.getElem_cons_zero, List.getElem_cons_succ, List.setIfInBounds_toArray, List.set_cons_zero, List.set_cons_succ]
            refine wpAnyH_take (i := 15) (v := .slice (some ⟨c, 0, none⟩) B.length B.length) rfl (by kernel_rfl) (by kernel_rfl) (by kernel_rfl) (fun _ _ _ h => h) (Or.inl ⟨by rfl, ?_⟩) hHeld ?_
            · intro w' hSw
              clear hHeld
              clear y y0 y1 y2 y3 v0 v1 v2 v3
              simp only [List.getElem_toArray, List.getElem_cons_zero, List.getElem_cons_succ]
              go_simp
            simp only [Act.put, List.getElem_toArray, List.getElem_cons_zero, List.getElem_cons_succ, List.setIfInBounds_toArray, List.set_cons_zero, List.set_cons_succ]
            refine wpAnyH_take (i := 16) (v := .int .i64 ((k : Nat) : Int)) rfl (by kernel_rfl) (by kernel_rfl) (by kernel_rfl) (fun _ _ _ h => h) (Or.inl ⟨by rfl, ?_⟩) hHeld ?_
            · intro w' hSw
              clear hHeld
              clear y y0 y1 y2 y3 v0 v1 v2 v3
              simp only [List.getElem_toArray, List.getElem_cons_zero, List.getElem_cons_succ]
              go_simp
            simp only [Act.put, List.getElem_toArray, List.getElem_cons_zero, List.getElem_cons_succ, List.setIfInBounds_toArray, List.set_cons_zero, List.set_cons_succ]
            refine wpAnyH_take (i := 17) (v := .pointer (some ⟨c, k * 4, none⟩)) rfl (by kernel_rfl) (by kernel_rfl) (by kernel_rfl) (fun _ _ _ h => h) (Or.inl ⟨by rfl, ?_⟩) hHeld ?_
            · intro w' hSw
              clear hHeld
              clear y y0 y1 y2 y3 v0 v1 v2 v3
              simp only [List.getElem_toArray, List.getElem_cons_zero, List.getElem_cons_succ]
              go_simp
            simp only [Act.put, List.getElem_toArray, List.getElem_cons_zero, List.getElem_cons_succ, List.setIfInBounds_toArray, List.set_cons_zero, List.set_cons_succ]
            refine wpAnyH_ready (rs := [11, 18]) (by kernel_rfl) (by simp) ?_
            refine AllReadyH.cons rfl (fun K hK => ?_) ?_
            · simp only [List.getElem_toArray, List.getElem_cons_zero, List.getElem_cons_succ]
              go_simp
              refine hK.out _ _ hHeld (fun hHeld => ?_)
              clear hK K
              refine wpAnyH_ready (rs := [18]) (by kernel_rfl) (by simp) ?_
              refine AllReadyH.cons rfl (fun K hK => ?_) AllReadyH.nil
              simp only [List.getElem_toArray, List.getElem_cons_zero, List.getElem_cons_succ]
              go_simp
              refine hK.out _ _ hHeld (fun hHeld => ?_)
              clear hK K
              refine wpAnyH_ready (rs := [19]) (by kernel_rfl) (by simp) ?_
              refine AllReadyH.cons rfl (fun K hK => ?_) AllReadyH.nil
              simp only [List.getElem_toArray, List.getElem_cons_zero, List.getElem_cons_succ]
              go_simp
              have hM2a := (hM2.alloc (.cells #[.int .u64 ((wd (gr B p) 0 : Nat) : Int), .int .u64 ((wd (gr B p) 1 : Nat) : Int), .int .u64 ((wd (gr B p) 2 : Nat) : Int), .int .u64 ((wd (gr B p) 3 : Nat) : Int), .int .u64 ((wd (gr B k) 0 : Nat) : Int), .int .u64 ((wd (gr B k) 1 : Nat) : Int), .int .u64 ((wd (gr B k) 2 : Nat) : Int), .int .u64 ((wd (gr B k) 3 : Nat) : Int)] 106)).drew
              refine hK.out _ _ hM2a.rel.hcell (fun hHeld => ?_)
              clear hK K
              refine wpAnyH_ready (rs := [20]) (by kernel_rfl) (by simp) ?_
              refine AllReadyH.cons rfl (fun K hK => ?_) AllReadyH.nil
              simp only [List.getElem_toArray, List.getElem_cons_zero, List.getElem_cons_succ]
              go_simp
              go_at_call 73
              refine (join_calls (gr B p) (gr B k) _ _ (by rw [two_lit]; first | exact (Blk.new _ _ _).drew | exact Blk.new _ _ _)).mono ?_
              rintro e w3 ⟨rfl, hB3⟩
              have hM3 := hM2a.step hB3
              refine hK.out _ _ hM3.rel.hcell (fun hHeld => ?_)
              clear hK K y y0 y1 y2 y3 v0 v1 v2 v3
              refine wpAnyH_take (i := 21) (v := .pointer (some ⟨c, p * 4, none⟩)) rfl (by kernel_rfl) (by kernel_rfl) (by kernel_rfl) (fun _ _ _ h => h) (Or.inl ⟨by rfl, ?_⟩) hHeld ?_
              · intro w' hSw
                clear hHeld
                simp only [List.getElem_toArray, List.getElem_cons_zero, List.getElem_cons_succ]
                go_simp
              simp only [Act.put, List.getElem_toArray, List.getElem_cons_zero, List.getElem_cons_succ, List.setIfInBounds_toArray, List.set_cons_zero, List.set_cons_succ]
              refine wpAnyH_ready (rs := [22]) (by kernel_rfl) (by simp) ?_
              refine AllReadyH.cons rfl (fun K hK => ?_) AllReadyH.nil
              simp only [List.getElem_toArray, List.getElem_cons_zero, List.getElem_cons_succ]
              obtain ⟨z, ⟨z0, z1, z2, z3⟩, ⟨f0, f1, f2, f3⟩, q5, q6⟩ := hM3.rel.slots HG.out
              go_simp
              have hM5 := hM3.put hpB HR.out
              have hz5 := hM5.rel.hcell
              rw [List.length_set] at hz5
              refine hK.out _ _ hz5 (fun _ => ?_)
              clear hK K
              refine wpAnyH_done (by kernel_rfl) ?_ _
              clear hHeld z z0 z1 z2 z3 f0 f1 f2 f3 hz5
              go_wp2_with fail
              refine ⟨⟨p + 1, by omega, by go_num, ?_⟩, by simp [intOf]; omega⟩
              rw [HE2.out, HF.out]
              exact hM5
            · refine AllReadyH.cons rfl (fun K hK => ?_) AllReadyH.nil
              simp only [List.getElem_toArray, List.getElem_cons_zero, List.getElem_cons_succ]
              go_simp
              refine hK.out _ _ hHeld (fun hHeld => ?_)
              clear hK K
              refine wpAnyH_ready (rs := [11]) (by kernel_rfl) (by simp) ?_
              refine AllReadyH.cons rfl (fun K hK => ?_) AllReadyH.nil
              simp only [List.getElem_toArray, List.getElem_cons_zero, List.getElem_cons_succ]
              go_simp
              refine hK.out _ _ hHeld (fun hHeld => ?_)
              clear hK K
              refine wpAnyH_ready (rs := [19]) (by kernel_rfl) (by simp) ?_
              refine AllReadyH.cons rfl (fun K hK => ?_) AllReadyH.nil
              simp only [List.getElem_toArray, List.getElem_cons_zero, List.getElem_cons_succ]
              go_simp
              have hM2a := (hM2.alloc (.cells #[.int .u64 ((wd (gr B p) 0 : Nat) : Int), .int .u64 ((wd (gr B p) 1 : Nat) : Int), .int .u64 ((wd (gr B p) 2 : Nat) : Int), .int .u64 ((wd (gr B p) 3 : Nat) : Int), .int .u64 ((wd (gr B k) 0 : Nat) : Int), .int .u64 ((wd (gr B k) 1 : Nat) : Int), .int .u64 ((wd (gr B k) 2 : Nat) : Int), .int .u64 ((wd (gr B k) 3 : Nat) : Int)] 106)).drew
              refine hK.out _ _ hM2a.rel.hcell (fun hHeld => ?_)
              clear hK K
              refine wpAnyH_ready (rs := [20]) (by kernel_rfl) (by simp) ?_
              refine AllReadyH.cons rfl (fun K hK => ?_) AllReadyH.nil
              simp only [List.getElem_toArray, List.getElem_cons_zero, List.getElem_cons_succ]
              go_simp
              go_at_call 73
              refine (join_calls (gr B p) (gr B k) _ _ (by rw [two_lit]; first | exact (Blk.new _ _ _).drew | exact Blk.new _ _ _)).mono ?_
              rintro e w3 ⟨rfl, hB3⟩
              have hM3 := hM2a.step hB3
              refine hK.out _ _ hM3.rel.hcell (fun hHeld => ?_)
              clear hK K y y0 y1 y2 y3 v0 v1 v2 v3
              refine wpAnyH_take (i := 21) (v := .pointer (some ⟨c, p * 4, none⟩)) rfl (by kernel_rfl) (by kernel_rfl) (by kernel_rfl) (fun _ _ _ h => h) (Or.inl ⟨by rfl, ?_⟩) hHeld ?_
              · intro w' hSw
                clear hHeld
                simp only [List.getElem_toArray, List.getElem_cons_zero, List.getElem_cons_succ]
                go_simp
              simp only [Act.put, List.getElem_toArray, List.getElem_cons_zero, List.getElem_cons_succ, List.setIfInBounds_toArray, List.set_cons_zero, List.set_cons_succ]
              refine wpAnyH_ready (rs := [22]) (by kernel_rfl) (by simp) ?_
              refine AllReadyH.cons rfl (fun K hK => ?_) AllReadyH.nil
              simp only [List.getElem_toArray, List.getElem_cons_zero, List.getElem_cons_succ]
              obtain ⟨z, ⟨z0, z1, z2, z3⟩, ⟨f0, f1, f2, f3⟩, q5, q6⟩ := hM3.rel.slots HG.out
              go_simp
              have hM5 := hM3.put hpB HR.out
              have hz5 := hM5.rel.hcell
              rw [List.length_set] at hz5
              refine hK.out _ _ hz5 (fun _ => ?_)
              clear hK K
              refine wpAnyH_done (by kernel_rfl) ?_ _
              clear hHeld z z0 z1 z2 z3 f0 f1 f2 f3 hz5
              go_wp2_with fail
              refine ⟨⟨p + 1, by omega, by go_num, ?_⟩, by simp [intOf]; omega⟩
              rw [HE2.out, HF.out]
              exact hM5
        · obtain rfl : p = L.length := by omega
          go_wp2_with fail
          refine ⟨⟨k + 1, by omega, by go_num, ?_⟩, by simp [intOf]; omega⟩
          rw [HE.out]
          exact hM
    · obtain rfl : k = L.length := by omega
      go_wp2_with fail
      go_ret
      exact ⟨b, c, rfl, hM⟩
end Go.Proofs.YtjhhimjnoljojaaGreatDoor
