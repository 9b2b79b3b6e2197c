/- Package order's between. -/
import Derived.Test.YteejkhgccaagiaaDoorOrdSortW
namespace Go.Proofs.YteejkhgccaagiaaDoor
open Go.RowKit Go.Shelf Sx

def toI (l : List Nat) : List Int := l.map (fun x => ((x : Nat) : Int))
theorem toI_length (l : List Nat) : (toI l).length = l.length := by simp [toI]
theorem toI_at {l : List Nat} {i x : Nat} (h : l[i]? = some x) : (toI l)[i]? = some ((x : Nat) : Int) := by simp [toI, h]
/-- A list of lists in memory. -/
def BlocksR (w : World) (v : Value) (bs : List (List Nat)) : Prop := ∃ p cap, v = .slice p bs.length cap ∧ ∃ vs : List Value, vs.length = bs.length ∧
  (0 < bs.length → ∃ s, p = some ⟨s, 0, none⟩ ∧ s < w.heap.size ∧ ∀ (i : Nat) (u : Value), vs[i]? = some u → w.cell? ⟨s, i, none⟩ = some u) ∧ ∀ (i : Nat) (u : Value) (bl : List Nat), vs[i]? = some u → bs[i]? = some bl → IntsR w u (toI bl)
theorem BlocksR.below {w w' : World} {v : Value} {bs : List (List Nat)} (h : BlocksR w v bs) (hb : Below w.heap.size w w') : BlocksR w' v bs := by
  obtain ⟨p, cap, e, vs, h1, h2, h3⟩ := h
  refine ⟨p, cap, e, vs, h1, fun h0 => ?_, fun i u bl hu hbl => (h3 i u bl hu hbl).below hb⟩
  obtain ⟨s, e2, h4, h5⟩ := h2 h0
  exact ⟨s, e2, Nat.lt_of_lt_of_le h4 hb.size, fun i u hu => (hb.cell (p := ⟨s, i, none⟩) h4).trans (h5 i u hu)⟩
def setAll (B : List Int) (i : Nat) (b : List Nat) : List Int := b.foldl (fun B p => B.set p (i : Int)) B
theorem setAll_snoc (B : List Int) (i : Nat) (b : List Nat) (p : Nat) : setAll B i (b ++ [p]) = (setAll B i b).set p (i : Int) := by simp [setAll]
theorem setAll_length (i : Nat) (b : List Nat) (B : List Int) : (setAll B i b).length = B.length := by
  unfold setAll
  induction b generalizing B with
  | nil => rfl
  | cons p b ih => rw [List.foldl_cons, ih, List.length_set]
/-- Of each point the number of its block. -/
def blkK (n : Nat) (bs : List (List Nat)) (k : Nat) : List Int := (List.range k).foldl (fun B i => setAll B i (bs.getD i [])) (List.replicate n 0)
theorem blkK_succ (n : Nat) (bs : List (List Nat)) (k : Nat) : blkK n bs (k + 1) = setAll (blkK n bs k) k (bs.getD k []) := by simp [blkK, List.range_succ]
theorem blkK_length (n : Nat) (bs : List (List Nat)) : ∀ k, (blkK n bs k).length = n
  | 0 => by simp [blkK]
  | k + 1 => by rw [blkK_succ, setAll_length, blkK_length n bs k]
def btK (B : List Int) (m : Nat) (ps : List (Nat × Nat)) : List Nat := ps.foldl (fun A x => if B.getD x.1 0 = B.getD x.2 0 then A else putP A (B.getD x.1 0) (B.getD x.2 0) true) (List.replicate m 0)
theorem btK_snoc (B : List Int) (m : Nat) (ps : List (Nat × Nat)) (x : Nat × Nat) : btK B m (ps ++ [x]) = if B.getD x.1 0 = B.getD x.2 0 then btK B m ps else putP (btK B m ps) (B.getD x.1 0) (B.getD x.2 0) true := by simp [btK]
/-- The relation of blocks. -/
def betw (L : List Nat) (bs : List (List Nat)) : List Nat := btK (blkK L.length bs bs.length) bs.length (pairsL L)
theorem new_small (m : Nat) (hm : m ≤ 256) (w : World) : Calls Tryd.prog 14 #[.int .i64 m] w fun e w' => ∃ b c, e = .returned (pv b) ∧ Made w w' b c (List.replicate m 0) := New_c m hm w
set_option maxRecDepth 100000 in
set_option maxHeartbeats 8000000 in
theorem oBetween_calls (b c : Nat) (L : List Nat) (v : Value) (bs : List (List Nat)) (w : World) (h : IsRel w b c L) (hT : Tab w) (hv : BlocksR w v bs) (hm : bs.length ≤ 256) (hp : ∀ bl ∈ bs, bl.length ≤ 256 ∧ ∀ p ∈ bl, p < L.length) :
    Calls Tryd.prog 70 #[pv b, v] w fun e w' => ∃ b2 c2, e = .returned (pv b2) ∧ Made w w' b2 c2 (betw L bs) := by
  have hl := h.len
  have hmk := make_ints L.length (by omega)
  have hv0 := hv
  obtain ⟨p, cap, rfl, vs, hvl, hvs, hrow⟩ := hv
  have HVS := hid_of hvs
  have HROW := hid_of hrow
  have HP := hid_of hp
  clear hvs hrow hp hv0
  go_enter Tryd.func70, Tryd.ntmps70
  go_wp2_with (go_at_call 30; refine (Len_calls b c L _ h).mono ?_; rintro e w' ⟨rfl, hw'⟩; obtain rfl : w = w' := hw'.symm)
  have hB0 : Below w.heap.size w (w.alloc (.cells (intsA (List.replicate L.length 0)) 3)) := (Below.refl _ _).alloc (Nat.le_refl _) _
  go_loopw [20] (fun i wr => ∃ k : Nat, k ≤ bs.length ∧ i = .int .i64 k ∧ Blk wr w.heap.size 3 (intsA (blkK L.length bs k)) ∧ Below w.heap.size w wr) (fun i _ => bs.length - (intOf i).toNat)
  case atStart => exact ⟨0, by omega, rfl, Blk.new _ _ _, hB0⟩
  case round =>
    clear hB0 hmk
    obtain ⟨k, hk, rfl, hB, hBl⟩ := hrel
    by_cases hlt : k < bs.length
    · obtain ⟨s, rfl, hs1, hs2⟩ := HVS.out (by omega)
      obtain ⟨u, hu⟩ : ∃ u, vs[k]? = some u := ⟨_, List.getElem?_eq_getElem (by omega)⟩
      obtain ⟨bl, hbl⟩ : ∃ bl, bs[k]? = some bl := ⟨_, List.getElem?_eq_getElem hlt⟩
      have c0 := (hBl.cell (p := ⟨s, k, none⟩) hs1).trans (hs2 k u hu)
      have hIR := HROW.out k u bl hu hbl
      obtain ⟨hb1, hb2⟩ := HP.out bl (List.mem_of_getElem? hbl)
      have HE : Hid (blkK L.length bs (k + 1) = setAll (blkK L.length bs k) k bl) := by
        show _ = _
        rw [blkK_succ, List.getD_eq_getElem?_getD, hbl]; rfl
      have hBk := blkK_length L.length bs k
      obtain ⟨ua, ucap, rfl, hup⟩ : ∃ a cap, u = .slice a bl.length cap ∧ (0 < bl.length → ∃ s o, a = some ⟨s, o, none⟩ ∧ s < w.heap.size ∧ ∀ (i x : Nat), bl[i]? = some x → w.cell? ⟨s, o + i, none⟩ = some (.int .i64 x)) := by
        rcases hIR with ⟨a, cap, e, e2⟩ | ⟨s, o, cap, e, h1, h2⟩
        · have : bl.length = 0 := by have := congrArg List.length e2; simpa [toI] using this
          exact ⟨a, cap, by rw [this]; exact e, fun h0 => by omega⟩
        · exact ⟨_, cap, by rw [toI_length] at e; exact e, fun _ => ⟨s, o, rfl, h1, fun i x hx => h2 i _ (toI_at hx)⟩⟩
      have HUP := hid_of hup
      clear hu hbl hs2 hIR hup
      generalize blkK L.length bs k = B0 at *
      go_wp2_with fail
      clear c0
      go_loopw [27] (fun i wr2 => ∃ j : Nat, j ≤ bl.length ∧ i = .int .i64 j ∧ Blk wr2 w.heap.size 3 (intsA (setAll B0 k (bl.take j))) ∧ Below w.heap.size w wr2) (fun i _ => bl.length - (intOf i).toNat)
      case atStart => exact ⟨0, by omega, rfl, hB, hBl⟩
      case round =>
        clear hB hBl
        obtain ⟨j, hj, rfl, hB, hBl⟩ := hrel
        by_cases hjl : j < bl.length
        · obtain ⟨s2, o2, rfl, hs3, hs4⟩ := HUP.out (by omega)
          obtain ⟨q, hq⟩ : ∃ q, bl[j]? = some q := ⟨_, List.getElem?_eq_getElem hjl⟩
          have c1 := (hBl.cell (p := ⟨s2, o2 + j, none⟩) hs3).trans (hs4 j q hq)
          have hqn := hb2 q (List.mem_of_getElem? hq)
          have hq2 : q < (setAll B0 k (bl.take j)).length := by rw [setAll_length, hBk]; exact hqn
          have d0 := hB.cellI (List.getElem?_eq_getElem hq2)
          have f0 := hB.frozen q
          have HS : Hid (setAll B0 k (bl.take (j + 1)) = (setAll B0 k (bl.take j)).set q (k : Int)) := by
            show _ = _
            rw [List.take_add_one, hq]
            exact setAll_snoc _ _ _ _
          have q0 : (0 : Int) ≤ (q : Int) := by omega
          have q1 : (q : Int) < (L.length : Int) := by omega
          clear hq hs4
          go_wp2_with fail
          refine ⟨⟨j + 1, by omega, by go_num, ?_, hBl.setCell (by simp) _⟩, by simp [intOf]; omega⟩
          rw [HS.out]
          exact hB.setI _ _
        · obtain rfl : j = bl.length := by omega
          rw [List.take_length] at hB
          go_wp2_with fail
          refine ⟨⟨k + 1, by omega, by go_num, ?_, hBl⟩, by simp [intOf]; omega⟩
          rw [HE.out]
          exact hB
    · obtain rfl : k = bs.length := by omega
      go_wp2_with fail
      refine (new_small bs.length hm _).mono ?_
      rintro e w1 ⟨b2, c2, rfl, hM⟩
      go_wp2_with fail
      refine (Pairs_calls b c L _ (h.below (below_step hBl hBl.size hM.below)) (hT.step (below_step hBl hBl.size hM.below))).mono ?_
      rintro e w2 ⟨v1, rfl, ho, hB1⟩
      have hpv := owns_prs ho
      have hlen : (pairsL L).length ≤ 65536 := by have := pairsK_length L L.length; simp only [pairsL]; omega
      have hlow : ∀ x ∈ pairsL L, x.1 < L.length ∧ x.2 < L.length := pairsL_lt h.low
      have hMw : Made w w2 b2 c2 (btK (blkK L.length bs bs.length) bs.length ((pairsL L).take 0)) := by
        have h1 := hM.step hB1
        exact ⟨h1.rel, Nat.le_trans hBl.size hM.hb, Nat.le_trans hBl.size hM.hc, below_step (below_step hBl hBl.size hM.below) (Nat.le_trans hBl.size hM.below.size) hB1⟩
      have hBw2 := (hB.of_below hM.below).of_below hB1
      have hc2 : c2 < w1.heap.size := hM.rel.rows.lt
      have hcw : w.heap.size < c2 ∧ w.heap.size < b2 := by have := hB.lt; have := hM.hc; have := hM.hb; omega
      have HBE : Hid (betw L bs = btK (blkK L.length bs bs.length) bs.length (pairsL L)) := rfl
      have hpv2 : ∃ p1 cap1, v1 = .slice p1 (pairsL L).length cap1 ∧ (0 < (pairsL L).length → ∃ s, p1 = some ⟨s, 0, none⟩ ∧ w1.heap.size ≤ s ∧ PrsR w2 s (pairsL L)) := by
        rcases hpv with ⟨e1, e2⟩ | ⟨s, cap, e1, h1, h2⟩
        · exact ⟨_, _, by rw [e2]; exact e1, fun h0 => by rw [e2] at h0; simp at h0⟩
        · exact ⟨_, _, e1, fun _ => ⟨s, rfl, h1, h2⟩⟩
      obtain ⟨p1, cap1, rfl, hpv2⟩ := hpv2
      have HPV := hid_of hpv2
      have HLW := hid_of hlow
      have hBn := blkK_length L.length bs bs.length
      clear hpv hpv2 ho hM hB hB1 hlow HVS HROW HP
      generalize blkK L.length bs bs.length = B at *
      generalize pairsL L = ps at *
      go_wp2_with fail
      go_loopw [43] (fun i wr3 => ∃ k : Nat, k ≤ ps.length ∧ i = .int .i64 k ∧ Made w wr3 b2 c2 (btK B bs.length (ps.take k)) ∧ Blk wr3 w.heap.size 3 (intsA B) ∧ Hid (∀ s, w1.heap.size ≤ s → PrsR w2 s ps → PrsR wr3 s ps)) (fun i _ => ps.length - (intOf i).toNat)
      case atStart => exact ⟨0, by omega, rfl, hMw, hBw2, fun _ _ h => h⟩
      case round =>
        clear hMw hBw2
        obtain ⟨k, hk, rfl, hM, hB, HR⟩ := hrel
        by_cases hlt : k < ps.length
        · obtain ⟨s, rfl, hs0, hs1⟩ := HPV.out (by omega)
          obtain ⟨⟨x, y⟩, hx⟩ : ∃ x, ps[k]? = some x := ⟨_, List.getElem?_eq_getElem hlt⟩
          obtain ⟨hxn, hyn⟩ := HLW.out _ (List.mem_of_getElem? hx)
          have hsr := HR.out s hs0 hs1
          have c0 := hsr.fst k _ hx
          have c1 := hsr.snd k _ hx
          have d0 := cellA' (hB.cellI (getD_of (q := x) (by omega))) (.cells #[.int .i64 x, .int .i64 y] 37)
          have d1 := cellA' (hB.cellI (getD_of (q := y) (by omega))) (.cells #[.int .i64 x, .int .i64 y] 37)
          have HE : Hid (btK B bs.length (ps.take (k + 1)) = if B.getD x 0 = B.getD y 0 then btK B bs.length (ps.take k) else putP (btK B bs.length (ps.take k)) (B.getD x 0) (B.getD y 0) true) := by
            show _ = _
            rw [List.take_add_one, hx]
            exact btK_snoc _ _ _ _
          have x0 : (0 : Int) ≤ (x : Int) := by omega
          have x1 : (x : Int) < (L.length : Int) := by omega
          have y0 : (0 : Int) ≤ (y : Int) := by omega
          have y1 : (y : Int) < (L.length : Int) := by omega
          have hpB := Blk.new wr 37 #[.int .i64 (x : Int), .int .i64 (y : Int)]
          have n1 := hB.lt
          have hbA := (Below.refl wr.heap.size wr).alloc (Nat.le_refl _) (.cells #[.int .i64 x, .int .i64 y] 37)
          clear hx hsr hs1
          generalize B.getD x 0 = X at *
          generalize B.getD y 0 = Y at *
          go_wp2_with fail
          have hMA := hM.step hbA
          have hBA := hB.of_below hbA
          have HRA : Hid (∀ s, w1.heap.size ≤ s → PrsR w2 s ps → PrsR (wr.alloc (.cells #[.int .i64 x, .int .i64 y] 37)) s ps) := fun s h1 h2 => (HR.out s h1 h2).below hbA
          have p0 := hpB.cell (j := 0) rfl
          have p2 := hpB.cell (j := 1) rfl
          have m1 := hpB.lt
          clear c0 c1 hM hB HR hbA hpB
          generalize wr.alloc (.cells #[.int .i64 x, .int .i64 y] 37) = W at *
          generalize wr.heap.size = B5 at *
          go_quiet (fail)
          have hMq : Made w (W.drewN nq) b2 c2 (btK B bs.length (ps.take k)) := ⟨hMA.rel.drewN _, hMA.hb, hMA.hc, below_drewN hMA.below _⟩
          by_cases hXY : X = Y
          · have HXY := hid_of hXY
            have hne : (X != Y) = false := by rw [hXY]; simp
            go_wp2_with fail
            refine ⟨⟨k + 1, by omega, by go_num, ?_, hBA.drewN _, fun s h1 h2 => ?_⟩, by simp [intOf]; omega⟩
            · rw [HE.out, if_pos HXY.out]; exact hMq
            · exact (HRA.out s h1 h2).below (below_drewN (Below.refl _ _) _)
          · have HXY := hid_of hXY
            have hne : (X != Y) = true := by simpa using hXY
            go_wp2_with fail
            refine (Put_calls b2 c2 _ X Y true _ hMq.rel).mono ?_
            rintro e w4 ⟨rfl, hI4, ht4⟩
            go_wp2_with fail
            refine ⟨⟨k + 1, by omega, by go_num, ?_, (hBA.drewN nq).touch ht4 (by omega), fun s h1 h2 => ?_⟩, by simp [intOf]; omega⟩
            · rw [HE.out, if_neg HXY.out]; exact hMq.touch hI4 ht4
            · have h3 := (HRA.out s h1 h2).below (below_drewN (Below.refl _ _) nq)
              exact h3.keep2 (N := (W.drewN nq).heap.size) (l := c2) (wt := c2) ⟨ht4.os, ht4.tape, ht4.output, ht4.size, fun k hk h4 _ => ht4.block k hk h4⟩ h3.lt (by omega) (by omega)
        · obtain rfl : k = ps.length := by omega
          rw [List.take_length] at hM
          go_wp2_with fail
          go_ret
          exact ⟨b2, c2, rfl, by rw [HBE.out]; exact hM⟩
end Go.Proofs.YteejkhgccaagiaaDoor
