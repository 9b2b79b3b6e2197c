/- A form's read. -/
import Derived.Test.YtbggcofnopaloabDoorCdD
import Derived.Test.YtbggcofnopaloabDoorTk
namespace Go.Proofs.YtbggcofnopaloabDoor
open Go.RowKit Sx
def rdK (f : Fm) (op : Nat) (x : Nat) : Nat → Ins
  | 0 => ⟨op, 0, 0, 0, 0, 0⟩
  | j + 1 => (rdK f op x j).put (plc (plF f j)).field (readP (plc (plF f j)) x)
theorem rdK_3 (f : Fm) (op x : Nat) : rdK f op x 3 = readF f op x := rfl
structure RdW (n : Nat) (w0 : World) (o : Ins) (w : World) : Prop where
  ins : Blk w (n + 2) 25 (insC o)
  res : ∃ cs, cs.size = 6 ∧ Blk w (n + 1) 25 cs
  bel : Below n w0 w
theorem RdW.lt {n : Nat} {w0 : World} {o : Ins} {w : World} (h : RdW n w0 o w) : n + 2 < w.heap.size := h.ins.lt
theorem RdW.step {n : Nat} {w0 : World} {o : Ins} {w w' : World} (h : RdW n w0 o w) (hb : Below w.heap.size w w') : RdW n w0 o w' := by
  obtain ⟨cs, h1, h2⟩ := h.res
  exact ⟨h.ins.of_below hb, ⟨cs, h1, h2.of_below hb⟩, h.bel.trans (hb.mono (by have := h.lt; omega))⟩
theorem RdW.put {n : Nat} {w0 : World} {o : Ins} {w : World} (h : RdW n w0 o w) (o2 : Ins) : RdW n w0 o2 (w.setRow (n + 2) (insC o2)) := by
  obtain ⟨cs, h1, h2⟩ := h.res
  exact ⟨h.ins.setRow' _, ⟨cs, h1, h2.rowOther (by omega) _⟩, h.bel.trans (below_row _ (by omega))⟩
theorem pls_row {W : World} {b m : Nat} {p : Plc} (h : PlS W b p) (hne : b ≠ m) (cs : Array Value) : PlS (W.setRow m cs) b p := by
  have e : ∀ j, (W.setRow m cs).cell? ⟨b, j, none⟩ = W.cell? ⟨b, j, none⟩ := fun j => by simp only [World.cell?, setRow_other W m b cs hne]
  obtain ⟨c0, c1, c2, c3, c4, c5⟩ := h
  exact ⟨(e 0).trans c0, (e 1).trans c1, (e 2).trans c2, (e 3).trans c3, (e 4).trans c4, (e 5).trans c5⟩
theorem rd_new (w : World) (f : Fm) (op : Nat) (cs : Array Value) (hc : cs.size = 6) : RdW w.heap.size w ⟨op, 0, 0, 0, 0, 0⟩ (((w.alloc (.cells (fmC f) 54)).alloc (.cells cs 25)).alloc (.cells (insC ⟨op, 0, 0, 0, 0, 0⟩) 25)) :=
  ⟨by have := Blk.new ((w.alloc (.cells (fmC f) 54)).alloc (.cells cs 25)) 25 (insC ⟨op, 0, 0, 0, 0, 0⟩); simpa using this, ⟨cs, hc, (Blk.new2 w _ _ _).alloc _⟩, (((Below.refl _ _).alloc (Nat.le_refl _) _).alloc (by simp) _).alloc (by simp; omega) _⟩
set_option maxRecDepth 100000 in
set_option maxHeartbeats 8000000 in
theorem cdFRead_calls (f : Fm) (op x : Nat) (w : World) (hf : FmOk f) (hx : x < 2 ^ 32) :
    Calls Tryd.prog 20 #[fmV f, .int .i64 op, .int .u32 x] w fun e w' => e = .returned (insV (readF f op x)) ∧ Below w.heap.size w w' := by
  unfold fmV
  go_enter Tryd.func20, Tryd.ntmps20
  go_wp2_with fail
  go_loopw [15] (fun k wr => ∃ j : Nat, j ≤ 3 ∧ k = .int .i64 j ∧ Hid (RdW w.heap.size w (rdK f op x j) wr)) (fun k _ => 3 - (intOf k).toNat)
  case atStart => exact ⟨0, by omega, rfl, rd_new w f op _ rfl⟩
  case round =>
    obtain ⟨j, hj, rfl, HF⟩ := hrel
    by_cases h3 : j < 3
    · have ha := at3 f.p0 f.p1 f.p2 j h3
      have hq := plF_lt hf j
      have HO : Hid (rdK f op x (j + 1) = (rdK f op x j).put (plc (plF f j)).field (readP (plc (plF f j)) x)) := rfl
      have hok := plc_ok (plF f j)
      have hlow := plc_low (plF f j)
      have hq2 : [f.p0, f.p1, f.p2].getD j 0 = plF f j := rfl
      rw [hq2] at ha
      clear hq2
      generalize hpq : plF f j = q at *
      clear hpq
      generalize hpp : plc q = p at *
      have HPP := hid_of hpp
      clear hpp
      obtain ⟨q1, q2, q3⟩ := hlow
      have hc1 : ∀ W, Calls Tryd.prog 34 #[.agg #[.int .i64 p.field, .int .i64 p.at_, .int .i64 p.bits, .int .i64 p.how, .int .i64 p.least, .int .i64 p.most], .int .u32 x] W fun e w' => e = .returned (.int .i64 (readP p x)) ∧ Below W.heap.size W w' := fun W => cdPRead_calls p x W hok q1 q2 hx
      generalize readP p x = v at *
      generalize hoe : rdK f op x j = o at *
      clear hoe
      generalize hoe2 : rdK f op x (j + 1) = o2 at *
      have HO2 := hid_of hoe2
      clear hoe2
      have hc3 : ∀ W, Calls Tryd.prog 33 #[.agg (insC o), .int .i64 p.field, .int .i64 v] W fun e w' => e = .returned (.agg (insC o2)) ∧ Below W.heap.size W w' := fun W => by
        have := cdWith_calls o p.field v W q3
        rw [← HO.out] at this
        exact this
      have hb2 := HF.out.lt
      go_wp2_with (first | (go_at_call 32; refine (plc_cells q p HPP.out _ hq).mono ?_; rintro e w3 ⟨rfl, hB3⟩))
      have HF3 := hid_of (HF.out.step hB3)
      have HF4 := hid_of (HF3.out.step ((Below.refl _ _).alloc (Nat.le_refl _) (.cells #[.int .i64 p.field, .int .i64 p.at_, .int .i64 p.bits, .int .i64 p.how, .int .i64 p.least, .int .i64 p.most] 73)))
      obtain ⟨c0, c1, c2, c3, c4, c5⟩ := PlS.new w3 p
      have hsz := HF3.out.lt
      clear hok q1 q2 q3
      have HZ : Hid (∀ W, Below (w3.heap.size + 1) (w3.alloc (.cells #[.int .i64 p.field, .int .i64 p.at_, .int .i64 p.bits, .int .i64 p.how, .int .i64 p.least, .int .i64 p.most] 73)) W → PlS W w3.heap.size p ∧ RdW w.heap.size w o W) := fun W hW => ⟨(PlS.new w3 p).below hW (by omega), HF4.out.step (by simpa using hW)⟩
      refine wp_region_held_drew (S := (fun W => W.cell? ⟨w3.heap.size, 0, none⟩ = some (.int .i64 p.field) ∧ W.cell? ⟨w3.heap.size, 1, none⟩ = some (.int .i64 p.at_) ∧ W.cell? ⟨w3.heap.size, 2, none⟩ = some (.int .i64 p.bits) ∧ W.cell? ⟨w3.heap.size, 3, none⟩ = some (.int .i64 p.how) ∧ W.cell? ⟨w3.heap.size, 4, none⟩ = some (.int .i64 p.least) ∧ W.cell? ⟨w3.heap.size, 5, none⟩ = some (.int .i64 p.most))) (by kernel_rfl) ⟨c0, c1, c2, c3, c4, c5⟩ (fun hHeld => ?_)
      refine tk 1 rfl ?_; simp only [zz]
      refine tk 2 rfl ?_; simp only [zz]
      refine tk 3 rfl ?_; simp only [zz]
      refine tk 4 rfl ?_; simp only [zz]
      refine wpAnyH_ready (rs := [0, 5]) (by kernel_rfl) (by simp) ?_
      refine rdy rfl (fun K hK => ?_) (AllReadyH.cons rfl (fun K hK => ?_) AllReadyH.nil)
      · refine wp_load_row 25 _ rfl (w.heap.size + 2) rfl 25 (insC o) (0, 0) _ HF4.out.ins Tryd.underlying25 rfl (by kernel_rfl) ?_
        refine hK.out _ _ ⟨c0, c1, c2, c3, c4, c5⟩ (fun hHeld => ?_)
        clear hK K
        try simp only [zz]
        refine wpAnyH_ready (rs := [5]) (by kernel_rfl) (by simp) ?_
        refine AllReadyH.cons rfl (fun K hK => ?_) AllReadyH.nil
        simp only [List.getElem_toArray, List.getElem_cons_zero, List.getElem_cons_succ]
        go_simp
        refine (hc1 _).mono ?_
        rintro e w5 ⟨rfl, hB5⟩
        have k5 : Below (w3.heap.size + 1) (w3.alloc (.cells #[.int .i64 p.field, .int .i64 p.at_, .int .i64 p.bits, .int .i64 p.how, .int .i64 p.least, .int .i64 p.most] 73)) w5 := (Below.refl _ _).drew.trans (hB5.mono (by simp))
        refine hK.out _ _ (HZ.out _ k5).1 (fun hHeld => ?_)
        clear hK K
        try simp only [zz]
        refine wpAnyH_ready (rs := [6]) (by kernel_rfl) (by simp) ?_
        refine AllReadyH.cons rfl (fun K hK => ?_) AllReadyH.nil
        simp only [List.getElem_toArray, List.getElem_cons_zero, List.getElem_cons_succ]
        go_simp
        refine (hc3 _).mono ?_
        rintro e w6 ⟨rfl, hB6⟩
        have k6 : Below (w3.heap.size + 1) (w3.alloc (.cells #[.int .i64 p.field, .int .i64 p.at_, .int .i64 p.bits, .int .i64 p.how, .int .i64 p.least, .int .i64 p.most] 73)) w6 := k5.trans (hB6.mono (by have := k5.size; simpa using this))
        refine hK.out _ _ (HZ.out _ k6).1 (fun hHeld => ?_)
        clear hK K
        try simp only [zz]
        have HF6 := hid_of (HZ.out _ k6).2
        refine wpAnyH_ready (rs := [7]) (by kernel_rfl) (by simp) ?_
        refine rdy rfl (fun K hK => ?_) AllReadyH.nil
        refine wp_store_row 25 _ _ rfl (w.heap.size + 2) (insC o2) rfl rfl 25 (insC o) HF6.out.ins (by kernel_rfl) rfl (insC_all o2) ?_
        have HP6 : Hid (PlS (w6.setRow (w.heap.size + 2) (insC o2)) w3.heap.size p) := pls_row (HZ.out _ k6).1 (by omega) _
        refine hK.out _ _ HP6.out (fun hHeld => ?_)
        clear hK K
        try simp only [zz]
        refine wpAnyH_done (by kernel_rfl) ?_ _
        clear hc1 hc3 HZ k5 k6 c0 c1 c2 c3 c4 c5 hB5 hB6
        go_wp2_with fail
        exact ⟨⟨j + 1, by omega, by go_num, by rw [HO2.out]; exact HF6.out.put o2⟩, by simp [intOf]; omega⟩
      · simp only [List.getElem_toArray, List.getElem_cons_zero, List.getElem_cons_succ]
        go_simp
        refine (hc1 _).mono ?_
        rintro e w5 ⟨rfl, hB5⟩
        have k5 : Below (w3.heap.size + 1) (w3.alloc (.cells #[.int .i64 p.field, .int .i64 p.at_, .int .i64 p.bits, .int .i64 p.how, .int .i64 p.least, .int .i64 p.most] 73)) w5 := (Below.refl _ _).drew.trans (hB5.mono (by simp))
        refine hK.out _ _ (HZ.out _ k5).1 (fun hHeld => ?_)
        clear hK K
        try simp only [zz]
        refine wpAnyH_ready (rs := [0]) (by kernel_rfl) (by simp) ?_
        refine rdy rfl (fun K hK => ?_) AllReadyH.nil
        refine wp_load_row 25 _ rfl (w.heap.size + 2) rfl 25 (insC o) (0, 0) _ (HZ.out _ k5).2.ins Tryd.underlying25 rfl (by kernel_rfl) ?_
        refine hK.out _ _ (HZ.out _ k5).1 (fun hHeld => ?_)
        clear hK K
        try simp only [zz]
        refine wpAnyH_ready (rs := [6]) (by kernel_rfl) (by simp) ?_
        refine AllReadyH.cons rfl (fun K hK => ?_) AllReadyH.nil
        simp only [List.getElem_toArray, List.getElem_cons_zero, List.getElem_cons_succ]
        go_simp
        refine (hc3 _).mono ?_
        rintro e w6 ⟨rfl, hB6⟩
        have k6 : Below (w3.heap.size + 1) (w3.alloc (.cells #[.int .i64 p.field, .int .i64 p.at_, .int .i64 p.bits, .int .i64 p.how, .int .i64 p.least, .int .i64 p.most] 73)) w6 := k5.trans (hB6.mono (by have := k5.size; simpa using this))
        refine hK.out _ _ (HZ.out _ k6).1 (fun hHeld => ?_)
        clear hK K
        try simp only [zz]
        have HF6 := hid_of (HZ.out _ k6).2
        refine wpAnyH_ready (rs := [7]) (by kernel_rfl) (by simp) ?_
        refine rdy rfl (fun K hK => ?_) AllReadyH.nil
        refine wp_store_row 25 _ _ rfl (w.heap.size + 2) (insC o2) rfl rfl 25 (insC o) HF6.out.ins (by kernel_rfl) rfl (insC_all o2) ?_
        have HP6 : Hid (PlS (w6.setRow (w.heap.size + 2) (insC o2)) w3.heap.size p) := pls_row (HZ.out _ k6).1 (by omega) _
        refine hK.out _ _ HP6.out (fun hHeld => ?_)
        clear hK K
        try simp only [zz]
        refine wpAnyH_done (by kernel_rfl) ?_ _
        clear hc1 hc3 HZ k5 k6 c0 c1 c2 c3 c4 c5 hB5 hB6
        go_wp2_with fail
        exact ⟨⟨j + 1, by omega, by go_num, by rw [HO2.out]; exact HF6.out.put o2⟩, by simp [intOf]; omega⟩
    · obtain rfl : j = 3 := by omega
      rw [rdK_3] at HF
      generalize hoo : readF f op x = o at *
      have HOO := hid_of hoo
      clear hoo
      obtain ⟨cs, hcs, hR⟩ := HF.out.res
      have hI := HF.out.ins
      have HB := hid_of HF.out.bel
      have HFR := hid_of (HF.out.ins.rowOther (m := w.heap.size + 1) (by omega) (insC o))
      have HR2 := hid_of (hR.setRow' (insC o))
      have hsz : cs.size = (insC o).size := hcs
      have HBR := hid_of (HF.out.bel.trans (below_row (insC o) (m := w.heap.size + 1) (by omega)))
      clear HF
      go_wp2_with (first | (refine wpList_load_row rfl 25 _ rfl (w.heap.size + 2) rfl 25 (insC o) (0, 0) _ hI Tryd.underlying25 rfl (by kernel_rfl) ?_) | (refine wpList_store_row rfl 25 _ _ rfl (w.heap.size + 1) (insC o) rfl rfl 25 cs hR (by kernel_rfl) hsz (insC_all o) ?_))
      exact bodyPost_ret (results_cell_row rfl _ _ (w.heap.size + 1) 25 (insC o) (0, 0) _ rfl HR2.out Tryd.underlying25 rfl (by kernel_rfl)) rfl ⟨by rw [HOO.out]; rfl, HBR.out⟩
end Go.Proofs.YtbggcofnopaloabDoor
