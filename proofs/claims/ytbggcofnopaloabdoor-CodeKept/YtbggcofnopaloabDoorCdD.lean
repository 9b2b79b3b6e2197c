/- A form's fits. -/
import Derived.Test.YtbggcofnopaloabDoorJ05
import Derived.Test.YtbggcofnopaloabDoorCdEq
import Derived.Laws.Tables
import Derived.Deep.DeepCutAuto
namespace Go.Proofs.YtbggcofnopaloabDoor
open Go.RowKit Sx
theorem Blk.setRow' {w : World} {m : Nat} {t : TypeId} {old : Array Value} (h : Blk w m t old) (cs : Array Value) : Blk (w.setRow m cs) m t cs := setRow_heap w m old cs t (0, 0) h
theorem below_row {B m : Nat} {w : World} (cs : Array Value) (hm : B ≤ m) : Below B w (w.setRow m cs) := ⟨rfl, rfl, rfl, by rw [setRow_size]; exact Nat.le_refl _, fun k hk => setRow_other w m k cs (by omega)⟩
theorem Blk.rowOther {w : World} {m b : Nat} {t : TypeId} {cs' : Array Value} (h : Blk w b t cs') (hne : b ≠ m) (cs : Array Value) : Blk (w.setRow m cs) b t cs' := (setRow_other w m b cs hne).trans h
theorem insC_all (i : Ins) : (insC i).all (·.oneCell') = true := by simp [insC, Value.oneCell']
def othK (f : Fm) (i : Ins) : Nat → Ins
  | 0 => i
  | j + 1 => (othK f i j).put (plc (plF f j)).field 0
structure FtW (n : Nat) (w0 : World) (f : Fm) (i o : Ins) (w : World) : Prop where
  fm : Blk w n 54 (fmC f)
  ins : Blk w (n + 1) 25 (insC i)
  oth : Blk w (n + 2) 25 (insC o)
  bel : Below n w0 w
theorem FtW.lt {n : Nat} {w0 : World} {f : Fm} {i o : Ins} {w : World} (h : FtW n w0 f i o w) : n + 2 < w.heap.size := h.oth.lt
theorem FtW.step {n : Nat} {w0 : World} {f : Fm} {i o : Ins} {w w' : World} (h : FtW n w0 f i o w) (hb : Below w.heap.size w w') : FtW n w0 f i o w' :=
  ⟨h.fm.of_below hb, h.ins.of_below hb, h.oth.of_below hb, h.bel.trans (hb.mono (by have := h.lt; omega))⟩
theorem FtW.put {n : Nat} {w0 : World} {f : Fm} {i o : Ins} {w : World} (h : FtW n w0 f i o w) (o2 : Ins) : FtW n w0 f i o2 (w.setRow (n + 2) (insC o2)) :=
  ⟨h.fm.rowOther (by omega) _, h.ins.rowOther (by omega) _, h.oth.setRow' _, h.bel.trans (below_row _ (by omega))⟩
theorem ft_new (w : World) (f : Fm) (i : Ins) : FtW w.heap.size w f i i (((w.alloc (.cells (fmC f) 54)).alloc (.cells (insC i) 25)).alloc (.cells (insC i) 25)) :=
  ⟨((Blk.new w _ _).alloc _).alloc _, (Blk.new2 w _ _ _).alloc _, by have := Blk.new ((w.alloc (.cells (fmC f) 54)).alloc (.cells (insC i) 25)) 25 (insC i); simpa using this, (((Below.refl _ _).alloc (Nat.le_refl _) _).alloc (by simp) _).alloc (by simp; omega) _⟩
theorem takesF_all (f : Fm) (i : Ins) : (∀ j, j < 3 → takesB (plc (plF f j)) (i.fld (plc (plF f j)).field) = true) → fitsF f i = (!(f.apart && (decide (i.rm = i.rd) || decide (i.rm = i.rn))) && insEq (othK f i 3) ⟨i.op, 0, 0, 0, 0, 0⟩) := fun h => by
  have h0 : takesB (plc f.p0) (i.fld (plc f.p0).field) = true := h 0 (by omega)
  have h1 : takesB (plc f.p1) (i.fld (plc f.p1).field) = true := h 1 (by omega)
  have h2 : takesB (plc f.p2) (i.fld (plc f.p2).field) = true := h 2 (by omega)
  unfold fitsF
  rw [h0, h1, h2]
  rfl
theorem takesF_no (f : Fm) (i : Ins) (j : Nat) (hj : j < 3) (h : takesB (plc (plF f j)) (i.fld (plc (plF f j)).field) = false) : fitsF f i = false := by
  unfold fitsF
  obtain rfl | rfl | rfl : j = 0 ∨ j = 1 ∨ j = 2 := by omega
  · have h : takesB (plc f.p0) (i.fld (plc f.p0).field) = false := h
    rw [h]
    rfl
  · have h : takesB (plc f.p1) (i.fld (plc f.p1).field) = false := h
    rw [h]
    simp
  · have h : takesB (plc f.p2) (i.fld (plc f.p2).field) = false := h
    rw [h]
    simp
set_option maxRecDepth 100000 in
set_option maxHeartbeats 8000000 in
theorem cdFFits_calls (f : Fm) (i : Ins) (w : World) (hf : FmOk f) :
    Calls Tryd.prog 35 #[fmV f, insV i] w fun e w' => e = .returned (.bool (fitsF f i)) ∧ Below w.heap.size w w' := by
  have HW := hid_of (ft_new w f i)
  generalize hr : fitsF f i = r
  have HR := hid_of hr
  clear hr
  have HTN := hid_of (takesF_no f i)
  have HTA := hid_of (takesF_all f i)
  unfold fmV insV
  obtain ⟨op, rd, rn, rm, imm, cond⟩ := i
  dsimp only
  go_enter Tryd.func35, Tryd.ntmps35
  go_wp2_with fail
  go_loopw [12] (fun k wr => ∃ j : Nat, j ≤ 3 ∧ k = .int .i64 j ∧ Hid (∀ k, k < j → takesB (plc (plF f k)) (Ins.fld ⟨op, rd, rn, rm, imm, cond⟩ (plc (plF f k)).field) = true) ∧ Hid (FtW w.heap.size w f ⟨op, rd, rn, rm, imm, cond⟩ (othK f ⟨op, rd, rn, rm, imm, cond⟩ j) wr)) (fun k _ => 3 - (intOf k).toNat)
  case atStart => exact ⟨0, by omega, rfl, fun k h => absurd h (by omega), HW⟩
  case round =>
    obtain ⟨j, hj, rfl, HTJ, HF⟩ := hrel
    by_cases h3 : j < 3
    · have ha := at3 f.p0 f.p1 f.p2 j h3
      have hq := plF_lt hf j
      have HO : Hid (othK f ⟨op, rd, rn, rm, imm, cond⟩ (j + 1) = (othK f ⟨op, rd, rn, rm, imm, cond⟩ j).put (plc (plF f j)).field 0) := rfl
      have hok := plc_ok (plF f j)
      have hlow := plc_low (plF f j)
      have hq2 : [f.p0, f.p1, f.p2].getD j 0 = plF f j := rfl
      rw [hq2] at ha
      clear hq2
      have HTN2 : Hid (takesB (plc (plF f j)) (Ins.fld ⟨op, rd, rn, rm, imm, cond⟩ (plc (plF f j)).field) = false → r = false) := fun h => HR.out.symm.trans (HTN.out j h3 h)
      have HTS : Hid (takesB (plc (plF f j)) (Ins.fld ⟨op, rd, rn, rm, imm, cond⟩ (plc (plF f j)).field) = true → ∀ k, k < j + 1 → takesB (plc (plF f k)) (Ins.fld ⟨op, rd, rn, rm, imm, cond⟩ (plc (plF f k)).field) = true) := fun h k hk => by
        by_cases e : k = j
        · subst e; exact h
        · exact HTJ.out k (by omega)
      generalize hpq : plF f j = q at *
      clear hpq
      generalize hpp : plc q = p at *
      have HPP := hid_of hpp
      clear hpp
      obtain ⟨q1, q2, q3⟩ := hlow
      have hc1 : ∀ W, Calls Tryd.prog 43 #[.agg #[.int .i64 op, .int .i64 rd, .int .i64 rn, .int .i64 rm, .int .i64 imm, .int .i64 cond], .int .i64 p.field] W fun e w' => e = .returned (.int .i64 (Ins.fld ⟨op, rd, rn, rm, imm, cond⟩ p.field)) ∧ Below W.heap.size W w' := fun W => cdFieldOf_calls ⟨op, rd, rn, rm, imm, cond⟩ p.field W q3
      generalize hv : Ins.fld ⟨op, rd, rn, rm, imm, cond⟩ p.field = v at *
      clear hv
      have hc2 : ∀ W, Calls Tryd.prog 42 #[.agg #[.int .i64 p.field, .int .i64 p.at_, .int .i64 p.bits, .int .i64 p.how, .int .i64 p.least, .int .i64 p.most], .int .i64 v] W fun e w' => e = .returned (.bool (takesB p v)) ∧ Below W.heap.size W w' := fun W => cdTakes_calls p v W hok
      generalize hoe : othK f ⟨op, rd, rn, rm, imm, cond⟩ j = o at *
      clear hoe
      generalize hoe2 : othK f ⟨op, rd, rn, rm, imm, cond⟩ (j + 1) = o2 at *
      have HO2 := hid_of hoe2
      clear hoe2
      have hc3 : ∀ W, Calls Tryd.prog 33 #[.agg (insC o), .int .i64 p.field, .int .i64 0] W fun e w' => e = .returned (.agg (insC o2)) ∧ Below W.heap.size W w' := fun W => by
        have := cdWith_calls o p.field 0 W q3
        rw [← HO.out] at this
        exact this
      have hb2 := HF.out.lt
      go_wp2_with (first | (go_at_call 32; refine (plc_cells q p HPP.out _ hq).mono ?_; rintro e w3 ⟨rfl, hB3⟩))
      have HF3 := hid_of (HF.out.step hB3)
      have HF4 := hid_of (HF3.out.step ((Below.refl _ _).alloc (Nat.le_refl _) (.cells #[.int .i64 p.field, .int .i64 p.at_, .int .i64 p.bits, .int .i64 p.how, .int .i64 p.least, .int .i64 p.most] 73)))
      obtain ⟨c0, c1, c2, c3, c4, c5⟩ := PlS.new w3 p
      obtain ⟨d0, d1, d2, d3, d4, d5⟩ := InS.of HF4.out.ins
      have hsz := HF3.out.lt
      have HZ : Hid (∀ W, Below (w3.heap.size + 1) (w3.alloc (.cells #[.int .i64 p.field, .int .i64 p.at_, .int .i64 p.bits, .int .i64 p.how, .int .i64 p.least, .int .i64 p.most] 73)) W → (PlS W w3.heap.size p ∧ InS W (w.heap.size + 1) ⟨op, rd, rn, rm, imm, cond⟩) ∧ FtW w.heap.size w f ⟨op, rd, rn, rm, imm, cond⟩ o W) := fun W hW => ⟨⟨(PlS.new w3 p).below hW (by omega), (InS.of HF4.out.ins).below hW (by omega)⟩, HF4.out.step (by simpa using hW)⟩
      clear hB3
      dsimp only at d0 d1 d2 d3 d4 d5
      clear hok q1 q2 q3
      go_region_held3 (fun W => W.cell? ⟨w3.heap.size, 0, none⟩ = some (.int .i64 p.field) ∧ W.cell? ⟨w3.heap.size, 1, none⟩ = some (.int .i64 p.at_) ∧ W.cell? ⟨w3.heap.size, 2, none⟩ = some (.int .i64 p.bits) ∧ W.cell? ⟨w3.heap.size, 3, none⟩ = some (.int .i64 p.how) ∧ W.cell? ⟨w3.heap.size, 4, none⟩ = some (.int .i64 p.least) ∧ W.cell? ⟨w3.heap.size, 5, none⟩ = some (.int .i64 p.most) ∧ W.cell? ⟨w.heap.size + 1, 0, none⟩ = some (.int .i64 op) ∧ W.cell? ⟨w.heap.size + 1, 1, none⟩ = some (.int .i64 rd) ∧ W.cell? ⟨w.heap.size + 1, 2, none⟩ = some (.int .i64 rn) ∧ W.cell? ⟨w.heap.size + 1, 3, none⟩ = some (.int .i64 rm) ∧ W.cell? ⟨w.heap.size + 1, 4, none⟩ = some (.int .i64 imm) ∧ W.cell? ⟨w.heap.size + 1, 5, none⟩ = some (.int .i64 cond)) (first | assumption | exact ⟨c0, c1, c2, c3, c4, c5, d0, d1, d2, d3, d4, d5⟩ | exact hS5 | exact hS6) (first | (go_at_call 43; refine (hc1 _).mono ?_; rintro e w5 ⟨rfl, hB5⟩; have k5 : Below (w3.heap.size + 1) _ w5 := (Below.refl _ _).drew.trans (hB5.mono (by simp)); have hS5 := joinS (HZ.out w5 k5).1) | (go_at_call 42; refine (hc2 _).mono ?_; rintro e w6 ⟨rfl, hB6⟩; have k6 := k5.trans (hB6.mono (by have := k5.size; simpa using this)); have hS6 := joinS (HZ.out w6 k6).1))
      have HF6 := hid_of (HZ.out w6 k6).2
      obtain ⟨e0, -, -, -, -, -⟩ := (HZ.out w6 k6).1.1
      clear c0 c1 c2 c3 c4 c5 d0 d1 d2 d3 d4 d5 hS5 hS6 hB5 hB6 k5 hc1 hc2
      by_cases ht : takesB p v = true
      · have HTS2 := hid_of (HTS.out ht)
        rw [ht]
        clear ht
        have HB2 := hid_of HF6.out.oth
        go_wp2_with (first | (refine wpList_load_row rfl 25 _ rfl (w.heap.size + 2) rfl 25 (insC o) (0, 0) _ HB2.out Tryd.underlying25 rfl (by kernel_rfl) ?_) | (go_at_call 33; refine (hc3 _).mono ?_; rintro e w7 ⟨rfl, hB7⟩; have HF7 := hid_of (HF6.out.step hB7)) | (refine wpList_store_row rfl 25 _ _ rfl (w.heap.size + 2) (insC o2) rfl rfl 25 (insC o) HF7.out.oth (by kernel_rfl) rfl (insC_all o2) ?_))
        exact ⟨⟨j + 1, by omega, by go_num, HTS2, by rw [HO2.out]; exact HF7.out.put o2⟩, by simp [intOf]; omega⟩
      · have ht : takesB p v = false := by simpa using ht
        have hr : r = false := HTN2.out ht
        rw [ht]
        subst hr
        clear ht
        have HB6 := hid_of HF6.out.bel
        go_wp2_with fail
        go_ret
        exact ⟨rfl, HB6.out⟩
    · obtain rfl : j = 3 := by omega
      have HRR : Hid ((!(f.apart && (decide (rm = rd) || decide (rm = rn))) && insEq (othK f ⟨op, rd, rn, rm, imm, cond⟩ 3) ⟨op, 0, 0, 0, 0, 0⟩) = r) := (HTA.out HTJ.out).symm.trans HR.out
      clear HTN HTA HTJ
      generalize othK f ⟨op, rd, rn, rm, imm, cond⟩ 3 = o at *
      have e4 : wr.cell? ⟨w.heap.size, 4, none⟩ = some (.bool f.apart) := HF.out.fm.cell rfl
      obtain ⟨d0, d1, d2, d3, d4, d5⟩ := InS.of HF.out.ins
      dsimp only at d0 d1 d2 d3 d4 d5
      have HB2 := hid_of HF.out.oth
      have HBB := hid_of HF.out.bel
      have HQL : Hid (∀ W, (Op.equalIn 10000 25 (.agg (insC o)) (.agg #[.int .i64 op, .int .i64 0, .int .i64 0, .int .i64 0, .int .i64 0, .int .i64 0])).run Tryd.prog W = .ok (insEq o ⟨op, 0, 0, 0, 0, 0⟩) W) := fun W => ins_eqIn W o ⟨op, 0, 0, 0, 0, 0⟩
      generalize insEq o ⟨op, 0, 0, 0, 0, 0⟩ = be at *
      cases hap : f.apart
      · rw [hap] at e4
        obtain rfl : be = r := by rw [← HRR.out, hap]; simp
        go_upto_region 12 with fail
        have hql := HQL.out
        go_wp2_with (first | (refine wpList_load_row rfl 25 _ rfl (w.heap.size + 2) rfl 25 (insC o) (0, 0) _ HB2.out Tryd.underlying25 rfl (by kernel_rfl) ?_))
        go_ret
        exact ⟨rfl, HBB.out⟩
      · rw [hap] at e4
        by_cases h1 : rm = rd
        · obtain rfl : r = false := by rw [← HRR.out, hap, h1]; simp
          have e1 : (rm == rd) = true := by simp [h1]
          clear h1
          go_wp2_with fail
          go_ret
          exact ⟨rfl, HBB.out⟩
        · have e1 : (rm == rd) = false := by simp [h1]
          by_cases h2 : rm = rn
          · obtain rfl : r = false := by rw [← HRR.out, hap, h2]; simp
            have e2 : (rm == rn) = true := by simp [h2]
            clear h1 h2
            go_wp2_with fail
            go_ret
            exact ⟨rfl, HBB.out⟩
          · obtain rfl : be = r := by rw [← HRR.out, hap]; simp [h1, h2]
            have e2 : (rm == rn) = false := by simp [h2]
            clear h1 h2
            go_upto_region 12 with fail
            have hql := HQL.out
            go_wp2_with (first | (refine wpList_load_row rfl 25 _ rfl (w.heap.size + 2) rfl 25 (insC o) (0, 0) _ HB2.out Tryd.underlying25 rfl (by kernel_rfl) ?_))
            go_ret
            exact ⟨rfl, HBB.out⟩
end Go.Proofs.YtbggcofnopaloabDoor
