/- The table of rows; the row of an operation; a word by a row. -/
import Derived.Test.YtbggcofnopaloabDoorCdE
import Derived.Test.YtbggcofnopaloabDoorCdF
namespace Go.Proofs.YtbggcofnopaloabDoor
open Go.RowKit Sx
def rwsC : Array Value := (rws.flatMap fun r => [Value.int .u32 (r.1 : Int), Value.int .i64 (r.2 : Int)]).toArray
theorem two_at (f g : Nat × Nat → Value) : ∀ (L : List (Nat × Nat)) (i : Nat) (r : Nat × Nat), L[i]? = some r → (L.flatMap fun r => [f r, g r])[i * 2]? = some (f r) ∧ (L.flatMap fun r => [f r, g r])[i * 2 + 1]? = some (g r)
  | [], i, r, h => by simp at h
  | x :: L, 0, r, h => by simp at h; subst h; exact ⟨rfl, rfl⟩
  | x :: L, i + 1, r, h => by
    have := two_at f g L i r (by simpa using h)
    rw [List.flatMap_cons]
    have e : (i + 1) * 2 = i * 2 + 1 + 1 := by omega
    rw [e]
    exact this
theorem rwsC_at (op : Nat) (h : op < 48) : rwsC[op * 2]? = some (.int .u32 ((rw op).1 : Nat)) ∧ rwsC[op * 2 + 1]? = some (.int .i64 ((rw op).2 : Nat)) := by
  have hr : rws[op]? = some (rw op) := by
    unfold rw
    rw [List.getD_eq_getElem?_getD, List.getElem?_eq_getElem (show op < rws.length from h)]
    rfl
  have := two_at (fun r => Value.int .u32 (r.1 : Int)) (fun r => Value.int .i64 (r.2 : Int)) rws op (rw op) hr
  unfold rwsC
  simp only [List.getElem?_toArray]
  exact this
theorem wpList_build_row {P : Program} {ops : Array Oper} {rest : List Oper} {o : Oper} {a : Act} {w : World} {Q : Exit → Act → World → Prop} (hgd : o.guard = none) (t : TypeId) (ps : Array (Nat × Operand)) (ho : o.op = .build t ps)
    (v : Value) (hrun : (Instr.build t (ps.map fun x => (x.1, a.eval x.2))).run P w = .ok v w) (h : wpList P ops Q rest (a.put o.dst v) w) : wpList P ops Q (o :: rest) a w :=
  wpList_plain hgd fun K hK => by
    unfold Oper.wp
    simp only [execOp, ho, Sem.run_bind, hrun, Result.andThen_ok, Sem.run_pure]
    exact hK _ _ h
def rwsZ : Array Value := ((List.replicate 48 [Value.int .u32 0, Value.int .i64 0]).flatten).toArray
theorem rws_zero (W : World) : (zeroValue 50).run Tryd.prog W = .ok (.agg rwsZ) W := by kernel_rfl
theorem rwsC_all : rwsC.all (·.oneCell') = true := by decide +kernel
set_option maxRecDepth 100000 in
set_option maxHeartbeats 8000000 in
theorem cdRows_calls (w : World) : Calls Tryd.prog 19 #[] w fun e w' => e = .returned (.agg rwsC) ∧ Below w.heap.size w w' := by
  have hz := rws_zero
  go_enter Tryd.func19, Tryd.ntmps19
  go_wp2_with (first | (refine wpList_build_row rfl 50 _ rfl (.agg rwsC) (by kernel_rfl) ?_) | (refine wpList_store_row rfl 50 _ _ rfl w.heap.size rwsC rfl rfl 50 rwsZ (Blk.new w _ _) (by kernel_rfl) (by kernel_rfl) rwsC_all ?_))
  exact bodyPost_ret (results_cell_row rfl _ _ w.heap.size 50 rwsC (0, 0) _ rfl ((Blk.new w 50 rwsZ).setRow' rwsC) Tryd.underlying50 rfl (by kernel_rfl)) rfl ⟨rfl, ((Below.refl _ w).alloc (Nat.le_refl _) _).trans (below_row _ (Nat.le_refl _))⟩
end Go.Proofs.YtbggcofnopaloabDoor
namespace Go.Proofs.YtbggcofnopaloabDoor
open Go.RowKit Sx
theorem results_cell2 {P : Program} {fn : Func} {p u : Tmp} {ty : TypeId} (h : fn.results = #[.cell p ty, .tmp u]) (tmps : Array Value) (w : World) (g : Nat) (t : TypeId) (cs : Array Value) (fr : Nat × Nat) (d : TypeDesc)
    (hp : tmps.getD p undef = .pointer (some ⟨g, 0, none⟩)) (hg : w.heap[g]? = some (.cells cs t fr))
    (hu : P.underlying ty = some d) (hd : (match d with | .struct _ | .array _ _ => true | _ => false) = true) (hi : (P.info? ty).map (·.size) = some cs.size) :
    (results fn tmps).run P w = .ok (.tuple #[.agg cs, tmps.getD u undef]) w := by
  have hp' : tmps[p]?.getD undef = .pointer (some ⟨g, 0, none⟩) := by simpa using hp
  simp [results, h, hp', asAddr, run_loadVar_row w g t ty cs fr d hg hu hd hi]
def rowI (op : Int) : Nat × Nat × Bool := if 0 ≤ op ∧ op < 48 ∧ (rw op.toNat).2 ≠ 0 then ((rw op.toNat).1, (rw op.toNat).2, true) else ((bareI op).getD 0, 0, (bareI op).isSome)
def rowC (r : Nat × Nat × Bool) : Array Value := #[.int .u32 ((r.1 : Nat) : Int), .int .i64 ((r.2.1 : Nat) : Int)]
theorem row2_all (x y : Int) : (#[Value.int .u32 x, .int .i64 y]).all (·.oneCell') = true := by simp [Value.oneCell']
set_option maxRecDepth 100000 in
set_option maxHeartbeats 8000000 in
theorem cdRowOf_calls (op : Int) (w : World) (hop : -9223372036854775808 ≤ op ∧ op ≤ 9223372036854775807) :
    Calls Tryd.prog 23 #[.int .i64 op] w fun e w' => e = .returned (.tuple #[.agg (rowC (rowI op)), .bool (rowI op).2.2]) ∧ Below w.heap.size w w' := by
  have hz := rws_zero
  have HB0 : Hid (Blk (w.alloc (.cells #[.int .u32 0, .int .i64 0] 49)) w.heap.size 49 #[.int .u32 0, .int .i64 0]) := Blk.new w _ _
  have HBA := hid_of ((Below.refl w.heap.size w).alloc (Nat.le_refl _) (.cells #[.int .u32 0, .int .i64 0] 49))
  go_enter Tryd.func23, Tryd.ntmps23
  go_upto_region 1 with fail
  go_upto_region 2 with (first | (go_at_call 19; refine (cdRows_calls _).mono ?_; rintro e w1 ⟨rfl, hB1⟩) | (refine wpList_store_row rfl 50 _ _ rfl w1.heap.size rwsC rfl rfl 50 rwsZ (Blk.new w1 _ _) (by kernel_rfl) (by kernel_rfl) rwsC_all ?_))
  have hs1 : w.heap.size < w1.heap.size := by have := hB1.size; simp at this; omega
  have HR : Hid (Blk ((w1.alloc (.cells rwsZ 50)).setRow w1.heap.size rwsC) w1.heap.size 50 rwsC) := (Blk.new w1 50 rwsZ).setRow' rwsC
  have HZ : Hid (Blk ((w1.alloc (.cells rwsZ 50)).setRow w1.heap.size rwsC) w.heap.size 49 #[.int .u32 0, .int .i64 0]) := ((HB0.out.of_below hB1).alloc _).rowOther (by omega) _
  have HBW : Hid (Below w.heap.size w ((w1.alloc (.cells rwsZ 50)).setRow w1.heap.size rwsC)) := ((HBA.out.trans (hB1.mono (by simp))).alloc (by omega) _).trans (below_row _ (by omega))
  generalize (w1.alloc (.cells rwsZ 50)).setRow w1.heap.size rwsC = w2 at *
  generalize w1.heap.size = rb at *
  have HZS : Hid (w.heap.size ≤ w2.heap.size) := HBW.out.size
  clear hB1 HB0 HBA hz
  by_cases h0 : 0 ≤ op
  · by_cases h48 : op < 48
    · obtain ⟨k, rfl⟩ := Int.eq_ofNat_of_zero_le h0
      have hk : k < 48 := by omega
      have c0 := HR.out.cell (rwsC_at k hk).1
      have c1 := HR.out.cell (rwsC_at k hk).2
      by_cases hf : (rw k).2 = 0
      · have HRI : Hid (rowI (k : Int) = ((bareI (k : Int)).getD 0, 0, (bareI (k : Int)).isSome)) := by
          unfold rowI
          rw [if_neg (by simp [hf])]
          rfl
        rw [hf] at c1
        have e1 : ((0 : Int) == 0) = true := rfl
        clear HR h0 hf
        go_wp2_with (first | (go_at_call 22; refine (cdBare_calls _).mono ?_; rintro e w3 ⟨bm, rfl, own3, hbm, hB3⟩; have hl3 := bare_look w3 bm (k : Int) hop own3; have hZ3 := hid_of (HZ.out.of_below hB3)) | (refine wpList_store_row rfl 49 _ _ rfl w.heap.size #[.int .u32 (((bareI (k : Int)).getD 0 : Nat) : Int), .int .i64 0] rfl rfl 49 #[.int .u32 0, .int .i64 0] hZ3.out (by kernel_rfl) rfl (row2_all _ _) ?_))
        exact bodyPost_ret (results_cell2 rfl _ _ w.heap.size 49 _ (0, 0) _ rfl (hZ3.out.setRow' _) Tryd.underlying49 rfl (by kernel_rfl)) rfl ⟨by rw [HRI.out]; rfl, (HBW.out.trans (hB3.mono HZS.out)).trans (below_row _ (Nat.le_refl _))⟩
      · have HRI : Hid (rowI (k : Int) = ((rw k).1, (rw k).2, true)) := by
          unfold rowI
          rw [if_pos ⟨h0, h48, by simpa using hf⟩]
          rfl
        have e1 : (((rw k).2 : Int) == 0) = false := by simpa using hf
        clear HR h0 hf
        go_wp2_with (first | (refine wpList_store_row rfl 49 _ _ rfl w.heap.size #[.int .u32 ((rw k).1 : Nat), .int .i64 ((rw k).2 : Nat)] rfl rfl 49 #[.int .u32 0, .int .i64 0] HZ.out (by kernel_rfl) rfl (row2_all _ _) ?_))
        exact bodyPost_ret (results_cell2 rfl _ _ w.heap.size 49 _ (0, 0) _ rfl (HZ.out.setRow' _) Tryd.underlying49 rfl (by kernel_rfl)) rfl ⟨by rw [HRI.out]; rfl, HBW.out.trans (below_row _ (Nat.le_refl _))⟩
    · have HRI : Hid (rowI op = ((bareI op).getD 0, 0, (bareI op).isSome)) := by
        unfold rowI
        rw [if_neg (fun h => h48 h.2.1)]
        rfl
      clear HR
      go_wp2_with (first | (go_at_call 22; refine (cdBare_calls _).mono ?_; rintro e w3 ⟨bm, rfl, own3, hbm, hB3⟩; have hl3 := bare_look w3 bm op hop own3; have hZ3 := hid_of (HZ.out.of_below hB3)) | (refine wpList_store_row rfl 49 _ _ rfl w.heap.size #[.int .u32 (((bareI op).getD 0 : Nat) : Int), .int .i64 0] rfl rfl 49 #[.int .u32 0, .int .i64 0] hZ3.out (by kernel_rfl) rfl (row2_all _ _) ?_))
      exact bodyPost_ret (results_cell2 rfl _ _ w.heap.size 49 _ (0, 0) _ rfl (hZ3.out.setRow' _) Tryd.underlying49 rfl (by kernel_rfl)) rfl ⟨by rw [HRI.out]; rfl, (HBW.out.trans (hB3.mono HZS.out)).trans (below_row _ (Nat.le_refl _))⟩
  · have HRI : Hid (rowI op = ((bareI op).getD 0, 0, (bareI op).isSome)) := by
      unfold rowI
      rw [if_neg (fun h => h0 h.1)]
      rfl
    clear HR
    go_wp2_with (first | (go_at_call 22; refine (cdBare_calls _).mono ?_; rintro e w3 ⟨bm, rfl, own3, hbm, hB3⟩; have hl3 := bare_look w3 bm op hop own3; have hZ3 := hid_of (HZ.out.of_below hB3)) | (refine wpList_store_row rfl 49 _ _ rfl w.heap.size #[.int .u32 (((bareI op).getD 0 : Nat) : Int), .int .i64 0] rfl rfl 49 #[.int .u32 0, .int .i64 0] hZ3.out (by kernel_rfl) rfl (row2_all _ _) ?_))
    exact bodyPost_ret (results_cell2 rfl _ _ w.heap.size 49 _ (0, 0) _ rfl (hZ3.out.setRow' _) Tryd.underlying49 rfl (by kernel_rfl)) rfl ⟨by rw [HRI.out]; rfl, (HBW.out.trans (hB3.mono HZS.out)).trans (below_row _ (Nat.le_refl _))⟩
end Go.Proofs.YtbggcofnopaloabDoor
namespace Go.Proofs.YtbggcofnopaloabDoor
open Go.RowKit Sx
structure Tb (w : World) : Prop where
  lt : 0 < w.heap.size
  c : ∀ n, n < 17 → w.cell? ⟨0, n * 5, none⟩ = some (.int .u32 ((fm n).mask : Nat)) ∧ w.cell? ⟨0, n * 5 + 1, none⟩ = some (.int .i64 ((fm n).p0 : Nat)) ∧ w.cell? ⟨0, n * 5 + 2, none⟩ = some (.int .i64 ((fm n).p1 : Nat)) ∧ w.cell? ⟨0, n * 5 + 3, none⟩ = some (.int .i64 ((fm n).p2 : Nat)) ∧ w.cell? ⟨0, n * 5 + 4, none⟩ = some (.bool (fm n).apart)
theorem Tb.below {w w' : World} (h : Tb w) {n : Nat} (hn : 0 < n) (hb : Below n w w') : Tb w' :=
  ⟨Nat.lt_of_lt_of_le h.lt hb.size, fun j hj => by
    obtain ⟨a, b, c, d, e⟩ := h.c j hj
    exact ⟨(hb.cell (p := ⟨0, j * 5, none⟩) hn).trans a, (hb.cell (p := ⟨0, j * 5 + 1, none⟩) hn).trans b, (hb.cell (p := ⟨0, j * 5 + 2, none⟩) hn).trans c, (hb.cell (p := ⟨0, j * 5 + 3, none⟩) hn).trans d, (hb.cell (p := ⟨0, j * 5 + 4, none⟩) hn).trans e⟩⟩
theorem Tb.step {w w' : World} (h : Tb w) (hb : Below w.heap.size w w') : Tb w' := h.below h.lt hb
def wordB (x n : Nat) (i : Ins) : Nat × Bool := if fitsF (fm n) i then (x ||| layF (fm n) i, true) else (0, false)
structure WoW (m : Nat) (w0 : World) (x n : Nat) (i : Ins) (w : World) : Prop where
  row : Blk w m 49 #[.int .u32 x, .int .i64 n]
  ins : Blk w (m + 1) 25 (insC i)
  fo : Blk w (m + 2) 54 (fmC (fm n))
  bel : Below m w0 w
theorem WoW.step {m : Nat} {w0 : World} {x n : Nat} {i : Ins} {w w' : World} (h : WoW m w0 x n i w) (hb : Below w.heap.size w w') : WoW m w0 x n i w' :=
  ⟨h.row.of_below hb, h.ins.of_below hb, h.fo.of_below hb, h.bel.trans (hb.mono (by have := h.fo.lt; omega))⟩
theorem wo_new (w : World) (x n : Nat) (i : Ins) : WoW w.heap.size w x n i (((w.alloc (.cells #[.int .u32 x, .int .i64 n] 49)).alloc (.cells (insC i) 25)).alloc (.cells (fmC (fm n)) 54)) :=
  ⟨((Blk.new w _ _).alloc _).alloc _, (Blk.new2 w _ _ _).alloc _, by have := Blk.new ((w.alloc (.cells #[.int .u32 x, .int .i64 n] 49)).alloc (.cells (insC i) 25)) 54 (fmC (fm n)); simpa using this, (((Below.refl _ _).alloc (Nat.le_refl _) _).alloc (by simp) _).alloc (by simp; omega) _⟩
theorem layF_lt (n : Nat) (i : Ins) : layF (fm n) i < 2 ^ 32 := by rw [← layK_3]; exact layK_lt _ _ _
theorem WoW.cells {m : Nat} {w0 : World} {x n : Nat} {op rd rn rm imm cond : Int} {W : World} (h : WoW m w0 x n ⟨op, rd, rn, rm, imm, cond⟩ W) : W.cell? ⟨m + 2, 0, none⟩ = some (.int .u32 ((fm n).mask : Int)) ∧ W.cell? ⟨m + 2, 1, none⟩ = some (.int .i64 ((fm n).p0 : Int)) ∧ W.cell? ⟨m + 2, 2, none⟩ = some (.int .i64 ((fm n).p1 : Int)) ∧ W.cell? ⟨m + 2, 3, none⟩ = some (.int .i64 ((fm n).p2 : Int)) ∧ W.cell? ⟨m + 2, 4, none⟩ = some (.bool (fm n).apart) ∧ W.cell? ⟨m + 1, 0, none⟩ = some (.int .i64 op) ∧ W.cell? ⟨m + 1, 1, none⟩ = some (.int .i64 rd) ∧ W.cell? ⟨m + 1, 2, none⟩ = some (.int .i64 rn) ∧ W.cell? ⟨m + 1, 3, none⟩ = some (.int .i64 rm) ∧ W.cell? ⟨m + 1, 4, none⟩ = some (.int .i64 imm) ∧ W.cell? ⟨m + 1, 5, none⟩ = some (.int .i64 cond) ∧ W.cell? ⟨m, 0, none⟩ = some (.int .u32 x) := by
  obtain ⟨a, b, c, d, e, f⟩ := InS.of h.ins
  exact ⟨h.fo.cell rfl, h.fo.cell rfl, h.fo.cell rfl, h.fo.cell rfl, h.fo.cell rfl, a, b, c, d, e, f, h.row.cell rfl⟩
set_option maxRecDepth 100000 in
set_option maxHeartbeats 8000000 in
theorem cdWordOf_calls (x n : Nat) (i : Ins) (w : World) (hx : x < 2 ^ 32) (hn : n < 17) (hT : Tb w) :
    Calls Tryd.prog 21 #[.agg #[.int .u32 x, .int .i64 n], insV i] w fun e w' => e = .returned (.tuple #[.int .u32 (((wordB x n i).1 : Nat) : Int), .bool (wordB x n i).2]) ∧ Below w.heap.size w w' := by
  have HW := hid_of (wo_new w x n i)
  have hc1 : ∀ W, Calls Tryd.prog 35 #[fmV (fm n), insV i] W fun e w' => e = .returned (.bool (fitsF (fm n) i)) ∧ Below W.heap.size W w' := fun W => cdFFits_calls (fm n) i W (fm_ok n)
  have HC2 : Hid (fitsF (fm n) i = true → ∀ W, Calls Tryd.prog 36 #[fmV (fm n), insV i] W fun e w' => e = .returned (.int .u32 ((layF (fm n) i : Nat) : Int)) ∧ Below W.heap.size W w') := fun h W => cdFLay_calls (fm n) i W (fm_ok n) (fun j hj => by
    obtain ⟨t0, t1, t2⟩ := fitsF_takes h
    obtain rfl | rfl | rfl : j = 0 ∨ j = 1 ∨ j = 2 := by omega
    · exact t0
    · exact t1
    · exact t2)
  have HLT := hid_of (layF_lt n i)
  have HWB : Hid (wordB x n i = if fitsF (fm n) i then (x ||| layF (fm n) i, true) else (0, false)) := rfl
  generalize wordB x n i = r at *
  generalize fitsF (fm n) i = ff at *
  generalize layF (fm n) i = l at *
  have hor := or_u32 x l hx HLT.out
  unfold insV fmV at *
  obtain ⟨op, rd, rn, rm, imm, cond⟩ := i
  dsimp only at *
  obtain ⟨t0, t1, t2, t3, t4⟩ := ((hT.step ((Below.refl _ _).alloc (Nat.le_refl _) (.cells #[.int .u32 x, .int .i64 n] 49))).step ((Below.refl _ _).alloc (Nat.le_refl _) (.cells #[.int .i64 op, .int .i64 rd, .int .i64 rn, .int .i64 rm, .int .i64 imm, .int .i64 cond] 25))).c n hn
  clear hT
  go_enter Tryd.func21, Tryd.ntmps21
  cases ff
  · have HR : Hid (r = (0, false)) := HWB.out
    clear HC2
    go_wp2_with (first | (go_at_call 35; refine (hc1 _).mono ?_; rintro e w3 ⟨rfl, hB3⟩))
    have HB := hid_of (HW.out.step hB3).bel
    go_ret2
    exact ⟨by rw [HR.out]; rfl, HB.out⟩
  · have HR : Hid (r = (x ||| l, true)) := HWB.out
    have hc2 := HC2.out rfl
    clear HC2
    go_wp2_with (first | (go_at_call 35; refine (hc1 _).mono ?_; rintro e w3 ⟨rfl, hB3⟩))
    have hW3 := HW.out.step hB3
    have hS3 := hW3.cells
    have HW3 := hid_of hW3
    clear hW3 hB3 hc1
    go_region_held3 (fun W => W.cell? ⟨w.heap.size + 2, 0, none⟩ = some (.int .u32 ((fm n).mask : Int)) ∧ W.cell? ⟨w.heap.size + 2, 1, none⟩ = some (.int .i64 ((fm n).p0 : Int)) ∧ W.cell? ⟨w.heap.size + 2, 2, none⟩ = some (.int .i64 ((fm n).p1 : Int)) ∧ W.cell? ⟨w.heap.size + 2, 3, none⟩ = some (.int .i64 ((fm n).p2 : Int)) ∧ W.cell? ⟨w.heap.size + 2, 4, none⟩ = some (.bool (fm n).apart) ∧ W.cell? ⟨w.heap.size + 1, 0, none⟩ = some (.int .i64 op) ∧ W.cell? ⟨w.heap.size + 1, 1, none⟩ = some (.int .i64 rd) ∧ W.cell? ⟨w.heap.size + 1, 2, none⟩ = some (.int .i64 rn) ∧ W.cell? ⟨w.heap.size + 1, 3, none⟩ = some (.int .i64 rm) ∧ W.cell? ⟨w.heap.size + 1, 4, none⟩ = some (.int .i64 imm) ∧ W.cell? ⟨w.heap.size + 1, 5, none⟩ = some (.int .i64 cond) ∧ W.cell? ⟨w.heap.size, 0, none⟩ = some (.int .u32 x)) (first | assumption | exact hS5) (first | (go_at_call 36; refine (hc2 _).mono ?_; rintro e w5 ⟨rfl, hB5⟩; have hW5 := HW3.out.step ((Below.refl _ _).drew.trans hB5); have hS5 := hW5.cells))
    have HB := hid_of hW5.bel
    clear hW5 hS5 hB5
    go_wp2_with fail
    go_ret2
    exact ⟨by rw [HR.out]; rfl, HB.out⟩
theorem wordB_lt (x n : Nat) (i : Ins) (hx : x < 2 ^ 32) : (wordB x n i).1 < 2 ^ 32 := by
  unfold wordB
  split
  · exact Nat.or_lt_two_pow hx (layF_lt n i)
  · decide
def encI (i : Ins) : Option Nat := let r := rowI i.op; if r.2.2 && (wordB r.1 r.2.1 i).2 then some (wordB r.1 r.2.1 i).1 else none
theorem row_low (op : Nat) : (rw op).1 < 2 ^ 32 ∧ (rw op).2 < 17 := by
  by_cases h : op < 48
  · have : ∀ op : Fin 48, (rw op.1).1 < 2 ^ 32 ∧ (rw op.1).2 < 17 := by decide +kernel
    exact this ⟨op, h⟩
  · have e : rw op = (0, 0) := by
      unfold rw
      rw [List.getD_eq_getElem?_getD, List.getElem?_eq_none (by simp [rws]; omega)]
      rfl
    rw [e]
    decide
theorem bareI_low (op : Int) : (bareI op).getD 0 < 2 ^ 32 := by
  unfold bareI
  split
  · unfold bare
    repeat' split
    all_goals decide
  · decide
theorem rowI_low (op : Int) : (rowI op).1 < 2 ^ 32 ∧ (rowI op).2.1 < 17 := by
  unfold rowI
  split
  · exact row_low _
  · exact ⟨bareI_low op, by show 0 < 17; decide⟩
set_option maxRecDepth 100000 in
set_option maxHeartbeats 8000000 in
theorem cdEncode_calls (i : Ins) (w : World) (hT : Tb w) (hop : -9223372036854775808 ≤ i.op ∧ i.op ≤ 9223372036854775807) :
    Calls Tryd.prog 10 #[insV i] w fun e w' => e = .returned (.tuple #[.int .u32 (((encI i).getD 0 : Nat) : Int), .int .i64 (if (encI i).isSome then 0 else 7)]) ∧ Below w.heap.size w w' := by
  have HI : Hid (Blk (w.alloc (.cells (insC i) 25)) w.heap.size 25 (insC i)) := Blk.new w _ _
  have HBI := hid_of ((Below.refl w.heap.size w).alloc (Nat.le_refl _) (.cells (insC i) 25))
  have HT := hid_of (hT.step HBI.out)
  clear hT
  have hrl := rowI_low i.op
  have hc1 : ∀ W, Calls Tryd.prog 23 #[.int .i64 i.op] W fun e w' => e = .returned (.tuple #[.agg #[.int .u32 (((rowI i.op).1 : Nat) : Int), .int .i64 (((rowI i.op).2.1 : Nat) : Int)], .bool (rowI i.op).2.2]) ∧ Below W.heap.size W w' := fun W => cdRowOf_calls i.op W hop
  have HE : Hid (encI i = if (rowI i.op).2.2 && (wordB (rowI i.op).1 (rowI i.op).2.1 i).2 then some (wordB (rowI i.op).1 (rowI i.op).2.1 i).1 else none) := rfl
  generalize encI i = en at *
  generalize (rowI i.op).1 = x at *
  generalize (rowI i.op).2.1 = n at *
  generalize (rowI i.op).2.2 = kn at *
  have hc2 : ∀ W, Tb W → Calls Tryd.prog 21 #[.agg #[.int .u32 x, .int .i64 n], insV i] W fun e w' => e = .returned (.tuple #[.int .u32 (((wordB x n i).1 : Nat) : Int), .bool (wordB x n i).2]) ∧ Below W.heap.size W w' := fun W h => cdWordOf_calls x n i W hrl.1 hrl.2 h
  generalize (wordB x n i).1 = v at *
  generalize (wordB x n i).2 = ok at *
  clear hrl
  unfold insV insC at *
  obtain ⟨op, rd, rn, rm, imm, cond⟩ := i
  dsimp only at *
  go_enter Tryd.func10, Tryd.ntmps10
  go_upto_region 2 with (first | (go_at_call 23; refine (hc1 _).mono ?_; rintro e w3 ⟨rfl, hB3⟩))
  have hI4 := (HI.out.of_below hB3).alloc (.cells #[.int .u32 x, .int .i64 n] 49)
  have hT4 := (HT.out.step hB3).step ((Below.refl _ _).alloc (Nat.le_refl _) (.cells #[.int .u32 x, .int .i64 n] 49))
  have HB4 := hid_of ((HBI.out.trans (hB3.mono (by simp))).alloc (B := w.heap.size) (by have := hB3.size; simp at this; omega) (.cells #[.int .u32 x, .int .i64 n] 49))
  have hsz : w.heap.size ≤ (w3.alloc (.cells #[.int .u32 x, .int .i64 n] 49)).heap.size := HB4.out.size
  have HSZ := hid_of hsz
  have HI4 := hid_of hI4
  have HT4 := hid_of hT4
  clear hB3 hI4 hT4 hsz hc1 HI HBI HT
  cases kn
  · obtain rfl : en = none := HE.out
    go_wp2_with (first | (refine wpList_load_row rfl 25 _ rfl w.heap.size rfl 25 _ (0, 0) _ HI4.out Tryd.underlying25 rfl (by kernel_rfl) ?_) | (go_at_call 21; refine (hc2 _ HT4.out).mono ?_; rintro e w5 ⟨rfl, hB5⟩))
    have HB5 := hid_of (HB4.out.trans (hB5.mono HSZ.out))
    go_ret2
    exact ⟨rfl, HB5.out⟩
  · cases ok
    · obtain rfl : en = none := HE.out
      go_wp2_with (first | (refine wpList_load_row rfl 25 _ rfl w.heap.size rfl 25 _ (0, 0) _ HI4.out Tryd.underlying25 rfl (by kernel_rfl) ?_) | (go_at_call 21; refine (hc2 _ HT4.out).mono ?_; rintro e w5 ⟨rfl, hB5⟩))
      have HB5 := hid_of (HB4.out.trans (hB5.mono HSZ.out))
      go_ret2
      exact ⟨rfl, HB5.out⟩
    · obtain rfl : en = some v := HE.out
      go_wp2_with (first | (refine wpList_load_row rfl 25 _ rfl w.heap.size rfl 25 _ (0, 0) _ HI4.out Tryd.underlying25 rfl (by kernel_rfl) ?_) | (go_at_call 21; refine (hc2 _ HT4.out).mono ?_; rintro e w5 ⟨rfl, hB5⟩))
      have HB5 := hid_of (HB4.out.trans (hB5.mono HSZ.out))
      go_ret2
      exact ⟨rfl, HB5.out⟩
theorem cdFits_calls (i : Ins) (w : World) (hT : Tb w) (hop : -9223372036854775808 ≤ i.op ∧ i.op ≤ 9223372036854775807) :
    Calls Tryd.prog 11 #[insV i] w fun e w' => e = .returned (.bool (encI i).isSome) ∧ Below w.heap.size w w' := by
  have HI : Hid (Blk (w.alloc (.cells (insC i) 25)) w.heap.size 25 (insC i)) := Blk.new w _ _
  have HBI := hid_of ((Below.refl w.heap.size w).alloc (Nat.le_refl _) (.cells (insC i) 25))
  have hTI := hT.step HBI.out
  have hc2 := cdEncode_calls i _ hTI hop
  have HC2 := hid_of hc2
  clear hT hc2 hTI
  generalize (encI i).isSome = ok at *
  generalize (encI i).getD 0 = v at *
  unfold insV insC at *
  obtain ⟨op, rd, rn, rm, imm, cond⟩ := i
  dsimp only at *
  go_enter Tryd.func11, Tryd.ntmps11
  cases ok
  all_goals
    go_wp2_with (first | (go_at_call 10; refine HC2.out.mono ?_; rintro e w5 ⟨rfl, hB5⟩))
    have HB5 := hid_of (HBI.out.trans (hB5.mono HBI.out.size))
    go_ret
    exact ⟨rfl, HB5.out⟩
end Go.Proofs.YtbggcofnopaloabDoor
namespace Go.Proofs.YtbggcofnopaloabDoor
open Go.RowKit Sx
def rowT (op w : Nat) : Bool := !decide ((rw op).2 = 0) && decide (w &&& (fm (rw op).2).mask = (rw op).1) && ((wordB (rw op).1 (rw op).2 (readF (fm (rw op).2) op w)).2 && decide ((wordB (rw op).1 (rw op).2 (readF (fm (rw op).2) op w)).1 = w))
theorem bare_rw (op : Nat) (h1 : 1 ≤ op) (h2 : op < 48) : (rw op).2 = 0 ↔ bare op ≠ none := by
  have : ∀ op : Fin 48, 1 ≤ op.1 → ((rw op.1).2 = 0 ↔ bare op.1 ≠ none) := by decide +kernel
  exact this ⟨op, h2⟩ h1
theorem rw_zero : (rw 0).2 = 0 := rfl
theorem wordB_as (op w : Nat) (h1 : 1 ≤ op) (h2 : op < 48) (hb : bare op = none) : wordB (rw op).1 (rw op).2 (asR op w) = if fitsR op (asR op w) then (wordR op (asR op w), true) else (0, false) := by
  have hr : ¬ (rw op).2 = 0 := fun h => (bare_rw op h1 h2).1 h hb
  have hf : fitsF (fm (rw op).2) (asR op w) = fitsR op (asR op w) := by
    rw [← isF_as op w h1 h2]
    unfold isF
    rw [if_neg hr]
  unfold wordB
  rw [hf]
  cases h : fitsR op (asR op w)
  · rfl
  · rw [← isF_as op w h1 h2] at h
    rw [← word_eq op h1 h2 _ h]
    unfold wordP
    rw [hb]
theorem rowT_true {op w : Nat} (h2 : op < 48) (h : rowT op w = true) : 1 ≤ op ∧ bare op = none ∧ tst op w = true ∧ readF (fm (rw op).2) op w = asR op w := by
  unfold rowT at h
  simp only [Bool.and_eq_true, Bool.not_eq_true', decide_eq_false_iff_not, decide_eq_true_eq] at h
  obtain ⟨⟨h3, h4⟩, h5, h6⟩ := h
  have h1 : 1 ≤ op := by
    by_cases e : op = 0
    · subst e; exact absurd rw_zero h3
    · omega
  have hb : bare op = none := by
    cases hb : bare op with
    | none => rfl
    | some x => exact absurd ((bare_rw op h1 h2).2 (by rw [hb]; simp)) h3
  have hm : w &&& maskP op = onesP op := by
    unfold maskP onesP
    rw [hb]
    exact h4
  have hr := readF_eq op w h1 h2 hb hm
  refine ⟨h1, hb, ?_, hr⟩
  rw [hr, wordB_as op w h1 h2 hb] at h5 h6
  unfold tst
  cases hf : fitsR op (asR op w)
  · rw [hf] at h5; cases h5
  · rw [hf] at h6
    rw [Bool.true_and]
    exact decide_eq_true h6
theorem rowT_of {op w : Nat} (h1 : 1 ≤ op) (h2 : op < 48) (hb : bare op = none) (h : tst op w = true) : rowT op w = true := by
  have hm := mask_tst op w h1 h2 h
  have hr := readF_eq op w h1 h2 hb hm
  unfold rowT
  rw [hr, wordB_as op w h1 h2 hb]
  have h3 : ¬ (rw op).2 = 0 := fun h => (bare_rw op h1 h2).1 h hb
  unfold maskP onesP at hm
  rw [hb] at hm
  unfold tst at h
  simp only [Bool.and_eq_true, decide_eq_true_eq] at h
  rw [h.1]
  simp [h3, h.2]
  exact hm
theorem bare_op {op x : Nat} (h : bare op = some x) : 1 ≤ op ∧ op < 48 := by
  unfold bare at h
  repeat' split at h
  all_goals first | omega | cases h
theorem bare_as {op x : Nat} (w : Nat) (h : bare op = some x) : asR op w = ⟨op, 0, 0, 0, 0, 0⟩ := by
  obtain ⟨h1, h2⟩ := bare_op h
  have hc := cnt_tab op h1 h2
  unfold cnts at hc
  simp only [List.map_cons, List.map_nil] at hc
  have hz : ∀ l, (posL op l).2 = 0 → numL op l w = 0 := fun l hl => by
    unfold numL ext
    rw [hl, Nat.pow_zero, Nat.mod_one]
  have hT : cntT.getD op [] = [0, 0, 0, 0, 0, 0, 0] ∨ op = 33 := by
    have : ∀ op : Fin 48, 1 ≤ op.1 → bare op.1 ≠ none → cntT.getD op.1 [] = [0, 0, 0, 0, 0, 0, 0] := by decide +kernel
    exact Or.inl (this ⟨op, h2⟩ h1 (by rw [h]; simp))
  have h33 : op ≠ 33 := by
    rintro rfl
    cases h
  have h14 : op ≠ 14 := by
    rintro rfl
    cases h
  rw [hT.resolve_right h33] at hc
  simp only [List.cons.injEq, and_true] at hc
  obtain ⟨c1, c2, c3, c4, c5, c6, c7⟩ := hc
  unfold asR
  rw [hz 100 c1, hz 110 c2, hz 109 c3, hz 105 c4, hz 99 c5, c6, c4]
  simp [asN, h14]
theorem bare_tst {op x : Nat} (w : Nat) (h : bare op = some x) : tst op w = decide (x = w) := by
  obtain ⟨h1, h2⟩ := bare_op h
  have hr : (rw op).2 = 0 := (bare_rw op h1 h2).2 (by rw [h]; simp)
  unfold tst
  have hf : isF op (asR op w) = true := by
    unfold isF
    rw [if_pos hr, bare_as w h]
    exact (insEq_iff _ _).2 rfl
  rw [← word_eq op h1 h2 _ hf, ← isF_as op w h1 h2, hf]
  unfold wordP
  rw [h]
  rfl
theorem decA_row {op w : Nat} (h2 : op < 48) (h : rowT op w = true) : decA w = some (readF (fm (rw op).2) op w) := by
  obtain ⟨h1, -, h3, h4⟩ := rowT_true h2 h
  rw [h4, decA_some h1 h2 h3]
theorem decA_bare {op x : Nat} (h : bare op = some x) : decA x = some ⟨op, 0, 0, 0, 0, 0⟩ := by
  obtain ⟨h1, h2⟩ := bare_op h
  rw [decA_some h1 h2 (by rw [bare_tst x h]; exact decide_eq_true rfl), bare_as x h]
theorem decA_no {w : Nat} (h : ∀ op, op < 48 → rowT op w = false) (hb : ∀ op x, bare op = some x → x ≠ w) : decA w = none :=
  decA_none fun op h1 h2 => by
    cases ht : tst op w
    · rfl
    · cases hbr : bare op with
      | none =>
        have := h op h2
        rw [rowT_of h1 h2 hbr ht] at this
        cases this
      | some x =>
        rw [bare_tst w hbr] at ht
        exact absurd (of_decide_eq_true ht) (hb op x hbr)
theorem fits0 (i : Ins) : fitsF (fm 0) i = insEq i ⟨i.op, 0, 0, 0, 0, 0⟩ := by
  simp [fitsF, fm, fms, plc, plcs, takesB, Ins.fld, Ins.put]
theorem lay0 (i : Ins) : layF (fm 0) i = 0 := by
  simp [layF, fm, fms, plc, plcs, layP, numP, Ins.fld]
theorem encI_eq (op : Nat) (h1 : 1 ≤ op) (h2 : op < 48) (rd rn rm imm cond : Int) : encI ⟨op, rd, rn, rm, imm, cond⟩ = if fitsR op ⟨op, rd, rn, rm, imm, cond⟩ then some (wordR op ⟨op, rd, rn, rm, imm, cond⟩) else none := by
  rw [← fits_eq op h1 h2]
  cases hb : bare op with
  | none =>
    have hr : ¬ (rw op).2 = 0 := fun h => (bare_rw op h1 h2).1 h hb
    have hri : rowI (op : Int) = ((rw op).1, (rw op).2, true) := by
      unfold rowI
      rw [if_pos ⟨by omega, by omega, by simpa using hr⟩]
      rfl
    cases hf : isF op ⟨op, rd, rn, rm, imm, cond⟩
    · have hf' := hf
      unfold isF at hf'
      rw [if_neg hr] at hf'
      simp [encI, hri, wordB, hf']
    · rw [if_pos rfl, ← word_eq op h1 h2 _ hf]
      have hf' := hf
      unfold isF at hf'
      rw [if_neg hr] at hf'
      simp [encI, hri, wordB, hf', wordP, hb]
  | some x =>
    have hr : (rw op).2 = 0 := (bare_rw op h1 h2).2 (by rw [hb]; simp)
    have hri : rowI (op : Int) = (x, 0, true) := by
      unfold rowI
      rw [if_neg (by simp [hr])]
      have : bareI (op : Int) = some x := by
        unfold bareI
        rw [if_pos (by omega)]
        exact hb
      rw [this]
      rfl
    cases hf : isF op ⟨op, rd, rn, rm, imm, cond⟩
    · have hf' := hf
      unfold isF at hf'
      rw [if_pos hr] at hf'
      simp [encI, hri, wordB, fits0, hf']
    · rw [if_pos rfl, ← word_eq op h1 h2 _ hf]
      have hf' := hf
      unfold isF at hf'
      rw [if_pos hr] at hf'
      simp [encI, hri, wordB, fits0, hf', wordP, hb, lay0]
theorem encI_no (i : Ins) (h : ¬ (1 ≤ i.op ∧ i.op < 48)) : encI i = none := by
  have hri : (rowI i.op).2.2 = false := by
    have hb : bareI i.op = none := by
      unfold bareI
      split
      · cases hb : bare i.op.toNat with
        | none => rfl
        | some x =>
          have := bare_op hb
          omega
      · rfl
    unfold rowI
    rw [hb]
    split
    · rename_i h3
      have e : i.op = 0 := by omega
      rw [e] at h3
      exact absurd rw_zero h3.2.2
    · rfl
  simp [encI, hri]
end Go.Proofs.YtbggcofnopaloabDoor
namespace Go.Proofs.YtbggcofnopaloabDoor
open Go.RowKit Sx
theorem rws_ix (k : Nat) (h : k < 48) (W : World) : (Instr.index 50 (.agg rwsC) (.int .i64 k)).run Tryd.prog W = .ok (.agg #[.int .u32 ((rw k).1 : Nat), .int .i64 ((rw k).2 : Nat)]) W := by
  match k, h with
  | 0, _ | 1, _ | 2, _ | 3, _ | 4, _ | 5, _ | 6, _ | 7, _ | 8, _ | 9, _ | 10, _ | 11, _ | 12, _ | 13, _ | 14, _ | 15, _ | 16, _ | 17, _ | 18, _ | 19, _ | 20, _ | 21, _ | 22, _ | 23, _ | 24, _ | 25, _ | 26, _ | 27, _ | 28, _ | 29, _ | 30, _ | 31, _ | 32, _ | 33, _ | 34, _ | 35, _ | 36, _ | 37, _ | 38, _ | 39, _ | 40, _ | 41, _ | 42, _ | 43, _ | 44, _ | 45, _ | 46, _ | 47, _ => exact (show _ = _ by kernel_rfl)
  | k + 48, h => exact absurd h (by omega)
theorem bare_has {op : Int} {y : Nat} (h : bareI op = some y) : Maps.has bareD (.int .i64 op) = true := by
  by_cases h0 : op = 30
  · subst h0; rfl
  by_cases h1 : op = 31
  · subst h1; rfl
  by_cases h2 : op = 32
  · subst h2; rfl
  by_cases h3 : op = 34
  · subst h3; rfl
  unfold bareI bare at h
  split at h
  · rw [if_neg (by omega), if_neg (by omega), if_neg (by omega), if_neg (by omega)] at h
    cases h
  · cases h
def zeroI : Ins := ⟨0, 0, 0, 0, 0, 0⟩
def DecE (x : Nat) (e : Ending) : Prop := e = .returned (.tuple #[.agg (insC ((decA x).getD zeroI)), .int .i64 (if (decA x).isSome then 0 else 7)])
structure DcW (m : Nat) (w0 w : World) : Prop where
  res : Blk w m 25 (insC zeroI)
  tb : Tb w
  bel : Below m w0 w
theorem DcW.step {m : Nat} {w0 w w' : World} (h : DcW m w0 w) (hb : Below w.heap.size w w') : DcW m w0 w' := ⟨h.res.of_below hb, h.tb.step hb, h.bel.trans (hb.mono (Nat.le_of_lt h.res.lt))⟩
theorem dc_new (w : World) (hT : Tb w) : DcW w.heap.size w (w.alloc (.cells (insC zeroI) 25)) := ⟨Blk.new w _ _, hT.step ((Below.refl _ _).alloc (Nat.le_refl _) _), (Below.refl _ _).alloc (Nat.le_refl _) _⟩
theorem Tb.drewN {w : World} (h : Tb w) (n : Nat) : Tb (w.drewN n) := h.step (below_drewN (Below.refl _ w) n)
theorem DcW.drewN {m : Nat} {w0 w : World} (h : DcW m w0 w) (n : Nat) : DcW m w0 (w.drewN n) := h.step (below_drewN (Below.refl _ w) n)
theorem and_u32 (a b : Nat) (ha : a < 2 ^ 32) (hb : b < 2 ^ 32) : bits BinOp.and IntKind.u32 (a : Int) (b : Int) = ((a &&& b : Nat) : Int) :=
  (bits_nat .u32 32 (by decide) (fun n h0 h1 => by rw [IntKind.wrap_u32]; omega) a b ha hb).1
theorem mask_low (n : Nat) (h : n < 17) : (fm n).mask < 2 ^ 32 := by
  have : ∀ n : Fin 17, (fm n.1).mask < 2 ^ 32 := by decide +kernel
  exact this ⟨n, h⟩
theorem DcW.under {m r : Nat} {w0 w w' : World} (h : DcW m w0 w) (hr : m < r) (hb : Below r w w') : DcW m w0 w' := ⟨h.res.below hb hr, h.tb.below (by omega) hb, h.bel.trans (hb.mono (by omega))⟩
theorem DcW.grownN {m : Nat} {w0 w w' : World} (h : DcW m w0 w) (hg : w.grownBy w' none) : DcW m w0 w' := h.step ⟨hg.os, hg.tape, hg.output, hg.size, fun k hk => hg.block k hk (by simp)⟩
theorem DcW.grownR {m r : Nat} {w0 w w' : World} (h : DcW m w0 w) (hr : m < r) (hrs : r < w.heap.size) (hg : w.grownBy w' (some r)) : DcW m w0 w' := h.under hr (below_grown hrs hg)
theorem DcW.low {m : Nat} {w0 w : World} (h : DcW m w0 w) : m < w.heap.size := h.res.lt
set_option maxRecDepth 100000 in
set_option maxHeartbeats 8000000 in
theorem cdDecode_calls (x : Nat) (w : World) (hx : x < 2 ^ 32) (hT : Tb w) :
    Calls Tryd.prog 9 #[.int .u32 x] w fun e w' => DecE x e ∧ Below w.heap.size w w' := by
  have HW := hid_of (dc_new w hT)
  clear hT
  go_enter Tryd.func9, Tryd.ntmps9
  go_wp2_with (first | (go_at_call 19; refine (cdRows_calls _).mono ?_; rintro e w1 ⟨rfl, hB1⟩))
  have HW1 := hid_of (HW.out.step hB1)
  clear hB1 HW
  go_loopw [12] (fun k wr => ∃ j : Nat, j ≤ 48 ∧ k = .int .i64 j ∧ Hid (∀ op, op < j → rowT op x = false) ∧ Hid (DcW w.heap.size w wr)) (fun k _ => 48 - (intOf k).toNat)
  case atStart => exact ⟨0, by omega, rfl, fun op h => absurd h (by omega), HW1⟩
  case round =>
    obtain ⟨j, hj, rfl, HN, HF⟩ := hrel
    by_cases h48 : j < 48
    · have hix := rws_ix j h48
      have HJ : Hid (rowT j x = (!decide ((rw j).2 = 0) && decide (x &&& (fm (rw j).2).mask = (rw j).1) && ((wordB (rw j).1 (rw j).2 (readF (fm (rw j).2) j x)).2 && decide ((wordB (rw j).1 (rw j).2 (readF (fm (rw j).2) j x)).1 = x)))) := rfl
      have HR : Hid (rowT j x = true → decA x = some (readF (fm (rw j).2) j x)) := decA_row h48
      have HNX : Hid (rowT j x = false → ∀ op, op < j + 1 → rowT op x = false) := fun h op hop => by
        by_cases e : op = j
        · subst e; exact h
        · exact HN.out op (by omega)
      have hlow := row_low j
      generalize rowT j x = rt at *
      generalize (rw j).1 = xw at *
      generalize (rw j).2 = n at *
      obtain ⟨hxw, hn⟩ := hlow
      go_upto_region 4 with fail
      have hlo := HF.out.low
      have hBr : Blk (wr.alloc (.cells #[.int .u32 xw, .int .i64 n] 49)) wr.heap.size 49 #[.int .u32 xw, .int .i64 n] := Blk.new wr _ _
      have HF2 := hid_of (HF.out.step ((Below.refl _ _).alloc (Nat.le_refl _) (.cells #[.int .u32 xw, .int .i64 n] 49)))
      obtain ⟨t0, t1, t2, t3, t4⟩ := HF2.out.tb.c n hn
      have HBR := hid_of hBr
      have c0 : (wr.alloc (.cells #[.int .u32 xw, .int .i64 n] 49)).cell? ⟨wr.heap.size, 0, none⟩ = some (.int .u32 xw) := hBr.cell rfl
      have c1 : (wr.alloc (.cells #[.int .u32 xw, .int .i64 n] 49)).cell? ⟨wr.heap.size, 1, none⟩ = some (.int .i64 n) := hBr.cell rfl
      clear hBr
      by_cases hn0 : n = 0
      · have hrt : rt = false := by rw [HJ.out, decide_eq_true hn0]; rfl
        have HNX2 := hid_of (HNX.out hrt)
        have e1 : ((n : Int) == 0) = true := by simp [hn0]
        clear hn0 hrt HJ HR t0 t1 t2 t3 t4
        go_quiet (fail)
        go_wp2_with fail
        exact ⟨⟨j + 1, by omega, by go_num, HNX2, HF2.out.drewN _⟩, by simp [intOf]; omega⟩
      · have e1 : ((n : Int) == 0) = false := by simp [hn0]
        have e2 : decide ((n : Int) = 0) = false := by simp [hn0]
        have HN0 := hid_of hn0
        clear hn0
        have hand := and_u32 x (fm n).mask hx (mask_low n hn)
        generalize hy : x &&& (fm n).mask = y at *
        clear hy
        by_cases hm : y = xw
        · have e3 : ((y : Int) == (xw : Int)) = true := by simp [hm]
          have HM := hid_of hm
          clear hm
          have hc1 : ∀ W, Calls Tryd.prog 20 #[.agg #[.int .u32 (fm n).mask, .int .i64 (fm n).p0, .int .i64 (fm n).p1, .int .i64 (fm n).p2, .bool (fm n).apart], .int .i64 j, .int .u32 x] W fun e w' => e = .returned (.agg (insC (readF (fm n) j x))) ∧ Below W.heap.size W w' := fun W => cdFRead_calls (fm n) j x W (fm_ok n) hx
          go_quiet (fail)
          have HJ2 : Hid (rt = ((wordB xw n (readF (fm n) j x)).2 && decide ((wordB xw n (readF (fm n) j x)).1 = x))) := by
            rw [Hid, HJ.out, decide_eq_false HN0.out, decide_eq_true HM.out]
            rfl
          have hwl := wordB_lt xw n (readF (fm n) j x) hxw
          generalize readF (fm n) j x = o at *
          have hc2 : ∀ W, Tb W → Calls Tryd.prog 21 #[.agg #[.int .u32 xw, .int .i64 n], .agg (insC o)] W fun e w' => e = .returned (.tuple #[.int .u32 (((wordB xw n o).1 : Nat) : Int), .bool (wordB xw n o).2]) ∧ Below W.heap.size W w' := fun W h => cdWordOf_calls xw n o W hxw hn h
          generalize (wordB xw n o).1 = v at *
          generalize (wordB xw n o).2 = ok at *
          have hall := insC_all o
          clear HJ
          go_upto_region 6 with (first | (go_at_call 20; refine (hc1 _).mono ?_; rintro e w5 ⟨rfl, hB5⟩) | (refine wpList_store_row rfl 25 _ _ rfl w5.heap.size (insC o) rfl rfl 25 (insC zeroI) (Blk.new w5 _ _) (by kernel_rfl) rfl hall ?_))
          have hs5 : wr.heap.size < w5.heap.size := by have := hB5.size; simp at this; omega
          have HRW : Hid (Blk ((w5.alloc (.cells (insC zeroI) 25)).setRow w5.heap.size (insC o)) wr.heap.size 49 #[.int .u32 xw, .int .i64 n]) := (((HBR.out.drewN _).of_below hB5).alloc _).rowOther (by omega) _
          have HIB : Hid (Blk ((w5.alloc (.cells (insC zeroI) 25)).setRow w5.heap.size (insC o)) w5.heap.size 25 (insC o)) := (Blk.new w5 25 (insC zeroI)).setRow' (insC o)
          have hF5 := (HF2.out.drewN _).step hB5
          have HF6 : Hid (DcW w.heap.size w ((w5.alloc (.cells (insC zeroI) 25)).setRow w5.heap.size (insC o))) := hF5.step (((Below.refl _ _).alloc (Nat.le_refl _) _).trans (below_row _ (Nat.le_refl _)))
          clear hB5 hF5 hc1 HBR HF2 c0 c1 t0 t1 t2 t3 t4
          generalize hw6 : (w5.alloc (.cells (insC zeroI) 25)).setRow w5.heap.size (insC o) = w6 at *
          have hw7 : (w5.alloc (.cells #[.int .i64 0, .int .i64 0, .int .i64 0, .int .i64 0, .int .i64 0, .int .i64 0] 25)).setRow w5.heap.size (insC o) = w6 := hw6
          rw [hw7]
          clear hw6 hw7
          generalize w5.heap.size = ib at *
          have HTB := hid_of HF6.out.tb
          cases ok
          · have hrt : rt = false := HJ2.out
            have HNX2 := hid_of (HNX.out hrt)
            clear hrt HJ2 HR
            go_wp2_with (first | (refine wpList_load_row rfl 49 _ rfl wr.heap.size rfl 49 _ (0, 0) _ HRW.out Tryd.underlying49 rfl (by kernel_rfl) ?_) | (refine wpList_load_row rfl 25 _ rfl ib rfl 25 (insC o) (0, 0) _ HIB.out Tryd.underlying25 rfl (by kernel_rfl) ?_) | (go_at_call 21; refine (hc2 _ HTB.out).mono ?_; rintro e w8 ⟨rfl, hB8⟩))
            exact ⟨⟨j + 1, by omega, by go_num, HNX2, HF6.out.step hB8⟩, by simp [intOf]; omega⟩
          · by_cases hv : v = x
            · have hrt : rt = true := by rw [HJ2.out, decide_eq_true hv]; rfl
              have HDA := hid_of (HR.out hrt)
              have e4 : ((v : Int) == (x : Int)) = true := by simp [hv]
              clear hrt HJ2 HR HNX hv
              go_wp2_with (first | (refine wpList_load_row rfl 49 _ rfl wr.heap.size rfl 49 _ (0, 0) _ HRW.out Tryd.underlying49 rfl (by kernel_rfl) ?_) | (refine wpList_load_row rfl 25 _ rfl ib rfl 25 (insC o) (0, 0) _ HIB.out Tryd.underlying25 rfl (by kernel_rfl) ?_) | (go_at_call 21; refine (hc2 _ HTB.out).mono ?_; rintro e w8 ⟨rfl, hB8⟩; have HIB8 := hid_of (HIB.out.of_below hB8); have HF8 := hid_of (HF6.out.step hB8)) | (refine wpList_load_row rfl 25 _ rfl ib rfl 25 (insC o) (0, 0) _ HIB8.out Tryd.underlying25 rfl (by kernel_rfl) ?_) | (refine wpList_store_row rfl 25 _ _ rfl w.heap.size (insC o) rfl rfl 25 (insC zeroI) HF8.out.res (by kernel_rfl) rfl hall ?_))
              exact bodyPost_ret (results_cell2 rfl _ _ w.heap.size 25 (insC o) (0, 0) _ rfl (HF8.out.res.setRow' _) Tryd.underlying25 rfl (by kernel_rfl)) rfl ⟨by rw [DecE, HDA.out]; rfl, HF8.out.bel.trans (below_row _ (Nat.le_refl _))⟩
            · have hrt : rt = false := by rw [HJ2.out, decide_eq_false hv]; rfl
              have HNX2 := hid_of (HNX.out hrt)
              have e4 : ((v : Int) == (x : Int)) = false := by simp; omega
              clear hrt HJ2 HR hv
              go_wp2_with (first | (refine wpList_load_row rfl 49 _ rfl wr.heap.size rfl 49 _ (0, 0) _ HRW.out Tryd.underlying49 rfl (by kernel_rfl) ?_) | (refine wpList_load_row rfl 25 _ rfl ib rfl 25 (insC o) (0, 0) _ HIB.out Tryd.underlying25 rfl (by kernel_rfl) ?_) | (go_at_call 21; refine (hc2 _ HTB.out).mono ?_; rintro e w8 ⟨rfl, hB8⟩))
              exact ⟨⟨j + 1, by omega, by go_num, HNX2, HF6.out.step hB8⟩, by simp [intOf]; omega⟩
        · have e3 : ((y : Int) == (xw : Int)) = false := by simp; omega
          have hrt : rt = false := by rw [HJ.out, decide_eq_false hm]; simp
          have HNX2 := hid_of (HNX.out hrt)
          clear hm hrt HJ HR
          go_quiet (fail)
          go_wp2_with fail
          exact ⟨⟨j + 1, by omega, by go_num, HNX2, HF2.out.drewN _⟩, by simp [intOf]; omega⟩
    · obtain rfl : j = 48 := by omega
      have HN2 : Hid (∀ op, op < 48 → rowT op x = false) := HN
      go_wp2_with (first | (go_at_call 22; refine (cdBare_calls _).mono ?_; rintro e w3 ⟨bm, rfl, own3, hbm, hB3⟩; have HF3 := hid_of (HF.out.step hB3); have hb3 := own3.lt) | (at_range; refine wpList_range_own _ rfl _ 59 rfl 3 22 bKey Tryd.underlying59 _ bm 4 bareD rfl own3 ?_; intro w0 hrg0 hg0 hs0))
      have HF0 := hid_of (HF3.out.grownN hg0)
      have HLO := hid_of HF3.out.low
      have HRG0 := hid_of hrg0
      clear HF HF3 own3 hbm hB3 hrg0 hg0 hs0
      go_frame
      go_loopg [] (Maps.size bareD) (fun f w2 => ∃ left : Lit → Bool, Hid (w2.ranges Tryd.prog 3 (plainElem (H := Unit) Tryd.prog 22) bm w3.heap.size 4 bareD left f) ∧ Hid (∀ op y, bareI op = some y → left (.int .i64 op) = false → y ≠ x) ∧ Hid (DcW w.heap.size w w2))
      case atStart => exact ⟨Maps.has bareD, HRG0.out, fun op y h1 h2 => absurd h2 (by rw [bare_has h1]; decide), HF0.out⟩
      case round =>
        obtain ⟨left, HRG, HL, HF2⟩ := hrel
        go_wp2_with (first | (at_next; refine wpList_next_ranges_ii _ rfl _ rfl 3 22 .i64 .u32 bKey Tryd.underlying3 Tryd.underlying22 bm w3.heap.size 4 bareD left _ rfl HRG.out ?_ ?_))
        · intro hc0 hl0
          have hd : decA x = none := decA_no HN2.out (fun op y hb => HL.out op y (by unfold bareI; rw [if_pos (by omega)]; exact hb) (hl0 _))
          have HD := hid_of hd
          have hres := HF2.out.res
          have HRES := hid_of hres
          clear hc0 hl0 hd hres HL HRG
          go_wp2_with (first | (refine wpList_store_row rfl 25 _ _ rfl w.heap.size (insC zeroI) rfl rfl 25 (insC zeroI) HRES.out (by kernel_rfl) rfl (insC_all zeroI) ?_))
          exact bodyPost_ret (results_cell2 rfl _ _ w.heap.size 25 (insC zeroI) (0, 0) _ rfl (HRES.out.setRow' _) Tryd.underlying25 rfl (by kernel_rfl)) rfl ⟨by rw [DecE, HD.out]; rfl, HF2.out.bel.trans (below_row _ (Nat.le_refl _))⟩
        · intro op c w4 cnt4 hwx hwc hlx hat hrg4 hlt4 hg4 hs4 hen
          have HF4 : Hid (DcW w.heap.size w w4) := HF2.out.grownR HLO.out HRG.out.lt hg4
          have HRG4 := hid_of hrg4
          have HLT4 := hid_of hlt4
          obtain ⟨y, hby, hcy⟩ : ∃ y : Nat, bareI op = some y ∧ c = (y : Int) := by
            have h1 := hat (.lit (.bool true))
            have h2 := hat (.lit (.bool false))
            rw [bareD_at] at h1 h2
            cases hbi : bareI op with
            | none =>
              rw [hbi] at h1
              cases h1
            | some y =>
              rw [hbi] at h1
              injection h1 with h1
              injection h1 with _ h1
              exact ⟨y, rfl, h1.symm⟩
          subst hcy
          have HBY := hid_of hby
          clear hwx hwc hlx hat hrg4 hlt4 hg4 hs4 hby HF2 HRG
          by_cases hyx : y = x
          · have e1 : ((y : Int) == (x : Int)) = true := by simp [hyx]
            have hd : decA x = some ⟨op, 0, 0, 0, 0, 0⟩ := by
              have h := HBY.out
              unfold bareI at h
              split at h
              · rename_i h0
                have := decA_bare h
                rw [hyx] at this
                rw [this]
                have e : ((op.toNat : Nat) : Int) = op := by omega
                rw [e]
              · cases h
            have HD := hid_of hd
            have hall := insC_all ⟨op, 0, 0, 0, 0, 0⟩
            have HRES := hid_of HF4.out.res
            clear hyx hd HL
            go_wp2_with (first | (refine wpList_store_row rfl 25 _ _ rfl w.heap.size (insC ⟨op, 0, 0, 0, 0, 0⟩) rfl rfl 25 (insC zeroI) HRES.out (by kernel_rfl) rfl hall ?_))
            exact bodyPost_ret (results_cell2 rfl _ _ w.heap.size 25 (insC ⟨op, 0, 0, 0, 0, 0⟩) (0, 0) _ rfl (HRES.out.setRow' _) Tryd.underlying25 rfl (by kernel_rfl)) rfl ⟨by rw [DecE, HD.out]; rfl, HF4.out.bel.trans (below_row _ (Nat.le_refl _))⟩
          · have e1 : ((y : Int) == (x : Int)) = false := by simp; omega
            have HL4 : Hid (∀ op2 y2, bareI op2 = some y2 → (left (.int .i64 op2) && !(Lit.int .i64 op2).sameKey (.int .i64 op)) = false → y2 ≠ x) := fun op2 y2 h1 h2 => by
              cases hl : left (.int .i64 op2)
              · exact HL.out op2 y2 h1 hl
              · rw [hl, Bool.true_and, Bool.not_eq_false'] at h2
                have := WideAt.sameKey_eq h2
                injection this with _ this
                subst this
                rw [HBY.out] at h1
                rw [← Option.some.inj h1]
                exact hyx
            clear hyx HL
            go_wp2_with fail
            go_roundg cnt4
            case measure => exact HLT4.out
            case rel => exact ⟨_, HRG4.out, HL4.out, HF4.out⟩
end Go.Proofs.YtbggcofnopaloabDoor
namespace Go.Proofs.YtbggcofnopaloabDoor
open Go.RowKit Sx
def patB (op : Nat) : ByteArray := (patS op).toUTF8
theorem patB_size (op : Nat) (h1 : 1 ≤ op) (h2 : op < 48) : (patB op).size = 32 := by
  have h : ((List.range 48).all fun op => op == 0 || (patB op).size == 32) = true := by decide +kernel
  have := (List.all_eq_true.1 h) op (List.mem_range.2 h2)
  have h3 : (op == 0) = false := by simp; omega
  rw [h3, Bool.false_or] at this
  exact eq_of_beq this
theorem patB_at (op k : Nat) (h : k < (patB op).size) : ((patB op)[k]).toNat = sg op k := by
  unfold sg patL
  have h2 : k < (patB op).data.toList.length := by simpa using h
  rw [List.getD_eq_getElem?_getD, List.getElem?_map]
  show _ = (Option.map _ ((patB op).data.toList[k]?)).getD 0
  rw [List.getElem?_eq_getElem h2]
  rfl
def patC : Array Value := ((List.range 47).map fun k => Value.string (patB (k + 1))).toArray
def patZ : Array Value := (List.replicate 47 (Value.string ⟨#[]⟩)).toArray
theorem pat_zero (W : World) : (zeroValue 81).run Tryd.prog W = .ok (.agg patZ) W := by kernel_rfl
theorem patC_all : patC.all (·.oneCell') = true := by
  unfold patC
  simp [Value.oneCell']
theorem patC_at (k : Nat) (h : k < 47) : patC[k]? = some (.string (patB (k + 1))) := by
  unfold patC
  simp [h]
set_option maxRecDepth 100000 in
set_option maxHeartbeats 8000000 in
theorem r14Pattern_calls (op : Nat) (w : World) (h1 : 1 ≤ op) (h2 : op < 48) :
    Calls Tryd.prog 28 #[.int .i64 op] w fun e w' => e = .returned (.string (patB op)) ∧ Below w.heap.size w w' := by
  obtain ⟨k, rfl⟩ : ∃ k, op = k + 1 := ⟨op - 1, by omega⟩
  have hk : k < 47 := by omega
  have hz := pat_zero
  have HC : Hid (Blk ((w.alloc (.cells patZ 81)).setRow w.heap.size patC) w.heap.size 81 patC) := (Blk.new w 81 patZ).setRow' patC
  have hB : Below w.heap.size w ((w.alloc (.cells patZ 81)).setRow w.heap.size patC) := ((Below.refl _ w).alloc (Nat.le_refl _) _).trans (below_row _ (Nat.le_refl _))
  have HB := hid_of hB
  have hc : ((w.alloc (.cells patZ 81)).setRow w.heap.size patC).cell? ⟨w.heap.size, k, none⟩ = some (.string (patB (k + 1))) := HC.out.cell (patC_at k hk)
  clear h1 h2 hB
  generalize patB (k + 1) = s at *
  go_enter Tryd.func28, Tryd.ntmps28
  go_wp2_with (first | (refine wpList_build_row rfl 81 _ rfl (.agg patC) (by kernel_rfl) ?_) | (refine wpList_store_row rfl 81 _ _ rfl w.heap.size patC rfl rfl 81 patZ (Blk.new w _ _) (by kernel_rfl) (by kernel_rfl) patC_all ?_))
  go_ret
  exact ⟨rfl, HB.out⟩
theorem hasL_iff (op l : Nat) (h : (patB op).size = 32) : hasL op l = true ↔ ∃ j, j < 32 ∧ sg op j = l := by
  have hlen : (patL op).length = 32 := by
    unfold patL
    rw [List.length_map]
    exact h
  unfold hasL
  rw [List.contains_iff_mem]
  constructor
  · intro hm
    obtain ⟨j, hj, e⟩ := List.mem_iff_getElem.1 hm
    refine ⟨j, by omega, ?_⟩
    unfold sg
    rw [List.getD_eq_getElem?_getD, List.getElem?_eq_getElem hj, e]
    rfl
  · rintro ⟨j, hj, rfl⟩
    unfold sg
    rw [List.getD_eq_getElem?_getD, List.getElem?_eq_getElem (by omega)]
    exact List.getElem_mem _
set_option maxRecDepth 100000 in
set_option maxHeartbeats 8000000 in
theorem r14Has_calls (op l : Nat) (w : World) (h1 : 1 ≤ op) (h2 : op < 48) :
    Calls Tryd.prog 37 #[.int .i64 op, .int .u8 l] w fun e w' => e = .returned (.bool (hasL op l)) ∧ Below w.heap.size w w' := by
  have hs := patB_size op h1 h2
  generalize hr : hasL op l = r
  have HI : Hid (r = true ↔ ∃ j, j < 32 ∧ sg op j = l) := by rw [← hr]; exact hasL_iff op l hs
  clear hr
  have HS := hid_of hs
  have hc := fun W => r14Pattern_calls op W h1 h2
  have HG := hid_of (patB_at op)
  clear hs h1 h2
  generalize patB op = s at *
  go_enter Tryd.func37, Tryd.ntmps37
  go_wp2_with (first | (go_at_call 28; refine (hc _).mono ?_; rintro e w3 ⟨rfl, hB3⟩))
  have HB3 := hid_of hB3
  clear hB3 hc
  have hle : s.size ≤ 9223372036854775807 := by have := HS.out; omega
  go_loop [6] (fun i => ∃ k : Nat, i = .int .i64 k ∧ k ≤ s.size ∧ Hid (∀ j, j < k → sg op j ≠ l)) (fun i => s.size - (intOf i).toNat)
  case atStart => exact ⟨0, rfl, Nat.zero_le _, fun j h => absurd h (by omega)⟩
  case round =>
    obtain ⟨k, rfl, hk, HN⟩ := hrel
    by_cases hlt : k < s.size
    · have hgk := HG.out k hlt
      generalize hsg : sg op k = c at *
      have HSG := hid_of hsg
      clear hsg
      by_cases he : c = l
      · obtain rfl : r = true := HI.out.2 ⟨k, by have := HS.out; omega, HSG.out.trans he⟩
        have e1 : ((c : Int) == (l : Int)) = true := by simp [he]
        clear he
        go_wp2_with fail
        go_ret
        exact ⟨rfl, HB3.out⟩
      · have HN2 : Hid (∀ j, j < k + 1 → sg op j ≠ l) := fun j hj => by
          by_cases e : j = k
          · subst e; rw [HSG.out]; exact he
          · exact HN.out j (by omega)
        have e1 : ((c : Int) == (l : Int)) = false := by simp; omega
        clear he
        go_wp2_with fail
        exact ⟨⟨k + 1, by go_num, by omega, HN2⟩, by simp [intOf]; omega⟩
    · obtain rfl : r = false := by
        cases r
        · rfl
        · obtain ⟨j, hj, e⟩ := HI.out.1 rfl
          exact absurd e (HN.out j (by have := HS.out; omega))
      go_wp2_with fail
      go_ret
      exact ⟨rfl, HB3.out⟩
theorem r14between_calls (v lo hi : Int) (w : World) :
    Calls Tryd.prog 38 #[.int .i64 v, .int .i64 lo, .int .i64 hi] w fun e w' => e = .returned (.bool (decide (lo ≤ v) && decide (v ≤ hi))) ∧ w' = w := by
  by_cases h : lo ≤ v
  · go_enter Tryd.func38, Tryd.ntmps38
    go_wp2_with fail
    go_ret
    exact ⟨ret_bool (by simp [h]), rfl⟩
  · go_enter Tryd.func38, Tryd.ntmps38
    go_wp2_with fail
    go_ret
    exact ⟨ret_bool (by rw [decide_eq_false (show ¬ lo ≤ v by omega)]; rfl), rfl⟩
end Go.Proofs.YtbggcofnopaloabDoor
namespace Go.Proofs.YtbggcofnopaloabDoor
open Go.RowKit Sx
set_option maxRecDepth 100000 in
set_option maxHeartbeats 8000000 in
theorem r14top_calls (op l : Nat) (w : World) (h1 : 1 ≤ op) (h2 : op < 48) (hl : l = 100 ∨ l = 110 ∨ l = 109) :
    Calls Tryd.prog 39 #[.int .i64 op, .int .u8 l] w fun e w' => e = .returned (.int .i64 (topR op l)) ∧ w' = w := by
  rcases hl with rfl | rfl | rfl
  all_goals
    match op, h1, h2 with
    | 1, _, _ | 2, _, _ | 3, _, _ | 4, _, _ | 5, _, _ | 6, _, _ | 7, _, _ | 8, _, _ | 9, _, _ | 10, _, _ | 11, _, _ | 12, _, _ | 13, _, _ | 14, _, _ | 15, _, _ | 16, _, _ | 17, _, _ | 18, _, _ | 19, _, _ | 20, _, _ | 21, _, _ | 22, _, _ | 23, _, _ | 24, _, _ | 25, _, _ | 26, _, _ | 27, _, _ | 28, _, _ | 29, _, _ | 30, _, _ | 31, _, _ | 32, _, _ | 33, _, _ | 34, _, _ | 35, _, _ | 36, _, _ | 37, _, _ | 38, _, _ | 39, _, _ | 40, _, _ | 41, _, _ | 42, _, _ | 43, _, _ | 44, _, _ | 45, _, _ | 46, _, _ | 47, _, _ =>
      go_enter Tryd.func39, Tryd.ntmps39
      go_wp2_with fail
      go_ret
      exact ⟨rfl, rfl⟩
    | n + 48, _, h => exact absurd h (by omega)
set_option maxRecDepth 100000 in
set_option maxHeartbeats 8000000 in
theorem r14register_calls (op l : Nat) (v : Int) (w : World) (h1 : 1 ≤ op) (h2 : op < 48) (hl : l = 100 ∨ l = 110 ∨ l = 109) :
    Calls Tryd.prog 25 #[.int .i64 op, .int .u8 l, .int .i64 v] w fun e w' => e = .returned (.bool (regR op l v)) ∧ Below w.heap.size w w' := by
  have hc1 := fun W => r14Has_calls op l W h1 h2
  have hc2 := fun W => r14top_calls op l W h1 h2 hl
  have HR : Hid (regR op l v = if hasL op l then decide (0 ≤ v) && decide (v ≤ topR op l) else decide (v = 0)) := rfl
  generalize regR op l v = r at *
  generalize hasL op l = b at *
  generalize topR op l = t at *
  have hc3 := fun W => r14between_calls v 0 t W
  clear h1 h2 hl
  cases b
  · have HR2 : Hid (r = decide (v = 0)) := HR.out
    go_enter Tryd.func25, Tryd.ntmps25
    go_wp2_with (first | (go_at_call 37; refine (hc1 _).mono ?_; rintro e w3 ⟨rfl, hB3⟩))
    go_ret
    exact ⟨ret_bool (by rw [HR2.out]; rfl), hB3⟩
  · have HR2 : Hid (r = (decide (0 ≤ v) && decide (v ≤ t))) := HR.out
    go_enter Tryd.func25, Tryd.ntmps25
    go_wp2_with (first | (go_at_call 37; refine (hc1 _).mono ?_; rintro e w3 ⟨rfl, hB3⟩) | (go_at_call 39; refine (hc2 _).mono ?_; rintro e w4 ⟨rfl, hw⟩; obtain rfl := hw) | (go_at_call 38; refine (hc3 _).mono ?_; rintro e w5 ⟨rfl, hw⟩; obtain rfl := hw))
    go_ret
    exact ⟨ret_bool (by rw [HR2.out]), hB3⟩
end Go.Proofs.YtbggcofnopaloabDoor
namespace Go.Proofs.YtbggcofnopaloabDoor
open Go.RowKit Sx
set_option maxRecDepth 100000 in
set_option maxHeartbeats 8000000 in
theorem r14imm_calls (op : Nat) (v : Int) (w : World) (h1 : 1 ≤ op) (h2 : op < 48) :
    Calls Tryd.prog 26 #[.int .i64 op, .int .i64 v] w fun e w' => e = .returned (.bool (immR op v)) ∧ w' = w := by
  have hb := fun lo hi W => r14between_calls v lo hi W
  match op, h1, h2 with
  | 22, _, _ | 23, _, _ =>
    by_cases hv : 0 ≤ v ∧ v ≤ 32760
    · obtain ⟨v0, v1⟩ := hv
      have e : (decide (0 ≤ v) && decide (v ≤ 32760)) = true := by simp [v0, v1]
      go_enter Tryd.func26, Tryd.ntmps26
      go_wp2_with (first | (go_at_call 38; refine (hb _ _ _).mono ?_; rintro e w5 ⟨rfl, hw⟩; obtain rfl := hw))
      go_ret
      exact ⟨ret_bool (by show _ = (decide (0 ≤ v) && decide (v ≤ 32760) && decide (v % 8 = 0)); simp [v0, v1]; rfl), rfl⟩
    · have e : (decide (0 ≤ v) && decide (v ≤ 32760)) = false := by simp; omega
      go_enter Tryd.func26, Tryd.ntmps26
      go_wp2_with (first | (go_at_call 38; refine (hb _ _ _).mono ?_; rintro e w5 ⟨rfl, hw⟩; obtain rfl := hw))
      go_ret
      exact ⟨ret_bool (by show _ = (decide (0 ≤ v) && decide (v ≤ 32760) && decide (v % 8 = 0)); rw [e]; rfl), rfl⟩
  | 1, _, _ | 2, _, _ | 3, _, _ | 4, _, _ | 5, _, _ | 6, _, _ | 7, _, _ | 8, _, _ | 9, _, _ | 10, _, _ | 11, _, _ | 12, _, _ | 13, _, _ | 14, _, _ | 15, _, _ | 16, _, _ | 17, _, _ | 18, _, _ | 19, _, _ | 20, _, _ | 21, _, _ | 24, _, _ | 25, _, _ | 26, _, _ | 27, _, _ | 28, _, _ | 29, _, _ | 30, _, _ | 31, _, _ | 32, _, _ | 33, _, _ | 34, _, _ | 35, _, _ | 36, _, _ | 37, _, _ | 38, _, _ | 39, _, _ | 40, _, _ | 41, _, _ | 42, _, _ | 43, _, _ | 44, _, _ | 45, _, _ | 46, _, _ | 47, _, _ =>
    go_enter Tryd.func26, Tryd.ntmps26
    go_wp2_with (first | (go_at_call 38; refine (hb _ _ _).mono ?_; rintro e w5 ⟨rfl, hw⟩; obtain rfl := hw))
    go_ret
    exact ⟨ret_bool rfl, rfl⟩
  | n + 48, _, h => exact absurd h (by omega)
set_option maxRecDepth 100000 in
set_option maxHeartbeats 8000000 in
theorem r14cond_calls (op : Nat) (v : Int) (w : World) (h1 : 1 ≤ op) (h2 : op < 48) :
    Calls Tryd.prog 27 #[.int .i64 op, .int .i64 v] w fun e w' => e = .returned (.bool (condR op v)) ∧ w' = w := by
  match op, h1, h2 with
  | 1, _, _ | 2, _, _ | 17, _, _ | 19, _, _ =>
    by_cases hv : 0 ≤ v
    · go_enter Tryd.func27, Tryd.ntmps27
      go_wp2_with fail
      go_ret
      exact ⟨ret_bool (by simp [condR, hv]), rfl⟩
    · go_enter Tryd.func27, Tryd.ntmps27
      go_wp2_with fail
      go_ret
      exact ⟨ret_bool (by simp [condR]; omega), rfl⟩
  | 3, _, _ | 4, _, _ | 5, _, _ | 6, _, _ | 7, _, _ | 8, _, _ | 9, _, _ | 10, _, _ | 11, _, _ | 12, _, _ | 13, _, _ | 14, _, _ | 15, _, _ | 16, _, _ | 18, _, _ | 20, _, _ | 21, _, _ | 22, _, _ | 23, _, _ | 24, _, _ | 25, _, _ | 26, _, _ | 27, _, _ | 28, _, _ | 29, _, _ | 30, _, _ | 31, _, _ | 32, _, _ | 33, _, _ | 34, _, _ | 35, _, _ | 36, _, _ | 37, _, _ | 38, _, _ | 39, _, _ | 40, _, _ | 41, _, _ | 42, _, _ | 43, _, _ | 44, _, _ | 45, _, _ | 46, _, _ | 47, _, _ =>
    go_enter Tryd.func27, Tryd.ntmps27
    go_wp2_with fail
    go_ret
    exact ⟨ret_bool rfl, rfl⟩
  | n + 48, _, h => exact absurd h (by omega)
end Go.Proofs.YtbggcofnopaloabDoor
namespace Go.Proofs.YtbggcofnopaloabDoor
open Go.RowKit Sx
theorem InS.ofT {W : World} {b : Nat} {t : TypeId} {i : Ins} (h : Blk W b t (insC i)) : InS W b i := ⟨h.cell rfl, h.cell rfl, h.cell rfl, h.cell rfl, h.cell rfl, h.cell rfl⟩
def fitsI (i : Ins) : Bool := if 1 ≤ i.op ∧ i.op < 48 then fitsR i.op.toNat i else false
set_option maxRecDepth 100000 in
set_option maxHeartbeats 8000000 in
theorem r14Fits_calls (i : Ins) (w : World) :
    Calls Tryd.prog 13 #[insV i] w fun e w' => e = .returned (.bool (fitsI i)) ∧ Below w.heap.size w w' := by
  have HI : Hid (Blk (w.alloc (.cells (insC i) 38)) w.heap.size 38 (insC i)) := Blk.new w _ _
  have HBI := hid_of ((Below.refl w.heap.size w).alloc (Nat.le_refl _) (.cells (insC i) 38))
  by_cases hop : 1 ≤ i.op ∧ i.op < 48
  · have HE : Hid (fitsI i = fitsR i.op.toNat i) := by unfold fitsI; rw [if_pos hop]; rfl
    generalize fitsI i = r at *
    obtain ⟨op, rd, rn, rm, imm, cond⟩ := i
    obtain ⟨k, hk⟩ : ∃ k : Nat, op = (k : Int) := ⟨op.toNat, by dsimp only at hop; omega⟩
    subst hk
    have h1 : 1 ≤ k := by have := hop.1; dsimp only at this; omega
    have h2 : k < 48 := by have := hop.2; dsimp only at this; omega
    clear hop
    have HE2 : Hid ((regR k 100 rd && regR k 110 rn && regR k 109 rm && immR k imm && condR k cond && (if k = 28 ∨ k = 29 then !decide (rm = rd) && !decide (rm = rn) else true)) = r) := HE.out.symm
    clear HE
    have hr1 : ∀ W, Calls Tryd.prog 25 #[.int .i64 k, .int .u8 100, .int .i64 rd] W fun e w' => e = .returned (.bool (regR k 100 rd)) ∧ Below W.heap.size W w' := fun W => r14register_calls k 100 rd W h1 h2 (.inl rfl)
    have hr2 : ∀ W, Calls Tryd.prog 25 #[.int .i64 k, .int .u8 110, .int .i64 rn] W fun e w' => e = .returned (.bool (regR k 110 rn)) ∧ Below W.heap.size W w' := fun W => r14register_calls k 110 rn W h1 h2 (.inr (.inl rfl))
    have hr3 : ∀ W, Calls Tryd.prog 25 #[.int .i64 k, .int .u8 109, .int .i64 rm] W fun e w' => e = .returned (.bool (regR k 109 rm)) ∧ Below W.heap.size W w' := fun W => r14register_calls k 109 rm W h1 h2 (.inr (.inr rfl))
    have hr4 := fun W => r14imm_calls k imm W h1 h2
    have hr5 := fun W => r14cond_calls k cond W h1 h2
    generalize regR k 100 rd = b1 at *
    generalize regR k 110 rn = b2 at *
    generalize regR k 109 rm = b3 at *
    generalize immR k imm = b4 at *
    generalize condR k cond = b5 at *
    unfold insV
    dsimp only
    have k1 : ¬ ((k : Int) < 1) := by omega
    have k2 : ¬ ((47 : Int) < (k : Int)) := by omega
    cases b1
    · obtain rfl : r = false := by rw [← HE2.out]; rfl
      go_enter Tryd.func13, Tryd.ntmps13
      go_wp2_with (first | (go_at_call 25; (with_reducible show Calls _ _ #[_, _, .int .i64 rd] _ _); refine (hr1 _).mono ?_; rintro e w3 ⟨rfl, hB3⟩; have hI3 := HI.out.of_below hB3; obtain ⟨d0, d1, d2, d3, d4, d5⟩ := InS.ofT hI3; dsimp only at d0 d1 d2 d3 d4 d5; have HB := hid_of (HBI.out.trans (hB3.mono HBI.out.size)); have HI3 := hid_of hI3; clear hI3 hB3) | (go_at_call 25; (with_reducible show Calls _ _ #[_, _, .int .i64 rn] _ _); refine (hr2 _).mono ?_; rintro e w4 ⟨rfl, hB4⟩; have hI4 := HI3.out.of_below hB4; obtain ⟨f0, f1, f2, f3, f4, f5⟩ := InS.ofT hI4; dsimp only at f0 f1 f2 f3 f4 f5; have HB := hid_of (HB.out.trans (hB4.mono HB.out.size)); have HI4 := hid_of hI4; clear hI4 hB4) | (go_at_call 25; (with_reducible show Calls _ _ #[_, _, .int .i64 rm] _ _); refine (hr3 _).mono ?_; rintro e w5 ⟨rfl, hB5⟩; have hI5 := HI4.out.of_below hB5; obtain ⟨g0, g1, g2, g3, g4, g5⟩ := InS.ofT hI5; dsimp only at g0 g1 g2 g3 g4 g5; have HB := hid_of (HB.out.trans (hB5.mono HB.out.size)); clear hI5 hB5) | (go_at_call 26; refine (hr4 _).mono ?_; rintro e w6 ⟨rfl, hw⟩; obtain rfl := hw) | (go_at_call 27; refine (hr5 _).mono ?_; rintro e w7 ⟨rfl, hw⟩; obtain rfl := hw))
      go_ret
      exact ⟨rfl, HB.out⟩
    · cases b2
      · obtain rfl : r = false := by rw [← HE2.out]; rfl
        go_enter Tryd.func13, Tryd.ntmps13
        go_wp2_with (first | (go_at_call 25; (with_reducible show Calls _ _ #[_, _, .int .i64 rd] _ _); refine (hr1 _).mono ?_; rintro e w3 ⟨rfl, hB3⟩; have hI3 := HI.out.of_below hB3; obtain ⟨d0, d1, d2, d3, d4, d5⟩ := InS.ofT hI3; dsimp only at d0 d1 d2 d3 d4 d5; have HB := hid_of (HBI.out.trans (hB3.mono HBI.out.size)); have HI3 := hid_of hI3; clear hI3 hB3) | (go_at_call 25; (with_reducible show Calls _ _ #[_, _, .int .i64 rn] _ _); refine (hr2 _).mono ?_; rintro e w4 ⟨rfl, hB4⟩; have hI4 := HI3.out.of_below hB4; obtain ⟨f0, f1, f2, f3, f4, f5⟩ := InS.ofT hI4; dsimp only at f0 f1 f2 f3 f4 f5; have HB := hid_of (HB.out.trans (hB4.mono HB.out.size)); have HI4 := hid_of hI4; clear hI4 hB4) | (go_at_call 25; (with_reducible show Calls _ _ #[_, _, .int .i64 rm] _ _); refine (hr3 _).mono ?_; rintro e w5 ⟨rfl, hB5⟩; have hI5 := HI4.out.of_below hB5; obtain ⟨g0, g1, g2, g3, g4, g5⟩ := InS.ofT hI5; dsimp only at g0 g1 g2 g3 g4 g5; have HB := hid_of (HB.out.trans (hB5.mono HB.out.size)); clear hI5 hB5) | (go_at_call 26; refine (hr4 _).mono ?_; rintro e w6 ⟨rfl, hw⟩; obtain rfl := hw) | (go_at_call 27; refine (hr5 _).mono ?_; rintro e w7 ⟨rfl, hw⟩; obtain rfl := hw))
        go_ret
        exact ⟨rfl, HB.out⟩
      · cases b3
        · obtain rfl : r = false := by rw [← HE2.out]; rfl
          go_enter Tryd.func13, Tryd.ntmps13
          go_wp2_with (first | (go_at_call 25; (with_reducible show Calls _ _ #[_, _, .int .i64 rd] _ _); refine (hr1 _).mono ?_; rintro e w3 ⟨rfl, hB3⟩; have hI3 := HI.out.of_below hB3; obtain ⟨d0, d1, d2, d3, d4, d5⟩ := InS.ofT hI3; dsimp only at d0 d1 d2 d3 d4 d5; have HB := hid_of (HBI.out.trans (hB3.mono HBI.out.size)); have HI3 := hid_of hI3; clear hI3 hB3) | (go_at_call 25; (with_reducible show Calls _ _ #[_, _, .int .i64 rn] _ _); refine (hr2 _).mono ?_; rintro e w4 ⟨rfl, hB4⟩; have hI4 := HI3.out.of_below hB4; obtain ⟨f0, f1, f2, f3, f4, f5⟩ := InS.ofT hI4; dsimp only at f0 f1 f2 f3 f4 f5; have HB := hid_of (HB.out.trans (hB4.mono HB.out.size)); have HI4 := hid_of hI4; clear hI4 hB4) | (go_at_call 25; (with_reducible show Calls _ _ #[_, _, .int .i64 rm] _ _); refine (hr3 _).mono ?_; rintro e w5 ⟨rfl, hB5⟩; have hI5 := HI4.out.of_below hB5; obtain ⟨g0, g1, g2, g3, g4, g5⟩ := InS.ofT hI5; dsimp only at g0 g1 g2 g3 g4 g5; have HB := hid_of (HB.out.trans (hB5.mono HB.out.size)); clear hI5 hB5) | (go_at_call 26; refine (hr4 _).mono ?_; rintro e w6 ⟨rfl, hw⟩; obtain rfl := hw) | (go_at_call 27; refine (hr5 _).mono ?_; rintro e w7 ⟨rfl, hw⟩; obtain rfl := hw))
          go_ret
          exact ⟨rfl, HB.out⟩
        · cases b4
          · obtain rfl : r = false := by rw [← HE2.out]; rfl
            go_enter Tryd.func13, Tryd.ntmps13
            go_wp2_with (first | (go_at_call 25; (with_reducible show Calls _ _ #[_, _, .int .i64 rd] _ _); refine (hr1 _).mono ?_; rintro e w3 ⟨rfl, hB3⟩; have hI3 := HI.out.of_below hB3; obtain ⟨d0, d1, d2, d3, d4, d5⟩ := InS.ofT hI3; dsimp only at d0 d1 d2 d3 d4 d5; have HB := hid_of (HBI.out.trans (hB3.mono HBI.out.size)); have HI3 := hid_of hI3; clear hI3 hB3) | (go_at_call 25; (with_reducible show Calls _ _ #[_, _, .int .i64 rn] _ _); refine (hr2 _).mono ?_; rintro e w4 ⟨rfl, hB4⟩; have hI4 := HI3.out.of_below hB4; obtain ⟨f0, f1, f2, f3, f4, f5⟩ := InS.ofT hI4; dsimp only at f0 f1 f2 f3 f4 f5; have HB := hid_of (HB.out.trans (hB4.mono HB.out.size)); have HI4 := hid_of hI4; clear hI4 hB4) | (go_at_call 25; (with_reducible show Calls _ _ #[_, _, .int .i64 rm] _ _); refine (hr3 _).mono ?_; rintro e w5 ⟨rfl, hB5⟩; have hI5 := HI4.out.of_below hB5; obtain ⟨g0, g1, g2, g3, g4, g5⟩ := InS.ofT hI5; dsimp only at g0 g1 g2 g3 g4 g5; have HB := hid_of (HB.out.trans (hB5.mono HB.out.size)); clear hI5 hB5) | (go_at_call 26; refine (hr4 _).mono ?_; rintro e w6 ⟨rfl, hw⟩; obtain rfl := hw) | (go_at_call 27; refine (hr5 _).mono ?_; rintro e w7 ⟨rfl, hw⟩; obtain rfl := hw))
            go_ret
            exact ⟨rfl, HB.out⟩
          · cases b5
            · obtain rfl : r = false := by rw [← HE2.out]; rfl
              go_enter Tryd.func13, Tryd.ntmps13
              go_wp2_with (first | (go_at_call 25; (with_reducible show Calls _ _ #[_, _, .int .i64 rd] _ _); refine (hr1 _).mono ?_; rintro e w3 ⟨rfl, hB3⟩; have hI3 := HI.out.of_below hB3; obtain ⟨d0, d1, d2, d3, d4, d5⟩ := InS.ofT hI3; dsimp only at d0 d1 d2 d3 d4 d5; have HB := hid_of (HBI.out.trans (hB3.mono HBI.out.size)); have HI3 := hid_of hI3; clear hI3 hB3) | (go_at_call 25; (with_reducible show Calls _ _ #[_, _, .int .i64 rn] _ _); refine (hr2 _).mono ?_; rintro e w4 ⟨rfl, hB4⟩; have hI4 := HI3.out.of_below hB4; obtain ⟨f0, f1, f2, f3, f4, f5⟩ := InS.ofT hI4; dsimp only at f0 f1 f2 f3 f4 f5; have HB := hid_of (HB.out.trans (hB4.mono HB.out.size)); have HI4 := hid_of hI4; clear hI4 hB4) | (go_at_call 25; (with_reducible show Calls _ _ #[_, _, .int .i64 rm] _ _); refine (hr3 _).mono ?_; rintro e w5 ⟨rfl, hB5⟩; have hI5 := HI4.out.of_below hB5; obtain ⟨g0, g1, g2, g3, g4, g5⟩ := InS.ofT hI5; dsimp only at g0 g1 g2 g3 g4 g5; have HB := hid_of (HB.out.trans (hB5.mono HB.out.size)); clear hI5 hB5) | (go_at_call 26; refine (hr4 _).mono ?_; rintro e w6 ⟨rfl, hw⟩; obtain rfl := hw) | (go_at_call 27; refine (hr5 _).mono ?_; rintro e w7 ⟨rfl, hw⟩; obtain rfl := hw))
              go_ret
              exact ⟨rfl, HB.out⟩
            · by_cases h28 : k = 28 ∨ k = 29
              · have HE3 : Hid ((!decide (rm = rd) && !decide (rm = rn)) = r) := by rw [Hid, ← HE2.out, if_pos h28]; rfl
                clear HE2
                rcases h28 with rfl | rfl
                all_goals
                  by_cases e1 : rm = rd
                  · obtain rfl : r = false := by rw [← HE3.out, decide_eq_true e1]; rfl
                    have x1 : (rm != rd) = false := by simp [e1]
                    have HX := hid_of e1
                    clear e1
                    go_enter Tryd.func13, Tryd.ntmps13
                    go_wp2_with (first | (go_at_call 25; (with_reducible show Calls _ _ #[_, _, .int .i64 rd] _ _); refine (hr1 _).mono ?_; rintro e w3 ⟨rfl, hB3⟩; have hI3 := HI.out.of_below hB3; obtain ⟨d0, d1, d2, d3, d4, d5⟩ := InS.ofT hI3; dsimp only at d0 d1 d2 d3 d4 d5; have HB := hid_of (HBI.out.trans (hB3.mono HBI.out.size)); have HI3 := hid_of hI3; clear hI3 hB3) | (go_at_call 25; (with_reducible show Calls _ _ #[_, _, .int .i64 rn] _ _); refine (hr2 _).mono ?_; rintro e w4 ⟨rfl, hB4⟩; have hI4 := HI3.out.of_below hB4; obtain ⟨f0, f1, f2, f3, f4, f5⟩ := InS.ofT hI4; dsimp only at f0 f1 f2 f3 f4 f5; have HB := hid_of (HB.out.trans (hB4.mono HB.out.size)); have HI4 := hid_of hI4; clear hI4 hB4) | (go_at_call 25; (with_reducible show Calls _ _ #[_, _, .int .i64 rm] _ _); refine (hr3 _).mono ?_; rintro e w5 ⟨rfl, hB5⟩; have hI5 := HI4.out.of_below hB5; obtain ⟨g0, g1, g2, g3, g4, g5⟩ := InS.ofT hI5; dsimp only at g0 g1 g2 g3 g4 g5; have HB := hid_of (HB.out.trans (hB5.mono HB.out.size)); clear hI5 hB5) | (go_at_call 26; refine (hr4 _).mono ?_; rintro e w6 ⟨rfl, hw⟩; obtain rfl := hw) | (go_at_call 27; refine (hr5 _).mono ?_; rintro e w7 ⟨rfl, hw⟩; obtain rfl := hw))
                    go_ret
                    exact ⟨rfl, HB.out⟩
                  · have x1 : (rm != rd) = true := by simp [e1]
                    by_cases e2 : rm = rn
                    · obtain rfl : r = false := by rw [← HE3.out, decide_eq_true e2]; simp
                      have x2 : (rm != rn) = false := by simp [e2]
                      clear e1 e2
                      go_enter Tryd.func13, Tryd.ntmps13
                      go_wp2_with (first | (go_at_call 25; (with_reducible show Calls _ _ #[_, _, .int .i64 rd] _ _); refine (hr1 _).mono ?_; rintro e w3 ⟨rfl, hB3⟩; have hI3 := HI.out.of_below hB3; obtain ⟨d0, d1, d2, d3, d4, d5⟩ := InS.ofT hI3; dsimp only at d0 d1 d2 d3 d4 d5; have HB := hid_of (HBI.out.trans (hB3.mono HBI.out.size)); have HI3 := hid_of hI3; clear hI3 hB3) | (go_at_call 25; (with_reducible show Calls _ _ #[_, _, .int .i64 rn] _ _); refine (hr2 _).mono ?_; rintro e w4 ⟨rfl, hB4⟩; have hI4 := HI3.out.of_below hB4; obtain ⟨f0, f1, f2, f3, f4, f5⟩ := InS.ofT hI4; dsimp only at f0 f1 f2 f3 f4 f5; have HB := hid_of (HB.out.trans (hB4.mono HB.out.size)); have HI4 := hid_of hI4; clear hI4 hB4) | (go_at_call 25; (with_reducible show Calls _ _ #[_, _, .int .i64 rm] _ _); refine (hr3 _).mono ?_; rintro e w5 ⟨rfl, hB5⟩; have hI5 := HI4.out.of_below hB5; obtain ⟨g0, g1, g2, g3, g4, g5⟩ := InS.ofT hI5; dsimp only at g0 g1 g2 g3 g4 g5; have HB := hid_of (HB.out.trans (hB5.mono HB.out.size)); clear hI5 hB5) | (go_at_call 26; refine (hr4 _).mono ?_; rintro e w6 ⟨rfl, hw⟩; obtain rfl := hw) | (go_at_call 27; refine (hr5 _).mono ?_; rintro e w7 ⟨rfl, hw⟩; obtain rfl := hw))
                      go_ret
                      exact ⟨rfl, HB.out⟩
                    · obtain rfl : r = true := by rw [← HE3.out, decide_eq_false e1, decide_eq_false e2]; rfl
                      have x2 : (rm != rn) = true := by simp [e2]
                      clear e1 e2
                      go_enter Tryd.func13, Tryd.ntmps13
                      go_wp2_with (first | (go_at_call 25; (with_reducible show Calls _ _ #[_, _, .int .i64 rd] _ _); refine (hr1 _).mono ?_; rintro e w3 ⟨rfl, hB3⟩; have hI3 := HI.out.of_below hB3; obtain ⟨d0, d1, d2, d3, d4, d5⟩ := InS.ofT hI3; dsimp only at d0 d1 d2 d3 d4 d5; have HB := hid_of (HBI.out.trans (hB3.mono HBI.out.size)); have HI3 := hid_of hI3; clear hI3 hB3) | (go_at_call 25; (with_reducible show Calls _ _ #[_, _, .int .i64 rn] _ _); refine (hr2 _).mono ?_; rintro e w4 ⟨rfl, hB4⟩; have hI4 := HI3.out.of_below hB4; obtain ⟨f0, f1, f2, f3, f4, f5⟩ := InS.ofT hI4; dsimp only at f0 f1 f2 f3 f4 f5; have HB := hid_of (HB.out.trans (hB4.mono HB.out.size)); have HI4 := hid_of hI4; clear hI4 hB4) | (go_at_call 25; (with_reducible show Calls _ _ #[_, _, .int .i64 rm] _ _); refine (hr3 _).mono ?_; rintro e w5 ⟨rfl, hB5⟩; have hI5 := HI4.out.of_below hB5; obtain ⟨g0, g1, g2, g3, g4, g5⟩ := InS.ofT hI5; dsimp only at g0 g1 g2 g3 g4 g5; have HB := hid_of (HB.out.trans (hB5.mono HB.out.size)); clear hI5 hB5) | (go_at_call 26; refine (hr4 _).mono ?_; rintro e w6 ⟨rfl, hw⟩; obtain rfl := hw) | (go_at_call 27; refine (hr5 _).mono ?_; rintro e w7 ⟨rfl, hw⟩; obtain rfl := hw))
                      go_ret
                      exact ⟨rfl, HB.out⟩
              · obtain rfl : r = true := by rw [← HE2.out, if_neg h28]; rfl
                have x1 : ((k : Int) == 28) = false := by simp; omega
                have x2 : ((k : Int) == 29) = false := by simp; omega
                go_enter Tryd.func13, Tryd.ntmps13
                go_wp2_with (first | (go_at_call 25; (with_reducible show Calls _ _ #[_, _, .int .i64 rd] _ _); refine (hr1 _).mono ?_; rintro e w3 ⟨rfl, hB3⟩; have hI3 := HI.out.of_below hB3; obtain ⟨d0, d1, d2, d3, d4, d5⟩ := InS.ofT hI3; dsimp only at d0 d1 d2 d3 d4 d5; have HB := hid_of (HBI.out.trans (hB3.mono HBI.out.size)); have HI3 := hid_of hI3; clear hI3 hB3) | (go_at_call 25; (with_reducible show Calls _ _ #[_, _, .int .i64 rn] _ _); refine (hr2 _).mono ?_; rintro e w4 ⟨rfl, hB4⟩; have hI4 := HI3.out.of_below hB4; obtain ⟨f0, f1, f2, f3, f4, f5⟩ := InS.ofT hI4; dsimp only at f0 f1 f2 f3 f4 f5; have HB := hid_of (HB.out.trans (hB4.mono HB.out.size)); have HI4 := hid_of hI4; clear hI4 hB4) | (go_at_call 25; (with_reducible show Calls _ _ #[_, _, .int .i64 rm] _ _); refine (hr3 _).mono ?_; rintro e w5 ⟨rfl, hB5⟩; have hI5 := HI4.out.of_below hB5; obtain ⟨g0, g1, g2, g3, g4, g5⟩ := InS.ofT hI5; dsimp only at g0 g1 g2 g3 g4 g5; have HB := hid_of (HB.out.trans (hB5.mono HB.out.size)); clear hI5 hB5) | (go_at_call 26; refine (hr4 _).mono ?_; rintro e w6 ⟨rfl, hw⟩; obtain rfl := hw) | (go_at_call 27; refine (hr5 _).mono ?_; rintro e w7 ⟨rfl, hw⟩; obtain rfl := hw))
                go_ret
                exact ⟨rfl, HB.out⟩
  · have HE : Hid (fitsI i = false) := by unfold fitsI; rw [if_neg hop]; rfl
    generalize fitsI i = r at *
    obtain rfl : r = false := HE.out
    obtain ⟨op, rd, rn, rm, imm, cond⟩ := i
    unfold insV
    dsimp only at *
    by_cases h1 : op < 1
    · go_enter Tryd.func13, Tryd.ntmps13
      go_wp2_with fail
      go_ret
      exact ⟨rfl, HBI.out⟩
    · have h2 : 47 < op := by omega
      go_enter Tryd.func13, Tryd.ntmps13
      go_wp2_with fail
      go_ret
      exact ⟨rfl, HBI.out⟩
end Go.Proofs.YtbggcofnopaloabDoor
namespace Go.Proofs.YtbggcofnopaloabDoor
open Go.RowKit Sx
theorem imm_bd {k : Nat} {v : Int} (h : immR k v = true) : -33554432 ≤ v ∧ v ≤ 33554431 ∧ (k = 22 ∨ k = 23 → 0 ≤ v) := by
  unfold immR at h
  repeat' split at h
  all_goals
    simp at h
    omega
theorem cond_bd {k : Nat} {v : Int} (h : condR k v = true) : 0 ≤ v ∧ v ≤ 13 := by
  unfold condR at h
  repeat' split at h
  all_goals
    simp at h
    omega
set_option maxRecDepth 100000 in
set_option maxHeartbeats 8000000 in
theorem r14value_calls (k l : Nat) (rd rn rm imm cond : Int) (w : World) (hi : immR k imm = true) (hc : condR k cond = true) (hl : l ∈ [100, 110, 109, 105, 99, 107, 114, 115]) (hk : k < 48) :
    Calls Tryd.prog 29 #[insV ⟨k, rd, rn, rm, imm, cond⟩, .int .u8 l] w fun e w' => e = .returned (.int .i64 (valR k ⟨k, rd, rn, rm, imm, cond⟩ l)) ∧ Below w.heap.size w w' := by
  obtain ⟨i0, i1, i2⟩ := imm_bd hi
  obtain ⟨c0, c1⟩ := cond_bd hc
  have HI2 := hid_of i2
  clear hi hc i2
  unfold insV
  dsimp only
  simp only [List.mem_cons, List.not_mem_nil, or_false] at hl
  rcases hl with rfl | rfl | rfl | rfl | rfl | rfl | rfl | rfl
  · go_enter Tryd.func29, Tryd.ntmps29
    go_wp2_with fail
    go_ret
    exact ⟨rfl, (Below.refl _ _).alloc (Nat.le_refl _) _⟩
  · go_enter Tryd.func29, Tryd.ntmps29
    go_wp2_with fail
    go_ret
    exact ⟨rfl, (Below.refl _ _).alloc (Nat.le_refl _) _⟩
  · go_enter Tryd.func29, Tryd.ntmps29
    go_wp2_with fail
    go_ret
    exact ⟨rfl, (Below.refl _ _).alloc (Nat.le_refl _) _⟩
  · by_cases h2 : k = 22 ∨ k = 23
    · have i3 := HI2.out h2
      rcases h2 with rfl | rfl
      all_goals
        go_enter Tryd.func29, Tryd.ntmps29
        go_wp2_with fail
        go_ret
        exact ⟨rfl, (Below.refl _ _).alloc (Nat.le_refl _) _⟩
    · have e : valR k ⟨k, rd, rn, rm, imm, cond⟩ 105 = imm := by simp [valR, h2]
      rw [e]
      clear e
      have x1 : ((k : Int) == 22) = false := by simp; omega
      have x2 : ((k : Int) == 23) = false := by simp; omega
      go_enter Tryd.func29, Tryd.ntmps29
      go_wp2_with fail
      go_ret
      exact ⟨rfl, (Below.refl _ _).alloc (Nat.le_refl _) _⟩
  · go_enter Tryd.func29, Tryd.ntmps29
    go_wp2_with fail
    go_ret
    exact ⟨rfl, (Below.refl _ _).alloc (Nat.le_refl _) _⟩
  · by_cases h2 : cond % 2 = 0
    · have e : valR k ⟨k, rd, rn, rm, imm, cond⟩ 107 = cond + 1 := by simp [valR, h2]
      rw [e]
      clear e
      have x1 : (cond % 2 == 0) = true := by simp [h2]
      clear h2
      go_enter Tryd.func29, Tryd.ntmps29
      go_wp2_with fail
      go_ret
      exact ⟨rfl, (Below.refl _ _).alloc (Nat.le_refl _) _⟩
    · have e : valR k ⟨k, rd, rn, rm, imm, cond⟩ 107 = cond - 1 := by simp [valR, h2]
      rw [e]
      clear e
      have x1 : (cond % 2 == 0) = false := by simp; omega
      clear h2
      go_enter Tryd.func29, Tryd.ntmps29
      go_wp2_with fail
      go_ret
      exact ⟨rfl, (Below.refl _ _).alloc (Nat.le_refl _) _⟩
  · go_enter Tryd.func29, Tryd.ntmps29
    go_wp2_with fail
    go_ret
    exact ⟨rfl, (Below.refl _ _).alloc (Nat.le_refl _) _⟩
  · go_enter Tryd.func29, Tryd.ntmps29
    go_wp2_with fail
    go_ret
    exact ⟨rfl, (Below.refl _ _).alloc (Nat.le_refl _) _⟩
theorem sg_lets (op k : Nat) (h1 : 1 ≤ op) (h2 : op < 48) (hk : k < 32) : sg op k = 48 ∨ sg op k = 49 ∨ sg op k ∈ [100, 110, 109, 105, 99, 107, 114, 115] := by
  have h : ((List.range 48).all fun op => op == 0 || (List.range 32).all fun k => sg op k == 48 || sg op k == 49 || [100, 110, 109, 105, 99, 107, 114, 115].contains (sg op k)) = true := by decide +kernel
  have := (List.all_eq_true.1 h) op (List.mem_range.2 h2)
  have h3 : (op == 0) = false := by simp; omega
  rw [h3, Bool.false_or] at this
  have := (List.all_eq_true.1 this) k (List.mem_range.2 hk)
  simp only [Bool.or_eq_true, beq_iff_eq] at this
  rcases this with (h | h) | h
  · exact .inl h
  · exact .inr (.inl h)
  · exact .inr (.inr (by simpa using h))
def bh (op k : Nat) : Nat → Nat
  | 0 => 0
  | j + 1 => bh op k j + (if k < j ∧ sg op j = sg op k then 1 else 0)
theorem bh_start (op k : Nat) : ∀ j, j ≤ k + 1 → bh op k j = 0
  | 0, _ => rfl
  | j + 1, h => by
    unfold bh
    rw [bh_start op k j (by omega), if_neg (by omega)]
theorem bh_le (op k : Nat) : ∀ j, bh op k j ≤ j
  | 0 => Nat.le_refl _
  | j + 1 => by
    have := bh_le op k j
    unfold bh
    split <;> omega
theorem bh_end (op k : Nat) (h1 : 1 ≤ op) (h2 : op < 48) (hk : k < 32) : bh op k 32 = behind op k := by
  have h : ((List.range 48).all fun op => op == 0 || (List.range 32).all fun k => bh op k 32 == behind op k) = true := by decide +kernel
  have := (List.all_eq_true.1 h) op (List.mem_range.2 h2)
  have h3 : (op == 0) = false := by simp; omega
  rw [h3, Bool.false_or] at this
  exact eq_of_beq ((List.all_eq_true.1 this) k (List.mem_range.2 hk))
end Go.Proofs.YtbggcofnopaloabDoor
namespace Go.Proofs.YtbggcofnopaloabDoor
open Go.RowKit Sx
theorem bit_val (v : Int) (n : Nat) : IntKind.u32.wrap (bits BinOp.and IntKind.u64 (IntKind.u64.wrap v / 2 ^ n) 1) = ((if (v % 18446744073709551616).toNat.testBit n then 1 else 0 : Nat) : Int) := by
  have e1 : IntKind.u64.wrap v = (((v % 18446744073709551616).toNat : Nat) : Int) := by rw [IntKind.wrap_u64]; omega
  have e2 : IntKind.u64.wrap v / 2 ^ n = (((v % 18446744073709551616).toNat / 2 ^ n : Nat) : Int) := by rw [e1]; push_cast; rfl
  generalize hx : (v % 18446744073709551616).toNat = x at *
  have hlt : x < 2 ^ 64 := by omega
  have h3 : x / 2 ^ n < 2 ^ 64 := Nat.lt_of_le_of_lt (Nat.div_le_self _ _) hlt
  have h4 := (bits_nat .u64 64 (by decide) (fun n h0 h1 => by rw [IntKind.wrap_u64]; omega) (x / 2 ^ n) 1 h3 (by decide)).1
  rw [show ((1 : Nat) : Int) = 1 from rfl] at h4
  rw [e2, h4, Nat.testBit_eq_decide_div_mod_eq, Nat.and_one_is_mod, IntKind.wrap_u32]
  by_cases h : x / 2 ^ n % 2 = 1
  · simp [h]
  · have h0 : x / 2 ^ n % 2 = 0 := by omega
    simp [h0]
theorem put_val (W b m : Nat) (hW : W < 2 ^ m) (hm : m < 32) (hb : b ≤ 1) : bits BinOp.or IntKind.u32 (W : Int) (IntKind.u32.wrap ((b : Int) * 2 ^ m)) = ((W + (if b = 1 then 2 ^ m else 0) : Nat) : Int) := by
  have hp : (2 : Nat) ^ m ≤ 2 ^ 31 := Nat.pow_le_pow_right (by decide) (by omega)
  have e1 : (b : Int) * 2 ^ m = ((b * 2 ^ m : Nat) : Int) := by push_cast; rfl
  have e2 : IntKind.u32.wrap ((b * 2 ^ m : Nat) : Int) = ((b * 2 ^ m : Nat) : Int) := by
    rw [IntKind.wrap_u32]
    have : b * 2 ^ m ≤ 1 * 2 ^ m := Nat.mul_le_mul_right _ hb
    omega
  rw [e1, e2, or_u32 W (b * 2 ^ m) (by omega) (by have : b * 2 ^ m ≤ 1 * 2 ^ m := Nat.mul_le_mul_right _ hb; omega)]
  obtain rfl | rfl : b = 0 ∨ b = 1 := by omega
  · simp
  · rw [if_pos rfl, Nat.one_mul, Nat.or_comm]
    have := Nat.two_pow_add_eq_or_of_lt hW 1
    rw [Nat.mul_one] at this
    rw [← this, Nat.add_comm]
theorem or0_val (W m : Nat) (hW : W < 2 ^ m) (hm : m < 32) : bits BinOp.or IntKind.u32 (W : Int) 0 = (W : Int) := by
  have h := put_val W 0 m hW hm (by decide)
  rw [show ((0 : Nat) : Int) * 2 ^ m = 0 by simp, show IntKind.u32.wrap 0 = 0 by decide] at h
  simpa using h
theorem or1_val (W m : Nat) (hW : W < 2 ^ m) (hm : m < 32) : bits BinOp.or IntKind.u32 (W : Int) (2 ^ m % 4294967296) = ((W + 2 ^ m : Nat) : Int) := by
  have h := put_val W 1 m hW hm (by decide)
  rw [show ((1 : Nat) : Int) * 2 ^ m = 2 ^ m by simp, IntKind.wrap_u32] at h
  rw [h]
  simp
theorem orx_val (W m n : Nat) (v : Int) (hW : W < 2 ^ m) (hm : m < 32) : bits BinOp.or IntKind.u32 (W : Int) (bits BinOp.and IntKind.u64 (IntKind.u64.wrap v / 2 ^ n) 1 % 4294967296 * 2 ^ m % 4294967296) = ((W + (if (v % 18446744073709551616).toNat.testBit n then 2 ^ m else 0) : Nat) : Int) := by
  have h := bit_val v n
  rw [IntKind.wrap_u32] at h
  rw [h]
  have h2 := put_val W (if (v % 18446744073709551616).toNat.testBit n then 1 else 0) m hW hm (by split <;> decide)
  rw [IntKind.wrap_u32] at h2
  rw [h2]
  cases (v % 18446744073709551616).toNat.testBit n <;> rfl
set_option maxRecDepth 100000 in
set_option maxHeartbeats 8000000 in
theorem r14Word_calls (k : Nat) (rd rn rm imm cond : Int) (w : World) (h1 : 1 ≤ k) (h2 : k < 48) (hf : fitsR k ⟨k, rd, rn, rm, imm, cond⟩ = true) :
    Calls Tryd.prog 15 #[insV ⟨k, rd, rn, rm, imm, cond⟩] w fun e w' => e = .returned (.int .u32 ((wordR k ⟨k, rd, rn, rm, imm, cond⟩ : Nat) : Int)) ∧ Below w.heap.size w w' := by
  have hI : Blk (w.alloc (.cells (insC ⟨k, rd, rn, rm, imm, cond⟩) 38)) w.heap.size 38 (insC ⟨k, rd, rn, rm, imm, cond⟩) := Blk.new w _ _
  have hBI := (Below.refl w.heap.size w).alloc (Nat.le_refl _) (.cells (insC ⟨k, rd, rn, rm, imm, cond⟩) 38)
  have hs := patB_size k h1 h2
  have HS := hid_of hs
  have hc := fun W => r14Pattern_calls k W h1 h2
  have HG := hid_of (patB_at k)
  have HBE := hid_of (fun j => bh_end k j h1 h2)
  have HSL := hid_of (fun j => sg_lets k j h1 h2)
  have HWN := hid_of (fun m => (wordN_bit k ⟨k, rd, rn, rm, imm, cond⟩ m 0).2)
  have HV : Hid (∀ l : Nat, l ∈ [100, 110, 109, 105, 99, 107, 114, 115] → ∀ W, Calls Tryd.prog 29 #[insV ⟨k, rd, rn, rm, imm, cond⟩, .int .u8 l] W fun e w' => e = .returned (.int .i64 (valR k ⟨k, rd, rn, rm, imm, cond⟩ l)) ∧ Below W.heap.size W w') := fun l hl W => by
    unfold fitsR at hf
    simp only [Bool.and_eq_true] at hf
    exact r14value_calls k l rd rn rm imm cond W hf.1.1.2 hf.1.2 hl h2
  have HI := hid_of hI
  have HBI := hid_of hBI
  clear hs hf h1 h2 hI hBI
  generalize patB k = s at *
  unfold insV at *
  dsimp only at *
  go_enter Tryd.func15, Tryd.ntmps15
  go_wp2_with (first | (go_at_call 28; refine (hc _).mono ?_; rintro e w3 ⟨rfl, hB3⟩; have HI3 := hid_of (HI.out.of_below hB3); have HB3 := hid_of (HBI.out.trans (hB3.mono HBI.out.size)); clear hB3))
  clear hc
  go_loopw [4, 5] (fun a i wr => ∃ m : Nat, m ≤ 32 ∧ a = .int .u32 ((wordN k ⟨k, rd, rn, rm, imm, cond⟩ m : Nat) : Int) ∧ i = .int .i64 (31 - (m : Int)) ∧ Hid (Blk wr w.heap.size 38 (insC ⟨k, rd, rn, rm, imm, cond⟩)) ∧ Hid (Below w.heap.size w wr)) (fun _ i _ => (intOf i + 1).toNat)
  case atStart => exact ⟨0, by omega, rfl, rfl, HI3, HB3⟩
  case round =>
    obtain ⟨m, hm, rfl, rfl, HIr, HBr⟩ := hrel
    by_cases h32 : m < 32
    · obtain ⟨j, hj⟩ : ∃ j : Nat, j + m = 31 := ⟨31 - m, by omega⟩
      have hji : (31 : Int) - (m : Int) = (j : Int) := by omega
      rw [hji]
      have hjm : (31 : Int) - (j : Int) = (m : Int) := by omega
      have hj32 : j < 32 := by omega
      have hjs : j < s.size := by have := HS.out; omega
      have hgj := HG.out j hjs
      have HN : Hid (wordN k ⟨k, rd, rn, rm, imm, cond⟩ (m + 1) = wordN k ⟨k, rd, rn, rm, imm, cond⟩ m + (if sBit k ⟨k, rd, rn, rm, imm, cond⟩ (sg k j) (behind k j) then 2 ^ m else 0)) := by
        have e : j = 31 - m := by omega
        rw [e]
        rfl
      have HBJ := hid_of (HBE.out j hj32)
      have hsl := HSL.out j hj32
      have HPV : Hid (∀ b : Nat, b ≤ 1 → bits BinOp.or IntKind.u32 ((wordN k ⟨k, rd, rn, rm, imm, cond⟩ m : Nat) : Int) (IntKind.u32.wrap ((b : Int) * 2 ^ m)) = ((wordN k ⟨k, rd, rn, rm, imm, cond⟩ m + (if b = 1 then 2 ^ m else 0) : Nat) : Int)) := fun b hb => put_val _ b m (HWN.out m) h32 hb
      have HJM := hid_of hj
      clear hj hji
      rcases hsl with hc | hc | hc
      · rw [hc] at hgj
        have HB0 : Hid (sBit k ⟨k, rd, rn, rm, imm, cond⟩ (sg k j) (behind k j) = false) := by rw [Hid, hc]; rfl
        have HO := hid_of (or0_val _ m (HWN.out m) h32)
        clear hc HBJ HPV
        go_wp2_with fail
        exact ⟨⟨m + 1, by omega, by rw [HO.out, HN.out, HB0.out, if_neg (by decide), Nat.add_zero], by have := HJM.out; congr 1; omega, HIr, HBr⟩, by simp [intOf]⟩
      · rw [hc] at hgj
        have HB0 : Hid (sBit k ⟨k, rd, rn, rm, imm, cond⟩ (sg k j) (behind k j) = true) := by rw [Hid, hc]; rfl
        have HO := hid_of (or1_val _ m (HWN.out m) h32)
        clear hc HBJ HPV
        go_wp2_with fail
        exact ⟨⟨m + 1, by omega, by rw [HO.out, HN.out, HB0.out, if_pos rfl], by have := HJM.out; congr 1; omega, HIr, HBr⟩, by simp [intOf]⟩
      · have hv := HV.out (sg k j) hc
        have hc57 : 57 < sg k j := by
          have : ∀ l ∈ [100, 110, 109, 105, 99, 107, 114, 115], 57 < l := by decide
          exact this _ hc
        have HSB : Hid (sBit k ⟨k, rd, rn, rm, imm, cond⟩ (sg k j) (behind k j) = (valR k ⟨k, rd, rn, rm, imm, cond⟩ (sg k j) % 18446744073709551616).toNat.testBit (behind k j)) := by
          unfold sBit
          rw [if_neg (by omega), if_pos hc57]
          rfl
        have HB1 := hid_of (bh_start k j (j + 1) (Nat.le_refl _))
        have HBS : Hid (∀ q, bh k j (q + 1) = bh k j q + (if j < q ∧ sg k q = sg k j then 1 else 0)) := fun q => rfl
        have HBL := hid_of (bh_le k j)
        clear hc
        generalize hcc : sg k j = c at *
        have HCC := hid_of hcc
        clear hcc
        have x1 : ((c : Int) == 49) = false := by simp; omega
        have x2 : (57 : Int) < (c : Int) := by omega
        have hsm : s.size ≤ 9223372036854775807 := by have := HS.out; omega
        go_wp2_with fail
        go_loopw [7, 8] (fun n q w2 => ∃ qn : Nat, j + 1 ≤ qn ∧ qn ≤ 32 ∧ n = .int .i64 ((bh k j qn : Nat) : Int) ∧ q = .int .i64 qn ∧ Hid (Blk w2 w.heap.size 38 (insC ⟨k, rd, rn, rm, imm, cond⟩)) ∧ Hid (Below w.heap.size w w2)) (fun _ q _ => 32 - (intOf q).toNat)
        case atStart => exact ⟨j + 1, Nat.le_refl _, by omega, by rw [HB1.out]; rfl, by go_num, HIr, HBr⟩
        case round =>
          obtain ⟨q, hq1, hq2, rfl, rfl, HI2, HB2⟩ := hrel
          have hbl := HBL.out q
          by_cases hq : q < 32
          · have hqs : q < s.size := by have := HS.out; omega
            have hgq := HG.out q hqs
            have HST := hid_of (HBS.out q)
            by_cases he : sg k q = c
            · have HE : Hid (bh k j (q + 1) = bh k j q + 1) := by rw [Hid, HST.out, if_pos ⟨by omega, he⟩]
              generalize sg k q = c2 at *
              have x3 : ((c2 : Int) == (c : Int)) = true := by simp [he]
              clear he HST
              go_wp2_with fail
              go_quiet (fail)
              go_wp2_with fail
              exact ⟨⟨q + 1, by omega, by omega, by rw [HE.out]; go_num, by go_num, HI2.out.drewN _, below_drewN HB2.out _⟩, by simp [intOf]; omega⟩
            · have HE : Hid (bh k j (q + 1) = bh k j q) := by rw [Hid, HST.out, if_neg (fun h => he h.2)]; rfl
              generalize sg k q = c2 at *
              have x3 : ((c2 : Int) == (c : Int)) = false := by simp; omega
              clear he HST
              go_wp2_with fail
              go_quiet (fail)
              go_wp2_with fail
              exact ⟨⟨q + 1, by omega, by omega, by rw [HE.out], by go_num, HI2.out.drewN _, below_drewN HB2.out _⟩, by simp [intOf]; omega⟩
          · obtain rfl : q = 32 := by omega
            have HBE2 : Hid (bh k j 32 = behind k j) := HBJ
            obtain ⟨d0, d1, d2, d3, d4, d5⟩ := InS.ofT HI2.out
            dsimp only at d0 d1 d2 d3 d4 d5
            go_wp2_with fail
            go_region_held3 (fun W => W.cell? ⟨w.heap.size, 0, none⟩ = some (.int .i64 k) ∧ W.cell? ⟨w.heap.size, 1, none⟩ = some (.int .i64 rd) ∧ W.cell? ⟨w.heap.size, 2, none⟩ = some (.int .i64 rn) ∧ W.cell? ⟨w.heap.size, 3, none⟩ = some (.int .i64 rm) ∧ W.cell? ⟨w.heap.size, 4, none⟩ = some (.int .i64 imm) ∧ W.cell? ⟨w.heap.size, 5, none⟩ = some (.int .i64 cond)) (first | assumption | exact ⟨d0, d1, d2, d3, d4, d5⟩ | exact hS5) (first | (go_at_call 29; refine (hv _).mono ?_; rintro e w5 ⟨rfl, hB5⟩; have k5 := (Below.refl _ _).drew.trans hB5; have hI5 := HI2.out.of_below k5; have hS5 := InS.ofT hI5))
            have HI5 := hid_of hI5
            have HB5 := hid_of (HB2.out.trans (k5.mono (Nat.le_of_lt HI2.out.lt)))
            clear hI5 k5 hS5 hB5 d0 d1 d2 d3 d4 d5
            go_wp2_with fail
            exact ⟨⟨m + 1, by omega, by rw [orx_val _ m _ _ (HWN.out m) h32, HBE2.out, HN.out, HSB.out], by have := HJM.out; congr 1; omega, HI5, HB5⟩, by simp [intOf]⟩
    · obtain rfl : m = 32 := by omega
      go_wp2_with fail
      go_ret
      exact ⟨rfl, HBr.out⟩
end Go.Proofs.YtbggcofnopaloabDoor
namespace Go.Proofs.YtbggcofnopaloabDoor
open Go.RowKit Sx
end Go.Proofs.YtbggcofnopaloabDoor
namespace Go.Proofs.YtbggcofnopaloabDoor
open Go.RowKit Sx
end Go.Proofs.YtbggcofnopaloabDoor
namespace Go.Proofs.YtbggcofnopaloabDoor
open Go.RowKit Sx
structure RdC (m : Nat) (w0 w : World) : Prop where
  res : Blk w m 38 (insC zeroI)
  bel : Below m w0 w
theorem RdC.step {m : Nat} {w0 w w' : World} (h : RdC m w0 w) (hb : Below w.heap.size w w') : RdC m w0 w' := ⟨h.res.of_below hb, h.bel.trans (hb.mono (Nat.le_of_lt h.res.lt))⟩
end Go.Proofs.YtbggcofnopaloabDoor
namespace Go.Proofs.YtbggcofnopaloabDoor
open Go.RowKit Sx
def mov1 : Ins := ⟨1, 1, 0, 0, 5, 0⟩
theorem enc_mov : encI mov1 = some 3531604129 := by decide +kernel
theorem dec_mov : decA 3531604129 = some mov1 := by kernel_rfl
theorem enc_zero : encI zeroI = none := by decide +kernel
theorem zero_ok : -9223372036854775808 ≤ zeroI.op ∧ zeroI.op ≤ 9223372036854775807 := by decide
set_option maxRecDepth 100000 in
set_option maxHeartbeats 8000000 in
theorem l14awake_calls (w : World) (hT : Tb w) :
    Calls Tryd.prog 8 #[] w fun e w' => e = .returned (.bool true) ∧ Below w.heap.size w w' := by
  have hc1 : ∀ W, Tb W → Calls Tryd.prog 10 #[.agg #[.int .i64 1, .int .i64 1, .int .i64 0, .int .i64 0, .int .i64 5, .int .i64 0]] W fun e w' => e = .returned (.tuple #[.int .u32 3531604129, .int .i64 0]) ∧ Below W.heap.size W w' := fun W h => by
    have := cdEncode_calls mov1 W h (by decide)
    rw [enc_mov] at this
    exact this
  have hc2 : ∀ W, Tb W → Calls Tryd.prog 9 #[.int .u32 3531604129] W fun e w' => e = .returned (.tuple #[.agg (insC mov1), .int .i64 0]) ∧ Below W.heap.size W w' := fun W h => by
    have := cdDecode_calls 3531604129 W (by decide) h
    unfold DecE at this
    rw [dec_mov] at this
    exact this
  have hc3 : ∀ W, Tb W → Calls Tryd.prog 11 #[.agg #[.int .i64 0, .int .i64 0, .int .i64 0, .int .i64 0, .int .i64 0, .int .i64 0]] W fun e w' => e = .returned (.bool false) ∧ Below W.heap.size W w' := fun W h => by
    have := cdFits_calls zeroI W h zero_ok
    rw [enc_zero] at this
    exact this
  have HQL : Hid (∀ W, (Op.equalIn 10000 25 (.agg #[.int .i64 1, .int .i64 1, .int .i64 0, .int .i64 0, .int .i64 5, .int .i64 0]) (.agg #[.int .i64 1, .int .i64 1, .int .i64 0, .int .i64 0, .int .i64 5, .int .i64 0])).run Tryd.prog W = .ok true W) := fun W => ins_eqIn W mov1 mov1
  have hall := insC_all mov1
  have HT := hid_of hT
  clear hT
  go_enter Tryd.func8, Tryd.ntmps8
  go_upto_region 3 with (first | (go_at_call 10; refine (hc1 _ HT.out).mono ?_; rintro e w3 ⟨rfl, hB3⟩; have HT3 := hid_of (HT.out.step hB3)) | (go_at_call 9; refine (hc2 _ HT3.out).mono ?_; rintro e w4 ⟨rfl, hB4⟩) | (refine wpList_store_row rfl 25 _ _ rfl w4.heap.size (insC mov1) rfl rfl 25 (insC zeroI) (Blk.new w4 _ _) (by kernel_rfl) rfl hall ?_))
  have hb : Blk ((w4.alloc (.cells (insC zeroI) 25)).setRow w4.heap.size (insC mov1)) w4.heap.size 25 (insC mov1) := (Blk.new w4 25 (insC zeroI)).setRow' (insC mov1)
  have hB5 : Below w4.heap.size w4 ((w4.alloc (.cells (insC zeroI) 25)).setRow w4.heap.size (insC mov1)) := ((Below.refl _ _).alloc (Nat.le_refl _) _).trans (below_row _ (Nat.le_refl _))
  generalize hw5 : (w4.alloc (.cells (insC zeroI) 25)).setRow w4.heap.size (insC mov1) = w5 at *
  have hw6 : (w4.alloc (.cells #[.int .i64 0, .int .i64 0, .int .i64 0, .int .i64 0, .int .i64 0, .int .i64 0] 25)).setRow w4.heap.size (insC mov1) = w5 := hw5
  rw [hw6]
  clear hw5 hw6
  have d0 : w5.cell? ⟨w4.heap.size, 0, none⟩ = some (.int .i64 1) := hb.cell rfl
  have d1 : w5.cell? ⟨w4.heap.size, 1, none⟩ = some (.int .i64 1) := hb.cell rfl
  have d2 : w5.cell? ⟨w4.heap.size, 2, none⟩ = some (.int .i64 0) := hb.cell rfl
  have d3 : w5.cell? ⟨w4.heap.size, 3, none⟩ = some (.int .i64 0) := hb.cell rfl
  have d4 : w5.cell? ⟨w4.heap.size, 4, none⟩ = some (.int .i64 5) := hb.cell rfl
  have d5 : w5.cell? ⟨w4.heap.size, 5, none⟩ = some (.int .i64 0) := hb.cell rfl
  have HT5 := hid_of ((HT3.out.step hB4).step hB5)
  have HB5 := hid_of ((hB3.trans (hB4.mono hB3.size)).trans (hB5.mono (Nat.le_trans hB3.size hB4.size)))
  have hql := HQL.out
  clear hB3 hB4 hB5 hb hall hc1 hc2
  go_wp2_with (first | (go_at_call 11; refine (hc3 _ HT5.out).mono ?_; rintro e w6 ⟨rfl, hB6⟩))
  go_ret
  exact ⟨rfl, HB5.out.trans (hB6.mono HB5.out.size)⟩
theorem l14Ref_calls (i : Ins) (w : World) :
    Calls Tryd.prog 14 #[insV i] w fun e w' => e = .returned (insV i) ∧ Below w.heap.size w w' := by
  obtain ⟨op, rd, rn, rm, imm, cond⟩ := i
  unfold insV
  dsimp only
  go_enter Tryd.func14, Tryd.ntmps14
  go_wp2_with fail
  exact bodyPost_ret (results_cell_row rfl _ _ (w.heap.size + 1) 38 _ (0, 0) _ rfl (Blk.new2 w _ _ _) Tryd.underlying38 rfl (by kernel_rfl)) rfl ⟨rfl, ((Below.refl _ _).alloc (Nat.le_refl _) _).alloc (by simp) _⟩
end Go.Proofs.YtbggcofnopaloabDoor
namespace Go.Proofs.YtbggcofnopaloabDoor
open Go.RowKit Sx
theorem enc_no {i : Ins} (h : fitsI i = false) : encI i = none := by
  by_cases hop : 1 ≤ i.op ∧ i.op < 48
  · unfold fitsI at h
    rw [if_pos hop] at h
    obtain ⟨op, rd, rn, rm, imm, cond⟩ := i
    obtain ⟨k, rfl⟩ : ∃ k : Nat, op = (k : Int) := ⟨op.toNat, by dsimp only at hop; omega⟩
    dsimp only at hop h
    rw [encI_eq k (by omega) (by omega)]
    have h2 : fitsR k ⟨k, rd, rn, rm, imm, cond⟩ = false := h
    rw [h2]
    rfl
  · exact encI_no i hop
theorem enc_yes {i : Ins} (h : fitsI i = true) : ∃ k : Nat, 1 ≤ k ∧ k < 48 ∧ i.op = (k : Int) ∧ fitsR k i = true ∧ encI i = some (wordR k i) := by
  unfold fitsI at h
  split at h
  · rename_i hop
    obtain ⟨op, rd, rn, rm, imm, cond⟩ := i
    obtain ⟨k, rfl⟩ : ∃ k : Nat, op = (k : Int) := ⟨op.toNat, by dsimp only at hop; omega⟩
    dsimp only at hop
    have h2 : fitsR k ⟨k, rd, rn, rm, imm, cond⟩ = true := h
    refine ⟨k, by omega, by omega, rfl, h2, ?_⟩
    rw [encI_eq k (by omega) (by omega), h2]
    rfl
  · cases h
theorem insEq_self (i : Ins) : insEq i i = true := by simp [insEq]
theorem row_new (w : World) (j z : Array Value) : Blk ((w.alloc (.cells z 25)).setRow w.heap.size j) w.heap.size 25 j ∧ Below w.heap.size w ((w.alloc (.cells z 25)).setRow w.heap.size j) :=
  ⟨(Blk.new w 25 z).setRow' j, ((Below.refl _ _).alloc (Nat.le_refl _) _).trans (below_row _ (Nat.le_refl _))⟩
structure TwoC (N n m : Nat) (w0 : World) (i : Ins) (w : World) : Prop where
  a : Blk w n 25 (insC i)
  b : Blk w m 38 (insC i)
  tb : Tb w
  bel : Below N w0 w
  le : N ≤ w.heap.size
theorem TwoC.step {N n m : Nat} {w0 w w' : World} {i : Ins} (h : TwoC N n m w0 i w) (hb : Below w.heap.size w w') : TwoC N n m w0 i w' := ⟨h.a.of_below hb, h.b.of_below hb, h.tb.step hb, h.bel.trans (hb.mono h.le), Nat.le_trans h.le hb.size⟩
theorem TwoC.drew {N n m : Nat} {w0 w : World} {i : Ins} (h : TwoC N n m w0 i w) : TwoC N n m w0 i w.drew := h.step (Below.refl _ _).drew
theorem TwoC.cells {N n m : Nat} {w0 W : World} {op rd rn rm imm cond : Int} (h : TwoC N n m w0 ⟨op, rd, rn, rm, imm, cond⟩ W) : W.cell? ⟨n, 0, none⟩ = some (.int .i64 op) ∧ W.cell? ⟨n, 1, none⟩ = some (.int .i64 rd) ∧ W.cell? ⟨n, 2, none⟩ = some (.int .i64 rn) ∧ W.cell? ⟨n, 3, none⟩ = some (.int .i64 rm) ∧ W.cell? ⟨n, 4, none⟩ = some (.int .i64 imm) ∧ W.cell? ⟨n, 5, none⟩ = some (.int .i64 cond) ∧ W.cell? ⟨m, 0, none⟩ = some (.int .i64 op) ∧ W.cell? ⟨m, 1, none⟩ = some (.int .i64 rd) ∧ W.cell? ⟨m, 2, none⟩ = some (.int .i64 rn) ∧ W.cell? ⟨m, 3, none⟩ = some (.int .i64 rm) ∧ W.cell? ⟨m, 4, none⟩ = some (.int .i64 imm) ∧ W.cell? ⟨m, 5, none⟩ = some (.int .i64 cond) := by
  obtain ⟨a, b, c, d, e, f⟩ := InS.of h.a
  exact ⟨a, b, c, d, e, f, InS.ofT h.b⟩
theorem enc_lt {i : Ins} {v : Nat} (h : encI i = some v) : v < 4294967296 := by
  unfold encI at h
  dsimp only at h
  split at h
  · obtain rfl := Option.some.inj h
    exact wordB_lt _ _ _ (rowI_low _).1
  · cases h
theorem enc_dec {i : Ins} {v : Nat} (h : encI i = some v) : decA v = some i ∧ v < 4294967296 := by
  have h0 := h
  cases hf : fitsI i
  · rw [enc_no hf] at h; cases h
  · obtain ⟨k, h1, h2, h3, h4, h5⟩ := enc_yes hf
    rw [h] at h5
    obtain rfl := Option.some.inj h5
    obtain ⟨op, rd, rn, rm, imm, cond⟩ := i
    dsimp only at h3
    subst h3
    exact ⟨decA_word k h1 h2 _ _ _ _ _ h4, enc_lt h0⟩
structure TwoI (N n m : Nat) (w0 : World) (i j : Ins) (w : World) : Prop where
  a : Blk w n 25 (insC i)
  b : Blk w m 25 (insC j)
  tb : Tb w
  bel : Below N w0 w
  le : N ≤ w.heap.size
theorem TwoI.step {N n m : Nat} {w0 w w' : World} {i j : Ins} (h : TwoI N n m w0 i j w) (hb : Below w.heap.size w w') : TwoI N n m w0 i j w' := ⟨h.a.of_below hb, h.b.of_below hb, h.tb.step hb, h.bel.trans (hb.mono h.le), Nat.le_trans h.le hb.size⟩
theorem TwoI.drew {N n m : Nat} {w0 w : World} {i j : Ins} (h : TwoI N n m w0 i j w) : TwoI N n m w0 i j w.drew := h.step (Below.refl _ _).drew
theorem TwoI.cells {N n m : Nat} {w0 W : World} {op rd rn rm imm cond op2 rd2 rn2 rm2 imm2 cond2 : Int} (h : TwoI N n m w0 ⟨op, rd, rn, rm, imm, cond⟩ ⟨op2, rd2, rn2, rm2, imm2, cond2⟩ W) : W.cell? ⟨n, 0, none⟩ = some (.int .i64 op) ∧ W.cell? ⟨n, 1, none⟩ = some (.int .i64 rd) ∧ W.cell? ⟨n, 2, none⟩ = some (.int .i64 rn) ∧ W.cell? ⟨n, 3, none⟩ = some (.int .i64 rm) ∧ W.cell? ⟨n, 4, none⟩ = some (.int .i64 imm) ∧ W.cell? ⟨n, 5, none⟩ = some (.int .i64 cond) ∧ W.cell? ⟨m, 0, none⟩ = some (.int .i64 op2) ∧ W.cell? ⟨m, 1, none⟩ = some (.int .i64 rd2) ∧ W.cell? ⟨m, 2, none⟩ = some (.int .i64 rn2) ∧ W.cell? ⟨m, 3, none⟩ = some (.int .i64 rm2) ∧ W.cell? ⟨m, 4, none⟩ = some (.int .i64 imm2) ∧ W.cell? ⟨m, 5, none⟩ = some (.int .i64 cond2) := by
  obtain ⟨a, b, c, d, e, f⟩ := InS.of h.a
  exact ⟨a, b, c, d, e, f, InS.of h.b⟩
theorem TwoI.new (w : World) (i j : Ins) (hT : Tb w) : TwoI w.heap.size w.heap.size (w.heap.size + 1) w i j ((w.alloc (.cells (insC i) 25)).alloc (.cells (insC j) 25)) := by
  have hb1 := (Below.refl w.heap.size w).alloc (Nat.le_refl _) (.cells (insC i) 25)
  exact ⟨(Blk.new w _ _).alloc _, Blk.new2 w _ _ _, (hT.step hb1).step ((Below.refl _ _).alloc (Nat.le_refl _) _), hb1.alloc (by simp) _, by simp only [World.size_alloc]; omega⟩
structure OneI (N n : Nat) (w0 : World) (i : Ins) (w : World) : Prop where
  a : Blk w n 25 (insC i)
  tb : Tb w
  bel : Below N w0 w
  le : N ≤ w.heap.size
theorem OneI.step {N n : Nat} {w0 w w' : World} {i : Ins} (h : OneI N n w0 i w) (hb : Below w.heap.size w w') : OneI N n w0 i w' := ⟨h.a.of_below hb, h.tb.step hb, h.bel.trans (hb.mono h.le), Nat.le_trans h.le hb.size⟩
theorem OneI.new (w : World) (i : Ins) (hT : Tb w) : OneI w.heap.size w.heap.size w i (w.alloc (.cells (insC i) 25)) := by
  have hb1 := (Below.refl w.heap.size w).alloc (Nat.le_refl _) (.cells (insC i) 25)
  exact ⟨Blk.new w _ _, hT.step hb1, hb1, hb1.size⟩
structure Pre (N : Nat) (w0 w : World) : Prop where
  tb : Tb w
  bel : Below N w0 w
  le : N ≤ w.heap.size
theorem Pre.refl {w : World} (hT : Tb w) : Pre w.heap.size w w := ⟨hT, Below.refl _ _, Nat.le_refl _⟩
theorem Pre.step {N : Nat} {w0 w w' : World} (h : Pre N w0 w) (hb : Below w.heap.size w w') : Pre N w0 w' := ⟨h.tb.step hb, h.bel.trans (hb.mono h.le), Nat.le_trans h.le hb.size⟩
theorem Pre.row {N : Nat} {w0 w : World} (h : Pre N w0 w) (i : Ins) (z : Array Value) : OneI N w.heap.size w0 i ((w.alloc (.cells z 25)).setRow w.heap.size (insC i)) := by
  obtain ⟨h1, h2⟩ := row_new w (insC i) z
  have h3 := h.step h2
  exact ⟨h1, h3.tb, h3.bel, h3.le⟩
theorem OneI.row {N n : Nat} {w0 w : World} {i : Ins} (h : OneI N n w0 i w) (j : Ins) (z : Array Value) : TwoI N n w.heap.size w0 i j ((w.alloc (.cells z 25)).setRow w.heap.size (insC j)) := by
  obtain ⟨h1, h2⟩ := row_new w (insC j) z
  have h3 := h.step h2
  exact ⟨h3.a, h1, h3.tb, h3.bel, h3.le⟩
end Go.Proofs.YtbggcofnopaloabDoor
