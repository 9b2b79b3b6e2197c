/- rc11's sequence: the relations of the SC rule. (Printed by rcd.py.) -/
import Derived.Test.YtjhhimjnoljojaaGreatDoorJ24
namespace Go.Proofs.YtjhhimjnoljojaaGreatDoor
open Go.RowKit Go.Shelf Sx
section
variable (g : Gr) (Ls : Nat → List Nat) (H C : List Nat)
def scI : List Nat := identL ((g.evs.length : Nat) : Int) (mdL g [5])
def rwL : List Nat := unionL [rdI g, wrI g]
def acL : List Nat := chainL (scI g) [rwL g]
def fsL : List Nat := chainL (scI g) [feI g]
def apL : List Nat := minusL (Ls 0) (Ls 5)
def ahL : List Nat := chainL (apL Ls) [H, apL Ls]
def hsL : List Nat := interL H (Ls 5)
def scbL : List Nat := unionL [Ls 0, ahL Ls H, hsL Ls H, Ls 2, Ls 3]
def fhL : List Nat := chainL (fsL g) [optL H]
def begL : List Nat := unionL [acL g, fhL g H]
def hfL : List Nat := chainL (optL H) [fsL g]
def endL : List Nat := unionL [acL g, hfL g H]
def baseL : List Nat := chainL (begL g H) [scbL Ls H, endL g H]
def hehL : List Nat := chainL H [C, H]
def uhhL : List Nat := unionL [H, hehL H C]
def pscL : List Nat := chainL (fsL g) [uhhL H C, fsL g]
end
theorem rwL_eq (g : Gr) : unionL [rdI g, wrI g] = rwL g := rfl
theorem acL_eq (g : Gr) : chainL (scI g) [rwL g] = acL g := rfl
theorem fsL_eq (g : Gr) : chainL (scI g) [feI g] = fsL g := rfl
theorem ahL_eq (Ls : Nat → List Nat) (H : List Nat) : chainL (apL Ls) [H, apL Ls] = ahL Ls H := rfl
theorem scbL_eq (Ls : Nat → List Nat) (H : List Nat) : unionL [Ls 0, ahL Ls H, hsL Ls H, Ls 2, Ls 3] = scbL Ls H := rfl
theorem fhL_eq (g : Gr) (H : List Nat) : chainL (fsL g) [optL H] = fhL g H := rfl
theorem begL_eq (g : Gr) (H : List Nat) : unionL [acL g, fhL g H] = begL g H := rfl
theorem hfL_eq (g : Gr) (H : List Nat) : chainL (optL H) [fsL g] = hfL g H := rfl
theorem endL_eq (g : Gr) (H : List Nat) : unionL [acL g, hfL g H] = endL g H := rfl
theorem baseL_eq (g : Gr) (Ls : Nat → List Nat) (H : List Nat) : chainL (begL g H) [scbL Ls H, endL g H] = baseL g Ls H := rfl
theorem hehL_eq (H : List Nat) (C : List Nat) : chainL H [C, H] = hehL H C := rfl
theorem uhhL_eq (H : List Nat) (C : List Nat) : unionL [H, hehL H C] = uhhL H C := rfl
theorem pscL_eq (g : Gr) (H : List Nat) (C : List Nat) : chainL (fsL g) [uhhL H C, fsL g] = pscL g H C := rfl
set_option linter.unusedSimpArgs false in
set_option linter.unusedVariables false in
set_option maxRecDepth 100000 in
set_option maxHeartbeats 16000000 in
theorem rcSeq_calls (w0 w : World) (m : Nat) (V : GrV) (g : Gr) (bs cs : Nat → Nat) (Ls : Nat → List Nat) (br bw bf : Nat) (r : Nat → Value) (bhb chb beco ceco : Nat) (H C : List Nat) (h0 : GrR w0 V g) (hT0 : Tab w0) (hm0 : w0.heap.size ≤ m) (hlow : Below w0.heap.size w0 w)
    (hmo : Blk w m 87 (moC V g bs br bw bf r)) (hr2 : r 2 = pv bhb) (hr3 : r 3 = pv beco) (hrd : Blk w br 4 (arrB (kndL g 1))) (hwt : Blk w bw 4 (arrB (kndL g 2))) (hfe : Blk w bf 4 (arrB (kndL g 3)))
    (hE : Rels w [(bs 0, cs 0, Ls 0), (bs 2, cs 2, Ls 2), (bs 3, cs 3, Ls 3), (bs 5, cs 5, Ls 5), (bhb, chb, H), (beco, ceco, C)]) :
    Calls Tryz.prog 39 #[pv m] w fun e w' => e = .returned (.tuple #[]) ∧ ∃ b1 c1 b2 c2 b3 c3, Rels w' [(b3, c3, pscL g H C), (b2, c2, baseL g Ls H), (b1, c1, scbL Ls H)] ∧ Blk w' m 87 (moC V g bs br bw bf (updR (updR (updR r 4 (pv b1)) 5 (pv b2)) 6 (pv b3))) ∧ Touch m w w' := by
  obtain ⟨Ve, Vr, Vc, Vm, Va, Vd, Vt⟩ := V
  obtain ⟨p1, k1, e1, _, _⟩ := h0.ev
  dsimp only at e1
  subst e1
  have H0 := hid_of h0
  have HT := hid_of hT0
  have HR2 := hid_of hr2
  have HR3 := hid_of hr3
  have c0 : w.cell? ⟨m, 8, none⟩ = some (pv (bs 0)) := hmo.cell rfl
  have c1 : w.cell? ⟨m, 9, none⟩ = some (pv (bs 1)) := hmo.cell rfl
  have c2 : w.cell? ⟨m, 10, none⟩ = some (pv (bs 2)) := hmo.cell rfl
  have c3 : w.cell? ⟨m, 11, none⟩ = some (pv (bs 3)) := hmo.cell rfl
  have c4 : w.cell? ⟨m, 12, none⟩ = some (pv (bs 4)) := hmo.cell rfl
  have c5 : w.cell? ⟨m, 13, none⟩ = some (pv (bs 5)) := hmo.cell rfl
  have c6 : w.cell? ⟨m, 14, none⟩ = some (pv (bs 6)) := hmo.cell rfl
  have c7 : w.cell? ⟨m, 15, none⟩ = some (pv (bs 7)) := hmo.cell rfl
  have c8 : w.cell? ⟨m, 16, none⟩ = some (pv (bs 8)) := hmo.cell rfl
  have c9 : w.cell? ⟨m, 17, none⟩ = some (pv (bs 9)) := hmo.cell rfl
  have c10 : w.cell? ⟨m, 18, none⟩ = some (.slice (some ⟨br, 0, none⟩) g.evs.length g.evs.length) := hmo.cell rfl
  have c11 : w.cell? ⟨m, 19, none⟩ = some (.slice (some ⟨bw, 0, none⟩) g.evs.length g.evs.length) := hmo.cell rfl
  have c12 : w.cell? ⟨m, 20, none⟩ = some (.slice (some ⟨bf, 0, none⟩) g.evs.length g.evs.length) := hmo.cell rfl
  have hBz : Below w.heap.size w (w.alloc (.cells #[pv (bs 0), pv (bs 1), pv (bs 2), pv (bs 3), pv (bs 4), pv (bs 5), pv (bs 6), pv (bs 7), pv (bs 8), pv (bs 9), .slice (some ⟨br, 0, none⟩) g.evs.length g.evs.length, .slice (some ⟨bw, 0, none⟩) g.evs.length g.evs.length, .slice (some ⟨bf, 0, none⟩) g.evs.length g.evs.length] 85)) := (Below.refl _ _).alloc (Nat.le_refl _) _
  have HP0 : Hid (Hp w0 w m w.heap.size ⟨.slice p1 g.evs.length k1, Vr, Vc, Vm, Va, Vd, Vt⟩ g bs br bw bf (r) [(bs 0, cs 0, Ls 0), (bs 2, cs 2, Ls 2), (bs 3, cs 3, Ls 3), (bs 5, cs 5, Ls 5), (bhb, chb, H), (beco, ceco, C)] (w.alloc (.cells #[pv (bs 0), pv (bs 1), pv (bs 2), pv (bs 3), pv (bs 4), pv (bs 5), pv (bs 6), pv (bs 7), pv (bs 8), pv (bs 9), .slice (some ⟨br, 0, none⟩) g.evs.length g.evs.length, .slice (some ⟨bw, 0, none⟩) g.evs.length g.evs.length, .slice (some ⟨bf, 0, none⟩) g.evs.length g.evs.length] 85))) := ⟨below_step hlow hlow.size hBz, Touch.of_below hBz, hmo.of_below hBz, Blk.new w 85 _, hrd.of_below hBz, hwt.of_below hBz, hfe.of_below hBz, hE.below hBz⟩
  clear h0 hT0 hlow hmo hrd hwt hfe hE hBz hr2 hr3
  go_enter Tryz.func39, Tryz.ntmps39
  go_upto_region 1 with fail
  clear c0 c1 c2 c3 c4 c5 c6 c7 c8 c9 c10 c11 c12
  generalize w.alloc (.cells #[pv (bs 0), pv (bs 1), pv (bs 2), pv (bs 3), pv (bs 4), pv (bs 5), pv (bs 6), pv (bs 7), pv (bs 8), pv (bs 9), .slice (some ⟨br, 0, none⟩) g.evs.length g.evs.length, .slice (some ⟨bw, 0, none⟩) g.evs.length g.evs.length, .slice (some ⟨bf, 0, none⟩) g.evs.length g.evs.length] 85) = W0 at *
  have HP1 := hid_of HP0.out.drew
  clear HP0
  refine wp_region_held_drew (S := fun W => W.cell? ⟨w.heap.size, 10, none⟩ = some (.slice (some ⟨br, 0, none⟩) g.evs.length g.evs.length) ∧ W.cell? ⟨w.heap.size, 11, none⟩ = some (.slice (some ⟨bw, 0, none⟩) g.evs.length g.evs.length)) (by kernel_rfl) ⟨(HP1.out.fx.cell rfl), (HP1.out.fx.cell rfl)⟩ (fun hHeld => ?_)
  generalize W0.drew = W1 at *
  refine tk 0 rfl ?_; simp only [zz]
  refine tk 3 rfl ?_; simp only [zz]
  refine tk 4 rfl ?_; simp only [zz]
  refine tk 5 rfl ?_; simp only [zz]
  refine tk 7 rfl ?_; simp only [zz]
  refine tk 8 rfl ?_; simp only [zz]
  refine tk 9 rfl ?_; simp only [zz]
  refine wpAnyH_ready (rs := [1]) (by kernel_rfl) (by simp) ?_
  refine rdy rfl (fun K hK => ?_) AllReadyH.nil
  simp only [z1, z2, z3]
  refine op_build #[(0, .int .i64 5)] (by kernel_rfl) (bi1_run 5 _) ?_
  have HP2 := hid_of (HP1.out.alloc (.cells #[.int .i64 5] 3))
  have HI2 : Hid (IntsR (W1.alloc (.cells #[.int .i64 5] 3)) (.slice (some ⟨W1.heap.size, 0, none⟩) 1 1) [5]) := ints_at W1 [5]
  clear HP1
  generalize W1.alloc (.cells #[.int .i64 5] 3) = W2 at *
  generalize W1.heap.size = s2 at *
  clear hHeld
  refine hK.out _ _ ⟨(HP2.out.fx.cell rfl), (HP2.out.fx.cell rfl)⟩ (fun hHeld => ?_)
  clear hK K
  try simp only [zz]
  refine wpAnyH_ready (rs := [2]) (by kernel_rfl) (by simp) ?_
  refine rdy rfl (fun K hK => ?_) AllReadyH.nil
  simp only [z1, z2, z3]
  go_simp
  refine (HP2.out.calls_made (scI g) (rcWith_calls m _ g _ [5] _ (H0.out.below HP2.out.low) (mo_gs HP2.out.mo) HI2.out (by decide) (HT.out.step' HP2.out.low)) (rfl)).mono ?_
  rintro e W3 ⟨bsa, csa, rfl, HP3, HB3⟩
  clear HP2 HB3
  clear HI2
  clear hHeld
  refine hK.out _ _ ⟨(HP3.out.fx.cell rfl), (HP3.out.fx.cell rfl)⟩ (fun hHeld => ?_)
  clear hK K
  try simp only [zz]
  refine wpAnyH_ready (rs := [6]) (by kernel_rfl) (by simp) ?_
  refine rdy rfl (fun K hK => ?_) AllReadyH.nil
  simp only [z1, z2, z3]
  go_simp
  refine (HP3.out.calls_made (rdI g) (rcOnly_calls m g.evs.length k1 p1 _ (kndL g 1) W3 (HP3.out.mo.cell rfl) (knd_set HP3.out.rd) (HT.out.step' HP3.out.low)) (rfl)).mono ?_
  rintro e W4 ⟨brd, crd, rfl, HP4, HB4⟩
  clear HP3 HB4
  clear hHeld
  refine hK.out _ _ ⟨(HP4.out.fx.cell rfl), (HP4.out.fx.cell rfl)⟩ (fun hHeld => ?_)
  clear hK K
  try simp only [zz]
  refine wpAnyH_ready (rs := [10]) (by kernel_rfl) (by simp) ?_
  refine rdy rfl (fun K hK => ?_) AllReadyH.nil
  simp only [z1, z2, z3]
  go_simp
  refine (HP4.out.calls_made (wrI g) (rcOnly_calls m g.evs.length k1 p1 _ (kndL g 2) W4 (HP4.out.mo.cell rfl) (knd_set HP4.out.wt) (HT.out.step' HP4.out.low)) (rfl)).mono ?_
  rintro e W5 ⟨bwr, cwr, rfl, HP5, HB5⟩
  clear HP4 HB5
  clear hHeld
  refine hK.out _ _ ⟨(HP5.out.fx.cell rfl), (HP5.out.fx.cell rfl)⟩ (fun hHeld => ?_)
  clear hK K
  try simp only [zz]
  refine wpAnyH_ready (rs := [11]) (by kernel_rfl) (by simp) ?_
  refine rdy rfl (fun K hK => ?_) AllReadyH.nil
  simp only [z1, z2, z3]
  refine op_build #[(0, pv brd), (1, pv bwr)] (by kernel_rfl) (bs2_run brd bwr _) ?_
  have HP6 := hid_of (HP5.out.alloc (.cells #[pv brd, pv bwr] 43))
  have HLp_6 : Hid (RelsAt (W5.alloc (.cells #[pv brd, pv bwr] 43)) W5.heap.size [(brd, crd, rdI g), (bwr, cwr, wrI g)]) := rels_at [(brd, crd, rdI g), (bwr, cwr, wrI g)] ((Rels.cons (Rels.cons (Rels.nil _) (HP5.out.at_ (b := bwr) (c := cwr) (L := wrI g) (.head _))) (HP5.out.at_ (b := brd) (c := crd) (L := rdI g) (.tail _ (.head _)))))
  clear HP5
  generalize W5.alloc (.cells #[pv brd, pv bwr] 43) = W6 at *
  generalize W5.heap.size = s6 at *
  clear hHeld
  refine hK.out _ _ ⟨(HP6.out.fx.cell rfl), (HP6.out.fx.cell rfl)⟩ (fun hHeld => ?_)
  clear hK K
  try simp only [zz]
  refine wpAnyH_ready (rs := [12]) (by kernel_rfl) (by simp) ?_
  refine rdy rfl (fun K hK => ?_) AllReadyH.nil
  simp only [z1, z2, z3]
  go_simp
  refine (HP6.out.calls_made (rwL g) (Union_named s6 [(brd, crd, rdI g), (bwr, cwr, wrI g)] [rdI g, wrI g] (map3_cons (map3_cons (map3_nil))) _ HLp_6.out (by simp)) (rwL_eq ..)).mono ?_
  rintro e W7 ⟨brw, crw, rfl, HP7, HB7⟩
  clear HP6 HB7
  clear HLp_6
  clear hHeld
  refine hK.out _ _ ⟨(HP7.out.fx.cell rfl), (HP7.out.fx.cell rfl)⟩ (fun hHeld => ?_)
  clear hK K
  try simp only [zz]
  refine wpAnyH_ready (rs := [13]) (by kernel_rfl) (by simp) ?_
  refine rdy rfl (fun K hK => ?_) AllReadyH.nil
  simp only [z1, z2, z3]
  refine op_build #[(0, pv brw)] (by kernel_rfl) (bs1_run brw _) ?_
  have HP8 := hid_of (HP7.out.alloc (.cells #[pv brw] 43))
  have HLq_8 : Hid (RelsAt (W7.alloc (.cells #[pv brw] 43)) W7.heap.size [(brw, crw, rwL g)]) := rels_at [(brw, crw, rwL g)] ((Rels.cons (Rels.nil _) (HP7.out.at_ (b := brw) (c := crw) (L := rwL g) (.head _))))
  clear HP7
  generalize W7.alloc (.cells #[pv brw] 43) = W8 at *
  generalize W7.heap.size = s8 at *
  clear hHeld
  refine hK.out _ _ ⟨(HP8.out.fx.cell rfl), (HP8.out.fx.cell rfl)⟩ (fun hHeld => ?_)
  clear hK K
  try simp only [zz]
  refine wpAnyH_ready (rs := [14]) (by kernel_rfl) (by simp) ?_
  refine rdy rfl (fun K hK => ?_) AllReadyH.nil
  simp only [z1, z2, z3]
  go_simp
  refine (HP8.out.calls_rel (acL g) (rcChain_named (bsa) (csa) s8 (scI g) [(brw, crw, rwL g)] [rwL g] (map3_cons (map3_nil)) _ (HP8.out.at_ (.tail _ (.tail _ (.tail _ (.head _))))) HLq_8.out (by simp) (HT.out.step' HP8.out.low)) (acL_eq ..)).mono ?_
  rintro e W9 ⟨bac, cac, rfl, HP9, HB9⟩
  clear HP8 HB9
  clear HLq_8
  clear hHeld
  refine hK.out _ _ ⟨(HP9.out.fx.cell rfl), (HP9.out.fx.cell rfl)⟩ (fun hHeld => ?_)
  clear hK K
  try simp only [zz]
  refine tk 15 rfl ?_; simp only [zz]
  refine wpAnyH_done (by kernel_rfl) ?_ _
  clear hHeld
  go_upto_region 2 with fail
  have HP10 := hid_of HP9.out.drew
  clear HP9
  refine wp_region_held_drew (S := fun W => W.cell? ⟨w.heap.size, 12, none⟩ = some (.slice (some ⟨bf, 0, none⟩) g.evs.length g.evs.length)) (by kernel_rfl) (HP10.out.fx.cell rfl) (fun hHeld => ?_)
  generalize W9.drew = W10 at *
  refine tk 0 rfl ?_; simp only [zz]
  refine tk 3 rfl ?_; simp only [zz]
  refine tk 4 rfl ?_; simp only [zz]
  refine tk 5 rfl ?_; simp only [zz]
  refine wpAnyH_ready (rs := [1]) (by kernel_rfl) (by simp) ?_
  refine rdy rfl (fun K hK => ?_) AllReadyH.nil
  simp only [z1, z2, z3]
  refine op_build #[(0, .int .i64 5)] (by kernel_rfl) (bi1_run 5 _) ?_
  have HP11 := hid_of (HP10.out.alloc (.cells #[.int .i64 5] 3))
  have HI11 : Hid (IntsR (W10.alloc (.cells #[.int .i64 5] 3)) (.slice (some ⟨W10.heap.size, 0, none⟩) 1 1) [5]) := ints_at W10 [5]
  clear HP10
  generalize W10.alloc (.cells #[.int .i64 5] 3) = W11 at *
  generalize W10.heap.size = s11 at *
  clear hHeld
  refine hK.out _ _ (HP11.out.fx.cell rfl) (fun hHeld => ?_)
  clear hK K
  try simp only [zz]
  refine wpAnyH_ready (rs := [2]) (by kernel_rfl) (by simp) ?_
  refine rdy rfl (fun K hK => ?_) AllReadyH.nil
  simp only [z1, z2, z3]
  go_simp
  refine (HP11.out.calls_made (scI g) (rcWith_calls m _ g _ [5] _ (H0.out.below HP11.out.low) (mo_gs HP11.out.mo) HI11.out (by decide) (HT.out.step' HP11.out.low)) (rfl)).mono ?_
  rintro e W12 ⟨bsf, csf, rfl, HP12, HB12⟩
  clear HP11 HB12
  clear HI11
  clear hHeld
  refine hK.out _ _ (HP12.out.fx.cell rfl) (fun hHeld => ?_)
  clear hK K
  try simp only [zz]
  refine wpAnyH_ready (rs := [6]) (by kernel_rfl) (by simp) ?_
  refine rdy rfl (fun K hK => ?_) AllReadyH.nil
  simp only [z1, z2, z3]
  go_simp
  refine (HP12.out.calls_made (feI g) (rcOnly_calls m g.evs.length k1 p1 _ (kndL g 3) W12 (HP12.out.mo.cell rfl) (knd_set HP12.out.fe) (HT.out.step' HP12.out.low)) (rfl)).mono ?_
  rintro e W13 ⟨bfe, cfe, rfl, HP13, HB13⟩
  clear HP12 HB13
  clear hHeld
  refine hK.out _ _ (HP13.out.fx.cell rfl) (fun hHeld => ?_)
  clear hK K
  try simp only [zz]
  refine wpAnyH_ready (rs := [7]) (by kernel_rfl) (by simp) ?_
  refine rdy rfl (fun K hK => ?_) AllReadyH.nil
  simp only [z1, z2, z3]
  refine op_build #[(0, pv bfe)] (by kernel_rfl) (bs1_run bfe _) ?_
  have HP14 := hid_of (HP13.out.alloc (.cells #[pv bfe] 43))
  have HLp_14 : Hid (RelsAt (W13.alloc (.cells #[pv bfe] 43)) W13.heap.size [(bfe, cfe, feI g)]) := rels_at [(bfe, cfe, feI g)] ((Rels.cons (Rels.nil _) (HP13.out.at_ (b := bfe) (c := cfe) (L := feI g) (.head _))))
  clear HP13
  generalize W13.alloc (.cells #[pv bfe] 43) = W14 at *
  generalize W13.heap.size = s14 at *
  clear hHeld
  refine hK.out _ _ (HP14.out.fx.cell rfl) (fun hHeld => ?_)
  clear hK K
  try simp only [zz]
  refine wpAnyH_ready (rs := [8]) (by kernel_rfl) (by simp) ?_
  refine rdy rfl (fun K hK => ?_) AllReadyH.nil
  simp only [z1, z2, z3]
  go_simp
  refine (HP14.out.calls_rel (fsL g) (rcChain_named (bsf) (csf) s14 (scI g) [(bfe, cfe, feI g)] [feI g] (map3_cons (map3_nil)) _ (HP14.out.at_ (.tail _ (.head _))) HLp_14.out (by simp) (HT.out.step' HP14.out.low)) (fsL_eq ..)).mono ?_
  rintro e W15 ⟨bfs, cfs, rfl, HP15, HB15⟩
  clear HP14 HB15
  clear HLp_14
  clear hHeld
  refine hK.out _ _ (HP15.out.fx.cell rfl) (fun hHeld => ?_)
  clear hK K
  try simp only [zz]
  refine tk 9 rfl ?_; simp only [zz]
  refine wpAnyH_done (by kernel_rfl) ?_ _
  clear hHeld
  have y0 : W15.cell? ⟨w.heap.size, 0, none⟩ = some (pv (bs 0)) := HP15.out.fx.cell rfl
  have y5 : W15.cell? ⟨w.heap.size, 5, none⟩ = some (pv (bs 5)) := HP15.out.fx.cell rfl
  go_wp2_with fail
  clear y0 y5
  refine (HP15.out.calls_made (apL Ls) (Minus_calls (bs 0) (cs 0) (bs 5) (cs 5) (Ls 0) (Ls 5) _ (HP15.out.at_ (.tail _ (.tail _ (.tail _ (.tail _ (.tail _ (.tail _ (.tail _ (.tail _ (.head _)))))))))) (HP15.out.at_ (.tail _ (.tail _ (.tail _ (.tail _ (.tail _ (.tail _ (.tail _ (.tail _ (.tail _ (.tail _ (.tail _ (.head _)))))))))))))) (rfl)).mono ?_
  rintro e W16 ⟨bap, cap, rfl, HP16, HB16⟩
  clear HP15 HB16
  have y2 : W16.cell? ⟨m, 23, none⟩ = some (pv bhb) := (by rw [← HR2.out]; exact HP16.out.mo.cell rfl)
  go_wp2_with fail
  clear y2
  refine (HP16.out.calls_made (optL H) (Opt_calls (bhb) (chb) (H) _ (HP16.out.at_ (.tail _ (.tail _ (.tail _ (.tail _ (.tail _ (.tail _ (.tail _ (.tail _ (.tail _ (.tail _ (.tail _ (.tail _ (.tail _ (.head _)))))))))))))))) (rfl)).mono ?_
  rintro e W17 ⟨boh, coh, rfl, HP17, HB17⟩
  clear HP16 HB17
  go_upto_region 5 with fail
  go_cut [46] (fun vx wx => ∃ bscb cscb, Hid (Hp w0 w m w.heap.size ⟨.slice p1 g.evs.length k1, Vr, Vc, Vm, Va, Vd, Vt⟩ g bs br bw bf (updR (r) 4 (pv bscb)) [(bscb, cscb, scbL Ls H), (boh, coh, optL H), (bap, cap, apL Ls), (bfs, cfs, fsL g), (bfe, cfe, feI g), (bsf, csf, scI g), (bac, cac, acL g), (brw, crw, rwL g), (bwr, cwr, wrI g), (brd, crd, rdI g), (bsa, csa, scI g), (bs 0, cs 0, Ls 0), (bs 2, cs 2, Ls 2), (bs 3, cs 3, Ls 3), (bs 5, cs 5, Ls 5), (bhb, chb, H), (beco, ceco, C)] wx))
  case first => as_aux_lemma =>
    have HP18 := hid_of HP17.out.drew
    clear HP17
    refine wp_region_held_drew (S := fun W => W.cell? ⟨w.heap.size, 0, none⟩ = some (pv (bs 0)) ∧ W.cell? ⟨w.heap.size, 5, none⟩ = some (pv (bs 5)) ∧ W.cell? ⟨w.heap.size, 2, none⟩ = some (pv (bs 2)) ∧ W.cell? ⟨w.heap.size, 3, none⟩ = some (pv (bs 3)) ∧ W.cell? ⟨m, 23, none⟩ = some (pv bhb)) (by kernel_rfl) ⟨(HP18.out.fx.cell rfl), (HP18.out.fx.cell rfl), (HP18.out.fx.cell rfl), (HP18.out.fx.cell rfl), (by rw [← HR2.out]; exact HP18.out.mo.cell rfl)⟩ (fun hHeld => ?_)
    generalize W17.drew = W18 at *
    refine tk 0 rfl ?_; simp only [zz]
    refine tk 1 rfl ?_; simp only [zz]
    refine tk 2 rfl ?_; simp only [zz]
    refine tk 3 rfl ?_; simp only [zz]
    refine tk 4 rfl ?_; simp only [zz]
    refine tk 5 rfl ?_; simp only [zz]
    refine tk 6 rfl ?_; simp only [zz]
    refine tk 7 rfl ?_; simp only [zz]
    refine tk 8 rfl ?_; simp only [zz]
    refine tk 9 rfl ?_; simp only [zz]
    refine tk 12 rfl ?_; simp only [zz]
    refine tk 13 rfl ?_; simp only [zz]
    refine tk 14 rfl ?_; simp only [zz]
    refine tk 15 rfl ?_; simp only [zz]
    refine tk 16 rfl ?_; simp only [zz]
    refine tk 17 rfl ?_; simp only [zz]
    refine tk 18 rfl ?_; simp only [zz]
    refine tk 20 rfl ?_; simp only [zz]
    refine tk 21 rfl ?_; simp only [zz]
    refine tk 22 rfl ?_; simp only [zz]
    refine tk 23 rfl ?_; simp only [zz]
    refine wpAnyH_ready (rs := [10]) (by kernel_rfl) (by simp) ?_
    refine rdy rfl (fun K hK => ?_) AllReadyH.nil
    simp only [z1, z2, z3]
    refine op_build #[(0, pv bhb), (1, pv bap)] (by kernel_rfl) (bs2_run bhb bap _) ?_
    have HP19 := hid_of (HP18.out.alloc (.cells #[pv bhb, pv bap] 43))
    have HLp_19 : Hid (RelsAt (W18.alloc (.cells #[pv bhb, pv bap] 43)) W18.heap.size [(bhb, chb, H), (bap, cap, apL Ls)]) := rels_at [(bhb, chb, H), (bap, cap, apL Ls)] ((Rels.cons (Rels.cons (Rels.nil _) (HP18.out.at_ (b := bap) (c := cap) (L := apL Ls) (.tail _ (.head _)))) (HP18.out.at_ (b := bhb) (c := chb) (L := H) (.tail _ (.tail _ (.tail _ (.tail _ (.tail _ (.tail _ (.tail _ (.tail _ (.tail _ (.tail _ (.tail _ (.tail _ (.tail _ (.tail _ (.head _))))))))))))))))))
    clear HP18
    generalize W18.alloc (.cells #[pv bhb, pv bap] 43) = W19 at *
    generalize W18.heap.size = s19 at *
    clear hHeld
    refine hK.out _ _ ⟨(HP19.out.fx.cell rfl), (HP19.out.fx.cell rfl), (HP19.out.fx.cell rfl), (HP19.out.fx.cell rfl), (by rw [← HR2.out]; exact HP19.out.mo.cell rfl)⟩ (fun hHeld => ?_)
    clear hK K
    try simp only [zz]
    refine wpAnyH_ready (rs := [11]) (by kernel_rfl) (by simp) ?_
    refine rdy rfl (fun K hK => ?_) AllReadyH.nil
    simp only [z1, z2, z3]
    go_simp
    refine (HP19.out.calls_rel (ahL Ls H) (rcChain_named (bap) (cap) s19 (apL Ls) [(bhb, chb, H), (bap, cap, apL Ls)] [H, apL Ls] (map3_cons (map3_cons (map3_nil))) _ (HP19.out.at_ (.tail _ (.head _))) HLp_19.out (by simp) (HT.out.step' HP19.out.low)) (ahL_eq ..)).mono ?_
    rintro e W20 ⟨bah, cah, rfl, HP20, HB20⟩
    clear HP19 HB20
    clear HLp_19
    clear hHeld
    refine hK.out _ _ ⟨(HP20.out.fx.cell rfl), (HP20.out.fx.cell rfl), (HP20.out.fx.cell rfl), (HP20.out.fx.cell rfl), (by rw [← HR2.out]; exact HP20.out.mo.cell rfl)⟩ (fun hHeld => ?_)
    clear hK K
    try simp only [zz]
    refine wpAnyH_ready (rs := [19]) (by kernel_rfl) (by simp) ?_
    refine rdy rfl (fun K hK => ?_) AllReadyH.nil
    simp only [z1, z2, z3]
    go_simp
    refine (HP20.out.calls_made (hsL Ls H) (Inter_calls (bhb) (chb) (bs 5) (cs 5) (H) (Ls 5) _ (HP20.out.at_ (.tail _ (.tail _ (.tail _ (.tail _ (.tail _ (.tail _ (.tail _ (.tail _ (.tail _ (.tail _ (.tail _ (.tail _ (.tail _ (.tail _ (.tail _ (.head _))))))))))))))))) (HP20.out.at_ (.tail _ (.tail _ (.tail _ (.tail _ (.tail _ (.tail _ (.tail _ (.tail _ (.tail _ (.tail _ (.tail _ (.tail _ (.tail _ (.tail _ (.head _))))))))))))))))) (rfl)).mono ?_
    rintro e W21 ⟨bhs, chs, rfl, HP21, HB21⟩
    clear HP20 HB21
    clear hHeld
    refine hK.out _ _ ⟨(HP21.out.fx.cell rfl), (HP21.out.fx.cell rfl), (HP21.out.fx.cell rfl), (HP21.out.fx.cell rfl), (by rw [← HR2.out]; exact HP21.out.mo.cell rfl)⟩ (fun hHeld => ?_)
    clear hK K
    try simp only [zz]
    refine wpAnyH_ready (rs := [24]) (by kernel_rfl) (by simp) ?_
    refine rdy rfl (fun K hK => ?_) AllReadyH.nil
    simp only [z1, z2, z3]
    refine op_build #[(0, pv (bs 0)), (1, pv bah), (2, pv bhs), (3, pv (bs 2)), (4, pv (bs 3))] (by kernel_rfl) (bs5_run (bs 0) bah bhs (bs 2) (bs 3) _) ?_
    have HP22 := hid_of (HP21.out.alloc (.cells #[pv (bs 0), pv bah, pv bhs, pv (bs 2), pv (bs 3)] 43))
    have HLq_22 : Hid (RelsAt (W21.alloc (.cells #[pv (bs 0), pv bah, pv bhs, pv (bs 2), pv (bs 3)] 43)) W21.heap.size [(bs 0, cs 0, Ls 0), (bah, cah, ahL Ls H), (bhs, chs, hsL Ls H), (bs 2, cs 2, Ls 2), (bs 3, cs 3, Ls 3)]) := rels_at [(bs 0, cs 0, Ls 0), (bah, cah, ahL Ls H), (bhs, chs, hsL Ls H), (bs 2, cs 2, Ls 2), (bs 3, cs 3, Ls 3)] ((Rels.cons (Rels.cons (Rels.cons (Rels.cons (Rels.cons (Rels.nil _) (HP21.out.at_ (b := bs 3) (c := cs 3) (L := Ls 3) (.tail _ (.tail _ (.tail _ (.tail _ (.tail _ (.tail _ (.tail _ (.tail _ (.tail _ (.tail _ (.tail _ (.tail _ (.tail _ (.tail _ (.head _))))))))))))))))) (HP21.out.at_ (b := bs 2) (c := cs 2) (L := Ls 2) (.tail _ (.tail _ (.tail _ (.tail _ (.tail _ (.tail _ (.tail _ (.tail _ (.tail _ (.tail _ (.tail _ (.tail _ (.tail _ (.head _)))))))))))))))) (HP21.out.at_ (b := bhs) (c := chs) (L := hsL Ls H) (.head _))) (HP21.out.at_ (b := bah) (c := cah) (L := ahL Ls H) (.tail _ (.head _)))) (HP21.out.at_ (b := bs 0) (c := cs 0) (L := Ls 0) (.tail _ (.tail _ (.tail _ (.tail _ (.tail _ (.tail _ (.tail _ (.tail _ (.tail _ (.tail _ (.tail _ (.tail _ (.head _))))))))))))))))
    clear HP21
    generalize W21.alloc (.cells #[pv (bs 0), pv bah, pv bhs, pv (bs 2), pv (bs 3)] 43) = W22 at *
    generalize W21.heap.size = s22 at *
    clear hHeld
    refine hK.out _ _ ⟨(HP22.out.fx.cell rfl), (HP22.out.fx.cell rfl), (HP22.out.fx.cell rfl), (HP22.out.fx.cell rfl), (by rw [← HR2.out]; exact HP22.out.mo.cell rfl)⟩ (fun hHeld => ?_)
    clear hK K
    try simp only [zz]
    refine wpAnyH_ready (rs := [25]) (by kernel_rfl) (by simp) ?_
    refine rdy rfl (fun K hK => ?_) AllReadyH.nil
    simp only [z1, z2, z3]
    go_simp
    refine (HP22.out.calls_made (scbL Ls H) (Union_named s22 [(bs 0, cs 0, Ls 0), (bah, cah, ahL Ls H), (bhs, chs, hsL Ls H), (bs 2, cs 2, Ls 2), (bs 3, cs 3, Ls 3)] [Ls 0, ahL Ls H, hsL Ls H, Ls 2, Ls 3] (map3_cons (map3_cons (map3_cons (map3_cons (map3_cons (map3_nil)))))) _ HLq_22.out (by simp)) (scbL_eq ..)).mono ?_
    rintro e W23 ⟨bscb, cscb, rfl, HP23, HB23⟩
    clear HP22 HB23
    clear HLq_22
    clear hHeld
    refine hK.out _ _ ⟨(HP23.out.fx.cell rfl), (HP23.out.fx.cell rfl), (HP23.out.fx.cell rfl), (HP23.out.fx.cell rfl), (by rw [← HR2.out]; exact HP23.out.mo.cell rfl)⟩ (fun hHeld => ?_)
    clear hK K
    try simp only [zz]
    refine tk 26 rfl ?_; simp only [zz]
    refine tk 27 rfl ?_; simp only [zz]
    refine tk 28 rfl ?_; simp only [zz]
    refine wpAnyH_ready (rs := [29]) (by kernel_rfl) (by simp) ?_
    refine rdy rfl (fun K hK => ?_) AllReadyH.nil
    have HP24 := hid_of (HP23.out.put hm0 4 (by omega) (pv bscb))
    have cs0 := HP23.out.mo.cell (j := 25) (v := (r) 4) rfl
    have fz0 := HP23.out.mo.frozen 25
    simp only [z1, z2, z3]
    go_simp
    clear cs0 fz0 HP23
    clear hHeld
    refine hK.out _ _ ⟨(HP24.out.fx.cell rfl), (HP24.out.fx.cell rfl), (HP24.out.fx.cell rfl), (HP24.out.fx.cell rfl), (by rw [← HR2.out]; exact HP24.out.mo.cell rfl)⟩ (fun hHeld => ?_)
    clear hK K
    try simp only [zz]
    refine wpAnyH_done (by kernel_rfl) ?_ _
    clear hHeld
    go_wp2_with fail
    go_meet
    case rel => exact ⟨bscb, cscb, ⟨HP24.out.low, HP24.out.tch, HP24.out.mo, HP24.out.fx, HP24.out.rd, HP24.out.wt, HP24.out.fe, (Rels.cons (Rels.cons (Rels.cons (Rels.cons (Rels.cons (Rels.cons (Rels.cons (Rels.cons (Rels.cons (Rels.cons (Rels.cons (Rels.cons (Rels.cons (Rels.cons (Rels.cons (Rels.cons (Rels.cons (Rels.nil _) (HP24.out.at_ (b := beco) (c := ceco) (L := C) (.tail _ (.tail _ (.tail _ (.tail _ (.tail _ (.tail _ (.tail _ (.tail _ (.tail _ (.tail _ (.tail _ (.tail _ (.tail _ (.tail _ (.tail _ (.tail _ (.tail _ (.tail _ (.head _))))))))))))))))))))) (HP24.out.at_ (b := bhb) (c := chb) (L := H) (.tail _ (.tail _ (.tail _ (.tail _ (.tail _ (.tail _ (.tail _ (.tail _ (.tail _ (.tail _ (.tail _ (.tail _ (.tail _ (.tail _ (.tail _ (.tail _ (.tail _ (.head _)))))))))))))))))))) (HP24.out.at_ (b := bs 5) (c := cs 5) (L := Ls 5) (.tail _ (.tail _ (.tail _ (.tail _ (.tail _ (.tail _ (.tail _ (.tail _ (.tail _ (.tail _ (.tail _ (.tail _ (.tail _ (.tail _ (.tail _ (.tail _ (.head _))))))))))))))))))) (HP24.out.at_ (b := bs 3) (c := cs 3) (L := Ls 3) (.tail _ (.tail _ (.tail _ (.tail _ (.tail _ (.tail _ (.tail _ (.tail _ (.tail _ (.tail _ (.tail _ (.tail _ (.tail _ (.tail _ (.tail _ (.head _)))))))))))))))))) (HP24.out.at_ (b := bs 2) (c := cs 2) (L := Ls 2) (.tail _ (.tail _ (.tail _ (.tail _ (.tail _ (.tail _ (.tail _ (.tail _ (.tail _ (.tail _ (.tail _ (.tail _ (.tail _ (.tail _ (.head _))))))))))))))))) (HP24.out.at_ (b := bs 0) (c := cs 0) (L := Ls 0) (.tail _ (.tail _ (.tail _ (.tail _ (.tail _ (.tail _ (.tail _ (.tail _ (.tail _ (.tail _ (.tail _ (.tail _ (.tail _ (.head _)))))))))))))))) (HP24.out.at_ (b := bsa) (c := csa) (L := scI g) (.tail _ (.tail _ (.tail _ (.tail _ (.tail _ (.tail _ (.tail _ (.tail _ (.tail _ (.tail _ (.tail _ (.tail _ (.head _))))))))))))))) (HP24.out.at_ (b := brd) (c := crd) (L := rdI g) (.tail _ (.tail _ (.tail _ (.tail _ (.tail _ (.tail _ (.tail _ (.tail _ (.tail _ (.tail _ (.tail _ (.head _)))))))))))))) (HP24.out.at_ (b := bwr) (c := cwr) (L := wrI g) (.tail _ (.tail _ (.tail _ (.tail _ (.tail _ (.tail _ (.tail _ (.tail _ (.tail _ (.tail _ (.head _))))))))))))) (HP24.out.at_ (b := brw) (c := crw) (L := rwL g) (.tail _ (.tail _ (.tail _ (.tail _ (.tail _ (.tail _ (.tail _ (.tail _ (.tail _ (.head _)))))))))))) (HP24.out.at_ (b := bac) (c := cac) (L := acL g) (.tail _ (.tail _ (.tail _ (.tail _ (.tail _ (.tail _ (.tail _ (.tail _ (.head _))))))))))) (HP24.out.at_ (b := bsf) (c := csf) (L := scI g) (.tail _ (.tail _ (.tail _ (.tail _ (.tail _ (.tail _ (.tail _ (.head _)))))))))) (HP24.out.at_ (b := bfe) (c := cfe) (L := feI g) (.tail _ (.tail _ (.tail _ (.tail _ (.tail _ (.tail _ (.head _))))))))) (HP24.out.at_ (b := bfs) (c := cfs) (L := fsL g) (.tail _ (.tail _ (.tail _ (.tail _ (.tail _ (.head _)))))))) (HP24.out.at_ (b := bap) (c := cap) (L := apL Ls) (.tail _ (.tail _ (.tail _ (.tail _ (.head _))))))) (HP24.out.at_ (b := boh) (c := coh) (L := optL H) (.tail _ (.tail _ (.tail _ (.head _)))))) (HP24.out.at_ (b := bscb) (c := cscb) (L := scbL Ls H) (.head _)))⟩⟩
  case rest =>
  obtain ⟨bscb, cscb, HPxscb⟩ := hcut
  generalize hwq : wc = wxscb at *
  clear hwq HP17
  go_upto_region 6 with fail
  go_cut [75] (fun vx wx => ∃ bbase cbase, Hid (Hp w0 w m w.heap.size ⟨.slice p1 g.evs.length k1, Vr, Vc, Vm, Va, Vd, Vt⟩ g bs br bw bf (updR (updR (r) 4 (pv bscb)) 5 (pv bbase)) [(bbase, cbase, baseL g Ls H), (bscb, cscb, scbL Ls H), (boh, coh, optL H), (bap, cap, apL Ls), (bfs, cfs, fsL g), (bfe, cfe, feI g), (bsf, csf, scI g), (bac, cac, acL g), (brw, crw, rwL g), (bwr, cwr, wrI g), (brd, crd, rdI g), (bsa, csa, scI g), (bs 0, cs 0, Ls 0), (bs 2, cs 2, Ls 2), (bs 3, cs 3, Ls 3), (bs 5, cs 5, Ls 5), (bhb, chb, H), (beco, ceco, C)] wx))
  case first => as_aux_lemma =>
    have HP18 := hid_of HPxscb.out.drew
    clear HPxscb
    refine wp_region_held_drew (S := fun W => W.cell? ⟨m, 25, none⟩ = some (pv bscb)) (by kernel_rfl) (HP18.out.mo.cell rfl) (fun hHeld => ?_)
    generalize wxscb.drew = W18 at *
    refine tk 0 rfl ?_; simp only [zz]
    refine tk 1 rfl ?_; simp only [zz]
    refine tk 2 rfl ?_; simp only [zz]
    refine tk 3 rfl ?_; simp only [zz]
    refine tk 8 rfl ?_; simp only [zz]
    refine tk 9 rfl ?_; simp only [zz]
    refine tk 10 rfl ?_; simp only [zz]
    refine tk 11 rfl ?_; simp only [zz]
    refine tk 12 rfl ?_; simp only [zz]
    refine tk 13 rfl ?_; simp only [zz]
    refine tk 14 rfl ?_; simp only [zz]
    refine tk 15 rfl ?_; simp only [zz]
    refine wpAnyH_ready (rs := [4, 16]) (by kernel_rfl) (by simp) ?_
    refine rdy rfl (fun K hK => ?_) (rdy rfl (fun K hK => ?_) AllReadyH.nil)
    · as_aux_lemma =>
        simp only [z1, z2, z3]
        refine op_build #[(0, pv boh)] (by kernel_rfl) (bs1_run boh _) ?_
        have HP19 := hid_of (HP18.out.alloc (.cells #[pv boh] 43))
        have HLp_19 : Hid (RelsAt (W18.alloc (.cells #[pv boh] 43)) W18.heap.size [(boh, coh, optL H)]) := rels_at [(boh, coh, optL H)] ((Rels.cons (Rels.nil _) (HP18.out.at_ (b := boh) (c := coh) (L := optL H) (.tail _ (.head _)))))
        clear HP18
        generalize W18.alloc (.cells #[pv boh] 43) = W19 at *
        generalize W18.heap.size = s19 at *
        clear hHeld
        refine hK.out _ _ (HP19.out.mo.cell rfl) (fun hHeld => ?_)
        clear hK K
        try simp only [zz]
        refine wpAnyH_ready (rs := [5, 16]) (by kernel_rfl) (by simp) ?_
        refine rdy rfl (fun K hK => ?_) (rdy rfl (fun K hK => ?_) AllReadyH.nil)
        · as_aux_lemma =>
            simp only [z1, z2, z3]
            go_simp
            refine (HP19.out.calls_rel (fhL g H) (rcChain_named (bfs) (cfs) s19 (fsL g) [(boh, coh, optL H)] [optL H] (map3_cons (map3_nil)) _ (HP19.out.at_ (.tail _ (.tail _ (.tail _ (.head _))))) HLp_19.out (by simp) (HT.out.step' HP19.out.low)) (fhL_eq ..)).mono ?_
            rintro e W20 ⟨bfh, cfh, rfl, HP20, HB20⟩
            clear HP19 HB20
            clear HLp_19
            clear hHeld
            refine hK.out _ _ (HP20.out.mo.cell rfl) (fun hHeld => ?_)
            clear hK K
            try simp only [zz]
            refine wpAnyH_ready (rs := [6, 16]) (by kernel_rfl) (by simp) ?_
            refine rdy rfl (fun K hK => ?_) (rdy rfl (fun K hK => ?_) AllReadyH.nil)
            · as_aux_lemma =>
                simp only [z1, z2, z3]
                refine op_build #[(0, pv bac), (1, pv bfh)] (by kernel_rfl) (bs2_run bac bfh _) ?_
                have HP21 := hid_of (HP20.out.alloc (.cells #[pv bac, pv bfh] 43))
                have HLq_21 : Hid (RelsAt (W20.alloc (.cells #[pv bac, pv bfh] 43)) W20.heap.size [(bac, cac, acL g), (bfh, cfh, fhL g H)]) := rels_at [(bac, cac, acL g), (bfh, cfh, fhL g H)] ((Rels.cons (Rels.cons (Rels.nil _) (HP20.out.at_ (b := bfh) (c := cfh) (L := fhL g H) (.head _))) (HP20.out.at_ (b := bac) (c := cac) (L := acL g) (.tail _ (.tail _ (.tail _ (.tail _ (.tail _ (.tail _ (.tail _ (.head _)))))))))))
                clear HP20
                generalize W20.alloc (.cells #[pv bac, pv bfh] 43) = W21 at *
                generalize W20.heap.size = s21 at *
                clear hHeld
                refine hK.out _ _ (HP21.out.mo.cell rfl) (fun hHeld => ?_)
                clear hK K
                try simp only [zz]
                refine wpAnyH_ready (rs := [7, 16]) (by kernel_rfl) (by simp) ?_
                refine rdy rfl (fun K hK => ?_) (rdy rfl (fun K hK => ?_) AllReadyH.nil)
                · as_aux_lemma =>
                    simp only [z1, z2, z3]
                    go_simp
                    refine (HP21.out.calls_made (begL g H) (Union_named s21 [(bac, cac, acL g), (bfh, cfh, fhL g H)] [acL g, fhL g H] (map3_cons (map3_cons (map3_nil))) _ HLq_21.out (by simp)) (begL_eq ..)).mono ?_
                    rintro e W22 ⟨bbeg, cbeg, rfl, HP22, HB22⟩
                    clear HP21 HB22
                    clear HLq_21
                    clear hHeld
                    refine hK.out _ _ (HP22.out.mo.cell rfl) (fun hHeld => ?_)
                    clear hK K
                    try simp only [zz]
                    refine wpAnyH_ready (rs := [16]) (by kernel_rfl) (by simp) ?_
                    refine rdy rfl (fun K hK => ?_) AllReadyH.nil
                    simp only [z1, z2, z3]
                    refine op_build #[(0, pv bfs)] (by kernel_rfl) (bs1_run bfs _) ?_
                    have HP23 := hid_of (HP22.out.alloc (.cells #[pv bfs] 43))
                    have HLu_23 : Hid (RelsAt (W22.alloc (.cells #[pv bfs] 43)) W22.heap.size [(bfs, cfs, fsL g)]) := rels_at [(bfs, cfs, fsL g)] ((Rels.cons (Rels.nil _) (HP22.out.at_ (b := bfs) (c := cfs) (L := fsL g) (.tail _ (.tail _ (.tail _ (.tail _ (.tail _ (.head _)))))))))
                    clear HP22
                    generalize W22.alloc (.cells #[pv bfs] 43) = W23 at *
                    generalize W22.heap.size = s23 at *
                    clear hHeld
                    refine hK.out _ _ (HP23.out.mo.cell rfl) (fun hHeld => ?_)
                    clear hK K
                    try simp only [zz]
                    refine wpAnyH_ready (rs := [17]) (by kernel_rfl) (by simp) ?_
                    refine rdy rfl (fun K hK => ?_) AllReadyH.nil
                    simp only [z1, z2, z3]
                    go_simp
                    refine (HP23.out.calls_rel (hfL g H) (rcChain_named (boh) (coh) s23 (optL H) [(bfs, cfs, fsL g)] [fsL g] (map3_cons (map3_nil)) _ (HP23.out.at_ (.tail _ (.tail _ (.tail _ (.head _))))) HLu_23.out (by simp) (HT.out.step' HP23.out.low)) (hfL_eq ..)).mono ?_
                    rintro e W24 ⟨bhf, chf, rfl, HP24, HB24⟩
                    clear HP23 HB24
                    clear HLu_23
                    clear hHeld
                    refine hK.out _ _ (HP24.out.mo.cell rfl) (fun hHeld => ?_)
                    clear hK K
                    try simp only [zz]
                    refine wpAnyH_ready (rs := [18]) (by kernel_rfl) (by simp) ?_
                    refine rdy rfl (fun K hK => ?_) AllReadyH.nil
                    simp only [z1, z2, z3]
                    refine op_build #[(0, pv bac), (1, pv bhf)] (by kernel_rfl) (bs2_run bac bhf _) ?_
                    have HP25 := hid_of (HP24.out.alloc (.cells #[pv bac, pv bhf] 43))
                    have HLv_25 : Hid (RelsAt (W24.alloc (.cells #[pv bac, pv bhf] 43)) W24.heap.size [(bac, cac, acL g), (bhf, chf, hfL g H)]) := rels_at [(bac, cac, acL g), (bhf, chf, hfL g H)] ((Rels.cons (Rels.cons (Rels.nil _) (HP24.out.at_ (b := bhf) (c := chf) (L := hfL g H) (.head _))) (HP24.out.at_ (b := bac) (c := cac) (L := acL g) (.tail _ (.tail _ (.tail _ (.tail _ (.tail _ (.tail _ (.tail _ (.tail _ (.tail _ (.head _)))))))))))))
                    clear HP24
                    generalize W24.alloc (.cells #[pv bac, pv bhf] 43) = W25 at *
                    generalize W24.heap.size = s25 at *
                    clear hHeld
                    refine hK.out _ _ (HP25.out.mo.cell rfl) (fun hHeld => ?_)
                    clear hK K
                    try simp only [zz]
                    refine wpAnyH_ready (rs := [19]) (by kernel_rfl) (by simp) ?_
                    refine rdy rfl (fun K hK => ?_) AllReadyH.nil
                    simp only [z1, z2, z3]
                    go_simp
                    refine (HP25.out.calls_made (endL g H) (Union_named s25 [(bac, cac, acL g), (bhf, chf, hfL g H)] [acL g, hfL g H] (map3_cons (map3_cons (map3_nil))) _ HLv_25.out (by simp)) (endL_eq ..)).mono ?_
                    rintro e W26 ⟨bend, cend, rfl, HP26, HB26⟩
                    clear HP25 HB26
                    clear HLv_25
                    clear hHeld
                    refine hK.out _ _ (HP26.out.mo.cell rfl) (fun hHeld => ?_)
                    clear hK K
                    try simp only [zz]
                    refine wpAnyH_ready (rs := [20]) (by kernel_rfl) (by simp) ?_
                    refine rdy rfl (fun K hK => ?_) AllReadyH.nil
                    simp only [z1, z2, z3]
                    refine op_build #[(0, pv bscb), (1, pv bend)] (by kernel_rfl) (bs2_run bscb bend _) ?_
                    have HP27 := hid_of (HP26.out.alloc (.cells #[pv bscb, pv bend] 43))
                    have HLx_27 : Hid (RelsAt (W26.alloc (.cells #[pv bscb, pv bend] 43)) W26.heap.size [(bscb, cscb, scbL Ls H), (bend, cend, endL g H)]) := rels_at [(bscb, cscb, scbL Ls H), (bend, cend, endL g H)] ((Rels.cons (Rels.cons (Rels.nil _) (HP26.out.at_ (b := bend) (c := cend) (L := endL g H) (.head _))) (HP26.out.at_ (b := bscb) (c := cscb) (L := scbL Ls H) (.tail _ (.tail _ (.tail _ (.tail _ (.head _))))))))
                    clear HP26
                    generalize W26.alloc (.cells #[pv bscb, pv bend] 43) = W27 at *
                    generalize W26.heap.size = s27 at *
                    clear hHeld
                    refine hK.out _ _ (HP27.out.mo.cell rfl) (fun hHeld => ?_)
                    clear hK K
                    try simp only [zz]
                    refine wpAnyH_ready (rs := [21]) (by kernel_rfl) (by simp) ?_
                    refine rdy rfl (fun K hK => ?_) AllReadyH.nil
                    simp only [z1, z2, z3]
                    go_simp
                    refine (HP27.out.calls_rel (baseL g Ls H) (rcChain_named (bbeg) (cbeg) s27 (begL g H) [(bscb, cscb, scbL Ls H), (bend, cend, endL g H)] [scbL Ls H, endL g H] (map3_cons (map3_cons (map3_nil))) _ (HP27.out.at_ (.tail _ (.tail _ (.head _)))) HLx_27.out (by simp) (HT.out.step' HP27.out.low)) (baseL_eq ..)).mono ?_
                    rintro e W28 ⟨bbase, cbase, rfl, HP28, HB28⟩
                    clear HP27 HB28
                    clear HLx_27
                    clear hHeld
                    refine hK.out _ _ (HP28.out.mo.cell rfl) (fun hHeld => ?_)
                    clear hK K
                    try simp only [zz]
                    refine tk 22 rfl ?_; simp only [zz]
                    refine tk 23 rfl ?_; simp only [zz]
                    refine tk 24 rfl ?_; simp only [zz]
                    refine wpAnyH_ready (rs := [25]) (by kernel_rfl) (by simp) ?_
                    refine rdy rfl (fun K hK => ?_) AllReadyH.nil
                    have HP29 := hid_of (HP28.out.put hm0 5 (by omega) (pv bbase))
                    have cs0 := HP28.out.mo.cell (j := 26) (v := (updR (r) 4 (pv bscb)) 5) rfl
                    have fz0 := HP28.out.mo.frozen 26
                    simp only [z1, z2, z3]
                    go_simp
                    clear cs0 fz0 HP28
                    clear hHeld
                    refine hK.out _ _ (HP29.out.mo.cell rfl) (fun hHeld => ?_)
                    clear hK K
                    try simp only [zz]
                    refine wpAnyH_done (by kernel_rfl) ?_ _
                    clear hHeld
                    go_wp2_with fail
                    go_meet
                    case rel => exact ⟨bbase, cbase, ⟨HP29.out.low, HP29.out.tch, HP29.out.mo, HP29.out.fx, HP29.out.rd, HP29.out.wt, HP29.out.fe, (Rels.cons (Rels.cons (Rels.cons (Rels.cons (Rels.cons (Rels.cons (Rels.cons (Rels.cons (Rels.cons (Rels.cons (Rels.cons (Rels.cons (Rels.cons (Rels.cons (Rels.cons (Rels.cons (Rels.cons (Rels.cons (Rels.nil _) (HP29.out.at_ (b := beco) (c := ceco) (L := C) (.tail _ (.tail _ (.tail _ (.tail _ (.tail _ (.tail _ (.tail _ (.tail _ (.tail _ (.tail _ (.tail _ (.tail _ (.tail _ (.tail _ (.tail _ (.tail _ (.tail _ (.tail _ (.tail _ (.tail _ (.tail _ (.head _)))))))))))))))))))))))) (HP29.out.at_ (b := bhb) (c := chb) (L := H) (.tail _ (.tail _ (.tail _ (.tail _ (.tail _ (.tail _ (.tail _ (.tail _ (.tail _ (.tail _ (.tail _ (.tail _ (.tail _ (.tail _ (.tail _ (.tail _ (.tail _ (.tail _ (.tail _ (.tail _ (.head _))))))))))))))))))))))) (HP29.out.at_ (b := bs 5) (c := cs 5) (L := Ls 5) (.tail _ (.tail _ (.tail _ (.tail _ (.tail _ (.tail _ (.tail _ (.tail _ (.tail _ (.tail _ (.tail _ (.tail _ (.tail _ (.tail _ (.tail _ (.tail _ (.tail _ (.tail _ (.tail _ (.head _)))))))))))))))))))))) (HP29.out.at_ (b := bs 3) (c := cs 3) (L := Ls 3) (.tail _ (.tail _ (.tail _ (.tail _ (.tail _ (.tail _ (.tail _ (.tail _ (.tail _ (.tail _ (.tail _ (.tail _ (.tail _ (.tail _ (.tail _ (.tail _ (.tail _ (.tail _ (.head _))))))))))))))))))))) (HP29.out.at_ (b := bs 2) (c := cs 2) (L := Ls 2) (.tail _ (.tail _ (.tail _ (.tail _ (.tail _ (.tail _ (.tail _ (.tail _ (.tail _ (.tail _ (.tail _ (.tail _ (.tail _ (.tail _ (.tail _ (.tail _ (.tail _ (.head _)))))))))))))))))))) (HP29.out.at_ (b := bs 0) (c := cs 0) (L := Ls 0) (.tail _ (.tail _ (.tail _ (.tail _ (.tail _ (.tail _ (.tail _ (.tail _ (.tail _ (.tail _ (.tail _ (.tail _ (.tail _ (.tail _ (.tail _ (.tail _ (.head _))))))))))))))))))) (HP29.out.at_ (b := bsa) (c := csa) (L := scI g) (.tail _ (.tail _ (.tail _ (.tail _ (.tail _ (.tail _ (.tail _ (.tail _ (.tail _ (.tail _ (.tail _ (.tail _ (.tail _ (.tail _ (.tail _ (.head _)))))))))))))))))) (HP29.out.at_ (b := brd) (c := crd) (L := rdI g) (.tail _ (.tail _ (.tail _ (.tail _ (.tail _ (.tail _ (.tail _ (.tail _ (.tail _ (.tail _ (.tail _ (.tail _ (.tail _ (.tail _ (.head _))))))))))))))))) (HP29.out.at_ (b := bwr) (c := cwr) (L := wrI g) (.tail _ (.tail _ (.tail _ (.tail _ (.tail _ (.tail _ (.tail _ (.tail _ (.tail _ (.tail _ (.tail _ (.tail _ (.tail _ (.head _)))))))))))))))) (HP29.out.at_ (b := brw) (c := crw) (L := rwL g) (.tail _ (.tail _ (.tail _ (.tail _ (.tail _ (.tail _ (.tail _ (.tail _ (.tail _ (.tail _ (.tail _ (.tail _ (.head _))))))))))))))) (HP29.out.at_ (b := bac) (c := cac) (L := acL g) (.tail _ (.tail _ (.tail _ (.tail _ (.tail _ (.tail _ (.tail _ (.tail _ (.tail _ (.tail _ (.tail _ (.head _)))))))))))))) (HP29.out.at_ (b := bsf) (c := csf) (L := scI g) (.tail _ (.tail _ (.tail _ (.tail _ (.tail _ (.tail _ (.tail _ (.tail _ (.tail _ (.tail _ (.head _))))))))))))) (HP29.out.at_ (b := bfe) (c := cfe) (L := feI g) (.tail _ (.tail _ (.tail _ (.tail _ (.tail _ (.tail _ (.tail _ (.tail _ (.tail _ (.head _)))))))))))) (HP29.out.at_ (b := bfs) (c := cfs) (L := fsL g) (.tail _ (.tail _ (.tail _ (.tail _ (.tail _ (.tail _ (.tail _ (.tail _ (.head _))))))))))) (HP29.out.at_ (b := bap) (c := cap) (L := apL Ls) (.tail _ (.tail _ (.tail _ (.tail _ (.tail _ (.tail _ (.tail _ (.head _)))))))))) (HP29.out.at_ (b := boh) (c := coh) (L := optL H) (.tail _ (.tail _ (.tail _ (.tail _ (.tail _ (.tail _ (.head _))))))))) (HP29.out.at_ (b := bscb) (c := cscb) (L := scbL Ls H) (.tail _ (.tail _ (.tail _ (.tail _ (.tail _ (.head _)))))))) (HP29.out.at_ (b := bbase) (c := cbase) (L := baseL g Ls H) (.head _)))⟩⟩
                · as_aux_lemma =>
                    simp only [z1, z2, z3]
                    refine op_build #[(0, pv bfs)] (by kernel_rfl) (bs1_run bfs _) ?_
                    have HP22 := hid_of (HP21.out.alloc (.cells #[pv bfs] 43))
                    have HLu_22 : Hid (RelsAt (W21.alloc (.cells #[pv bfs] 43)) W21.heap.size [(bfs, cfs, fsL g)]) := rels_at [(bfs, cfs, fsL g)] ((Rels.cons (Rels.nil _) (HP21.out.at_ (b := bfs) (c := cfs) (L := fsL g) (.tail _ (.tail _ (.tail _ (.tail _ (.head _))))))))
                    have HLq_22 := hid_of (HLq_21.out.below ((Below.refl W21.heap.size W21).alloc (Nat.le_refl _) (.cells #[pv bfs] 43)))
                    clear HLq_21
                    clear HP21
                    generalize W21.alloc (.cells #[pv bfs] 43) = W22 at *
                    generalize W21.heap.size = s22 at *
                    clear hHeld
                    refine hK.out _ _ (HP22.out.mo.cell rfl) (fun hHeld => ?_)
                    clear hK K
                    try simp only [zz]
                    refine wpAnyH_ready (rs := [7]) (by kernel_rfl) (by simp) ?_
                    refine rdy rfl (fun K hK => ?_) AllReadyH.nil
                    simp only [z1, z2, z3]
                    go_simp
                    refine (HP22.out.calls_made (begL g H) (Union_named s21 [(bac, cac, acL g), (bfh, cfh, fhL g H)] [acL g, fhL g H] (map3_cons (map3_cons (map3_nil))) _ HLq_22.out (by simp)) (begL_eq ..)).mono ?_
                    rintro e W23 ⟨bbeg, cbeg, rfl, HP23, HB23⟩
                    have HLu_23 := hid_of (HLu_22.out.below HB23.out)
                    clear HLu_22
                    clear HP22 HB23
                    clear HLq_22
                    clear hHeld
                    refine hK.out _ _ (HP23.out.mo.cell rfl) (fun hHeld => ?_)
                    clear hK K
                    try simp only [zz]
                    refine wpAnyH_ready (rs := [17]) (by kernel_rfl) (by simp) ?_
                    refine rdy rfl (fun K hK => ?_) AllReadyH.nil
                    simp only [z1, z2, z3]
                    go_simp
                    refine (HP23.out.calls_rel (hfL g H) (rcChain_named (boh) (coh) s22 (optL H) [(bfs, cfs, fsL g)] [fsL g] (map3_cons (map3_nil)) _ (HP23.out.at_ (.tail _ (.tail _ (.tail _ (.head _))))) HLu_23.out (by simp) (HT.out.step' HP23.out.low)) (hfL_eq ..)).mono ?_
                    rintro e W24 ⟨bhf, chf, rfl, HP24, HB24⟩
                    clear HP23 HB24
                    clear HLu_23
                    clear hHeld
                    refine hK.out _ _ (HP24.out.mo.cell rfl) (fun hHeld => ?_)
                    clear hK K
                    try simp only [zz]
                    refine wpAnyH_ready (rs := [18]) (by kernel_rfl) (by simp) ?_
                    refine rdy rfl (fun K hK => ?_) AllReadyH.nil
                    simp only [z1, z2, z3]
                    refine op_build #[(0, pv bac), (1, pv bhf)] (by kernel_rfl) (bs2_run bac bhf _) ?_
                    have HP25 := hid_of (HP24.out.alloc (.cells #[pv bac, pv bhf] 43))
                    have HLv_25 : Hid (RelsAt (W24.alloc (.cells #[pv bac, pv bhf] 43)) W24.heap.size [(bac, cac, acL g), (bhf, chf, hfL g H)]) := rels_at [(bac, cac, acL g), (bhf, chf, hfL g H)] ((Rels.cons (Rels.cons (Rels.nil _) (HP24.out.at_ (b := bhf) (c := chf) (L := hfL g H) (.head _))) (HP24.out.at_ (b := bac) (c := cac) (L := acL g) (.tail _ (.tail _ (.tail _ (.tail _ (.tail _ (.tail _ (.tail _ (.tail _ (.tail _ (.head _)))))))))))))
                    clear HP24
                    generalize W24.alloc (.cells #[pv bac, pv bhf] 43) = W25 at *
                    generalize W24.heap.size = s25 at *
                    clear hHeld
                    refine hK.out _ _ (HP25.out.mo.cell rfl) (fun hHeld => ?_)
                    clear hK K
                    try simp only [zz]
                    refine wpAnyH_ready (rs := [19]) (by kernel_rfl) (by simp) ?_
                    refine rdy rfl (fun K hK => ?_) AllReadyH.nil
                    simp only [z1, z2, z3]
                    go_simp
                    refine (HP25.out.calls_made (endL g H) (Union_named s25 [(bac, cac, acL g), (bhf, chf, hfL g H)] [acL g, hfL g H] (map3_cons (map3_cons (map3_nil))) _ HLv_25.out (by simp)) (endL_eq ..)).mono ?_
                    rintro e W26 ⟨bend, cend, rfl, HP26, HB26⟩
                    clear HP25 HB26
                    clear HLv_25
                    clear hHeld
                    refine hK.out _ _ (HP26.out.mo.cell rfl) (fun hHeld => ?_)
                    clear hK K
                    try simp only [zz]
                    refine wpAnyH_ready (rs := [20]) (by kernel_rfl) (by simp) ?_
                    refine rdy rfl (fun K hK => ?_) AllReadyH.nil
                    simp only [z1, z2, z3]
                    refine op_build #[(0, pv bscb), (1, pv bend)] (by kernel_rfl) (bs2_run bscb bend _) ?_
                    have HP27 := hid_of (HP26.out.alloc (.cells #[pv bscb, pv bend] 43))
                    have HLx_27 : Hid (RelsAt (W26.alloc (.cells #[pv bscb, pv bend] 43)) W26.heap.size [(bscb, cscb, scbL Ls H), (bend, cend, endL g H)]) := rels_at [(bscb, cscb, scbL Ls H), (bend, cend, endL g H)] ((Rels.cons (Rels.cons (Rels.nil _) (HP26.out.at_ (b := bend) (c := cend) (L := endL g H) (.head _))) (HP26.out.at_ (b := bscb) (c := cscb) (L := scbL Ls H) (.tail _ (.tail _ (.tail _ (.tail _ (.head _))))))))
                    clear HP26
                    generalize W26.alloc (.cells #[pv bscb, pv bend] 43) = W27 at *
                    generalize W26.heap.size = s27 at *
                    clear hHeld
                    refine hK.out _ _ (HP27.out.mo.cell rfl) (fun hHeld => ?_)
                    clear hK K
                    try simp only [zz]
                    refine wpAnyH_ready (rs := [21]) (by kernel_rfl) (by simp) ?_
                    refine rdy rfl (fun K hK => ?_) AllReadyH.nil
                    simp only [z1, z2, z3]
                    go_simp
                    refine (HP27.out.calls_rel (baseL g Ls H) (rcChain_named (bbeg) (cbeg) s27 (begL g H) [(bscb, cscb, scbL Ls H), (bend, cend, endL g H)] [scbL Ls H, endL g H] (map3_cons (map3_cons (map3_nil))) _ (HP27.out.at_ (.tail _ (.tail _ (.head _)))) HLx_27.out (by simp) (HT.out.step' HP27.out.low)) (baseL_eq ..)).mono ?_
                    rintro e W28 ⟨bbase, cbase, rfl, HP28, HB28⟩
                    clear HP27 HB28
                    clear HLx_27
                    clear hHeld
                    refine hK.out _ _ (HP28.out.mo.cell rfl) (fun hHeld => ?_)
                    clear hK K
                    try simp only [zz]
                    refine tk 22 rfl ?_; simp only [zz]
                    refine tk 23 rfl ?_; simp only [zz]
                    refine tk 24 rfl ?_; simp only [zz]
                    refine wpAnyH_ready (rs := [25]) (by kernel_rfl) (by simp) ?_
                    refine rdy rfl (fun K hK => ?_) AllReadyH.nil
                    have HP29 := hid_of (HP28.out.put hm0 5 (by omega) (pv bbase))
                    have cs0 := HP28.out.mo.cell (j := 26) (v := (updR (r) 4 (pv bscb)) 5) rfl
                    have fz0 := HP28.out.mo.frozen 26
                    simp only [z1, z2, z3]
                    go_simp
                    clear cs0 fz0 HP28
                    clear hHeld
                    refine hK.out _ _ (HP29.out.mo.cell rfl) (fun hHeld => ?_)
                    clear hK K
                    try simp only [zz]
                    refine wpAnyH_done (by kernel_rfl) ?_ _
                    clear hHeld
                    go_wp2_with fail
                    go_meet
                    case rel => exact ⟨bbase, cbase, ⟨HP29.out.low, HP29.out.tch, HP29.out.mo, HP29.out.fx, HP29.out.rd, HP29.out.wt, HP29.out.fe, (Rels.cons (Rels.cons (Rels.cons (Rels.cons (Rels.cons (Rels.cons (Rels.cons (Rels.cons (Rels.cons (Rels.cons (Rels.cons (Rels.cons (Rels.cons (Rels.cons (Rels.cons (Rels.cons (Rels.cons (Rels.cons (Rels.nil _) (HP29.out.at_ (b := beco) (c := ceco) (L := C) (.tail _ (.tail _ (.tail _ (.tail _ (.tail _ (.tail _ (.tail _ (.tail _ (.tail _ (.tail _ (.tail _ (.tail _ (.tail _ (.tail _ (.tail _ (.tail _ (.tail _ (.tail _ (.tail _ (.tail _ (.tail _ (.head _)))))))))))))))))))))))) (HP29.out.at_ (b := bhb) (c := chb) (L := H) (.tail _ (.tail _ (.tail _ (.tail _ (.tail _ (.tail _ (.tail _ (.tail _ (.tail _ (.tail _ (.tail _ (.tail _ (.tail _ (.tail _ (.tail _ (.tail _ (.tail _ (.tail _ (.tail _ (.tail _ (.head _))))))))))))))))))))))) (HP29.out.at_ (b := bs 5) (c := cs 5) (L := Ls 5) (.tail _ (.tail _ (.tail _ (.tail _ (.tail _ (.tail _ (.tail _ (.tail _ (.tail _ (.tail _ (.tail _ (.tail _ (.tail _ (.tail _ (.tail _ (.tail _ (.tail _ (.tail _ (.tail _ (.head _)))))))))))))))))))))) (HP29.out.at_ (b := bs 3) (c := cs 3) (L := Ls 3) (.tail _ (.tail _ (.tail _ (.tail _ (.tail _ (.tail _ (.tail _ (.tail _ (.tail _ (.tail _ (.tail _ (.tail _ (.tail _ (.tail _ (.tail _ (.tail _ (.tail _ (.tail _ (.head _))))))))))))))))))))) (HP29.out.at_ (b := bs 2) (c := cs 2) (L := Ls 2) (.tail _ (.tail _ (.tail _ (.tail _ (.tail _ (.tail _ (.tail _ (.tail _ (.tail _ (.tail _ (.tail _ (.tail _ (.tail _ (.tail _ (.tail _ (.tail _ (.tail _ (.head _)))))))))))))))))))) (HP29.out.at_ (b := bs 0) (c := cs 0) (L := Ls 0) (.tail _ (.tail _ (.tail _ (.tail _ (.tail _ (.tail _ (.tail _ (.tail _ (.tail _ (.tail _ (.tail _ (.tail _ (.tail _ (.tail _ (.tail _ (.tail _ (.head _))))))))))))))))))) (HP29.out.at_ (b := bsa) (c := csa) (L := scI g) (.tail _ (.tail _ (.tail _ (.tail _ (.tail _ (.tail _ (.tail _ (.tail _ (.tail _ (.tail _ (.tail _ (.tail _ (.tail _ (.tail _ (.tail _ (.head _)))))))))))))))))) (HP29.out.at_ (b := brd) (c := crd) (L := rdI g) (.tail _ (.tail _ (.tail _ (.tail _ (.tail _ (.tail _ (.tail _ (.tail _ (.tail _ (.tail _ (.tail _ (.tail _ (.tail _ (.tail _ (.head _))))))))))))))))) (HP29.out.at_ (b := bwr) (c := cwr) (L := wrI g) (.tail _ (.tail _ (.tail _ (.tail _ (.tail _ (.tail _ (.tail _ (.tail _ (.tail _ (.tail _ (.tail _ (.tail _ (.tail _ (.head _)))))))))))))))) (HP29.out.at_ (b := brw) (c := crw) (L := rwL g) (.tail _ (.tail _ (.tail _ (.tail _ (.tail _ (.tail _ (.tail _ (.tail _ (.tail _ (.tail _ (.tail _ (.tail _ (.head _))))))))))))))) (HP29.out.at_ (b := bac) (c := cac) (L := acL g) (.tail _ (.tail _ (.tail _ (.tail _ (.tail _ (.tail _ (.tail _ (.tail _ (.tail _ (.tail _ (.tail _ (.head _)))))))))))))) (HP29.out.at_ (b := bsf) (c := csf) (L := scI g) (.tail _ (.tail _ (.tail _ (.tail _ (.tail _ (.tail _ (.tail _ (.tail _ (.tail _ (.tail _ (.head _))))))))))))) (HP29.out.at_ (b := bfe) (c := cfe) (L := feI g) (.tail _ (.tail _ (.tail _ (.tail _ (.tail _ (.tail _ (.tail _ (.tail _ (.tail _ (.head _)))))))))))) (HP29.out.at_ (b := bfs) (c := cfs) (L := fsL g) (.tail _ (.tail _ (.tail _ (.tail _ (.tail _ (.tail _ (.tail _ (.tail _ (.head _))))))))))) (HP29.out.at_ (b := bap) (c := cap) (L := apL Ls) (.tail _ (.tail _ (.tail _ (.tail _ (.tail _ (.tail _ (.tail _ (.head _)))))))))) (HP29.out.at_ (b := boh) (c := coh) (L := optL H) (.tail _ (.tail _ (.tail _ (.tail _ (.tail _ (.tail _ (.head _))))))))) (HP29.out.at_ (b := bscb) (c := cscb) (L := scbL Ls H) (.tail _ (.tail _ (.tail _ (.tail _ (.tail _ (.head _)))))))) (HP29.out.at_ (b := bbase) (c := cbase) (L := baseL g Ls H) (.head _)))⟩⟩
            · as_aux_lemma =>
                simp only [z1, z2, z3]
                refine op_build #[(0, pv bfs)] (by kernel_rfl) (bs1_run bfs _) ?_
                have HP21 := hid_of (HP20.out.alloc (.cells #[pv bfs] 43))
                have HLu_21 : Hid (RelsAt (W20.alloc (.cells #[pv bfs] 43)) W20.heap.size [(bfs, cfs, fsL g)]) := rels_at [(bfs, cfs, fsL g)] ((Rels.cons (Rels.nil _) (HP20.out.at_ (b := bfs) (c := cfs) (L := fsL g) (.tail _ (.tail _ (.tail _ (.tail _ (.head _))))))))
                clear HP20
                generalize W20.alloc (.cells #[pv bfs] 43) = W21 at *
                generalize W20.heap.size = s21 at *
                clear hHeld
                refine hK.out _ _ (HP21.out.mo.cell rfl) (fun hHeld => ?_)
                clear hK K
                try simp only [zz]
                refine wpAnyH_ready (rs := [6]) (by kernel_rfl) (by simp) ?_
                refine rdy rfl (fun K hK => ?_) AllReadyH.nil
                simp only [z1, z2, z3]
                refine op_build #[(0, pv bac), (1, pv bfh)] (by kernel_rfl) (bs2_run bac bfh _) ?_
                have HP22 := hid_of (HP21.out.alloc (.cells #[pv bac, pv bfh] 43))
                have HLq_22 : Hid (RelsAt (W21.alloc (.cells #[pv bac, pv bfh] 43)) W21.heap.size [(bac, cac, acL g), (bfh, cfh, fhL g H)]) := rels_at [(bac, cac, acL g), (bfh, cfh, fhL g H)] ((Rels.cons (Rels.cons (Rels.nil _) (HP21.out.at_ (b := bfh) (c := cfh) (L := fhL g H) (.head _))) (HP21.out.at_ (b := bac) (c := cac) (L := acL g) (.tail _ (.tail _ (.tail _ (.tail _ (.tail _ (.tail _ (.tail _ (.head _)))))))))))
                have HLu_22 := hid_of (HLu_21.out.below ((Below.refl W21.heap.size W21).alloc (Nat.le_refl _) (.cells #[pv bac, pv bfh] 43)))
                clear HLu_21
                clear HP21
                generalize W21.alloc (.cells #[pv bac, pv bfh] 43) = W22 at *
                generalize W21.heap.size = s22 at *
                clear hHeld
                refine hK.out _ _ (HP22.out.mo.cell rfl) (fun hHeld => ?_)
                clear hK K
                try simp only [zz]
                refine wpAnyH_ready (rs := [7]) (by kernel_rfl) (by simp) ?_
                refine rdy rfl (fun K hK => ?_) AllReadyH.nil
                simp only [z1, z2, z3]
                go_simp
                refine (HP22.out.calls_made (begL g H) (Union_named s22 [(bac, cac, acL g), (bfh, cfh, fhL g H)] [acL g, fhL g H] (map3_cons (map3_cons (map3_nil))) _ HLq_22.out (by simp)) (begL_eq ..)).mono ?_
                rintro e W23 ⟨bbeg, cbeg, rfl, HP23, HB23⟩
                have HLu_23 := hid_of (HLu_22.out.below HB23.out)
                clear HLu_22
                clear HP22 HB23
                clear HLq_22
                clear hHeld
                refine hK.out _ _ (HP23.out.mo.cell rfl) (fun hHeld => ?_)
                clear hK K
                try simp only [zz]
                refine wpAnyH_ready (rs := [17]) (by kernel_rfl) (by simp) ?_
                refine rdy rfl (fun K hK => ?_) AllReadyH.nil
                simp only [z1, z2, z3]
                go_simp
                refine (HP23.out.calls_rel (hfL g H) (rcChain_named (boh) (coh) s21 (optL H) [(bfs, cfs, fsL g)] [fsL g] (map3_cons (map3_nil)) _ (HP23.out.at_ (.tail _ (.tail _ (.tail _ (.head _))))) HLu_23.out (by simp) (HT.out.step' HP23.out.low)) (hfL_eq ..)).mono ?_
                rintro e W24 ⟨bhf, chf, rfl, HP24, HB24⟩
                clear HP23 HB24
                clear HLu_23
                clear hHeld
                refine hK.out _ _ (HP24.out.mo.cell rfl) (fun hHeld => ?_)
                clear hK K
                try simp only [zz]
                refine wpAnyH_ready (rs := [18]) (by kernel_rfl) (by simp) ?_
                refine rdy rfl (fun K hK => ?_) AllReadyH.nil
                simp only [z1, z2, z3]
                refine op_build #[(0, pv bac), (1, pv bhf)] (by kernel_rfl) (bs2_run bac bhf _) ?_
                have HP25 := hid_of (HP24.out.alloc (.cells #[pv bac, pv bhf] 43))
                have HLv_25 : Hid (RelsAt (W24.alloc (.cells #[pv bac, pv bhf] 43)) W24.heap.size [(bac, cac, acL g), (bhf, chf, hfL g H)]) := rels_at [(bac, cac, acL g), (bhf, chf, hfL g H)] ((Rels.cons (Rels.cons (Rels.nil _) (HP24.out.at_ (b := bhf) (c := chf) (L := hfL g H) (.head _))) (HP24.out.at_ (b := bac) (c := cac) (L := acL g) (.tail _ (.tail _ (.tail _ (.tail _ (.tail _ (.tail _ (.tail _ (.tail _ (.tail _ (.head _)))))))))))))
                clear HP24
                generalize W24.alloc (.cells #[pv bac, pv bhf] 43) = W25 at *
                generalize W24.heap.size = s25 at *
                clear hHeld
                refine hK.out _ _ (HP25.out.mo.cell rfl) (fun hHeld => ?_)
                clear hK K
                try simp only [zz]
                refine wpAnyH_ready (rs := [19]) (by kernel_rfl) (by simp) ?_
                refine rdy rfl (fun K hK => ?_) AllReadyH.nil
                simp only [z1, z2, z3]
                go_simp
                refine (HP25.out.calls_made (endL g H) (Union_named s25 [(bac, cac, acL g), (bhf, chf, hfL g H)] [acL g, hfL g H] (map3_cons (map3_cons (map3_nil))) _ HLv_25.out (by simp)) (endL_eq ..)).mono ?_
                rintro e W26 ⟨bend, cend, rfl, HP26, HB26⟩
                clear HP25 HB26
                clear HLv_25
                clear hHeld
                refine hK.out _ _ (HP26.out.mo.cell rfl) (fun hHeld => ?_)
                clear hK K
                try simp only [zz]
                refine wpAnyH_ready (rs := [20]) (by kernel_rfl) (by simp) ?_
                refine rdy rfl (fun K hK => ?_) AllReadyH.nil
                simp only [z1, z2, z3]
                refine op_build #[(0, pv bscb), (1, pv bend)] (by kernel_rfl) (bs2_run bscb bend _) ?_
                have HP27 := hid_of (HP26.out.alloc (.cells #[pv bscb, pv bend] 43))
                have HLx_27 : Hid (RelsAt (W26.alloc (.cells #[pv bscb, pv bend] 43)) W26.heap.size [(bscb, cscb, scbL Ls H), (bend, cend, endL g H)]) := rels_at [(bscb, cscb, scbL Ls H), (bend, cend, endL g H)] ((Rels.cons (Rels.cons (Rels.nil _) (HP26.out.at_ (b := bend) (c := cend) (L := endL g H) (.head _))) (HP26.out.at_ (b := bscb) (c := cscb) (L := scbL Ls H) (.tail _ (.tail _ (.tail _ (.tail _ (.head _))))))))
                clear HP26
                generalize W26.alloc (.cells #[pv bscb, pv bend] 43) = W27 at *
                generalize W26.heap.size = s27 at *
                clear hHeld
                refine hK.out _ _ (HP27.out.mo.cell rfl) (fun hHeld => ?_)
                clear hK K
                try simp only [zz]
                refine wpAnyH_ready (rs := [21]) (by kernel_rfl) (by simp) ?_
                refine rdy rfl (fun K hK => ?_) AllReadyH.nil
                simp only [z1, z2, z3]
                go_simp
                refine (HP27.out.calls_rel (baseL g Ls H) (rcChain_named (bbeg) (cbeg) s27 (begL g H) [(bscb, cscb, scbL Ls H), (bend, cend, endL g H)] [scbL Ls H, endL g H] (map3_cons (map3_cons (map3_nil))) _ (HP27.out.at_ (.tail _ (.tail _ (.head _)))) HLx_27.out (by simp) (HT.out.step' HP27.out.low)) (baseL_eq ..)).mono ?_
                rintro e W28 ⟨bbase, cbase, rfl, HP28, HB28⟩
                clear HP27 HB28
                clear HLx_27
                clear hHeld
                refine hK.out _ _ (HP28.out.mo.cell rfl) (fun hHeld => ?_)
                clear hK K
                try simp only [zz]
                refine tk 22 rfl ?_; simp only [zz]
                refine tk 23 rfl ?_; simp only [zz]
                refine tk 24 rfl ?_; simp only [zz]
                refine wpAnyH_ready (rs := [25]) (by kernel_rfl) (by simp) ?_
                refine rdy rfl (fun K hK => ?_) AllReadyH.nil
                have HP29 := hid_of (HP28.out.put hm0 5 (by omega) (pv bbase))
                have cs0 := HP28.out.mo.cell (j := 26) (v := (updR (r) 4 (pv bscb)) 5) rfl
                have fz0 := HP28.out.mo.frozen 26
                simp only [z1, z2, z3]
                go_simp
                clear cs0 fz0 HP28
                clear hHeld
                refine hK.out _ _ (HP29.out.mo.cell rfl) (fun hHeld => ?_)
                clear hK K
                try simp only [zz]
                refine wpAnyH_done (by kernel_rfl) ?_ _
                clear hHeld
                go_wp2_with fail
                go_meet
                case rel => exact ⟨bbase, cbase, ⟨HP29.out.low, HP29.out.tch, HP29.out.mo, HP29.out.fx, HP29.out.rd, HP29.out.wt, HP29.out.fe, (Rels.cons (Rels.cons (Rels.cons (Rels.cons (Rels.cons (Rels.cons (Rels.cons (Rels.cons (Rels.cons (Rels.cons (Rels.cons (Rels.cons (Rels.cons (Rels.cons (Rels.cons (Rels.cons (Rels.cons (Rels.cons (Rels.nil _) (HP29.out.at_ (b := beco) (c := ceco) (L := C) (.tail _ (.tail _ (.tail _ (.tail _ (.tail _ (.tail _ (.tail _ (.tail _ (.tail _ (.tail _ (.tail _ (.tail _ (.tail _ (.tail _ (.tail _ (.tail _ (.tail _ (.tail _ (.tail _ (.tail _ (.tail _ (.head _)))))))))))))))))))))))) (HP29.out.at_ (b := bhb) (c := chb) (L := H) (.tail _ (.tail _ (.tail _ (.tail _ (.tail _ (.tail _ (.tail _ (.tail _ (.tail _ (.tail _ (.tail _ (.tail _ (.tail _ (.tail _ (.tail _ (.tail _ (.tail _ (.tail _ (.tail _ (.tail _ (.head _))))))))))))))))))))))) (HP29.out.at_ (b := bs 5) (c := cs 5) (L := Ls 5) (.tail _ (.tail _ (.tail _ (.tail _ (.tail _ (.tail _ (.tail _ (.tail _ (.tail _ (.tail _ (.tail _ (.tail _ (.tail _ (.tail _ (.tail _ (.tail _ (.tail _ (.tail _ (.tail _ (.head _)))))))))))))))))))))) (HP29.out.at_ (b := bs 3) (c := cs 3) (L := Ls 3) (.tail _ (.tail _ (.tail _ (.tail _ (.tail _ (.tail _ (.tail _ (.tail _ (.tail _ (.tail _ (.tail _ (.tail _ (.tail _ (.tail _ (.tail _ (.tail _ (.tail _ (.tail _ (.head _))))))))))))))))))))) (HP29.out.at_ (b := bs 2) (c := cs 2) (L := Ls 2) (.tail _ (.tail _ (.tail _ (.tail _ (.tail _ (.tail _ (.tail _ (.tail _ (.tail _ (.tail _ (.tail _ (.tail _ (.tail _ (.tail _ (.tail _ (.tail _ (.tail _ (.head _)))))))))))))))))))) (HP29.out.at_ (b := bs 0) (c := cs 0) (L := Ls 0) (.tail _ (.tail _ (.tail _ (.tail _ (.tail _ (.tail _ (.tail _ (.tail _ (.tail _ (.tail _ (.tail _ (.tail _ (.tail _ (.tail _ (.tail _ (.tail _ (.head _))))))))))))))))))) (HP29.out.at_ (b := bsa) (c := csa) (L := scI g) (.tail _ (.tail _ (.tail _ (.tail _ (.tail _ (.tail _ (.tail _ (.tail _ (.tail _ (.tail _ (.tail _ (.tail _ (.tail _ (.tail _ (.tail _ (.head _)))))))))))))))))) (HP29.out.at_ (b := brd) (c := crd) (L := rdI g) (.tail _ (.tail _ (.tail _ (.tail _ (.tail _ (.tail _ (.tail _ (.tail _ (.tail _ (.tail _ (.tail _ (.tail _ (.tail _ (.tail _ (.head _))))))))))))))))) (HP29.out.at_ (b := bwr) (c := cwr) (L := wrI g) (.tail _ (.tail _ (.tail _ (.tail _ (.tail _ (.tail _ (.tail _ (.tail _ (.tail _ (.tail _ (.tail _ (.tail _ (.tail _ (.head _)))))))))))))))) (HP29.out.at_ (b := brw) (c := crw) (L := rwL g) (.tail _ (.tail _ (.tail _ (.tail _ (.tail _ (.tail _ (.tail _ (.tail _ (.tail _ (.tail _ (.tail _ (.tail _ (.head _))))))))))))))) (HP29.out.at_ (b := bac) (c := cac) (L := acL g) (.tail _ (.tail _ (.tail _ (.tail _ (.tail _ (.tail _ (.tail _ (.tail _ (.tail _ (.tail _ (.tail _ (.head _)))))))))))))) (HP29.out.at_ (b := bsf) (c := csf) (L := scI g) (.tail _ (.tail _ (.tail _ (.tail _ (.tail _ (.tail _ (.tail _ (.tail _ (.tail _ (.tail _ (.head _))))))))))))) (HP29.out.at_ (b := bfe) (c := cfe) (L := feI g) (.tail _ (.tail _ (.tail _ (.tail _ (.tail _ (.tail _ (.tail _ (.tail _ (.tail _ (.head _)))))))))))) (HP29.out.at_ (b := bfs) (c := cfs) (L := fsL g) (.tail _ (.tail _ (.tail _ (.tail _ (.tail _ (.tail _ (.tail _ (.tail _ (.head _))))))))))) (HP29.out.at_ (b := bap) (c := cap) (L := apL Ls) (.tail _ (.tail _ (.tail _ (.tail _ (.tail _ (.tail _ (.tail _ (.head _)))))))))) (HP29.out.at_ (b := boh) (c := coh) (L := optL H) (.tail _ (.tail _ (.tail _ (.tail _ (.tail _ (.tail _ (.head _))))))))) (HP29.out.at_ (b := bscb) (c := cscb) (L := scbL Ls H) (.tail _ (.tail _ (.tail _ (.tail _ (.tail _ (.head _)))))))) (HP29.out.at_ (b := bbase) (c := cbase) (L := baseL g Ls H) (.head _)))⟩⟩
        · as_aux_lemma =>
            simp only [z1, z2, z3]
            refine op_build #[(0, pv bfs)] (by kernel_rfl) (bs1_run bfs _) ?_
            have HP20 := hid_of (HP19.out.alloc (.cells #[pv bfs] 43))
            have HLu_20 : Hid (RelsAt (W19.alloc (.cells #[pv bfs] 43)) W19.heap.size [(bfs, cfs, fsL g)]) := rels_at [(bfs, cfs, fsL g)] ((Rels.cons (Rels.nil _) (HP19.out.at_ (b := bfs) (c := cfs) (L := fsL g) (.tail _ (.tail _ (.tail _ (.head _)))))))
            have HLp_20 := hid_of (HLp_19.out.below ((Below.refl W19.heap.size W19).alloc (Nat.le_refl _) (.cells #[pv bfs] 43)))
            clear HLp_19
            clear HP19
            generalize W19.alloc (.cells #[pv bfs] 43) = W20 at *
            generalize W19.heap.size = s20 at *
            clear hHeld
            refine hK.out _ _ (HP20.out.mo.cell rfl) (fun hHeld => ?_)
            clear hK K
            try simp only [zz]
            refine wpAnyH_ready (rs := [5]) (by kernel_rfl) (by simp) ?_
            refine rdy rfl (fun K hK => ?_) AllReadyH.nil
            simp only [z1, z2, z3]
            go_simp
            refine (HP20.out.calls_rel (fhL g H) (rcChain_named (bfs) (cfs) s19 (fsL g) [(boh, coh, optL H)] [optL H] (map3_cons (map3_nil)) _ (HP20.out.at_ (.tail _ (.tail _ (.tail _ (.head _))))) HLp_20.out (by simp) (HT.out.step' HP20.out.low)) (fhL_eq ..)).mono ?_
            rintro e W21 ⟨bfh, cfh, rfl, HP21, HB21⟩
            have HLu_21 := hid_of (HLu_20.out.below HB21.out)
            clear HLu_20
            clear HP20 HB21
            clear HLp_20
            clear hHeld
            refine hK.out _ _ (HP21.out.mo.cell rfl) (fun hHeld => ?_)
            clear hK K
            try simp only [zz]
            refine wpAnyH_ready (rs := [6]) (by kernel_rfl) (by simp) ?_
            refine rdy rfl (fun K hK => ?_) AllReadyH.nil
            simp only [z1, z2, z3]
            refine op_build #[(0, pv bac), (1, pv bfh)] (by kernel_rfl) (bs2_run bac bfh _) ?_
            have HP22 := hid_of (HP21.out.alloc (.cells #[pv bac, pv bfh] 43))
            have HLq_22 : Hid (RelsAt (W21.alloc (.cells #[pv bac, pv bfh] 43)) W21.heap.size [(bac, cac, acL g), (bfh, cfh, fhL g H)]) := rels_at [(bac, cac, acL g), (bfh, cfh, fhL g H)] ((Rels.cons (Rels.cons (Rels.nil _) (HP21.out.at_ (b := bfh) (c := cfh) (L := fhL g H) (.head _))) (HP21.out.at_ (b := bac) (c := cac) (L := acL g) (.tail _ (.tail _ (.tail _ (.tail _ (.tail _ (.tail _ (.tail _ (.head _)))))))))))
            have HLu_22 := hid_of (HLu_21.out.below ((Below.refl W21.heap.size W21).alloc (Nat.le_refl _) (.cells #[pv bac, pv bfh] 43)))
            clear HLu_21
            clear HP21
            generalize W21.alloc (.cells #[pv bac, pv bfh] 43) = W22 at *
            generalize W21.heap.size = s22 at *
            clear hHeld
            refine hK.out _ _ (HP22.out.mo.cell rfl) (fun hHeld => ?_)
            clear hK K
            try simp only [zz]
            refine wpAnyH_ready (rs := [7]) (by kernel_rfl) (by simp) ?_
            refine rdy rfl (fun K hK => ?_) AllReadyH.nil
            simp only [z1, z2, z3]
            go_simp
            refine (HP22.out.calls_made (begL g H) (Union_named s22 [(bac, cac, acL g), (bfh, cfh, fhL g H)] [acL g, fhL g H] (map3_cons (map3_cons (map3_nil))) _ HLq_22.out (by simp)) (begL_eq ..)).mono ?_
            rintro e W23 ⟨bbeg, cbeg, rfl, HP23, HB23⟩
            have HLu_23 := hid_of (HLu_22.out.below HB23.out)
            clear HLu_22
            clear HP22 HB23
            clear HLq_22
            clear hHeld
            refine hK.out _ _ (HP23.out.mo.cell rfl) (fun hHeld => ?_)
            clear hK K
            try simp only [zz]
            refine wpAnyH_ready (rs := [17]) (by kernel_rfl) (by simp) ?_
            refine rdy rfl (fun K hK => ?_) AllReadyH.nil
            simp only [z1, z2, z3]
            go_simp
            refine (HP23.out.calls_rel (hfL g H) (rcChain_named (boh) (coh) s20 (optL H) [(bfs, cfs, fsL g)] [fsL g] (map3_cons (map3_nil)) _ (HP23.out.at_ (.tail _ (.tail _ (.tail _ (.head _))))) HLu_23.out (by simp) (HT.out.step' HP23.out.low)) (hfL_eq ..)).mono ?_
            rintro e W24 ⟨bhf, chf, rfl, HP24, HB24⟩
            clear HP23 HB24
            clear HLu_23
            clear hHeld
            refine hK.out _ _ (HP24.out.mo.cell rfl) (fun hHeld => ?_)
            clear hK K
            try simp only [zz]
            refine wpAnyH_ready (rs := [18]) (by kernel_rfl) (by simp) ?_
            refine rdy rfl (fun K hK => ?_) AllReadyH.nil
            simp only [z1, z2, z3]
            refine op_build #[(0, pv bac), (1, pv bhf)] (by kernel_rfl) (bs2_run bac bhf _) ?_
            have HP25 := hid_of (HP24.out.alloc (.cells #[pv bac, pv bhf] 43))
            have HLv_25 : Hid (RelsAt (W24.alloc (.cells #[pv bac, pv bhf] 43)) W24.heap.size [(bac, cac, acL g), (bhf, chf, hfL g H)]) := rels_at [(bac, cac, acL g), (bhf, chf, hfL g H)] ((Rels.cons (Rels.cons (Rels.nil _) (HP24.out.at_ (b := bhf) (c := chf) (L := hfL g H) (.head _))) (HP24.out.at_ (b := bac) (c := cac) (L := acL g) (.tail _ (.tail _ (.tail _ (.tail _ (.tail _ (.tail _ (.tail _ (.tail _ (.tail _ (.head _)))))))))))))
            clear HP24
            generalize W24.alloc (.cells #[pv bac, pv bhf] 43) = W25 at *
            generalize W24.heap.size = s25 at *
            clear hHeld
            refine hK.out _ _ (HP25.out.mo.cell rfl) (fun hHeld => ?_)
            clear hK K
            try simp only [zz]
            refine wpAnyH_ready (rs := [19]) (by kernel_rfl) (by simp) ?_
            refine rdy rfl (fun K hK => ?_) AllReadyH.nil
            simp only [z1, z2, z3]
            go_simp
            refine (HP25.out.calls_made (endL g H) (Union_named s25 [(bac, cac, acL g), (bhf, chf, hfL g H)] [acL g, hfL g H] (map3_cons (map3_cons (map3_nil))) _ HLv_25.out (by simp)) (endL_eq ..)).mono ?_
            rintro e W26 ⟨bend, cend, rfl, HP26, HB26⟩
            clear HP25 HB26
            clear HLv_25
            clear hHeld
            refine hK.out _ _ (HP26.out.mo.cell rfl) (fun hHeld => ?_)
            clear hK K
            try simp only [zz]
            refine wpAnyH_ready (rs := [20]) (by kernel_rfl) (by simp) ?_
            refine rdy rfl (fun K hK => ?_) AllReadyH.nil
            simp only [z1, z2, z3]
            refine op_build #[(0, pv bscb), (1, pv bend)] (by kernel_rfl) (bs2_run bscb bend _) ?_
            have HP27 := hid_of (HP26.out.alloc (.cells #[pv bscb, pv bend] 43))
            have HLx_27 : Hid (RelsAt (W26.alloc (.cells #[pv bscb, pv bend] 43)) W26.heap.size [(bscb, cscb, scbL Ls H), (bend, cend, endL g H)]) := rels_at [(bscb, cscb, scbL Ls H), (bend, cend, endL g H)] ((Rels.cons (Rels.cons (Rels.nil _) (HP26.out.at_ (b := bend) (c := cend) (L := endL g H) (.head _))) (HP26.out.at_ (b := bscb) (c := cscb) (L := scbL Ls H) (.tail _ (.tail _ (.tail _ (.tail _ (.head _))))))))
            clear HP26
            generalize W26.alloc (.cells #[pv bscb, pv bend] 43) = W27 at *
            generalize W26.heap.size = s27 at *
            clear hHeld
            refine hK.out _ _ (HP27.out.mo.cell rfl) (fun hHeld => ?_)
            clear hK K
            try simp only [zz]
            refine wpAnyH_ready (rs := [21]) (by kernel_rfl) (by simp) ?_
            refine rdy rfl (fun K hK => ?_) AllReadyH.nil
            simp only [z1, z2, z3]
            go_simp
            refine (HP27.out.calls_rel (baseL g Ls H) (rcChain_named (bbeg) (cbeg) s27 (begL g H) [(bscb, cscb, scbL Ls H), (bend, cend, endL g H)] [scbL Ls H, endL g H] (map3_cons (map3_cons (map3_nil))) _ (HP27.out.at_ (.tail _ (.tail _ (.head _)))) HLx_27.out (by simp) (HT.out.step' HP27.out.low)) (baseL_eq ..)).mono ?_
            rintro e W28 ⟨bbase, cbase, rfl, HP28, HB28⟩
            clear HP27 HB28
            clear HLx_27
            clear hHeld
            refine hK.out _ _ (HP28.out.mo.cell rfl) (fun hHeld => ?_)
            clear hK K
            try simp only [zz]
            refine tk 22 rfl ?_; simp only [zz]
            refine tk 23 rfl ?_; simp only [zz]
            refine tk 24 rfl ?_; simp only [zz]
            refine wpAnyH_ready (rs := [25]) (by kernel_rfl) (by simp) ?_
            refine rdy rfl (fun K hK => ?_) AllReadyH.nil
            have HP29 := hid_of (HP28.out.put hm0 5 (by omega) (pv bbase))
            have cs0 := HP28.out.mo.cell (j := 26) (v := (updR (r) 4 (pv bscb)) 5) rfl
            have fz0 := HP28.out.mo.frozen 26
            simp only [z1, z2, z3]
            go_simp
            clear cs0 fz0 HP28
            clear hHeld
            refine hK.out _ _ (HP29.out.mo.cell rfl) (fun hHeld => ?_)
            clear hK K
            try simp only [zz]
            refine wpAnyH_done (by kernel_rfl) ?_ _
            clear hHeld
            go_wp2_with fail
            go_meet
            case rel => exact ⟨bbase, cbase, ⟨HP29.out.low, HP29.out.tch, HP29.out.mo, HP29.out.fx, HP29.out.rd, HP29.out.wt, HP29.out.fe, (Rels.cons (Rels.cons (Rels.cons (Rels.cons (Rels.cons (Rels.cons (Rels.cons (Rels.cons (Rels.cons (Rels.cons (Rels.cons (Rels.cons (Rels.cons (Rels.cons (Rels.cons (Rels.cons (Rels.cons (Rels.cons (Rels.nil _) (HP29.out.at_ (b := beco) (c := ceco) (L := C) (.tail _ (.tail _ (.tail _ (.tail _ (.tail _ (.tail _ (.tail _ (.tail _ (.tail _ (.tail _ (.tail _ (.tail _ (.tail _ (.tail _ (.tail _ (.tail _ (.tail _ (.tail _ (.tail _ (.tail _ (.tail _ (.head _)))))))))))))))))))))))) (HP29.out.at_ (b := bhb) (c := chb) (L := H) (.tail _ (.tail _ (.tail _ (.tail _ (.tail _ (.tail _ (.tail _ (.tail _ (.tail _ (.tail _ (.tail _ (.tail _ (.tail _ (.tail _ (.tail _ (.tail _ (.tail _ (.tail _ (.tail _ (.tail _ (.head _))))))))))))))))))))))) (HP29.out.at_ (b := bs 5) (c := cs 5) (L := Ls 5) (.tail _ (.tail _ (.tail _ (.tail _ (.tail _ (.tail _ (.tail _ (.tail _ (.tail _ (.tail _ (.tail _ (.tail _ (.tail _ (.tail _ (.tail _ (.tail _ (.tail _ (.tail _ (.tail _ (.head _)))))))))))))))))))))) (HP29.out.at_ (b := bs 3) (c := cs 3) (L := Ls 3) (.tail _ (.tail _ (.tail _ (.tail _ (.tail _ (.tail _ (.tail _ (.tail _ (.tail _ (.tail _ (.tail _ (.tail _ (.tail _ (.tail _ (.tail _ (.tail _ (.tail _ (.tail _ (.head _))))))))))))))))))))) (HP29.out.at_ (b := bs 2) (c := cs 2) (L := Ls 2) (.tail _ (.tail _ (.tail _ (.tail _ (.tail _ (.tail _ (.tail _ (.tail _ (.tail _ (.tail _ (.tail _ (.tail _ (.tail _ (.tail _ (.tail _ (.tail _ (.tail _ (.head _)))))))))))))))))))) (HP29.out.at_ (b := bs 0) (c := cs 0) (L := Ls 0) (.tail _ (.tail _ (.tail _ (.tail _ (.tail _ (.tail _ (.tail _ (.tail _ (.tail _ (.tail _ (.tail _ (.tail _ (.tail _ (.tail _ (.tail _ (.tail _ (.head _))))))))))))))))))) (HP29.out.at_ (b := bsa) (c := csa) (L := scI g) (.tail _ (.tail _ (.tail _ (.tail _ (.tail _ (.tail _ (.tail _ (.tail _ (.tail _ (.tail _ (.tail _ (.tail _ (.tail _ (.tail _ (.tail _ (.head _)))))))))))))))))) (HP29.out.at_ (b := brd) (c := crd) (L := rdI g) (.tail _ (.tail _ (.tail _ (.tail _ (.tail _ (.tail _ (.tail _ (.tail _ (.tail _ (.tail _ (.tail _ (.tail _ (.tail _ (.tail _ (.head _))))))))))))))))) (HP29.out.at_ (b := bwr) (c := cwr) (L := wrI g) (.tail _ (.tail _ (.tail _ (.tail _ (.tail _ (.tail _ (.tail _ (.tail _ (.tail _ (.tail _ (.tail _ (.tail _ (.tail _ (.head _)))))))))))))))) (HP29.out.at_ (b := brw) (c := crw) (L := rwL g) (.tail _ (.tail _ (.tail _ (.tail _ (.tail _ (.tail _ (.tail _ (.tail _ (.tail _ (.tail _ (.tail _ (.tail _ (.head _))))))))))))))) (HP29.out.at_ (b := bac) (c := cac) (L := acL g) (.tail _ (.tail _ (.tail _ (.tail _ (.tail _ (.tail _ (.tail _ (.tail _ (.tail _ (.tail _ (.tail _ (.head _)))))))))))))) (HP29.out.at_ (b := bsf) (c := csf) (L := scI g) (.tail _ (.tail _ (.tail _ (.tail _ (.tail _ (.tail _ (.tail _ (.tail _ (.tail _ (.tail _ (.head _))))))))))))) (HP29.out.at_ (b := bfe) (c := cfe) (L := feI g) (.tail _ (.tail _ (.tail _ (.tail _ (.tail _ (.tail _ (.tail _ (.tail _ (.tail _ (.head _)))))))))))) (HP29.out.at_ (b := bfs) (c := cfs) (L := fsL g) (.tail _ (.tail _ (.tail _ (.tail _ (.tail _ (.tail _ (.tail _ (.tail _ (.head _))))))))))) (HP29.out.at_ (b := bap) (c := cap) (L := apL Ls) (.tail _ (.tail _ (.tail _ (.tail _ (.tail _ (.tail _ (.tail _ (.head _)))))))))) (HP29.out.at_ (b := boh) (c := coh) (L := optL H) (.tail _ (.tail _ (.tail _ (.tail _ (.tail _ (.tail _ (.head _))))))))) (HP29.out.at_ (b := bscb) (c := cscb) (L := scbL Ls H) (.tail _ (.tail _ (.tail _ (.tail _ (.tail _ (.head _)))))))) (HP29.out.at_ (b := bbase) (c := cbase) (L := baseL g Ls H) (.head _)))⟩⟩
    · as_aux_lemma =>
        simp only [z1, z2, z3]
        refine op_build #[(0, pv bfs)] (by kernel_rfl) (bs1_run bfs _) ?_
        have HP19 := hid_of (HP18.out.alloc (.cells #[pv bfs] 43))
        have HLu_19 : Hid (RelsAt (W18.alloc (.cells #[pv bfs] 43)) W18.heap.size [(bfs, cfs, fsL g)]) := rels_at [(bfs, cfs, fsL g)] ((Rels.cons (Rels.nil _) (HP18.out.at_ (b := bfs) (c := cfs) (L := fsL g) (.tail _ (.tail _ (.tail _ (.head _)))))))
        clear HP18
        generalize W18.alloc (.cells #[pv bfs] 43) = W19 at *
        generalize W18.heap.size = s19 at *
        clear hHeld
        refine hK.out _ _ (HP19.out.mo.cell rfl) (fun hHeld => ?_)
        clear hK K
        try simp only [zz]
        refine wpAnyH_ready (rs := [4]) (by kernel_rfl) (by simp) ?_
        refine rdy rfl (fun K hK => ?_) AllReadyH.nil
        simp only [z1, z2, z3]
        refine op_build #[(0, pv boh)] (by kernel_rfl) (bs1_run boh _) ?_
        have HP20 := hid_of (HP19.out.alloc (.cells #[pv boh] 43))
        have HLp_20 : Hid (RelsAt (W19.alloc (.cells #[pv boh] 43)) W19.heap.size [(boh, coh, optL H)]) := rels_at [(boh, coh, optL H)] ((Rels.cons (Rels.nil _) (HP19.out.at_ (b := boh) (c := coh) (L := optL H) (.tail _ (.head _)))))
        have HLu_20 := hid_of (HLu_19.out.below ((Below.refl W19.heap.size W19).alloc (Nat.le_refl _) (.cells #[pv boh] 43)))
        clear HLu_19
        clear HP19
        generalize W19.alloc (.cells #[pv boh] 43) = W20 at *
        generalize W19.heap.size = s20 at *
        clear hHeld
        refine hK.out _ _ (HP20.out.mo.cell rfl) (fun hHeld => ?_)
        clear hK K
        try simp only [zz]
        refine wpAnyH_ready (rs := [5]) (by kernel_rfl) (by simp) ?_
        refine rdy rfl (fun K hK => ?_) AllReadyH.nil
        simp only [z1, z2, z3]
        go_simp
        refine (HP20.out.calls_rel (fhL g H) (rcChain_named (bfs) (cfs) s20 (fsL g) [(boh, coh, optL H)] [optL H] (map3_cons (map3_nil)) _ (HP20.out.at_ (.tail _ (.tail _ (.tail _ (.head _))))) HLp_20.out (by simp) (HT.out.step' HP20.out.low)) (fhL_eq ..)).mono ?_
        rintro e W21 ⟨bfh, cfh, rfl, HP21, HB21⟩
        have HLu_21 := hid_of (HLu_20.out.below HB21.out)
        clear HLu_20
        clear HP20 HB21
        clear HLp_20
        clear hHeld
        refine hK.out _ _ (HP21.out.mo.cell rfl) (fun hHeld => ?_)
        clear hK K
        try simp only [zz]
        refine wpAnyH_ready (rs := [6]) (by kernel_rfl) (by simp) ?_
        refine rdy rfl (fun K hK => ?_) AllReadyH.nil
        simp only [z1, z2, z3]
        refine op_build #[(0, pv bac), (1, pv bfh)] (by kernel_rfl) (bs2_run bac bfh _) ?_
        have HP22 := hid_of (HP21.out.alloc (.cells #[pv bac, pv bfh] 43))
        have HLq_22 : Hid (RelsAt (W21.alloc (.cells #[pv bac, pv bfh] 43)) W21.heap.size [(bac, cac, acL g), (bfh, cfh, fhL g H)]) := rels_at [(bac, cac, acL g), (bfh, cfh, fhL g H)] ((Rels.cons (Rels.cons (Rels.nil _) (HP21.out.at_ (b := bfh) (c := cfh) (L := fhL g H) (.head _))) (HP21.out.at_ (b := bac) (c := cac) (L := acL g) (.tail _ (.tail _ (.tail _ (.tail _ (.tail _ (.tail _ (.tail _ (.head _)))))))))))
        have HLu_22 := hid_of (HLu_21.out.below ((Below.refl W21.heap.size W21).alloc (Nat.le_refl _) (.cells #[pv bac, pv bfh] 43)))
        clear HLu_21
        clear HP21
        generalize W21.alloc (.cells #[pv bac, pv bfh] 43) = W22 at *
        generalize W21.heap.size = s22 at *
        clear hHeld
        refine hK.out _ _ (HP22.out.mo.cell rfl) (fun hHeld => ?_)
        clear hK K
        try simp only [zz]
        refine wpAnyH_ready (rs := [7]) (by kernel_rfl) (by simp) ?_
        refine rdy rfl (fun K hK => ?_) AllReadyH.nil
        simp only [z1, z2, z3]
        go_simp
        refine (HP22.out.calls_made (begL g H) (Union_named s22 [(bac, cac, acL g), (bfh, cfh, fhL g H)] [acL g, fhL g H] (map3_cons (map3_cons (map3_nil))) _ HLq_22.out (by simp)) (begL_eq ..)).mono ?_
        rintro e W23 ⟨bbeg, cbeg, rfl, HP23, HB23⟩
        have HLu_23 := hid_of (HLu_22.out.below HB23.out)
        clear HLu_22
        clear HP22 HB23
        clear HLq_22
        clear hHeld
        refine hK.out _ _ (HP23.out.mo.cell rfl) (fun hHeld => ?_)
        clear hK K
        try simp only [zz]
        refine wpAnyH_ready (rs := [17]) (by kernel_rfl) (by simp) ?_
        refine rdy rfl (fun K hK => ?_) AllReadyH.nil
        simp only [z1, z2, z3]
        go_simp
        refine (HP23.out.calls_rel (hfL g H) (rcChain_named (boh) (coh) s19 (optL H) [(bfs, cfs, fsL g)] [fsL g] (map3_cons (map3_nil)) _ (HP23.out.at_ (.tail _ (.tail _ (.tail _ (.head _))))) HLu_23.out (by simp) (HT.out.step' HP23.out.low)) (hfL_eq ..)).mono ?_
        rintro e W24 ⟨bhf, chf, rfl, HP24, HB24⟩
        clear HP23 HB24
        clear HLu_23
        clear hHeld
        refine hK.out _ _ (HP24.out.mo.cell rfl) (fun hHeld => ?_)
        clear hK K
        try simp only [zz]
        refine wpAnyH_ready (rs := [18]) (by kernel_rfl) (by simp) ?_
        refine rdy rfl (fun K hK => ?_) AllReadyH.nil
        simp only [z1, z2, z3]
        refine op_build #[(0, pv bac), (1, pv bhf)] (by kernel_rfl) (bs2_run bac bhf _) ?_
        have HP25 := hid_of (HP24.out.alloc (.cells #[pv bac, pv bhf] 43))
        have HLv_25 : Hid (RelsAt (W24.alloc (.cells #[pv bac, pv bhf] 43)) W24.heap.size [(bac, cac, acL g), (bhf, chf, hfL g H)]) := rels_at [(bac, cac, acL g), (bhf, chf, hfL g H)] ((Rels.cons (Rels.cons (Rels.nil _) (HP24.out.at_ (b := bhf) (c := chf) (L := hfL g H) (.head _))) (HP24.out.at_ (b := bac) (c := cac) (L := acL g) (.tail _ (.tail _ (.tail _ (.tail _ (.tail _ (.tail _ (.tail _ (.tail _ (.tail _ (.head _)))))))))))))
        clear HP24
        generalize W24.alloc (.cells #[pv bac, pv bhf] 43) = W25 at *
        generalize W24.heap.size = s25 at *
        clear hHeld
        refine hK.out _ _ (HP25.out.mo.cell rfl) (fun hHeld => ?_)
        clear hK K
        try simp only [zz]
        refine wpAnyH_ready (rs := [19]) (by kernel_rfl) (by simp) ?_
        refine rdy rfl (fun K hK => ?_) AllReadyH.nil
        simp only [z1, z2, z3]
        go_simp
        refine (HP25.out.calls_made (endL g H) (Union_named s25 [(bac, cac, acL g), (bhf, chf, hfL g H)] [acL g, hfL g H] (map3_cons (map3_cons (map3_nil))) _ HLv_25.out (by simp)) (endL_eq ..)).mono ?_
        rintro e W26 ⟨bend, cend, rfl, HP26, HB26⟩
        clear HP25 HB26
        clear HLv_25
        clear hHeld
        refine hK.out _ _ (HP26.out.mo.cell rfl) (fun hHeld => ?_)
        clear hK K
        try simp only [zz]
        refine wpAnyH_ready (rs := [20]) (by kernel_rfl) (by simp) ?_
        refine rdy rfl (fun K hK => ?_) AllReadyH.nil
        simp only [z1, z2, z3]
        refine op_build #[(0, pv bscb), (1, pv bend)] (by kernel_rfl) (bs2_run bscb bend _) ?_
        have HP27 := hid_of (HP26.out.alloc (.cells #[pv bscb, pv bend] 43))
        have HLx_27 : Hid (RelsAt (W26.alloc (.cells #[pv bscb, pv bend] 43)) W26.heap.size [(bscb, cscb, scbL Ls H), (bend, cend, endL g H)]) := rels_at [(bscb, cscb, scbL Ls H), (bend, cend, endL g H)] ((Rels.cons (Rels.cons (Rels.nil _) (HP26.out.at_ (b := bend) (c := cend) (L := endL g H) (.head _))) (HP26.out.at_ (b := bscb) (c := cscb) (L := scbL Ls H) (.tail _ (.tail _ (.tail _ (.tail _ (.head _))))))))
        clear HP26
        generalize W26.alloc (.cells #[pv bscb, pv bend] 43) = W27 at *
        generalize W26.heap.size = s27 at *
        clear hHeld
        refine hK.out _ _ (HP27.out.mo.cell rfl) (fun hHeld => ?_)
        clear hK K
        try simp only [zz]
        refine wpAnyH_ready (rs := [21]) (by kernel_rfl) (by simp) ?_
        refine rdy rfl (fun K hK => ?_) AllReadyH.nil
        simp only [z1, z2, z3]
        go_simp
        refine (HP27.out.calls_rel (baseL g Ls H) (rcChain_named (bbeg) (cbeg) s27 (begL g H) [(bscb, cscb, scbL Ls H), (bend, cend, endL g H)] [scbL Ls H, endL g H] (map3_cons (map3_cons (map3_nil))) _ (HP27.out.at_ (.tail _ (.tail _ (.head _)))) HLx_27.out (by simp) (HT.out.step' HP27.out.low)) (baseL_eq ..)).mono ?_
        rintro e W28 ⟨bbase, cbase, rfl, HP28, HB28⟩
        clear HP27 HB28
        clear HLx_27
        clear hHeld
        refine hK.out _ _ (HP28.out.mo.cell rfl) (fun hHeld => ?_)
        clear hK K
        try simp only [zz]
        refine tk 22 rfl ?_; simp only [zz]
        refine tk 23 rfl ?_; simp only [zz]
        refine tk 24 rfl ?_; simp only [zz]
        refine wpAnyH_ready (rs := [25]) (by kernel_rfl) (by simp) ?_
        refine rdy rfl (fun K hK => ?_) AllReadyH.nil
        have HP29 := hid_of (HP28.out.put hm0 5 (by omega) (pv bbase))
        have cs0 := HP28.out.mo.cell (j := 26) (v := (updR (r) 4 (pv bscb)) 5) rfl
        have fz0 := HP28.out.mo.frozen 26
        simp only [z1, z2, z3]
        go_simp
        clear cs0 fz0 HP28
        clear hHeld
        refine hK.out _ _ (HP29.out.mo.cell rfl) (fun hHeld => ?_)
        clear hK K
        try simp only [zz]
        refine wpAnyH_done (by kernel_rfl) ?_ _
        clear hHeld
        go_wp2_with fail
        go_meet
        case rel => exact ⟨bbase, cbase, ⟨HP29.out.low, HP29.out.tch, HP29.out.mo, HP29.out.fx, HP29.out.rd, HP29.out.wt, HP29.out.fe, (Rels.cons (Rels.cons (Rels.cons (Rels.cons (Rels.cons (Rels.cons (Rels.cons (Rels.cons (Rels.cons (Rels.cons (Rels.cons (Rels.cons (Rels.cons (Rels.cons (Rels.cons (Rels.cons (Rels.cons (Rels.cons (Rels.nil _) (HP29.out.at_ (b := beco) (c := ceco) (L := C) (.tail _ (.tail _ (.tail _ (.tail _ (.tail _ (.tail _ (.tail _ (.tail _ (.tail _ (.tail _ (.tail _ (.tail _ (.tail _ (.tail _ (.tail _ (.tail _ (.tail _ (.tail _ (.tail _ (.tail _ (.tail _ (.head _)))))))))))))))))))))))) (HP29.out.at_ (b := bhb) (c := chb) (L := H) (.tail _ (.tail _ (.tail _ (.tail _ (.tail _ (.tail _ (.tail _ (.tail _ (.tail _ (.tail _ (.tail _ (.tail _ (.tail _ (.tail _ (.tail _ (.tail _ (.tail _ (.tail _ (.tail _ (.tail _ (.head _))))))))))))))))))))))) (HP29.out.at_ (b := bs 5) (c := cs 5) (L := Ls 5) (.tail _ (.tail _ (.tail _ (.tail _ (.tail _ (.tail _ (.tail _ (.tail _ (.tail _ (.tail _ (.tail _ (.tail _ (.tail _ (.tail _ (.tail _ (.tail _ (.tail _ (.tail _ (.tail _ (.head _)))))))))))))))))))))) (HP29.out.at_ (b := bs 3) (c := cs 3) (L := Ls 3) (.tail _ (.tail _ (.tail _ (.tail _ (.tail _ (.tail _ (.tail _ (.tail _ (.tail _ (.tail _ (.tail _ (.tail _ (.tail _ (.tail _ (.tail _ (.tail _ (.tail _ (.tail _ (.head _))))))))))))))))))))) (HP29.out.at_ (b := bs 2) (c := cs 2) (L := Ls 2) (.tail _ (.tail _ (.tail _ (.tail _ (.tail _ (.tail _ (.tail _ (.tail _ (.tail _ (.tail _ (.tail _ (.tail _ (.tail _ (.tail _ (.tail _ (.tail _ (.tail _ (.head _)))))))))))))))))))) (HP29.out.at_ (b := bs 0) (c := cs 0) (L := Ls 0) (.tail _ (.tail _ (.tail _ (.tail _ (.tail _ (.tail _ (.tail _ (.tail _ (.tail _ (.tail _ (.tail _ (.tail _ (.tail _ (.tail _ (.tail _ (.tail _ (.head _))))))))))))))))))) (HP29.out.at_ (b := bsa) (c := csa) (L := scI g) (.tail _ (.tail _ (.tail _ (.tail _ (.tail _ (.tail _ (.tail _ (.tail _ (.tail _ (.tail _ (.tail _ (.tail _ (.tail _ (.tail _ (.tail _ (.head _)))))))))))))))))) (HP29.out.at_ (b := brd) (c := crd) (L := rdI g) (.tail _ (.tail _ (.tail _ (.tail _ (.tail _ (.tail _ (.tail _ (.tail _ (.tail _ (.tail _ (.tail _ (.tail _ (.tail _ (.tail _ (.head _))))))))))))))))) (HP29.out.at_ (b := bwr) (c := cwr) (L := wrI g) (.tail _ (.tail _ (.tail _ (.tail _ (.tail _ (.tail _ (.tail _ (.tail _ (.tail _ (.tail _ (.tail _ (.tail _ (.tail _ (.head _)))))))))))))))) (HP29.out.at_ (b := brw) (c := crw) (L := rwL g) (.tail _ (.tail _ (.tail _ (.tail _ (.tail _ (.tail _ (.tail _ (.tail _ (.tail _ (.tail _ (.tail _ (.tail _ (.head _))))))))))))))) (HP29.out.at_ (b := bac) (c := cac) (L := acL g) (.tail _ (.tail _ (.tail _ (.tail _ (.tail _ (.tail _ (.tail _ (.tail _ (.tail _ (.tail _ (.tail _ (.head _)))))))))))))) (HP29.out.at_ (b := bsf) (c := csf) (L := scI g) (.tail _ (.tail _ (.tail _ (.tail _ (.tail _ (.tail _ (.tail _ (.tail _ (.tail _ (.tail _ (.head _))))))))))))) (HP29.out.at_ (b := bfe) (c := cfe) (L := feI g) (.tail _ (.tail _ (.tail _ (.tail _ (.tail _ (.tail _ (.tail _ (.tail _ (.tail _ (.head _)))))))))))) (HP29.out.at_ (b := bfs) (c := cfs) (L := fsL g) (.tail _ (.tail _ (.tail _ (.tail _ (.tail _ (.tail _ (.tail _ (.tail _ (.head _))))))))))) (HP29.out.at_ (b := bap) (c := cap) (L := apL Ls) (.tail _ (.tail _ (.tail _ (.tail _ (.tail _ (.tail _ (.tail _ (.head _)))))))))) (HP29.out.at_ (b := boh) (c := coh) (L := optL H) (.tail _ (.tail _ (.tail _ (.tail _ (.tail _ (.tail _ (.head _))))))))) (HP29.out.at_ (b := bscb) (c := cscb) (L := scbL Ls H) (.tail _ (.tail _ (.tail _ (.tail _ (.tail _ (.head _)))))))) (HP29.out.at_ (b := bbase) (c := cbase) (L := baseL g Ls H) (.head _)))⟩⟩
  case rest =>
  obtain ⟨bbase, cbase, HPxbase⟩ := hcut
  generalize hwq : wc = wxbase at *
  clear hwq HPxscb
  go_upto_region 7 with fail
  have HP18 := hid_of HPxbase.out.drew
  clear HPxbase
  refine wp_region_held_drew (S := fun W => W.cell? ⟨m, 23, none⟩ = some (pv bhb) ∧ W.cell? ⟨m, 24, none⟩ = some (pv beco)) (by kernel_rfl) ⟨(by rw [← HR2.out]; exact HP18.out.mo.cell rfl), (by rw [← HR3.out]; exact HP18.out.mo.cell rfl)⟩ (fun hHeld => ?_)
  generalize wxbase.drew = W18 at *
  refine tk 0 rfl ?_; simp only [zz]
  refine tk 1 rfl ?_; simp only [zz]
  refine tk 2 rfl ?_; simp only [zz]
  refine tk 3 rfl ?_; simp only [zz]
  refine tk 4 rfl ?_; simp only [zz]
  refine tk 5 rfl ?_; simp only [zz]
  refine tk 6 rfl ?_; simp only [zz]
  refine tk 7 rfl ?_; simp only [zz]
  refine tk 8 rfl ?_; simp only [zz]
  refine tk 9 rfl ?_; simp only [zz]
  refine tk 10 rfl ?_; simp only [zz]
  refine tk 11 rfl ?_; simp only [zz]
  refine tk 12 rfl ?_; simp only [zz]
  refine tk 13 rfl ?_; simp only [zz]
  refine tk 14 rfl ?_; simp only [zz]
  refine tk 15 rfl ?_; simp only [zz]
  refine tk 16 rfl ?_; simp only [zz]
  refine tk 17 rfl ?_; simp only [zz]
  refine tk 18 rfl ?_; simp only [zz]
  refine tk 19 rfl ?_; simp only [zz]
  refine tk 20 rfl ?_; simp only [zz]
  refine tk 21 rfl ?_; simp only [zz]
  refine tk 26 rfl ?_; simp only [zz]
  refine wpAnyH_ready (rs := [22]) (by kernel_rfl) (by simp) ?_
  refine rdy rfl (fun K hK => ?_) AllReadyH.nil
  simp only [z1, z2, z3]
  refine op_build #[(0, pv beco), (1, pv bhb)] (by kernel_rfl) (bs2_run beco bhb _) ?_
  have HP19 := hid_of (HP18.out.alloc (.cells #[pv beco, pv bhb] 43))
  have HLp_19 : Hid (RelsAt (W18.alloc (.cells #[pv beco, pv bhb] 43)) W18.heap.size [(beco, ceco, C), (bhb, chb, H)]) := rels_at [(beco, ceco, C), (bhb, chb, H)] ((Rels.cons (Rels.cons (Rels.nil _) (HP18.out.at_ (b := bhb) (c := chb) (L := H) (.tail _ (.tail _ (.tail _ (.tail _ (.tail _ (.tail _ (.tail _ (.tail _ (.tail _ (.tail _ (.tail _ (.tail _ (.tail _ (.tail _ (.tail _ (.tail _ (.head _))))))))))))))))))) (HP18.out.at_ (b := beco) (c := ceco) (L := C) (.tail _ (.tail _ (.tail _ (.tail _ (.tail _ (.tail _ (.tail _ (.tail _ (.tail _ (.tail _ (.tail _ (.tail _ (.tail _ (.tail _ (.tail _ (.tail _ (.tail _ (.head _)))))))))))))))))))))
  clear HP18
  generalize W18.alloc (.cells #[pv beco, pv bhb] 43) = W19 at *
  generalize W18.heap.size = s19 at *
  clear hHeld
  refine hK.out _ _ ⟨(by rw [← HR2.out]; exact HP19.out.mo.cell rfl), (by rw [← HR3.out]; exact HP19.out.mo.cell rfl)⟩ (fun hHeld => ?_)
  clear hK K
  try simp only [zz]
  refine wpAnyH_ready (rs := [23]) (by kernel_rfl) (by simp) ?_
  refine rdy rfl (fun K hK => ?_) AllReadyH.nil
  simp only [z1, z2, z3]
  go_simp
  refine (HP19.out.calls_rel (hehL H C) (rcChain_named (bhb) (chb) s19 (H) [(beco, ceco, C), (bhb, chb, H)] [C, H] (map3_cons (map3_cons (map3_nil))) _ (HP19.out.at_ (.tail _ (.tail _ (.tail _ (.tail _ (.tail _ (.tail _ (.tail _ (.tail _ (.tail _ (.tail _ (.tail _ (.tail _ (.tail _ (.tail _ (.tail _ (.tail _ (.head _)))))))))))))))))) HLp_19.out (by simp) (HT.out.step' HP19.out.low)) (hehL_eq ..)).mono ?_
  rintro e W20 ⟨bheh, cheh, rfl, HP20, HB20⟩
  clear HP19 HB20
  clear HLp_19
  clear hHeld
  refine hK.out _ _ ⟨(by rw [← HR2.out]; exact HP20.out.mo.cell rfl), (by rw [← HR3.out]; exact HP20.out.mo.cell rfl)⟩ (fun hHeld => ?_)
  clear hK K
  try simp only [zz]
  refine wpAnyH_ready (rs := [24]) (by kernel_rfl) (by simp) ?_
  refine rdy rfl (fun K hK => ?_) AllReadyH.nil
  simp only [z1, z2, z3]
  refine op_build #[(0, pv bhb), (1, pv bheh)] (by kernel_rfl) (bs2_run bhb bheh _) ?_
  have HP21 := hid_of (HP20.out.alloc (.cells #[pv bhb, pv bheh] 43))
  have HLq_21 : Hid (RelsAt (W20.alloc (.cells #[pv bhb, pv bheh] 43)) W20.heap.size [(bhb, chb, H), (bheh, cheh, hehL H C)]) := rels_at [(bhb, chb, H), (bheh, cheh, hehL H C)] ((Rels.cons (Rels.cons (Rels.nil _) (HP20.out.at_ (b := bheh) (c := cheh) (L := hehL H C) (.head _))) (HP20.out.at_ (b := bhb) (c := chb) (L := H) (.tail _ (.tail _ (.tail _ (.tail _ (.tail _ (.tail _ (.tail _ (.tail _ (.tail _ (.tail _ (.tail _ (.tail _ (.tail _ (.tail _ (.tail _ (.tail _ (.tail _ (.head _)))))))))))))))))))))
  clear HP20
  generalize W20.alloc (.cells #[pv bhb, pv bheh] 43) = W21 at *
  generalize W20.heap.size = s21 at *
  clear hHeld
  refine hK.out _ _ ⟨(by rw [← HR2.out]; exact HP21.out.mo.cell rfl), (by rw [← HR3.out]; exact HP21.out.mo.cell rfl)⟩ (fun hHeld => ?_)
  clear hK K
  try simp only [zz]
  refine wpAnyH_ready (rs := [25]) (by kernel_rfl) (by simp) ?_
  refine rdy rfl (fun K hK => ?_) AllReadyH.nil
  simp only [z1, z2, z3]
  go_simp
  refine (HP21.out.calls_made (uhhL H C) (Union_named s21 [(bhb, chb, H), (bheh, cheh, hehL H C)] [H, hehL H C] (map3_cons (map3_cons (map3_nil))) _ HLq_21.out (by simp)) (uhhL_eq ..)).mono ?_
  rintro e W22 ⟨buhh, cuhh, rfl, HP22, HB22⟩
  clear HP21 HB22
  clear HLq_21
  clear hHeld
  refine hK.out _ _ ⟨(by rw [← HR2.out]; exact HP22.out.mo.cell rfl), (by rw [← HR3.out]; exact HP22.out.mo.cell rfl)⟩ (fun hHeld => ?_)
  clear hK K
  try simp only [zz]
  refine wpAnyH_ready (rs := [27]) (by kernel_rfl) (by simp) ?_
  refine rdy rfl (fun K hK => ?_) AllReadyH.nil
  simp only [z1, z2, z3]
  refine op_build #[(0, pv buhh), (1, pv bfs)] (by kernel_rfl) (bs2_run buhh bfs _) ?_
  have HP23 := hid_of (HP22.out.alloc (.cells #[pv buhh, pv bfs] 43))
  have HLu_23 : Hid (RelsAt (W22.alloc (.cells #[pv buhh, pv bfs] 43)) W22.heap.size [(buhh, cuhh, uhhL H C), (bfs, cfs, fsL g)]) := rels_at [(buhh, cuhh, uhhL H C), (bfs, cfs, fsL g)] ((Rels.cons (Rels.cons (Rels.nil _) (HP22.out.at_ (b := bfs) (c := cfs) (L := fsL g) (.tail _ (.tail _ (.tail _ (.tail _ (.tail _ (.tail _ (.head _))))))))) (HP22.out.at_ (b := buhh) (c := cuhh) (L := uhhL H C) (.head _))))
  clear HP22
  generalize W22.alloc (.cells #[pv buhh, pv bfs] 43) = W23 at *
  generalize W22.heap.size = s23 at *
  clear hHeld
  refine hK.out _ _ ⟨(by rw [← HR2.out]; exact HP23.out.mo.cell rfl), (by rw [← HR3.out]; exact HP23.out.mo.cell rfl)⟩ (fun hHeld => ?_)
  clear hK K
  try simp only [zz]
  refine wpAnyH_ready (rs := [28]) (by kernel_rfl) (by simp) ?_
  refine rdy rfl (fun K hK => ?_) AllReadyH.nil
  simp only [z1, z2, z3]
  go_simp
  refine (HP23.out.calls_rel (pscL g H C) (rcChain_named (bfs) (cfs) s23 (fsL g) [(buhh, cuhh, uhhL H C), (bfs, cfs, fsL g)] [uhhL H C, fsL g] (map3_cons (map3_cons (map3_nil))) _ (HP23.out.at_ (.tail _ (.tail _ (.tail _ (.tail _ (.tail _ (.tail _ (.head _)))))))) HLu_23.out (by simp) (HT.out.step' HP23.out.low)) (pscL_eq ..)).mono ?_
  rintro e W24 ⟨bpsc, cpsc, rfl, HP24, HB24⟩
  clear HP23 HB24
  clear HLu_23
  clear hHeld
  refine hK.out _ _ ⟨(by rw [← HR2.out]; exact HP24.out.mo.cell rfl), (by rw [← HR3.out]; exact HP24.out.mo.cell rfl)⟩ (fun hHeld => ?_)
  clear hK K
  try simp only [zz]
  refine tk 29 rfl ?_; simp only [zz]
  refine tk 30 rfl ?_; simp only [zz]
  refine tk 31 rfl ?_; simp only [zz]
  refine wpAnyH_ready (rs := [32]) (by kernel_rfl) (by simp) ?_
  refine rdy rfl (fun K hK => ?_) AllReadyH.nil
  have HP25 := hid_of (HP24.out.put hm0 6 (by omega) (pv bpsc))
  have cs0 := HP24.out.mo.cell (j := 27) (v := (updR (updR (r) 4 (pv bscb)) 5 (pv bbase)) 6) rfl
  have fz0 := HP24.out.mo.frozen 27
  simp only [z1, z2, z3]
  go_simp
  clear cs0 fz0 HP24
  clear hHeld
  refine hK.out _ _ ⟨(by rw [← HR2.out]; exact HP25.out.mo.cell rfl), (by rw [← HR3.out]; exact HP25.out.mo.cell rfl)⟩ (fun hHeld => ?_)
  clear hK K
  try simp only [zz]
  refine wpAnyH_done (by kernel_rfl) ?_ _
  clear hHeld
  go_wp2_with fail
  go_end0
  exact ⟨rfl, bscb, cscb, bbase, cbase, bpsc, cpsc, (Rels.cons (Rels.cons (Rels.cons (Rels.nil _) (HP25.out.at_ (b := bscb) (c := cscb) (L := scbL Ls H) (.tail _ (.tail _ (.tail _ (.tail _ (.head _))))))) (HP25.out.at_ (b := bbase) (c := cbase) (L := baseL g Ls H) (.tail _ (.tail _ (.tail _ (.head _)))))) (HP25.out.at_ (b := bpsc) (c := cpsc) (L := pscL g H C) (.head _))), HP25.out.mo, HP25.out.tch⟩
end Go.Proofs.YtjhhimjnoljojaaGreatDoor
namespace Go.Proofs.YtjhhimjnoljojaaGreatDoor
open Go.RowKit Go.Shelf Sx
theorem twr_eq {n : Nat} {F : Nat → Nat → Bool} {L M : List Nat} (h1 : TwR n F L) (h2 : TwR n F M) (w1 : WF L.length L) (w2 : WF M.length M) : L = M := by
  refine List.ext_getElem (by rw [h1.len, h2.len]) (fun i hi hj => ?_)
  have e1 : L[i] = gr L i := by have := gr_of hi; rw [List.getElem?_eq_getElem hi] at this; exact Option.some.inj this
  have e2 : M[i] = gr M i := by have := gr_of hj; rw [List.getElem?_eq_getElem hj] at this; exact Option.some.inj this
  rw [e1, e2]
  refine Nat.eq_of_testBit_eq (fun q => ?_)
  by_cases hq : q < n
  · rw [← h1.same i q (by rw [← h1.len]; exact hi) hq, ← h2.same i q (by rw [← h2.len]; exact hj) hq]
  · have f1 : (gr L i).testBit q = false := by
      cases e : (gr L i).testBit q
      · rfl
      · exact absurd (w1.low i q e) (by rw [h1.len]; exact hq)
    have f2 : (gr M i).testBit q = false := by
      cases e : (gr M i).testBit q
      · rfl
      · exact absurd (w2.low i q e) (by rw [h2.len]; exact hq)
    rw [f1, f2]
def rowK (f : Nat → Bool) : Nat → Nat
  | 0 => 0
  | k + 1 => setB (rowK f k) k (f k)
theorem testBit_rowK (f : Nat → Bool) (k q : Nat) : (rowK f k).testBit q = (decide (q < k) && f q) := by
  induction k with
  | zero => simp [rowK]
  | succ k ih =>
    rw [rowK, testBit_setB, ih]
    by_cases h : q = k
    · subst h; simp
    · rw [if_neg h]
      by_cases h2 : q < k
      · rw [decide_eq_true h2, decide_eq_true (show q < k + 1 by omega)]
      · rw [decide_eq_false h2, decide_eq_false (show ¬ q < k + 1 by omega)]
def canL (n : Nat) (F : Nat → Nat → Bool) : List Nat := (List.range n).map (fun p => rowK (F p) n)
theorem canL_length (n : Nat) (F : Nat → Nat → Bool) : (canL n F).length = n := by simp [canL]
theorem gr_canL (n : Nat) (F : Nat → Nat → Bool) {p : Nat} (hp : p < n) : gr (canL n F) p = rowK (F p) n := gr_eq (by simp [canL, hp])
theorem canL_twr (n : Nat) (F : Nat → Nat → Bool) : TwR n F (canL n F) := ⟨canL_length n F, fun p q hp hq => by rw [gr_canL n F hp, testBit_rowK, decide_eq_true hq, Bool.true_and]⟩
theorem canL_wf (n : Nat) (F : Nat → Nat → Bool) : WF n (canL n F) := by
  refine ⟨canL_length n F, fun p q h => ?_⟩
  have hp := hs_left h
  rw [canL_length] at hp
  unfold hs at h
  rw [gr_canL n F hp, testBit_rowK, Bool.and_eq_true, decide_eq_true_iff] at h
  exact h.1
theorem can_of {w : World} {b c n : Nat} {L : List Nat} {F : Nat → Nat → Bool} (hr : IsRel w b c L) (ht : TwR n F L) : L = canL n F :=
  twr_eq ht (canL_twr n F) (rel_wf hr) (by rw [canL_length]; exact canL_wf n F)
theorem Rels.at_ {w : World} {E : List (Nat × Nat × List Nat)} (h : Rels w E) {b c : Nat} {L : List Nat} (hx : (b, c, L) ∈ E) : IsRel w b c L := h _ hx
def LG (g : Gr) : Nat → List Nat
  | 0 => canL g.evs.length (poB g.evs)
  | 1 => canL g.evs.length (memB g.rf)
  | 2 => canL g.evs.length (coB g)
  | 3 => canL g.evs.length (frB g)
  | 4 => canL g.evs.length (memB g.rmw)
  | 5 => canL g.evs.length (sameEv g.evs)
  | 6 => canL g.evs.length (extB g.evs)
  | 7 => canL g.evs.length (memB g.addr)
  | 8 => canL g.evs.length (memB g.dat)
  | _ => canL g.evs.length (memB g.ctrl)
def fstN (f : Nat → List Int) : Nat → List Int
  | 0 => []
  | k + 1 => if (fstN f k).isEmpty then f k else fstN f k
theorem fstN_none {f : Nat → List Int} : ∀ {k : Nat}, (∀ a, a < k → f a = []) → fstN f k = []
  | 0, _ => rfl
  | k + 1, h => by rw [fstN, fstN_none (fun a ha => h a (by omega))]; exact h k (by omega)
theorem fstN_some {f : Nat → List Int} {i : Nat} (h : ∀ a, a < i → f a = []) (hi : f i ≠ []) : ∀ {k : Nat}, i < k → fstN f k = f i
  | 0, hk => by omega
  | k + 1, hk => by
    rw [fstN]
    by_cases e : i = k
    · subst e
      rw [fstN_none h]
      rfl
    · rw [fstN_some h hi (k := k) (by omega)]
      cases hf : f i with
      | nil => exact absurd hf hi
      | cons x t => rfl
def incoB (H E : List Nat) (a b : Nat) : List Int := if hasP H ((a : Nat) : Int) ((b : Nat) : Int) && hasP E ((b : Nat) : Int) ((a : Nat) : Int) then [((a : Nat) : Int), ((b : Nat) : Int)] else []
def incoA (H E : List Nat) (n a : Nat) : List Int := if hasP H ((a : Nat) : Int) ((a : Nat) : Int) then [((a : Nat) : Int)] else fstN (incoB H E a) n
def incoL (H E : List Nat) : List Int := fstN (incoA H E H.length) H.length
def tornP (B : List Nat) (p : Int × Int) : List Int := if hasP B p.1 p.2 then [p.1, p.2] else []
def tornA (B : List Nat) (l : List (Int × Int)) (i : Nat) : List Int := tornP B (l.getD i (0, 0))
def tornL (B : List Nat) (l : List (Int × Int)) : List Int := fstN (tornA B l) l.length
def seqL (g : Gr) : List Nat := unionL [baseL g (LG g) (hbL g (LG g)), pscL g (hbL g (LG g)) (ecoL (LG g))]
def airL (g : Gr) : List Nat := unionL [LG g 0, LG g 1]
def inco (g : Gr) : List Int := incoL (hbL g (LG g)) (ecoL (LG g))
def torn (g : Gr) : List Int := tornL (compL (LG g 3) (LG g 2)) g.rmw
def upI (l : List Nat) : List Int := l.map (fun x => ((x : Nat) : Int))
def RcOK (g : Gr) (ax : Int) (l : List Int) : Prop :=
  (inco g ≠ [] ∧ ax = 1 ∧ l = inco g) ∨ (inco g = [] ∧ torn g ≠ [] ∧ ax = 2 ∧ l = torn g) ∨
  (inco g = [] ∧ torn g = [] ∧ ∃ o3, CycOK (seqL g) o3 ∧ ((o3 ≠ [] ∧ ax = 3 ∧ l = upI o3) ∨ (o3 = [] ∧ ∃ o4, CycOK (airL g) o4 ∧ ((o4 ≠ [] ∧ ax = 4 ∧ l = upI o4) ∨ (o4 = [] ∧ ax = 0 ∧ l = [])))))
def RcAns (g : Gr) (ax : Int) (l : List Int) (e : Int) : Prop := ((chk g false).1 ≠ 0 ∧ ax = 0 ∧ l = [] ∧ e = 4) ∨ ((chk g false).1 = 0 ∧ e = 0 ∧ RcOK g ax l)
def KeptN (g : Gr) (i : Nat) : Prop := (0 < i → inco g = []) ∧ (1 < i → torn g = []) ∧ (2 < i → CycOK (seqL g) []) ∧ (3 < i → CycOK (airL g) [])
def Brk (g : Gr) (i : Nat) (l : List Int) : Prop := (i = 0 → l = inco g) ∧ (i = 1 → l = torn g) ∧ (i = 2 → ∃ o, CycOK (seqL g) o ∧ l = upI o) ∧ (i = 3 → ∃ o, CycOK (airL g) o ∧ l = upI o)
theorem upI_nil {o : List Nat} (h : upI o = []) : o = [] := by
  cases o with
  | nil => rfl
  | cons x t => simp [upI] at h
theorem KeptN.zero (g : Gr) : KeptN g 0 := ⟨fun h => absurd h (by omega), fun h => absurd h (by omega), fun h => absurd h (by omega), fun h => absurd h (by omega)⟩
theorem KeptN.next {g : Gr} {i : Nat} (h : KeptN g i) (hi : i < 4) (hb : Brk g i []) : KeptN g (i + 1) := by
  obtain ⟨h0, h1, h2, h3⟩ := h
  obtain ⟨b0, b1, b2, b3⟩ := hb
  refine ⟨fun _ => ?_, fun _ => ?_, fun _ => ?_, fun _ => ?_⟩
  · by_cases e : i = 0
    · exact (b0 e).symm
    · exact h0 (by omega)
  · by_cases e : i = 1
    · exact (b1 e).symm
    · exact h1 (by omega)
  · by_cases e : i = 2
    · obtain ⟨o, ho, he⟩ := b2 e
      rw [upI_nil he.symm] at ho
      exact ho
    · exact h2 (by omega)
  · have e : i = 3 := by omega
    obtain ⟨o, ho, he⟩ := b3 e
    rw [upI_nil he.symm] at ho
    exact ho
theorem KeptN.told {g : Gr} {i : Nat} (h : KeptN g i) (hi : i < 4) {l : List Int} (hb : Brk g i l) (hl : l ≠ []) : RcOK g (((i : Nat) : Int) + 1) l := by
  obtain ⟨h0, h1, h2, h3⟩ := h
  obtain ⟨b0, b1, b2, b3⟩ := hb
  match i, hi with
  | 0, _ => exact .inl ⟨by rw [← b0 rfl]; exact hl, rfl, b0 rfl⟩
  | 1, _ => exact .inr (.inl ⟨h0 (by omega), by rw [← b1 rfl]; exact hl, rfl, b1 rfl⟩)
  | 2, _ =>
    obtain ⟨o, ho, he⟩ := b2 rfl
    exact .inr (.inr ⟨h0 (by omega), h1 (by omega), o, ho, .inl ⟨fun e => hl (by rw [he, e]; rfl), rfl, he⟩⟩)
  | 3, _ =>
    obtain ⟨o, ho, he⟩ := b3 rfl
    exact .inr (.inr ⟨h0 (by omega), h1 (by omega), [], h2 (by omega), .inr ⟨rfl, o, ho, .inl ⟨fun e => hl (by rw [he, e]; rfl), rfl, he⟩⟩⟩)
theorem KeptN.all {g : Gr} (h : KeptN g 4) : RcOK g 0 [] :=
  .inr (.inr ⟨h.1 (by omega), h.2.1 (by omega), [], h.2.2.1 (by omega), .inr ⟨rfl, [], h.2.2.2 (by omega), .inr ⟨rfl, rfl, rfl⟩⟩⟩)
theorem encJ_up (l : List Nat) : encJ (upI l) = encI l := by simp [encJ, upI, encI]
theorem owns1 {W : World} {base s : Nat} {x : Int} (h : Blk W s 3 #[.int .i64 x]) (hb : base ≤ s) : W.ownsRow base 3 1 (.slice (some ⟨s, 0, none⟩) 1 1) ([x] : List Int).length (encJ [x]) :=
  ⟨by simp [encJ], .inr ⟨s, 1, _, rfl, hb, h, Nat.le_refl _, by decide, by simp, by simp [encJ]⟩⟩
theorem owns2 {W : World} {base s : Nat} {x y : Int} (h : Blk W s 3 #[.int .i64 x, .int .i64 y]) (hb : base ≤ s) : W.ownsRow base 3 1 (.slice (some ⟨s, 0, none⟩) 2 2) ([x, y] : List Int).length (encJ [x, y]) :=
  ⟨by simp [encJ], .inr ⟨s, 2, _, rfl, hb, h, Nat.le_refl _, by decide, by simp, by simp [encJ]⟩⟩
structure Mdl (w0 : World) (V : GrV) (g : Gr) (m : Nat) (bs cs : Nat → Nat) (br bw bf : Nat) (r : Nat → Value) (ks ls : Nat → Nat) (wk : World) : Prop where
  hm : w0.heap.size ≤ m
  low : Below w0.heap.size w0 wk
  mo : Blk wk m 87 (moC V g bs br bw bf r)
  rd : Blk wk br 4 (arrB (kndL g 1))
  wt : Blk wk bw 4 (arrB (kndL g 2))
  fe : Blk wk bf 4 (arrB (kndL g 3))
  E : ∀ i, i < 10 → IsRel wk (bs i) (cs i) (LG g i)
  rs : IsRel wk (ks 0) (ls 0) (rsL g (LG g))
  sw : IsRel wk (ks 1) (ls 1) (swL g (LG g))
  hb : IsRel wk (ks 2) (ls 2) (hbL g (LG g))
  eco : IsRel wk (ks 3) (ls 3) (ecoL (LG g))
  r : ∀ i, i < 4 → r i = pv (ks i)
theorem Mdl.below {w0 : World} {V : GrV} {g : Gr} {m : Nat} {bs cs : Nat → Nat} {br bw bf : Nat} {r : Nat → Value} {ks ls : Nat → Nat} {wk wk' : World} (h : Mdl w0 V g m bs cs br bw bf r ks ls wk) (hb : Below wk.heap.size wk wk') : Mdl w0 V g m bs cs br bw bf r ks ls wk' :=
  ⟨h.hm, below_step h.low h.low.size hb, h.mo.of_below hb, h.rd.of_below hb, h.wt.of_below hb, h.fe.of_below hb, fun i hi => (h.E i hi).below hb, h.rs.below hb, h.sw.below hb, h.hb.below hb, h.eco.below hb, h.r⟩
theorem rel_touch {w w' : World} {b c m : Nat} {L : List Nat} {old : Array Value} (h : IsRel w b c L) (hm : Blk w m 87 old) (ht : Touch m w w') : IsRel w' b c L :=
  ⟨h.ne, h.head.touch ht (blk_ne2 h.head hm (by decide)), h.rows.touch ht (blk_ne2 h.rows hm (by decide)), h.len, h.low⟩
theorem Mdl.touch {w0 : World} {V : GrV} {g : Gr} {m : Nat} {bs cs : Nat → Nat} {br bw bf : Nat} {r r' : Nat → Value} {ks ls : Nat → Nat} {wk wk' : World} (h : Mdl w0 V g m bs cs br bw bf r ks ls wk) (ht : Touch m wk wk') (hmo : Blk wk' m 87 (moC V g bs br bw bf r')) (hr : ∀ i, i < 4 → r' i = r i) : Mdl w0 V g m bs cs br bw bf r' ks ls wk' :=
  ⟨h.hm, h.low.trans (ht.below h.hm h.low.size), hmo, h.rd.touch ht (blk_ne2 h.rd h.mo (by decide)), h.wt.touch ht (blk_ne2 h.wt h.mo (by decide)), h.fe.touch ht (blk_ne2 h.fe h.mo (by decide)), fun i hi => rel_touch (h.E i hi) h.mo ht, rel_touch h.rs h.mo ht, rel_touch h.sw h.mo ht, rel_touch h.hb h.mo ht, rel_touch h.eco h.mo ht, fun i hi => (hr i hi).trans (h.r i hi)⟩
end Go.Proofs.YtjhhimjnoljojaaGreatDoor
namespace Go.Proofs.YtjhhimjnoljojaaGreatDoor
open Go.RowKit Go.Shelf Sx
def layF (L Bk : List Nat) (start : Nat) : Nat → Nat → Nat → List Nat
  | 0, _, _ => []
  | f + 1, seen, near => if near = 0 then [] else near :: (if gr L start &&& near = 0 then layF L Bk start f (seen ||| near) (ldiff (joinRows Bk (bitsOf near)) (seen ||| near)) else [])
theorem lay_take (L Bk : List Nat) (start : Nat) : ∀ (f seen near : Nat) (ly : List Nat), LayOK L Bk start seen near ly → ly.take f = layF L Bk start f seen near
  | 0, _, _, _, _ => by simp [layF]
  | f + 1, seen, near, [], h => by
    have h : near = 0 := h
    simp [layF, h]
  | f + 1, seen, near, x :: rest, h => by
    obtain ⟨h1, h2, h3, h4⟩ := h
    simp only [layF, if_neg h1, List.take_succ_cons, h2]
    by_cases hh : gr L start &&& near = 0
    · rw [if_pos hh, lay_take L Bk start f _ _ rest (h3 hh)]
    · rw [if_neg hh, h4 hh]; simp
theorem lay_is {L Bk : List Nat} {start f seen near : Nat} {ly : List Nat} (h : LayOK L Bk start seen near ly) (hl : (layF L Bk start f seen near).length < f) : ly = layF L Bk start f seen near := by
  have ht := lay_take L Bk start f seen near ly h
  rw [← ht] at hl ⊢
  rw [List.length_take] at hl
  rw [List.take_of_length_le (by omega)]
def cycV (L : List Nat) (f : Nat) : Option (List Nat) :=
  match bitsOf (loopsL (plusL L)) with
  | [] => some []
  | s :: _ => if (layF L (invL L) s f 0 (setB 0 s true)).length < f then some (s :: cycF L s (remL (layF L (invL L) s f 0 (setB 0 s true)) ((layF L (invL L) s f 0 (setB 0 s true)).length - 1))) else none
theorem cyc_eval {L o x : List Nat} (f : Nat) (h : CycOK L o) (hv : cycV L f = some x) : o = x := by
  unfold cycV at hv
  rcases h with ⟨e, e2⟩ | ⟨s, tl, ly, e, hly, e2⟩
  · rw [e] at hv
    rw [e2]
    exact Option.some.inj hv
  · rw [e] at hv
    dsimp only at hv
    split at hv
    · rename_i hl
      have := lay_is hly hl
      rw [← this] at hv
      rw [e2]
      exact Option.some.inj hv
    · cases hv
theorem rcBad5 {g : Gr} {a b : List Int} (hc : g.cells = 2) (ho : g.co = [a, b]) (h0 : isOrdB a 0 (wrs g 0 g.evs.length) = true) (h1 : isOrdB b 1 (wrs g 1 g.evs.length) = true) : bad5 g = -1 := by
  have k0 : bad5c g 0 = false := by
    unfold bad5c
    rw [ho]
    show (decide (2 ≤ 0) || !isOrdB a 0 (wrs g 0 g.evs.length)) = false
    rw [h0]
    rfl
  have k1 : bad5c g 1 = false := by
    unfold bad5c
    rw [ho]
    show (decide (2 ≤ 1) || !isOrdB b 1 (wrs g 1 g.evs.length)) = false
    rw [h1]
    rfl
  have h2 : fstBad (bad5c g) 0 g.cells.toNat = -1 := fstBad_none (fun j _ h => by
    rw [hc] at h
    have : (2 : Int).toNat = 2 := rfl
    match j, h with
    | 0, _ => exact k0
    | 1, _ => exact k1
    | j + 2, h => omega)
  unfold bad5
  rw [if_pos h2, hc, ho]
  rfl
theorem pre5 {g : Gr} {q : Bool} {k : Nat} (h5 : bad5 g = -1) (h : ∀ j, j < k → j ≠ 4 → rl g q j = -1) : ∀ j, j < k → rl g q j = -1 := fun j hj => by
  by_cases e : j = 4
  · rw [e]; exact h5
  · exact h j hj e
theorem srt_of {l : List Int} (h : l.Pairwise (fun x y => decide (x ≤ y) = true)) : srtI l = l := by
  unfold srtI
  exact List.mergeSort_of_pairwise h
theorem ord_of {l : List Int} {c : Int} (h : l.Pairwise (fun x y => decide (x ≤ y) = true)) (h0 : l.getD 0 0 = c) {ws : List Int} (hw : ws = l) : isOrdB l c ws = true := by
  subst hw
  unfold isOrdB
  rw [srt_of h, h0]
  simp
section
variable {g : Gr} {ax : Int} {l : List Int} {e : Int}
theorem ansE (h : RcAns g ax l e) (hc : (chk g false).1 ≠ 0) : ax = 0 ∧ l = [] ∧ e = 4 := by
  rcases h with ⟨_, h⟩ | ⟨h0, _⟩
  · exact h
  · exact absurd h0 hc
theorem ansK (h : RcAns g ax l e) (hc : (chk g false).1 = 0) : e = 0 ∧ RcOK g ax l := by
  rcases h with ⟨h0, _⟩ | ⟨_, h⟩
  · exact absurd hc h0
  · exact h
theorem ans1 {x : List Int} (h : RcAns g ax l e) (hc : (chk g false).1 = 0) (h1 : inco g = x) (hx : x ≠ []) : ax = 1 ∧ l = x ∧ e = 0 := by
  obtain ⟨he, h⟩ := ansK h hc
  rcases h with ⟨_, a, b⟩ | ⟨h2, _⟩ | ⟨h2, _⟩
  · exact ⟨a, b.trans h1, he⟩
  · exact absurd (h1.symm.trans h2) hx
  · exact absurd (h1.symm.trans h2) hx
theorem ans3 {x : List Nat} (f : Nat) (h : RcAns g ax l e) (hc : (chk g false).1 = 0) (h1 : inco g = []) (h2 : torn g = []) (h3 : cycV (seqL g) f = some x) (hx : x ≠ []) : ax = 3 ∧ l = upI x ∧ e = 0 := by
  obtain ⟨he, h⟩ := ansK h hc
  rcases h with ⟨h4, _⟩ | ⟨_, h4, _⟩ | ⟨_, _, o, ho, h5⟩
  · exact absurd h1 h4
  · exact absurd h2 h4
  · have e2 := cyc_eval f ho h3
    subst e2
    rcases h5 with ⟨_, a, b⟩ | ⟨a, _⟩
    · exact ⟨a, b, he⟩
    · exact absurd a hx
theorem ans4 {x : List Nat} (f : Nat) (h : RcAns g ax l e) (hc : (chk g false).1 = 0) (h1 : inco g = []) (h2 : torn g = []) (h3 : cycV (seqL g) f = some []) (h4 : cycV (airL g) f = some x) : ax = (if x = [] then 0 else 4) ∧ l = upI x ∧ e = 0 := by
  obtain ⟨he, h⟩ := ansK h hc
  rcases h with ⟨h5, _⟩ | ⟨_, h5, _⟩ | ⟨_, _, o, ho, h5⟩
  · exact absurd h1 h5
  · exact absurd h2 h5
  · have e2 := cyc_eval f ho h3
    subst e2
    rcases h5 with ⟨a, _⟩ | ⟨_, o4, ho4, h6⟩
    · exact absurd rfl a
    · have e3 := cyc_eval f ho4 h4
      subst e3
      rcases h6 with ⟨a, b, c⟩ | ⟨a, b, c⟩
      · rw [if_neg a]
        exact ⟨b, c, he⟩
      · rw [if_pos a, a]
        exact ⟨b, c, he⟩
end
def twoG (evs : List Ev) (rf : List (Int × Int)) (x y : List Int) : Gr := ⟨2, [⟨-1, 2, 0, 0, 1⟩, ⟨-1, 2, 1, 0, 1⟩] ++ evs, rf, [0 :: x, 1 :: y], [], [], [], []⟩
def bufG (w r : Int) : Gr := twoG [⟨0, 2, 0, 1, w⟩, ⟨0, 1, 1, 0, r⟩, ⟨1, 2, 1, 1, w⟩, ⟨1, 1, 0, 0, r⟩] [(1, 3), (0, 5)] [2] [4]
def pasG (w r : Int) : Gr := twoG [⟨0, 2, 0, 1, 1⟩, ⟨0, 2, 1, 1, w⟩, ⟨1, 1, 1, 1, r⟩, ⟨1, 1, 0, 0, 1⟩] [(3, 4), (0, 5)] [2] [3]
theorem chk0 {g : Gr} {a b : List Int} (hc : g.cells = 2) (ho : g.co = [a, b]) (h0 : isOrdB a 0 (wrs g 0 g.evs.length) = true) (h1 : isOrdB b 1 (wrs g 1 g.evs.length) = true) (h : ∀ j, j < 9 → j ≠ 4 → rl g false j = -1) : (chk g false).1 = 0 := by
  rw [chk_none (pre5 (rcBad5 hc ho h0 h1) h)]
theorem buf11_chk : (chk (bufG 1 1) false).1 = 0 := chk0 rfl rfl (ord_of (by decide) rfl (by decide)) (ord_of (by decide) rfl (by decide)) (by decide)
theorem buf55_chk : (chk (bufG 5 5) false).1 = 0 := chk0 rfl rfl (ord_of (by decide) rfl (by decide)) (ord_of (by decide) rfl (by decide)) (by decide)
theorem pas32_chk : (chk (pasG 3 2) false).1 = 0 := chk0 rfl rfl (ord_of (by decide) rfl (by decide)) (ord_of (by decide) rfl (by decide)) (by decide)
theorem pas31_chk : (chk (pasG 3 1) false).1 = 0 := chk0 rfl rfl (ord_of (by decide) rfl (by decide)) (ord_of (by decide) rfl (by decide)) (by decide)
theorem buf11_ans {ax : Int} {l : List Int} {e : Int} (h : RcAns (bufG 1 1) ax l e) : ax = 0 ∧ l = [] ∧ e = 0 := ans4 (x := []) 9 h buf11_chk (by decide +kernel) (by decide +kernel) (by decide +kernel) (by decide +kernel)
theorem buf55_ans {ax : Int} {l : List Int} {e : Int} (h : RcAns (bufG 5 5) ax l e) : ax = 3 ∧ l = [2, 3, 4, 5] ∧ e = 0 := ans3 (x := [2, 3, 4, 5]) 9 h buf55_chk (by decide +kernel) (by decide +kernel) (by decide +kernel) (by decide)
theorem pas32_ans {ax : Int} {l : List Int} {e : Int} (h : RcAns (pasG 3 2) ax l e) : ax = 1 ∧ l = [2, 5] ∧ e = 0 := ans1 h pas32_chk (by decide +kernel) (by decide)
theorem pas31_ans {ax : Int} {l : List Int} {e : Int} (h : RcAns (pasG 3 1) ax l e) : ax = 0 ∧ l = [] ∧ e = 0 := ans4 (x := []) 9 h pas31_chk (by decide +kernel) (by decide +kernel) (by decide +kernel) (by decide +kernel)
theorem pas_sw : pairsL (swL (pasG 3 2) (LG (pasG 3 2))) = [(3, 4)] := by decide +kernel
end Go.Proofs.YtjhhimjnoljojaaGreatDoor
namespace Go.Proofs.YtjhhimjnoljojaaGreatDoor
open Go.RowKit Go.Shelf Sx
theorem wpList_build_is {P : Program} {ops : Array Oper} {rest : List Oper} {o : Oper} {a : Act} {w : World} {Q : Exit → Act → World → Prop} (hg : o.guard = none) (t : TypeId) (parts : Array (Nat × Operand)) (ho : o.op = .build t parts)
    (d : Option Tmp) (hd : o.dst = d) (cells : Array Value) (hf : P.built t (parts.map fun (i, x) => (i, a.eval x)).toList = some cells)
    (h : wpList P ops Q rest (a.put d (.agg cells)) w) : wpList P ops Q (o :: rest) a w := by
  subst hd
  refine wpList_build hg t parts ho (by rw [hf]; rfl) ?_
  rw [hf]
  exact h
theorem der_rels {g : Gr} {B : Nat} {v : Nat → Value} {f : Value} {lo : Nat → Nat} {w : World} (h : DerAt g B v f lo w) : ∃ (bs cs : Nat → Nat) (br bw bf : Nat), outV v f = fxC g.evs.length bs br bw bf ∧ (∀ i, i < 10 → IsRel w (bs i) (cs i) (LG g i)) ∧
    Blk w br 4 (arrB (kndL g 1)) ∧ Blk w bw 4 (arrB (kndL g 2)) ∧ Blk w bf 4 (arrB (kndL g 3)) := by
  obtain ⟨b0, c0, L0, e0, r0, t0, _⟩ := (h.res 0 (by omega)).rel (by omega)
  obtain ⟨b1, c1, L1, e1, r1, t1, _⟩ := (h.res 1 (by omega)).rel (by omega)
  obtain ⟨b2, c2, L2, e2, r2, t2, _⟩ := (h.res 2 (by omega)).rel (by omega)
  obtain ⟨b3, c3, L3, e3, r3, t3, _⟩ := (h.res 3 (by omega)).rel (by omega)
  obtain ⟨b4, c4, L4, e4, r4, t4, _⟩ := (h.res 4 (by omega)).rel (by omega)
  obtain ⟨b5, c5, L5, e5, r5, t5, _⟩ := (h.res 5 (by omega)).rel (by omega)
  obtain ⟨b6, c6, L6, e6, r6, t6, _⟩ := (h.res 6 (by omega)).rel (by omega)
  obtain ⟨b7, c7, L7, e7, r7, t7, _⟩ := (h.res 7 (by omega)).rel (by omega)
  obtain ⟨b8, c8, L8, e8, r8, t8, _⟩ := (h.res 8 (by omega)).rel (by omega)
  obtain ⟨b9, c9, L9, e9, r9, t9, _⟩ := h.fr
  obtain ⟨d1, f1, k1, _⟩ := (h.res 9 (by omega)).tru (by omega)
  obtain ⟨d2, f2, k2, _⟩ := (h.res 10 (by omega)).tru (by omega)
  obtain ⟨d3, f3, k3, _⟩ := (h.res 11 (by omega)).tru (by omega)
  rw [kndL_length] at f1 f2 f3
  have q0 : L0 = LG g 0 := can_of r0 t0
  have q1 : L1 = LG g 1 := can_of r1 t1
  have q2 : L2 = LG g 2 := can_of r2 t2
  have q3 : L3 = LG g 4 := can_of r3 t3
  have q4 : L4 = LG g 5 := can_of r4 t4
  have q5 : L5 = LG g 6 := can_of r5 t5
  have q6 : L6 = LG g 7 := can_of r6 t6
  have q7 : L7 = LG g 8 := can_of r7 t7
  have q8 : L8 = LG g 9 := can_of r8 t8
  have q9 : L9 = LG g 3 := can_of r9 t9
  rw [q0] at r0
  rw [q1] at r1
  rw [q2] at r2
  rw [q3] at r3
  rw [q4] at r4
  rw [q5] at r5
  rw [q6] at r6
  rw [q7] at r7
  rw [q8] at r8
  rw [q9] at r9
  refine ⟨fun i => [b0, b1, b2, b9, b3, b4, b5, b6, b7, b8].getD i 0, fun i => [c0, c1, c2, c9, c3, c4, c5, c6, c7, c8].getD i 0, d1, d2, d3, ?_, fun i hi => ?_, k1, k2, k3⟩
  · unfold outV fxC
    rw [e0, e1, e2, e3, e4, e5, e6, e7, e8, e9, f1, f2, f3]
    rfl
  · match i, hi with
    | 0, _ => exact r0
    | 1, _ => exact r1
    | 2, _ => exact r2
    | 3, _ => exact r9
    | 4, _ => exact r3
    | 5, _ => exact r4
    | 6, _ => exact r5
    | 7, _ => exact r6
    | 8, _ => exact r7
    | 9, _ => exact r8
    | n + 10, h => omega
def nilR : Nat → Value := fun _ => .pointer none
set_option linter.unusedSimpArgs false in
set_option maxRecDepth 100000 in
set_option maxHeartbeats 16000000 in
theorem rcNew_calls (V : GrV) (g : Gr) (w : World) (h : GrR w V g) (hF : Frm w) (hT : Tab w) :
    Calls Tryz.prog 37 #[V.val g] w fun e w' => ((chk g false).1 ≠ 0 ∧ e = .returned (.tuple #[.pointer none, .int .i64 4]) ∧ Below w.heap.size w w') ∨ ((chk g false).1 = 0 ∧ ∃ m bs cs br bw bf r ks ls, e = .returned (.tuple #[pv m, .int .i64 0]) ∧ Mdl w V g m bs cs br bw bf r ks ls w') := by
  have hg0 := Blk.new w 27 (V.gs g)
  have hB0 : Below w.heap.size w (w.alloc (.cells (V.gs g) 27)) := (Below.refl _ _).alloc (Nat.le_refl _) _
  have e1 : w.alloc (.cells (V.gs g) 27) = w.alloc (.cells #[.int .i64 g.cells, V.ev, V.rf, V.co, V.rmw, V.addr, V.dat, V.ctrl] 27) := rfl
  rw [e1] at hB0 hg0
  have HV := hid_of h
  have HF := hid_of hF
  have HT := hid_of hT
  have HB0 := hid_of hB0
  have HG0 := hid_of hg0
  unfold GrV.val
  clear h hF hT hB0 hg0 e1
  go_enter Tryz.func37, Tryz.ntmps37
  go_upto_region 1 with fail
  generalize w.alloc (.cells #[.int .i64 g.cells, V.ev, V.rf, V.co, V.rmw, V.addr, V.dat, V.ctrl] 27) = W0 at *
  have D1 := hid_of (gCheck_calls V g false W0 (HV.out.below HB0.out) (HF.out.step HB0.out))
  obtain ⟨x1, hx1⟩ : ∃ x, (chk g false).1 = x := ⟨_, rfl⟩
  obtain ⟨y1, hy1⟩ : ∃ x, (chk g false).2 = x := ⟨_, rfl⟩
  rw [hx1, hy1] at D1
  have HX1 := hid_of hx1
  clear hx1 hy1
  go_wp2_with (first | refine wpList_load_row rfl 27 _ rfl w.heap.size rfl 27 (V.gs g) (0, 0) _ HG0.out Tryz.underlying27 rfl (by kernel_rfl) ?_)
  refine D1.out.mono ?_
  rintro e w1 ⟨rfl, hB1⟩
  have HB1 : Hid (Below w.heap.size w w1) := below_step HB0.out HB0.out.size hB1
  have HG1 := hid_of (HG0.out.of_below hB1)
  clear hB1 D1 HG0
  by_cases hx0 : x1 = 0
  · subst hx0
    have hwf : wfB g = true := by unfold wfB; rw [HX1.out]; rfl
    have D3 := hid_of (gDerive_calls V g w1 (HV.out.below HB1.out) (HF.out.step HB1.out) (HT.out.step' HB1.out))
    go_wp2_with (first | refine wpList_load_row rfl 27 _ rfl w.heap.size rfl 27 (V.gs g) (0, 0) _ HG1.out Tryz.underlying27 rfl (by kernel_rfl) ?_)
    refine D3.out.mono ?_
    rintro e w3 (⟨_, v, f, lo, rfl, hD, hB3⟩ | ⟨hf, _⟩)
    case inr => rw [hwf] at hf; cases hf
    clear D3 hwf
    have HB3 : Hid (Below w.heap.size w w3) := below_step HB1.out HB1.out.size hB3
    have HG3 := hid_of (HG1.out.of_below hB3)
    have hall := outV_all hD.res f hD.fr.one
    obtain ⟨bs, cs, br, bw, bf, eO, hE, hrd, hwt, hfe⟩ := der_rels hD
    rw [eO] at hall ⊢
    clear eO hD hB3 HG1
    have hz := Blk.new w3 85 nilF
    have hB4 : Below w3.heap.size w3 ((w3.alloc (.cells nilF 85)).setRow w3.heap.size (fxC g.evs.length bs br bw bf)) := ((Below.refl w3.heap.size w3).alloc (Nat.le_refl _) _).trans (below_row _ (Nat.le_refl _))
    have HFB := hid_of (hz.setRow' (fxC g.evs.length bs br bw bf))
    go_upto_region 5 with (first | refine wpList_store_row rfl 85 _ _ rfl w3.heap.size (fxC g.evs.length bs br bw bf) rfl rfl 85 nilF hz (by kernel_rfl) rfl hall ?_)
    have HB4 : Hid (Below w.heap.size w ((w3.alloc (.cells nilF 85)).setRow w3.heap.size (fxC g.evs.length bs br bw bf))) := below_step HB3.out HB3.out.size hB4
    have HG4 := hid_of (HG3.out.of_below hB4)
    have HE := hid_of (fun i (hi : i < 10) => (hE i hi).below hB4)
    have HRD := hid_of (hrd.of_below hB4)
    have HWT := hid_of (hwt.of_below hB4)
    have HFE := hid_of (hfe.of_below hB4)
    clear hz hB4 hall hE hrd hwt hfe HB3 HG3 HB1
    generalize (w3.alloc (.cells nilF 85)).setRow w3.heap.size (fxC g.evs.length bs br bw bf) = w4 at *
    generalize w3.heap.size = fb at *
    go_wp2_with (first | refine wpList_load_row rfl 27 _ rfl w.heap.size rfl 27 (V.gs g) (0, 0) _ HG4.out Tryz.underlying27 rfl (by kernel_rfl) ?_ | refine wpList_load_row rfl 85 _ rfl fb rfl 85 (fxC g.evs.length bs br bw bf) (0, 0) _ HFB.out Tryz.underlying85 rfl (by kernel_rfl) ?_ | refine wpList_build_is rfl 87 _ rfl _ rfl (moC V g bs br bw bf nilR) (by kernel_rfl) ?_)
    have hmo := Blk.new w4 87 (moC V g bs br bw bf nilR)
    have hB5 : Below w4.heap.size w4 (w4.alloc (.cells (moC V g bs br bw bf nilR) 87)) := (Below.refl _ _).alloc (Nat.le_refl _) _
    have HB5 : Hid (Below w.heap.size w (w4.alloc (.cells (moC V g bs br bw bf nilR) 87))) := below_step HB4.out HB4.out.size hB5
    have HE5 := hid_of (fun i (hi : i < 10) => (HE.out i hi).below hB5)
    have HRD5 := hid_of (HRD.out.of_below hB5)
    have HWT5 := hid_of (HWT.out.of_below hB5)
    have HFE5 := hid_of (HFE.out.of_below hB5)
    have HMO := hid_of hmo
    have hsz : w.heap.size ≤ w4.heap.size := HB4.out.size
    clear hmo hB5 HE HRD HWT HFE HB4 HG4 HFB
    generalize w4.alloc (.cells (moC V g bs br bw bf nilR) 87) = w5 at *
    generalize w4.heap.size = m at *
    refine (rcHap_calls w w5 m V g bs cs (LG g) br bw bf nilR HV.out HT.out hsz HB5.out HMO.out HRD5.out HWT5.out HFE5.out
      (Rels.cons (Rels.cons (Rels.cons (Rels.cons (Rels.cons (Rels.cons (Rels.nil _) (HE5.out 5 (by omega))) (HE5.out 4 (by omega))) (HE5.out 3 (by omega))) (HE5.out 2 (by omega))) (HE5.out 1 (by omega))) (HE5.out 0 (by omega)))).mono ?_
    rintro e w6 ⟨rfl, b1, c1, b2, c2, b3, c3, b4, c4, hR, hmo, htc⟩
    have HR1 := hid_of (hR.at_ (b := b1) (c := c1) (L := rsL g (LG g)) (.tail _ (.tail _ (.tail _ (.head _)))))
    have HR2 := hid_of (hR.at_ (b := b2) (c := c2) (L := swL g (LG g)) (.tail _ (.tail _ (.head _))))
    have HR3 := hid_of (hR.at_ (b := b3) (c := c3) (L := hbL g (LG g)) (.tail _ (.head _)))
    have HR4 := hid_of (hR.at_ (b := b4) (c := c4) (L := ecoL (LG g)) (.head _))
    have HMO6 := hid_of hmo
    have HTC := hid_of htc
    clear hR hmo htc
    go_wp2_with fail
    go_ret2
    refine .inr ⟨HX1.out, m, bs, cs, br, bw, bf, updR (updR (updR (updR nilR 0 (pv b1)) 1 (pv b2)) 2 (pv b3)) 3 (pv b4), fun i => [b1, b2, b3, b4].getD i 0, fun i => [c1, c2, c3, c4].getD i 0, rfl, ?_⟩
    refine ⟨hsz, HB5.out.trans (HTC.out.below hsz HB5.out.size), HMO6.out, HRD5.out.touch HTC.out (blk_ne2 HRD5.out HMO.out (by decide)), HWT5.out.touch HTC.out (blk_ne2 HWT5.out HMO.out (by decide)), HFE5.out.touch HTC.out (blk_ne2 HFE5.out HMO.out (by decide)), fun i hi => rel_touch (HE5.out i hi) HMO.out HTC.out, ?_, ?_, ?_, ?_, ?_⟩
    · exact HR1.out
    · exact HR2.out
    · exact HR3.out
    · exact HR4.out
    · intro i hi
      match i, hi with
      | 0, _ => rfl
      | 1, _ => rfl
      | 2, _ => rfl
      | 3, _ => rfl
      | n + 4, h => omega
  · have q0 : ((x1 : Int) != 0) = true := by simpa using hx0
    go_wp2_with fail
    go_ret2
    exact .inl ⟨by rw [HX1.out]; exact hx0, rfl, HB1.out⟩
end Go.Proofs.YtjhhimjnoljojaaGreatDoor
namespace Go.Proofs.YtjhhimjnoljojaaGreatDoor
open Go.RowKit Go.Shelf Sx
theorem incoB_no {H E : List Nat} {a b : Nat} (h : hasP H ((a : Nat) : Int) ((b : Nat) : Int) = false) : incoB H E a b = [] := by unfold incoB; rw [h]; rfl
theorem incoB_no2 {H E : List Nat} {a b : Nat} (h : hasP E ((b : Nat) : Int) ((a : Nat) : Int) = false) : incoB H E a b = [] := by unfold incoB; rw [h, Bool.and_false]; rfl
theorem incoB_yes {H E : List Nat} {a b : Nat} (h : hasP H ((a : Nat) : Int) ((b : Nat) : Int) = true) (h2 : hasP E ((b : Nat) : Int) ((a : Nat) : Int) = true) : incoB H E a b = [((a : Nat) : Int), ((b : Nat) : Int)] := by unfold incoB; rw [h, h2]; rfl
theorem incoA_self {H E : List Nat} {n a : Nat} (h : hasP H ((a : Nat) : Int) ((a : Nat) : Int) = true) : incoA H E n a = [((a : Nat) : Int)] := by unfold incoA; rw [h]; rfl
theorem incoA_rest {H E : List Nat} {n a : Nat} (h : hasP H ((a : Nat) : Int) ((a : Nat) : Int) = false) : incoA H E n a = fstN (incoB H E a) n := by unfold incoA; rw [h]; rfl
theorem step_all {f : Nat → List Int} {i : Nat} (h : ∀ a, a < i → f a = []) (hi : f i = []) : ∀ a, a < i + 1 → f a = [] := fun a ha => by
  by_cases e : a = i
  · rw [e]; exact hi
  · exact h a (by omega)
set_option linter.unusedSimpArgs false in
set_option maxRecDepth 100000 in
set_option maxHeartbeats 8000000 in
theorem rcIncoh_calls (b c be ce m : Nat) (H E : List Nat) (w : World) (hh : IsRel w b c H) (he : IsRel w be ce E) (c23 : w.cell? ⟨m, 23, none⟩ = some (pv b)) (c24 : w.cell? ⟨m, 24, none⟩ = some (pv be)) :
    Calls Tryz.prog 80 #[pv m] w fun e w' => ∃ v, e = .returned v ∧ w'.ownsRow w.heap.size 3 1 v (incoL H E).length (encJ (incoL H E)) ∧ Below w.heap.size w w' := by
  have HH := hid_of hh
  have HE := hid_of he
  have hm : m < w.heap.size := block_lt_of_cell c23
  have hn : H.length ≤ 256 := hh.len
  have HM := hid_of hm
  have C23 := hid_of c23
  have C24 := hid_of c24
  clear hh he hm c24
  go_enter Tryz.func80, Tryz.ntmps80
  go_wp2_with fail
  refine (Len_c b c H w HH.out).mono ?_
  rintro e w0 ⟨rfl, rfl⟩
  clear c23
  go_wp2_with fail
  go_loopg [11] H.length (fun f v11 wr => ∃ i : Nat, v11 = .int .i64 ((i : Nat) : Int) ∧ i ≤ H.length ∧ Hid (i + f = H.length) ∧ Hid (∀ a, a < i → incoA H E H.length a = []) ∧ Hid (Below w.heap.size w wr))
  case atStart => exact ⟨0, rfl, Nat.zero_le _, Nat.zero_add _, (fun a ha => by omega), Below.refl _ _⟩
  case round =>
    obtain ⟨i, rfl, hi, HIF, HALL, HB⟩ := hrel
    by_cases hlt : i < H.length
    · have I0 : (0 : Int) ≤ ((i : Nat) : Int) := by omega
      have I1 : ((i : Nat) : Int) < ((H.length : Nat) : Int) := by omega
      have k23 := (HB.out.cell (p := ⟨m, 23, none⟩) HM.out).trans C23.out
      obtain ⟨q, hq⟩ : ∃ q, hasP H ((i : Nat) : Int) ((i : Nat) : Int) = q := ⟨_, rfl⟩
      have D1 := hid_of (Has_calls b c H ((i : Nat) : Int) ((i : Nat) : Int) wr (HH.out.below HB.out))
      rw [hq] at D1
      have HQ := hid_of hq
      clear hq
      cases q
      · go_wp2_with fail
        refine D1.out.mono ?_
        rintro e w1 ⟨rfl, hB1⟩
        have HB1 : Hid (Below w.heap.size w w1) := below_step HB.out HB.out.size hB1
        clear hB1 D1 k23 HB
        have k23 := (HB1.out.cell (p := ⟨m, 23, none⟩) HM.out).trans C23.out
        go_wp2_with fail
        refine (Len_c b c H w1 (HH.out.below HB1.out)).mono ?_
        rintro e w2 ⟨rfl, rfl⟩
        clear k23
        go_wp2_with fail
        go_loopg [30] H.length (fun f v30 wr => ∃ j : Nat, v30 = .int .i64 ((j : Nat) : Int) ∧ j ≤ H.length ∧ Hid (j + f = H.length) ∧ Hid (∀ a, a < j → incoB H E i a = []) ∧ Hid (Below w.heap.size w wr))
        case atStart => exact ⟨0, rfl, Nat.zero_le _, Nat.zero_add _, (fun a ha => by omega), HB1.out⟩
        case round =>
          clear HB1
          obtain ⟨j, rfl, hj, HJF, HJ, HB⟩ := hrel
          by_cases hjl : j < H.length
          · have J0 : (0 : Int) ≤ ((j : Nat) : Int) := by omega
            have J1 : ((j : Nat) : Int) < ((H.length : Nat) : Int) := by omega
            have k23 := (HB.out.cell (p := ⟨m, 23, none⟩) HM.out).trans C23.out
            obtain ⟨q1, hq1⟩ : ∃ q, hasP H ((i : Nat) : Int) ((j : Nat) : Int) = q := ⟨_, rfl⟩
            have D1 := hid_of (Has_calls b c H ((i : Nat) : Int) ((j : Nat) : Int) wr (HH.out.below HB.out))
            rw [hq1] at D1
            have HQ1 := hid_of hq1
            clear hq1
            cases q1
            · go_wp2_with fail
              refine D1.out.mono ?_
              rintro e w1 ⟨rfl, hB1⟩
              go_wp2_with fail
              go_roundg (H.length - (j + 1))
              case measure => have := HJF.out; omega
              case rel => exact ⟨j + 1, by go_num, by omega, by have := HJF.out; rw [Hid]; omega, step_all HJ.out (incoB_no HQ1.out), below_step HB.out HB.out.size hB1⟩
            · go_wp2_with fail
              refine D1.out.mono ?_
              rintro e w1 ⟨rfl, hB1⟩
              have HB1 : Hid (Below w.heap.size w w1) := below_step HB.out HB.out.size hB1
              clear hB1 D1 k23 HB
              have k24 := (HB1.out.cell (p := ⟨m, 24, none⟩) HM.out).trans C24.out
              obtain ⟨q2, hq2⟩ : ∃ q, hasP E ((j : Nat) : Int) ((i : Nat) : Int) = q := ⟨_, rfl⟩
              have D2 := hid_of (Has_calls be ce E ((j : Nat) : Int) ((i : Nat) : Int) w1 (HE.out.below HB1.out))
              rw [hq2] at D2
              have HQ2 := hid_of hq2
              clear hq2
              cases q2
              · go_wp2_with fail
                refine D2.out.mono ?_
                rintro e w2 ⟨rfl, hB2⟩
                go_wp2_with fail
                go_roundg (H.length - (j + 1))
                case measure => have := HJF.out; omega
                case rel => exact ⟨j + 1, by go_num, by omega, by have := HJF.out; rw [Hid]; omega, step_all HJ.out (incoB_no2 HQ2.out), below_step HB1.out HB1.out.size hB2⟩
              · go_wp2_with fail
                refine D2.out.mono ?_
                rintro e w2 ⟨rfl, hB2⟩
                go_wp2_with fail
                go_ret
                have eB := incoB_yes HQ1.out HQ2.out
                have eA : incoA H E H.length i = [((i : Nat) : Int), ((j : Nat) : Int)] := by
                  rw [incoA_rest HQ.out, fstN_some HJ.out (by rw [eB]; simp) hjl, eB]
                have eL : incoL H E = [((i : Nat) : Int), ((j : Nat) : Int)] := by
                  unfold incoL
                  rw [fstN_some HALL.out (by rw [eA]; simp) hlt, eA]
                rw [eL]
                have hB3 := below_step HB1.out HB1.out.size hB2
                exact ⟨_, rfl, owns2 (Blk.new _ _ _) hB3.size, hB3.alloc hB3.size _⟩
          · obtain rfl : j = H.length := by omega
            go_wp2_with fail
            go_roundg (H.length - (i + 1))
            case measure => have := HIF.out; omega
            case rel => exact ⟨i + 1, by go_num, by omega, by have := HIF.out; rw [Hid]; omega, step_all HALL.out (by rw [incoA_rest HQ.out]; exact fstN_none HJ.out), HB.out⟩
      · go_wp2_with fail
        refine D1.out.mono ?_
        rintro e w1 ⟨rfl, hB1⟩
        go_wp2_with fail
        go_ret
        have eA := incoA_self (E := E) (n := H.length) HQ.out
        have eL : incoL H E = [((i : Nat) : Int)] := by
          unfold incoL
          rw [fstN_some HALL.out (by rw [eA]; simp) hlt, eA]
        rw [eL]
        have hB3 := below_step HB.out HB.out.size hB1
        exact ⟨_, rfl, owns1 (Blk.new _ _ _) hB3.size, hB3.alloc hB3.size _⟩
    · obtain rfl : i = H.length := by omega
      go_wp2_with fail
      go_ret
      have eL : incoL H E = [] := fstN_none HALL.out
      rw [eL]
      exact ⟨_, rfl, World.ownsRow_nil _ _ _ _, HB.out⟩
end Go.Proofs.YtjhhimjnoljojaaGreatDoor
namespace Go.Proofs.YtjhhimjnoljojaaGreatDoor
open Go.RowKit Go.Shelf Sx
set_option linter.unusedSimpArgs false in
set_option maxRecDepth 100000 in
set_option maxHeartbeats 8000000 in
theorem rcThin_calls (m b0 c0 b1 c1 : Nat) (A B : List Nat) (w : World) (h0 : IsRel w b0 c0 A) (h1 : IsRel w b1 c1 B) (k8 : w.cell? ⟨m, 8, none⟩ = some (pv b0)) (k9 : w.cell? ⟨m, 9, none⟩ = some (pv b1)) (hT : Tab w) :
    Calls Tryz.prog 83 #[pv m] w fun e w' => ∃ v out, e = .returned v ∧ CycOK (unionL [A, B]) out ∧ w'.ownsRow w.heap.size 3 1 v out.length (encI out) ∧ Below w.heap.size w w' := by
  have hm : m < w.heap.size := block_lt_of_cell k8
  have HA := hid_of h0
  have HBb := hid_of h1
  have KA := hid_of k8
  have KB := hid_of k9
  have HT := hid_of hT
  clear h0 h1 k8 k9 hT
  go_enter Tryz.func83, Tryz.ntmps83
  go_upto_region 1 with fail
  have hBd : Below w.heap.size w w.drew := (Below.refl _ _).drew
  have HA1 := hid_of (HA.out.below hBd)
  have HB1 := hid_of (HBb.out.below hBd)
  have HD1 := hid_of hBd
  refine wp_region_held_drew (S := fun W => W.cell? ⟨m, 8, none⟩ = some (pv b0) ∧ W.cell? ⟨m, 9, none⟩ = some (pv b1)) (by kernel_rfl) ⟨(hBd.cell (p := ⟨m, 8, none⟩) hm).trans KA.out, (hBd.cell (p := ⟨m, 9, none⟩) hm).trans KB.out⟩ (fun hHeld => ?_)
  clear hBd
  generalize w.drew = W1 at *
  refine tk 0 rfl ?_; simp only [zz]
  refine tk 1 rfl ?_; simp only [zz]
  refine tk 2 rfl ?_; simp only [zz]
  refine tk 3 rfl ?_; simp only [zz]
  refine tk 4 rfl ?_; simp only [zz]
  refine tk 5 rfl ?_; simp only [zz]
  refine tk 6 rfl ?_; simp only [zz]
  refine tk 7 rfl ?_; simp only [zz]
  refine tk 8 rfl ?_; simp only [zz]
  refine tk 9 rfl ?_; simp only [zz]
  refine wpAnyH_ready (rs := [10]) (by kernel_rfl) (by simp) ?_
  refine rdy rfl (fun K hK => ?_) AllReadyH.nil
  simp only [z1, z2, z3]
  refine op_build #[(0, pv b0), (1, pv b1)] (by kernel_rfl) (bs2_run b0 b1 _) ?_
  have HL : Hid (RelsAt (W1.alloc (.cells #[pv b0, pv b1] 43)) W1.heap.size [(b0, c0, A), (b1, c1, B)]) := rels_at [(b0, c0, A), (b1, c1, B)] (Rels.cons (Rels.cons (Rels.nil _) HB1.out) HA1.out)
  have hB2 : Below W1.heap.size W1 (W1.alloc (.cells #[pv b0, pv b1] 43)) := (Below.refl _ _).alloc (Nat.le_refl _) _
  have HD2 : Hid (Below w.heap.size w (W1.alloc (.cells #[pv b0, pv b1] 43))) := below_step HD1.out HD1.out.size hB2
  clear hB2 HA1 HB1 HD1 hHeld
  generalize W1.alloc (.cells #[pv b0, pv b1] 43) = W2 at *
  generalize W1.heap.size = s2 at *
  refine hK.out _ _ ⟨(HD2.out.cell (p := ⟨m, 8, none⟩) hm).trans KA.out, (HD2.out.cell (p := ⟨m, 9, none⟩) hm).trans KB.out⟩ (fun hHeld => ?_)
  clear hK K
  try simp only [zz]
  refine wpAnyH_ready (rs := [11]) (by kernel_rfl) (by simp) ?_
  refine rdy rfl (fun K hK => ?_) AllReadyH.nil
  simp only [z1, z2, z3]
  go_simp
  refine (Union_named s2 [(b0, c0, A), (b1, c1, B)] [A, B] (map3_cons (map3_cons map3_nil)) W2 HL.out (by simp)).mono ?_
  rintro e W3 ⟨bu, cu, rfl, hMu⟩
  have HD3 : Hid (Below w.heap.size w W3) := below_step HD2.out HD2.out.size hMu.below
  have HU := hid_of hMu.rel
  clear hMu HD2 HL hHeld
  refine hK.out _ _ ⟨(HD3.out.cell (p := ⟨m, 8, none⟩) hm).trans KA.out, (HD3.out.cell (p := ⟨m, 9, none⟩) hm).trans KB.out⟩ (fun hHeld => ?_)
  clear hK K
  try simp only [zz]
  refine wpAnyH_ready (rs := [12]) (by kernel_rfl) (by simp) ?_
  refine rdy rfl (fun K hK => ?_) AllReadyH.nil
  simp only [z1, z2, z3]
  go_simp
  refine (Cycle_calls bu cu (unionL [A, B]) W3 HU.out (HT.out.step' HD3.out)).mono ?_
  rintro e W4 ⟨v, out, rfl, hC, hO, hB4⟩
  have HD4 : Hid (Below w.heap.size w W4) := below_step HD3.out HD3.out.size hB4
  have HC := hid_of hC
  have HO := hid_of (owns_lo hO HD3.out.size)
  clear hC hO hB4 HD3 HU hHeld
  refine hK.out _ _ ⟨(HD4.out.cell (p := ⟨m, 8, none⟩) hm).trans KA.out, (HD4.out.cell (p := ⟨m, 9, none⟩) hm).trans KB.out⟩ (fun hHeld => ?_)
  clear hK K
  try simp only [zz]
  refine tk 13 rfl ?_; simp only [zz]
  refine wpAnyH_done (by kernel_rfl) ?_ _
  clear hHeld
  go_wp2_with fail
  go_ret
  exact ⟨v, out, rfl, HC.out, HO.out, HD4.out⟩
set_option linter.unusedSimpArgs false in
set_option maxRecDepth 100000 in
set_option maxHeartbeats 8000000 in
theorem rcOut_calls (w0 w : World) (V : GrV) (g : Gr) (m : Nat) (bs cs : Nat → Nat) (br bw bf : Nat) (r : Nat → Value) (ks ls : Nat → Nat) (h0 : GrR w0 V g) (hT0 : Tab w0) (hM : Mdl w0 V g m bs cs br bw bf r ks ls w) :
    Calls Tryz.prog 82 #[pv m] w fun e w' => ∃ v out r', e = .returned v ∧ CycOK (seqL g) out ∧ w'.ownsRow w.heap.size 3 1 v out.length (encI out) ∧ Mdl w0 V g m bs cs br bw bf r' ks ls w' ∧ Touch m w w' := by
  have D := hid_of (rcSeq_calls w0 w m V g bs cs (LG g) br bw bf r (ks 2) (ls 2) (ks 3) (ls 3) (hbL g (LG g)) (ecoL (LG g)) h0 hT0 hM.hm hM.low hM.mo (hM.r 2 (by omega)) (hM.r 3 (by omega)) hM.rd hM.wt hM.fe
    (Rels.cons (Rels.cons (Rels.cons (Rels.cons (Rels.cons (Rels.cons (Rels.nil _) hM.eco) hM.hb) (hM.E 5 (by omega))) (hM.E 3 (by omega))) (hM.E 2 (by omega))) (hM.E 0 (by omega))))
  have HM := hid_of hM
  have HT0 := hid_of hT0
  clear h0 hT0 hM
  go_enter Tryz.func82, Tryz.ntmps82
  go_wp2_with fail
  refine D.out.mono ?_
  rintro e wq ⟨rfl, b1, c1, b2, c2, b3, c3, hR, hmo, htc⟩
  have HM1 : Hid (Mdl w0 V g m bs cs br bw bf (updR (updR (updR r 4 (pv b1)) 5 (pv b2)) 6 (pv b3)) ks ls wq) := HM.out.touch htc hmo (fun i hi => by unfold updR; rw [if_neg (by omega), if_neg (by omega), if_neg (by omega)])
  have HTC := hid_of htc
  have hm : m < wq.heap.size := hmo.lt
  have HA := hid_of (hR.at_ (b := b2) (c := c2) (L := baseL g (LG g) (hbL g (LG g))) (.tail _ (.head _)))
  have HBb := hid_of (hR.at_ (b := b3) (c := c3) (L := pscL g (hbL g (LG g)) (ecoL (LG g))) (.head _))
  have KA : Hid (wq.cell? ⟨m, 26, none⟩ = some (pv b2)) := hmo.cell rfl
  have KB : Hid (wq.cell? ⟨m, 27, none⟩ = some (pv b3)) := hmo.cell rfl
  have HT : Hid (Tab wq) := HT0.out.step' HM1.out.low
  clear hR hmo htc D HM HT0
  generalize hLA : baseL g (LG g) (hbL g (LG g)) = LA at *
  generalize hLB : pscL g (hbL g (LG g)) (ecoL (LG g)) = LB at *
  have HS : Hid (seqL g = unionL [LA, LB]) := by rw [Hid, ← hLA, ← hLB]; rfl
  clear hLA hLB
  go_upto_region 2 with fail
  have hBd : Below wq.heap.size wq wq.drew := (Below.refl _ _).drew
  have HA1 := hid_of (HA.out.below hBd)
  have HB1 := hid_of (HBb.out.below hBd)
  have HD1 := hid_of hBd
  refine wp_region_held_drew (S := fun W => W.cell? ⟨m, 26, none⟩ = some (pv b2) ∧ W.cell? ⟨m, 27, none⟩ = some (pv b3)) (by kernel_rfl) ⟨(hBd.cell (p := ⟨m, 26, none⟩) hm).trans KA.out, (hBd.cell (p := ⟨m, 27, none⟩) hm).trans KB.out⟩ (fun hHeld => ?_)
  clear hBd
  generalize wq.drew = W1 at *
  refine tk 0 rfl ?_; simp only [zz]
  refine tk 1 rfl ?_; simp only [zz]
  refine tk 2 rfl ?_; simp only [zz]
  refine tk 3 rfl ?_; simp only [zz]
  refine tk 4 rfl ?_; simp only [zz]
  refine tk 5 rfl ?_; simp only [zz]
  refine tk 6 rfl ?_; simp only [zz]
  refine tk 7 rfl ?_; simp only [zz]
  refine tk 8 rfl ?_; simp only [zz]
  refine tk 9 rfl ?_; simp only [zz]
  refine wpAnyH_ready (rs := [10]) (by kernel_rfl) (by simp) ?_
  refine rdy rfl (fun K hK => ?_) AllReadyH.nil
  simp only [z1, z2, z3]
  refine op_build #[(0, pv b2), (1, pv b3)] (by kernel_rfl) (bs2_run b2 b3 _) ?_
  have HL : Hid (RelsAt (W1.alloc (.cells #[pv b2, pv b3] 43)) W1.heap.size [(b2, c2, LA), (b3, c3, LB)]) := rels_at [(b2, c2, LA), (b3, c3, LB)] (Rels.cons (Rels.cons (Rels.nil _) HB1.out) HA1.out)
  have hB2 : Below W1.heap.size W1 (W1.alloc (.cells #[pv b2, pv b3] 43)) := (Below.refl _ _).alloc (Nat.le_refl _) _
  have HD2 : Hid (Below wq.heap.size wq (W1.alloc (.cells #[pv b2, pv b3] 43))) := below_step HD1.out HD1.out.size hB2
  clear hB2 HA1 HB1 HD1 hHeld
  generalize W1.alloc (.cells #[pv b2, pv b3] 43) = W2 at *
  generalize W1.heap.size = s2 at *
  refine hK.out _ _ ⟨(HD2.out.cell (p := ⟨m, 26, none⟩) hm).trans KA.out, (HD2.out.cell (p := ⟨m, 27, none⟩) hm).trans KB.out⟩ (fun hHeld => ?_)
  clear hK K
  try simp only [zz]
  refine wpAnyH_ready (rs := [11]) (by kernel_rfl) (by simp) ?_
  refine rdy rfl (fun K hK => ?_) AllReadyH.nil
  simp only [z1, z2, z3]
  go_simp
  refine (Union_named s2 [(b2, c2, LA), (b3, c3, LB)] [LA, LB] (map3_cons (map3_cons map3_nil)) W2 HL.out (by simp)).mono ?_
  rintro e W3 ⟨bu, cu, rfl, hMu⟩
  have HD3 : Hid (Below wq.heap.size wq W3) := below_step HD2.out HD2.out.size hMu.below
  have HU := hid_of hMu.rel
  clear hMu HD2 HL hHeld
  refine hK.out _ _ ⟨(HD3.out.cell (p := ⟨m, 26, none⟩) hm).trans KA.out, (HD3.out.cell (p := ⟨m, 27, none⟩) hm).trans KB.out⟩ (fun hHeld => ?_)
  clear hK K
  try simp only [zz]
  refine wpAnyH_ready (rs := [12]) (by kernel_rfl) (by simp) ?_
  refine rdy rfl (fun K hK => ?_) AllReadyH.nil
  simp only [z1, z2, z3]
  go_simp
  refine (Cycle_calls bu cu (unionL [LA, LB]) W3 HU.out (HT.out.step' HD3.out)).mono ?_
  rintro e W4 ⟨v, out, rfl, hC, hO, hB4⟩
  have HD4 : Hid (Below wq.heap.size wq W4) := below_step HD3.out HD3.out.size hB4
  have HC := hid_of hC
  have HO := hid_of (owns_lo hO HD3.out.size)
  clear hC hO hB4 HD3 HU hHeld
  refine hK.out _ _ ⟨(HD4.out.cell (p := ⟨m, 26, none⟩) hm).trans KA.out, (HD4.out.cell (p := ⟨m, 27, none⟩) hm).trans KB.out⟩ (fun hHeld => ?_)
  clear hK K
  try simp only [zz]
  refine tk 13 rfl ?_; simp only [zz]
  refine wpAnyH_done (by kernel_rfl) ?_ _
  clear hHeld
  go_wp2_with fail
  go_ret
  exact ⟨v, out, _, rfl, by rw [HS.out]; exact HC.out, owns_lo HO.out HTC.out.size, HM1.out.below HD4.out, HTC.out.step HD4.out⟩
theorem tornP_no {B : List Nat} {p : Int × Int} (h : hasP B p.1 p.2 = false) : tornP B p = [] := by unfold tornP; rw [h]; rfl
theorem tornP_yes {B : List Nat} {p : Int × Int} (h : hasP B p.1 p.2 = true) : tornP B p = [p.1, p.2] := by unfold tornP; rw [h]; rfl
theorem tornA_at {B : List Nat} {l : List (Int × Int)} {i : Nat} {p : Int × Int} (h : l[i]? = some p) : tornA B l i = tornP B p := by unfold tornA; rw [List.getD_eq_getElem?_getD, h]; rfl
theorem torn_all {f : Nat → List Int} {i : Nat} (h : ∀ a, a < i → f a = []) (hi : f i = []) : ∀ a, a < i + 1 → f a = [] := fun a ha => by
  by_cases e : a = i
  · rw [e]; exact hi
  · exact h a (by omega)
set_option linter.unusedSimpArgs false in
set_option maxRecDepth 100000 in
set_option maxHeartbeats 8000000 in
theorem rcTorn_calls (m b0 c0 b1 c1 : Nat) (A B : List Nat) (u : Value) (l : List (Int × Int)) (w : World) (h0 : IsRel w b0 c0 A) (h1 : IsRel w b1 c1 B) (k11 : w.cell? ⟨m, 11, none⟩ = some (pv b0)) (k10 : w.cell? ⟨m, 10, none⟩ = some (pv b1)) (k4 : w.cell? ⟨m, 4, none⟩ = some u) (hu : PArg w u l) (hT : Tab w) :
    Calls Tryz.prog 81 #[pv m] w fun e w' => ∃ v, e = .returned v ∧ w'.ownsRow w.heap.size 3 1 v (tornL (compL A B) l).length (encJ (tornL (compL A B) l)) ∧ Below w.heap.size w w' := by
  have hm : m < w.heap.size := block_lt_of_cell k11
  obtain ⟨p, cp, rfl, hp, hl⟩ := parg_form hu
  have HCM := hid_of (fun W h h' hT' => Comp_calls b0 c0 b1 c1 A B W h h' hT')
  generalize compL A B = C at *
  have HA := hid_of h0
  have HBb := hid_of h1
  have KA := hid_of k11
  have KB := hid_of k10
  have K4 := hid_of k4
  have HT := hid_of hT
  have HP := hid_of hp
  clear h0 h1 k11 k10 k4 hT hu hp
  go_enter Tryz.func81, Tryz.ntmps81
  go_upto_region 1 with fail
  have hBd : Below w.heap.size w w.drew := (Below.refl _ _).drew
  have HA1 := hid_of (HA.out.below hBd)
  have HB1 := hid_of (HBb.out.below hBd)
  have HD1 := hid_of hBd
  refine wp_region_held_drew (S := fun W => W.cell? ⟨m, 11, none⟩ = some (pv b0) ∧ W.cell? ⟨m, 10, none⟩ = some (pv b1)) (by kernel_rfl) ⟨(hBd.cell (p := ⟨m, 11, none⟩) hm).trans KA.out, (hBd.cell (p := ⟨m, 10, none⟩) hm).trans KB.out⟩ (fun hHeld => ?_)
  clear hBd
  generalize w.drew = W1 at *
  refine tk 0 rfl ?_; simp only [zz]
  refine tk 1 rfl ?_; simp only [zz]
  refine tk 2 rfl ?_; simp only [zz]
  refine tk 3 rfl ?_; simp only [zz]
  refine tk 4 rfl ?_; simp only [zz]
  refine tk 5 rfl ?_; simp only [zz]
  refine tk 6 rfl ?_; simp only [zz]
  refine tk 7 rfl ?_; simp only [zz]
  refine tk 8 rfl ?_; simp only [zz]
  refine tk 9 rfl ?_; simp only [zz]
  refine wpAnyH_ready (rs := [10]) (by kernel_rfl) (by simp) ?_
  refine rdy rfl (fun K hK => ?_) AllReadyH.nil
  simp only [z1, z2, z3]
  go_simp
  refine (HCM.out W1 HA1.out HB1.out (HT.out.step' HD1.out)).mono ?_
  rintro e W2 ⟨b2, c2, rfl, hM2⟩
  have HD2 : Hid (Below w.heap.size w W2) := below_step HD1.out HD1.out.size hM2.below
  have HC := hid_of hM2.rel
  clear hM2 HD1 HA1 HB1 hHeld
  refine hK.out _ _ ⟨(HD2.out.cell (p := ⟨m, 11, none⟩) hm).trans KA.out, (HD2.out.cell (p := ⟨m, 10, none⟩) hm).trans KB.out⟩ (fun hHeld => ?_)
  clear hK K
  try simp only [zz]
  refine tk 11 rfl ?_; simp only [zz]
  refine wpAnyH_done (by kernel_rfl) ?_ _
  clear hHeld
  have x4 := (HD2.out.cell (p := ⟨m, 4, none⟩) hm).trans K4.out
  go_wp2_with fail
  clear x4
  go_loopg [23] l.length (fun f v23 wr => ∃ i : Nat, v23 = .int .i64 ((i : Nat) : Int) ∧ i ≤ l.length ∧ Hid (i + f = l.length) ∧ Hid (∀ a, a < i → tornA C l a = []) ∧ Hid (Below W2.heap.size W2 wr))
  case atStart => exact ⟨0, rfl, Nat.zero_le _, Nat.zero_add _, (fun a ha => by omega), Below.refl _ _⟩
  case round =>
    obtain ⟨i, rfl, hi, HIF, HALL, HB⟩ := hrel
    have HBW : Hid (Below w.heap.size w wr) := below_step HD2.out HD2.out.size HB.out
    by_cases hlt : i < l.length
    · have I0 : (0 : Int) ≤ ((i : Nat) : Int) := by omega
      have I1 : ((i : Nat) : Int) < ((l.length : Nat) : Int) := by omega
      obtain ⟨⟨x, y⟩, hx⟩ : ∃ x, l[i]? = some x := ⟨_, List.getElem?_eq_getElem hlt⟩
      obtain ⟨s, o, rfl, hat⟩ := HP.out (by omega)
      have hat' := hat.below HBW.out
      have c0 := hat'.fst i _ hx
      have c1 := hat'.snd i _ hx
      have HX := hid_of hx
      obtain ⟨q, hq⟩ : ∃ q, hasP C x y = q := ⟨_, rfl⟩
      have D1 := hid_of (fun W hW => Has_calls b2 c2 C x y W (HC.out.below (below_step HB.out HB.out.size hW)))
      rw [hq] at D1
      have HQ := hid_of hq
      clear hat hat' hx hq
      cases q
      · go_wp2_with fail
        refine (D1.out _ ((Below.refl _ _).alloc (Nat.le_refl _) _)).mono ?_
        rintro e w3 ⟨rfl, hB3⟩
        go_wp2_with fail
        go_roundg (l.length - (i + 1))
        case measure => have := HIF.out; omega
        case rel => exact ⟨i + 1, by go_num, by omega, by have := HIF.out; rw [Hid]; omega, torn_all HALL.out (by rw [tornA_at HX.out]; exact tornP_no (p := (x, y)) HQ.out), below_step HB.out HB.out.size (((Below.refl _ _).alloc (Nat.le_refl _) _).trans (hB3.mono (by simp)))⟩
      · go_wp2_with fail
        have hz := Blk.new wr 34 #[.int .i64 x, .int .i64 y]
        refine (D1.out _ ((Below.refl _ _).alloc (Nat.le_refl _) _)).mono ?_
        rintro e w3 ⟨rfl, hB3⟩
        have hz3 := hz.of_below hB3
        have z0 := hz3.cell (j := 0) rfl
        have z1' := hz3.cell (j := 1) rfl
        have hB4 : Below w.heap.size w w3 := below_step HBW.out HBW.out.size (((Below.refl _ _).alloc (Nat.le_refl _) _).trans (hB3.mono (by simp)))
        have HB4 := hid_of hB4
        clear hz hz3 hB3 hB4 c0 c1
        go_wp2_with fail
        go_ret
        have eP := tornP_yes (p := (x, y)) HQ.out
        have eL : tornL C l = [x, y] := by
          unfold tornL
          have e1 := tornA_at (B := C) HX.out
          rw [fstN_some HALL.out (by rw [e1, eP]; simp) hlt, e1, eP]
        rw [eL]
        exact ⟨_, rfl, owns2 (Blk.new _ _ _) HB4.out.size, HB4.out.alloc HB4.out.size _⟩
    · obtain rfl : i = l.length := by omega
      go_wp2_with fail
      go_ret
      have eL : tornL C l = [] := fstN_none HALL.out
      rw [eL]
      exact ⟨_, rfl, World.ownsRow_nil _ _ _ _, HBW.out⟩
end Go.Proofs.YtjhhimjnoljojaaGreatDoor
namespace Go.Proofs.YtjhhimjnoljojaaGreatDoor
open Go.RowKit Go.Shelf Sx
def axC : Array Value := #[.int .i64 1, .func (.func 80) #[] #[], .int .i64 2, .func (.func 81) #[] #[], .int .i64 3, .func (.func 82) #[] #[], .int .i64 4, .func (.func 83) #[] #[]]
set_option maxRecDepth 100000 in
set_option maxHeartbeats 4000000 in
theorem rcAxioms_calls (w : World) : Calls Tryz.prog 38 #[] w fun e w' => ∃ b, e = .returned (.slice (some ⟨b, 0, none⟩) 4 4) ∧ Blk w' b 82 axC ∧ Below w.heap.size w w' := by
  go_enter Tryz.func38, Tryz.ntmps38
  go_wp2_with fail
  go_ret
  exact ⟨_, rfl, Blk.new _ _ _, (Below.refl _ _).alloc (Nat.le_refl _) _⟩
section
variable {w0 W : World} {V : GrV} {g : Gr} {m : Nat} {bs cs : Nat → Nat} {br bw bf : Nat} {r : Nat → Value} {ks ls : Nat → Nat}
def BrkR (w0 W : World) (V : GrV) (g : Gr) (m : Nat) (bs cs : Nat → Nat) (br bw bf : Nat) (ks ls : Nat → Nat) (i : Nat) (e : Ending) (w' : World) : Prop :=
  ∃ v l r', e = .returned v ∧ Brk g i l ∧ w'.ownsRow W.heap.size 3 1 v l.length (encJ l) ∧ Mdl w0 V g m bs cs br bw bf r' ks ls w' ∧ Touch m W w'
theorem brk0 (hM : Mdl w0 V g m bs cs br bw bf r ks ls W) : Calls Tryz.prog 80 #[pv m] W (BrkR w0 W V g m bs cs br bw bf ks ls 0) := by
  have c2 : W.cell? ⟨m, 23, none⟩ = some (pv (ks 2)) := by rw [← hM.r 2 (by omega)]; exact hM.mo.cell rfl
  have c3 : W.cell? ⟨m, 24, none⟩ = some (pv (ks 3)) := by rw [← hM.r 3 (by omega)]; exact hM.mo.cell rfl
  exact (rcIncoh_calls (ks 2) (ls 2) (ks 3) (ls 3) m _ _ W hM.hb hM.eco c2 c3).mono fun e w' ⟨v, h1, h2, h3⟩ => ⟨v, inco g, r, h1, ⟨fun _ => rfl, fun h => absurd h (by omega), fun h => absurd h (by omega), fun h => absurd h (by omega)⟩, h2, hM.below h3, Touch.of_below h3⟩
theorem brk1 (h0 : GrR w0 V g) (hT : Tab w0) (hM : Mdl w0 V g m bs cs br bw bf r ks ls W) : Calls Tryz.prog 81 #[pv m] W (BrkR w0 W V g m bs cs br bw bf ks ls 1) := by
  have c2 : W.cell? ⟨m, 11, none⟩ = some (pv (bs 3)) := hM.mo.cell rfl
  have c3 : W.cell? ⟨m, 10, none⟩ = some (pv (bs 2)) := hM.mo.cell rfl
  have c4 : W.cell? ⟨m, 4, none⟩ = some V.rmw := hM.mo.cell rfl
  exact (rcTorn_calls m (bs 3) (cs 3) (bs 2) (cs 2) _ _ V.rmw g.rmw W (hM.E 3 (by omega)) (hM.E 2 (by omega)) c2 c3 c4 (h0.rmw.below hM.low) (hT.step' hM.low)).mono fun e w' ⟨v, h1, h2, h3⟩ => ⟨v, torn g, r, h1, ⟨fun h => absurd h (by omega), fun _ => rfl, fun h => absurd h (by omega), fun h => absurd h (by omega)⟩, h2, hM.below h3, Touch.of_below h3⟩
theorem brk2 (h0 : GrR w0 V g) (hT : Tab w0) (hM : Mdl w0 V g m bs cs br bw bf r ks ls W) : Calls Tryz.prog 82 #[pv m] W (BrkR w0 W V g m bs cs br bw bf ks ls 2) :=
  (rcOut_calls w0 W V g m bs cs br bw bf r ks ls h0 hT hM).mono fun e w' ⟨v, out, r', h1, h2, h3, h4, h5⟩ => ⟨v, upI out, r', h1, ⟨fun h => absurd h (by omega), fun h => absurd h (by omega), fun _ => ⟨out, h2, rfl⟩, fun h => absurd h (by omega)⟩, by rw [encJ_up, show (upI out).length = out.length by simp [upI]]; exact h3, h4, h5⟩
theorem brk3 (hT : Tab w0) (hM : Mdl w0 V g m bs cs br bw bf r ks ls W) : Calls Tryz.prog 83 #[pv m] W (BrkR w0 W V g m bs cs br bw bf ks ls 3) := by
  have c2 : W.cell? ⟨m, 8, none⟩ = some (pv (bs 0)) := hM.mo.cell rfl
  have c3 : W.cell? ⟨m, 9, none⟩ = some (pv (bs 1)) := hM.mo.cell rfl
  exact (rcThin_calls m (bs 0) (cs 0) (bs 1) (cs 1) _ _ W (hM.E 0 (by omega)) (hM.E 1 (by omega)) c2 c3 (hT.step' hM.low)).mono fun e w' ⟨v, out, h1, h2, h3, h4⟩ => ⟨v, upI out, r, h1, ⟨fun h => absurd h (by omega), fun h => absurd h (by omega), fun h => absurd h (by omega), fun _ => ⟨out, h2, rfl⟩⟩, by rw [encJ_up, show (upI out).length = out.length by simp [upI]]; exact h3, hM.below h4, Touch.of_below h4⟩
end
theorem Mdl.alloc {w0 : World} {V : GrV} {g : Gr} {m : Nat} {bs cs : Nat → Nat} {br bw bf : Nat} {r : Nat → Value} {ks ls : Nat → Nat} {wk : World} (h : Mdl w0 V g m bs cs br bw bf r ks ls wk) (o : Obj) : Mdl w0 V g m bs cs br bw bf r ks ls (wk.alloc o) := h.below ((Below.refl _ _).alloc (Nat.le_refl _) _)
set_option linter.unusedSimpArgs false in
set_option maxRecDepth 100000 in
set_option maxHeartbeats 16000000 in
theorem rcCheck_calls (V : GrV) (g : Gr) (w : World) (h : GrR w V g) (hF : Frm w) (hT : Tab w) :
    Calls Tryz.prog 12 #[V.val g] w fun e w' => ∃ ax v l er, e = .returned (.tuple #[.int .i64 ax, v, .int .i64 er]) ∧ RcAns g ax l er ∧ w'.ownsRow w.heap.size 3 1 v l.length (encJ l) ∧ Below w.heap.size w w' := by
  have hg0 := Blk.new w 27 (V.gs g)
  have hB0 : Below w.heap.size w (w.alloc (.cells (V.gs g) 27)) := (Below.refl _ _).alloc (Nat.le_refl _) _
  have e1 : w.alloc (.cells (V.gs g) 27) = w.alloc (.cells #[.int .i64 g.cells, V.ev, V.rf, V.co, V.rmw, V.addr, V.dat, V.ctrl] 27) := rfl
  rw [e1] at hB0 hg0
  have HV := hid_of (h.below hB0)
  have HF := hid_of (hF.step hB0)
  have HT := hid_of (hT.step' hB0)
  have HB0 := hid_of hB0
  have HG0 := hid_of hg0
  unfold GrV.val
  clear h hF hT hB0 hg0 e1
  go_enter Tryz.func12, Tryz.ntmps12
  go_upto_region 1 with fail
  generalize w.alloc (.cells #[.int .i64 g.cells, V.ev, V.rf, V.co, V.rmw, V.addr, V.dat, V.ctrl] 27) = W0 at *
  go_wp2_with (first | refine wpList_load_row rfl 27 _ rfl w.heap.size rfl 27 (V.gs g) (0, 0) _ HG0.out Tryz.underlying27 rfl (by kernel_rfl) ?_)
  refine (rcNew_calls V g W0 HV.out HF.out HT.out).mono ?_
  rintro e w1 (⟨hc, rfl, hB1⟩ | ⟨hc, m, bs, cs, br, bw, bf, r, ks, ls, rfl, hM⟩)
  · clear HG0
    go_wp2_with fail
    go_ret3
    exact ⟨0, .slice none 0 0, [], 4, rfl, .inl ⟨hc, rfl, rfl, rfl⟩, World.ownsRow_nil _ _ _ _, below_step HB0.out HB0.out.size hB1⟩
  · have HC := hid_of hc
    have HM := hid_of hM
    clear HG0 hc hM
    go_wp2_with fail
    refine (rcAxioms_calls w1).mono ?_
    rintro e w2 ⟨ab, rfl, hab, hB2⟩
    have HM2 := hid_of (HM.out.below hB2)
    have HAB := hid_of hab
    clear hB2 HM hab
    go_wp2_with fail
    go_loopg [18] 4 (fun f v18 wr => ∃ (i : Nat) (r : Nat → Value), v18 = .int .i64 ((i : Nat) : Int) ∧ i ≤ 4 ∧ Hid (i + f = 4) ∧ Hid (KeptN g i) ∧ Hid (Blk wr ab 82 axC) ∧ Hid (Mdl W0 V g m bs cs br bw bf r ks ls wr))
    case atStart => exact ⟨0, r, rfl, by omega, Nat.zero_add _, KeptN.zero g, HAB.out, HM2.out⟩
    case round =>
      clear HAB HM2
      obtain ⟨i, r, rfl, hi, HIF, HKN, HAB, HM⟩ := hrel
      generalize hwq : wr = wa at *
      clear hwq
      match i, hi with
      | 0, _ =>
        have a0 : wa.cell? ⟨ab, 0, none⟩ = some (.int .i64 1) := HAB.out.cell rfl
        have a1 : wa.cell? ⟨ab, 1, none⟩ = some (.func (.func 80) #[] #[]) := HAB.out.cell rfl
        have hz0 := Blk.new wa 82 #[.int .i64 0, .nilFunc]
        have hBz : Below wa.heap.size wa ((wa.alloc (.cells #[.int .i64 0, .nilFunc] 82)).setRow wa.heap.size #[.int .i64 1, .func (.func 80) #[] #[]]) := ((Below.refl wa.heap.size wa).alloc (Nat.le_refl _) _).trans (below_row _ (Nat.le_refl _))
        have hz := hz0.setRow' #[.int .i64 1, .func (.func 80) #[] #[]]
        have HM3 := hid_of (HM.out.below hBz)
        have HAB3 := hid_of (HAB.out.of_below hBz)
        have HBa : Hid (Below w.heap.size w ((wa.alloc (.cells #[.int .i64 0, .nilFunc] 82)).setRow wa.heap.size #[.int .i64 1, .func (.func 80) #[] #[]])) := below_step HB0.out HB0.out.size HM3.out.low
        clear HM HAB hBz
        go_upto_region 7 with (first | refine wpList_store_row rfl 82 _ _ rfl wa.heap.size #[.int .i64 1, .func (.func 80) #[] #[]] rfl rfl 82 #[.int .i64 0, .nilFunc] hz0 (by kernel_rfl) rfl (by kernel_rfl) ?_)
        clear a0 a1 hz0
        generalize (wa.alloc (.cells #[.int .i64 0, .nilFunc] 82)).setRow wa.heap.size #[.int .i64 1, .func (.func 80) #[] #[]] = wb at *
        generalize wa.heap.size = zb at *
        have x1 := hz.cell (j := 1) rfl
        have HZ := hid_of hz
        clear hz
        go_wp2_with fail
        clear x1
        refine (brk0 HM3.out).mono ?_
        rintro e wc ⟨v, l, r', rfl, hb, ho, hM4, ht⟩
        have HZ4 := hid_of (HZ.out.touch ht (blk_ne2 HZ.out HM3.out.mo (by decide)))
        have HAB4 := hid_of (HAB3.out.touch ht (blk_ne2 HAB3.out HM3.out.mo (by decide)))
        have HO := hid_of (owns_lo ho HBa.out.size)
        have HBR := hid_of hb
        have HM4 := hid_of hM4
        obtain ⟨pa, ca, rfl⟩ := owns_len ho
        clear hb ho hM4 ht HZ HAB3 HM3 HBa
        cases l with
        | nil =>
          go_wp2_with fail
          go_roundg 3
          case measure => have := HIF.out; omega
          case rel => exact ⟨1, r', by go_num, by omega, by rw [Hid], HKN.out.next (by omega) HBR.out, HAB4.out, HM4.out⟩
        | cons x t =>
          have q0 : ((((x :: t).length : Nat) : Int) > 0) := by simp
          have q1 : decide ((0 : Int) < (((x :: t).length : Nat) : Int)) = true := by simp
          have x0 := HZ4.out.cell (j := 0) rfl
          generalize hlt : x :: t = l at *
          have HL : Hid (l ≠ []) := by rw [Hid, ← hlt]; simp
          clear hlt
          go_wp2_with fail
          go_ret3
          exact ⟨1, _, l, 0, rfl, .inr ⟨HC.out, rfl, HKN.out.told (by omega) HBR.out HL.out⟩, HO.out, below_step HB0.out HB0.out.size HM4.out.low⟩
      | 1, _ =>
        have a0 : wa.cell? ⟨ab, 2, none⟩ = some (.int .i64 2) := HAB.out.cell rfl
        have a1 : wa.cell? ⟨ab, 3, none⟩ = some (.func (.func 81) #[] #[]) := HAB.out.cell rfl
        have hz0 := Blk.new wa 82 #[.int .i64 0, .nilFunc]
        have hBz : Below wa.heap.size wa ((wa.alloc (.cells #[.int .i64 0, .nilFunc] 82)).setRow wa.heap.size #[.int .i64 2, .func (.func 81) #[] #[]]) := ((Below.refl wa.heap.size wa).alloc (Nat.le_refl _) _).trans (below_row _ (Nat.le_refl _))
        have hz := hz0.setRow' #[.int .i64 2, .func (.func 81) #[] #[]]
        have HM3 := hid_of (HM.out.below hBz)
        have HAB3 := hid_of (HAB.out.of_below hBz)
        have HBa : Hid (Below w.heap.size w ((wa.alloc (.cells #[.int .i64 0, .nilFunc] 82)).setRow wa.heap.size #[.int .i64 2, .func (.func 81) #[] #[]])) := below_step HB0.out HB0.out.size HM3.out.low
        clear HM HAB hBz
        go_upto_region 7 with (first | refine wpList_store_row rfl 82 _ _ rfl wa.heap.size #[.int .i64 2, .func (.func 81) #[] #[]] rfl rfl 82 #[.int .i64 0, .nilFunc] hz0 (by kernel_rfl) rfl (by kernel_rfl) ?_)
        clear a0 a1 hz0
        generalize (wa.alloc (.cells #[.int .i64 0, .nilFunc] 82)).setRow wa.heap.size #[.int .i64 2, .func (.func 81) #[] #[]] = wb at *
        generalize wa.heap.size = zb at *
        have x1 := hz.cell (j := 1) rfl
        have HZ := hid_of hz
        clear hz
        go_wp2_with fail
        clear x1
        refine (brk1 HV.out HT.out HM3.out).mono ?_
        rintro e wc ⟨v, l, r', rfl, hb, ho, hM4, ht⟩
        have HZ4 := hid_of (HZ.out.touch ht (blk_ne2 HZ.out HM3.out.mo (by decide)))
        have HAB4 := hid_of (HAB3.out.touch ht (blk_ne2 HAB3.out HM3.out.mo (by decide)))
        have HO := hid_of (owns_lo ho HBa.out.size)
        have HBR := hid_of hb
        have HM4 := hid_of hM4
        obtain ⟨pa, ca, rfl⟩ := owns_len ho
        clear hb ho hM4 ht HZ HAB3 HM3 HBa
        cases l with
        | nil =>
          go_wp2_with fail
          go_roundg 2
          case measure => have := HIF.out; omega
          case rel => exact ⟨2, r', by go_num, by omega, by rw [Hid], HKN.out.next (by omega) HBR.out, HAB4.out, HM4.out⟩
        | cons x t =>
          have q0 : ((((x :: t).length : Nat) : Int) > 0) := by simp
          have q1 : decide ((0 : Int) < (((x :: t).length : Nat) : Int)) = true := by simp
          have x0 := HZ4.out.cell (j := 0) rfl
          generalize hlt : x :: t = l at *
          have HL : Hid (l ≠ []) := by rw [Hid, ← hlt]; simp
          clear hlt
          go_wp2_with fail
          go_ret3
          exact ⟨2, _, l, 0, rfl, .inr ⟨HC.out, rfl, HKN.out.told (by omega) HBR.out HL.out⟩, HO.out, below_step HB0.out HB0.out.size HM4.out.low⟩
      | 2, _ =>
        have a0 : wa.cell? ⟨ab, 4, none⟩ = some (.int .i64 3) := HAB.out.cell rfl
        have a1 : wa.cell? ⟨ab, 5, none⟩ = some (.func (.func 82) #[] #[]) := HAB.out.cell rfl
        have hz0 := Blk.new wa 82 #[.int .i64 0, .nilFunc]
        have hBz : Below wa.heap.size wa ((wa.alloc (.cells #[.int .i64 0, .nilFunc] 82)).setRow wa.heap.size #[.int .i64 3, .func (.func 82) #[] #[]]) := ((Below.refl wa.heap.size wa).alloc (Nat.le_refl _) _).trans (below_row _ (Nat.le_refl _))
        have hz := hz0.setRow' #[.int .i64 3, .func (.func 82) #[] #[]]
        have HM3 := hid_of (HM.out.below hBz)
        have HAB3 := hid_of (HAB.out.of_below hBz)
        have HBa : Hid (Below w.heap.size w ((wa.alloc (.cells #[.int .i64 0, .nilFunc] 82)).setRow wa.heap.size #[.int .i64 3, .func (.func 82) #[] #[]])) := below_step HB0.out HB0.out.size HM3.out.low
        clear HM HAB hBz
        go_upto_region 7 with (first | refine wpList_store_row rfl 82 _ _ rfl wa.heap.size #[.int .i64 3, .func (.func 82) #[] #[]] rfl rfl 82 #[.int .i64 0, .nilFunc] hz0 (by kernel_rfl) rfl (by kernel_rfl) ?_)
        clear a0 a1 hz0
        generalize (wa.alloc (.cells #[.int .i64 0, .nilFunc] 82)).setRow wa.heap.size #[.int .i64 3, .func (.func 82) #[] #[]] = wb at *
        generalize wa.heap.size = zb at *
        have x1 := hz.cell (j := 1) rfl
        have HZ := hid_of hz
        clear hz
        go_wp2_with fail
        clear x1
        refine (brk2 HV.out HT.out HM3.out).mono ?_
        rintro e wc ⟨v, l, r', rfl, hb, ho, hM4, ht⟩
        have HZ4 := hid_of (HZ.out.touch ht (blk_ne2 HZ.out HM3.out.mo (by decide)))
        have HAB4 := hid_of (HAB3.out.touch ht (blk_ne2 HAB3.out HM3.out.mo (by decide)))
        have HO := hid_of (owns_lo ho HBa.out.size)
        have HBR := hid_of hb
        have HM4 := hid_of hM4
        obtain ⟨pa, ca, rfl⟩ := owns_len ho
        clear hb ho hM4 ht HZ HAB3 HM3 HBa
        cases l with
        | nil =>
          go_wp2_with fail
          go_roundg 1
          case measure => have := HIF.out; omega
          case rel => exact ⟨3, r', by go_num, by omega, by rw [Hid], HKN.out.next (by omega) HBR.out, HAB4.out, HM4.out⟩
        | cons x t =>
          have q0 : ((((x :: t).length : Nat) : Int) > 0) := by simp
          have q1 : decide ((0 : Int) < (((x :: t).length : Nat) : Int)) = true := by simp
          have x0 := HZ4.out.cell (j := 0) rfl
          generalize hlt : x :: t = l at *
          have HL : Hid (l ≠ []) := by rw [Hid, ← hlt]; simp
          clear hlt
          go_wp2_with fail
          go_ret3
          exact ⟨3, _, l, 0, rfl, .inr ⟨HC.out, rfl, HKN.out.told (by omega) HBR.out HL.out⟩, HO.out, below_step HB0.out HB0.out.size HM4.out.low⟩
      | 3, _ =>
        have a0 : wa.cell? ⟨ab, 6, none⟩ = some (.int .i64 4) := HAB.out.cell rfl
        have a1 : wa.cell? ⟨ab, 7, none⟩ = some (.func (.func 83) #[] #[]) := HAB.out.cell rfl
        have hz0 := Blk.new wa 82 #[.int .i64 0, .nilFunc]
        have hBz : Below wa.heap.size wa ((wa.alloc (.cells #[.int .i64 0, .nilFunc] 82)).setRow wa.heap.size #[.int .i64 4, .func (.func 83) #[] #[]]) := ((Below.refl wa.heap.size wa).alloc (Nat.le_refl _) _).trans (below_row _ (Nat.le_refl _))
        have hz := hz0.setRow' #[.int .i64 4, .func (.func 83) #[] #[]]
        have HM3 := hid_of (HM.out.below hBz)
        have HAB3 := hid_of (HAB.out.of_below hBz)
        have HBa : Hid (Below w.heap.size w ((wa.alloc (.cells #[.int .i64 0, .nilFunc] 82)).setRow wa.heap.size #[.int .i64 4, .func (.func 83) #[] #[]])) := below_step HB0.out HB0.out.size HM3.out.low
        clear HM HAB hBz
        go_upto_region 7 with (first | refine wpList_store_row rfl 82 _ _ rfl wa.heap.size #[.int .i64 4, .func (.func 83) #[] #[]] rfl rfl 82 #[.int .i64 0, .nilFunc] hz0 (by kernel_rfl) rfl (by kernel_rfl) ?_)
        clear a0 a1 hz0
        generalize (wa.alloc (.cells #[.int .i64 0, .nilFunc] 82)).setRow wa.heap.size #[.int .i64 4, .func (.func 83) #[] #[]] = wb at *
        generalize wa.heap.size = zb at *
        have x1 := hz.cell (j := 1) rfl
        have HZ := hid_of hz
        clear hz
        go_wp2_with fail
        clear x1
        refine (brk3 HT.out HM3.out).mono ?_
        rintro e wc ⟨v, l, r', rfl, hb, ho, hM4, ht⟩
        have HZ4 := hid_of (HZ.out.touch ht (blk_ne2 HZ.out HM3.out.mo (by decide)))
        have HAB4 := hid_of (HAB3.out.touch ht (blk_ne2 HAB3.out HM3.out.mo (by decide)))
        have HO := hid_of (owns_lo ho HBa.out.size)
        have HBR := hid_of hb
        have HM4 := hid_of hM4
        obtain ⟨pa, ca, rfl⟩ := owns_len ho
        clear hb ho hM4 ht HZ HAB3 HM3 HBa
        cases l with
        | nil =>
          go_wp2_with fail
          go_roundg 0
          case measure => have := HIF.out; omega
          case rel => exact ⟨4, r', by go_num, by omega, by rw [Hid], HKN.out.next (by omega) HBR.out, HAB4.out, HM4.out⟩
        | cons x t =>
          have q0 : ((((x :: t).length : Nat) : Int) > 0) := by simp
          have q1 : decide ((0 : Int) < (((x :: t).length : Nat) : Int)) = true := by simp
          have x0 := HZ4.out.cell (j := 0) rfl
          generalize hlt : x :: t = l at *
          have HL : Hid (l ≠ []) := by rw [Hid, ← hlt]; simp
          clear hlt
          go_wp2_with fail
          go_ret3
          exact ⟨4, _, l, 0, rfl, .inr ⟨HC.out, rfl, HKN.out.told (by omega) HBR.out HL.out⟩, HO.out, below_step HB0.out HB0.out.size HM4.out.low⟩
      | 4, _ =>
        go_wp2_with fail
        go_ret3
        exact ⟨0, .slice none 0 0, [], 0, rfl, .inr ⟨HC.out, rfl, HKN.out.all⟩, World.ownsRow_nil _ _ _ _, below_step HB0.out HB0.out.size HM.out.low⟩
end Go.Proofs.YtjhhimjnoljojaaGreatDoor
namespace Go.Proofs.YtjhhimjnoljojaaGreatDoor
open Go.RowKit Go.Shelf Sx
def RL (g : Gr) : Nat → List Nat
  | 0 => rsL g (LG g)
  | 1 => swL g (LG g)
  | 2 => hbL g (LG g)
  | 3 => ecoL (LG g)
  | 4 => scbL (LG g) (hbL g (LG g))
  | 5 => baseL g (LG g) (hbL g (LG g))
  | _ => pscL g (hbL g (LG g)) (ecoL (LG g))
def nil7 : Array Value := #[.pointer none, .pointer none, .pointer none, .pointer none, .pointer none, .pointer none, .pointer none]
def fcC (ks : Nat → Nat) : Array Value := #[pv (ks 0), pv (ks 1), pv (ks 2), pv (ks 3), pv (ks 4), pv (ks 5), pv (ks 6)]
set_option linter.unusedSimpArgs false in
set_option maxRecDepth 100000 in
set_option maxHeartbeats 16000000 in
theorem rcDerive_calls (V : GrV) (g : Gr) (w : World) (h : GrR w V g) (hF : Frm w) (hT : Tab w) :
    Calls Tryz.prog 17 #[V.val g] w fun e w' => ((chk g false).1 ≠ 0 ∧ e = .returned (.tuple #[.agg nil7, .int .i64 4]) ∧ Below w.heap.size w w') ∨ ((chk g false).1 = 0 ∧ ∃ ks ls : Nat → Nat, e = .returned (.tuple #[.agg (fcC ks), .int .i64 0]) ∧ (∀ i, i < 7 → IsRel w' (ks i) (ls i) (RL g i)) ∧ Below w.heap.size w w') := by
  have hg0 := Blk.new w 27 (V.gs g)
  obtain ⟨Wa, hWa⟩ : ∃ Wa, w.alloc (.cells (V.gs g) 27) = Wa := ⟨_, rfl⟩
  rw [hWa] at hg0
  have hBa : Below w.heap.size w Wa := by rw [← hWa]; exact (Below.refl _ _).alloc (Nat.le_refl _) _
  have hsa : Wa.heap.size = w.heap.size + 1 := by rw [← hWa]; simp
  have hr0 := Blk.new Wa 45 nil7
  have hBb : Below Wa.heap.size Wa (Wa.alloc (.cells nil7 45)) := (Below.refl _ _).alloc (Nat.le_refl _) _
  generalize hWb : Wa.alloc (.cells nil7 45) = W0 at *
  rw [hsa] at hr0
  have e2 : Hid ((w.alloc (.cells #[.int .i64 g.cells, V.ev, V.rf, V.co, V.rmw, V.addr, V.dat, V.ctrl] 27)).alloc (.cells #[.pointer none, .pointer none, .pointer none, .pointer none, .pointer none, .pointer none, .pointer none] 45) = W0) := by rw [Hid, ← hWb, ← hWa]; rfl
  have hB0 : Below w.heap.size w W0 := hBa.trans (hBb.mono hBa.size)
  have HV := hid_of (h.below hB0)
  have HF := hid_of (hF.step hB0)
  have HT := hid_of (hT.step' hB0)
  have HB0 := hid_of hB0
  have HG0 := hid_of (hg0.of_below hBb)
  have HR0 := hid_of hr0
  unfold GrV.val
  clear h hF hT hB0 hg0 hr0 hBa hBb hsa hWa hWb
  go_enter Tryz.func17, Tryz.ntmps17
  go_upto_region 1 with fail
  rw [e2.out]
  clear e2
  have hrb : Hid (w.heap.size ≤ w.heap.size + 1) := Nat.le_succ _
  generalize w.heap.size + 1 = rb at *
  go_wp2_with (first | refine wpList_load_row rfl 27 _ rfl w.heap.size rfl 27 (V.gs g) (0, 0) _ HG0.out Tryz.underlying27 rfl (by kernel_rfl) ?_)
  refine (rcNew_calls V g W0 HV.out HF.out HT.out).mono ?_
  rintro e w1 (⟨hc, rfl, hB1⟩ | ⟨hc, m, bs, cs, br, bw, bf, r, ks, ls, rfl, hM⟩)
  · have hR := HR0.out.of_below hB1
    go_wp2_with (first | refine wpList_store_row rfl 45 _ _ rfl rb nil7 rfl rfl 45 _ hR (by kernel_rfl) rfl (by kernel_rfl) ?_)
    (try simp only [Exit.inBlock, Exit.then])
    refine bodyPost_ret (results_cell2 rfl _ _ rb 45 nil7 (0, 0) _ rfl (hR.setRow' nil7) Tryz.underlying45 rfl (by kernel_rfl)) rfl ?_
    exact .inl ⟨hc, rfl, (below_step HB0.out HB0.out.size hB1).trans (below_row _ hrb.out)⟩
  · have D := hid_of (rcSeq_calls W0 w1 m V g bs cs (LG g) br bw bf r (ks 2) (ls 2) (ks 3) (ls 3) (hbL g (LG g)) (ecoL (LG g)) HV.out HT.out hM.hm hM.low hM.mo (hM.r 2 (by omega)) (hM.r 3 (by omega)) hM.rd hM.wt hM.fe
      (Rels.cons (Rels.cons (Rels.cons (Rels.cons (Rels.cons (Rels.cons (Rels.nil _) hM.eco) hM.hb) (hM.E 5 (by omega))) (hM.E 3 (by omega))) (hM.E 2 (by omega))) (hM.E 0 (by omega))))
    have HM := hid_of hM
    have HC := hid_of hc
    clear hM hc HG0
    go_wp2_with fail
    refine D.out.mono ?_
    rintro e wq ⟨rfl, b1, c1, b2, c2, b3, c3, hR, hmo, htc⟩
    have HM1 : Hid (Mdl W0 V g m bs cs br bw bf (updR (updR (updR r 4 (pv b1)) 5 (pv b2)) 6 (pv b3)) ks ls wq) := HM.out.touch htc hmo (fun i hi => by unfold updR; rw [if_neg (by omega), if_neg (by omega), if_neg (by omega)])
    have H1 := hid_of (hR.at_ (b := b1) (c := c1) (L := scbL (LG g) (hbL g (LG g))) (.tail _ (.tail _ (.head _))))
    have H2 := hid_of (hR.at_ (b := b2) (c := c2) (L := baseL g (LG g) (hbL g (LG g))) (.tail _ (.head _)))
    have H3 := hid_of (hR.at_ (b := b3) (c := c3) (L := pscL g (hbL g (LG g)) (ecoL (LG g))) (.head _))
    have x0 : wq.cell? ⟨m, 21, none⟩ = some (pv (ks 0)) := by rw [← HM.out.r 0 (by omega)]; exact hmo.cell rfl
    have x1 : wq.cell? ⟨m, 22, none⟩ = some (pv (ks 1)) := by rw [← HM.out.r 1 (by omega)]; exact hmo.cell rfl
    have x2 : wq.cell? ⟨m, 23, none⟩ = some (pv (ks 2)) := by rw [← HM.out.r 2 (by omega)]; exact hmo.cell rfl
    have x3 : wq.cell? ⟨m, 24, none⟩ = some (pv (ks 3)) := by rw [← HM.out.r 3 (by omega)]; exact hmo.cell rfl
    have x4 : wq.cell? ⟨m, 25, none⟩ = some (pv b1) := hmo.cell rfl
    have x5 : wq.cell? ⟨m, 26, none⟩ = some (pv b2) := hmo.cell rfl
    have x6 : wq.cell? ⟨m, 27, none⟩ = some (pv b3) := hmo.cell rfl
    have HRB := hid_of ((HR0.out.of_below HM.out.low).touch htc (blk_ne2 (HR0.out.of_below HM.out.low) HM.out.mo (by decide)))
    clear hR hmo htc D HM
    go_wp2_with (first | refine wpList_store_row rfl 45 _ _ rfl rb #[pv (ks 0), pv (ks 1), pv (ks 2), pv (ks 3), pv b1, pv b2, pv b3] rfl rfl 45 _ HRB.out (by kernel_rfl) rfl (by kernel_rfl) ?_)
    (try simp only [Exit.inBlock, Exit.then])
    refine bodyPost_ret (results_cell2 rfl _ _ rb 45 #[pv (ks 0), pv (ks 1), pv (ks 2), pv (ks 3), pv b1, pv b2, pv b3] (0, 0) _ rfl (HRB.out.setRow' _) Tryz.underlying45 rfl (by kernel_rfl)) rfl ?_
    have rr : ∀ {b c : Nat} {L : List Nat}, IsRel wq b c L → IsRel (wq.setRow rb #[pv (ks 0), pv (ks 1), pv (ks 2), pv (ks 3), pv b1, pv b2, pv b3]) b c L := fun h => ⟨h.ne, h.head.rowOther (blk_ne h.head HRB.out (by decide)) _, h.rows.rowOther (blk_ne h.rows HRB.out (by decide)) _, h.len, h.low⟩
    refine .inr ⟨HC.out, fun i => [ks 0, ks 1, ks 2, ks 3, b1, b2, b3].getD i 0, fun i => [ls 0, ls 1, ls 2, ls 3, c1, c2, c3].getD i 0, rfl, fun i hi => ?_, (below_step HB0.out HB0.out.size HM1.out.low).trans (below_row _ hrb.out)⟩
    match i, hi with
    | 0, _ => exact rr HM1.out.rs
    | 1, _ => exact rr HM1.out.sw
    | 2, _ => exact rr HM1.out.hb
    | 3, _ => exact rr HM1.out.eco
    | 4, _ => exact rr H1.out
    | 5, _ => exact rr H2.out
    | 6, _ => exact rr H3.out
    | n + 7, h => omega
end Go.Proofs.YtjhhimjnoljojaaGreatDoor
