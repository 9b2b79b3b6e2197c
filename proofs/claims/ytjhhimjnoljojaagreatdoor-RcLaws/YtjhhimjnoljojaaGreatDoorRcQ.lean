/- RcLaws' walk. (Printed by rcq.py.) -/
import Derived.Test.YtjhhimjnoljojaaGreatDoorJ27
import Derived.Test.YtjhhimjnoljojaaGreatDoorRcM
namespace Go.Proofs.YtjhhimjnoljojaaGreatDoor
open Go.RowKit Go.Shelf Sx
theorem pairs_in {L : List Nat} {p q : Nat} (h : (p, q) ∈ pairsL L) : hs L p q := by
  unfold pairsL pairsK at h
  obtain ⟨a, _, h2⟩ := List.mem_flatMap.1 h
  obtain ⟨b, h3, h4⟩ := List.mem_map.1 h2
  cases h4
  exact (mem_bitsOf.1 h3).2
def upP (l : List (Nat × Nat)) : List (Int × Int) := l.map (fun x => (((x.1 : Nat) : Int), ((x.2 : Nat) : Int)))
theorem upP_at {l : List (Nat × Nat)} {i : Nat} (h : i < l.length) : ∃ a b : Nat, (a, b) ∈ l ∧ (upP l)[i]? = some (((a : Nat) : Int), ((b : Nat) : Int)) := by
  refine ⟨l[i].1, l[i].2, List.getElem_mem h, ?_⟩
  unfold upP
  rw [List.getElem?_map, List.getElem?_eq_getElem h]
  rfl
theorem ev_t {g : Gr} (h : Wf g false) {p : Nat} (hp : p < g.evs.length) : (g.ev p).t = -1 ∨ 0 ≤ (g.ev p).t := by
  have h2 : bad2 g false = -1 := h 1 (by omega)
  have h3 : bad3 g false = -1 := h 2 (by omega)
  by_cases hc : p < g.cells.toNat
  · have := fst_all h2 p (Nat.zero_le _) (by omega)
    have e : g.ev p = iniEv p false := Ev.ndec_false this
    rw [e]
    exact .inl rfl
  · have := fst_all h3 p (by omega) (by omega)
    simp [okEv] at this
    omega
theorem po_lo {evs : List Ev} {i j : Nat} (h : j ≤ i) : poB evs i j = false := by
  unfold poB
  rw [decide_eq_false (show ¬ i < j by omega)]
  rfl
theorem po_no1 {g : Gr} {i j : Nat} (h : (g.ev i).t < 0) (hw : Wf g false) (hi : i < g.evs.length) : poB g.evs i j = false := by
  have : (g.evs.getD i Ev.zero).t = -1 := by rcases ev_t hw hi with e | e; exact e; omega
  unfold poB
  rw [this]
  simp
theorem po_no2 {g : Gr} {i j : Nat} (h : (g.ev i).t ≠ (g.ev j).t) : poB g.evs i j = false := by
  unfold poB
  rw [decide_eq_false (show ¬ (g.evs.getD i Ev.zero).t = (g.evs.getD j Ev.zero).t from h)]
  simp
theorem po_yes {g : Gr} {i j : Nat} (hij : i < j) (h0 : 0 ≤ (g.ev i).t) (h : (g.ev i).t = (g.ev j).t) : poB g.evs i j = true := by
  unfold poB
  rw [decide_eq_true hij, decide_eq_true (show (g.evs.getD i Ev.zero).t = (g.evs.getD j Ev.zero).t from h), decide_eq_true (show (g.evs.getD i Ev.zero).t ≠ -1 by have : (g.evs.getD i Ev.zero).t = (g.ev i).t := rfl; omega)]
  rfl
theorem fil_skip {evs : List Ev} {i p q : Nat} : filB (poB evs) i (i + 1) p q = filB (poB evs) i 0 p q := by
  unfold filB
  by_cases e : p = i
  · subst e
    by_cases hq : q < p + 1
    · rw [po_lo (show q ≤ p by omega)]; simp
    · simp [hq]
  · simp [e]
theorem ok_zero {g : Gr} {l : List Int} (h : RcOK g 0 l) : inco g = [] ∧ CycOK (airL g) [] := by
  rcases h with ⟨_, e, _⟩ | ⟨_, _, e, _⟩ | ⟨h1, _, o3, _, h3⟩
  · cases e
  · cases e
  · rcases h3 with ⟨_, e, _⟩ | ⟨_, o4, h4, h5⟩
    · cases e
    · rcases h5 with ⟨_, e, _⟩ | ⟨e, _, _⟩
      · cases e
      · subst e
        exact ⟨h1, h4⟩
theorem wf_hb {g : Gr} (hn : g.evs.length ≤ 256) : WF g.evs.length (RL g 2) := wf_plus (A := uhL g (LG g)) (wf_union (wf_LG g 0) (wf_sw hn))
theorem wf_eco (g : Gr) : WF g.evs.length (RL g 3) := wf_plus (A := ueL (LG g)) (wf_union3 (wf_LG g 1) (wf_LG g 2) (wf_LG g 3))
theorem no_back {g : Gr} (hn : g.evs.length ≤ 256) (h : inco g = []) {a b : Nat} (he : hs (RL g 3) a b) : hasP (RL g 2) ((b : Nat) : Int) ((a : Nat) : Int) = false := by
  have hw := wf_hb hn
  have h1 := (inco_nil (H := RL g 2) (E := RL g 3) h).2 b a
  rw [hw.len] at h1
  have ha := hs_left he
  rw [(wf_eco g).len] at ha
  have hb := (wf_eco g).low _ _ he
  cases e : hasP (RL g 2) ((b : Nat) : Int) ((a : Nat) : Int)
  · rfl
  · have := h1 hb ha e
    rw [(hasP_hs (wf_eco g)).2 he] at this
    cases this
theorem hb_irr {g : Gr} (hn : g.evs.length ≤ 256) (h : inco g = []) : (loopsL (RL g 2) == 0) = true := by
  have hw := wf_hb hn
  have h1 := (inco_nil (H := RL g 2) (E := RL g 3) h).1
  rw [hw.len] at h1
  rw [beq_iff_eq, loops_zero]
  intro p hp
  have := h1 p (hw.low _ _ hp)
  rw [(hasP_hs hw).2 hp] at this
  cases this
def evC (e : Ev) : Array Value := #[.int .i64 e.t, .int .i64 e.k, .int .i64 e.l, .int .u64 e.v, .int .i64 e.m]
theorem ev_of {g : Gr} {i : Nat} (h : i < g.evs.length) : g.evs[i]? = some (g.ev i) := Gr.ev_at h
theorem wf_of {g : Gr} (h : (chk g false).1 = 0) : Wf g false := chk_zero h
theorem len_of {g : Gr} (h : (chk g false).1 = 0) : g.evs.length ≤ 256 := wf_len (by unfold wfB; rw [h]; rfl)
theorem RL_len (g : Gr) (hn : g.evs.length ≤ 256) : (RL g 1).length = g.evs.length := (wf_sw hn).len
set_option linter.unusedSimpArgs false in
set_option maxRecDepth 100000 in
set_option maxHeartbeats 32000000 in
theorem RcLaws_calls (V : GrV) (g : Gr) (w : World) (h : GrR w V g) (hF : Frm w) (hT : Tab w) : Calls Tryz.prog 7 #[V.val g] w fun r w' => r = .returned (.bool true) ∧ Below w.heap.size w w' := by
  obtain ⟨Ve, Vr, Vc, Vm, Va, Vd, Vt⟩ := V
  obtain ⟨pe, ce, ee, hp, _, _⟩ := h.ev
  dsimp only at ee
  subst ee
  have hg0 := Blk.new w 27 #[.int .i64 g.cells, .slice pe g.evs.length ce, Vr, Vc, Vm, Va, Vd, Vt]
  have hB0 : Below w.heap.size w (w.alloc (.cells #[.int .i64 g.cells, .slice pe g.evs.length ce, Vr, Vc, Vm, Va, Vd, Vt] 27)) := (Below.refl _ _).alloc (Nat.le_refl _) _
  have HV := hid_of (h.below hB0)
  have HF := hid_of (hF.step hB0)
  have HT := hid_of (hT.step' hB0)
  have HB0 := hid_of hB0
  have HG0 := hid_of hg0
  have HP0 := hid_of hp
  unfold GrV.val
  dsimp only
  clear h hF hT hB0 hg0 hp
  go_enter Tryz.func7, Tryz.ntmps7
  go_upto_region 1 with fail
  generalize w.alloc (.cells #[.int .i64 g.cells, .slice pe g.evs.length ce, Vr, Vc, Vm, Va, Vd, Vt] 27) = W0 at *
  go_wp2_with (first | refine wpList_load_row rfl 27 _ rfl w.heap.size rfl 27 #[.int .i64 g.cells, .slice pe g.evs.length ce, Vr, Vc, Vm, Va, Vd, Vt] (0, 0) _ HG0.out Tryz.underlying27 rfl (by kernel_rfl) ?_)
  refine (rcDerive_calls ⟨.slice pe g.evs.length ce, Vr, Vc, Vm, Va, Vd, Vt⟩ g W0 HV.out HF.out HT.out).mono ?_
  rintro e w1 (⟨hc, rfl, hB1⟩ | ⟨hc, ks, ls, rfl, hR, hB1⟩)
  · have hz := Blk.new w1 45 #[.pointer none, .pointer none, .pointer none, .pointer none, .pointer none, .pointer none, .pointer none]
    have hBz : Below w1.heap.size w1 ((w1.alloc (.cells #[.pointer none, .pointer none, .pointer none, .pointer none, .pointer none, .pointer none, .pointer none] 45)).setRow w1.heap.size nil7) := ((Below.refl w1.heap.size w1).alloc (Nat.le_refl _) _).trans (below_row _ (Nat.le_refl _))
    have hA1 : Below W0.heap.size W0 ((w1.alloc (.cells #[.pointer none, .pointer none, .pointer none, .pointer none, .pointer none, .pointer none, .pointer none] 45)).setRow w1.heap.size nil7) := below_step hB1 hB1.size hBz
    have HA1 := hid_of hA1
    have HG1 := hid_of (HG0.out.of_below hA1)
    clear hA1 hBz hB1
    go_upto_region 2 with (first | refine wpList_store_row rfl 45 _ _ rfl w1.heap.size nil7 rfl rfl 45 #[.pointer none, .pointer none, .pointer none, .pointer none, .pointer none, .pointer none, .pointer none] hz (by kernel_rfl) rfl (by kernel_rfl) ?_)
    clear hz
    generalize (w1.alloc (.cells #[.pointer none, .pointer none, .pointer none, .pointer none, .pointer none, .pointer none, .pointer none] 45)).setRow w1.heap.size nil7 = W1 at *
    go_wp2_with (first | refine wpList_load_row rfl 27 _ rfl w.heap.size rfl 27 #[.int .i64 g.cells, .slice pe g.evs.length ce, Vr, Vc, Vm, Va, Vd, Vt] (0, 0) _ HG1.out Tryz.underlying27 rfl (by kernel_rfl) ?_)
    refine (rcCheck_calls ⟨.slice pe g.evs.length ce, Vr, Vc, Vm, Va, Vd, Vt⟩ g W1 (HV.out.below HA1.out) (HF.out.step HA1.out) (HT.out.step' HA1.out)).mono ?_
    rintro e w2 ⟨ax, v, l, er, rfl, hans, hown, hB2⟩
    obtain ⟨rfl, rfl, rfl⟩ := ansE hans hc
    obtain ⟨pz, cz, rfl⟩ := owns_len hown
    have HA2 : Hid (Below W0.heap.size W0 w2) := below_step HA1.out HA1.out.size hB2
    clear hans hown hB2
    go_wp2_with fail
    refine (l10lives_calls w2 (HF.out.step HA2.out) (HT.out.step' HA2.out)).mono ?_
    rintro e w3 ⟨rfl, hB3⟩
    go_wp2_with fail
    go_ret
    exact ⟨rfl, below_step HB0.out HB0.out.size (below_step HA2.out HA2.out.size hB3)⟩
  · have hz := Blk.new w1 45 #[.pointer none, .pointer none, .pointer none, .pointer none, .pointer none, .pointer none, .pointer none]
    have hBz : Below w1.heap.size w1 ((w1.alloc (.cells #[.pointer none, .pointer none, .pointer none, .pointer none, .pointer none, .pointer none, .pointer none] 45)).setRow w1.heap.size (fcC ks)) := ((Below.refl w1.heap.size w1).alloc (Nat.le_refl _) _).trans (below_row _ (Nat.le_refl _))
    have hA1 : Below W0.heap.size W0 ((w1.alloc (.cells #[.pointer none, .pointer none, .pointer none, .pointer none, .pointer none, .pointer none, .pointer none] 45)).setRow w1.heap.size (fcC ks)) := below_step hB1 hB1.size hBz
    have HA1 := hid_of hA1
    have HG1 := hid_of (HG0.out.of_below hA1)
    have HR1 := hid_of (fun i (hi : i < 7) => (hR i hi).below hBz)
    have HFB1 := hid_of (hz.setRow' (fcC ks))
    clear hA1 hBz hB1 hR
    go_upto_region 2 with (first | refine wpList_store_row rfl 45 _ _ rfl w1.heap.size (fcC ks) rfl rfl 45 #[.pointer none, .pointer none, .pointer none, .pointer none, .pointer none, .pointer none, .pointer none] hz (by kernel_rfl) rfl (by kernel_rfl) ?_)
    clear hz
    generalize (w1.alloc (.cells #[.pointer none, .pointer none, .pointer none, .pointer none, .pointer none, .pointer none, .pointer none] 45)).setRow w1.heap.size (fcC ks) = W1 at *
    generalize w1.heap.size = fb at *
    go_wp2_with (first | refine wpList_load_row rfl 27 _ rfl w.heap.size rfl 27 #[.int .i64 g.cells, .slice pe g.evs.length ce, Vr, Vc, Vm, Va, Vd, Vt] (0, 0) _ HG1.out Tryz.underlying27 rfl (by kernel_rfl) ?_)
    refine (rcCheck_calls ⟨.slice pe g.evs.length ce, Vr, Vc, Vm, Va, Vd, Vt⟩ g W1 (HV.out.below HA1.out) (HF.out.step HA1.out) (HT.out.step' HA1.out)).mono ?_
    rintro e w2 ⟨ax, v, l, er, rfl, hans, hown, hB2⟩
    obtain ⟨rfl, hok⟩ := ansK hans hc
    obtain ⟨pz, cz, rfl⟩ := owns_len hown
    have hA2 : Below W0.heap.size W0 w2 := below_step HA1.out HA1.out.size hB2
    have HB2 : Hid (Below w.heap.size w w2) := below_step HB0.out HB0.out.size hA2
    have HV2 := hid_of (HV.out.below hA2)
    have HF2 := hid_of (HF.out.step hA2)
    have HT2 := hid_of (HT.out.step' hA2)
    have HG2 := hid_of (HG0.out.of_below hA2)
    have HFB2 := hid_of (HFB1.out.of_below hB2)
    have HR2 := hid_of (fun i (hi : i < 7) => (HR1.out i hi).below hB2)
    have HOK := hid_of hok
    have hn := len_of hc
    have HWF := hid_of (wf_of hc)
    clear hans hown hB2 hA2 HA1 HG1 HR1 HFB1 HG0 HV HF HT HB0 hok hc HP0
    have y1 : w2.cell? ⟨fb, 1, none⟩ = some (pv (ks 1)) := HFB2.out.cell rfl
    have y2 : w2.cell? ⟨fb, 2, none⟩ = some (pv (ks 2)) := HFB2.out.cell rfl
    have y3 : w2.cell? ⟨fb, 3, none⟩ = some (pv (ks 3)) := HFB2.out.cell rfl
    go_wp2_with fail
    clear y1 y2 y3
    refine (Pairs_calls (ks 1) (ls 1) (RL g 1) w2 (HR2.out 1 (by omega)) HT2.out).mono ?_
    rintro e w3 ⟨u, rfl, hu, hB3⟩
    have hpl := pairsK_length (RL g 1) (RL g 1).length
    rw [RL_len g hn] at hpl
    have hpl2 : (pairsL (RL g 1)).length ≤ 65536 := by unfold pairsL; rw [RL_len g hn]; omega
    have hsw : ∀ a b, (a, b) ∈ pairsL (RL g 1) → hs (swL g (LG g)) a b := fun a b h => pairs_in (L := RL g 1) h
    have HU := hid_of (rc_parg hu (by omega))
    obtain ⟨pu, cu, rfl⟩ := owns_len hu
    generalize pairsL (RL g 1) = SP at *
    have HSW := hid_of hsw
    have HB3 := hid_of hB3
    clear hu hB3 hsw hpl
    go_wp2_with fail
    go_loopg [9] SP.length (fun f v9 wr => ∃ i : Nat, v9 = .int .i64 ((i : Nat) : Int) ∧ i ≤ SP.length ∧ Hid (i + f = SP.length) ∧ Hid (Below w3.heap.size w3 wr))
    case atStart => exact ⟨0, rfl, Nat.zero_le _, Nat.zero_add _, Below.refl _ _⟩
    case round =>
      obtain ⟨i, rfl, hi, HIF, HBR⟩ := hrel
      generalize hwq : wr = wa at *
      clear hwq
      by_cases hlt : i < SP.length
      · obtain ⟨a, b, hab, hx⟩ := upP_at hlt
        have hend := sw_ends hn (HSW.out a b hab)
        have hwfs := wf_sw (g := g) hn
        have ha : a < g.evs.length := by have := hs_left (HSW.out a b hab); rw [hwfs.len] at this; exact this
        have hb : b < g.evs.length := hwfs.low _ _ (HSW.out a b hab)
        clear hwfs
        have hup : Below w2.heap.size w2 wa := below_step HB3.out HB3.out.size HBR.out
        obtain ⟨pq, cq, eu, hpu, _⟩ := parg_form (HU.out.below HBR.out)
        have hpos : 0 < (SP.map (fun x => (((x.1 : Nat) : Int), ((x.2 : Nat) : Int)))).length := by rw [List.length_map]; omega
        obtain ⟨us, uo, rfl, hat⟩ := hpu hpos
        injection eu with eu1 eu2 eu3
        subst eu1
        clear eu2 eu3 hpos
        have x0 := hat.fst i _ hx
        have x1 := hat.snd i _ hx
        dsimp only at x0 x1
        obtain ⟨pv0, cv0, ev0, hpv, _, _⟩ := (HV2.out.ev).below hup
        injection ev0 with ev1 ev2 ev3
        obtain ⟨es, eo, rfl, hevs⟩ := hpv (by omega)
        subst ev1
        clear ev2 ev3
        have A0 : (0 : Int) ≤ ((a : Nat) : Int) := by omega
        have A1 : ((a : Nat) : Int) < ((g.evs.length : Nat) : Int) := by omega
        have B0 : (0 : Int) ≤ ((b : Nat) : Int) := by omega
        have B1 : ((b : Nat) : Int) < ((g.evs.length : Nat) : Int) := by omega
        have I0 : (0 : Int) ≤ ((i : Nat) : Int) := by omega
        have I1 : ((i : Nat) : Int) < ((SP.length : Nat) : Int) := by omega
        have m0 := hevs.c0 a _ (ev_of ha)
        have m1 := hevs.c1 a _ (ev_of ha)
        have m2 := hevs.c2 a _ (ev_of ha)
        have m3 := hevs.c3 a _ (ev_of ha)
        have m4 := hevs.c4 a _ (ev_of ha)
        have n0 := hevs.c0 b _ (ev_of hb)
        have n1 := hevs.c1 b _ (ev_of hb)
        have n2 := hevs.c2 b _ (ev_of hb)
        have n3 := hevs.c3 b _ (ev_of hb)
        have n4 := hevs.c4 b _ (ev_of hb)
        have g1 : wa.cell? ⟨w.heap.size, 1, none⟩ = some (.slice (some ⟨es, eo, none⟩) g.evs.length ce) := (HG2.out.of_below hup).cell rfl
        have HE := hid_of hend
        have HEV := hid_of hevs
        have HAT := hid_of hat
        have HUP := hid_of hup
        have H0t := hid_of (not_ini HWF.out ha (fun e => by have := hend.1.1; rw [e] at this; simp at this))
        clear hend hevs hat hup hab hx
        go_upto_region 11 with fail
        have hBda : Below wa.heap.size wa wa.drew := (Below.refl _ _).drew
        refine wp_region_held_drew (S := fun W => W.cell? ⟨w.heap.size, 1, none⟩ = some (.slice (some ⟨es, eo, none⟩) g.evs.length ce) ∧ W.cell? ⟨us, uo + i * 2, none⟩ = some (.int .i64 ((a : Nat) : Int)) ∧ W.cell? ⟨es, eo + a * 5, none⟩ = some (.int .i64 (g.ev a).t) ∧ W.cell? ⟨es, eo + a * 5 + 1, none⟩ = some (.int .i64 (g.ev a).k) ∧ W.cell? ⟨es, eo + a * 5 + 2, none⟩ = some (.int .i64 (g.ev a).l) ∧ W.cell? ⟨es, eo + a * 5 + 3, none⟩ = some (.int .u64 (g.ev a).v) ∧ W.cell? ⟨es, eo + a * 5 + 4, none⟩ = some (.int .i64 (g.ev a).m)) (by kernel_rfl) ⟨(hBda.cell (p := ⟨w.heap.size, 1, none⟩) (block_lt_of_cell g1)).trans g1, (hBda.cell (p := ⟨us, uo + i * 2, none⟩) (block_lt_of_cell x0)).trans x0, (hBda.cell (p := ⟨es, eo + a * 5, none⟩) (block_lt_of_cell m0)).trans m0, (hBda.cell (p := ⟨es, eo + a * 5 + 1, none⟩) (block_lt_of_cell m1)).trans m1, (hBda.cell (p := ⟨es, eo + a * 5 + 2, none⟩) (block_lt_of_cell m2)).trans m2, (hBda.cell (p := ⟨es, eo + a * 5 + 3, none⟩) (block_lt_of_cell m3)).trans m3, (hBda.cell (p := ⟨es, eo + a * 5 + 4, none⟩) (block_lt_of_cell m4)).trans m4⟩ (fun hHeld => ?_)
        generalize wa.drew = Wda at *
        refine tk 0 rfl ?_; simp only [zz]
        refine tk 1 rfl ?_; simp only [zz]
        refine tk 2 rfl ?_; simp only [zz]
        refine tk 3 rfl ?_; simp only [zz]
        refine tk 4 rfl ?_; simp only [zz]
        refine tk 5 rfl ?_; simp only [zz]
        refine tk 6 rfl ?_; simp only [zz]
        refine tk 7 rfl ?_; simp only [zz]
        refine tk 8 rfl ?_; simp only [zz]
        refine wpAnyH_ready (rs := [9]) (by kernel_rfl) (by simp) ?_
        refine rdy rfl (fun K hK => ?_) AllReadyH.nil
        simp only [z1, z2, z3]
        go_simp
        have hza := Blk.new Wda 31 #[.int .i64 0, .int .i64 0, .int .i64 0, .int .u64 0, .int .i64 0]
        have hBea : Below wa.heap.size wa (Wda.alloc (.cells #[.int .i64 0, .int .i64 0, .int .i64 0, .int .u64 0, .int .i64 0] 31)) := hBda.alloc hBda.size _
        refine hK.out _ _ ⟨(hBea.cell (p := ⟨w.heap.size, 1, none⟩) (block_lt_of_cell g1)).trans g1, (hBea.cell (p := ⟨us, uo + i * 2, none⟩) (block_lt_of_cell x0)).trans x0, (hBea.cell (p := ⟨es, eo + a * 5, none⟩) (block_lt_of_cell m0)).trans m0, (hBea.cell (p := ⟨es, eo + a * 5 + 1, none⟩) (block_lt_of_cell m1)).trans m1, (hBea.cell (p := ⟨es, eo + a * 5 + 2, none⟩) (block_lt_of_cell m2)).trans m2, (hBea.cell (p := ⟨es, eo + a * 5 + 3, none⟩) (block_lt_of_cell m3)).trans m3, (hBea.cell (p := ⟨es, eo + a * 5 + 4, none⟩) (block_lt_of_cell m4)).trans m4⟩ (fun hHeld => ?_)
        clear hK K
        try simp only [zz]
        refine wpAnyH_ready (rs := [10]) (by kernel_rfl) (by simp) ?_
        refine rdy rfl (fun K hK => ?_) AllReadyH.nil
        simp only [z1, z2, z3]
        refine wp_store_row 31 _ _ rfl Wda.heap.size (evC (g.ev a)) rfl rfl 31 #[.int .i64 0, .int .i64 0, .int .i64 0, .int .u64 0, .int .i64 0] hza (by kernel_rfl) rfl (by kernel_rfl) ?_
        have hBfa : Below wa.heap.size wa ((Wda.alloc (.cells #[.int .i64 0, .int .i64 0, .int .i64 0, .int .u64 0, .int .i64 0] 31)).setRow Wda.heap.size (evC (g.ev a))) := hBea.trans (below_row _ hBda.size)
        have HXa := hid_of (hza.setRow' (evC (g.ev a)))
        refine hK.out _ _ ⟨(hBfa.cell (p := ⟨w.heap.size, 1, none⟩) (block_lt_of_cell g1)).trans g1, (hBfa.cell (p := ⟨us, uo + i * 2, none⟩) (block_lt_of_cell x0)).trans x0, (hBfa.cell (p := ⟨es, eo + a * 5, none⟩) (block_lt_of_cell m0)).trans m0, (hBfa.cell (p := ⟨es, eo + a * 5 + 1, none⟩) (block_lt_of_cell m1)).trans m1, (hBfa.cell (p := ⟨es, eo + a * 5 + 2, none⟩) (block_lt_of_cell m2)).trans m2, (hBfa.cell (p := ⟨es, eo + a * 5 + 3, none⟩) (block_lt_of_cell m3)).trans m3, (hBfa.cell (p := ⟨es, eo + a * 5 + 4, none⟩) (block_lt_of_cell m4)).trans m4⟩ (fun hHeld => ?_)
        clear hK K
        try simp only [zz]
        refine wpAnyH_done (by kernel_rfl) ?_ _
        clear hHeld
        have HDa := hid_of hBfa
        clear hza hBda hBea hBfa
        generalize (Wda.alloc (.cells #[.int .i64 0, .int .i64 0, .int .i64 0, .int .u64 0, .int .i64 0] 31)).setRow Wda.heap.size (evC (g.ev a)) = Wxa at *
        generalize Wda.heap.size = za at *
        go_upto_region 12 with fail
        have hBdb : Below wa.heap.size wa Wxa.drew := HDa.out.drew
        have hCd : Below Wxa.heap.size Wxa Wxa.drew := (Below.refl _ _).drew
        refine wp_region_held_drew (S := fun W => W.cell? ⟨w.heap.size, 1, none⟩ = some (.slice (some ⟨es, eo, none⟩) g.evs.length ce) ∧ W.cell? ⟨us, uo + i * 2 + 1, none⟩ = some (.int .i64 ((b : Nat) : Int)) ∧ W.cell? ⟨es, eo + b * 5, none⟩ = some (.int .i64 (g.ev b).t) ∧ W.cell? ⟨es, eo + b * 5 + 1, none⟩ = some (.int .i64 (g.ev b).k) ∧ W.cell? ⟨es, eo + b * 5 + 2, none⟩ = some (.int .i64 (g.ev b).l) ∧ W.cell? ⟨es, eo + b * 5 + 3, none⟩ = some (.int .u64 (g.ev b).v) ∧ W.cell? ⟨es, eo + b * 5 + 4, none⟩ = some (.int .i64 (g.ev b).m)) (by kernel_rfl) ⟨(hBdb.cell (p := ⟨w.heap.size, 1, none⟩) (block_lt_of_cell g1)).trans g1, (hBdb.cell (p := ⟨us, uo + i * 2 + 1, none⟩) (block_lt_of_cell x1)).trans x1, (hBdb.cell (p := ⟨es, eo + b * 5, none⟩) (block_lt_of_cell n0)).trans n0, (hBdb.cell (p := ⟨es, eo + b * 5 + 1, none⟩) (block_lt_of_cell n1)).trans n1, (hBdb.cell (p := ⟨es, eo + b * 5 + 2, none⟩) (block_lt_of_cell n2)).trans n2, (hBdb.cell (p := ⟨es, eo + b * 5 + 3, none⟩) (block_lt_of_cell n3)).trans n3, (hBdb.cell (p := ⟨es, eo + b * 5 + 4, none⟩) (block_lt_of_cell n4)).trans n4⟩ (fun hHeld => ?_)
        generalize Wxa.drew = Wdb at *
        refine tk 0 rfl ?_; simp only [zz]
        refine tk 1 rfl ?_; simp only [zz]
        refine tk 2 rfl ?_; simp only [zz]
        refine tk 3 rfl ?_; simp only [zz]
        refine tk 4 rfl ?_; simp only [zz]
        refine tk 5 rfl ?_; simp only [zz]
        refine tk 6 rfl ?_; simp only [zz]
        refine tk 7 rfl ?_; simp only [zz]
        refine tk 8 rfl ?_; simp only [zz]
        refine wpAnyH_ready (rs := [9]) (by kernel_rfl) (by simp) ?_
        refine rdy rfl (fun K hK => ?_) AllReadyH.nil
        simp only [z1, z2, z3]
        go_simp
        have hzb := Blk.new Wdb 31 #[.int .i64 0, .int .i64 0, .int .i64 0, .int .u64 0, .int .i64 0]
        have hBeb : Below wa.heap.size wa (Wdb.alloc (.cells #[.int .i64 0, .int .i64 0, .int .i64 0, .int .u64 0, .int .i64 0] 31)) := hBdb.alloc hBdb.size _
        refine hK.out _ _ ⟨(hBeb.cell (p := ⟨w.heap.size, 1, none⟩) (block_lt_of_cell g1)).trans g1, (hBeb.cell (p := ⟨us, uo + i * 2 + 1, none⟩) (block_lt_of_cell x1)).trans x1, (hBeb.cell (p := ⟨es, eo + b * 5, none⟩) (block_lt_of_cell n0)).trans n0, (hBeb.cell (p := ⟨es, eo + b * 5 + 1, none⟩) (block_lt_of_cell n1)).trans n1, (hBeb.cell (p := ⟨es, eo + b * 5 + 2, none⟩) (block_lt_of_cell n2)).trans n2, (hBeb.cell (p := ⟨es, eo + b * 5 + 3, none⟩) (block_lt_of_cell n3)).trans n3, (hBeb.cell (p := ⟨es, eo + b * 5 + 4, none⟩) (block_lt_of_cell n4)).trans n4⟩ (fun hHeld => ?_)
        clear hK K
        try simp only [zz]
        refine wpAnyH_ready (rs := [10]) (by kernel_rfl) (by simp) ?_
        refine rdy rfl (fun K hK => ?_) AllReadyH.nil
        simp only [z1, z2, z3]
        refine wp_store_row 31 _ _ rfl Wdb.heap.size (evC (g.ev b)) rfl rfl 31 #[.int .i64 0, .int .i64 0, .int .i64 0, .int .u64 0, .int .i64 0] hzb (by kernel_rfl) rfl (by kernel_rfl) ?_
        have hBfb : Below wa.heap.size wa ((Wdb.alloc (.cells #[.int .i64 0, .int .i64 0, .int .i64 0, .int .u64 0, .int .i64 0] 31)).setRow Wdb.heap.size (evC (g.ev b))) := hBeb.trans (below_row _ hBdb.size)
        have hCf : Below Wxa.heap.size Wxa ((Wdb.alloc (.cells #[.int .i64 0, .int .i64 0, .int .i64 0, .int .u64 0, .int .i64 0] 31)).setRow Wdb.heap.size (evC (g.ev b))) := (hCd.alloc hCd.size _).trans (below_row _ hCd.size)
        have HXa2 := hid_of (HXa.out.of_below hCf)
        clear hCf hCd HXa
        have HXb := hid_of (hzb.setRow' (evC (g.ev b)))
        refine hK.out _ _ ⟨(hBfb.cell (p := ⟨w.heap.size, 1, none⟩) (block_lt_of_cell g1)).trans g1, (hBfb.cell (p := ⟨us, uo + i * 2 + 1, none⟩) (block_lt_of_cell x1)).trans x1, (hBfb.cell (p := ⟨es, eo + b * 5, none⟩) (block_lt_of_cell n0)).trans n0, (hBfb.cell (p := ⟨es, eo + b * 5 + 1, none⟩) (block_lt_of_cell n1)).trans n1, (hBfb.cell (p := ⟨es, eo + b * 5 + 2, none⟩) (block_lt_of_cell n2)).trans n2, (hBfb.cell (p := ⟨es, eo + b * 5 + 3, none⟩) (block_lt_of_cell n3)).trans n3, (hBfb.cell (p := ⟨es, eo + b * 5 + 4, none⟩) (block_lt_of_cell n4)).trans n4⟩ (fun hHeld => ?_)
        clear hK K
        try simp only [zz]
        refine wpAnyH_done (by kernel_rfl) ?_ _
        clear hHeld
        have HDb := hid_of hBfb
        clear hzb hBdb hBeb hBfb
        generalize (Wdb.alloc (.cells #[.int .i64 0, .int .i64 0, .int .i64 0, .int .u64 0, .int .i64 0] 31)).setRow Wdb.heap.size (evC (g.ev b)) = Wxb at *
        generalize Wdb.heap.size = zb at *
        go_upto_region 13 with fail
        clear x0 x1 m0 m1 m2 m3 m4 n0 n1 n2 n3 n4 g1
        go_cut [122] (fun v122 wx => v122 = .bool false ∧ Hid (Below Wxb.heap.size Wxb wx))
        case first => as_aux_lemma =>
          have p0 : Wxb.cell? ⟨za, 0, none⟩ = some (.int .i64 (g.ev a).t) := HXa2.out.cell rfl
          have p1 : Wxb.cell? ⟨za, 1, none⟩ = some (.int .i64 (g.ev a).k) := HXa2.out.cell rfl
          have p4 : Wxb.cell? ⟨za, 4, none⟩ = some (.int .i64 (g.ev a).m) := HXa2.out.cell rfl
          have q1 : Wxb.cell? ⟨zb, 1, none⟩ = some (.int .i64 (g.ev b).k) := HXb.out.cell rfl
          have q4 : Wxb.cell? ⟨zb, 4, none⟩ = some (.int .i64 (g.ev b).m) := HXb.out.cell rfl
          obtain ⟨⟨hm1, hk1⟩, hm2, hk2⟩ := HE.out
          have hkA : ((g.ev a).k == 1) = false := by rcases hk1 with e | e <;> rw [e] <;> rfl
          have hkB : ((g.ev b).k == 2) = false := by rcases hk2 with e | e <;> rw [e] <;> rfl
          have htA : decide ((g.ev a).t < 0) = false := by have := H0t.out; simp; omega
          have hm1 : (g.ev a).m = 3 ∨ (g.ev a).m = 4 ∨ (g.ev a).m = 5 := by simpa using hm1
          have hm2 : (g.ev b).m = 2 ∨ (g.ev b).m = 4 ∨ (g.ev b).m = 5 := by simpa using hm2
          clear HE H0t hk1 hk2 HXa2 HXb
          generalize (g.ev a).k = ka at *
          generalize (g.ev a).t = ta at *
          generalize (g.ev a).m = ma at *
          generalize (g.ev b).k = kb at *
          generalize (g.ev b).m = mb at *
          rcases hm1 with rfl | rfl | rfl <;> rcases hm2 with rfl | rfl | rfl <;> (go_wp2_with fail; go_meet)
          all_goals exact ⟨rfl, Below.refl _ _⟩
        case rest =>
        obtain ⟨rfl, HBc⟩ := hcut
        generalize hwq : wc = wx at *
        clear hwq HXa2 HXb
        have HBx : Hid (Below w3.heap.size w3 wx) := below_step HBR.out HBR.out.size (below_step HDb.out HDb.out.size HBc.out)
        go_wp2_with fail
        go_roundg (SP.length - (i + 1))
        case measure => have := HIF.out; omega
        case rel => exact ⟨i + 1, by go_num, by omega, by have := HIF.out; rw [Hid]; omega, HBx.out⟩
      · obtain rfl : i = SP.length := by omega
        have hup : Below w2.heap.size w2 wa := below_step HB3.out HB3.out.size HBR.out
        have HAw : Hid (Below w.heap.size w wa) := below_step HB2.out HB2.out.size hup
        have HVa := hid_of (HV2.out.below hup)
        have HFa := hid_of (HF2.out.step hup)
        have HTa := hid_of (HT2.out.step' hup)
        have HGa := hid_of (HG2.out.of_below hup)
        have HFBa := hid_of (HFB2.out.of_below hup)
        have HRa := hid_of (fun k (hk : k < 7) => (HR2.out k hk).below hup)
        clear hup HB3 HBR HB2 HV2 HF2 HT2 HG2 HFB2 HR2 HU HSW HIF
        by_cases hax : ax = 0
        case neg =>
          have qa : (ax != 0) = true := by simpa using hax
          go_wp2_with fail
          refine (l10lives_calls wa HFa.out HTa.out).mono ?_
          rintro e wz ⟨rfl, hBz⟩
          go_wp2_with fail
          go_ret
          exact ⟨rfl, below_step HAw.out HAw.out.size hBz⟩
        case pos =>
        subst hax
        have hzz := ok_zero HOK.out
        have HIN := hid_of hzz.1
        have HAI := hid_of hzz.2
        clear hzz HOK
        have g1 : wa.cell? ⟨w.heap.size, 1, none⟩ = some (.slice pe g.evs.length ce) := HGa.out.cell rfl
        go_wp2_with fail
        clear g1
        refine (New_c g.evs.length hn wa).mono ?_
        rintro e w4 ⟨bp, cp, rfl, hM⟩
        have hbp := hM.hb
        have hcp := hM.hc
        have HM := hid_of hM
        clear hM
        go_wp2_with fail
        go_loopg [13] g.evs.length (fun f v13 wr => ∃ (i : Nat) (A : List Nat), v13 = .int .i64 ((i : Nat) : Int) ∧ i ≤ g.evs.length ∧ Hid (i + f = g.evs.length) ∧ Hid (IsRel wr bp cp A) ∧ Hid (TwR g.evs.length (filB (poB g.evs) i 0) A) ∧ Hid (Below wa.heap.size wa wr))
        case atStart => exact ⟨0, _, rfl, Nat.zero_le _, Nat.zero_add _, HM.out.rel, (TwR.new _).ext (fun p q _ _ => filB_zero _ p q), HM.out.below⟩
        case round =>
          clear HM
          obtain ⟨i, A, rfl, hi, HIF, HI, HTW, HB⟩ := hrel
          have g1 : wr.cell? ⟨w.heap.size, 1, none⟩ = some (.slice pe g.evs.length ce) := (HGa.out.of_below HB.out).cell rfl
          by_cases hil : i < g.evs.length
          · go_wp2_with fail
            clear g1
            go_loopg [14] (g.evs.length - (i + 1)) (fun f v14 wr => ∃ (j : Nat) (A : List Nat), v14 = .int .i64 ((j : Nat) : Int) ∧ j ≤ g.evs.length ∧ i < j ∧ Hid (j + f = g.evs.length) ∧ Hid (IsRel wr bp cp A) ∧ Hid (TwR g.evs.length (filB (poB g.evs) i j) A) ∧ Hid (Below wa.heap.size wa wr))
            case atStart => exact ⟨i + 1, A, by go_num, by omega, by omega, by rw [Hid]; omega, HI.out, HTW.out.ext (fun p q _ _ => fil_skip), HB.out⟩
            case round =>
              clear HI HTW HB
              obtain ⟨j, A, rfl, hj, hij, HJF, HI, HTW, HB⟩ := hrel
              generalize hwq : wr = wb at *
              clear hwq
              have g1 : wb.cell? ⟨w.heap.size, 1, none⟩ = some (.slice pe g.evs.length ce) := (HGa.out.of_below HB.out).cell rfl
              by_cases hjl : j < g.evs.length
              · obtain ⟨pv0, cv0, ev0, hpv, _, _⟩ := (HVa.out.ev).below HB.out
                injection ev0 with ev1 ev2 ev3
                obtain ⟨es, eo, rfl, hevs⟩ := hpv (by omega)
                subst ev1
                clear ev2 ev3
                have ti := hevs.c0 i _ (ev_of hil)
                have tj := hevs.c0 j _ (ev_of hjl)
                have I0 : (0 : Int) ≤ ((i : Nat) : Int) := by omega
                have I1 : ((i : Nat) : Int) < ((g.evs.length : Nat) : Int) := by omega
                have J0 : (0 : Int) ≤ ((j : Nat) : Int) := by omega
                have J1 : ((j : Nat) : Int) < ((g.evs.length : Nat) : Int) := by omega
                clear hevs
                obtain ⟨q, hq⟩ : ∃ q, poB g.evs i j = q := ⟨_, rfl⟩
                have HQ := hid_of hq
                clear hq
                go_upto_region 24 with fail
                go_cut [167] (fun v167 wx => v167 = .bool q ∧ Hid (Below wb.heap.size wb wx))
                case first => as_aux_lemma =>
                  by_cases hneg : (g.ev i).t < 0
                  · obtain rfl : q = false := by rw [← HQ.out]; exact po_no1 hneg HWF.out hil
                    have qn : decide ((g.ev i).t ≥ 0) = false := by simp; omega
                    clear HQ hneg
                    generalize (g.ev i).t = vi at *
                    generalize (g.ev j).t = vj at *
                    go_quiet (fail)
                    go_wp2_with fail
                    go_meet
                    exact ⟨rfl, below_drewN (Below.refl _ _) _⟩
                  · have qn : decide ((g.ev i).t ≥ 0) = true := by simp; omega
                    by_cases heq : (g.ev i).t = (g.ev j).t
                    · obtain rfl : q = true := by rw [← HQ.out]; exact po_yes hij (by omega) heq
                      have qe : ((g.ev i).t == (g.ev j).t) = true := by simpa using heq
                      clear HQ hneg heq
                      generalize (g.ev i).t = vi at *
                      generalize (g.ev j).t = vj at *
                      go_quiet (fail)
                      go_wp2_with fail
                      go_meet
                      exact ⟨rfl, below_drewN (Below.refl _ _) _⟩
                    · obtain rfl : q = false := by rw [← HQ.out]; exact po_no2 heq
                      have qe : ((g.ev i).t == (g.ev j).t) = false := by simpa using heq
                      clear HQ hneg heq
                      generalize (g.ev i).t = vi at *
                      generalize (g.ev j).t = vj at *
                      go_quiet (fail)
                      go_wp2_with fail
                      go_meet
                      exact ⟨rfl, below_drewN (Below.refl _ _) _⟩
                case rest =>
                obtain ⟨rfl, HBc⟩ := hcut
                generalize hwq : wc = wx at *
                clear hwq ti tj g1
                have HBx : Hid (Below wa.heap.size wa wx) := below_step HB.out HB.out.size HBc.out
                have HIx := hid_of (HI.out.below HBc.out)
                clear HB HBc HI
                cases q
                · have HN : Hid (TwR g.evs.length (filB (poB g.evs) i (j + 1)) A) := HTW.out.ext (fun p q _ _ => filB_no HQ.out)
                  go_wp2_with fail
                  go_roundg (g.evs.length - (j + 1))
                  case measure => have := HJF.out; omega
                  case rel => exact ⟨j + 1, A, by go_num, by omega, by omega, by have := HJF.out; rw [Hid]; omega, HIx.out, HN.out, HBx.out⟩
                · have HN : Hid (TwR g.evs.length (filB (poB g.evs) i (j + 1)) (putP A ((i : Nat) : Int) ((j : Nat) : Int) true)) := (HTW.out.put hil hjl).ext (fun p q _ _ => filB_yes HQ.out)
                  go_wp2_with fail
                  refine (Put_calls bp cp A ((i : Nat) : Int) ((j : Nat) : Int) true wx HIx.out).mono ?_
                  rintro e w5 ⟨rfl, hI5, ht5⟩
                  go_wp2_with fail
                  go_roundg (g.evs.length - (j + 1))
                  case measure => have := HJF.out; omega
                  case rel => exact ⟨j + 1, _, by go_num, by omega, by omega, by have := HJF.out; rw [Hid]; omega, hI5, HN.out, HBx.out.trans (ht5.below hcp HBx.out.size)⟩
              · obtain rfl : j = g.evs.length := by omega
                go_wp2_with fail
                go_roundg (g.evs.length - (i + 1))
                case measure => have := HIF.out; omega
                case rel => exact ⟨i + 1, A, by go_num, by omega, by have := HIF.out; rw [Hid]; omega, HI.out, HTW.out.ext (fun p q _ hq => filB_row hq), HB.out⟩
          · obtain rfl : i = g.evs.length := by omega
            generalize hwq : wr = wv at *
            clear hwq
            have hPO : A = LG g 0 := can_of HI.out (HTW.out.ext (fun p q hp _ => (filB_all hp).symm))
            subst hPO
            have HAv : Hid (Below w.heap.size w wv) := below_step HAw.out HAw.out.size HB.out
            have HVv := hid_of (HVa.out.below HB.out)
            have HFv := hid_of (HFa.out.step HB.out)
            have HTv := hid_of (HTa.out.step' HB.out)
            have HGv := hid_of (HGa.out.of_below HB.out)
            have HFBv := hid_of (HFBa.out.of_below HB.out)
            have HRv := hid_of (fun k (hk : k < 7) => (HRa.out k hk).below HB.out)
            have HPO := HI
            clear HI HTW HB HAw HVa HFa HTa HGa HFBa HRa HIF hbp hcp
            have y3 : wv.cell? ⟨fb, 3, none⟩ = some (pv (ks 3)) := HFBv.out.cell rfl
            go_wp2_with fail
            clear y3 g1
            refine (Pairs_calls (ks 3) (ls 3) (RL g 3) wv (HRv.out 3 (by omega)) HTv.out).mono ?_
            rintro e w5 ⟨u2, rfl, hu2, hB5⟩
            have hpl3 : (pairsL (RL g 3)).length ≤ 65536 := by have := pairsK_length (RL g 3) (RL g 3).length; rw [(wf_eco g).len] at this; unfold pairsL; rw [(wf_eco g).len]; omega
            have HEC : Hid (∀ a b, (a, b) ∈ pairsL (RL g 3) → hs (RL g 3) a b) := fun a b h => pairs_in h
            have HU2 := hid_of (rc_parg hu2 (by omega))
            obtain ⟨pu2, cu2, rfl⟩ := owns_len hu2
            generalize pairsL (RL g 3) = EP at *
            have HB5 := hid_of hB5
            clear hu2 hB5
            go_wp2_with fail
            go_loopg [16] EP.length (fun f v16 wr => ∃ k : Nat, v16 = .int .i64 ((k : Nat) : Int) ∧ k ≤ EP.length ∧ Hid (k + f = EP.length) ∧ Hid (Below w5.heap.size w5 wr))
            case atStart => exact ⟨0, rfl, Nat.zero_le _, Nat.zero_add _, Below.refl _ _⟩
            case round =>
              obtain ⟨k, rfl, hk, HKF, HBk⟩ := hrel
              generalize hwq : wr = wk at *
              clear hwq
              have HBv : Hid (Below wv.heap.size wv wk) := below_step HB5.out HB5.out.size HBk.out
              by_cases hkl : k < EP.length
              · obtain ⟨a, b, hab, hx⟩ := upP_at hkl
                have hno := no_back hn HIN.out (HEC.out a b hab)
                obtain ⟨pq, cq, eu, hpu, _⟩ := parg_form (HU2.out.below HBk.out)
                have hpos : 0 < (EP.map (fun x => (((x.1 : Nat) : Int), ((x.2 : Nat) : Int)))).length := by rw [List.length_map]; omega
                obtain ⟨us, uo, rfl, hat⟩ := hpu hpos
                injection eu with eu1 eu2 eu3
                subst eu1
                clear eu2 eu3 hpos
                have x0 := hat.fst k _ hx
                have x1 := hat.snd k _ hx
                dsimp only at x0 x1
                have K0 : (0 : Int) ≤ ((k : Nat) : Int) := by omega
                have K1 : ((k : Nat) : Int) < ((EP.length : Nat) : Int) := by omega
                have f2 : wk.cell? ⟨fb, 2, none⟩ = some (pv (ks 2)) := (HFBv.out.of_below HBv.out).cell rfl
                have HNO := hid_of hno
                clear hno hat hx hab
                go_upto_region 30 with fail
                have hBd : Below wk.heap.size wk wk.drew := (Below.refl _ _).drew
                refine wp_region_held_drew (S := fun W => W.cell? ⟨fb, 2, none⟩ = some (pv (ks 2)) ∧ W.cell? ⟨us, uo + k * 2 + 1, none⟩ = some (.int .i64 ((b : Nat) : Int)) ∧ W.cell? ⟨us, uo + k * 2, none⟩ = some (.int .i64 ((a : Nat) : Int))) (by kernel_rfl) ⟨(hBd.cell (p := ⟨fb, 2, none⟩) (block_lt_of_cell f2)).trans f2, (hBd.cell (p := ⟨us, uo + k * 2 + 1, none⟩) (block_lt_of_cell x1)).trans x1, (hBd.cell (p := ⟨us, uo + k * 2, none⟩) (block_lt_of_cell x0)).trans x0⟩ (fun hHeld => ?_)
                generalize wk.drew = wd at *
                refine tk 0 rfl ?_; simp only [zz]
                refine tk 1 rfl ?_; simp only [zz]
                refine tk 2 rfl ?_; simp only [zz]
                refine tk 3 rfl ?_; simp only [zz]
                refine tk 4 rfl ?_; simp only [zz]
                refine tk 5 rfl ?_; simp only [zz]
                refine tk 6 rfl ?_; simp only [zz]
                refine tk 7 rfl ?_; simp only [zz]
                refine tk 8 rfl ?_; simp only [zz]
                refine tk 9 rfl ?_; simp only [zz]
                refine tk 10 rfl ?_; simp only [zz]
                refine tk 11 rfl ?_; simp only [zz]
                refine wpAnyH_ready (rs := [12]) (by kernel_rfl) (by simp) ?_
                refine rdy rfl (fun K hK => ?_) AllReadyH.nil
                simp only [z1, z2, z3]
                go_simp
                have DH := Has_calls (ks 2) (ls 2) (RL g 2) ((b : Nat) : Int) ((a : Nat) : Int) wd (((HRv.out 2 (by omega)).below HBv.out).below hBd)
                rw [HNO.out] at DH
                refine DH.mono ?_
                rintro e we ⟨rfl, hBe⟩
                have hBf : Below wk.heap.size wk we := below_step hBd hBd.size hBe
                refine hK.out _ _ ⟨(hBf.cell (p := ⟨fb, 2, none⟩) (block_lt_of_cell f2)).trans f2, (hBf.cell (p := ⟨us, uo + k * 2 + 1, none⟩) (block_lt_of_cell x1)).trans x1, (hBf.cell (p := ⟨us, uo + k * 2, none⟩) (block_lt_of_cell x0)).trans x0⟩ (fun hHeld => ?_)
                clear hK K DH
                try simp only [zz]
                refine wpAnyH_done (by kernel_rfl) ?_ _
                have HBe : Hid (Below w5.heap.size w5 we) := below_step HBk.out HBk.out.size hBf
                clear hHeld hBf hBe hBd x0 x1 f2
                go_wp2_with fail
                go_roundg (EP.length - (k + 1))
                case measure => have := HKF.out; omega
                case rel => exact ⟨k + 1, by go_num, by omega, by have := HKF.out; rw [Hid]; omega, HBe.out⟩
              · obtain rfl : k = EP.length := by omega
                have f1 : wk.cell? ⟨fb, 1, none⟩ = some (pv (ks 1)) := (HFBv.out.of_below HBv.out).cell rfl
                have f2 : wk.cell? ⟨fb, 2, none⟩ = some (pv (ks 2)) := (HFBv.out.of_below HBv.out).cell rfl
                have k1 : wk.cell? ⟨w.heap.size, 1, none⟩ = some (.slice pe g.evs.length ce) := (HGv.out.of_below HBv.out).cell rfl
                have k2 : wk.cell? ⟨w.heap.size, 2, none⟩ = some Vr := (HGv.out.of_below HBv.out).cell rfl
                have HP1 := hid_of (HPO.out.below HBv.out)
                have HP2 : Hid (IsRel wk (ks 1) (ls 1) (swL g (LG g))) := (HRv.out 1 (by omega)).below HBv.out
                have HP3 := hid_of ((HRv.out 2 (by omega)).below HBv.out)
                have HRF := hid_of (HVv.out.rf.below HBv.out)
                have HFk := hid_of (HFv.out.step HBv.out)
                have HTk := hid_of (HTv.out.step' HBv.out)
                have HAk : Hid (Below w.heap.size w wk) := below_step HAv.out HAv.out.size HBv.out
                clear HBv HBk HB5 HKF HAv HVv HFv HTv HGv HFBv HRv HPO HU2 HEC
                go_upto_region 32 with fail
                have hBd : Below wk.heap.size wk wk.drew := (Below.refl _ _).drew
                refine wp_region_held_drew (S := fun W => W.cell? ⟨fb, 1, none⟩ = some (pv (ks 1)) ∧ W.cell? ⟨fb, 2, none⟩ = some (pv (ks 2)) ∧ W.cell? ⟨w.heap.size, 1, none⟩ = some (.slice pe g.evs.length ce) ∧ W.cell? ⟨w.heap.size, 2, none⟩ = some (Vr)) (by kernel_rfl) ⟨(hBd.cell (p := ⟨fb, 1, none⟩) (block_lt_of_cell f1)).trans f1, (hBd.cell (p := ⟨fb, 2, none⟩) (block_lt_of_cell f2)).trans f2, (hBd.cell (p := ⟨w.heap.size, 1, none⟩) (block_lt_of_cell k1)).trans k1, (hBd.cell (p := ⟨w.heap.size, 2, none⟩) (block_lt_of_cell k2)).trans k2⟩ (fun hHeld => ?_)
                generalize wk.drew = d0 at *
                refine tk 0 rfl ?_; simp only [zz]
                refine tk 1 rfl ?_; simp only [zz]
                refine tk 2 rfl ?_; simp only [zz]
                refine tk 3 rfl ?_; simp only [zz]
                refine tk 4 rfl ?_; simp only [zz]
                refine tk 5 rfl ?_; simp only [zz]
                refine tk 6 rfl ?_; simp only [zz]
                refine tk 7 rfl ?_; simp only [zz]
                refine wpAnyH_ready (rs := [8]) (by kernel_rfl) (by simp) ?_
                refine rdy rfl (fun K hK => ?_) AllReadyH.nil
                simp only [z1, z2, z3]
                go_simp
                refine (OfT ((g.evs.length : Nat) : Int) Vr g.rf d0 (HRF.out.below hBd)).mono ?_
                rintro e d1 ⟨b2, c2, rfl, hM⟩
                have hRf : ofL ((g.evs.length : Nat) : Int) g.rf = LG g 1 := can_of hM.rel (ofL_twr hn g.rf)
                rw [hRf] at hM
                have hB1 : Below wk.heap.size wk d1 := below_step hBd hBd.size hM.below
                have HO := hid_of hM.rel
                clear hM hRf
                clear hHeld
                refine hK.out _ _ ⟨(hB1.cell (p := ⟨fb, 1, none⟩) (block_lt_of_cell f1)).trans f1, (hB1.cell (p := ⟨fb, 2, none⟩) (block_lt_of_cell f2)).trans f2, (hB1.cell (p := ⟨w.heap.size, 1, none⟩) (block_lt_of_cell k1)).trans k1, (hB1.cell (p := ⟨w.heap.size, 2, none⟩) (block_lt_of_cell k2)).trans k2⟩ (fun hHeld => ?_)
                clear hK K
                try simp only [zz]
                refine wpAnyH_ready (rs := [9]) (by kernel_rfl) (by simp) ?_
                refine rdy rfl (fun K hK => ?_) AllReadyH.nil
                simp only [z1, z2, z3]
                refine op_build #[(0, pv bp), (1, pv (ks 1)), (2, pv b2)] (by kernel_rfl) (bs3_run bp (ks 1) b2 _) ?_
                have HL : Hid (RelsAt (d1.alloc (.cells #[pv bp, pv (ks 1), pv b2] 43)) d1.heap.size [(bp, cp, LG g 0), (ks 1, ls 1, swL g (LG g)), (b2, c2, LG g 1)]) := rels_at [(bp, cp, LG g 0), (ks 1, ls 1, swL g (LG g)), (b2, c2, LG g 1)] (Rels.cons (Rels.cons (Rels.cons (Rels.nil _) HO.out) (HP2.out.below hB1)) (HP1.out.below hB1))
                have hB2 : Below wk.heap.size wk (d1.alloc (.cells #[pv bp, pv (ks 1), pv b2] 43)) := hB1.alloc hB1.size _
                clear hHeld
                refine hK.out _ _ ⟨(hB2.cell (p := ⟨fb, 1, none⟩) (block_lt_of_cell f1)).trans f1, (hB2.cell (p := ⟨fb, 2, none⟩) (block_lt_of_cell f2)).trans f2, (hB2.cell (p := ⟨w.heap.size, 1, none⟩) (block_lt_of_cell k1)).trans k1, (hB2.cell (p := ⟨w.heap.size, 2, none⟩) (block_lt_of_cell k2)).trans k2⟩ (fun hHeld => ?_)
                clear hK K
                try simp only [zz]
                generalize d1.alloc (.cells #[pv bp, pv (ks 1), pv b2] 43) = d2 at *
                generalize d1.heap.size = s2 at *
                refine wpAnyH_ready (rs := [10]) (by kernel_rfl) (by simp) ?_
                refine rdy rfl (fun K hK => ?_) AllReadyH.nil
                simp only [z1, z2, z3]
                go_simp
                refine (Union_named s2 [(bp, cp, LG g 0), (ks 1, ls 1, swL g (LG g)), (b2, c2, LG g 1)] [LG g 0, swL g (LG g), LG g 1] (map3_cons (map3_cons (map3_cons map3_nil))) d2 HL.out (by simp)).mono ?_
                rintro e d3 ⟨b3, c3, rfl, hM⟩
                have hB3 : Below wk.heap.size wk d3 := below_step hB2 hB2.size hM.below
                have HUN := hid_of hM.rel
                clear hM HL HO
                clear hHeld
                refine hK.out _ _ ⟨(hB3.cell (p := ⟨fb, 1, none⟩) (block_lt_of_cell f1)).trans f1, (hB3.cell (p := ⟨fb, 2, none⟩) (block_lt_of_cell f2)).trans f2, (hB3.cell (p := ⟨w.heap.size, 1, none⟩) (block_lt_of_cell k1)).trans k1, (hB3.cell (p := ⟨w.heap.size, 2, none⟩) (block_lt_of_cell k2)).trans k2⟩ (fun hHeld => ?_)
                clear hK K
                try simp only [zz]
                refine wpAnyH_ready (rs := [11]) (by kernel_rfl) (by simp) ?_
                refine rdy rfl (fun K hK => ?_) AllReadyH.nil
                simp only [z1, z2, z3]
                go_simp
                have DA := Acyclic_calls b3 c3 (unionL [LG g 0, swL g (LG g), LG g 1]) d3 HUN.out
                rw [all_air hn HWF.out HAI.out] at DA
                refine DA.mono ?_
                rintro e d4 ⟨rfl, hB⟩
                have hB4 : Below wk.heap.size wk d4 := below_step hB3 hB3.size hB
                clear hB DA
                clear hHeld
                refine hK.out _ _ ⟨(hB4.cell (p := ⟨fb, 1, none⟩) (block_lt_of_cell f1)).trans f1, (hB4.cell (p := ⟨fb, 2, none⟩) (block_lt_of_cell f2)).trans f2, (hB4.cell (p := ⟨w.heap.size, 1, none⟩) (block_lt_of_cell k1)).trans k1, (hB4.cell (p := ⟨w.heap.size, 2, none⟩) (block_lt_of_cell k2)).trans k2⟩ (fun hHeld => ?_)
                clear hK K
                try simp only [zz]
                refine tk 12 rfl ?_; simp only [zz]
                refine tk 13 rfl ?_; simp only [zz]
                refine tk 14 rfl ?_; simp only [zz]
                refine wpAnyH_ready (rs := [15]) (by kernel_rfl) (by simp) ?_
                refine rdy rfl (fun K hK => ?_) AllReadyH.nil
                simp only [z1, z2, z3]
                go_simp
                have DI := Irr_calls (ks 2) (ls 2) (RL g 2) d4 (HP3.out.below hB4)
                rw [hb_irr hn HIN.out] at DI
                refine DI.mono ?_
                rintro e d5 ⟨rfl, hB⟩
                have hB5 : Below wk.heap.size wk d5 := below_step hB4 hB4.size hB
                clear hB DI
                clear hHeld
                refine hK.out _ _ ⟨(hB5.cell (p := ⟨fb, 1, none⟩) (block_lt_of_cell f1)).trans f1, (hB5.cell (p := ⟨fb, 2, none⟩) (block_lt_of_cell f2)).trans f2, (hB5.cell (p := ⟨w.heap.size, 1, none⟩) (block_lt_of_cell k1)).trans k1, (hB5.cell (p := ⟨w.heap.size, 2, none⟩) (block_lt_of_cell k2)).trans k2⟩ (fun hHeld => ?_)
                clear hK K
                try simp only [zz]
                refine tk 16 rfl ?_; simp only [zz]
                refine tk 17 rfl ?_; simp only [zz]
                refine wpAnyH_ready (rs := [18]) (by kernel_rfl) (by simp) ?_
                refine rdy rfl (fun K hK => ?_) AllReadyH.nil
                simp only [z1, z2, z3]
                go_simp
                refine (l10lives_calls d5 (HFk.out.step hB5) (HTk.out.step' hB5)).mono ?_
                rintro e d6 ⟨rfl, hB⟩
                have hB6 : Below wk.heap.size wk d6 := below_step hB5 hB5.size hB
                clear hB
                clear hHeld
                refine hK.out _ _ ⟨(hB6.cell (p := ⟨fb, 1, none⟩) (block_lt_of_cell f1)).trans f1, (hB6.cell (p := ⟨fb, 2, none⟩) (block_lt_of_cell f2)).trans f2, (hB6.cell (p := ⟨w.heap.size, 1, none⟩) (block_lt_of_cell k1)).trans k1, (hB6.cell (p := ⟨w.heap.size, 2, none⟩) (block_lt_of_cell k2)).trans k2⟩ (fun hHeld => ?_)
                clear hK K
                try simp only [zz]
                refine tk 19 rfl ?_; simp only [zz]
                refine tk 20 rfl ?_; simp only [zz]
                refine wpAnyH_done (by kernel_rfl) ?_ _
                clear hHeld
                go_wp2_with fail
                go_ret
                exact ⟨rfl, below_step HAk.out HAk.out.size hB6⟩
end Go.Proofs.YtjhhimjnoljojaaGreatDoor
