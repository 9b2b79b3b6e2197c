/- The reference's rmw: rule 6. (Printed by gr8e.py.) -/
import Derived.Test.YthiijcappjaagaaGreatDoorJ23
namespace Go.Proofs.YthiijcappjaagaaGreatDoor
open Go.RowKit Go.Shelf Sx
def ok6 (g : Gr) (i : Nat) : Bool := okRa g.rmw i && (isB g.evs (g.rmw.getD i (0, 0)).1 [1] && (isB g.evs (g.rmw.getD i (0, 0)).2 [2] && (nxtB g.evs (g.rmw.getD i (0, 0)).1 (g.rmw.getD i (0, 0)).2 && decide ((g.ev (g.rmw.getD i (0, 0)).1.toNat).l = (g.ev (g.rmw.getD i (0, 0)).2.toNat).l))))
def ThrOk (g : Gr) : Prop := ∀ i, i < g.evs.length → (g.ev i).k = 1 → 0 ≤ (g.ev i).t
theorem thr_ok {g : Gr} {q : Bool} (h2 : bad2 g q = -1) (h3 : bad3 g q = -1) : ThrOk g := fun i hi hk => by
  by_cases hc : ((i : Nat) : Int) < g.cells
  · rw [ok2_ev h2 hc] at hk
    simp [iniEv] at hk
  · have := ok3_ev h3 (by omega) hi
    unfold okEv at this
    simp at this
    omega
theorem bef_po {g : Gr} (ht : ThrOk g) {a b : Nat} (ha : a < g.evs.length) (hb : b < g.evs.length) (hk : (g.ev a).k = 1) : befB g.evs ((a : Nat) : Int) ((b : Nat) : Int) = poB g.evs a b := by
  have h0 := ht a ha hk
  unfold befB poB
  rw [Int.toNat_natCast, Int.toNat_natCast]
  have e0 : (g.evs.getD a Ev.zero).t = (g.ev a).t := rfl
  have e1 : (g.evs.getD b Ev.zero).t = (g.ev b).t := rfl
  rw [e0, e1, decide_eq_true (by omega : (0 : Int) ≤ ((a : Nat) : Int)), decide_eq_true (by omega : ((b : Nat) : Int) < ((g.evs.length : Nat) : Int)), decide_eq_true h0, decide_eq_true (by omega : (g.ev a).t ≠ -1)]
  have : decide (((a : Nat) : Int) < ((b : Nat) : Int)) = decide (a < b) := by rw [decide_eq_decide]; omega
  rw [this]
  simp
theorem ok6_same {g : Gr} (ht : ThrOk g) (i : Nat) : ok6 g i = (okRa g.rmw i && okU g.evs (g.rmw.getD i (0, 0))) := by
  unfold ok6 okU okUa
  generalize g.rmw.getD i (0, 0) = p
  obtain ⟨pa, pb⟩ := p
  dsimp only
  cases h1 : isB g.evs pa [1]
  · simp
  · cases h2 : isB g.evs pb [2]
    · simp
    · obtain ⟨a, rfl, ha⟩ := isB_nat h1
      obtain ⟨b, rfl, hb⟩ := isB_nat h2
      have hk : (g.ev a).k = 1 := by
        unfold isB at h1
        simp at h1
        exact h1.2
      unfold nxtB
      rw [bef_po ht ha hb hk, Int.toNat_natCast, Int.toNat_natCast]
      have e0 : (g.evs.getD a Ev.zero) = (g.ev a) := rfl
      have e1 : (g.evs.getD b Ev.zero) = (g.ev b) := rfl
      rw [e0, e1]
      cases poB g.evs a b <;> cases decide ((g.ev a).l = (g.ev b).l) <;> cases ((gapL g.evs a b).any fun e => e.t == (g.ev a).t) <;> simp
theorem bad6_hit {g : Gr} (ht : ThrOk g) {k : Nat} (hk : k < g.rmw.length) (h : ∀ j, j < k → ok6 g j = true) (hn : ok6 g k = false) : bad6 g = (k : Int) := by
  unfold bad6
  refine fstBad_hit (Nat.zero_le _) (by omega) (fun j _ hj => ?_) ?_
  · have := h j hj; rw [ok6_same ht] at this; rw [this]; rfl
  · rw [ok6_same ht] at hn; rw [hn]; rfl
theorem bad6_all {g : Gr} (ht : ThrOk g) (h : ∀ j, j < g.rmw.length → ok6 g j = true) : bad6 g = -1 := by
  unfold bad6
  refine fstBad_none (fun j _ hj => ?_)
  have := h j (by omega); rw [ok6_same ht] at this; rw [this]; rfl
set_option linter.unusedSimpArgs false in
set_option maxRecDepth 100000 in
set_option maxHeartbeats 16000000 in
theorem r8rmw_calls (V : GrV) (g : Gr) (w : World) (h : GrR w V g) (hl256 : g.evs.length ≤ 256) (ht : ThrOk g) : Calls Tryz.prog 44 #[V.val g] w fun r w' => r = .returned (.int .i64 (bad6 g)) ∧ Below w.heap.size w w' := by
  obtain ⟨Ve, Vr, Vc, Vm, Va, Vd, Vt⟩ := V
  obtain ⟨pe, ce, ee, hp, _⟩ := h.ev
  obtain ⟨pr, cr, er, hpr, hrl⟩ := parg_form h.rmw
  dsimp only at ee er
  subst ee
  subst er
  have HP := hid_of hp
  have HPR := hid_of hpr
  have H := hid_of h
  have HTH := hid_of ht
  generalize hr : bad6 g = res
  have HR := hid_of hr
  have hB : Below w.heap.size w (w.alloc (.cells #[.int .i64 g.cells, .slice pe g.evs.length ce, Vr, Vc, .slice pr g.rmw.length cr, Va, Vd, Vt] 26)) := (Below.refl _ _).alloc (Nat.le_refl _) _
  have hb := Blk.new w 26 #[.int .i64 g.cells, .slice pe g.evs.length ce, Vr, Vc, .slice pr g.rmw.length cr, Va, Vd, Vt]
  unfold GrV.val
  dsimp only
  clear hr hp h hpr ht
  go_enter Tryz.func44, Tryz.ntmps44
  go_wp2_with fail
  have HB := hid_of hB
  have HG := hid_of hb
  generalize w.alloc (.cells #[.int .i64 g.cells, .slice pe g.evs.length ce, Vr, Vc, .slice pr g.rmw.length cr, Va, Vd, Vt] 26) = W0 at *
  clear hb hB
  go_loopg [3] g.rmw.length (fun f v3 wr => ∃ kk : Nat, v3 = .int .i64 ((kk : Nat) : Int) ∧ kk ≤ g.rmw.length ∧ Hid (kk + f = g.rmw.length) ∧ Hid (∀ j, j < kk → ok6 g j = true) ∧ Hid (Below W0.heap.size W0 wr))
  case atStart => exact ⟨0, rfl, Nat.zero_le _, Nat.zero_add _, (fun j h => by omega), Below.refl _ _⟩
  case round =>
    obtain ⟨kk, rfl, hk0, HKF, HALL, HW⟩ := hrel
    have HBW : Hid (Below w.heap.size w wr) := below_step HB.out HB.out.size HW.out
    have hG := HG.out.of_below HW.out
    have c4 : wr.cell? ⟨w.heap.size, 4, none⟩ = some (.slice pr g.rmw.length cr) := hG.cell rfl
    clear hG
    by_cases hkl : kk < g.rmw.length
    · obtain ⟨s2, o2, rfl, hat2⟩ := HPR.out (by omega)
      obtain ⟨⟨pa, pb⟩, hx⟩ : ∃ x, g.rmw[kk]? = some x := ⟨_, List.getElem?_eq_getElem hkl⟩
      have y0 := (hat2.below HBW.out).fst kk _ hx
      have y1 := (hat2.below HBW.out).snd kk _ hx
      dsimp only at y0 y1
      have K0 : (0 : Int) ≤ ((kk : Nat) : Int) := by omega
      have K1 : ((kk : Nat) : Int) < ((g.rmw.length : Nat) : Int) := by omega
      have hgd : g.rmw.getD kk (0, 0) = (pa, pb) := by rw [List.getD_eq_getElem?_getD, hx]; rfl
      have HGD := hid_of hgd
      have HBAD : Hid (ok6 g kk = false → res = ((kk : Nat) : Int)) := fun h => by rw [← HR.out]; exact bad6_hit HTH.out hkl HALL.out h
      have HNX : Hid (ok6 g kk = true → ∀ j, j < kk + 1 → ok6 g j = true) := fun h j hj => by
        by_cases e : j = kk
        · rw [e]; exact h
        · exact HALL.out j (by omega)
      have HO5 : Hid (ok6 g kk = (okRa g.rmw kk && (isB g.evs pa [1] && (isB g.evs pb [2] && (nxtB g.evs pa pb && decide ((g.ev pa.toNat).l = (g.ev pb.toNat).l)))))) := by
        rw [Hid]
        unfold ok6
        rw [hgd]
      have HAT2 := hid_of hat2
      clear hx hgd hat2
      go_upto_region 5 with fail
      have hgp := Blk.new wr 77 #[.int .i64 pa, .int .i64 pb]
      have hBp : Below wr.heap.size wr (wr.alloc (.cells #[.int .i64 pa, .int .i64 pb] 77)) := (Below.refl _ _).alloc (Nat.le_refl _) _
      have HGb := hid_of ((HG.out.of_below HW.out).alloc (.cells #[.int .i64 pa, .int .i64 pb] 77))
      have HBb : Hid (Below w.heap.size w (wr.alloc (.cells #[.int .i64 pa, .int .i64 pb] 77))) := below_step HBW.out HBW.out.size hBp
      have HWb : Hid (Below W0.heap.size W0 (wr.alloc (.cells #[.int .i64 pa, .int .i64 pb] 77))) := below_step HW.out HW.out.size hBp
      have HGP := hid_of hgp
      clear hgp hBp y0 y1 c4
      generalize wr.alloc (.cells #[.int .i64 pa, .int .i64 pb] 77) = wb at *
      generalize wr.heap.size = gp at *
      have HA2b := hid_of (HAT2.out.below HBb.out)
      have hcA := r8is_calls _ g pa 1 wb.drew (H.out.below HBb.out.drew)
      have hcB := fun W (hW : Below wb.heap.size wb W) => r8is_calls _ g pb 2 W (H.out.below (below_step HBb.out HBb.out.size hW))
      have hcN := fun W (hW : Below wb.heap.size wb W) => r8next_calls _ g pa pb W (H.out.below (below_step HBb.out HBb.out.size hW)) hl256
      unfold GrV.val at hcA hcB hcN
      dsimp only at hcA hcB hcN
      have HCA0 := hid_of hcA
      have HCB0 := hid_of hcB
      have HCN0 := hid_of hcN
      clear hcA hcB hcN
      generalize hgbn : w.heap.size = gb at *
      have HZ : Hid (∀ W, Below wb.heap.size wb W → W.cell? ⟨gb, 0, none⟩ = some (.int .i64 g.cells) ∧ W.cell? ⟨gb, 1, none⟩ = some (.slice pe g.evs.length ce) ∧ W.cell? ⟨gb, 2, none⟩ = some (Vr) ∧ W.cell? ⟨gb, 3, none⟩ = some (Vc) ∧ W.cell? ⟨gb, 4, none⟩ = some (.slice (some ⟨s2, o2, none⟩) g.rmw.length cr) ∧ W.cell? ⟨gb, 5, none⟩ = some (Va) ∧ W.cell? ⟨gb, 6, none⟩ = some (Vd) ∧ W.cell? ⟨gb, 7, none⟩ = some (Vt) ∧ W.cell? ⟨gp, 0, none⟩ = some (.int .i64 pa) ∧ W.cell? ⟨gp, 1, none⟩ = some (.int .i64 pb)) := fun W hW => ⟨(HGb.out.of_below hW).cell rfl, (HGb.out.of_below hW).cell rfl, (HGb.out.of_below hW).cell rfl, (HGb.out.of_below hW).cell rfl, (HGb.out.of_below hW).cell rfl, (HGb.out.of_below hW).cell rfl, (HGb.out.of_below hW).cell rfl, (HGb.out.of_below hW).cell rfl, (HGP.out.of_below hW).cell rfl, (HGP.out.of_below hW).cell rfl⟩
      go_cut [70] (fun v70 wx => v70 = .bool (!(ok6 g kk)) ∧ Hid (Below wb.heap.size wb wx))
      case rest =>
        obtain ⟨rfl, HX⟩ := hcut
        generalize hwz : wc = wz at *
        clear hwz
        have HXW : Hid (Below gb w wz) := HBb.out.trans (HX.out.mono (by rw [← hgbn]; exact HBb.out.size))
        cases hok : ok6 g kk
        · obtain rfl := HBAD.out hok
          clear hok
          go_wp2_with fail
          go_ret
          exact ⟨rfl, HXW.out⟩
        · have HNX2 := hid_of (HNX.out hok)
          clear hok
          go_wp2_with fail
          go_roundg (g.rmw.length - (kk + 1))
          case measure => have := HKF.out; omega
          case rel => exact ⟨kk + 1, by go_num, by omega, by have := HKF.out; rw [Hid]; omega, HNX2.out, HWb.out.trans (HX.out.mono HWb.out.size)⟩
      case first =>
      by_cases hkz : kk = 0
      · subst hkz
        have HO6 : Hid (ok6 g 0 = (isB g.evs pa [1] && (isB g.evs pb [2] && (nxtB g.evs pa pb && decide ((g.ev pa.toNat).l = (g.ev pb.toNat).l))))) := by rw [Hid, HO5.out, okRa]; simp
        clear HO5
        cases hia : isB g.evs pa [1]
        · rw [hia] at HCA0
          have HCA := HCA0
          have HO : Hid (ok6 g 0 = false) := by rw [Hid, HO6.out, hia]; simp
          clear HCA0 hia
          refine wp_region_held_drew (S := (fun w' => w'.cell? ⟨gb, 0, none⟩ = some (.int .i64 g.cells) ∧ w'.cell? ⟨gb, 1, none⟩ = some (.slice pe g.evs.length ce) ∧ w'.cell? ⟨gb, 2, none⟩ = some (Vr) ∧ w'.cell? ⟨gb, 3, none⟩ = some (Vc) ∧ w'.cell? ⟨gb, 4, none⟩ = some (.slice (some ⟨s2, o2, none⟩) g.rmw.length cr) ∧ w'.cell? ⟨gb, 5, none⟩ = some (Va) ∧ w'.cell? ⟨gb, 6, none⟩ = some (Vd) ∧ w'.cell? ⟨gb, 7, none⟩ = some (Vt) ∧ w'.cell? ⟨gp, 0, none⟩ = some (.int .i64 pa) ∧ w'.cell? ⟨gp, 1, none⟩ = some (.int .i64 pb))) (by kernel_rfl) (HZ.out _ (Below.refl _ _).drew) (fun hHeld => ?_)
          refine tk 0 rfl ?_; simp only [zz]
          refine tk 1 rfl ?_; simp only [zz]
          refine tk 2 rfl ?_; simp only [zz]
          refine tu 3 rfl ?_; simp only [zz]
          refine tu 4 rfl ?_; simp only [zz]
          refine tu 5 rfl ?_; simp only [zz]
          refine tu 6 rfl ?_; simp only [zz]
          refine tu 7 rfl ?_; simp only [zz]
          refine tu 8 rfl ?_; simp only [zz]
          refine tu 9 rfl ?_; simp only [zz]
          refine tu 10 rfl ?_; simp only [zz]
          refine tu 11 rfl ?_; simp only [zz]
          refine tu 12 rfl ?_; simp only [zz]
          refine tk 13 rfl ?_; simp only [zz]
          refine tk 14 rfl ?_; simp only [zz]
          refine tk 15 rfl ?_; simp only [zz]
          refine tk 16 rfl ?_; simp only [zz]
          refine tk 17 rfl ?_; simp only [zz]
          refine wpAnyH_ready (rs := [18]) (by kernel_rfl) (by simp) ?_
          refine AllReadyH.cons rfl (fun K hK => ?_) AllReadyH.nil
          simp only [z1, z2, z3]
          go_simp
          refine HCA.out.mono ?_
          rintro e w5 ⟨rfl, hB5⟩
          have hX5 : Below wb.heap.size wb w5 := ((Below.refl wb.heap.size wb).drew).trans hB5
          refine hK.out _ _ (HZ.out w5 hX5) (fun hHeld => ?_)
          clear hK K
          try simp only [zz]
          refine tk 19 rfl ?_; simp only [zz]
          refine tk 20 rfl ?_; simp only [zz]
          refine tk 21 rfl ?_; simp only [zz]
          refine tu 22 rfl ?_; simp only [zz]
          refine tu 23 rfl ?_; simp only [zz]
          refine tu 24 rfl ?_; simp only [zz]
          refine tu 25 rfl ?_; simp only [zz]
          refine tu 26 rfl ?_; simp only [zz]
          refine tk 27 rfl ?_; simp only [zz]
          refine tk 28 rfl ?_; simp only [zz]
          refine tu 29 rfl ?_; simp only [zz]
          refine tu 30 rfl ?_; simp only [zz]
          refine tu 31 rfl ?_; simp only [zz]
          refine tu 32 rfl ?_; simp only [zz]
          refine tu 33 rfl ?_; simp only [zz]
          refine tu 34 rfl ?_; simp only [zz]
          refine tu 35 rfl ?_; simp only [zz]
          refine tk 36 rfl ?_; simp only [zz]
          refine tk 37 rfl ?_; simp only [zz]
          refine tu 38 rfl ?_; simp only [zz]
          refine tu 39 rfl ?_; simp only [zz]
          refine tu 40 rfl ?_; simp only [zz]
          refine tu 41 rfl ?_; simp only [zz]
          refine tu 42 rfl ?_; simp only [zz]
          refine tu 43 rfl ?_; simp only [zz]
          refine tu 44 rfl ?_; simp only [zz]
          refine tu 45 rfl ?_; simp only [zz]
          refine tu 46 rfl ?_; simp only [zz]
          refine tu 47 rfl ?_; simp only [zz]
          refine tu 48 rfl ?_; simp only [zz]
          refine tu 49 rfl ?_; simp only [zz]
          refine tu 50 rfl ?_; simp only [zz]
          refine tu 51 rfl ?_; simp only [zz]
          refine tu 52 rfl ?_; simp only [zz]
          refine tk 53 rfl ?_; simp only [zz]
          refine wpAnyH_done (by kernel_rfl) ?_ _
          go_wp2_with fail
          go_meet
          exact ⟨by rw [HO.out]; rfl, hX5⟩
        · rw [hia] at HCA0
          have HCA := HCA0
          cases hib : isB g.evs pb [2]
          · rw [hib] at HCB0
            have HCB := HCB0
            have HO : Hid (ok6 g 0 = false) := by rw [Hid, HO6.out, hib]; simp
            clear HCA0 HCB0 hia hib
            refine wp_region_held_drew (S := (fun w' => w'.cell? ⟨gb, 0, none⟩ = some (.int .i64 g.cells) ∧ w'.cell? ⟨gb, 1, none⟩ = some (.slice pe g.evs.length ce) ∧ w'.cell? ⟨gb, 2, none⟩ = some (Vr) ∧ w'.cell? ⟨gb, 3, none⟩ = some (Vc) ∧ w'.cell? ⟨gb, 4, none⟩ = some (.slice (some ⟨s2, o2, none⟩) g.rmw.length cr) ∧ w'.cell? ⟨gb, 5, none⟩ = some (Va) ∧ w'.cell? ⟨gb, 6, none⟩ = some (Vd) ∧ w'.cell? ⟨gb, 7, none⟩ = some (Vt) ∧ w'.cell? ⟨gp, 0, none⟩ = some (.int .i64 pa) ∧ w'.cell? ⟨gp, 1, none⟩ = some (.int .i64 pb))) (by kernel_rfl) (HZ.out _ (Below.refl _ _).drew) (fun hHeld => ?_)
            refine tk 0 rfl ?_; simp only [zz]
            refine tk 1 rfl ?_; simp only [zz]
            refine tk 2 rfl ?_; simp only [zz]
            refine tu 3 rfl ?_; simp only [zz]
            refine tu 4 rfl ?_; simp only [zz]
            refine tu 5 rfl ?_; simp only [zz]
            refine tu 6 rfl ?_; simp only [zz]
            refine tu 7 rfl ?_; simp only [zz]
            refine tu 8 rfl ?_; simp only [zz]
            refine tu 9 rfl ?_; simp only [zz]
            refine tu 10 rfl ?_; simp only [zz]
            refine tu 11 rfl ?_; simp only [zz]
            refine tu 12 rfl ?_; simp only [zz]
            refine tk 13 rfl ?_; simp only [zz]
            refine tk 14 rfl ?_; simp only [zz]
            refine tk 15 rfl ?_; simp only [zz]
            refine tk 16 rfl ?_; simp only [zz]
            refine tk 17 rfl ?_; simp only [zz]
            refine wpAnyH_ready (rs := [18]) (by kernel_rfl) (by simp) ?_
            refine AllReadyH.cons rfl (fun K hK => ?_) AllReadyH.nil
            simp only [z1, z2, z3]
            go_simp
            refine HCA.out.mono ?_
            rintro e w5 ⟨rfl, hB5⟩
            have hX5 : Below wb.heap.size wb w5 := ((Below.refl wb.heap.size wb).drew).trans hB5
            refine hK.out _ _ (HZ.out w5 hX5) (fun hHeld => ?_)
            clear hK K
            try simp only [zz]
            refine tk 19 rfl ?_; simp only [zz]
            refine tk 20 rfl ?_; simp only [zz]
            refine tk 21 rfl ?_; simp only [zz]
            refine tk 22 rfl ?_; simp only [zz]
            refine tk 23 rfl ?_; simp only [zz]
            refine tk 24 rfl ?_; simp only [zz]
            refine wpAnyH_ready (rs := [25]) (by kernel_rfl) (by simp) ?_
            refine AllReadyH.cons rfl (fun K hK => ?_) AllReadyH.nil
            simp only [z1, z2, z3]
            go_simp
            refine (HCB.out w5 hX5).mono ?_
            rintro e w6 ⟨rfl, hB6⟩
            have hX6 := below_step hX5 hX5.size hB6
            refine hK.out _ _ (HZ.out w6 hX6) (fun hHeld => ?_)
            clear hK K
            try simp only [zz]
            refine tk 26 rfl ?_; simp only [zz]
            refine tk 27 rfl ?_; simp only [zz]
            refine tk 28 rfl ?_; simp only [zz]
            refine tu 29 rfl ?_; simp only [zz]
            refine tu 30 rfl ?_; simp only [zz]
            refine tu 31 rfl ?_; simp only [zz]
            refine tu 32 rfl ?_; simp only [zz]
            refine tu 33 rfl ?_; simp only [zz]
            refine tu 34 rfl ?_; simp only [zz]
            refine tu 35 rfl ?_; simp only [zz]
            refine tk 36 rfl ?_; simp only [zz]
            refine tk 37 rfl ?_; simp only [zz]
            refine tu 38 rfl ?_; simp only [zz]
            refine tu 39 rfl ?_; simp only [zz]
            refine tu 40 rfl ?_; simp only [zz]
            refine tu 41 rfl ?_; simp only [zz]
            refine tu 42 rfl ?_; simp only [zz]
            refine tu 43 rfl ?_; simp only [zz]
            refine tu 44 rfl ?_; simp only [zz]
            refine tu 45 rfl ?_; simp only [zz]
            refine tu 46 rfl ?_; simp only [zz]
            refine tu 47 rfl ?_; simp only [zz]
            refine tu 48 rfl ?_; simp only [zz]
            refine tu 49 rfl ?_; simp only [zz]
            refine tu 50 rfl ?_; simp only [zz]
            refine tu 51 rfl ?_; simp only [zz]
            refine tu 52 rfl ?_; simp only [zz]
            refine tk 53 rfl ?_; simp only [zz]
            refine wpAnyH_done (by kernel_rfl) ?_ _
            go_wp2_with fail
            go_meet
            exact ⟨by rw [HO.out]; rfl, hX6⟩
          · rw [hib] at HCB0
            have HCB := HCB0
            cases hnx : nxtB g.evs pa pb
            · rw [hnx] at HCN0
              have HCN := HCN0
              have HO : Hid (ok6 g 0 = false) := by rw [Hid, HO6.out, hnx]; simp
              clear HCA0 HCB0 HCN0 hia hib hnx
              refine wp_region_held_drew (S := (fun w' => w'.cell? ⟨gb, 0, none⟩ = some (.int .i64 g.cells) ∧ w'.cell? ⟨gb, 1, none⟩ = some (.slice pe g.evs.length ce) ∧ w'.cell? ⟨gb, 2, none⟩ = some (Vr) ∧ w'.cell? ⟨gb, 3, none⟩ = some (Vc) ∧ w'.cell? ⟨gb, 4, none⟩ = some (.slice (some ⟨s2, o2, none⟩) g.rmw.length cr) ∧ w'.cell? ⟨gb, 5, none⟩ = some (Va) ∧ w'.cell? ⟨gb, 6, none⟩ = some (Vd) ∧ w'.cell? ⟨gb, 7, none⟩ = some (Vt) ∧ w'.cell? ⟨gp, 0, none⟩ = some (.int .i64 pa) ∧ w'.cell? ⟨gp, 1, none⟩ = some (.int .i64 pb))) (by kernel_rfl) (HZ.out _ (Below.refl _ _).drew) (fun hHeld => ?_)
              refine tk 0 rfl ?_; simp only [zz]
              refine tk 1 rfl ?_; simp only [zz]
              refine tk 2 rfl ?_; simp only [zz]
              refine tu 3 rfl ?_; simp only [zz]
              refine tu 4 rfl ?_; simp only [zz]
              refine tu 5 rfl ?_; simp only [zz]
              refine tu 6 rfl ?_; simp only [zz]
              refine tu 7 rfl ?_; simp only [zz]
              refine tu 8 rfl ?_; simp only [zz]
              refine tu 9 rfl ?_; simp only [zz]
              refine tu 10 rfl ?_; simp only [zz]
              refine tu 11 rfl ?_; simp only [zz]
              refine tu 12 rfl ?_; simp only [zz]
              refine tk 13 rfl ?_; simp only [zz]
              refine tk 14 rfl ?_; simp only [zz]
              refine tk 15 rfl ?_; simp only [zz]
              refine tk 16 rfl ?_; simp only [zz]
              refine tk 17 rfl ?_; simp only [zz]
              refine wpAnyH_ready (rs := [18]) (by kernel_rfl) (by simp) ?_
              refine AllReadyH.cons rfl (fun K hK => ?_) AllReadyH.nil
              simp only [z1, z2, z3]
              go_simp
              refine HCA.out.mono ?_
              rintro e w5 ⟨rfl, hB5⟩
              have hX5 : Below wb.heap.size wb w5 := ((Below.refl wb.heap.size wb).drew).trans hB5
              refine hK.out _ _ (HZ.out w5 hX5) (fun hHeld => ?_)
              clear hK K
              try simp only [zz]
              refine tk 19 rfl ?_; simp only [zz]
              refine tk 20 rfl ?_; simp only [zz]
              refine tk 21 rfl ?_; simp only [zz]
              refine tk 22 rfl ?_; simp only [zz]
              refine tk 23 rfl ?_; simp only [zz]
              refine tk 24 rfl ?_; simp only [zz]
              refine wpAnyH_ready (rs := [25]) (by kernel_rfl) (by simp) ?_
              refine AllReadyH.cons rfl (fun K hK => ?_) AllReadyH.nil
              simp only [z1, z2, z3]
              go_simp
              refine (HCB.out w5 hX5).mono ?_
              rintro e w6 ⟨rfl, hB6⟩
              have hX6 := below_step hX5 hX5.size hB6
              refine hK.out _ _ (HZ.out w6 hX6) (fun hHeld => ?_)
              clear hK K
              try simp only [zz]
              refine tk 26 rfl ?_; simp only [zz]
              refine tk 27 rfl ?_; simp only [zz]
              refine tk 28 rfl ?_; simp only [zz]
              refine tk 29 rfl ?_; simp only [zz]
              refine tk 30 rfl ?_; simp only [zz]
              refine tk 31 rfl ?_; simp only [zz]
              refine tk 32 rfl ?_; simp only [zz]
              refine tk 33 rfl ?_; simp only [zz]
              refine wpAnyH_ready (rs := [34]) (by kernel_rfl) (by simp) ?_
              refine AllReadyH.cons rfl (fun K hK => ?_) AllReadyH.nil
              simp only [z1, z2, z3]
              go_simp
              refine (HCN.out w6 hX6).mono ?_
              rintro e w7 ⟨rfl, hB7⟩
              have hX7 := below_step hX6 hX6.size hB7
              refine hK.out _ _ (HZ.out w7 hX7) (fun hHeld => ?_)
              clear hK K
              try simp only [zz]
              refine tk 35 rfl ?_; simp only [zz]
              refine tk 36 rfl ?_; simp only [zz]
              refine tk 37 rfl ?_; simp only [zz]
              refine tu 38 rfl ?_; simp only [zz]
              refine tu 39 rfl ?_; simp only [zz]
              refine tu 40 rfl ?_; simp only [zz]
              refine tu 41 rfl ?_; simp only [zz]
              refine tu 42 rfl ?_; simp only [zz]
              refine tu 43 rfl ?_; simp only [zz]
              refine tu 44 rfl ?_; simp only [zz]
              refine tu 45 rfl ?_; simp only [zz]
              refine tu 46 rfl ?_; simp only [zz]
              refine tu 47 rfl ?_; simp only [zz]
              refine tu 48 rfl ?_; simp only [zz]
              refine tu 49 rfl ?_; simp only [zz]
              refine tu 50 rfl ?_; simp only [zz]
              refine tu 51 rfl ?_; simp only [zz]
              refine tu 52 rfl ?_; simp only [zz]
              refine tk 53 rfl ?_; simp only [zz]
              refine wpAnyH_done (by kernel_rfl) ?_ _
              go_wp2_with fail
              go_meet
              exact ⟨by rw [HO.out]; rfl, hX7⟩
            · rw [hnx] at HCN0
              have HCN := HCN0
              obtain ⟨n, rfl, hn⟩ := isB_nat hia
              obtain ⟨m, rfl, hm⟩ := isB_nat hib
              obtain ⟨s, o, rfl, hat⟩ := HP.out (by omega)
              have HAb := hid_of (hat.below (by rw [hgbn]; exact HBb.out))
              have N0 : (0 : Int) ≤ ((n : Nat) : Int) := by omega
              have N1 : ((n : Nat) : Int) < ((g.evs.length : Nat) : Int) := by omega
              have M0 : (0 : Int) ≤ ((m : Nat) : Int) := by omega
              have M1 : ((m : Nat) : Int) < ((g.evs.length : Nat) : Int) := by omega
              have z0 := HAb.out.c2 n _ (Gr.ev_at hn)
              have z1 := HAb.out.c2 m _ (Gr.ev_at hm)
              have hs := HAb.out.lt
              have HO7 : Hid (ok6 g 0 = decide ((g.ev n).l = (g.ev m).l)) := by rw [Hid, HO6.out, hia, hib, hnx, Int.toNat_natCast, Int.toNat_natCast]; simp
              generalize (g.ev n).l = la at *
              generalize (g.ev m).l = lb at *
              have HZ2 : Hid (∀ W, Below wb.heap.size wb W → W.cell? ⟨gb, 0, none⟩ = some (.int .i64 g.cells) ∧ W.cell? ⟨gb, 1, none⟩ = some (.slice (some ⟨s, o, none⟩) g.evs.length ce) ∧ W.cell? ⟨gb, 2, none⟩ = some (Vr) ∧ W.cell? ⟨gb, 3, none⟩ = some (Vc) ∧ W.cell? ⟨gb, 4, none⟩ = some (.slice (some ⟨s2, o2, none⟩) g.rmw.length cr) ∧ W.cell? ⟨gb, 5, none⟩ = some (Va) ∧ W.cell? ⟨gb, 6, none⟩ = some (Vd) ∧ W.cell? ⟨gb, 7, none⟩ = some (Vt) ∧ W.cell? ⟨gp, 0, none⟩ = some (.int .i64 ((n : Nat) : Int)) ∧ W.cell? ⟨gp, 1, none⟩ = some (.int .i64 ((m : Nat) : Int)) ∧ W.cell? ⟨s, o + n * 5 + 2, none⟩ = some (.int .i64 la) ∧ W.cell? ⟨s, o + m * 5 + 2, none⟩ = some (.int .i64 lb)) := fun W hW => by
                obtain ⟨a0, a1, a2, a3, a4, a5, a6, a7, a8, a9⟩ := HZ.out W hW
                exact ⟨a0, a1, a2, a3, a4, a5, a6, a7, a8, a9, (hW.cell (p := ⟨s, o + n * 5 + 2, none⟩) hs).trans z0, (hW.cell (p := ⟨s, o + m * 5 + 2, none⟩) hs).trans z1⟩
              clear HCA0 HCB0 HCN0 hia hib hnx z0 z1 HO6 hat
              by_cases hll : la = lb
              · have q3 : ((la : Int) != lb) = false := by simp [hll]
                have HO : Hid (ok6 g 0 = true) := by rw [Hid, HO7.out]; simp [hll]
                clear hll
                refine wp_region_held_drew (S := (fun w' => w'.cell? ⟨gb, 0, none⟩ = some (.int .i64 g.cells) ∧ w'.cell? ⟨gb, 1, none⟩ = some (.slice (some ⟨s, o, none⟩) g.evs.length ce) ∧ w'.cell? ⟨gb, 2, none⟩ = some (Vr) ∧ w'.cell? ⟨gb, 3, none⟩ = some (Vc) ∧ w'.cell? ⟨gb, 4, none⟩ = some (.slice (some ⟨s2, o2, none⟩) g.rmw.length cr) ∧ w'.cell? ⟨gb, 5, none⟩ = some (Va) ∧ w'.cell? ⟨gb, 6, none⟩ = some (Vd) ∧ w'.cell? ⟨gb, 7, none⟩ = some (Vt) ∧ w'.cell? ⟨gp, 0, none⟩ = some (.int .i64 ((n : Nat) : Int)) ∧ w'.cell? ⟨gp, 1, none⟩ = some (.int .i64 ((m : Nat) : Int)) ∧ w'.cell? ⟨s, o + n * 5 + 2, none⟩ = some (.int .i64 la) ∧ w'.cell? ⟨s, o + m * 5 + 2, none⟩ = some (.int .i64 lb))) (by kernel_rfl) (HZ2.out _ (Below.refl _ _).drew) (fun hHeld => ?_)
                refine tk 0 rfl ?_; simp only [zz]
                refine tk 1 rfl ?_; simp only [zz]
                refine tk 2 rfl ?_; simp only [zz]
                refine tu 3 rfl ?_; simp only [zz]
                refine tu 4 rfl ?_; simp only [zz]
                refine tu 5 rfl ?_; simp only [zz]
                refine tu 6 rfl ?_; simp only [zz]
                refine tu 7 rfl ?_; simp only [zz]
                refine tu 8 rfl ?_; simp only [zz]
                refine tu 9 rfl ?_; simp only [zz]
                refine tu 10 rfl ?_; simp only [zz]
                refine tu 11 rfl ?_; simp only [zz]
                refine tu 12 rfl ?_; simp only [zz]
                refine tk 13 rfl ?_; simp only [zz]
                refine tk 14 rfl ?_; simp only [zz]
                refine tk 15 rfl ?_; simp only [zz]
                refine tk 16 rfl ?_; simp only [zz]
                refine tk 17 rfl ?_; simp only [zz]
                refine wpAnyH_ready (rs := [18]) (by kernel_rfl) (by simp) ?_
                refine AllReadyH.cons rfl (fun K hK => ?_) AllReadyH.nil
                simp only [z1, z2, z3]
                go_simp
                refine HCA.out.mono ?_
                rintro e w5 ⟨rfl, hB5⟩
                have hX5 : Below wb.heap.size wb w5 := ((Below.refl wb.heap.size wb).drew).trans hB5
                refine hK.out _ _ (HZ2.out w5 hX5) (fun hHeld => ?_)
                clear hK K
                try simp only [zz]
                refine tk 19 rfl ?_; simp only [zz]
                refine tk 20 rfl ?_; simp only [zz]
                refine tk 21 rfl ?_; simp only [zz]
                refine tk 22 rfl ?_; simp only [zz]
                refine tk 23 rfl ?_; simp only [zz]
                refine tk 24 rfl ?_; simp only [zz]
                refine wpAnyH_ready (rs := [25]) (by kernel_rfl) (by simp) ?_
                refine AllReadyH.cons rfl (fun K hK => ?_) AllReadyH.nil
                simp only [z1, z2, z3]
                go_simp
                refine (HCB.out w5 hX5).mono ?_
                rintro e w6 ⟨rfl, hB6⟩
                have hX6 := below_step hX5 hX5.size hB6
                refine hK.out _ _ (HZ2.out w6 hX6) (fun hHeld => ?_)
                clear hK K
                try simp only [zz]
                refine tk 26 rfl ?_; simp only [zz]
                refine tk 27 rfl ?_; simp only [zz]
                refine tk 28 rfl ?_; simp only [zz]
                refine tk 29 rfl ?_; simp only [zz]
                refine tk 30 rfl ?_; simp only [zz]
                refine tk 31 rfl ?_; simp only [zz]
                refine tk 32 rfl ?_; simp only [zz]
                refine tk 33 rfl ?_; simp only [zz]
                refine wpAnyH_ready (rs := [34]) (by kernel_rfl) (by simp) ?_
                refine AllReadyH.cons rfl (fun K hK => ?_) AllReadyH.nil
                simp only [z1, z2, z3]
                go_simp
                refine (HCN.out w6 hX6).mono ?_
                rintro e w7 ⟨rfl, hB7⟩
                have hX7 := below_step hX6 hX6.size hB7
                refine hK.out _ _ (HZ2.out w7 hX7) (fun hHeld => ?_)
                clear hK K
                try simp only [zz]
                refine tk 35 rfl ?_; simp only [zz]
                refine tk 36 rfl ?_; simp only [zz]
                refine tk 37 rfl ?_; simp only [zz]
                refine tk 38 rfl ?_; simp only [zz]
                refine tk 39 rfl ?_; simp only [zz]
                refine tk 40 rfl ?_; simp only [zz]
                refine tk 41 rfl ?_; simp only [zz]
                refine tk 42 rfl ?_; simp only [zz]
                refine tk 43 rfl ?_; simp only [zz]
                refine tk 44 rfl ?_; simp only [zz]
                refine tk 45 rfl ?_; simp only [zz]
                refine tk 46 rfl ?_; simp only [zz]
                refine tk 47 rfl ?_; simp only [zz]
                refine tk 48 rfl ?_; simp only [zz]
                refine tk 49 rfl ?_; simp only [zz]
                refine tk 50 rfl ?_; simp only [zz]
                refine tk 51 rfl ?_; simp only [zz]
                refine tk 52 rfl ?_; simp only [zz]
                refine tk 53 rfl ?_; simp only [zz]
                refine wpAnyH_done (by kernel_rfl) ?_ _
                go_wp2_with fail
                go_meet
                exact ⟨by rw [HO.out]; rfl, hX7⟩
              · have q3 : ((la : Int) != lb) = true := by simp [hll]
                have HO : Hid (ok6 g 0 = false) := by rw [Hid, HO7.out]; simp [hll]
                clear hll
                refine wp_region_held_drew (S := (fun w' => w'.cell? ⟨gb, 0, none⟩ = some (.int .i64 g.cells) ∧ w'.cell? ⟨gb, 1, none⟩ = some (.slice (some ⟨s, o, none⟩) g.evs.length ce) ∧ w'.cell? ⟨gb, 2, none⟩ = some (Vr) ∧ w'.cell? ⟨gb, 3, none⟩ = some (Vc) ∧ w'.cell? ⟨gb, 4, none⟩ = some (.slice (some ⟨s2, o2, none⟩) g.rmw.length cr) ∧ w'.cell? ⟨gb, 5, none⟩ = some (Va) ∧ w'.cell? ⟨gb, 6, none⟩ = some (Vd) ∧ w'.cell? ⟨gb, 7, none⟩ = some (Vt) ∧ w'.cell? ⟨gp, 0, none⟩ = some (.int .i64 ((n : Nat) : Int)) ∧ w'.cell? ⟨gp, 1, none⟩ = some (.int .i64 ((m : Nat) : Int)) ∧ w'.cell? ⟨s, o + n * 5 + 2, none⟩ = some (.int .i64 la) ∧ w'.cell? ⟨s, o + m * 5 + 2, none⟩ = some (.int .i64 lb))) (by kernel_rfl) (HZ2.out _ (Below.refl _ _).drew) (fun hHeld => ?_)
                refine tk 0 rfl ?_; simp only [zz]
                refine tk 1 rfl ?_; simp only [zz]
                refine tk 2 rfl ?_; simp only [zz]
                refine tu 3 rfl ?_; simp only [zz]
                refine tu 4 rfl ?_; simp only [zz]
                refine tu 5 rfl ?_; simp only [zz]
                refine tu 6 rfl ?_; simp only [zz]
                refine tu 7 rfl ?_; simp only [zz]
                refine tu 8 rfl ?_; simp only [zz]
                refine tu 9 rfl ?_; simp only [zz]
                refine tu 10 rfl ?_; simp only [zz]
                refine tu 11 rfl ?_; simp only [zz]
                refine tu 12 rfl ?_; simp only [zz]
                refine tk 13 rfl ?_; simp only [zz]
                refine tk 14 rfl ?_; simp only [zz]
                refine tk 15 rfl ?_; simp only [zz]
                refine tk 16 rfl ?_; simp only [zz]
                refine tk 17 rfl ?_; simp only [zz]
                refine wpAnyH_ready (rs := [18]) (by kernel_rfl) (by simp) ?_
                refine AllReadyH.cons rfl (fun K hK => ?_) AllReadyH.nil
                simp only [z1, z2, z3]
                go_simp
                refine HCA.out.mono ?_
                rintro e w5 ⟨rfl, hB5⟩
                have hX5 : Below wb.heap.size wb w5 := ((Below.refl wb.heap.size wb).drew).trans hB5
                refine hK.out _ _ (HZ2.out w5 hX5) (fun hHeld => ?_)
                clear hK K
                try simp only [zz]
                refine tk 19 rfl ?_; simp only [zz]
                refine tk 20 rfl ?_; simp only [zz]
                refine tk 21 rfl ?_; simp only [zz]
                refine tk 22 rfl ?_; simp only [zz]
                refine tk 23 rfl ?_; simp only [zz]
                refine tk 24 rfl ?_; simp only [zz]
                refine wpAnyH_ready (rs := [25]) (by kernel_rfl) (by simp) ?_
                refine AllReadyH.cons rfl (fun K hK => ?_) AllReadyH.nil
                simp only [z1, z2, z3]
                go_simp
                refine (HCB.out w5 hX5).mono ?_
                rintro e w6 ⟨rfl, hB6⟩
                have hX6 := below_step hX5 hX5.size hB6
                refine hK.out _ _ (HZ2.out w6 hX6) (fun hHeld => ?_)
                clear hK K
                try simp only [zz]
                refine tk 26 rfl ?_; simp only [zz]
                refine tk 27 rfl ?_; simp only [zz]
                refine tk 28 rfl ?_; simp only [zz]
                refine tk 29 rfl ?_; simp only [zz]
                refine tk 30 rfl ?_; simp only [zz]
                refine tk 31 rfl ?_; simp only [zz]
                refine tk 32 rfl ?_; simp only [zz]
                refine tk 33 rfl ?_; simp only [zz]
                refine wpAnyH_ready (rs := [34]) (by kernel_rfl) (by simp) ?_
                refine AllReadyH.cons rfl (fun K hK => ?_) AllReadyH.nil
                simp only [z1, z2, z3]
                go_simp
                refine (HCN.out w6 hX6).mono ?_
                rintro e w7 ⟨rfl, hB7⟩
                have hX7 := below_step hX6 hX6.size hB7
                refine hK.out _ _ (HZ2.out w7 hX7) (fun hHeld => ?_)
                clear hK K
                try simp only [zz]
                refine tk 35 rfl ?_; simp only [zz]
                refine tk 36 rfl ?_; simp only [zz]
                refine tk 37 rfl ?_; simp only [zz]
                refine tk 38 rfl ?_; simp only [zz]
                refine tk 39 rfl ?_; simp only [zz]
                refine tk 40 rfl ?_; simp only [zz]
                refine tk 41 rfl ?_; simp only [zz]
                refine tk 42 rfl ?_; simp only [zz]
                refine tk 43 rfl ?_; simp only [zz]
                refine tk 44 rfl ?_; simp only [zz]
                refine tk 45 rfl ?_; simp only [zz]
                refine tk 46 rfl ?_; simp only [zz]
                refine tk 47 rfl ?_; simp only [zz]
                refine tk 48 rfl ?_; simp only [zz]
                refine tk 49 rfl ?_; simp only [zz]
                refine tk 50 rfl ?_; simp only [zz]
                refine tk 51 rfl ?_; simp only [zz]
                refine tk 52 rfl ?_; simp only [zz]
                refine tk 53 rfl ?_; simp only [zz]
                refine wpAnyH_done (by kernel_rfl) ?_ _
                go_wp2_with fail
                go_meet
                exact ⟨by rw [HO.out]; rfl, hX7⟩
      · obtain ⟨jj, HJJ⟩ : ∃ jj : Nat, Hid (kk = jj + 1) := ⟨kk - 1, by rw [Hid]; omega⟩
        have hj1 : ((kk : Nat) : Int) - 1 = ((jj : Nat) : Int) := by have := HJJ.out; omega
        have hjl : jj < g.rmw.length := by have := HJJ.out; omega
        obtain ⟨⟨qa, qb⟩, hx⟩ : ∃ x, g.rmw[jj]? = some x := ⟨_, List.getElem?_eq_getElem hjl⟩
        have zq := HA2b.out.fst jj _ hx
        dsimp only at zq
        have hs2 := HA2b.out.lt
        have J0 : (0 : Int) ≤ ((jj : Nat) : Int) := by omega
        have J1 : ((jj : Nat) : Int) < ((g.rmw.length : Nat) : Int) := by omega
        have KP : 0 < kk := by omega
        have KP0 : (0 : Int) < ((kk : Nat) : Int) := by omega
        have jd : decide ((0 : Int) < ((kk : Nat) : Int)) = true := decide_eq_true (by omega)
        have jw : IntKind.i64.wrap ((jj : Nat) : Int) = ((jj : Nat) : Int) := wrap_small' (by have := HJJ.out; omega)
        have hra : okRa g.rmw kk = decide (qa < pa) := by
          unfold okRa
          rw [HGD.out, show kk - 1 = jj by have := HJJ.out; omega, List.getD_eq_getElem?_getD, hx]
          simp [hkz]
        have HZ1 : Hid (∀ W, Below wb.heap.size wb W → W.cell? ⟨gb, 0, none⟩ = some (.int .i64 g.cells) ∧ W.cell? ⟨gb, 1, none⟩ = some (.slice pe g.evs.length ce) ∧ W.cell? ⟨gb, 2, none⟩ = some (Vr) ∧ W.cell? ⟨gb, 3, none⟩ = some (Vc) ∧ W.cell? ⟨gb, 4, none⟩ = some (.slice (some ⟨s2, o2, none⟩) g.rmw.length cr) ∧ W.cell? ⟨gb, 5, none⟩ = some (Va) ∧ W.cell? ⟨gb, 6, none⟩ = some (Vd) ∧ W.cell? ⟨gb, 7, none⟩ = some (Vt) ∧ W.cell? ⟨gp, 0, none⟩ = some (.int .i64 pa) ∧ W.cell? ⟨gp, 1, none⟩ = some (.int .i64 pb) ∧ W.cell? ⟨s2, o2 + jj * 2, none⟩ = some (.int .i64 qa)) := fun W hW => by
          obtain ⟨a0, a1, a2, a3, a4, a5, a6, a7, a8, a9⟩ := HZ.out W hW
          exact ⟨a0, a1, a2, a3, a4, a5, a6, a7, a8, a9, (hW.cell (p := ⟨s2, o2 + jj * 2, none⟩) hs2).trans zq⟩
        clear hx zq
        by_cases hord : qa < pa
        · have d5 : ¬ (pa ≤ qa) := by omega
          have d6 : decide (pa ≤ qa) = false := decide_eq_false d5
          have HO6 : Hid (ok6 g kk = (isB g.evs pa [1] && (isB g.evs pb [2] && (nxtB g.evs pa pb && decide ((g.ev pa.toNat).l = (g.ev pb.toNat).l))))) := by rw [Hid, HO5.out, hra, decide_eq_true hord]; simp
          clear HO5 hra
          cases hia : isB g.evs pa [1]
          · rw [hia] at HCA0
            have HCA := HCA0
            have HO : Hid (ok6 g kk = false) := by rw [Hid, HO6.out, hia]; simp
            clear HCA0 hia
            refine wp_region_held_drew (S := (fun w' => w'.cell? ⟨gb, 0, none⟩ = some (.int .i64 g.cells) ∧ w'.cell? ⟨gb, 1, none⟩ = some (.slice pe g.evs.length ce) ∧ w'.cell? ⟨gb, 2, none⟩ = some (Vr) ∧ w'.cell? ⟨gb, 3, none⟩ = some (Vc) ∧ w'.cell? ⟨gb, 4, none⟩ = some (.slice (some ⟨s2, o2, none⟩) g.rmw.length cr) ∧ w'.cell? ⟨gb, 5, none⟩ = some (Va) ∧ w'.cell? ⟨gb, 6, none⟩ = some (Vd) ∧ w'.cell? ⟨gb, 7, none⟩ = some (Vt) ∧ w'.cell? ⟨gp, 0, none⟩ = some (.int .i64 pa) ∧ w'.cell? ⟨gp, 1, none⟩ = some (.int .i64 pb) ∧ w'.cell? ⟨s2, o2 + jj * 2, none⟩ = some (.int .i64 qa))) (by kernel_rfl) (HZ1.out _ (Below.refl _ _).drew) (fun hHeld => ?_)
            refine tk 0 rfl ?_; simp only [zz]
            refine tk 1 rfl ?_; simp only [zz]
            refine tk 2 rfl ?_; simp only [zz]
            refine tk 3 rfl ?_; simp only [zz]
            refine tk 4 rfl ?_; simp only [zz]
            refine tk 5 rfl ?_; simp only [zz]
            refine tk 6 rfl ?_; simp only [zz]
            refine tk 7 rfl ?_; simp only [zz]
            refine tk 8 rfl ?_; simp only [zz]
            refine tk 9 rfl ?_; simp only [zz]
            refine tk 10 rfl ?_; simp only [zz]
            refine tk 11 rfl ?_; simp only [zz]
            refine tk 12 rfl ?_; simp only [zz]
            refine tk 13 rfl ?_; simp only [zz]
            refine tk 14 rfl ?_; simp only [zz]
            refine tk 15 rfl ?_; simp only [zz]
            refine tk 16 rfl ?_; simp only [zz]
            refine tk 17 rfl ?_; simp only [zz]
            refine wpAnyH_ready (rs := [18]) (by kernel_rfl) (by simp) ?_
            refine AllReadyH.cons rfl (fun K hK => ?_) AllReadyH.nil
            simp only [z1, z2, z3]
            go_simp
            refine HCA.out.mono ?_
            rintro e w5 ⟨rfl, hB5⟩
            have hX5 : Below wb.heap.size wb w5 := ((Below.refl wb.heap.size wb).drew).trans hB5
            refine hK.out _ _ (HZ1.out w5 hX5) (fun hHeld => ?_)
            clear hK K
            try simp only [zz]
            refine tk 19 rfl ?_; simp only [zz]
            refine tk 20 rfl ?_; simp only [zz]
            refine tk 21 rfl ?_; simp only [zz]
            refine tu 22 rfl ?_; simp only [zz]
            refine tu 23 rfl ?_; simp only [zz]
            refine tu 24 rfl ?_; simp only [zz]
            refine tu 25 rfl ?_; simp only [zz]
            refine tu 26 rfl ?_; simp only [zz]
            refine tk 27 rfl ?_; simp only [zz]
            refine tk 28 rfl ?_; simp only [zz]
            refine tu 29 rfl ?_; simp only [zz]
            refine tu 30 rfl ?_; simp only [zz]
            refine tu 31 rfl ?_; simp only [zz]
            refine tu 32 rfl ?_; simp only [zz]
            refine tu 33 rfl ?_; simp only [zz]
            refine tu 34 rfl ?_; simp only [zz]
            refine tu 35 rfl ?_; simp only [zz]
            refine tk 36 rfl ?_; simp only [zz]
            refine tk 37 rfl ?_; simp only [zz]
            refine tu 38 rfl ?_; simp only [zz]
            refine tu 39 rfl ?_; simp only [zz]
            refine tu 40 rfl ?_; simp only [zz]
            refine tu 41 rfl ?_; simp only [zz]
            refine tu 42 rfl ?_; simp only [zz]
            refine tu 43 rfl ?_; simp only [zz]
            refine tu 44 rfl ?_; simp only [zz]
            refine tu 45 rfl ?_; simp only [zz]
            refine tu 46 rfl ?_; simp only [zz]
            refine tu 47 rfl ?_; simp only [zz]
            refine tu 48 rfl ?_; simp only [zz]
            refine tu 49 rfl ?_; simp only [zz]
            refine tu 50 rfl ?_; simp only [zz]
            refine tu 51 rfl ?_; simp only [zz]
            refine tu 52 rfl ?_; simp only [zz]
            refine tk 53 rfl ?_; simp only [zz]
            refine wpAnyH_done (by kernel_rfl) ?_ _
            go_wp2_with fail
            go_meet
            exact ⟨by rw [HO.out]; rfl, hX5⟩
          · rw [hia] at HCA0
            have HCA := HCA0
            cases hib : isB g.evs pb [2]
            · rw [hib] at HCB0
              have HCB := HCB0
              have HO : Hid (ok6 g kk = false) := by rw [Hid, HO6.out, hib]; simp
              clear HCA0 HCB0 hia hib
              refine wp_region_held_drew (S := (fun w' => w'.cell? ⟨gb, 0, none⟩ = some (.int .i64 g.cells) ∧ w'.cell? ⟨gb, 1, none⟩ = some (.slice pe g.evs.length ce) ∧ w'.cell? ⟨gb, 2, none⟩ = some (Vr) ∧ w'.cell? ⟨gb, 3, none⟩ = some (Vc) ∧ w'.cell? ⟨gb, 4, none⟩ = some (.slice (some ⟨s2, o2, none⟩) g.rmw.length cr) ∧ w'.cell? ⟨gb, 5, none⟩ = some (Va) ∧ w'.cell? ⟨gb, 6, none⟩ = some (Vd) ∧ w'.cell? ⟨gb, 7, none⟩ = some (Vt) ∧ w'.cell? ⟨gp, 0, none⟩ = some (.int .i64 pa) ∧ w'.cell? ⟨gp, 1, none⟩ = some (.int .i64 pb) ∧ w'.cell? ⟨s2, o2 + jj * 2, none⟩ = some (.int .i64 qa))) (by kernel_rfl) (HZ1.out _ (Below.refl _ _).drew) (fun hHeld => ?_)
              refine tk 0 rfl ?_; simp only [zz]
              refine tk 1 rfl ?_; simp only [zz]
              refine tk 2 rfl ?_; simp only [zz]
              refine tk 3 rfl ?_; simp only [zz]
              refine tk 4 rfl ?_; simp only [zz]
              refine tk 5 rfl ?_; simp only [zz]
              refine tk 6 rfl ?_; simp only [zz]
              refine tk 7 rfl ?_; simp only [zz]
              refine tk 8 rfl ?_; simp only [zz]
              refine tk 9 rfl ?_; simp only [zz]
              refine tk 10 rfl ?_; simp only [zz]
              refine tk 11 rfl ?_; simp only [zz]
              refine tk 12 rfl ?_; simp only [zz]
              refine tk 13 rfl ?_; simp only [zz]
              refine tk 14 rfl ?_; simp only [zz]
              refine tk 15 rfl ?_; simp only [zz]
              refine tk 16 rfl ?_; simp only [zz]
              refine tk 17 rfl ?_; simp only [zz]
              refine wpAnyH_ready (rs := [18]) (by kernel_rfl) (by simp) ?_
              refine AllReadyH.cons rfl (fun K hK => ?_) AllReadyH.nil
              simp only [z1, z2, z3]
              go_simp
              refine HCA.out.mono ?_
              rintro e w5 ⟨rfl, hB5⟩
              have hX5 : Below wb.heap.size wb w5 := ((Below.refl wb.heap.size wb).drew).trans hB5
              refine hK.out _ _ (HZ1.out w5 hX5) (fun hHeld => ?_)
              clear hK K
              try simp only [zz]
              refine tk 19 rfl ?_; simp only [zz]
              refine tk 20 rfl ?_; simp only [zz]
              refine tk 21 rfl ?_; simp only [zz]
              refine tk 22 rfl ?_; simp only [zz]
              refine tk 23 rfl ?_; simp only [zz]
              refine tk 24 rfl ?_; simp only [zz]
              refine wpAnyH_ready (rs := [25]) (by kernel_rfl) (by simp) ?_
              refine AllReadyH.cons rfl (fun K hK => ?_) AllReadyH.nil
              simp only [z1, z2, z3]
              go_simp
              refine (HCB.out w5 hX5).mono ?_
              rintro e w6 ⟨rfl, hB6⟩
              have hX6 := below_step hX5 hX5.size hB6
              refine hK.out _ _ (HZ1.out w6 hX6) (fun hHeld => ?_)
              clear hK K
              try simp only [zz]
              refine tk 26 rfl ?_; simp only [zz]
              refine tk 27 rfl ?_; simp only [zz]
              refine tk 28 rfl ?_; simp only [zz]
              refine tu 29 rfl ?_; simp only [zz]
              refine tu 30 rfl ?_; simp only [zz]
              refine tu 31 rfl ?_; simp only [zz]
              refine tu 32 rfl ?_; simp only [zz]
              refine tu 33 rfl ?_; simp only [zz]
              refine tu 34 rfl ?_; simp only [zz]
              refine tu 35 rfl ?_; simp only [zz]
              refine tk 36 rfl ?_; simp only [zz]
              refine tk 37 rfl ?_; simp only [zz]
              refine tu 38 rfl ?_; simp only [zz]
              refine tu 39 rfl ?_; simp only [zz]
              refine tu 40 rfl ?_; simp only [zz]
              refine tu 41 rfl ?_; simp only [zz]
              refine tu 42 rfl ?_; simp only [zz]
              refine tu 43 rfl ?_; simp only [zz]
              refine tu 44 rfl ?_; simp only [zz]
              refine tu 45 rfl ?_; simp only [zz]
              refine tu 46 rfl ?_; simp only [zz]
              refine tu 47 rfl ?_; simp only [zz]
              refine tu 48 rfl ?_; simp only [zz]
              refine tu 49 rfl ?_; simp only [zz]
              refine tu 50 rfl ?_; simp only [zz]
              refine tu 51 rfl ?_; simp only [zz]
              refine tu 52 rfl ?_; simp only [zz]
              refine tk 53 rfl ?_; simp only [zz]
              refine wpAnyH_done (by kernel_rfl) ?_ _
              go_wp2_with fail
              go_meet
              exact ⟨by rw [HO.out]; rfl, hX6⟩
            · rw [hib] at HCB0
              have HCB := HCB0
              cases hnx : nxtB g.evs pa pb
              · rw [hnx] at HCN0
                have HCN := HCN0
                have HO : Hid (ok6 g kk = false) := by rw [Hid, HO6.out, hnx]; simp
                clear HCA0 HCB0 HCN0 hia hib hnx
                refine wp_region_held_drew (S := (fun w' => w'.cell? ⟨gb, 0, none⟩ = some (.int .i64 g.cells) ∧ w'.cell? ⟨gb, 1, none⟩ = some (.slice pe g.evs.length ce) ∧ w'.cell? ⟨gb, 2, none⟩ = some (Vr) ∧ w'.cell? ⟨gb, 3, none⟩ = some (Vc) ∧ w'.cell? ⟨gb, 4, none⟩ = some (.slice (some ⟨s2, o2, none⟩) g.rmw.length cr) ∧ w'.cell? ⟨gb, 5, none⟩ = some (Va) ∧ w'.cell? ⟨gb, 6, none⟩ = some (Vd) ∧ w'.cell? ⟨gb, 7, none⟩ = some (Vt) ∧ w'.cell? ⟨gp, 0, none⟩ = some (.int .i64 pa) ∧ w'.cell? ⟨gp, 1, none⟩ = some (.int .i64 pb) ∧ w'.cell? ⟨s2, o2 + jj * 2, none⟩ = some (.int .i64 qa))) (by kernel_rfl) (HZ1.out _ (Below.refl _ _).drew) (fun hHeld => ?_)
                refine tk 0 rfl ?_; simp only [zz]
                refine tk 1 rfl ?_; simp only [zz]
                refine tk 2 rfl ?_; simp only [zz]
                refine tk 3 rfl ?_; simp only [zz]
                refine tk 4 rfl ?_; simp only [zz]
                refine tk 5 rfl ?_; simp only [zz]
                refine tk 6 rfl ?_; simp only [zz]
                refine tk 7 rfl ?_; simp only [zz]
                refine tk 8 rfl ?_; simp only [zz]
                refine tk 9 rfl ?_; simp only [zz]
                refine tk 10 rfl ?_; simp only [zz]
                refine tk 11 rfl ?_; simp only [zz]
                refine tk 12 rfl ?_; simp only [zz]
                refine tk 13 rfl ?_; simp only [zz]
                refine tk 14 rfl ?_; simp only [zz]
                refine tk 15 rfl ?_; simp only [zz]
                refine tk 16 rfl ?_; simp only [zz]
                refine tk 17 rfl ?_; simp only [zz]
                refine wpAnyH_ready (rs := [18]) (by kernel_rfl) (by simp) ?_
                refine AllReadyH.cons rfl (fun K hK => ?_) AllReadyH.nil
                simp only [z1, z2, z3]
                go_simp
                refine HCA.out.mono ?_
                rintro e w5 ⟨rfl, hB5⟩
                have hX5 : Below wb.heap.size wb w5 := ((Below.refl wb.heap.size wb).drew).trans hB5
                refine hK.out _ _ (HZ1.out w5 hX5) (fun hHeld => ?_)
                clear hK K
                try simp only [zz]
                refine tk 19 rfl ?_; simp only [zz]
                refine tk 20 rfl ?_; simp only [zz]
                refine tk 21 rfl ?_; simp only [zz]
                refine tk 22 rfl ?_; simp only [zz]
                refine tk 23 rfl ?_; simp only [zz]
                refine tk 24 rfl ?_; simp only [zz]
                refine wpAnyH_ready (rs := [25]) (by kernel_rfl) (by simp) ?_
                refine AllReadyH.cons rfl (fun K hK => ?_) AllReadyH.nil
                simp only [z1, z2, z3]
                go_simp
                refine (HCB.out w5 hX5).mono ?_
                rintro e w6 ⟨rfl, hB6⟩
                have hX6 := below_step hX5 hX5.size hB6
                refine hK.out _ _ (HZ1.out w6 hX6) (fun hHeld => ?_)
                clear hK K
                try simp only [zz]
                refine tk 26 rfl ?_; simp only [zz]
                refine tk 27 rfl ?_; simp only [zz]
                refine tk 28 rfl ?_; simp only [zz]
                refine tk 29 rfl ?_; simp only [zz]
                refine tk 30 rfl ?_; simp only [zz]
                refine tk 31 rfl ?_; simp only [zz]
                refine tk 32 rfl ?_; simp only [zz]
                refine tk 33 rfl ?_; simp only [zz]
                refine wpAnyH_ready (rs := [34]) (by kernel_rfl) (by simp) ?_
                refine AllReadyH.cons rfl (fun K hK => ?_) AllReadyH.nil
                simp only [z1, z2, z3]
                go_simp
                refine (HCN.out w6 hX6).mono ?_
                rintro e w7 ⟨rfl, hB7⟩
                have hX7 := below_step hX6 hX6.size hB7
                refine hK.out _ _ (HZ1.out w7 hX7) (fun hHeld => ?_)
                clear hK K
                try simp only [zz]
                refine tk 35 rfl ?_; simp only [zz]
                refine tk 36 rfl ?_; simp only [zz]
                refine tk 37 rfl ?_; simp only [zz]
                refine tu 38 rfl ?_; simp only [zz]
                refine tu 39 rfl ?_; simp only [zz]
                refine tu 40 rfl ?_; simp only [zz]
                refine tu 41 rfl ?_; simp only [zz]
                refine tu 42 rfl ?_; simp only [zz]
                refine tu 43 rfl ?_; simp only [zz]
                refine tu 44 rfl ?_; simp only [zz]
                refine tu 45 rfl ?_; simp only [zz]
                refine tu 46 rfl ?_; simp only [zz]
                refine tu 47 rfl ?_; simp only [zz]
                refine tu 48 rfl ?_; simp only [zz]
                refine tu 49 rfl ?_; simp only [zz]
                refine tu 50 rfl ?_; simp only [zz]
                refine tu 51 rfl ?_; simp only [zz]
                refine tu 52 rfl ?_; simp only [zz]
                refine tk 53 rfl ?_; simp only [zz]
                refine wpAnyH_done (by kernel_rfl) ?_ _
                go_wp2_with fail
                go_meet
                exact ⟨by rw [HO.out]; rfl, hX7⟩
              · rw [hnx] at HCN0
                have HCN := HCN0
                obtain ⟨n, rfl, hn⟩ := isB_nat hia
                obtain ⟨m, rfl, hm⟩ := isB_nat hib
                obtain ⟨s, o, rfl, hat⟩ := HP.out (by omega)
                have HAb := hid_of (hat.below (by rw [hgbn]; exact HBb.out))
                have N0 : (0 : Int) ≤ ((n : Nat) : Int) := by omega
                have N1 : ((n : Nat) : Int) < ((g.evs.length : Nat) : Int) := by omega
                have M0 : (0 : Int) ≤ ((m : Nat) : Int) := by omega
                have M1 : ((m : Nat) : Int) < ((g.evs.length : Nat) : Int) := by omega
                have z0 := HAb.out.c2 n _ (Gr.ev_at hn)
                have z1 := HAb.out.c2 m _ (Gr.ev_at hm)
                have hs := HAb.out.lt
                have HO7 : Hid (ok6 g kk = decide ((g.ev n).l = (g.ev m).l)) := by rw [Hid, HO6.out, hia, hib, hnx, Int.toNat_natCast, Int.toNat_natCast]; simp
                generalize (g.ev n).l = la at *
                generalize (g.ev m).l = lb at *
                have HZ2 : Hid (∀ W, Below wb.heap.size wb W → W.cell? ⟨gb, 0, none⟩ = some (.int .i64 g.cells) ∧ W.cell? ⟨gb, 1, none⟩ = some (.slice (some ⟨s, o, none⟩) g.evs.length ce) ∧ W.cell? ⟨gb, 2, none⟩ = some (Vr) ∧ W.cell? ⟨gb, 3, none⟩ = some (Vc) ∧ W.cell? ⟨gb, 4, none⟩ = some (.slice (some ⟨s2, o2, none⟩) g.rmw.length cr) ∧ W.cell? ⟨gb, 5, none⟩ = some (Va) ∧ W.cell? ⟨gb, 6, none⟩ = some (Vd) ∧ W.cell? ⟨gb, 7, none⟩ = some (Vt) ∧ W.cell? ⟨gp, 0, none⟩ = some (.int .i64 ((n : Nat) : Int)) ∧ W.cell? ⟨gp, 1, none⟩ = some (.int .i64 ((m : Nat) : Int)) ∧ W.cell? ⟨s2, o2 + jj * 2, none⟩ = some (.int .i64 qa) ∧ W.cell? ⟨s, o + n * 5 + 2, none⟩ = some (.int .i64 la) ∧ W.cell? ⟨s, o + m * 5 + 2, none⟩ = some (.int .i64 lb)) := fun W hW => by
                  obtain ⟨a0, a1, a2, a3, a4, a5, a6, a7, a8, a9, a10⟩ := HZ1.out W hW
                  exact ⟨a0, a1, a2, a3, a4, a5, a6, a7, a8, a9, a10, (hW.cell (p := ⟨s, o + n * 5 + 2, none⟩) hs).trans z0, (hW.cell (p := ⟨s, o + m * 5 + 2, none⟩) hs).trans z1⟩
                clear HCA0 HCB0 HCN0 hia hib hnx z0 z1 HO6 hat
                by_cases hll : la = lb
                · have q3 : ((la : Int) != lb) = false := by simp [hll]
                  have HO : Hid (ok6 g kk = true) := by rw [Hid, HO7.out]; simp [hll]
                  clear hll
                  refine wp_region_held_drew (S := (fun w' => w'.cell? ⟨gb, 0, none⟩ = some (.int .i64 g.cells) ∧ w'.cell? ⟨gb, 1, none⟩ = some (.slice (some ⟨s, o, none⟩) g.evs.length ce) ∧ w'.cell? ⟨gb, 2, none⟩ = some (Vr) ∧ w'.cell? ⟨gb, 3, none⟩ = some (Vc) ∧ w'.cell? ⟨gb, 4, none⟩ = some (.slice (some ⟨s2, o2, none⟩) g.rmw.length cr) ∧ w'.cell? ⟨gb, 5, none⟩ = some (Va) ∧ w'.cell? ⟨gb, 6, none⟩ = some (Vd) ∧ w'.cell? ⟨gb, 7, none⟩ = some (Vt) ∧ w'.cell? ⟨gp, 0, none⟩ = some (.int .i64 ((n : Nat) : Int)) ∧ w'.cell? ⟨gp, 1, none⟩ = some (.int .i64 ((m : Nat) : Int)) ∧ w'.cell? ⟨s2, o2 + jj * 2, none⟩ = some (.int .i64 qa) ∧ w'.cell? ⟨s, o + n * 5 + 2, none⟩ = some (.int .i64 la) ∧ w'.cell? ⟨s, o + m * 5 + 2, none⟩ = some (.int .i64 lb))) (by kernel_rfl) (HZ2.out _ (Below.refl _ _).drew) (fun hHeld => ?_)
                  refine tk 0 rfl ?_; simp only [zz]
                  refine tk 1 rfl ?_; simp only [zz]
                  refine tk 2 rfl ?_; simp only [zz]
                  refine tk 3 rfl ?_; simp only [zz]
                  refine tk 4 rfl ?_; simp only [zz]
                  refine tk 5 rfl ?_; simp only [zz]
                  refine tk 6 rfl ?_; simp only [zz]
                  refine tk 7 rfl ?_; simp only [zz]
                  refine tk 8 rfl ?_; simp only [zz]
                  refine tk 9 rfl ?_; simp only [zz]
                  refine tk 10 rfl ?_; simp only [zz]
                  refine tk 11 rfl ?_; simp only [zz]
                  refine tk 12 rfl ?_; simp only [zz]
                  refine tk 13 rfl ?_; simp only [zz]
                  refine tk 14 rfl ?_; simp only [zz]
                  refine tk 15 rfl ?_; simp only [zz]
                  refine tk 16 rfl ?_; simp only [zz]
                  refine tk 17 rfl ?_; simp only [zz]
                  refine wpAnyH_ready (rs := [18]) (by kernel_rfl) (by simp) ?_
                  refine AllReadyH.cons rfl (fun K hK => ?_) AllReadyH.nil
                  simp only [z1, z2, z3]
                  go_simp
                  refine HCA.out.mono ?_
                  rintro e w5 ⟨rfl, hB5⟩
                  have hX5 : Below wb.heap.size wb w5 := ((Below.refl wb.heap.size wb).drew).trans hB5
                  refine hK.out _ _ (HZ2.out w5 hX5) (fun hHeld => ?_)
                  clear hK K
                  try simp only [zz]
                  refine tk 19 rfl ?_; simp only [zz]
                  refine tk 20 rfl ?_; simp only [zz]
                  refine tk 21 rfl ?_; simp only [zz]
                  refine tk 22 rfl ?_; simp only [zz]
                  refine tk 23 rfl ?_; simp only [zz]
                  refine tk 24 rfl ?_; simp only [zz]
                  refine wpAnyH_ready (rs := [25]) (by kernel_rfl) (by simp) ?_
                  refine AllReadyH.cons rfl (fun K hK => ?_) AllReadyH.nil
                  simp only [z1, z2, z3]
                  go_simp
                  refine (HCB.out w5 hX5).mono ?_
                  rintro e w6 ⟨rfl, hB6⟩
                  have hX6 := below_step hX5 hX5.size hB6
                  refine hK.out _ _ (HZ2.out w6 hX6) (fun hHeld => ?_)
                  clear hK K
                  try simp only [zz]
                  refine tk 26 rfl ?_; simp only [zz]
                  refine tk 27 rfl ?_; simp only [zz]
                  refine tk 28 rfl ?_; simp only [zz]
                  refine tk 29 rfl ?_; simp only [zz]
                  refine tk 30 rfl ?_; simp only [zz]
                  refine tk 31 rfl ?_; simp only [zz]
                  refine tk 32 rfl ?_; simp only [zz]
                  refine tk 33 rfl ?_; simp only [zz]
                  refine wpAnyH_ready (rs := [34]) (by kernel_rfl) (by simp) ?_
                  refine AllReadyH.cons rfl (fun K hK => ?_) AllReadyH.nil
                  simp only [z1, z2, z3]
                  go_simp
                  refine (HCN.out w6 hX6).mono ?_
                  rintro e w7 ⟨rfl, hB7⟩
                  have hX7 := below_step hX6 hX6.size hB7
                  refine hK.out _ _ (HZ2.out w7 hX7) (fun hHeld => ?_)
                  clear hK K
                  try simp only [zz]
                  refine tk 35 rfl ?_; simp only [zz]
                  refine tk 36 rfl ?_; simp only [zz]
                  refine tk 37 rfl ?_; simp only [zz]
                  refine tk 38 rfl ?_; simp only [zz]
                  refine tk 39 rfl ?_; simp only [zz]
                  refine tk 40 rfl ?_; simp only [zz]
                  refine tk 41 rfl ?_; simp only [zz]
                  refine tk 42 rfl ?_; simp only [zz]
                  refine tk 43 rfl ?_; simp only [zz]
                  refine tk 44 rfl ?_; simp only [zz]
                  refine tk 45 rfl ?_; simp only [zz]
                  refine tk 46 rfl ?_; simp only [zz]
                  refine tk 47 rfl ?_; simp only [zz]
                  refine tk 48 rfl ?_; simp only [zz]
                  refine tk 49 rfl ?_; simp only [zz]
                  refine tk 50 rfl ?_; simp only [zz]
                  refine tk 51 rfl ?_; simp only [zz]
                  refine tk 52 rfl ?_; simp only [zz]
                  refine tk 53 rfl ?_; simp only [zz]
                  refine wpAnyH_done (by kernel_rfl) ?_ _
                  go_wp2_with fail
                  go_meet
                  exact ⟨by rw [HO.out]; rfl, hX7⟩
                · have q3 : ((la : Int) != lb) = true := by simp [hll]
                  have HO : Hid (ok6 g kk = false) := by rw [Hid, HO7.out]; simp [hll]
                  clear hll
                  refine wp_region_held_drew (S := (fun w' => w'.cell? ⟨gb, 0, none⟩ = some (.int .i64 g.cells) ∧ w'.cell? ⟨gb, 1, none⟩ = some (.slice (some ⟨s, o, none⟩) g.evs.length ce) ∧ w'.cell? ⟨gb, 2, none⟩ = some (Vr) ∧ w'.cell? ⟨gb, 3, none⟩ = some (Vc) ∧ w'.cell? ⟨gb, 4, none⟩ = some (.slice (some ⟨s2, o2, none⟩) g.rmw.length cr) ∧ w'.cell? ⟨gb, 5, none⟩ = some (Va) ∧ w'.cell? ⟨gb, 6, none⟩ = some (Vd) ∧ w'.cell? ⟨gb, 7, none⟩ = some (Vt) ∧ w'.cell? ⟨gp, 0, none⟩ = some (.int .i64 ((n : Nat) : Int)) ∧ w'.cell? ⟨gp, 1, none⟩ = some (.int .i64 ((m : Nat) : Int)) ∧ w'.cell? ⟨s2, o2 + jj * 2, none⟩ = some (.int .i64 qa) ∧ w'.cell? ⟨s, o + n * 5 + 2, none⟩ = some (.int .i64 la) ∧ w'.cell? ⟨s, o + m * 5 + 2, none⟩ = some (.int .i64 lb))) (by kernel_rfl) (HZ2.out _ (Below.refl _ _).drew) (fun hHeld => ?_)
                  refine tk 0 rfl ?_; simp only [zz]
                  refine tk 1 rfl ?_; simp only [zz]
                  refine tk 2 rfl ?_; simp only [zz]
                  refine tk 3 rfl ?_; simp only [zz]
                  refine tk 4 rfl ?_; simp only [zz]
                  refine tk 5 rfl ?_; simp only [zz]
                  refine tk 6 rfl ?_; simp only [zz]
                  refine tk 7 rfl ?_; simp only [zz]
                  refine tk 8 rfl ?_; simp only [zz]
                  refine tk 9 rfl ?_; simp only [zz]
                  refine tk 10 rfl ?_; simp only [zz]
                  refine tk 11 rfl ?_; simp only [zz]
                  refine tk 12 rfl ?_; simp only [zz]
                  refine tk 13 rfl ?_; simp only [zz]
                  refine tk 14 rfl ?_; simp only [zz]
                  refine tk 15 rfl ?_; simp only [zz]
                  refine tk 16 rfl ?_; simp only [zz]
                  refine tk 17 rfl ?_; simp only [zz]
                  refine wpAnyH_ready (rs := [18]) (by kernel_rfl) (by simp) ?_
                  refine AllReadyH.cons rfl (fun K hK => ?_) AllReadyH.nil
                  simp only [z1, z2, z3]
                  go_simp
                  refine HCA.out.mono ?_
                  rintro e w5 ⟨rfl, hB5⟩
                  have hX5 : Below wb.heap.size wb w5 := ((Below.refl wb.heap.size wb).drew).trans hB5
                  refine hK.out _ _ (HZ2.out w5 hX5) (fun hHeld => ?_)
                  clear hK K
                  try simp only [zz]
                  refine tk 19 rfl ?_; simp only [zz]
                  refine tk 20 rfl ?_; simp only [zz]
                  refine tk 21 rfl ?_; simp only [zz]
                  refine tk 22 rfl ?_; simp only [zz]
                  refine tk 23 rfl ?_; simp only [zz]
                  refine tk 24 rfl ?_; simp only [zz]
                  refine wpAnyH_ready (rs := [25]) (by kernel_rfl) (by simp) ?_
                  refine AllReadyH.cons rfl (fun K hK => ?_) AllReadyH.nil
                  simp only [z1, z2, z3]
                  go_simp
                  refine (HCB.out w5 hX5).mono ?_
                  rintro e w6 ⟨rfl, hB6⟩
                  have hX6 := below_step hX5 hX5.size hB6
                  refine hK.out _ _ (HZ2.out w6 hX6) (fun hHeld => ?_)
                  clear hK K
                  try simp only [zz]
                  refine tk 26 rfl ?_; simp only [zz]
                  refine tk 27 rfl ?_; simp only [zz]
                  refine tk 28 rfl ?_; simp only [zz]
                  refine tk 29 rfl ?_; simp only [zz]
                  refine tk 30 rfl ?_; simp only [zz]
                  refine tk 31 rfl ?_; simp only [zz]
                  refine tk 32 rfl ?_; simp only [zz]
                  refine tk 33 rfl ?_; simp only [zz]
                  refine wpAnyH_ready (rs := [34]) (by kernel_rfl) (by simp) ?_
                  refine AllReadyH.cons rfl (fun K hK => ?_) AllReadyH.nil
                  simp only [z1, z2, z3]
                  go_simp
                  refine (HCN.out w6 hX6).mono ?_
                  rintro e w7 ⟨rfl, hB7⟩
                  have hX7 := below_step hX6 hX6.size hB7
                  refine hK.out _ _ (HZ2.out w7 hX7) (fun hHeld => ?_)
                  clear hK K
                  try simp only [zz]
                  refine tk 35 rfl ?_; simp only [zz]
                  refine tk 36 rfl ?_; simp only [zz]
                  refine tk 37 rfl ?_; simp only [zz]
                  refine tk 38 rfl ?_; simp only [zz]
                  refine tk 39 rfl ?_; simp only [zz]
                  refine tk 40 rfl ?_; simp only [zz]
                  refine tk 41 rfl ?_; simp only [zz]
                  refine tk 42 rfl ?_; simp only [zz]
                  refine tk 43 rfl ?_; simp only [zz]
                  refine tk 44 rfl ?_; simp only [zz]
                  refine tk 45 rfl ?_; simp only [zz]
                  refine tk 46 rfl ?_; simp only [zz]
                  refine tk 47 rfl ?_; simp only [zz]
                  refine tk 48 rfl ?_; simp only [zz]
                  refine tk 49 rfl ?_; simp only [zz]
                  refine tk 50 rfl ?_; simp only [zz]
                  refine tk 51 rfl ?_; simp only [zz]
                  refine tk 52 rfl ?_; simp only [zz]
                  refine tk 53 rfl ?_; simp only [zz]
                  refine wpAnyH_done (by kernel_rfl) ?_ _
                  go_wp2_with fail
                  go_meet
                  exact ⟨by rw [HO.out]; rfl, hX7⟩
        · have d5 : pa ≤ qa := by omega
          have d6 : decide (pa ≤ qa) = true := decide_eq_true d5
          have HO : Hid (ok6 g kk = false) := by rw [Hid, HO5.out, hra, decide_eq_false hord]; rfl
          clear HO5 hra HCA0 HCB0 HCN0
          refine wp_region_held_drew (S := (fun w' => w'.cell? ⟨gb, 0, none⟩ = some (.int .i64 g.cells) ∧ w'.cell? ⟨gb, 1, none⟩ = some (.slice pe g.evs.length ce) ∧ w'.cell? ⟨gb, 2, none⟩ = some (Vr) ∧ w'.cell? ⟨gb, 3, none⟩ = some (Vc) ∧ w'.cell? ⟨gb, 4, none⟩ = some (.slice (some ⟨s2, o2, none⟩) g.rmw.length cr) ∧ w'.cell? ⟨gb, 5, none⟩ = some (Va) ∧ w'.cell? ⟨gb, 6, none⟩ = some (Vd) ∧ w'.cell? ⟨gb, 7, none⟩ = some (Vt) ∧ w'.cell? ⟨gp, 0, none⟩ = some (.int .i64 pa) ∧ w'.cell? ⟨gp, 1, none⟩ = some (.int .i64 pb) ∧ w'.cell? ⟨s2, o2 + jj * 2, none⟩ = some (.int .i64 qa))) (by kernel_rfl) (HZ1.out _ (Below.refl _ _).drew) (fun hHeld => ?_)
          refine tk 0 rfl ?_; simp only [zz]
          refine tk 1 rfl ?_; simp only [zz]
          refine tk 2 rfl ?_; simp only [zz]
          refine tk 3 rfl ?_; simp only [zz]
          refine tk 4 rfl ?_; simp only [zz]
          refine tk 5 rfl ?_; simp only [zz]
          refine tk 6 rfl ?_; simp only [zz]
          refine tk 7 rfl ?_; simp only [zz]
          refine tk 8 rfl ?_; simp only [zz]
          refine tk 9 rfl ?_; simp only [zz]
          refine tk 10 rfl ?_; simp only [zz]
          refine tk 11 rfl ?_; simp only [zz]
          refine tk 12 rfl ?_; simp only [zz]
          refine tk 13 rfl ?_; simp only [zz]
          refine tk 14 rfl ?_; simp only [zz]
          refine tu 15 rfl ?_; simp only [zz]
          refine tu 16 rfl ?_; simp only [zz]
          refine tu 17 rfl ?_; simp only [zz]
          refine tu 18 rfl ?_; simp only [zz]
          refine tu 19 rfl ?_; simp only [zz]
          refine tk 20 rfl ?_; simp only [zz]
          refine tk 21 rfl ?_; simp only [zz]
          refine tu 22 rfl ?_; simp only [zz]
          refine tu 23 rfl ?_; simp only [zz]
          refine tu 24 rfl ?_; simp only [zz]
          refine tu 25 rfl ?_; simp only [zz]
          refine tu 26 rfl ?_; simp only [zz]
          refine tk 27 rfl ?_; simp only [zz]
          refine tk 28 rfl ?_; simp only [zz]
          refine tu 29 rfl ?_; simp only [zz]
          refine tu 30 rfl ?_; simp only [zz]
          refine tu 31 rfl ?_; simp only [zz]
          refine tu 32 rfl ?_; simp only [zz]
          refine tu 33 rfl ?_; simp only [zz]
          refine tu 34 rfl ?_; simp only [zz]
          refine tu 35 rfl ?_; simp only [zz]
          refine tk 36 rfl ?_; simp only [zz]
          refine tk 37 rfl ?_; simp only [zz]
          refine tu 38 rfl ?_; simp only [zz]
          refine tu 39 rfl ?_; simp only [zz]
          refine tu 40 rfl ?_; simp only [zz]
          refine tu 41 rfl ?_; simp only [zz]
          refine tu 42 rfl ?_; simp only [zz]
          refine tu 43 rfl ?_; simp only [zz]
          refine tu 44 rfl ?_; simp only [zz]
          refine tu 45 rfl ?_; simp only [zz]
          refine tu 46 rfl ?_; simp only [zz]
          refine tu 47 rfl ?_; simp only [zz]
          refine tu 48 rfl ?_; simp only [zz]
          refine tu 49 rfl ?_; simp only [zz]
          refine tu 50 rfl ?_; simp only [zz]
          refine tu 51 rfl ?_; simp only [zz]
          refine tu 52 rfl ?_; simp only [zz]
          refine tk 53 rfl ?_; simp only [zz]
          refine wpAnyH_done (by kernel_rfl) ?_ _
          go_wp2_with fail
          go_meet
          exact ⟨by rw [HO.out]; rfl, (Below.refl _ _).drew⟩
    · obtain rfl : res = -1 := by rw [← HR.out]; exact bad6_all HTH.out (fun j hj => HALL.out j (by omega))
      go_wp2_with fail
      go_ret
      exact ⟨rfl, HBW.out⟩
end Go.Proofs.YthiijcappjaagaaGreatDoor
namespace Go.Proofs.YthiijcappjaagaaGreatDoor
open Go.RowKit Go.Shelf Sx
def refD (g : Gr) (l : List (Int × Int)) (i : Nat) : Bool := okDa true l i && (isB g.evs (l.getD i (0, 0)).1 [1] && befB g.evs (l.getD i (0, 0)).1 (l.getD i (0, 0)).2)
def KndOk (g : Gr) : Prop := ∀ i, i < g.evs.length → (g.ev i).k = 1 ∨ (g.ev i).k = 2 ∨ (g.ev i).k = 3
theorem knd_ok {g : Gr} {q : Bool} (h2 : bad2 g q = -1) (h3 : bad3 g q = -1) : KndOk g := fun i hi => by
  by_cases hc : ((i : Nat) : Int) < g.cells
  · rw [ok2_ev h2 hc]
    simp [iniEv]
  · have := ok3_ev h3 (by omega) hi
    unfold okEv at this
    simp at this
    omega
theorem okD_same {g : Gr} (ht : ThrOk g) (l : List (Int × Int)) (ks : List Int) (i : Nat) : (okDa true l i && okDb g.evs (l.getD i (0, 0)) ks) = (refD g l i && ks.contains (g.ev (l.getD i (0, 0)).2.toNat).k) := by
  unfold refD okDb
  generalize l.getD i (0, 0) = p
  obtain ⟨pa, pb⟩ := p
  dsimp only
  cases h1 : isB g.evs pa [1]
  · simp
  · obtain ⟨a, rfl, ha⟩ := isB_nat h1
    have hk : (g.ev a).k = 1 := by
      unfold isB at h1
      simp at h1
      exact h1.2
    by_cases hb : 0 ≤ pb ∧ pb < g.evs.length
    · obtain ⟨b, rfl⟩ : ∃ b : Nat, pb = (b : Int) := ⟨pb.toNat, by omega⟩
      rw [bef_po ht ha (by omega) hk, Int.toNat_natCast, Int.toNat_natCast]
      have : isB g.evs ((b : Nat) : Int) ks = ks.contains (g.ev b).k := by
        unfold isB
        rw [decide_eq_true hb.1, decide_eq_true hb.2, Int.toNat_natCast]
        rfl
      rw [this]
      cases okDa true l i <;> cases poB g.evs a b <;> cases ks.contains (g.ev b).k <;> rfl
    · have hi : isB g.evs pb ks = false := by
        cases e : isB g.evs pb ks
        · rfl
        · obtain ⟨b, rfl, hb'⟩ := isB_nat e
          exact absurd ⟨by omega, by omega⟩ hb
      have hbf : befB g.evs ((a : Nat) : Int) pb = false := by
        cases e : befB g.evs ((a : Nat) : Int) pb
        · rfl
        · obtain ⟨n, m, _, rfl, _, hm⟩ := befB_nat e
          exact absurd ⟨by omega, by omega⟩ hb
      rw [hi, hbf]
      simp
theorem cmpP_lt {qa qb pa pb : Int} : decide (cmpP (qa, qb) (pa, pb) < 0) = (decide (qa < pa) || (decide (qa = pa) && decide (qb < pb))) := by
  unfold cmpP orI cmpI
  dsimp only
  by_cases h1 : qa < pa
  · simp [h1]
  · by_cases h2 : pa < qa
    · have : ¬ qa = pa := by omega
      simp [h1, h2, this]
    · have : qa = pa := by omega
      subst this
      by_cases h3 : qb < pb
      · simp [h3]
      · by_cases h4 : pb < qb
        · simp [h3, h4]
        · simp [h3, h4]
def WhKs (wh : Int) (ks : List Int) : Prop := (wh = 7 ∧ ks = [1, 2]) ∨ (wh = 8 ∧ ks = [2]) ∨ (wh = 9 ∧ ks = [1, 2, 3])
set_option linter.unusedSimpArgs false in
set_option maxRecDepth 100000 in
set_option maxHeartbeats 16000000 in
theorem r8deps_calls (V : GrV) (g : Gr) (v : Value) (l : List (Int × Int)) (wh : Int) (ks : List Int) (w : World) (h : GrR w V g) (hv : PArg w v l) (hl256 : g.evs.length ≤ 256) (ht : ThrOk g) (hkd : KndOk g) (hwk : WhKs wh ks) :
    Calls Tryz.prog 45 #[V.val g, v, .int .i64 wh] w fun r w' => r = .returned (.int .i64 (badD g.evs true l ks)) ∧ Below w.heap.size w w' := by
  obtain ⟨Ve, Vr, Vc, Vm, Va, Vd, Vt⟩ := V
  obtain ⟨pe, ce, ee, hp, _⟩ := h.ev
  obtain ⟨pr, cr, er, hpr, hrl⟩ := parg_form hv
  dsimp only at ee er
  subst ee
  subst er
  have HP := hid_of hp
  have HPR := hid_of hpr
  have H := hid_of h
  have HKD := hid_of hkd
  have HWK := hid_of hwk
  generalize hr : badD g.evs true l ks = res
  have HR : Hid (fstBad (fun i => !(refD g l i && ks.contains (g.ev (l.getD i (0, 0)).2.toNat).k)) 0 l.length = res) := by
    rw [Hid, ← hr]
    unfold badD
    congr 1
    funext i
    rw [okD_same ht]
  have hB : Below w.heap.size w (w.alloc (.cells #[.int .i64 g.cells, .slice pe g.evs.length ce, Vr, Vc, Vm, Va, Vd, Vt] 26)) := (Below.refl _ _).alloc (Nat.le_refl _) _
  have hb := Blk.new w 26 #[.int .i64 g.cells, .slice pe g.evs.length ce, Vr, Vc, Vm, Va, Vd, Vt]
  unfold GrV.val
  dsimp only
  clear hr hp h hpr ht hv hkd hwk
  go_enter Tryz.func45, Tryz.ntmps45
  go_wp2_with fail
  have HB := hid_of hB
  have HG := hid_of hb
  generalize w.alloc (.cells #[.int .i64 g.cells, .slice pe g.evs.length ce, Vr, Vc, Vm, Va, Vd, Vt] 26) = W0 at *
  clear hb hB
  go_loopg [7] l.length (fun f v3 wr => ∃ kk : Nat, v3 = .int .i64 ((kk : Nat) : Int) ∧ kk ≤ l.length ∧ Hid (kk + f = l.length) ∧ Hid (∀ j, 0 ≤ j → j < kk → (!(refD g l j && ks.contains (g.ev (l.getD j (0, 0)).2.toNat).k)) = false) ∧ Hid (Below W0.heap.size W0 wr))
  case atStart => exact ⟨0, rfl, Nat.zero_le _, Nat.zero_add _, (fun j _ h => by omega), Below.refl _ _⟩
  case round =>
    obtain ⟨kk, rfl, hk0, HKF, HALL, HW⟩ := hrel
    have HBW : Hid (Below w.heap.size w wr) := below_step HB.out HB.out.size HW.out
    by_cases hkl : kk < l.length
    · obtain ⟨s2, o2, rfl, hat2⟩ := HPR.out (by omega)
      obtain ⟨⟨pa, pb⟩, hx⟩ : ∃ x, l[kk]? = some x := ⟨_, List.getElem?_eq_getElem hkl⟩
      have y0 := (hat2.below HBW.out).fst kk _ hx
      have y1 := (hat2.below HBW.out).snd kk _ hx
      dsimp only at y0 y1
      have K0 : (0 : Int) ≤ ((kk : Nat) : Int) := by omega
      have K1 : ((kk : Nat) : Int) < ((l.length : Nat) : Int) := by omega
      have hgd : l.getD kk (0, 0) = (pa, pb) := by rw [List.getD_eq_getElem?_getD, hx]; rfl
      have HGD := hid_of hgd
      have HBAD : Hid ((refD g l kk && ks.contains (g.ev pb.toNat).k) = false → res = ((kk : Nat) : Int)) := fun h => by
        rw [← HR.out]
        exact fstBad_hit (Nat.zero_le kk) (by omega) HALL.out (by rw [hgd, h]; rfl)
      have HNX : Hid ((refD g l kk && ks.contains (g.ev pb.toNat).k) = true → ∀ j, 0 ≤ j → j < kk + 1 → (!(refD g l j && ks.contains (g.ev (l.getD j (0, 0)).2.toNat).k)) = false) := fun h j h0 hj => by
        by_cases e : j = kk
        · rw [e, hgd, h]; rfl
        · exact HALL.out j h0 (by omega)
      have HO5 : Hid (refD g l kk = (okDa true l kk && (isB g.evs pa [1] && befB g.evs pa pb))) := by
        rw [Hid]
        unfold refD
        rw [hgd]
      have HAT2 := hid_of hat2
      clear hx hgd hat2
      go_upto_region 5 with fail
      have hgp := Blk.new wr 77 #[.int .i64 pa, .int .i64 pb]
      have hBp : Below wr.heap.size wr (wr.alloc (.cells #[.int .i64 pa, .int .i64 pb] 77)) := (Below.refl _ _).alloc (Nat.le_refl _) _
      have HGb := hid_of ((HG.out.of_below HW.out).alloc (.cells #[.int .i64 pa, .int .i64 pb] 77))
      have HBb : Hid (Below w.heap.size w (wr.alloc (.cells #[.int .i64 pa, .int .i64 pb] 77))) := below_step HBW.out HBW.out.size hBp
      have HWb : Hid (Below W0.heap.size W0 (wr.alloc (.cells #[.int .i64 pa, .int .i64 pb] 77))) := below_step HW.out HW.out.size hBp
      have HGP := hid_of hgp
      clear hgp hBp y0 y1
      generalize wr.alloc (.cells #[.int .i64 pa, .int .i64 pb] 77) = wb at *
      generalize wr.heap.size = gp at *
      have HA2b := hid_of (HAT2.out.below HBb.out)
      have hcA := r8is_calls _ g pa 1 wb.drew (H.out.below HBb.out.drew)
      have hcN := fun W (hW : Below wb.heap.size wb W) => r8before_calls _ g pa pb W (H.out.below (below_step HBb.out HBb.out.size hW))
      unfold GrV.val at hcA hcN
      dsimp only at hcA hcN
      have HCA0 := hid_of hcA
      have HCN0 := hid_of hcN
      clear hcA hcN
      generalize hgbn : w.heap.size = gb at *
      have HZ : Hid (∀ W, Below wb.heap.size wb W → W.cell? ⟨gb, 0, none⟩ = some (.int .i64 g.cells) ∧ W.cell? ⟨gb, 1, none⟩ = some (.slice pe g.evs.length ce) ∧ W.cell? ⟨gb, 2, none⟩ = some (Vr) ∧ W.cell? ⟨gb, 3, none⟩ = some (Vc) ∧ W.cell? ⟨gb, 4, none⟩ = some (Vm) ∧ W.cell? ⟨gb, 5, none⟩ = some (Va) ∧ W.cell? ⟨gb, 6, none⟩ = some (Vd) ∧ W.cell? ⟨gb, 7, none⟩ = some (Vt) ∧ W.cell? ⟨gp, 0, none⟩ = some (.int .i64 pa) ∧ W.cell? ⟨gp, 1, none⟩ = some (.int .i64 pb)) := fun W hW => ⟨(HGb.out.of_below hW).cell rfl, (HGb.out.of_below hW).cell rfl, (HGb.out.of_below hW).cell rfl, (HGb.out.of_below hW).cell rfl, (HGb.out.of_below hW).cell rfl, (HGb.out.of_below hW).cell rfl, (HGb.out.of_below hW).cell rfl, (HGb.out.of_below hW).cell rfl, (HGP.out.of_below hW).cell rfl, (HGP.out.of_below hW).cell rfl⟩
      go_cut [70] (fun v70 wx => v70 = .bool (!(refD g l kk)) ∧ Hid (Below wb.heap.size wb wx))
      case rest =>
        obtain ⟨rfl, HX⟩ := hcut
        generalize hwz : wc = wz at *
        clear hwz
        have HXW : Hid (Below gb w wz) := HBb.out.trans (HX.out.mono (by rw [← hgbn]; exact HBb.out.size))
        cases hok : refD g l kk
        · obtain rfl := HBAD.out (by rw [hok]; rfl)
          clear hok
          go_wp2_with fail
          go_ret
          exact ⟨rfl, HXW.out⟩
        · rw [hok, Bool.true_and] at HBAD HNX
          have hbf : befB g.evs pa pb = true := by
            have := HO5.out
            rw [hok] at this
            cases e : befB g.evs pa pb
            · rw [e] at this; simp at this
            · rfl
          obtain ⟨n, m, rfl, rfl, _, hm⟩ := befB_nat hbf
          rw [Int.toNat_natCast] at HBAD HNX
          obtain ⟨s, o, rfl, hat⟩ := HP.out (by omega)
          have x1 := (hat.below (by rw [hgbn]; exact HXW.out)).c1 m _ (Gr.ev_at hm)
          have c1 : wz.cell? ⟨gb, 1, none⟩ = some (.slice (some ⟨s, o, none⟩) g.evs.length ce) := (HGb.out.of_below HX.out).cell rfl
          have p1 : wz.cell? ⟨gp, 1, none⟩ = some (.int .i64 ((m : Nat) : Int)) := (HGP.out.of_below HX.out).cell rfl
          have M0 : (0 : Int) ≤ ((m : Nat) : Int) := by omega
          have M1 : ((m : Nat) : Int) < ((g.evs.length : Nat) : Int) := by omega
          have hkk := HKD.out m hm
          clear hat hok hbf HO5
          generalize (g.ev m).k = km at *
          have HFIN : Hid (Below W0.heap.size W0 wz) := HWb.out.trans (HX.out.mono HWb.out.size)
          rcases HWK.out with ⟨rfl, rfl⟩ | ⟨rfl, rfl⟩ | ⟨rfl, rfl⟩ <;> rcases hkk with rfl | rfl | rfl
          · have HNX2 := hid_of (HNX.out (by decide))
            clear HNX HBAD
            go_wp2_with fail
            go_roundg (l.length - (kk + 1))
            case measure => have := HKF.out; omega
            case rel => exact ⟨kk + 1, by go_num, by omega, by have := HKF.out; rw [Hid]; omega, HNX2.out, HFIN.out⟩
          · have HNX2 := hid_of (HNX.out (by decide))
            clear HNX HBAD
            go_wp2_with fail
            go_roundg (l.length - (kk + 1))
            case measure => have := HKF.out; omega
            case rel => exact ⟨kk + 1, by go_num, by omega, by have := HKF.out; rw [Hid]; omega, HNX2.out, HFIN.out⟩
          · obtain rfl := HBAD.out (by decide)
            clear HNX
            go_wp2_with fail
            go_ret
            exact ⟨rfl, HXW.out⟩
          · obtain rfl := HBAD.out (by decide)
            clear HNX
            go_wp2_with fail
            go_ret
            exact ⟨rfl, HXW.out⟩
          · have HNX2 := hid_of (HNX.out (by decide))
            clear HNX HBAD
            go_wp2_with fail
            go_roundg (l.length - (kk + 1))
            case measure => have := HKF.out; omega
            case rel => exact ⟨kk + 1, by go_num, by omega, by have := HKF.out; rw [Hid]; omega, HNX2.out, HFIN.out⟩
          · obtain rfl := HBAD.out (by decide)
            clear HNX
            go_wp2_with fail
            go_ret
            exact ⟨rfl, HXW.out⟩
          · have HNX2 := hid_of (HNX.out (by decide))
            clear HNX HBAD
            go_wp2_with fail
            go_roundg (l.length - (kk + 1))
            case measure => have := HKF.out; omega
            case rel => exact ⟨kk + 1, by go_num, by omega, by have := HKF.out; rw [Hid]; omega, HNX2.out, HFIN.out⟩
          · have HNX2 := hid_of (HNX.out (by decide))
            clear HNX HBAD
            go_wp2_with fail
            go_roundg (l.length - (kk + 1))
            case measure => have := HKF.out; omega
            case rel => exact ⟨kk + 1, by go_num, by omega, by have := HKF.out; rw [Hid]; omega, HNX2.out, HFIN.out⟩
          · have HNX2 := hid_of (HNX.out (by decide))
            clear HNX HBAD
            go_wp2_with fail
            go_roundg (l.length - (kk + 1))
            case measure => have := HKF.out; omega
            case rel => exact ⟨kk + 1, by go_num, by omega, by have := HKF.out; rw [Hid]; omega, HNX2.out, HFIN.out⟩
      case first =>
      by_cases hkz : kk = 0
      · subst hkz
        have HO6 : Hid (refD g l 0 = (isB g.evs pa [1] && befB g.evs pa pb)) := by rw [Hid, HO5.out, okDa]; simp
        clear HO5
        cases hia : isB g.evs pa [1]
        · rw [hia] at HCA0
          have HCA := HCA0
          have HO : Hid (refD g l 0 = false) := by rw [Hid, HO6.out, hia]; simp
          clear HCA0 HCN0 hia
          refine wp_region_held_drew (S := (fun w' => w'.cell? ⟨gb, 0, none⟩ = some (.int .i64 g.cells) ∧ w'.cell? ⟨gb, 1, none⟩ = some (.slice pe g.evs.length ce) ∧ w'.cell? ⟨gb, 2, none⟩ = some (Vr) ∧ w'.cell? ⟨gb, 3, none⟩ = some (Vc) ∧ w'.cell? ⟨gb, 4, none⟩ = some (Vm) ∧ w'.cell? ⟨gb, 5, none⟩ = some (Va) ∧ w'.cell? ⟨gb, 6, none⟩ = some (Vd) ∧ w'.cell? ⟨gb, 7, none⟩ = some (Vt) ∧ w'.cell? ⟨gp, 0, none⟩ = some (.int .i64 pa) ∧ w'.cell? ⟨gp, 1, none⟩ = some (.int .i64 pb))) (by kernel_rfl) (HZ.out _ (Below.refl _ _).drew) (fun hHeld => ?_)
          refine tk 0 rfl ?_; simp only [zz]
          refine tk 1 rfl ?_; simp only [zz]
          refine tk 2 rfl ?_; simp only [zz]
          refine tu 3 rfl ?_; simp only [zz]
          refine tu 4 rfl ?_; simp only [zz]
          refine tu 5 rfl ?_; simp only [zz]
          refine tu 6 rfl ?_; simp only [zz]
          refine tu 7 rfl ?_; simp only [zz]
          refine tu 8 rfl ?_; simp only [zz]
          refine tu 9 rfl ?_; simp only [zz]
          refine tu 10 rfl ?_; simp only [zz]
          refine tu 11 rfl ?_; simp only [zz]
          refine tu 12 rfl ?_; simp only [zz]
          refine tu 13 rfl ?_; simp only [zz]
          refine tu 14 rfl ?_; simp only [zz]
          refine tu 15 rfl ?_; simp only [zz]
          refine tu 16 rfl ?_; simp only [zz]
          refine tu 17 rfl ?_; simp only [zz]
          refine tu 18 rfl ?_; simp only [zz]
          refine tu 19 rfl ?_; simp only [zz]
          refine tu 20 rfl ?_; simp only [zz]
          refine tu 21 rfl ?_; simp only [zz]
          refine tu 22 rfl ?_; simp only [zz]
          refine tu 23 rfl ?_; simp only [zz]
          refine tu 24 rfl ?_; simp only [zz]
          refine tu 25 rfl ?_; simp only [zz]
          refine tu 26 rfl ?_; simp only [zz]
          refine tu 27 rfl ?_; simp only [zz]
          refine tu 28 rfl ?_; simp only [zz]
          refine tu 29 rfl ?_; simp only [zz]
          refine tu 30 rfl ?_; simp only [zz]
          refine tu 31 rfl ?_; simp only [zz]
          refine tu 32 rfl ?_; simp only [zz]
          refine tu 33 rfl ?_; simp only [zz]
          refine tk 34 rfl ?_; simp only [zz]
          refine tk 35 rfl ?_; simp only [zz]
          refine tk 36 rfl ?_; simp only [zz]
          refine tk 37 rfl ?_; simp only [zz]
          refine tk 38 rfl ?_; simp only [zz]
          refine wpAnyH_ready (rs := [39]) (by kernel_rfl) (by simp) ?_
          refine AllReadyH.cons rfl (fun K hK => ?_) AllReadyH.nil
          simp only [z1, z2, z3]
          go_simp
          refine HCA.out.mono ?_
          rintro e w5 ⟨rfl, hB5⟩
          have hX5 : Below wb.heap.size wb w5 := ((Below.refl wb.heap.size wb).drew).trans hB5
          refine hK.out _ _ (HZ.out w5 hX5) (fun hHeld => ?_)
          clear hK K
          try simp only [zz]
          refine tk 40 rfl ?_; simp only [zz]
          refine tk 41 rfl ?_; simp only [zz]
          refine tk 42 rfl ?_; simp only [zz]
          refine tu 43 rfl ?_; simp only [zz]
          refine tu 44 rfl ?_; simp only [zz]
          refine tu 45 rfl ?_; simp only [zz]
          refine tu 46 rfl ?_; simp only [zz]
          refine tu 47 rfl ?_; simp only [zz]
          refine tu 48 rfl ?_; simp only [zz]
          refine tu 49 rfl ?_; simp only [zz]
          refine tk 50 rfl ?_; simp only [zz]
          refine wpAnyH_done (by kernel_rfl) ?_ _
          go_wp2_with fail
          go_meet
          exact ⟨by rw [HO.out]; rfl, hX5⟩
        · rw [hia] at HCA0
          have HCA := HCA0
          cases hnx : befB g.evs pa pb
          · rw [hnx] at HCN0
            have HCN := HCN0
            have HO : Hid (refD g l 0 = false) := by rw [Hid, HO6.out, hia, hnx]; rfl
            clear HCA0 HCN0 hia hnx
            refine wp_region_held_drew (S := (fun w' => w'.cell? ⟨gb, 0, none⟩ = some (.int .i64 g.cells) ∧ w'.cell? ⟨gb, 1, none⟩ = some (.slice pe g.evs.length ce) ∧ w'.cell? ⟨gb, 2, none⟩ = some (Vr) ∧ w'.cell? ⟨gb, 3, none⟩ = some (Vc) ∧ w'.cell? ⟨gb, 4, none⟩ = some (Vm) ∧ w'.cell? ⟨gb, 5, none⟩ = some (Va) ∧ w'.cell? ⟨gb, 6, none⟩ = some (Vd) ∧ w'.cell? ⟨gb, 7, none⟩ = some (Vt) ∧ w'.cell? ⟨gp, 0, none⟩ = some (.int .i64 pa) ∧ w'.cell? ⟨gp, 1, none⟩ = some (.int .i64 pb))) (by kernel_rfl) (HZ.out _ (Below.refl _ _).drew) (fun hHeld => ?_)
            refine tk 0 rfl ?_; simp only [zz]
            refine tk 1 rfl ?_; simp only [zz]
            refine tk 2 rfl ?_; simp only [zz]
            refine tu 3 rfl ?_; simp only [zz]
            refine tu 4 rfl ?_; simp only [zz]
            refine tu 5 rfl ?_; simp only [zz]
            refine tu 6 rfl ?_; simp only [zz]
            refine tu 7 rfl ?_; simp only [zz]
            refine tu 8 rfl ?_; simp only [zz]
            refine tu 9 rfl ?_; simp only [zz]
            refine tu 10 rfl ?_; simp only [zz]
            refine tu 11 rfl ?_; simp only [zz]
            refine tu 12 rfl ?_; simp only [zz]
            refine tu 13 rfl ?_; simp only [zz]
            refine tu 14 rfl ?_; simp only [zz]
            refine tu 15 rfl ?_; simp only [zz]
            refine tu 16 rfl ?_; simp only [zz]
            refine tu 17 rfl ?_; simp only [zz]
            refine tu 18 rfl ?_; simp only [zz]
            refine tu 19 rfl ?_; simp only [zz]
            refine tu 20 rfl ?_; simp only [zz]
            refine tu 21 rfl ?_; simp only [zz]
            refine tu 22 rfl ?_; simp only [zz]
            refine tu 23 rfl ?_; simp only [zz]
            refine tu 24 rfl ?_; simp only [zz]
            refine tu 25 rfl ?_; simp only [zz]
            refine tu 26 rfl ?_; simp only [zz]
            refine tu 27 rfl ?_; simp only [zz]
            refine tu 28 rfl ?_; simp only [zz]
            refine tu 29 rfl ?_; simp only [zz]
            refine tu 30 rfl ?_; simp only [zz]
            refine tu 31 rfl ?_; simp only [zz]
            refine tu 32 rfl ?_; simp only [zz]
            refine tu 33 rfl ?_; simp only [zz]
            refine tk 34 rfl ?_; simp only [zz]
            refine tk 35 rfl ?_; simp only [zz]
            refine tk 36 rfl ?_; simp only [zz]
            refine tk 37 rfl ?_; simp only [zz]
            refine tk 38 rfl ?_; simp only [zz]
            refine wpAnyH_ready (rs := [39]) (by kernel_rfl) (by simp) ?_
            refine AllReadyH.cons rfl (fun K hK => ?_) AllReadyH.nil
            simp only [z1, z2, z3]
            go_simp
            refine HCA.out.mono ?_
            rintro e w5 ⟨rfl, hB5⟩
            have hX5 : Below wb.heap.size wb w5 := ((Below.refl wb.heap.size wb).drew).trans hB5
            refine hK.out _ _ (HZ.out w5 hX5) (fun hHeld => ?_)
            clear hK K
            try simp only [zz]
            refine tk 40 rfl ?_; simp only [zz]
            refine tk 41 rfl ?_; simp only [zz]
            refine tk 42 rfl ?_; simp only [zz]
            refine tk 43 rfl ?_; simp only [zz]
            refine tk 44 rfl ?_; simp only [zz]
            refine tk 45 rfl ?_; simp only [zz]
            refine tk 46 rfl ?_; simp only [zz]
            refine tk 47 rfl ?_; simp only [zz]
            refine wpAnyH_ready (rs := [48]) (by kernel_rfl) (by simp) ?_
            refine AllReadyH.cons rfl (fun K hK => ?_) AllReadyH.nil
            simp only [z1, z2, z3]
            go_simp
            refine (HCN.out w5 hX5).mono ?_
            rintro e w6 ⟨rfl, hB6⟩
            have hX6 := below_step hX5 hX5.size hB6
            refine hK.out _ _ (HZ.out w6 hX6) (fun hHeld => ?_)
            clear hK K
            try simp only [zz]
            refine tk 49 rfl ?_; simp only [zz]
            refine tk 50 rfl ?_; simp only [zz]
            refine wpAnyH_done (by kernel_rfl) ?_ _
            go_wp2_with fail
            go_meet
            exact ⟨by rw [HO.out]; rfl, hX6⟩
          · rw [hnx] at HCN0
            have HCN := HCN0
            have HO : Hid (refD g l 0 = true) := by rw [Hid, HO6.out, hia, hnx]; rfl
            clear HCA0 HCN0 hia hnx
            refine wp_region_held_drew (S := (fun w' => w'.cell? ⟨gb, 0, none⟩ = some (.int .i64 g.cells) ∧ w'.cell? ⟨gb, 1, none⟩ = some (.slice pe g.evs.length ce) ∧ w'.cell? ⟨gb, 2, none⟩ = some (Vr) ∧ w'.cell? ⟨gb, 3, none⟩ = some (Vc) ∧ w'.cell? ⟨gb, 4, none⟩ = some (Vm) ∧ w'.cell? ⟨gb, 5, none⟩ = some (Va) ∧ w'.cell? ⟨gb, 6, none⟩ = some (Vd) ∧ w'.cell? ⟨gb, 7, none⟩ = some (Vt) ∧ w'.cell? ⟨gp, 0, none⟩ = some (.int .i64 pa) ∧ w'.cell? ⟨gp, 1, none⟩ = some (.int .i64 pb))) (by kernel_rfl) (HZ.out _ (Below.refl _ _).drew) (fun hHeld => ?_)
            refine tk 0 rfl ?_; simp only [zz]
            refine tk 1 rfl ?_; simp only [zz]
            refine tk 2 rfl ?_; simp only [zz]
            refine tu 3 rfl ?_; simp only [zz]
            refine tu 4 rfl ?_; simp only [zz]
            refine tu 5 rfl ?_; simp only [zz]
            refine tu 6 rfl ?_; simp only [zz]
            refine tu 7 rfl ?_; simp only [zz]
            refine tu 8 rfl ?_; simp only [zz]
            refine tu 9 rfl ?_; simp only [zz]
            refine tu 10 rfl ?_; simp only [zz]
            refine tu 11 rfl ?_; simp only [zz]
            refine tu 12 rfl ?_; simp only [zz]
            refine tu 13 rfl ?_; simp only [zz]
            refine tu 14 rfl ?_; simp only [zz]
            refine tu 15 rfl ?_; simp only [zz]
            refine tu 16 rfl ?_; simp only [zz]
            refine tu 17 rfl ?_; simp only [zz]
            refine tu 18 rfl ?_; simp only [zz]
            refine tu 19 rfl ?_; simp only [zz]
            refine tu 20 rfl ?_; simp only [zz]
            refine tu 21 rfl ?_; simp only [zz]
            refine tu 22 rfl ?_; simp only [zz]
            refine tu 23 rfl ?_; simp only [zz]
            refine tu 24 rfl ?_; simp only [zz]
            refine tu 25 rfl ?_; simp only [zz]
            refine tu 26 rfl ?_; simp only [zz]
            refine tu 27 rfl ?_; simp only [zz]
            refine tu 28 rfl ?_; simp only [zz]
            refine tu 29 rfl ?_; simp only [zz]
            refine tu 30 rfl ?_; simp only [zz]
            refine tu 31 rfl ?_; simp only [zz]
            refine tu 32 rfl ?_; simp only [zz]
            refine tu 33 rfl ?_; simp only [zz]
            refine tk 34 rfl ?_; simp only [zz]
            refine tk 35 rfl ?_; simp only [zz]
            refine tk 36 rfl ?_; simp only [zz]
            refine tk 37 rfl ?_; simp only [zz]
            refine tk 38 rfl ?_; simp only [zz]
            refine wpAnyH_ready (rs := [39]) (by kernel_rfl) (by simp) ?_
            refine AllReadyH.cons rfl (fun K hK => ?_) AllReadyH.nil
            simp only [z1, z2, z3]
            go_simp
            refine HCA.out.mono ?_
            rintro e w5 ⟨rfl, hB5⟩
            have hX5 : Below wb.heap.size wb w5 := ((Below.refl wb.heap.size wb).drew).trans hB5
            refine hK.out _ _ (HZ.out w5 hX5) (fun hHeld => ?_)
            clear hK K
            try simp only [zz]
            refine tk 40 rfl ?_; simp only [zz]
            refine tk 41 rfl ?_; simp only [zz]
            refine tk 42 rfl ?_; simp only [zz]
            refine tk 43 rfl ?_; simp only [zz]
            refine tk 44 rfl ?_; simp only [zz]
            refine tk 45 rfl ?_; simp only [zz]
            refine tk 46 rfl ?_; simp only [zz]
            refine tk 47 rfl ?_; simp only [zz]
            refine wpAnyH_ready (rs := [48]) (by kernel_rfl) (by simp) ?_
            refine AllReadyH.cons rfl (fun K hK => ?_) AllReadyH.nil
            simp only [z1, z2, z3]
            go_simp
            refine (HCN.out w5 hX5).mono ?_
            rintro e w6 ⟨rfl, hB6⟩
            have hX6 := below_step hX5 hX5.size hB6
            refine hK.out _ _ (HZ.out w6 hX6) (fun hHeld => ?_)
            clear hK K
            try simp only [zz]
            refine tk 49 rfl ?_; simp only [zz]
            refine tk 50 rfl ?_; simp only [zz]
            refine wpAnyH_done (by kernel_rfl) ?_ _
            go_wp2_with fail
            go_meet
            exact ⟨by rw [HO.out]; rfl, hX6⟩
      · obtain ⟨jj, HJJ⟩ : ∃ jj : Nat, Hid (kk = jj + 1) := ⟨kk - 1, by rw [Hid]; omega⟩
        have hj1 : ((kk : Nat) : Int) - 1 = ((jj : Nat) : Int) := by have := HJJ.out; omega
        have hjl : jj < l.length := by have := HJJ.out; omega
        obtain ⟨⟨qa, qb⟩, hx⟩ : ∃ x, l[jj]? = some x := ⟨_, List.getElem?_eq_getElem hjl⟩
        have zq := HA2b.out.fst jj _ hx
        have zr := HA2b.out.snd jj _ hx
        dsimp only at zq zr
        have hs2 := HA2b.out.lt
        have J0 : (0 : Int) ≤ ((jj : Nat) : Int) := by omega
        have J1 : ((jj : Nat) : Int) < ((l.length : Nat) : Int) := by omega
        have KP : 0 < kk := by omega
        have KP0 : (0 : Int) < ((kk : Nat) : Int) := by omega
        have jd : decide ((0 : Int) < ((kk : Nat) : Int)) = true := decide_eq_true (by omega)
        have jw : IntKind.i64.wrap ((jj : Nat) : Int) = ((jj : Nat) : Int) := wrap_small' (by have := HJJ.out; omega)
        have hra : okDa true l kk = (decide (qa < pa) || (decide (qa = pa) && decide (qb < pb))) := by
          unfold okDa
          rw [HGD.out, show kk - 1 = jj by have := HJJ.out; omega, List.getD_eq_getElem?_getD, hx]
          simp only [Option.getD_some, Bool.true_and, cmpP_lt]
          simp [hkz]
        have HZ1 : Hid (∀ W, Below wb.heap.size wb W → W.cell? ⟨gb, 0, none⟩ = some (.int .i64 g.cells) ∧ W.cell? ⟨gb, 1, none⟩ = some (.slice pe g.evs.length ce) ∧ W.cell? ⟨gb, 2, none⟩ = some (Vr) ∧ W.cell? ⟨gb, 3, none⟩ = some (Vc) ∧ W.cell? ⟨gb, 4, none⟩ = some (Vm) ∧ W.cell? ⟨gb, 5, none⟩ = some (Va) ∧ W.cell? ⟨gb, 6, none⟩ = some (Vd) ∧ W.cell? ⟨gb, 7, none⟩ = some (Vt) ∧ W.cell? ⟨gp, 0, none⟩ = some (.int .i64 pa) ∧ W.cell? ⟨gp, 1, none⟩ = some (.int .i64 pb) ∧ W.cell? ⟨s2, o2 + jj * 2, none⟩ = some (.int .i64 qa) ∧ W.cell? ⟨s2, o2 + jj * 2 + 1, none⟩ = some (.int .i64 qb)) := fun W hW => by
          obtain ⟨a0, a1, a2, a3, a4, a5, a6, a7, a8, a9⟩ := HZ.out W hW
          exact ⟨a0, a1, a2, a3, a4, a5, a6, a7, a8, a9, (hW.cell (p := ⟨s2, o2 + jj * 2, none⟩) hs2).trans zq, (hW.cell (p := ⟨s2, o2 + jj * 2 + 1, none⟩) hs2).trans zr⟩
        clear hx zq zr
        by_cases h1 : pa < qa
        · have d5 : decide (pa < qa) = true := decide_eq_true h1
          have HO : Hid (refD g l kk = false) := by rw [Hid, HO5.out, hra, decide_eq_false (show ¬ qa < pa by omega), decide_eq_false (show ¬ qa = pa by omega)]; rfl
          clear HO5 hra HCA0 HCN0
          refine wp_region_held_drew (S := (fun w' => w'.cell? ⟨gb, 0, none⟩ = some (.int .i64 g.cells) ∧ w'.cell? ⟨gb, 1, none⟩ = some (.slice pe g.evs.length ce) ∧ w'.cell? ⟨gb, 2, none⟩ = some (Vr) ∧ w'.cell? ⟨gb, 3, none⟩ = some (Vc) ∧ w'.cell? ⟨gb, 4, none⟩ = some (Vm) ∧ w'.cell? ⟨gb, 5, none⟩ = some (Va) ∧ w'.cell? ⟨gb, 6, none⟩ = some (Vd) ∧ w'.cell? ⟨gb, 7, none⟩ = some (Vt) ∧ w'.cell? ⟨gp, 0, none⟩ = some (.int .i64 pa) ∧ w'.cell? ⟨gp, 1, none⟩ = some (.int .i64 pb) ∧ w'.cell? ⟨s2, o2 + jj * 2, none⟩ = some (.int .i64 qa) ∧ w'.cell? ⟨s2, o2 + jj * 2 + 1, none⟩ = some (.int .i64 qb))) (by kernel_rfl) (HZ1.out _ (Below.refl _ _).drew) (fun hHeld => ?_)
          refine tk 0 rfl ?_; simp only [zz]
          refine tk 1 rfl ?_; simp only [zz]
          refine tk 2 rfl ?_; simp only [zz]
          refine tk 3 rfl ?_; simp only [zz]
          refine tk 4 rfl ?_; simp only [zz]
          refine tk 5 rfl ?_; simp only [zz]
          refine tk 6 rfl ?_; simp only [zz]
          refine tk 7 rfl ?_; simp only [zz]
          refine tk 8 rfl ?_; simp only [zz]
          refine tk 9 rfl ?_; simp only [zz]
          refine tk 10 rfl ?_; simp only [zz]
          refine tk 11 rfl ?_; simp only [zz]
          refine tk 12 rfl ?_; simp only [zz]
          refine tu 13 rfl ?_; simp only [zz]
          refine tu 14 rfl ?_; simp only [zz]
          refine tu 15 rfl ?_; simp only [zz]
          refine tu 16 rfl ?_; simp only [zz]
          refine tu 17 rfl ?_; simp only [zz]
          refine tu 18 rfl ?_; simp only [zz]
          refine tu 19 rfl ?_; simp only [zz]
          refine tu 20 rfl ?_; simp only [zz]
          refine tu 21 rfl ?_; simp only [zz]
          refine tu 22 rfl ?_; simp only [zz]
          refine tu 23 rfl ?_; simp only [zz]
          refine tu 24 rfl ?_; simp only [zz]
          refine tu 25 rfl ?_; simp only [zz]
          refine tu 26 rfl ?_; simp only [zz]
          refine tu 27 rfl ?_; simp only [zz]
          refine tu 28 rfl ?_; simp only [zz]
          refine tu 29 rfl ?_; simp only [zz]
          refine tu 30 rfl ?_; simp only [zz]
          refine tu 31 rfl ?_; simp only [zz]
          refine tu 32 rfl ?_; simp only [zz]
          refine tk 33 rfl ?_; simp only [zz]
          refine tk 34 rfl ?_; simp only [zz]
          refine tk 35 rfl ?_; simp only [zz]
          refine tu 36 rfl ?_; simp only [zz]
          refine tu 37 rfl ?_; simp only [zz]
          refine tu 38 rfl ?_; simp only [zz]
          refine tu 39 rfl ?_; simp only [zz]
          refine tu 40 rfl ?_; simp only [zz]
          refine tk 41 rfl ?_; simp only [zz]
          refine tk 42 rfl ?_; simp only [zz]
          refine tu 43 rfl ?_; simp only [zz]
          refine tu 44 rfl ?_; simp only [zz]
          refine tu 45 rfl ?_; simp only [zz]
          refine tu 46 rfl ?_; simp only [zz]
          refine tu 47 rfl ?_; simp only [zz]
          refine tu 48 rfl ?_; simp only [zz]
          refine tu 49 rfl ?_; simp only [zz]
          refine tk 50 rfl ?_; simp only [zz]
          refine wpAnyH_done (by kernel_rfl) ?_ _
          go_wp2_with fail
          go_meet
          exact ⟨by rw [HO.out]; rfl, (Below.refl _ _).drew⟩
        · have d5 : decide (pa < qa) = false := decide_eq_false h1
          by_cases h2 : pa = qa
          · have q2 : ((pa : Int) == qa) = true := by rw [beq_iff_eq]; exact h2
            by_cases h3 : pb ≤ qb
            · have d7 : decide (pb ≤ qb) = true := decide_eq_true h3
              have HO : Hid (refD g l kk = false) := by rw [Hid, HO5.out, hra, decide_eq_false (show ¬ qa < pa by omega), decide_eq_false (show ¬ qb < pb by omega)]; simp
              clear HO5 hra HCA0 HCN0 h2
              refine wp_region_held_drew (S := (fun w' => w'.cell? ⟨gb, 0, none⟩ = some (.int .i64 g.cells) ∧ w'.cell? ⟨gb, 1, none⟩ = some (.slice pe g.evs.length ce) ∧ w'.cell? ⟨gb, 2, none⟩ = some (Vr) ∧ w'.cell? ⟨gb, 3, none⟩ = some (Vc) ∧ w'.cell? ⟨gb, 4, none⟩ = some (Vm) ∧ w'.cell? ⟨gb, 5, none⟩ = some (Va) ∧ w'.cell? ⟨gb, 6, none⟩ = some (Vd) ∧ w'.cell? ⟨gb, 7, none⟩ = some (Vt) ∧ w'.cell? ⟨gp, 0, none⟩ = some (.int .i64 pa) ∧ w'.cell? ⟨gp, 1, none⟩ = some (.int .i64 pb) ∧ w'.cell? ⟨s2, o2 + jj * 2, none⟩ = some (.int .i64 qa) ∧ w'.cell? ⟨s2, o2 + jj * 2 + 1, none⟩ = some (.int .i64 qb))) (by kernel_rfl) (HZ1.out _ (Below.refl _ _).drew) (fun hHeld => ?_)
              refine tk 0 rfl ?_; simp only [zz]
              refine tk 1 rfl ?_; simp only [zz]
              refine tk 2 rfl ?_; simp only [zz]
              refine tk 3 rfl ?_; simp only [zz]
              refine tk 4 rfl ?_; simp only [zz]
              refine tk 5 rfl ?_; simp only [zz]
              refine tk 6 rfl ?_; simp only [zz]
              refine tk 7 rfl ?_; simp only [zz]
              refine tk 8 rfl ?_; simp only [zz]
              refine tk 9 rfl ?_; simp only [zz]
              refine tk 10 rfl ?_; simp only [zz]
              refine tk 11 rfl ?_; simp only [zz]
              refine tk 12 rfl ?_; simp only [zz]
              refine tk 13 rfl ?_; simp only [zz]
              refine tk 14 rfl ?_; simp only [zz]
              refine tk 15 rfl ?_; simp only [zz]
              refine tk 16 rfl ?_; simp only [zz]
              refine tk 17 rfl ?_; simp only [zz]
              refine tk 18 rfl ?_; simp only [zz]
              refine tk 19 rfl ?_; simp only [zz]
              refine tk 20 rfl ?_; simp only [zz]
              refine tk 21 rfl ?_; simp only [zz]
              refine tk 22 rfl ?_; simp only [zz]
              refine tk 23 rfl ?_; simp only [zz]
              refine tk 24 rfl ?_; simp only [zz]
              refine tk 25 rfl ?_; simp only [zz]
              refine tk 26 rfl ?_; simp only [zz]
              refine tk 27 rfl ?_; simp only [zz]
              refine tk 28 rfl ?_; simp only [zz]
              refine tk 29 rfl ?_; simp only [zz]
              refine tk 30 rfl ?_; simp only [zz]
              refine tk 31 rfl ?_; simp only [zz]
              refine tk 32 rfl ?_; simp only [zz]
              refine tk 33 rfl ?_; simp only [zz]
              refine tk 34 rfl ?_; simp only [zz]
              refine tk 35 rfl ?_; simp only [zz]
              refine tu 36 rfl ?_; simp only [zz]
              refine tu 37 rfl ?_; simp only [zz]
              refine tu 38 rfl ?_; simp only [zz]
              refine tu 39 rfl ?_; simp only [zz]
              refine tu 40 rfl ?_; simp only [zz]
              refine tk 41 rfl ?_; simp only [zz]
              refine tk 42 rfl ?_; simp only [zz]
              refine tu 43 rfl ?_; simp only [zz]
              refine tu 44 rfl ?_; simp only [zz]
              refine tu 45 rfl ?_; simp only [zz]
              refine tu 46 rfl ?_; simp only [zz]
              refine tu 47 rfl ?_; simp only [zz]
              refine tu 48 rfl ?_; simp only [zz]
              refine tu 49 rfl ?_; simp only [zz]
              refine tk 50 rfl ?_; simp only [zz]
              refine wpAnyH_done (by kernel_rfl) ?_ _
              go_wp2_with fail
              go_meet
              exact ⟨by rw [HO.out]; rfl, (Below.refl _ _).drew⟩
            · have d7 : decide (pb ≤ qb) = false := decide_eq_false h3
              have HO6 : Hid (refD g l kk = (isB g.evs pa [1] && befB g.evs pa pb)) := by rw [Hid, HO5.out, hra, decide_eq_true (show qa = pa by omega), decide_eq_true (show qb < pb by omega)]; simp
              clear HO5 hra h2
              cases hia : isB g.evs pa [1]
              · rw [hia] at HCA0
                have HCA := HCA0
                have HO : Hid (refD g l kk = false) := by rw [Hid, HO6.out, hia]; simp
                clear HCA0 HCN0 hia
                refine wp_region_held_drew (S := (fun w' => w'.cell? ⟨gb, 0, none⟩ = some (.int .i64 g.cells) ∧ w'.cell? ⟨gb, 1, none⟩ = some (.slice pe g.evs.length ce) ∧ w'.cell? ⟨gb, 2, none⟩ = some (Vr) ∧ w'.cell? ⟨gb, 3, none⟩ = some (Vc) ∧ w'.cell? ⟨gb, 4, none⟩ = some (Vm) ∧ w'.cell? ⟨gb, 5, none⟩ = some (Va) ∧ w'.cell? ⟨gb, 6, none⟩ = some (Vd) ∧ w'.cell? ⟨gb, 7, none⟩ = some (Vt) ∧ w'.cell? ⟨gp, 0, none⟩ = some (.int .i64 pa) ∧ w'.cell? ⟨gp, 1, none⟩ = some (.int .i64 pb) ∧ w'.cell? ⟨s2, o2 + jj * 2, none⟩ = some (.int .i64 qa) ∧ w'.cell? ⟨s2, o2 + jj * 2 + 1, none⟩ = some (.int .i64 qb))) (by kernel_rfl) (HZ1.out _ (Below.refl _ _).drew) (fun hHeld => ?_)
                refine tk 0 rfl ?_; simp only [zz]
                refine tk 1 rfl ?_; simp only [zz]
                refine tk 2 rfl ?_; simp only [zz]
                refine tk 3 rfl ?_; simp only [zz]
                refine tk 4 rfl ?_; simp only [zz]
                refine tk 5 rfl ?_; simp only [zz]
                refine tk 6 rfl ?_; simp only [zz]
                refine tk 7 rfl ?_; simp only [zz]
                refine tk 8 rfl ?_; simp only [zz]
                refine tk 9 rfl ?_; simp only [zz]
                refine tk 10 rfl ?_; simp only [zz]
                refine tk 11 rfl ?_; simp only [zz]
                refine tk 12 rfl ?_; simp only [zz]
                refine tk 13 rfl ?_; simp only [zz]
                refine tk 14 rfl ?_; simp only [zz]
                refine tk 15 rfl ?_; simp only [zz]
                refine tk 16 rfl ?_; simp only [zz]
                refine tk 17 rfl ?_; simp only [zz]
                refine tk 18 rfl ?_; simp only [zz]
                refine tk 19 rfl ?_; simp only [zz]
                refine tk 20 rfl ?_; simp only [zz]
                refine tk 21 rfl ?_; simp only [zz]
                refine tk 22 rfl ?_; simp only [zz]
                refine tk 23 rfl ?_; simp only [zz]
                refine tk 24 rfl ?_; simp only [zz]
                refine tk 25 rfl ?_; simp only [zz]
                refine tk 26 rfl ?_; simp only [zz]
                refine tk 27 rfl ?_; simp only [zz]
                refine tk 28 rfl ?_; simp only [zz]
                refine tk 29 rfl ?_; simp only [zz]
                refine tk 30 rfl ?_; simp only [zz]
                refine tk 31 rfl ?_; simp only [zz]
                refine tk 32 rfl ?_; simp only [zz]
                refine tk 33 rfl ?_; simp only [zz]
                refine tk 34 rfl ?_; simp only [zz]
                refine tk 35 rfl ?_; simp only [zz]
                refine tk 36 rfl ?_; simp only [zz]
                refine tk 37 rfl ?_; simp only [zz]
                refine tk 38 rfl ?_; simp only [zz]
                refine wpAnyH_ready (rs := [39]) (by kernel_rfl) (by simp) ?_
                refine AllReadyH.cons rfl (fun K hK => ?_) AllReadyH.nil
                simp only [z1, z2, z3]
                go_simp
                refine HCA.out.mono ?_
                rintro e w5 ⟨rfl, hB5⟩
                have hX5 : Below wb.heap.size wb w5 := ((Below.refl wb.heap.size wb).drew).trans hB5
                refine hK.out _ _ (HZ1.out w5 hX5) (fun hHeld => ?_)
                clear hK K
                try simp only [zz]
                refine tk 40 rfl ?_; simp only [zz]
                refine tk 41 rfl ?_; simp only [zz]
                refine tk 42 rfl ?_; simp only [zz]
                refine tu 43 rfl ?_; simp only [zz]
                refine tu 44 rfl ?_; simp only [zz]
                refine tu 45 rfl ?_; simp only [zz]
                refine tu 46 rfl ?_; simp only [zz]
                refine tu 47 rfl ?_; simp only [zz]
                refine tu 48 rfl ?_; simp only [zz]
                refine tu 49 rfl ?_; simp only [zz]
                refine tk 50 rfl ?_; simp only [zz]
                refine wpAnyH_done (by kernel_rfl) ?_ _
                go_wp2_with fail
                go_meet
                exact ⟨by rw [HO.out]; rfl, hX5⟩
              · rw [hia] at HCA0
                have HCA := HCA0
                cases hnx : befB g.evs pa pb
                · rw [hnx] at HCN0
                  have HCN := HCN0
                  have HO : Hid (refD g l kk = false) := by rw [Hid, HO6.out, hia, hnx]; rfl
                  clear HCA0 HCN0 hia hnx
                  refine wp_region_held_drew (S := (fun w' => w'.cell? ⟨gb, 0, none⟩ = some (.int .i64 g.cells) ∧ w'.cell? ⟨gb, 1, none⟩ = some (.slice pe g.evs.length ce) ∧ w'.cell? ⟨gb, 2, none⟩ = some (Vr) ∧ w'.cell? ⟨gb, 3, none⟩ = some (Vc) ∧ w'.cell? ⟨gb, 4, none⟩ = some (Vm) ∧ w'.cell? ⟨gb, 5, none⟩ = some (Va) ∧ w'.cell? ⟨gb, 6, none⟩ = some (Vd) ∧ w'.cell? ⟨gb, 7, none⟩ = some (Vt) ∧ w'.cell? ⟨gp, 0, none⟩ = some (.int .i64 pa) ∧ w'.cell? ⟨gp, 1, none⟩ = some (.int .i64 pb) ∧ w'.cell? ⟨s2, o2 + jj * 2, none⟩ = some (.int .i64 qa) ∧ w'.cell? ⟨s2, o2 + jj * 2 + 1, none⟩ = some (.int .i64 qb))) (by kernel_rfl) (HZ1.out _ (Below.refl _ _).drew) (fun hHeld => ?_)
                  refine tk 0 rfl ?_; simp only [zz]
                  refine tk 1 rfl ?_; simp only [zz]
                  refine tk 2 rfl ?_; simp only [zz]
                  refine tk 3 rfl ?_; simp only [zz]
                  refine tk 4 rfl ?_; simp only [zz]
                  refine tk 5 rfl ?_; simp only [zz]
                  refine tk 6 rfl ?_; simp only [zz]
                  refine tk 7 rfl ?_; simp only [zz]
                  refine tk 8 rfl ?_; simp only [zz]
                  refine tk 9 rfl ?_; simp only [zz]
                  refine tk 10 rfl ?_; simp only [zz]
                  refine tk 11 rfl ?_; simp only [zz]
                  refine tk 12 rfl ?_; simp only [zz]
                  refine tk 13 rfl ?_; simp only [zz]
                  refine tk 14 rfl ?_; simp only [zz]
                  refine tk 15 rfl ?_; simp only [zz]
                  refine tk 16 rfl ?_; simp only [zz]
                  refine tk 17 rfl ?_; simp only [zz]
                  refine tk 18 rfl ?_; simp only [zz]
                  refine tk 19 rfl ?_; simp only [zz]
                  refine tk 20 rfl ?_; simp only [zz]
                  refine tk 21 rfl ?_; simp only [zz]
                  refine tk 22 rfl ?_; simp only [zz]
                  refine tk 23 rfl ?_; simp only [zz]
                  refine tk 24 rfl ?_; simp only [zz]
                  refine tk 25 rfl ?_; simp only [zz]
                  refine tk 26 rfl ?_; simp only [zz]
                  refine tk 27 rfl ?_; simp only [zz]
                  refine tk 28 rfl ?_; simp only [zz]
                  refine tk 29 rfl ?_; simp only [zz]
                  refine tk 30 rfl ?_; simp only [zz]
                  refine tk 31 rfl ?_; simp only [zz]
                  refine tk 32 rfl ?_; simp only [zz]
                  refine tk 33 rfl ?_; simp only [zz]
                  refine tk 34 rfl ?_; simp only [zz]
                  refine tk 35 rfl ?_; simp only [zz]
                  refine tk 36 rfl ?_; simp only [zz]
                  refine tk 37 rfl ?_; simp only [zz]
                  refine tk 38 rfl ?_; simp only [zz]
                  refine wpAnyH_ready (rs := [39]) (by kernel_rfl) (by simp) ?_
                  refine AllReadyH.cons rfl (fun K hK => ?_) AllReadyH.nil
                  simp only [z1, z2, z3]
                  go_simp
                  refine HCA.out.mono ?_
                  rintro e w5 ⟨rfl, hB5⟩
                  have hX5 : Below wb.heap.size wb w5 := ((Below.refl wb.heap.size wb).drew).trans hB5
                  refine hK.out _ _ (HZ1.out w5 hX5) (fun hHeld => ?_)
                  clear hK K
                  try simp only [zz]
                  refine tk 40 rfl ?_; simp only [zz]
                  refine tk 41 rfl ?_; simp only [zz]
                  refine tk 42 rfl ?_; simp only [zz]
                  refine tk 43 rfl ?_; simp only [zz]
                  refine tk 44 rfl ?_; simp only [zz]
                  refine tk 45 rfl ?_; simp only [zz]
                  refine tk 46 rfl ?_; simp only [zz]
                  refine tk 47 rfl ?_; simp only [zz]
                  refine wpAnyH_ready (rs := [48]) (by kernel_rfl) (by simp) ?_
                  refine AllReadyH.cons rfl (fun K hK => ?_) AllReadyH.nil
                  simp only [z1, z2, z3]
                  go_simp
                  refine (HCN.out w5 hX5).mono ?_
                  rintro e w6 ⟨rfl, hB6⟩
                  have hX6 := below_step hX5 hX5.size hB6
                  refine hK.out _ _ (HZ1.out w6 hX6) (fun hHeld => ?_)
                  clear hK K
                  try simp only [zz]
                  refine tk 49 rfl ?_; simp only [zz]
                  refine tk 50 rfl ?_; simp only [zz]
                  refine wpAnyH_done (by kernel_rfl) ?_ _
                  go_wp2_with fail
                  go_meet
                  exact ⟨by rw [HO.out]; rfl, hX6⟩
                · rw [hnx] at HCN0
                  have HCN := HCN0
                  have HO : Hid (refD g l kk = true) := by rw [Hid, HO6.out, hia, hnx]; rfl
                  clear HCA0 HCN0 hia hnx
                  refine wp_region_held_drew (S := (fun w' => w'.cell? ⟨gb, 0, none⟩ = some (.int .i64 g.cells) ∧ w'.cell? ⟨gb, 1, none⟩ = some (.slice pe g.evs.length ce) ∧ w'.cell? ⟨gb, 2, none⟩ = some (Vr) ∧ w'.cell? ⟨gb, 3, none⟩ = some (Vc) ∧ w'.cell? ⟨gb, 4, none⟩ = some (Vm) ∧ w'.cell? ⟨gb, 5, none⟩ = some (Va) ∧ w'.cell? ⟨gb, 6, none⟩ = some (Vd) ∧ w'.cell? ⟨gb, 7, none⟩ = some (Vt) ∧ w'.cell? ⟨gp, 0, none⟩ = some (.int .i64 pa) ∧ w'.cell? ⟨gp, 1, none⟩ = some (.int .i64 pb) ∧ w'.cell? ⟨s2, o2 + jj * 2, none⟩ = some (.int .i64 qa) ∧ w'.cell? ⟨s2, o2 + jj * 2 + 1, none⟩ = some (.int .i64 qb))) (by kernel_rfl) (HZ1.out _ (Below.refl _ _).drew) (fun hHeld => ?_)
                  refine tk 0 rfl ?_; simp only [zz]
                  refine tk 1 rfl ?_; simp only [zz]
                  refine tk 2 rfl ?_; simp only [zz]
                  refine tk 3 rfl ?_; simp only [zz]
                  refine tk 4 rfl ?_; simp only [zz]
                  refine tk 5 rfl ?_; simp only [zz]
                  refine tk 6 rfl ?_; simp only [zz]
                  refine tk 7 rfl ?_; simp only [zz]
                  refine tk 8 rfl ?_; simp only [zz]
                  refine tk 9 rfl ?_; simp only [zz]
                  refine tk 10 rfl ?_; simp only [zz]
                  refine tk 11 rfl ?_; simp only [zz]
                  refine tk 12 rfl ?_; simp only [zz]
                  refine tk 13 rfl ?_; simp only [zz]
                  refine tk 14 rfl ?_; simp only [zz]
                  refine tk 15 rfl ?_; simp only [zz]
                  refine tk 16 rfl ?_; simp only [zz]
                  refine tk 17 rfl ?_; simp only [zz]
                  refine tk 18 rfl ?_; simp only [zz]
                  refine tk 19 rfl ?_; simp only [zz]
                  refine tk 20 rfl ?_; simp only [zz]
                  refine tk 21 rfl ?_; simp only [zz]
                  refine tk 22 rfl ?_; simp only [zz]
                  refine tk 23 rfl ?_; simp only [zz]
                  refine tk 24 rfl ?_; simp only [zz]
                  refine tk 25 rfl ?_; simp only [zz]
                  refine tk 26 rfl ?_; simp only [zz]
                  refine tk 27 rfl ?_; simp only [zz]
                  refine tk 28 rfl ?_; simp only [zz]
                  refine tk 29 rfl ?_; simp only [zz]
                  refine tk 30 rfl ?_; simp only [zz]
                  refine tk 31 rfl ?_; simp only [zz]
                  refine tk 32 rfl ?_; simp only [zz]
                  refine tk 33 rfl ?_; simp only [zz]
                  refine tk 34 rfl ?_; simp only [zz]
                  refine tk 35 rfl ?_; simp only [zz]
                  refine tk 36 rfl ?_; simp only [zz]
                  refine tk 37 rfl ?_; simp only [zz]
                  refine tk 38 rfl ?_; simp only [zz]
                  refine wpAnyH_ready (rs := [39]) (by kernel_rfl) (by simp) ?_
                  refine AllReadyH.cons rfl (fun K hK => ?_) AllReadyH.nil
                  simp only [z1, z2, z3]
                  go_simp
                  refine HCA.out.mono ?_
                  rintro e w5 ⟨rfl, hB5⟩
                  have hX5 : Below wb.heap.size wb w5 := ((Below.refl wb.heap.size wb).drew).trans hB5
                  refine hK.out _ _ (HZ1.out w5 hX5) (fun hHeld => ?_)
                  clear hK K
                  try simp only [zz]
                  refine tk 40 rfl ?_; simp only [zz]
                  refine tk 41 rfl ?_; simp only [zz]
                  refine tk 42 rfl ?_; simp only [zz]
                  refine tk 43 rfl ?_; simp only [zz]
                  refine tk 44 rfl ?_; simp only [zz]
                  refine tk 45 rfl ?_; simp only [zz]
                  refine tk 46 rfl ?_; simp only [zz]
                  refine tk 47 rfl ?_; simp only [zz]
                  refine wpAnyH_ready (rs := [48]) (by kernel_rfl) (by simp) ?_
                  refine AllReadyH.cons rfl (fun K hK => ?_) AllReadyH.nil
                  simp only [z1, z2, z3]
                  go_simp
                  refine (HCN.out w5 hX5).mono ?_
                  rintro e w6 ⟨rfl, hB6⟩
                  have hX6 := below_step hX5 hX5.size hB6
                  refine hK.out _ _ (HZ1.out w6 hX6) (fun hHeld => ?_)
                  clear hK K
                  try simp only [zz]
                  refine tk 49 rfl ?_; simp only [zz]
                  refine tk 50 rfl ?_; simp only [zz]
                  refine wpAnyH_done (by kernel_rfl) ?_ _
                  go_wp2_with fail
                  go_meet
                  exact ⟨by rw [HO.out]; rfl, hX6⟩
          · have q2 : ((pa : Int) == qa) = false := by rw [beq_eq_false_iff_ne]; exact h2
            have HO6 : Hid (refD g l kk = (isB g.evs pa [1] && befB g.evs pa pb)) := by rw [Hid, HO5.out, hra, decide_eq_true (show qa < pa by omega)]; simp
            clear HO5 hra h2
            cases hia : isB g.evs pa [1]
            · rw [hia] at HCA0
              have HCA := HCA0
              have HO : Hid (refD g l kk = false) := by rw [Hid, HO6.out, hia]; simp
              clear HCA0 HCN0 hia
              refine wp_region_held_drew (S := (fun w' => w'.cell? ⟨gb, 0, none⟩ = some (.int .i64 g.cells) ∧ w'.cell? ⟨gb, 1, none⟩ = some (.slice pe g.evs.length ce) ∧ w'.cell? ⟨gb, 2, none⟩ = some (Vr) ∧ w'.cell? ⟨gb, 3, none⟩ = some (Vc) ∧ w'.cell? ⟨gb, 4, none⟩ = some (Vm) ∧ w'.cell? ⟨gb, 5, none⟩ = some (Va) ∧ w'.cell? ⟨gb, 6, none⟩ = some (Vd) ∧ w'.cell? ⟨gb, 7, none⟩ = some (Vt) ∧ w'.cell? ⟨gp, 0, none⟩ = some (.int .i64 pa) ∧ w'.cell? ⟨gp, 1, none⟩ = some (.int .i64 pb) ∧ w'.cell? ⟨s2, o2 + jj * 2, none⟩ = some (.int .i64 qa) ∧ w'.cell? ⟨s2, o2 + jj * 2 + 1, none⟩ = some (.int .i64 qb))) (by kernel_rfl) (HZ1.out _ (Below.refl _ _).drew) (fun hHeld => ?_)
              refine tk 0 rfl ?_; simp only [zz]
              refine tk 1 rfl ?_; simp only [zz]
              refine tk 2 rfl ?_; simp only [zz]
              refine tk 3 rfl ?_; simp only [zz]
              refine tk 4 rfl ?_; simp only [zz]
              refine tk 5 rfl ?_; simp only [zz]
              refine tk 6 rfl ?_; simp only [zz]
              refine tk 7 rfl ?_; simp only [zz]
              refine tk 8 rfl ?_; simp only [zz]
              refine tk 9 rfl ?_; simp only [zz]
              refine tk 10 rfl ?_; simp only [zz]
              refine tk 11 rfl ?_; simp only [zz]
              refine tk 12 rfl ?_; simp only [zz]
              refine tk 13 rfl ?_; simp only [zz]
              refine tk 14 rfl ?_; simp only [zz]
              refine tk 15 rfl ?_; simp only [zz]
              refine tk 16 rfl ?_; simp only [zz]
              refine tk 17 rfl ?_; simp only [zz]
              refine tk 18 rfl ?_; simp only [zz]
              refine tk 19 rfl ?_; simp only [zz]
              refine tk 20 rfl ?_; simp only [zz]
              refine tk 21 rfl ?_; simp only [zz]
              refine tk 22 rfl ?_; simp only [zz]
              refine tu 23 rfl ?_; simp only [zz]
              refine tu 24 rfl ?_; simp only [zz]
              refine tu 25 rfl ?_; simp only [zz]
              refine tu 26 rfl ?_; simp only [zz]
              refine tu 27 rfl ?_; simp only [zz]
              refine tu 28 rfl ?_; simp only [zz]
              refine tu 29 rfl ?_; simp only [zz]
              refine tu 30 rfl ?_; simp only [zz]
              refine tu 31 rfl ?_; simp only [zz]
              refine tk 32 rfl ?_; simp only [zz]
              refine tk 33 rfl ?_; simp only [zz]
              refine tk 34 rfl ?_; simp only [zz]
              refine tk 35 rfl ?_; simp only [zz]
              refine tk 36 rfl ?_; simp only [zz]
              refine tk 37 rfl ?_; simp only [zz]
              refine tk 38 rfl ?_; simp only [zz]
              refine wpAnyH_ready (rs := [39]) (by kernel_rfl) (by simp) ?_
              refine AllReadyH.cons rfl (fun K hK => ?_) AllReadyH.nil
              simp only [z1, z2, z3]
              go_simp
              refine HCA.out.mono ?_
              rintro e w5 ⟨rfl, hB5⟩
              have hX5 : Below wb.heap.size wb w5 := ((Below.refl wb.heap.size wb).drew).trans hB5
              refine hK.out _ _ (HZ1.out w5 hX5) (fun hHeld => ?_)
              clear hK K
              try simp only [zz]
              refine tk 40 rfl ?_; simp only [zz]
              refine tk 41 rfl ?_; simp only [zz]
              refine tk 42 rfl ?_; simp only [zz]
              refine tu 43 rfl ?_; simp only [zz]
              refine tu 44 rfl ?_; simp only [zz]
              refine tu 45 rfl ?_; simp only [zz]
              refine tu 46 rfl ?_; simp only [zz]
              refine tu 47 rfl ?_; simp only [zz]
              refine tu 48 rfl ?_; simp only [zz]
              refine tu 49 rfl ?_; simp only [zz]
              refine tk 50 rfl ?_; simp only [zz]
              refine wpAnyH_done (by kernel_rfl) ?_ _
              go_wp2_with fail
              go_meet
              exact ⟨by rw [HO.out]; rfl, hX5⟩
            · rw [hia] at HCA0
              have HCA := HCA0
              cases hnx : befB g.evs pa pb
              · rw [hnx] at HCN0
                have HCN := HCN0
                have HO : Hid (refD g l kk = false) := by rw [Hid, HO6.out, hia, hnx]; rfl
                clear HCA0 HCN0 hia hnx
                refine wp_region_held_drew (S := (fun w' => w'.cell? ⟨gb, 0, none⟩ = some (.int .i64 g.cells) ∧ w'.cell? ⟨gb, 1, none⟩ = some (.slice pe g.evs.length ce) ∧ w'.cell? ⟨gb, 2, none⟩ = some (Vr) ∧ w'.cell? ⟨gb, 3, none⟩ = some (Vc) ∧ w'.cell? ⟨gb, 4, none⟩ = some (Vm) ∧ w'.cell? ⟨gb, 5, none⟩ = some (Va) ∧ w'.cell? ⟨gb, 6, none⟩ = some (Vd) ∧ w'.cell? ⟨gb, 7, none⟩ = some (Vt) ∧ w'.cell? ⟨gp, 0, none⟩ = some (.int .i64 pa) ∧ w'.cell? ⟨gp, 1, none⟩ = some (.int .i64 pb) ∧ w'.cell? ⟨s2, o2 + jj * 2, none⟩ = some (.int .i64 qa) ∧ w'.cell? ⟨s2, o2 + jj * 2 + 1, none⟩ = some (.int .i64 qb))) (by kernel_rfl) (HZ1.out _ (Below.refl _ _).drew) (fun hHeld => ?_)
                refine tk 0 rfl ?_; simp only [zz]
                refine tk 1 rfl ?_; simp only [zz]
                refine tk 2 rfl ?_; simp only [zz]
                refine tk 3 rfl ?_; simp only [zz]
                refine tk 4 rfl ?_; simp only [zz]
                refine tk 5 rfl ?_; simp only [zz]
                refine tk 6 rfl ?_; simp only [zz]
                refine tk 7 rfl ?_; simp only [zz]
                refine tk 8 rfl ?_; simp only [zz]
                refine tk 9 rfl ?_; simp only [zz]
                refine tk 10 rfl ?_; simp only [zz]
                refine tk 11 rfl ?_; simp only [zz]
                refine tk 12 rfl ?_; simp only [zz]
                refine tk 13 rfl ?_; simp only [zz]
                refine tk 14 rfl ?_; simp only [zz]
                refine tk 15 rfl ?_; simp only [zz]
                refine tk 16 rfl ?_; simp only [zz]
                refine tk 17 rfl ?_; simp only [zz]
                refine tk 18 rfl ?_; simp only [zz]
                refine tk 19 rfl ?_; simp only [zz]
                refine tk 20 rfl ?_; simp only [zz]
                refine tk 21 rfl ?_; simp only [zz]
                refine tk 22 rfl ?_; simp only [zz]
                refine tu 23 rfl ?_; simp only [zz]
                refine tu 24 rfl ?_; simp only [zz]
                refine tu 25 rfl ?_; simp only [zz]
                refine tu 26 rfl ?_; simp only [zz]
                refine tu 27 rfl ?_; simp only [zz]
                refine tu 28 rfl ?_; simp only [zz]
                refine tu 29 rfl ?_; simp only [zz]
                refine tu 30 rfl ?_; simp only [zz]
                refine tu 31 rfl ?_; simp only [zz]
                refine tk 32 rfl ?_; simp only [zz]
                refine tk 33 rfl ?_; simp only [zz]
                refine tk 34 rfl ?_; simp only [zz]
                refine tk 35 rfl ?_; simp only [zz]
                refine tk 36 rfl ?_; simp only [zz]
                refine tk 37 rfl ?_; simp only [zz]
                refine tk 38 rfl ?_; simp only [zz]
                refine wpAnyH_ready (rs := [39]) (by kernel_rfl) (by simp) ?_
                refine AllReadyH.cons rfl (fun K hK => ?_) AllReadyH.nil
                simp only [z1, z2, z3]
                go_simp
                refine HCA.out.mono ?_
                rintro e w5 ⟨rfl, hB5⟩
                have hX5 : Below wb.heap.size wb w5 := ((Below.refl wb.heap.size wb).drew).trans hB5
                refine hK.out _ _ (HZ1.out w5 hX5) (fun hHeld => ?_)
                clear hK K
                try simp only [zz]
                refine tk 40 rfl ?_; simp only [zz]
                refine tk 41 rfl ?_; simp only [zz]
                refine tk 42 rfl ?_; simp only [zz]
                refine tk 43 rfl ?_; simp only [zz]
                refine tk 44 rfl ?_; simp only [zz]
                refine tk 45 rfl ?_; simp only [zz]
                refine tk 46 rfl ?_; simp only [zz]
                refine tk 47 rfl ?_; simp only [zz]
                refine wpAnyH_ready (rs := [48]) (by kernel_rfl) (by simp) ?_
                refine AllReadyH.cons rfl (fun K hK => ?_) AllReadyH.nil
                simp only [z1, z2, z3]
                go_simp
                refine (HCN.out w5 hX5).mono ?_
                rintro e w6 ⟨rfl, hB6⟩
                have hX6 := below_step hX5 hX5.size hB6
                refine hK.out _ _ (HZ1.out w6 hX6) (fun hHeld => ?_)
                clear hK K
                try simp only [zz]
                refine tk 49 rfl ?_; simp only [zz]
                refine tk 50 rfl ?_; simp only [zz]
                refine wpAnyH_done (by kernel_rfl) ?_ _
                go_wp2_with fail
                go_meet
                exact ⟨by rw [HO.out]; rfl, hX6⟩
              · rw [hnx] at HCN0
                have HCN := HCN0
                have HO : Hid (refD g l kk = true) := by rw [Hid, HO6.out, hia, hnx]; rfl
                clear HCA0 HCN0 hia hnx
                refine wp_region_held_drew (S := (fun w' => w'.cell? ⟨gb, 0, none⟩ = some (.int .i64 g.cells) ∧ w'.cell? ⟨gb, 1, none⟩ = some (.slice pe g.evs.length ce) ∧ w'.cell? ⟨gb, 2, none⟩ = some (Vr) ∧ w'.cell? ⟨gb, 3, none⟩ = some (Vc) ∧ w'.cell? ⟨gb, 4, none⟩ = some (Vm) ∧ w'.cell? ⟨gb, 5, none⟩ = some (Va) ∧ w'.cell? ⟨gb, 6, none⟩ = some (Vd) ∧ w'.cell? ⟨gb, 7, none⟩ = some (Vt) ∧ w'.cell? ⟨gp, 0, none⟩ = some (.int .i64 pa) ∧ w'.cell? ⟨gp, 1, none⟩ = some (.int .i64 pb) ∧ w'.cell? ⟨s2, o2 + jj * 2, none⟩ = some (.int .i64 qa) ∧ w'.cell? ⟨s2, o2 + jj * 2 + 1, none⟩ = some (.int .i64 qb))) (by kernel_rfl) (HZ1.out _ (Below.refl _ _).drew) (fun hHeld => ?_)
                refine tk 0 rfl ?_; simp only [zz]
                refine tk 1 rfl ?_; simp only [zz]
                refine tk 2 rfl ?_; simp only [zz]
                refine tk 3 rfl ?_; simp only [zz]
                refine tk 4 rfl ?_; simp only [zz]
                refine tk 5 rfl ?_; simp only [zz]
                refine tk 6 rfl ?_; simp only [zz]
                refine tk 7 rfl ?_; simp only [zz]
                refine tk 8 rfl ?_; simp only [zz]
                refine tk 9 rfl ?_; simp only [zz]
                refine tk 10 rfl ?_; simp only [zz]
                refine tk 11 rfl ?_; simp only [zz]
                refine tk 12 rfl ?_; simp only [zz]
                refine tk 13 rfl ?_; simp only [zz]
                refine tk 14 rfl ?_; simp only [zz]
                refine tk 15 rfl ?_; simp only [zz]
                refine tk 16 rfl ?_; simp only [zz]
                refine tk 17 rfl ?_; simp only [zz]
                refine tk 18 rfl ?_; simp only [zz]
                refine tk 19 rfl ?_; simp only [zz]
                refine tk 20 rfl ?_; simp only [zz]
                refine tk 21 rfl ?_; simp only [zz]
                refine tk 22 rfl ?_; simp only [zz]
                refine tu 23 rfl ?_; simp only [zz]
                refine tu 24 rfl ?_; simp only [zz]
                refine tu 25 rfl ?_; simp only [zz]
                refine tu 26 rfl ?_; simp only [zz]
                refine tu 27 rfl ?_; simp only [zz]
                refine tu 28 rfl ?_; simp only [zz]
                refine tu 29 rfl ?_; simp only [zz]
                refine tu 30 rfl ?_; simp only [zz]
                refine tu 31 rfl ?_; simp only [zz]
                refine tk 32 rfl ?_; simp only [zz]
                refine tk 33 rfl ?_; simp only [zz]
                refine tk 34 rfl ?_; simp only [zz]
                refine tk 35 rfl ?_; simp only [zz]
                refine tk 36 rfl ?_; simp only [zz]
                refine tk 37 rfl ?_; simp only [zz]
                refine tk 38 rfl ?_; simp only [zz]
                refine wpAnyH_ready (rs := [39]) (by kernel_rfl) (by simp) ?_
                refine AllReadyH.cons rfl (fun K hK => ?_) AllReadyH.nil
                simp only [z1, z2, z3]
                go_simp
                refine HCA.out.mono ?_
                rintro e w5 ⟨rfl, hB5⟩
                have hX5 : Below wb.heap.size wb w5 := ((Below.refl wb.heap.size wb).drew).trans hB5
                refine hK.out _ _ (HZ1.out w5 hX5) (fun hHeld => ?_)
                clear hK K
                try simp only [zz]
                refine tk 40 rfl ?_; simp only [zz]
                refine tk 41 rfl ?_; simp only [zz]
                refine tk 42 rfl ?_; simp only [zz]
                refine tk 43 rfl ?_; simp only [zz]
                refine tk 44 rfl ?_; simp only [zz]
                refine tk 45 rfl ?_; simp only [zz]
                refine tk 46 rfl ?_; simp only [zz]
                refine tk 47 rfl ?_; simp only [zz]
                refine wpAnyH_ready (rs := [48]) (by kernel_rfl) (by simp) ?_
                refine AllReadyH.cons rfl (fun K hK => ?_) AllReadyH.nil
                simp only [z1, z2, z3]
                go_simp
                refine (HCN.out w5 hX5).mono ?_
                rintro e w6 ⟨rfl, hB6⟩
                have hX6 := below_step hX5 hX5.size hB6
                refine hK.out _ _ (HZ1.out w6 hX6) (fun hHeld => ?_)
                clear hK K
                try simp only [zz]
                refine tk 49 rfl ?_; simp only [zz]
                refine tk 50 rfl ?_; simp only [zz]
                refine wpAnyH_done (by kernel_rfl) ?_ _
                go_wp2_with fail
                go_meet
                exact ⟨by rw [HO.out]; rfl, hX6⟩
    · obtain rfl : res = -1 := by rw [← HR.out]; exact fstBad_none (fun j h0 hj => HALL.out j h0 (by omega))
      go_wp2_with fail
      go_ret
      exact ⟨rfl, HBW.out⟩
end Go.Proofs.YthiijcappjaagaaGreatDoor
namespace Go.Proofs.YthiijcappjaagaaGreatDoor
open Go.RowKit Go.Shelf Sx
theorem bad5_hit {g : Gr} {n c : Nat} (hn : g.cells = (n : Int)) (hc : c < n) (h : ∀ j, j < c → bad5c g j = false) (hb : bad5c g c = true) : bad5 g = (c : Int) := by
  have : fstBad (bad5c g) 0 g.cells.toNat = (c : Int) := by
    rw [hn, Int.toNat_natCast]
    exact fstBad_hit (Nat.zero_le _) (by omega) (fun j _ hj => h j hj) hb
  unfold bad5
  rw [this, if_neg (by omega)]
theorem bad5_all {g : Gr} {n : Nat} (hn : g.cells = (n : Int)) (h : ∀ j, j < n → bad5c g j = false) : bad5 g = (if (g.co.length : Int) ≤ (n : Int) then -1 else (n : Int)) := by
  have : fstBad (bad5c g) 0 g.cells.toNat = -1 := by
    rw [hn, Int.toNat_natCast]
    exact fstBad_none (fun j _ hj => h j (by omega))
  unfold bad5
  rw [this, if_pos rfl, hn]
def coAt (g : Gr) (c x : Int) : Bool := isB g.evs x [2] && decide ((g.ev x.toNat).l = c)
theorem coAt_iff {g : Gr} {c x : Int} : coAt g c x = true ↔ ∃ n : Nat, x = ((n : Nat) : Int) ∧ n < g.evs.length ∧ isWr g c n = true := by
  constructor
  · intro h
    obtain ⟨h1, h2⟩ := Bool.and_eq_true_iff.1 h
    obtain ⟨n, rfl, hn⟩ := isB_nat h1
    refine ⟨n, rfl, hn, ?_⟩
    have hk0 : (g.evs.getD n Ev.zero).k = 2 := by
      have := (Bool.and_eq_true_iff.1 h1).2
      rw [Int.toNat_natCast] at this
      simpa using this
    have hk : (g.ev n).k = 2 := hk0
    rw [Int.toNat_natCast] at h2
    unfold isWr
    rw [decide_eq_true hk, h2]
    rfl
  · rintro ⟨n, rfl, hn, hw⟩
    obtain ⟨h1, h2⟩ := Bool.and_eq_true_iff.1 hw
    have hk := of_decide_eq_true h1
    have he : (g.evs.getD n Ev.zero).k = 2 := hk
    unfold coAt isB
    rw [Int.toNat_natCast, h2, decide_eq_true (by omega : (0 : Int) ≤ (n : Int)), decide_eq_true (by omega : ((n : Nat) : Int) < (g.evs.length : Int)), he]
    rfl
def coUp (g : Gr) (c : Int) (l : List Int) (k : Nat) : Prop := (∀ (i : Nat) (x : Int), i < k → l[i]? = some x → coAt g c x = true) ∧ ∀ (i j : Nat) (x : Int), i < k → j < i → l[i]? = some x → l[j]? ≠ some x
theorem coUp_zero (g : Gr) (c : Int) (l : List Int) : coUp g c l 0 := ⟨fun i x h => by omega, fun i j x h => by omega⟩
theorem coUp_succ {g : Gr} {c : Int} {l : List Int} {k : Nat} {x : Int} (h : coUp g c l k) (hx : l[k]? = some x) (ha : coAt g c x = true) (hn : ∀ t, t < k → l[t]? ≠ some x) : coUp g c l (k + 1) := by
  refine ⟨fun i y hi hy => ?_, fun i j y hi hj hy => ?_⟩
  · by_cases e : i = k
    · subst e
      rw [hx] at hy
      cases hy
      exact ha
    · exact h.1 i y (by omega) hy
  · by_cases e : i = k
    · subst e
      rw [hx] at hy
      cases hy
      exact hn j hj
    · exact h.2 i j y (by omega) hj hy
theorem coUp_all {g : Gr} {c : Int} {l : List Int} (h : coUp g c l l.length) : coOk g c l := by
  refine ⟨fun i x hx => coAt_iff.1 (h.1 i x (List.getElem?_eq_some_iff.1 hx).1 hx), fun i j x hj hx => h.2 i j x (List.getElem?_eq_some_iff.1 hx).1 hj hx⟩
set_option linter.unusedSimpArgs false in
set_option maxRecDepth 100000 in
set_option maxHeartbeats 16000000 in
theorem r8co_calls (V : GrV) (g : Gr) (q : Bool) (w : World) (h : GrR w V g) (h1 : bad1 g = false) (h2 : bad2 g q = -1) : Calls Tryz.prog 43 #[V.val g] w fun r w' => r = .returned (.int .i64 (bad5 g)) ∧ Below w.heap.size w w' := by
  have hsz : 0 ≤ g.cells ∧ g.cells ≤ (g.evs.length : Int) ∧ g.evs.length ≤ 256 := by
    simp [bad1] at h1
    omega
  obtain ⟨nc, hn⟩ : ∃ n : Nat, g.cells = (n : Int) := ⟨g.cells.toNat, by omega⟩
  have hl256 := hsz.2.2
  have hnl : nc ≤ g.evs.length := by omega
  obtain ⟨Ve, Vr, Vc, Vm, Va, Vd, Vt⟩ := V
  obtain ⟨pe, ce, ee, hp, _⟩ := h.ev
  obtain ⟨pc, cc2, ec, hcl, hco⟩ := coarg_form h.co
  dsimp only at ee ec
  subst ee
  subst ec
  have HP := hid_of hp
  have HCO := hid_of hco
  have H := hid_of h
  have H1 := hid_of h1
  have H2 := hid_of h2
  have HN := hid_of hn
  generalize hr : bad5 g = res
  have HR := hid_of hr
  have hB : Below w.heap.size w (w.alloc (.cells #[.int .i64 ((nc : Nat) : Int), .slice pe g.evs.length ce, Vr, .slice pc g.co.length cc2, Vm, Va, Vd, Vt] 26)) := (Below.refl _ _).alloc (Nat.le_refl _) _
  have hb := Blk.new w 26 #[.int .i64 ((nc : Nat) : Int), .slice pe g.evs.length ce, Vr, .slice pc g.co.length cc2, Vm, Va, Vd, Vt]
  unfold GrV.val
  dsimp only
  rw [hn]
  clear hr hp h hco h1 h2 hsz hn
  go_enter Tryz.func43, Tryz.ntmps43
  go_wp2_with fail
  have HB := hid_of hB
  have HG := hid_of hb
  generalize w.alloc (.cells #[.int .i64 ((nc : Nat) : Int), .slice pe g.evs.length ce, Vr, .slice pc g.co.length cc2, Vm, Va, Vd, Vt] 26) = W0 at *
  clear hb hB
  go_loopg [3] nc (fun f v3 wr => ∃ c : Nat, v3 = .int .i64 ((c : Nat) : Int) ∧ c ≤ nc ∧ c ≤ g.co.length ∧ Hid (c + f = nc) ∧ Hid (∀ j, j < c → bad5c g j = false) ∧ Hid (Below W0.heap.size W0 wr))
  case atStart => exact ⟨0, rfl, Nat.zero_le _, Nat.zero_le _, Nat.zero_add _, (fun j h => by omega), Below.refl _ _⟩
  case round =>
    obtain ⟨c, rfl, hcn, hcc, HKF, HALL, HW⟩ := hrel
    generalize hwq : wr = wa at *
    clear hwq
    have HBW : Hid (Below w.heap.size w wa) := below_step HB.out HB.out.size HW.out
    have hG := HG.out.of_below HW.out
    have c0 : wa.cell? ⟨w.heap.size, 0, none⟩ = some (.int .i64 ((nc : Nat) : Int)) := hG.cell rfl
    have c1 : wa.cell? ⟨w.heap.size, 1, none⟩ = some (.slice pe g.evs.length ce) := hG.cell rfl
    have c3 : wa.cell? ⟨w.heap.size, 3, none⟩ = some (.slice pc g.co.length cc2) := hG.cell rfl
    clear hG
    have C0 : (0 : Int) ≤ ((c : Nat) : Int) := by omega
    by_cases hlt : c < nc ∧ c < g.co.length
    · obtain ⟨hl1, hl2⟩ := hlt
      have C1 : ((c : Nat) : Int) < ((g.co.length : Nat) : Int) := by omega
      have C2 : ((c : Nat) : Int) < ((nc : Nat) : Int) := by omega
      obtain ⟨l, hl⟩ : ∃ l, g.co[c]? = some l := ⟨_, List.getElem?_eq_getElem hl2⟩
      obtain ⟨sc, oc, u, rfl, hsc, hcu, hiu, hul⟩ := HCO.out c l hl
      obtain ⟨pl, cl, rfl, hpl⟩ := intsR_form hiu
      have x0 : wa.cell? ⟨sc, oc + c, none⟩ = some (.slice pl l.length cl) := (HBW.out.cell (p := ⟨sc, oc + c, none⟩) hsc).trans hcu
      have HPL := hid_of hpl
      have HBAD : Hid (isOrdB l ((c : Nat) : Int) (wrs g ((c : Nat) : Int) g.evs.length) = false → res = ((c : Nat) : Int)) := fun h => by
        rw [← HR.out]
        refine bad5_hit HN.out hl1 HALL.out ?_
        unfold bad5c
        rw [List.getD_eq_getElem?_getD, hl]
        simp [h]
      have HOKN : Hid (isOrdB l ((c : Nat) : Int) (wrs g ((c : Nat) : Int) g.evs.length) = true → ∀ j, j < c + 1 → bad5c g j = false) := fun h j hj => by
        by_cases e : j = c
        · subst e
          unfold bad5c
          rw [List.getD_eq_getElem?_getD, hl]
          simp [h]
          omega
        · exact HALL.out j (by omega)
      have hws : 0 < (wrs g ((c : Nat) : Int) g.evs.length).length := List.length_pos_iff.2 (wrs_ini H1.out H2.out (c := c) (by rw [HN.out]; omega))
      have HWS := hid_of hws
      clear hl hcu hiu hpl hws
      by_cases hl0 : l.length = 0
      · obtain rfl := HBAD.out (by
          cases e : isOrdB l ((c : Nat) : Int) (wrs g ((c : Nat) : Int) g.evs.length)
          · rfl
          · have := (ord_parts e).1; have := HWS.out; omega)
        have q0 : (((l.length : Nat) : Int) == 0) = true := by rw [hl0]; rfl
        clear hl0
        go_wp2_with fail
        go_ret
        exact ⟨rfl, HBW.out⟩
      · have q0 : (((l.length : Nat) : Int) == 0) = false := by rw [beq_eq_false_iff_ne]; omega
        obtain ⟨sl, ol, rfl, hsl, hcl3⟩ := HPL.out (by omega)
        have L0 : 0 < l.length := by omega
        have LP : (0 : Int) < ((l.length : Nat) : Int) := by omega
        obtain ⟨xf, hxf⟩ : ∃ x, l[0]? = some x := ⟨_, List.getElem?_eq_getElem L0⟩
        have y0 : wa.cell? ⟨sl, ol, none⟩ = some (.int .i64 xf) := (HBW.out.cell (p := ⟨sl, ol, none⟩) hsl).trans (hcl3 0 xf hxf)
        have HXF : Hid (l.getD 0 0 = xf) := by rw [Hid, List.getD_eq_getElem?_getD, hxf]; rfl
        have HCL3 := hid_of hcl3
        clear hl0 hxf hcl3
        by_cases hfc : xf = ((c : Nat) : Int)
        · subst hfc
          have q1 : ((((c : Nat) : Int)) != ((c : Nat) : Int)) = false := by simp
          go_wp2_with fail
          clear c0 c3 x0 y0 q0 q1
          go_loopg [5, 6] g.evs.length (fun f v5 v6 wr => ∃ i : Nat, v6 = .int .i64 ((i : Nat) : Int) ∧ v5 = .int .i64 (((wrs g ((c : Nat) : Int) i).length : Nat) : Int) ∧ i ≤ g.evs.length ∧ Hid (i + f = g.evs.length) ∧ wr = wa)
          case atStart => exact ⟨0, rfl, rfl, Nat.zero_le _, Nat.zero_add _, rfl⟩
          case round =>
            obtain ⟨i, rfl, rfl, hi0, HKG, rfl⟩ := hrel
            have I0 : (0 : Int) ≤ ((i : Nat) : Int) := by omega
            by_cases hil : i < g.evs.length
            · have I1 : ((i : Nat) : Int) < ((g.evs.length : Nat) : Int) := by omega
              obtain ⟨s, o, rfl, hat⟩ := HP.out (by omega)
              have x1 := (hat.below HBW.out).c1 i _ (Gr.ev_at hil)
              have x2 := (hat.below HBW.out).c2 i _ (Gr.ev_at hil)
              have hwl := wrs_len g ((c : Nat) : Int) i
              clear hat
              by_cases hk : (g.ev i).k = 2
              · have q2 : (((g.ev i).k : Int) == 2) = true := by rw [beq_iff_eq]; exact hk
                by_cases hlc : (g.ev i).l = ((c : Nat) : Int)
                · have q3 : (((g.ev i).l : Int) == ((c : Nat) : Int)) = true := by rw [beq_iff_eq]; exact hlc
                  have HS : Hid ((wrs g ((c : Nat) : Int) (i + 1)).length = (wrs g ((c : Nat) : Int) i).length + 1) := by rw [Hid, wrs_hit (by simp [isWr, hk, hlc])]; simp
                  clear hk hlc
                  generalize (wrs g ((c : Nat) : Int) i).length = nn at *
                  go_wp2_with fail
                  go_roundg (g.evs.length - (i + 1))
                  case measure => have := HKG.out; omega
                  case rel => exact ⟨i + 1, by go_num, by rw [HS.out]; go_num, by omega, by have := HKG.out; rw [Hid]; omega, rfl⟩
                · have q3 : (((g.ev i).l : Int) == ((c : Nat) : Int)) = false := by rw [beq_eq_false_iff_ne]; exact hlc
                  have HS : Hid ((wrs g ((c : Nat) : Int) (i + 1)).length = (wrs g ((c : Nat) : Int) i).length) := by rw [Hid, wrs_miss (by simp [isWr, hlc])]
                  clear hk hlc
                  go_wp2_with fail
                  go_roundg (g.evs.length - (i + 1))
                  case measure => have := HKG.out; omega
                  case rel => exact ⟨i + 1, by go_num, by rw [HS.out], by omega, by have := HKG.out; rw [Hid]; omega, rfl⟩
              · have q2 : (((g.ev i).k : Int) == 2) = false := by rw [beq_eq_false_iff_ne]; exact hk
                have HS : Hid ((wrs g ((c : Nat) : Int) (i + 1)).length = (wrs g ((c : Nat) : Int) i).length) := by rw [Hid, wrs_miss (by simp [isWr, hk])]
                clear hk
                go_wp2_with fail
                go_roundg (g.evs.length - (i + 1))
                case measure => have := HKG.out; omega
                case rel => exact ⟨i + 1, by go_num, by rw [HS.out], by omega, by have := HKG.out; rw [Hid]; omega, rfl⟩
            · obtain rfl : i = g.evs.length := by omega
              by_cases hll : l.length = (wrs g ((c : Nat) : Int) g.evs.length).length
              · have q4 : (((l.length : Nat) : Int) != (((wrs g ((c : Nat) : Int) g.evs.length).length : Nat) : Int)) = false := by rw [hll]; simp
                have HORD : Hid (coOk g ((c : Nat) : Int) l → isOrdB l ((c : Nat) : Int) (wrs g ((c : Nat) : Int) g.evs.length) = true) := fun h => ord_of_co hll HXF.out h
                have HNOT : Hid (¬ coOk g ((c : Nat) : Int) l → isOrdB l ((c : Nat) : Int) (wrs g ((c : Nat) : Int) g.evs.length) = false) := fun h => by
                  cases e : isOrdB l ((c : Nat) : Int) (wrs g ((c : Nat) : Int) g.evs.length)
                  · rfl
                  · exact absurd (co_of_ord e).2.2 h
                clear hll hil
                generalize (wrs g ((c : Nat) : Int) g.evs.length).length = nw at *
                go_wp2_with fail
                clear q4 c1
                go_loopg [7] l.length (fun f v7 wr => ∃ i : Nat, v7 = .int .i64 ((i : Nat) : Int) ∧ i ≤ l.length ∧ Hid (i + f = l.length) ∧ Hid (coUp g ((c : Nat) : Int) l i) ∧ Hid (Below W0.heap.size W0 wr))
                case atStart => exact ⟨0, rfl, Nat.zero_le _, Nat.zero_add _, coUp_zero _ _ _, HW.out⟩
                case round =>
                  obtain ⟨ii, rfl, hi1, HKH, HUP, HW2⟩ := hrel
                  generalize hwq2 : wr = wb at *
                  clear hwq2
                  have HBb : Hid (Below w.heap.size w wb) := below_step HB.out HB.out.size HW2.out
                  have J0 : (0 : Int) ≤ ((ii : Nat) : Int) := by omega
                  by_cases hil2 : ii < l.length
                  · have J1 : ((ii : Nat) : Int) < ((l.length : Nat) : Int) := by omega
                    obtain ⟨x, hx⟩ : ∃ x, l[ii]? = some x := ⟨_, List.getElem?_eq_getElem hil2⟩
                    have HXX := hid_of hx
                    have HGb := hid_of (HG.out.of_below HW2.out)
                    have HSL : Hid (sl < wb.heap.size) := Nat.lt_of_lt_of_le hsl HBb.out.size
                    have z9 : wb.cell? ⟨sl, ol + ii, none⟩ = some (.int .i64 x) := (HBb.out.cell (p := ⟨sl, ol + ii, none⟩) hsl).trans (HCL3.out ii x hx)
                    have HC0 := hid_of (r8is_calls _ g x 2 wb.drew (H.out.below HBb.out.drew))
                    unfold GrV.val at HC0
                    dsimp only at HC0
                    rw [HN.out] at HC0
                    clear hx
                    go_upto_region 18 with fail
                    generalize hgbn : w.heap.size = gb at *
                    have HZ : Hid (∀ W, Below wb.heap.size wb W → W.cell? ⟨gb, 0, none⟩ = some (.int .i64 ((nc : Nat) : Int)) ∧ W.cell? ⟨gb, 1, none⟩ = some (.slice pe g.evs.length ce) ∧ W.cell? ⟨gb, 2, none⟩ = some (Vr) ∧ W.cell? ⟨gb, 3, none⟩ = some (.slice (some ⟨sc, oc, none⟩) g.co.length cc2) ∧ W.cell? ⟨gb, 4, none⟩ = some (Vm) ∧ W.cell? ⟨gb, 5, none⟩ = some (Va) ∧ W.cell? ⟨gb, 6, none⟩ = some (Vd) ∧ W.cell? ⟨gb, 7, none⟩ = some (Vt) ∧ W.cell? ⟨sl, ol + ii, none⟩ = some (.int .i64 x)) := fun W hW => ⟨(HGb.out.of_below hW).cell rfl, (HGb.out.of_below hW).cell rfl, (HGb.out.of_below hW).cell rfl, (HGb.out.of_below hW).cell rfl, (HGb.out.of_below hW).cell rfl, (HGb.out.of_below hW).cell rfl, (HGb.out.of_below hW).cell rfl, (HGb.out.of_below hW).cell rfl, (hW.cell (p := ⟨sl, ol + ii, none⟩) HSL.out).trans z9⟩
                    clear z9
                    go_cut [94] (fun v94 wx => v94 = .bool (!(coAt g ((c : Nat) : Int) x)) ∧ Hid (Below wb.heap.size wb wx))
                    case rest =>
                      obtain ⟨rfl, HX⟩ := hcut
                      generalize hwz : wc = wz at *
                      clear hwz
                      have HXW : Hid (Below gb w wz) := HBb.out.trans (HX.out.mono (by rw [← hgbn]; exact HBb.out.size))
                      have HWZ : Hid (Below W0.heap.size W0 wz) := HW2.out.trans (HX.out.mono HW2.out.size)
                      cases hok : coAt g ((c : Nat) : Int) x
                      · obtain rfl := HBAD.out (HNOT.out (fun h => by
                          have := coAt_iff.2 (h.1 ii x HXX.out)
                          rw [hok] at this
                          cases this))
                        clear hok
                        go_wp2_with fail
                        go_ret
                        exact ⟨rfl, HXW.out⟩
                      · have HOK := hid_of hok
                        clear hok
                        go_wp2_with fail
                        go_loopg [8] ii (fun f v8 wr => ∃ j : Nat, v8 = .int .i64 ((j : Nat) : Int) ∧ j ≤ ii ∧ Hid (j + f = ii) ∧ Hid (∀ t, t < j → l[t]? ≠ some x) ∧ Hid (Below wz.heap.size wz wr))
                        case atStart => exact ⟨0, rfl, Nat.zero_le _, Nat.zero_add _, (fun t h => by omega), Below.refl _ _⟩
                        case round =>
                          obtain ⟨j, rfl, hj1, HKJ, HNO, HV⟩ := hrel
                          generalize hwy : wr = wy at *
                          clear hwy
                          have HYW : Hid (Below gb w wy) := HXW.out.trans (HV.out.mono (by rw [← hgbn]; exact HXW.out.size))
                          have P0 : (0 : Int) ≤ ((j : Nat) : Int) := by omega
                          by_cases hji : j < ii
                          · have P1 : ((j : Nat) : Int) < ((ii : Nat) : Int) := by omega
                            have P2 : ((j : Nat) : Int) < ((l.length : Nat) : Int) := by omega
                            obtain ⟨y, hy⟩ : ∃ y, l[j]? = some y := ⟨_, List.getElem?_eq_getElem (by omega)⟩
                            have z1 : wy.cell? ⟨sl, ol + j, none⟩ = some (.int .i64 y) := (HYW.out.cell (p := ⟨sl, ol + j, none⟩) hsl).trans (HCL3.out j y hy)
                            have z2 : wy.cell? ⟨sl, ol + ii, none⟩ = some (.int .i64 x) := (HYW.out.cell (p := ⟨sl, ol + ii, none⟩) hsl).trans (HCL3.out ii x HXX.out)
                            by_cases hxy : y = x
                            · have q5 : ((y : Int) == x) = true := by rw [beq_iff_eq]; exact hxy
                              obtain rfl := HBAD.out (HNOT.out (fun h => h.2 ii j x hji HXX.out (by rw [hy, hxy])))
                              clear hxy hy
                              go_wp2_with fail
                              go_quiet (fail)
                              go_wp2_with fail
                              go_ret
                              exact ⟨rfl, by rw [hgbn]; exact below_drewN HYW.out _⟩
                            · have q5 : ((y : Int) == x) = false := by rw [beq_eq_false_iff_ne]; exact hxy
                              have HNO2 : Hid (∀ t, t < j + 1 → l[t]? ≠ some x) := fun t ht => by
                                by_cases e : t = j
                                · rw [e, hy]; simpa using hxy
                                · exact HNO.out t (by omega)
                              clear hxy hy
                              go_wp2_with fail
                              go_quiet (fail)
                              go_wp2_with fail
                              go_roundg (ii - (j + 1))
                              case measure => have := HKJ.out; omega
                              case rel => exact ⟨j + 1, by go_num, by omega, by have := HKJ.out; rw [Hid]; omega, HNO2.out, below_drewN HV.out _⟩
                          · have P1 : ¬ (((j : Nat) : Int) < ((ii : Nat) : Int)) := by omega
                            have HUP2 : Hid (coUp g ((c : Nat) : Int) l (ii + 1)) := coUp_succ HUP.out HXX.out HOK.out (fun t ht => HNO.out t (by omega))
                            go_wp2_with fail
                            go_roundg (l.length - (ii + 1))
                            case measure => have := HKH.out; omega
                            case rel => exact ⟨ii + 1, by go_num, by omega, by have := HKH.out; rw [Hid]; omega, HUP2.out, HWZ.out.trans (HV.out.mono HWZ.out.size)⟩
                    case first =>
                    cases his : isB g.evs x [2]
                    · rw [his] at HC0
                      have HC := HC0
                      have HO : Hid (coAt g ((c : Nat) : Int) x = false) := by rw [Hid]; unfold coAt; rw [his]; rfl
                      clear HC0 his
                      refine wp_region_held_drew (S := (fun w' => w'.cell? ⟨gb, 0, none⟩ = some (.int .i64 ((nc : Nat) : Int)) ∧ w'.cell? ⟨gb, 1, none⟩ = some (.slice pe g.evs.length ce) ∧ w'.cell? ⟨gb, 2, none⟩ = some (Vr) ∧ w'.cell? ⟨gb, 3, none⟩ = some (.slice (some ⟨sc, oc, none⟩) g.co.length cc2) ∧ w'.cell? ⟨gb, 4, none⟩ = some (Vm) ∧ w'.cell? ⟨gb, 5, none⟩ = some (Va) ∧ w'.cell? ⟨gb, 6, none⟩ = some (Vd) ∧ w'.cell? ⟨gb, 7, none⟩ = some (Vt) ∧ w'.cell? ⟨sl, ol + ii, none⟩ = some (.int .i64 x))) (by kernel_rfl) (HZ.out _ (Below.refl _ _).drew) (fun hHeld => ?_)
                      refine tk 0 rfl ?_; simp only [zz]
                      refine tk 1 rfl ?_; simp only [zz]
                      refine tk 2 rfl ?_; simp only [zz]
                      refine tk 3 rfl ?_; simp only [zz]
                      refine tk 4 rfl ?_; simp only [zz]
                      refine wpAnyH_ready (rs := [5]) (by kernel_rfl) (by simp) ?_
                      refine AllReadyH.cons rfl (fun K hK => ?_) AllReadyH.nil
                      simp only [z1, z2, z3]
                      go_simp
                      refine HC.out.mono ?_
                      rintro e w5 ⟨rfl, hB5⟩
                      have hX5 : Below wb.heap.size wb w5 := ((Below.refl wb.heap.size wb).drew).trans hB5
                      refine hK.out _ _ (HZ.out w5 hX5) (fun hHeld => ?_)
                      clear hK K
                      try simp only [zz]
                      refine tk 6 rfl ?_; simp only [zz]
                      refine tk 7 rfl ?_; simp only [zz]
                      refine tu 8 rfl ?_; simp only [zz]
                      refine tu 9 rfl ?_; simp only [zz]
                      refine tu 10 rfl ?_; simp only [zz]
                      refine tu 11 rfl ?_; simp only [zz]
                      refine tu 12 rfl ?_; simp only [zz]
                      refine tu 13 rfl ?_; simp only [zz]
                      refine tu 14 rfl ?_; simp only [zz]
                      refine tu 15 rfl ?_; simp only [zz]
                      refine tu 16 rfl ?_; simp only [zz]
                      refine tu 17 rfl ?_; simp only [zz]
                      refine tu 18 rfl ?_; simp only [zz]
                      refine tk 19 rfl ?_; simp only [zz]
                      refine wpAnyH_done (by kernel_rfl) ?_ _
                      go_wp2_with fail
                      go_meet
                      exact ⟨by rw [HO.out]; rfl, hX5⟩
                    · rw [his] at HC0
                      have HC := HC0
                      obtain ⟨n, rfl, hn⟩ := isB_nat his
                      have N0 : (0 : Int) ≤ ((n : Nat) : Int) := by omega
                      have N1 : ((n : Nat) : Int) < ((g.evs.length : Nat) : Int) := by omega
                      obtain ⟨s, o, rfl, hat⟩ := HP.out (by omega)
                      have z0 := (hat.below (by rw [hgbn]; exact HBb.out)).c2 n _ (Gr.ev_at hn)
                      have hs := (hat.below (by rw [hgbn]; exact HBb.out)).lt
                      have HO5 : Hid (coAt g ((c : Nat) : Int) ((n : Nat) : Int) = decide ((g.ev n).l = ((c : Nat) : Int))) := by rw [Hid]; unfold coAt; rw [his, Int.toNat_natCast, Bool.true_and]
                      generalize (g.ev n).l = la at *
                      have HZ2 : Hid (∀ W, Below wb.heap.size wb W → W.cell? ⟨gb, 0, none⟩ = some (.int .i64 ((nc : Nat) : Int)) ∧ W.cell? ⟨gb, 1, none⟩ = some (.slice (some ⟨s, o, none⟩) g.evs.length ce) ∧ W.cell? ⟨gb, 2, none⟩ = some (Vr) ∧ W.cell? ⟨gb, 3, none⟩ = some (.slice (some ⟨sc, oc, none⟩) g.co.length cc2) ∧ W.cell? ⟨gb, 4, none⟩ = some (Vm) ∧ W.cell? ⟨gb, 5, none⟩ = some (Va) ∧ W.cell? ⟨gb, 6, none⟩ = some (Vd) ∧ W.cell? ⟨gb, 7, none⟩ = some (Vt) ∧ W.cell? ⟨sl, ol + ii, none⟩ = some (.int .i64 ((n : Nat) : Int)) ∧ W.cell? ⟨s, o + n * 5 + 2, none⟩ = some (.int .i64 la)) := fun W hW => by
                        obtain ⟨a0, a1, a2, a3, a4, a5, a6, a7, a8⟩ := HZ.out W hW
                        exact ⟨a0, a1, a2, a3, a4, a5, a6, a7, a8, (hW.cell (p := ⟨s, o + n * 5 + 2, none⟩) hs).trans z0⟩
                      clear HC0 his z0 hat
                      by_cases hll : la = ((c : Nat) : Int)
                      · have q3 : ((la : Int) != ((c : Nat) : Int)) = false := by simp [hll]
                        have HO : Hid (coAt g ((c : Nat) : Int) ((n : Nat) : Int) = true) := by rw [Hid, HO5.out, decide_eq_true hll]
                        clear hll
                        refine wp_region_held_drew (S := (fun w' => w'.cell? ⟨gb, 0, none⟩ = some (.int .i64 ((nc : Nat) : Int)) ∧ w'.cell? ⟨gb, 1, none⟩ = some (.slice (some ⟨s, o, none⟩) g.evs.length ce) ∧ w'.cell? ⟨gb, 2, none⟩ = some (Vr) ∧ w'.cell? ⟨gb, 3, none⟩ = some (.slice (some ⟨sc, oc, none⟩) g.co.length cc2) ∧ w'.cell? ⟨gb, 4, none⟩ = some (Vm) ∧ w'.cell? ⟨gb, 5, none⟩ = some (Va) ∧ w'.cell? ⟨gb, 6, none⟩ = some (Vd) ∧ w'.cell? ⟨gb, 7, none⟩ = some (Vt) ∧ w'.cell? ⟨sl, ol + ii, none⟩ = some (.int .i64 ((n : Nat) : Int)) ∧ w'.cell? ⟨s, o + n * 5 + 2, none⟩ = some (.int .i64 la))) (by kernel_rfl) (HZ2.out _ (Below.refl _ _).drew) (fun hHeld => ?_)
                        refine tk 0 rfl ?_; simp only [zz]
                        refine tk 1 rfl ?_; simp only [zz]
                        refine tk 2 rfl ?_; simp only [zz]
                        refine tk 3 rfl ?_; simp only [zz]
                        refine tk 4 rfl ?_; simp only [zz]
                        refine wpAnyH_ready (rs := [5]) (by kernel_rfl) (by simp) ?_
                        refine AllReadyH.cons rfl (fun K hK => ?_) AllReadyH.nil
                        simp only [z1, z2, z3]
                        go_simp
                        refine HC.out.mono ?_
                        rintro e w5 ⟨rfl, hB5⟩
                        have hX5 : Below wb.heap.size wb w5 := ((Below.refl wb.heap.size wb).drew).trans hB5
                        refine hK.out _ _ (HZ2.out w5 hX5) (fun hHeld => ?_)
                        clear hK K
                        try simp only [zz]
                        refine tk 6 rfl ?_; simp only [zz]
                        refine tk 7 rfl ?_; simp only [zz]
                        refine tk 8 rfl ?_; simp only [zz]
                        refine tk 9 rfl ?_; simp only [zz]
                        refine tk 10 rfl ?_; simp only [zz]
                        refine tk 11 rfl ?_; simp only [zz]
                        refine tk 12 rfl ?_; simp only [zz]
                        refine tk 13 rfl ?_; simp only [zz]
                        refine tk 14 rfl ?_; simp only [zz]
                        refine tk 15 rfl ?_; simp only [zz]
                        refine tk 16 rfl ?_; simp only [zz]
                        refine tk 17 rfl ?_; simp only [zz]
                        refine tk 18 rfl ?_; simp only [zz]
                        refine tk 19 rfl ?_; simp only [zz]
                        refine wpAnyH_done (by kernel_rfl) ?_ _
                        go_wp2_with fail
                        go_meet
                        exact ⟨by rw [HO.out]; rfl, hX5⟩
                      · have q3 : ((la : Int) != ((c : Nat) : Int)) = true := by simp [hll]
                        have HO : Hid (coAt g ((c : Nat) : Int) ((n : Nat) : Int) = false) := by rw [Hid, HO5.out, decide_eq_false hll]
                        clear hll
                        refine wp_region_held_drew (S := (fun w' => w'.cell? ⟨gb, 0, none⟩ = some (.int .i64 ((nc : Nat) : Int)) ∧ w'.cell? ⟨gb, 1, none⟩ = some (.slice (some ⟨s, o, none⟩) g.evs.length ce) ∧ w'.cell? ⟨gb, 2, none⟩ = some (Vr) ∧ w'.cell? ⟨gb, 3, none⟩ = some (.slice (some ⟨sc, oc, none⟩) g.co.length cc2) ∧ w'.cell? ⟨gb, 4, none⟩ = some (Vm) ∧ w'.cell? ⟨gb, 5, none⟩ = some (Va) ∧ w'.cell? ⟨gb, 6, none⟩ = some (Vd) ∧ w'.cell? ⟨gb, 7, none⟩ = some (Vt) ∧ w'.cell? ⟨sl, ol + ii, none⟩ = some (.int .i64 ((n : Nat) : Int)) ∧ w'.cell? ⟨s, o + n * 5 + 2, none⟩ = some (.int .i64 la))) (by kernel_rfl) (HZ2.out _ (Below.refl _ _).drew) (fun hHeld => ?_)
                        refine tk 0 rfl ?_; simp only [zz]
                        refine tk 1 rfl ?_; simp only [zz]
                        refine tk 2 rfl ?_; simp only [zz]
                        refine tk 3 rfl ?_; simp only [zz]
                        refine tk 4 rfl ?_; simp only [zz]
                        refine wpAnyH_ready (rs := [5]) (by kernel_rfl) (by simp) ?_
                        refine AllReadyH.cons rfl (fun K hK => ?_) AllReadyH.nil
                        simp only [z1, z2, z3]
                        go_simp
                        refine HC.out.mono ?_
                        rintro e w5 ⟨rfl, hB5⟩
                        have hX5 : Below wb.heap.size wb w5 := ((Below.refl wb.heap.size wb).drew).trans hB5
                        refine hK.out _ _ (HZ2.out w5 hX5) (fun hHeld => ?_)
                        clear hK K
                        try simp only [zz]
                        refine tk 6 rfl ?_; simp only [zz]
                        refine tk 7 rfl ?_; simp only [zz]
                        refine tk 8 rfl ?_; simp only [zz]
                        refine tk 9 rfl ?_; simp only [zz]
                        refine tk 10 rfl ?_; simp only [zz]
                        refine tk 11 rfl ?_; simp only [zz]
                        refine tk 12 rfl ?_; simp only [zz]
                        refine tk 13 rfl ?_; simp only [zz]
                        refine tk 14 rfl ?_; simp only [zz]
                        refine tk 15 rfl ?_; simp only [zz]
                        refine tk 16 rfl ?_; simp only [zz]
                        refine tk 17 rfl ?_; simp only [zz]
                        refine tk 18 rfl ?_; simp only [zz]
                        refine tk 19 rfl ?_; simp only [zz]
                        refine wpAnyH_done (by kernel_rfl) ?_ _
                        go_wp2_with fail
                        go_meet
                        exact ⟨by rw [HO.out]; rfl, hX5⟩
                  · obtain rfl : ii = l.length := by omega
                    have HALL2 := hid_of (HOKN.out (HORD.out (coUp_all HUP.out)))
                    go_wp2_with fail
                    go_roundg (nc - (c + 1))
                    case measure => have := HKF.out; omega
                    case rel => exact ⟨c + 1, by go_num, by omega, by omega, by have := HKF.out; rw [Hid]; omega, HALL2.out, HW2.out⟩
              · have q4 : (((l.length : Nat) : Int) != (((wrs g ((c : Nat) : Int) g.evs.length).length : Nat) : Int)) = true := by rw [bne_iff_ne]; omega
                obtain rfl := HBAD.out (by
                  cases e : isOrdB l ((c : Nat) : Int) (wrs g ((c : Nat) : Int) g.evs.length)
                  · rfl
                  · exact absurd (ord_parts e).1 hll)
                clear hll
                go_wp2_with fail
                go_ret
                exact ⟨rfl, HBW.out⟩
        · have q1 : ((xf : Int) != ((c : Nat) : Int)) = true := by rw [bne_iff_ne]; exact hfc
          obtain rfl := HBAD.out (by
            cases e : isOrdB l ((c : Nat) : Int) (wrs g ((c : Nat) : Int) g.evs.length)
            · rfl
            · exact absurd (HXF.out.symm.trans (ord_parts e).2.1) hfc)
          clear hfc
          go_wp2_with fail
          go_ret
          exact ⟨rfl, HBW.out⟩
    · by_cases hcn2 : c < nc
      · obtain rfl : c = g.co.length := by omega
        obtain rfl : res = ((g.co.length : Nat) : Int) := by
          rw [← HR.out]
          exact bad5_hit HN.out hcn2 HALL.out (by unfold bad5c; rw [decide_eq_true (Nat.le_refl _)]; rfl)
        have d1 : ((g.co.length : Nat) : Int) < ((nc : Nat) : Int) := by omega
        go_wp2_with fail
        go_ret
        exact ⟨rfl, HBW.out⟩
      · obtain rfl : c = nc := by omega
        have e5 := HR.out.symm.trans (bad5_all HN.out HALL.out)
        by_cases hle : (g.co.length : Int) ≤ (c : Int)
        · rw [if_pos hle] at e5
          subst e5
          have d1 : ¬ (((g.co.length : Nat) : Int) < ((c : Nat) : Int)) := by omega
          go_wp2_with fail
          go_ret
          exact ⟨rfl, HBW.out⟩
        · rw [if_neg hle] at e5
          subst e5
          have d1 : ¬ (((g.co.length : Nat) : Int) < ((c : Nat) : Int)) := by omega
          have d2 : ((c : Nat) : Int) < ((g.co.length : Nat) : Int) := by omega
          go_wp2_with fail
          go_ret
          exact ⟨rfl, HBW.out⟩
end Go.Proofs.YthiijcappjaagaaGreatDoor
