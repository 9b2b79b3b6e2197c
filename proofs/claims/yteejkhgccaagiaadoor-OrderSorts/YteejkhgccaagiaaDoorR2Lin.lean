/- The contract of the reference's Linear. -/
import Derived.Test.YteejkhgccaagiaaDoorR2Math
namespace Go.Proofs.YteejkhgccaagiaaDoor
open Go.RowKit Go.Shelf Sx

theorem below_drewN' {B : Nat} {a w : World} (h : Below B a w) (m : Nat) : Below B a (w.drewN m) := ⟨h.os, h.tape, h.output, h.size, h.block⟩
structure LnA (w W : World) (n : Nat) (A : Value) (pl : List Int) : Prop where
  below : Below w.heap.size w W
  pls : Blk W (w.heap.size + 1) 3 (intsA pl)
  box : Blk W w.heap.size 46 #[.int .i64 ((n : Nat) : Int), A]
theorem LnA.drewN {w W : World} {n : Nat} {A : Value} {pl : List Int} (h : LnA w W n A pl) (m : Nat) : LnA w (W.drewN m) n A pl := ⟨below_drewN' h.below m, h.pls, h.box⟩
set_option maxRecDepth 100000 in
set_option maxHeartbeats 4000000 in
theorem r2lin_calls (lo n : Nat) (hn : n ≤ 256) (x : Option Addr) (y z : Nat) (rb : Nat → Nat) (F : Nat → Nat → Bool) (v : Value) (l : List Int) (w : World) (h : RefM lo w (.slice x y z) n n rb F) (hv : IntsR w v l) :
    Calls Tryd.prog 23 #[.agg #[.int .i64 ((n : Nat) : Int), .slice x y z], v] w fun e w' => e = .returned (.bool (linR n F l)) ∧ Below w.heap.size w w' := by
  obtain ⟨p, cap, rfl, hp⟩ := intsR_form hv
  clear hv
  have hmk := make_ints n (by omega)
  have hb := Blk.new w 46 #[.int .i64 ((n : Nat) : Int), .slice x y z]
  have hbA := hb.alloc (.cells (intsA (List.replicate n 0)) 3)
  have hPA : Blk ((w.alloc (.cells #[.int .i64 ((n : Nat) : Int), .slice x y z] 46)).alloc (.cells (intsA (List.replicate n 0)) 3)) (w.heap.size + 1) 3 (intsA (List.replicate n 0)) := by have := Blk.new (w.alloc (.cells #[.int .i64 ((n : Nat) : Int), .slice x y z] 46)) 3 (intsA (List.replicate n 0)); rwa [World.size_alloc] at this
  have hB0 : Below w.heap.size w ((w.alloc (.cells #[.int .i64 ((n : Nat) : Int), .slice x y z] 46)).alloc (.cells (intsA (List.replicate n 0)) 3)) := ((Below.refl _ _).alloc (Nat.le_refl _) _).alloc (by simp) _
  have b0 := hbA.cell (j := 0) rfl
  by_cases hln : l.length = n
  · have e0 : putsF n l 0 (List.replicate n 0) = none → linR n F l = false := fun e => by simp [linR, e]
    have HE0 := hid_of e0
    have e1 : ∀ pl, putsF n l 0 (List.replicate n 0) = some pl → linR n F l = allR n F pl := fun pl e => by simp [linR, e, hln]
    have HE1 := hid_of e1
    clear e0 e1
    rw [hln]
    have hne : ((n : Int) != (n : Int)) = false := by simp
    have HLN := hid_of hln
    have HB := hid_of hB0
    have HbA := hid_of hbA
    have HPA := hid_of hPA
    clear hB0 hbA hPA hln
    go_enter Tryd.func23, Tryd.ntmps23
    go_wp2_with fail
    clear b0 hmk
    go_loopw [6] (fun i wr => ∃ (k : Nat) (pl : List Int), k ≤ n ∧ i = .int .i64 k ∧ pl.length = n ∧ Blk wr (w.heap.size + 1) 3 (intsA pl) ∧ Blk wr w.heap.size 46 #[.int .i64 ((n : Nat) : Int), .slice x y z] ∧ Hid (putsF n l 0 (List.replicate n 0) = putsF n (l.drop k) k pl) ∧ Below w.heap.size w wr) (fun i _ => n - (intOf i).toNat)
    case atStart => exact ⟨0, _, by omega, rfl, by simp, HPA.out, HbA.out, rfl, HB.out⟩
    case round =>
      obtain ⟨k, pl, hk, rfl, hpl, hP, hQ, HC, hBl⟩ := hrel
      have q0 := hQ.cell (j := 0) rfl
      by_cases hlt : k < n
      · obtain ⟨s, o, rfl, hs, hc⟩ := hp (by have := HLN.out; omega)
        obtain ⟨u, hx⟩ : ∃ u, l[k]? = some u := ⟨_, List.getElem?_eq_getElem (by have := HLN.out; omega)⟩
        have c0 := (hBl.cell (p := ⟨s, o + k, none⟩) hs).trans (hc k u hx)
        have HE : Hid (_ = _) := HC.out.trans (putsF_step hx)
        have k0 : (0 : Int) ≤ (k : Int) := by omega
        have k1 : (k : Int) < (n : Int) := by omega
        clear HC hx hc
        by_cases hneg : u < 0
        · have HI : Hid (inR n u = false) := by show _ = _; simp [inR]; omega
          go_wp2_with fail
          go_quiet (fail)
          go_wp2_with fail
          go_ret
          have := HE.out
          rw [HI.out, if_neg (by simp)] at this
          have hr : linR n F l = false := HE0.out this
          exact ⟨by rw [hr]; rfl, below_drewN' hBl _⟩
        · have hneg2 : decide (u < 0) = false := by simpa using hneg
          by_cases hge : (n : Int) ≤ u
          · have HI : Hid (inR n u = false) := by show _ = _; simp [inR]; omega
            go_wp2_with fail
            go_quiet (fail)
            go_wp2_with fail
            go_ret
            have := HE.out
            rw [HI.out, if_neg (by simp)] at this
            have hr : linR n F l = false := HE0.out this
            exact ⟨by rw [hr]; rfl, below_drewN' hBl _⟩
          · have hi : inR n u = true := by simp [inR]; omega
            obtain ⟨j, rfl, hj⟩ := inR_true hi
            rw [hi] at HE
            clear hi
            have hge2 : ¬ n ≤ j := by omega
            have hge3 : decide ((n : Int) ≤ (j : Int)) = false := by simp; omega
            have hge4 : decide (n ≤ j) = false := by simp; omega
            clear hge
            have hj2 : j < pl.length := by omega
            have d0 := hP.cellI (List.getElem?_eq_getElem hj2)
            have f0 := hP.frozen j
            have j0 : (0 : Int) ≤ (j : Int) := by omega
            have j1 : (j : Int) < (n : Int) := by omega
            have HG : Hid (pl.getD (((j : Nat) : Int)).toNat 0 = pl[j]) := by show _ = _; simp [List.getD, hj2]
            cases hz : (pl[j] != 0)
            · have HZ : Hid (pl[j] = 0) := by show _ = _; simpa using hz
              generalize pl[j] = yy at *
              go_wp2_with fail
              go_quiet (fail)
              go_wp2_with fail
              refine ⟨⟨k + 1, pl.set j ((k : Int) + 1), by omega, by go_num, by simpa using hpl, (hP.drewN _).setI _ _, (hQ.drewN _).setOther (by simp) _, ?_, (below_drewN' hBl _).setCell (by simp) _⟩, by simp [intOf]; omega⟩
              have := HE.out
              rw [if_pos ⟨by trivial, HG.out.trans HZ.out⟩] at this
              exact this
            · have HZ : Hid (¬ pl[j] = 0) := by show ¬ _; simpa using hz
              generalize pl[j] = yy at *
              go_wp2_with fail
              go_quiet (fail)
              go_wp2_with fail
              go_ret
              have := HE.out
              rw [if_neg (fun h => HZ.out (HG.out.symm.trans h.2))] at this
              have hr : linR n F l = false := HE0.out this
              exact ⟨by rw [hr]; rfl, below_drewN' hBl _⟩
      · have e1 := HC.out
        rw [List.drop_eq_nil_of_le (by have := HLN.out; omega), show putsF n [] k pl = some pl from rfl] at e1
        have hr : linR n F l = allR n F pl := HE1.out pl e1
        have HLR := hid_of hr
        clear e1 HC HE0 HE1 hr
        obtain ⟨r, HR⟩ : ∃ r, Hid (allR n F pl = r) := ⟨_, rfl⟩
        go_wp2_with fail
        go_loopw [7] (fun i wr2 => ∃ a : Nat, a ≤ n ∧ i = .int .i64 a ∧ LnA w wr2 n (.slice x y z) pl ∧ Hid (∀ c, c < a → rowR n F pl c = true)) (fun i _ => n - (intOf i).toNat)
        case atStart => exact ⟨0, by omega, rfl, ⟨hBl, hP, hQ⟩, fun c hc => by omega⟩
        case round =>
          clear q0 hP hQ hBl
          obtain ⟨a, ha, rfl, hLA, HA⟩ := hrel
          have q0 := hLA.box.cell (j := 0) rfl
          by_cases hlta : a < n
          · go_wp2_with fail
            clear q0
            go_loopw [8] (fun i wr2 => ∃ b : Nat, b ≤ n ∧ i = .int .i64 b ∧ LnA w wr2 n (.slice x y z) pl ∧ Hid (∀ c, c < b → (F a c && decide (pl.getD c 0 ≤ pl.getD a 0)) = false)) (fun i _ => n - (intOf i).toNat)
            case atStart => exact ⟨0, by omega, rfl, hLA, fun c hc => by omega⟩
            case round =>
              clear hLA
              obtain ⟨b, hbn, rfl, hLA, HBb⟩ := hrel
              have q0 := hLA.box.cell (j := 0) rfl
              by_cases hltb : b < n
              · have q1 := hLA.box.cell (j := 1) rfl
                have hP := hLA.pls
                obtain ⟨gm, capm, hM, _, _, _, m1, m2, _, _⟩ := (h.below hLA.below).at_ hlta hltb
                injection hM with hM1 hM2 hM3
                have e2 := hM2.symm
                have e3 := hM3.symm
                subst hM1; subst e2; subst e3
                have da := hP.cellI (i := a) (List.getElem?_eq_getElem (by omega))
                have db := hP.cellI (i := b) (List.getElem?_eq_getElem (by omega))
                have ga : pl.getD a 0 = pl[a]'(by omega) := by simp [List.getD, hpl, hlta]
                have gb : pl.getD b 0 = pl[b]'(by omega) := by simp [List.getD, hpl, hltb]
                rw [← ga] at da
                rw [← gb] at db
                clear ga gb
                have a0 : (0 : Int) ≤ (a : Int) := by omega
                have a1 : (a : Int) < (n : Int) := by omega
                have bb0 : (0 : Int) ≤ (b : Int) := by omega
                have bb1 : (b : Int) < (n : Int) := by omega
                have HT : Hid (rowR n F pl a = false ∨ ¬ (F a b && decide (pl.getD b 0 ≤ pl.getD a 0)) = true) := by
                  by_cases e : (F a b && decide (pl.getD b 0 ≤ pl.getD a 0)) = true
                  · left
                    unfold rowR
                    rw [List.all_eq_false]
                    exact ⟨b, List.mem_range.2 hltb, by rw [e]; decide⟩
                  · exact .inr e
                generalize hpa : pl.getD a 0 = pa at *
                generalize hpb : pl.getD b 0 = pb at *
                have HPa := hid_of hpa
                have HPb := hid_of hpb
                clear hpa hpb
                cases hF : F a b
                · rw [hF] at m2
                  have HF := hid_of hF
                  clear hF hP
                  go_wp2_with fail
                  go_quiet (fail)
                  go_wp2_with fail
                  refine ⟨⟨b + 1, by omega, by go_num, hLA.drewN _, ?_⟩, by simp [intOf]; omega⟩
                  intro c hc
                  by_cases e : c = b
                  · subst e; rw [HF.out]; rfl
                  · exact HBb.out c (by omega)
                · rw [hF] at m2
                  have HF := hid_of hF
                  clear hF
                  by_cases hle : pb ≤ pa
                  · have er : r = false := by
                      rw [← HR.out]
                      unfold allR
                      rw [List.all_eq_false]
                      refine ⟨a, List.mem_range.2 hlta, ?_⟩
                      rcases HT.out with e | e
                      · rw [e]; decide
                      · rw [HF.out] at e
                        simp [hle] at e
                    subst er
                    clear hP
                    go_wp2_with fail
                    go_quiet (fail)
                    go_wp2_with fail
                    go_ret
                    exact ⟨by rw [HLR.out, HR.out]; rfl, (hLA.drewN _).below⟩
                  · have hle2 : decide (pb ≤ pa) = false := by simpa using hle
                    clear hP
                    go_wp2_with fail
                    go_quiet (fail)
                    go_wp2_with fail
                    refine ⟨⟨b + 1, by omega, by go_num, hLA.drewN _, ?_⟩, by simp [intOf]; omega⟩
                    intro c hc
                    by_cases e : c = b
                    · subst e
                      rw [HPb.out, HF.out]
                      simp [hle]
                    · exact HBb.out c (by omega)
              · obtain rfl : b = n := by omega
                go_wp2_with fail
                refine ⟨⟨a + 1, by omega, by go_num, hLA, ?_⟩, by simp [intOf]; omega⟩
                intro c hc
                by_cases e : c = a
                · subst e
                  unfold rowR
                  rw [List.all_eq_true]
                  intro d hd
                  rw [HBb.out d (List.mem_range.1 hd)]
                  rfl
                · exact HA.out c (by omega)
          · obtain rfl : a = n := by omega
            have er : r = true := by
              rw [← HR.out]
              unfold allR
              rw [List.all_eq_true]
              intro c hc
              exact HA.out c (List.mem_range.1 hc)
            subst er
            go_wp2_with fail
            go_ret
            exact ⟨by rw [HLR.out, HR.out]; rfl, hLA.below⟩
  · have e0 : linR n F l = false := by simp [linR, hln]
    rw [e0]
    have hne : ((l.length : Int) != (n : Int)) = true := by simp; omega
    go_enter Tryd.func23, Tryd.ntmps23
    go_wp2_with fail
    go_ret
    exact ⟨rfl, hB0⟩
end Go.Proofs.YteejkhgccaagiaaDoor
