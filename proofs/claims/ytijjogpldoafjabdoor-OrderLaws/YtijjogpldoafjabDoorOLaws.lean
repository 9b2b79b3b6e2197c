/- The statement OrderLaws, walked. -/
import Derived.Test.YtijjogpldoafjabDoorJ17
import Derived.Test.YtijjogpldoafjabDoorJ15
import Derived.Test.YtijjogpldoafjabDoorJ14
import Derived.Test.YtijjogpldoafjabDoorJ13
import Derived.Test.YtijjogpldoafjabDoorJ08
import Derived.Deep.LoopGhost
import Derived.Deep.DeepCutAuto
namespace Go.Proofs.YtijjogpldoafjabDoor
open Go.RowKit Go.Shelf Sx

theorem encN_encJ (l : List Nat) : encN l = encJ (toI l) := by simp [encN, encJ, toI]
theorem glueF_len' (L : List Nat) (l : List (Int × Int)) : (glueF L l).1.length ≤ L.length := by
  unfold glueF
  split
  · simp
  · split
    · split
      · rename_i h
        rw [linB, Bool.and_eq_true, beq_iff_eq] at h
        have := h.1
        simp only [toI, List.length_map] at this
        exact Nat.le_of_eq this
      · simp
    · simp
/-- What stays through the whole walk. -/
structure LW (w W : World) (b c : Nat) (L : List Nat) (qb : Bool) (v3 : Value) : Prop where
  bel : Below w.heap.size w W
  rel : IsRel W b c L
  srt : qb = true → IntsR W v3 (toI (sortOf L))
theorem LW.step {w W W' : World} {b c : Nat} {L : List Nat} {qb : Bool} {v3 : Value} (h : LW w W b c L qb v3) (hb : Below W.heap.size W W') : LW w W' b c L qb v3 :=
  ⟨below_step h.bel h.bel.size hb, h.rel.below hb, fun e => (h.srt e).below hb⟩
set_option maxRecDepth 100000 in
set_option maxHeartbeats 16000000 in
theorem OrderLaws_calls (n : Int) (v1 v2 : Value) (l1 l2 : List (Int × Int)) (w : World) (hT : Tab w) (a1 : PArg w v1 l1) (a2 : PArg w v2 l2) :
    Calls Tryd.prog 3 #[.int .i64 n, v1, v2] w fun e w' => e = .returned (.bool true) ∧ Below w.heap.size w w' := by
  obtain ⟨i0, hi, hz0, hz1, hz2⟩ := info_parts Tryd.infoint
  go_enter Tryd.func3, Tryd.ntmps3
  go_wp2_with fail
  refine (OfT n v1 l1 _ a1).mono ?_
  rintro e w1 ⟨b, c, rfl, hM1⟩
  have hB1 := hM1.below
  have HR1 := hid_of hM1.rel
  have hn := hM1.rel.len
  have HLo := hid_of hM1.rel.low
  clear hM1
  generalize ofL n l1 = L at *
  go_wp2_with fail
  refine (lives2_calls w1 (hT.step hB1)).mono ?_
  rintro e w2 ⟨rfl, hB2⟩
  have hX2 : Below w.heap.size w w2 := below_step hB1 hB1.size hB2
  have HR2 := hid_of (HR1.out.below hB2)
  clear HR1 hB1 hB2
  go_wp2_with fail
  refine (oSort_calls b c L w2 HR2.out (hT.step hX2)).mono ?_
  rintro e w3 ⟨v3, code, rfl, hS3, hB3⟩
  have hX3 : Below w.heap.size w w3 := below_step hX2 hX2.size hB3
  have HR3 := hid_of (HR2.out.below hB3)
  obtain ⟨qb, HQB⟩ : ∃ qb : Bool, Hid ((loopsL (plusL L) == 0) = qb) := ⟨_, rfl⟩
  have HS : Hid ((qb = true → code = 0 ∧ w3.ownsRow w2.heap.size 3 1 v3 (toI (sortOf L)).length (encJ (toI (sortOf L)))) ∧ (qb = false → code = 3)) := by
    refine ⟨fun h => ?_, fun h => ?_⟩
    · have hz : loopsL (plusL L) = 0 := by have := HQB.out; rw [h, beq_iff_eq] at this; exact this
      have hl := (sort_acyc hn HLo.out).2 hz
      obtain ⟨h1, h2⟩ := hS3.1 hl
      refine ⟨h1, ?_⟩
      rw [toI_length, ← encN_encJ, hl]
      exact h2
    · refine (hS3.2 (fun hl => ?_)).1
      have hz := (sort_acyc hn HLo.out).1 hl
      have := HQB.out
      rw [h, hz] at this
      cases this
  obtain ⟨pa3, la3, ca3, rfl⟩ : ∃ pa la ca, v3 = .slice pa la ca := by
    cases hq : qb
    · have hl : ¬ (sortOf L).length = L.length := fun hl => by
        have hz := (sort_acyc hn HLo.out).1 hl
        have := HQB.out
        rw [hq, hz] at this
        cases this
      exact ⟨_, _, _, (hS3.2 hl).2⟩
    · exact owns_slice (HS.out.1 hq).2
  have HLW3 : Hid (LW w w3 b c L qb (.slice pa3 la3 ca3)) := ⟨hX3, HR3.out, fun h => owns_intsR (HS.out.1 h).2⟩
  clear hS3 HR2 hX2 hB3
  go_upto_region 5 with fail
  go_cut [54] (fun t wx => t = .bool false ∧ Hid (Below w3.heap.size w3 wx))
  case first => as_aux_lemma =>
    have hac := Acyclic_calls b c L w3 HR3.out
    rw [HQB.out] at hac
    cases qb
    · obtain rfl := HS.out.2 rfl
      go_wp2_with (go_at_call 7; refine hac.mono ?_; rintro e w4 ⟨rfl, hB4⟩)
      go_meet
      exact ⟨rfl, hB4⟩
    · obtain ⟨rfl, ho⟩ := HS.out.1 rfl
      have hz : loopsL (plusL L) = 0 := by have := HQB.out; rw [beq_iff_eq] at this; exact this
      have hlin : ∀ W, Below w3.heap.size w3 W → Calls Tryd.prog 8 #[pv b, .slice pa3 la3 ca3] W fun e w' => e = .returned (.bool true) ∧ Below W.heap.size W w' := fun W hW => by
        have := oLinear_calls b c L (.slice pa3 la3 ca3) (toI (sortOf L)) W (HR3.out.below hW) ((hT.step hX3).step hW) ((owns_intsR ho).below hW)
        rw [sort_lin hn HLo.out ((sort_acyc hn HLo.out).2 hz)] at this
        exact this
      have HLIN := hid_of hlin
      clear ho hz hlin
      go_wp2_with (first | (go_at_call 7; refine hac.mono ?_; rintro e w4 ⟨rfl, hB4⟩) | (go_at_call 8; refine (HLIN.out _ hB4).mono ?_; rintro e w4b ⟨rfl, hB4b⟩))
      go_meet
      exact ⟨rfl, below_step hB4 hB4.size hB4b⟩
  case rest =>
    obtain ⟨rfl, HB4⟩ := hcut
    have hX4 : Below w.heap.size w wc := below_step hX3 hX3.size HB4.out
    have HR4 := hid_of (HR3.out.below HB4.out)
    have HLW4 := hid_of (HLW3.out.step HB4.out)
    clear HR3 hX3 HB4 HLW3
    go_wp2_with fail
    refine (oGlue_calls b c L v2 l2 wc HR4.out (hT.step hX4) (by obtain ⟨p, cap, e, h, _⟩ := parg_form (a2.below hX4); exact ⟨p, cap, e, h⟩) (by obtain ⟨p, cap, e, h, h2⟩ := parg_form a2; exact h2)).mono ?_
    have hGL := glueF_len' L l2
    have HGLI : Hid ((glueF L l2).2 = 0 → linB L (toI (glueF L l2).1) = true) := glue_lin
    have HGTO : Hid ((glueF L l2).2 = 0 → ∀ x ∈ l2, ∃ j : Nat, (toI (glueF L l2).1)[j]? = some x.1 ∧ (toI (glueF L l2).1)[j + 1]? = some x.2) := glue_tog
    obtain ⟨rl, rc, HG⟩ : ∃ rl rc, Hid (glueF L l2 = (rl, rc)) := ⟨_, _, rfl⟩
    rw [HG.out] at hGL HGLI HGTO ⊢
    rintro e w5 ⟨⟨vg, rfl, hG1, hG2⟩, hB5⟩
    have hX5 : Below w.heap.size w w5 := below_step hX4 hX4.size hB5
    have HR5 := hid_of (HR4.out.below hB5)
    obtain ⟨pg, lg, cg, rfl⟩ : ∃ pa la ca, vg = .slice pa la ca := by
      by_cases h : rc = 0
      · exact owns_slice (hG1 h)
      · exact ⟨_, _, _, hG2 h⟩
    have HG1 : Hid (rc = 0 → IntsR w5 (.slice pg lg cg) (toI rl)) := fun h => by
      have := hG1 h
      simp only [] at this
      rw [encN_encJ] at this
      exact owns_intsR (base := wc.heap.size) (by rw [toI_length]; exact this)
    simp only [] at hGL HGLI HGTO
    have HLW5 := hid_of (HLW4.out.step hB5)
    clear hG1 hG2 HR4 hX4 hB5 HG HLW4
    go_upto_region 8 with fail
    go_cut [74] (fun t wx => t = .bool false ∧ Hid (Below w5.heap.size w5 wx))
    case first => as_aux_lemma =>
      by_cases hrc : rc = 0
      · subst hrc
        have hI5 := HG1.out rfl
        have hlin := oLinear_calls b c L (.slice pg lg cg) (toI rl) w5 HR5.out (hT.step hX5) hI5
        rw [HGLI.out rfl] at hlin
        have htog : ∀ W, Below w5.heap.size w5 W → Calls Tryd.prog 10 #[.slice pg lg cg, v2] W fun e w' => e = .returned (.bool true) ∧ Below W.heap.size W w' := fun W hW => together_calls _ v2 (toI rl) l2 W (hI5.below hW) (a2.below (below_step hX5 hX5.size hW)) (by rw [toI_length]; omega) (HGTO.out rfl)
        have HTOG := hid_of htog
        clear htog hI5
        go_wp2_with (first | (go_at_call 8; refine hlin.mono ?_; rintro e w6 ⟨rfl, hB6⟩) | (go_at_call 10; refine (HTOG.out _ hB6).mono ?_; rintro e w6b ⟨rfl, hB6b⟩))
        go_meet
        exact ⟨rfl, below_step hB6 hB6.size hB6b⟩
      · have q1 : ((rc : Int) == 0) = false := by rw [beq_eq_false_iff_ne]; exact hrc
        clear hrc
        go_wp2_with fail
        go_meet
        exact ⟨rfl, Below.refl _ _⟩
    case rest =>
      obtain ⟨rfl, HB6⟩ := hcut
      have HLW6 := hid_of (HLW5.out.step HB6.out)
      have HCE : Hid ((qb = true → code = 0) ∧ (qb = false → code = 3)) := ⟨fun h => (HS.out.1 h).1, HS.out.2⟩
      clear HR5 hX5 HB6 HLW5 HG1 HGLI HGTO hGL HS
      go_wp2_with fail
      refine (oComponents_calls b c L (tabF L) wc HLW6.out.rel (hT.step HLW6.out.bel) (tab_two L)).mono ?_
      rintro e w7 ⟨vc, vsc, rfl, hC7, hB7⟩
      have HLW7 := hid_of (HLW6.out.step hB7)
      have HC7 := hid_of hC7
      have HCO := hid_of (comps_ok hn HLo.out)
      have hbn : (compsL L).length ≤ 256 ∧ ∀ bl ∈ compsL L, bl.length ≤ 256 := by
        obtain ⟨f1, f2, f3⟩ := comps_flat hn HLo.out
        have hfl := sub_len _ (List.range L.length) f1 (fun x hx => List.mem_range.2 (f2 x hx))
        rw [List.length_range] at hfl
        refine ⟨?_, fun bl hbl => ?_⟩
        · obtain ⟨g1, g2, _⟩ := sortOf_good (betw L (clsK (bothE (cloB L)) L.length))
          rw [betw_length] at g2
          have h1 := sub_len _ (List.range (clsK (bothE (cloB L)) L.length).length) g1 (fun x hx => List.mem_range.2 (g2 x hx))
          rw [List.length_range] at h1
          have h2 := cls_len (bothE (cloB L)) L.length
          unfold compsL sbOf
          rw [List.length_map]
          omega
        · obtain ⟨A, B, e⟩ := flatten_mem hbl
          rw [e] at hfl
          simp at hfl
          omega
      have hfn : (compsL L).flatten.length ≤ 256 := by
        obtain ⟨f1, f2, f3⟩ := comps_flat hn HLo.out
        have hfl := sub_len _ (List.range L.length) f1 (fun x hx => List.mem_range.2 (f2 x hx))
        rw [List.length_range] at hfl
        omega
      have HFN : Hid (∀ k, ((compsL L).take k).flatten.length ≤ 256) := fun k => by
        have e : (compsL L).flatten = ((compsL L).take k).flatten ++ ((compsL L).drop k).flatten := by rw [← List.flatten_append, List.take_append_drop]
        rw [e, List.length_append] at hfn
        omega
      have HCL := hid_of (comps_lin hn HLo.out)
      have HCS : Hid (qb = true → (compsL L).flatten = sortOf L) := fun h => comps_sort hn HLo.out (by have := HQB.out; rw [h, beq_iff_eq] at this; exact this)
      have HBN := hid_of hbn.2
      have hcn := hbn.1
      generalize hcs : compsL L = cs at *
      clear hcs hbn hfn hC7 hB7 HLW6
      have hvl : vsc.length = cs.length := by have := HC7.out.rows.len; simpa using this
      have HVL := hid_of hvl
      have hvb : vsc.length ≤ 256 := by omega
      clear hvl
      obtain ⟨pc, cc, rfl⟩ := owns_len HC7.out.own
      go_wp2_with fail
      go_loopg [12, 14] vsc.length (fun f fl i wr => ∃ k : Nat, i = .int .i64 ((k : Nat) : Int) ∧ k ≤ vsc.length ∧ Hid (k + f = vsc.length) ∧ Hid (wr.ownsRow w7.heap.size 3 1 fl ((cs.take k).flatten).length (encJ (toI (cs.take k).flatten))) ∧ Hid (Below w7.heap.size w7 wr))
      case atStart => exact ⟨0, rfl, Nat.zero_le _, Nat.zero_add _, World.ownsRow_nil _ _ _ _, Below.refl _ _⟩
      case round =>
        obtain ⟨k, rfl, hk, HKF, HO, HB⟩ := hrel
        have hfk := HFN.out k
        obtain ⟨fl0, HFL⟩ : ∃ fl0, Hid (fl0 = (cs.take k).flatten) := ⟨_, rfl⟩
        rw [← HFL.out] at HO hfk
        obtain ⟨fa, fc, rfl⟩ := owns_len HO.out
        by_cases hlt : k < vsc.length
        · as_aux_lemma =>
            skip
            obtain ⟨x, hx⟩ : ∃ x, vsc[k]? = some x := ⟨_, List.getElem?_eq_getElem hlt⟩
            obtain ⟨bl, hbl⟩ : ∃ bl, cs[k]? = some bl := ⟨_, List.getElem?_eq_getElem (by rw [← HVL.out]; exact hlt)⟩
            have hbb := HBN.out bl (List.mem_of_getElem? hbl)
            have hC := HC7.out.step HB.out
            obtain ⟨s, capo, e1, hs1, hs2⟩ := owns_cells hC.own rfl (by omega)
            injection e1 with e1 _ e3
            subst e1
            have c0 := hs2 k x hx
            have ho := hC.rows.row k x (toI bl) hx (by rw [List.getElem?_map, hbl]; rfl)
            obtain ⟨u, tl, hbe, _⟩ := HCO.out.head k bl hbl
            obtain ⟨gx, ox, capx, rfl, hgx, hcx⟩ := (owns_intsR ho).some (by rw [toI_length, hbe]; simp)
            have k0 : (0 : Int) ≤ ((k : Nat) : Int) := by omega
            have k1 : ((k : Nat) : Int) < ((vsc.length : Nat) : Int) := by omega
            have HE : Hid ((cs.take (k + 1)).flatten = (cs.take k).flatten ++ bl) := by
              rw [Hid, List.take_add_one, hbl]
              simp
            have hnw : ∀ j u, (encJ (toI bl))[j]? = some u → wr.cell? ((⟨gx, ox, none⟩ : Addr).add j) = some u := fun j u hj => by
              rw [Addr.add_lit]
              unfold encJ at hj
              rw [List.getElem?_map] at hj
              cases hq : (toI bl)[j]? with
              | none => rw [hq] at hj; cases hj
              | some z =>
                rw [hq] at hj
                cases hj
                exact hcx j z hq
            have HNW := hid_of hnw
            have hzz := HB.out.size
            clear hx hbl hs2 hs1 ho hC hcx hnw hbe e3
            rw [toI_length] at c0
            go_wp2_with (at_builtin; refine wpList_append_own_at _ rfl _ _ 26 rfl w7.heap.size 3 i0 (.int .i64 0) 1 8 Tryd.underlying26 hi hz0 hz1 hz2 rfl (by decide) (.slice fa fl0.length fc) fl0.length (encJ (toI fl0)) rfl HO.out ⟨gx, ox, none⟩ bl.length capx (encJ (toI bl)) rfl (by simp [encJ, toI]) HNW.out (by intro u hu; obtain ⟨z, _, rfl⟩ := List.mem_map.1 hu; rfl) (by unfold maxLen; omega) (by omega) (by omega) ?_; intro v' w8 hown' hgrow _ _)
            have hb8 : Below w7.heap.size w7 w8 := HB.out.grown hgrow HB.out.size (fun q e => (HO.out.lt q e).1)
            go_roundg (vsc.length - (k + 1))
            case measure => have := HKF.out; omega
            case rel =>
              refine ⟨k + 1, by go_num, by omega, by have := HKF.out; rw [Hid]; omega, ?_, hb8⟩
              rw [Hid, HE.out, ← HFL.out, List.length_append]
              have e : encJ (toI (fl0 ++ bl)) = encJ (toI fl0) ++ encJ (toI bl) := by simp [encJ, toI]
              rw [e]
              exact hown'
        · as_aux_lemma =>
            obtain rfl : k = vsc.length := by omega
            have e9 : (cs.take vsc.length).flatten = cs.flatten := by rw [HVL.out, List.take_length]
            rw [e9] at HFL
            have HI9 : Hid (IntsR wr (.slice fa fl0.length fc) (toI fl0)) := owns_intsR (base := w7.heap.size) (by rw [toI_length]; exact HO.out)
            have HC9 := hid_of (HC7.out.step HB.out)
            have HLW9 := hid_of (HLW7.out.step HB.out)
            clear HO HB HC7 HLW7 HKF hlt hk e9
            go_wp2_with fail
            refine (Plus_calls b c L wr HLW9.out.rel).mono ?_
            rintro e w10 ⟨bp, cp, rfl, hM10⟩
            have HLW10 := hid_of (HLW9.out.step hM10.below)
            have HC10 := hid_of (HC9.out.step hM10.below)
            have HI10 := hid_of (HI9.out.below hM10.below)
            have HP10 := hid_of hM10.rel
            have HBLK : Hid (∀ (i : Nat) (W : World), i < vsc.length → Below w10.heap.size w10 W → ∃ (bl : List Nat) (g cap u : Nat) (tl : List Nat), cs[i]? = some bl ∧ bl = u :: tl ∧ u < L.length ∧ bl.length ≤ 256 ∧ (∃ s, pc = some ⟨s, 0, none⟩ ∧ W.cell? ⟨s, i, none⟩ = some (.slice (some ⟨g, 0, none⟩) bl.length cap)) ∧ ∀ (j v : Nat), bl[j]? = some v → W.cell? ⟨g, j, none⟩ = some (.int .i64 ((v : Nat) : Int))) := by
              intro i W hi hW
              have hC := HC10.out.step hW
              obtain ⟨x, hx⟩ : ∃ x, vsc[i]? = some x := ⟨_, List.getElem?_eq_getElem hi⟩
              obtain ⟨bl, hbl⟩ : ∃ bl, cs[i]? = some bl := ⟨_, List.getElem?_eq_getElem (by rw [← HVL.out]; exact hi)⟩
              obtain ⟨s, capo, e1, hs1, hs2⟩ := owns_cells hC.own rfl (by omega)
              injection e1 with e1 _ _
              have ho := hC.rows.row i x (toI bl) hx (by rw [List.getElem?_map, hbl]; rfl)
              obtain ⟨u, tl, hbe, hu⟩ := HCO.out.head i bl hbl
              rw [toI_length] at ho
              have hx2 := hs2 i x hx
              rcases ho.2 with ⟨_, e⟩ | ⟨g, cap, cur, rfl, _⟩
              · rw [hbe] at e; simp at e
              · refine ⟨bl, g, cap, u, tl, hbl, hbe, hu, HBN.out bl (List.mem_of_getElem? hbl), ⟨s, e1, hx2⟩, fun j v hv => ?_⟩
                have hjl := (List.getElem?_eq_some_iff.1 hv).1
                rw [ho.cellAt j (by omega)]
                unfold encJ
                rw [List.getElem?_map, toI_at hv]
                rfl
            clear HC9 HI9 HLW9 HC10 hM10
            go_wp2_with fail
            go_loopg [16] vsc.length (fun f i wr => ∃ k : Nat, i = .int .i64 ((k : Nat) : Int) ∧ k ≤ vsc.length ∧ Hid (k + f = vsc.length) ∧ Hid (Below w10.heap.size w10 wr))
            case atStart => exact ⟨0, rfl, Nat.zero_le _, Nat.zero_add _, Below.refl _ _⟩
            case round =>
              obtain ⟨k, rfl, hk, HKF, HB⟩ := hrel
              by_cases hlt : k < vsc.length
              · as_aux_lemma =>
                  obtain ⟨bl, g, cap, u, tl, hbl, hbe, hu, hbb, ⟨s, rfl, c0⟩, hcx⟩ := HBLK.out k wr hlt HB.out
                  have k0 : (0 : Int) ≤ ((k : Nat) : Int) := by omega
                  have k1 : ((k : Nat) : Int) < ((vsc.length : Nat) : Int) := by omega
                  have h0 : bl[0]? = some u := by rw [hbe]; rfl
                  have HBL := hid_of hbl
                  have HBE := hid_of hbe
                  have H0 := hid_of h0
                  have hb0 : 0 < bl.length := by rw [hbe]; simp
                  clear hbl hbe h0 c0 hcx
                  go_wp2_with fail
                  go_loopg [17] bl.length (fun f i wr => ∃ j : Nat, i = .int .i64 ((j : Nat) : Int) ∧ j ≤ bl.length ∧ Hid (j + f = bl.length) ∧ Hid (Below w10.heap.size w10 wr))
                  case atStart => exact ⟨0, rfl, Nat.zero_le _, Nat.zero_add _, HB.out⟩
                  case round =>
                    clear HB
                    obtain ⟨j, rfl, hj, HJF, HB⟩ := hrel
                    have hcells : ∃ g cap, wr.cell? ⟨s, k, none⟩ = some (.slice (some ⟨g, 0, none⟩) bl.length cap) ∧ ∀ (j v : Nat), bl[j]? = some v → wr.cell? ⟨g, j, none⟩ = some (.int .i64 ((v : Nat) : Int)) := by
                      obtain ⟨bl', g, cap, u', tl', hbl', _, _, _, ⟨s', e', c0⟩, hcx⟩ := HBLK.out k wr hlt HB.out
                      rw [HBL.out] at hbl'
                      obtain rfl := Option.some.inj hbl'
                      injection e' with e'
                      injection e' with e'
                      subst e'
                      exact ⟨g, cap, c0, hcx⟩
                    obtain ⟨g, cap, c0, hcx⟩ := hcells
                    by_cases hjl : j < bl.length
                    · by_cases hj0 : j = 0
                      · subst hj0
                        skip
                        clear hcx
                        go_wp2_with fail
                        go_quiet (fail)
                        go_wp2_with fail
                        go_roundg (bl.length - 1)
                        case measure => have := HJF.out; omega
                        case rel => exact ⟨1, by go_num, by omega, by have := HJF.out; rw [Hid]; omega, below_drewN HB.out _⟩
                      · as_aux_lemma =>
                          obtain ⟨j', HJJ⟩ : ∃ j', Hid (j = j' + 1) := ⟨j - 1, by rw [Hid]; omega⟩
                          obtain ⟨v, hv⟩ : ∃ v, bl[j]? = some v := ⟨_, List.getElem?_eq_getElem hjl⟩
                          obtain ⟨v', hv'⟩ : ∃ v, bl[j']? = some v := ⟨_, List.getElem?_eq_getElem (by have := HJJ.out; omega)⟩
                          obtain ⟨hb1, hb2, hvn⟩ := HCO.out.both k j u v bl HBL.out H0.out hv (by omega)
                          have hrs := HCO.out.rise k j' v' v bl HBL.out hv' (by rw [← HJJ.out]; exact hv)
                          have d0 := hcx 0 u H0.out
                          have d1 := hcx j v hv
                          have d2 := hcx j' v' hv'
                          have hpl : (plusL L).length = L.length := plusL_length L
                          have hh1 : ∀ W, Below w10.heap.size w10 W → Calls Tryd.prog 13 #[pv bp, .int .i64 ((u : Nat) : Int), .int .i64 ((v : Nat) : Int)] W fun e w' => e = .returned (.bool true) ∧ Below W.heap.size W w' := fun W hW => by
                            have := Has_calls bp cp (plusL L) ((u : Nat) : Int) ((v : Nat) : Int) W (HP10.out.below hW)
                            rw [show hasP (plusL L) ((u : Nat) : Int) ((v : Nat) : Int) = true by unfold hasP; rw [hpl, inR_nat hu, inR_nat hvn, Bool.true_and, Bool.true_and, Int.toNat_natCast, Int.toNat_natCast]; exact hb1] at this
                            exact this
                          have hh2 : ∀ W, Below w10.heap.size w10 W → Calls Tryd.prog 13 #[pv bp, .int .i64 ((v : Nat) : Int), .int .i64 ((u : Nat) : Int)] W fun e w' => e = .returned (.bool true) ∧ Below W.heap.size W w' := fun W hW => by
                            have := Has_calls bp cp (plusL L) ((v : Nat) : Int) ((u : Nat) : Int) W (HP10.out.below hW)
                            rw [show hasP (plusL L) ((v : Nat) : Int) ((u : Nat) : Int) = true by unfold hasP; rw [hpl, inR_nat hu, inR_nat hvn, Bool.true_and, Bool.true_and, Int.toNat_natCast, Int.toNat_natCast]; exact hb2] at this
                            exact this
                          have HH1 := hid_of hh1
                          have HH2 := hid_of hh2
                          have j0' : (0 : Int) ≤ ((j : Nat) : Int) := by omega
                          have j1' : ((j : Nat) : Int) < ((bl.length : Nat) : Int) := by omega
                          have j2' : (0 : Int) < ((j : Nat) : Int) := by omega
                          have j3' : (0 : Int) ≤ ((j' : Nat) : Int) := by omega
                          have j4' : ((j' : Nat) : Int) < ((bl.length : Nat) : Int) := by have := HJJ.out; omega
                          have j5' : ((j : Nat) : Int) - 1 = ((j' : Nat) : Int) := by have := HJJ.out; omega
                          have j6' : (0 : Int) < ((bl.length : Nat) : Int) := by omega
                          have j7' : ¬ ((v : Nat) : Int) ≤ ((v' : Nat) : Int) := by omega
                          have jd1 : decide ((0 : Int) < ((j : Nat) : Int)) = true := decide_eq_true j2'
                          have jd2 : decide (((v : Nat) : Int) ≤ ((v' : Nat) : Int)) = false := decide_eq_false j7'
                          have jw : IntKind.i64.wrap ((j' : Nat) : Int) = ((j' : Nat) : Int) := wrap_small (by have := HJJ.out; omega)
                          have hszs : s < wr.heap.size := World.block_lt_of_cell? _ _ c0
                          have hszg : g < wr.heap.size := World.block_lt_of_cell? _ _ d0
                          clear hv hv' hb1 hb2 hcx hh1 hh2 hrs hpl hj0
                          have hS0 : wr.cell? ⟨s, k, none⟩ = some (.slice (some ⟨g, 0, none⟩) bl.length cap) ∧ wr.cell? ⟨g, 0, none⟩ = some (.int .i64 ((u : Nat) : Int)) ∧ wr.cell? ⟨g, j, none⟩ = some (.int .i64 ((v : Nat) : Int)) ∧ wr.cell? ⟨g, j', none⟩ = some (.int .i64 ((v' : Nat) : Int)) := ⟨c0, d0, d1, d2⟩
                          have HSW : Hid (∀ W, Below wr.heap.size wr W → W.cell? ⟨s, k, none⟩ = some (.slice (some ⟨g, 0, none⟩) bl.length cap) ∧ W.cell? ⟨g, 0, none⟩ = some (.int .i64 ((u : Nat) : Int)) ∧ W.cell? ⟨g, j, none⟩ = some (.int .i64 ((v : Nat) : Int)) ∧ W.cell? ⟨g, j', none⟩ = some (.int .i64 ((v' : Nat) : Int))) := fun W hW => ⟨(hW.cell (p := ⟨s, k, none⟩) hszs).trans c0, (hW.cell (p := ⟨g, 0, none⟩) hszg).trans d0, (hW.cell (p := ⟨g, j, none⟩) hszg).trans d1, (hW.cell (p := ⟨g, j', none⟩) hszg).trans d2⟩
                          go_upto_region 23 with fail
                          have hjp : 0 < j := by have := HJJ.out; omega
                          have hvv : ¬ v ≤ v' := by omega
                          go_region_held3 (fun W => W.cell? ⟨s, k, none⟩ = some (.slice (some ⟨g, 0, none⟩) bl.length cap) ∧ W.cell? ⟨g, 0, none⟩ = some (.int .i64 ((u : Nat) : Int)) ∧ W.cell? ⟨g, j, none⟩ = some (.int .i64 ((v : Nat) : Int)) ∧ W.cell? ⟨g, j', none⟩ = some (.int .i64 ((v' : Nat) : Int))) (first | assumption | exact hS0) (first | (go_at_call 13; with_reducible show Calls _ _ _ wr.drew _; refine (HH1.out _ HB.out.drew).mono ?_; rintro e w20 ⟨rfl, hB20⟩; have hx20 : Below wr.heap.size wr w20 := below_of_drew' hB20; have hy20 := below_step HB.out HB.out.size hx20; have HY20 := hid_of hy20; have HX20 := hid_of hx20; have K20 := HSW.out _ hx20) | (go_at_call 13; with_reducible show Calls _ _ _ w20 _; refine (HH2.out _ HY20.out).mono ?_; rintro e w21 ⟨rfl, hB21⟩; have hx21 := below_step HX20.out HX20.out.size hB21; have HX21 := hid_of hx21; have K21 := HSW.out _ hx21))
                          go_wp2_with fail
                          go_roundg (bl.length - (j + 1))
                          case measure => have := HJF.out; omega
                          case rel => exact ⟨j + 1, by go_num, by omega, by have := HJF.out; rw [Hid]; omega, below_step HB.out HB.out.size HX21.out⟩
                    · obtain rfl : j = bl.length := by omega
                      clear hcx
                      go_wp2_with fail
                      go_loopg [18] k (fun f i wr => ∃ k2 : Nat, i = .int .i64 ((k2 : Nat) : Int) ∧ k2 ≤ k ∧ Hid (k2 + f = k) ∧ Hid (Below w10.heap.size w10 wr))
                      case atStart => exact ⟨0, rfl, Nat.zero_le _, Nat.zero_add _, HB.out⟩
                      case round =>
                        clear HB c0
                        obtain ⟨k2, rfl, hk2, HK2F, HB⟩ := hrel
                        by_cases hlt2 : k2 < k
                        · as_aux_lemma =>
                            skip
                            obtain ⟨bl1, g, cap, u1, tl1, hbl1, -, -, -, ⟨s1, e1, c0⟩, hcx⟩ := HBLK.out k wr hlt HB.out
                            rw [HBL.out] at hbl1
                            obtain rfl := Option.some.inj hbl1
                            injection e1 with e1
                            injection e1 with e1
                            subst e1
                            obtain ⟨bl2, g2, cap2, u2, tl2, hbl2, hbe2, hu2, hbb2, ⟨s2, e2, c2⟩, hcx2⟩ := HBLK.out k2 wr (by omega) HB.out
                            injection e2 with e2
                            injection e2 with e2
                            subst e2
                            have h02 : bl2[0]? = some u2 := by rw [hbe2]; rfl
                            have d0 := hcx 0 u H0.out
                            have d2 := hcx2 0 u2 h02
                            have hbk := HCO.out.back k k2 u u2 bl bl2 HBL.out hbl2 H0.out h02 hlt2
                            have hpl : (plusL L).length = L.length := plusL_length L
                            have hh1 : ∀ W, Below w10.heap.size w10 W → Calls Tryd.prog 13 #[pv bp, .int .i64 ((u : Nat) : Int), .int .i64 ((u2 : Nat) : Int)] W fun e w' => e = .returned (.bool false) ∧ Below W.heap.size W w' := fun W hW => by
                              have := Has_calls bp cp (plusL L) ((u : Nat) : Int) ((u2 : Nat) : Int) W (HP10.out.below hW)
                              rw [show hasP (plusL L) ((u : Nat) : Int) ((u2 : Nat) : Int) = false by unfold hasP; rw [hpl, inR_nat hu, inR_nat hu2, Bool.true_and, Bool.true_and, Int.toNat_natCast, Int.toNat_natCast, ← Bool.not_eq_true]; exact hbk] at this
                              exact this
                            have HH1 := hid_of hh1
                            have k20 : (0 : Int) ≤ ((k2 : Nat) : Int) := by omega
                            have k21 : ((k2 : Nat) : Int) < ((vsc.length : Nat) : Int) := by omega
                            have k22 : ((k2 : Nat) : Int) < ((k : Nat) : Int) := by omega
                            have j6' : (0 : Int) < ((bl.length : Nat) : Int) := by omega
                            have j7' : (0 : Int) < ((bl2.length : Nat) : Int) := by rw [hbe2]; simp
                            have hb20 : 0 < bl2.length := by rw [hbe2]; simp
                            have hszs : s < wr.heap.size := World.block_lt_of_cell? _ _ c0
                            have hszg : g < wr.heap.size := World.block_lt_of_cell? _ _ d0
                            have hszg2 : g2 < wr.heap.size := World.block_lt_of_cell? _ _ d2
                            have hS0 : wr.cell? ⟨s, k, none⟩ = some (.slice (some ⟨g, 0, none⟩) bl.length cap) ∧ wr.cell? ⟨g, 0, none⟩ = some (.int .i64 ((u : Nat) : Int)) ∧ wr.cell? ⟨s, k2, none⟩ = some (.slice (some ⟨g2, 0, none⟩) bl2.length cap2) ∧ wr.cell? ⟨g2, 0, none⟩ = some (.int .i64 ((u2 : Nat) : Int)) := ⟨c0, d0, c2, d2⟩
                            have HSW : Hid (∀ W, Below wr.heap.size wr W → W.cell? ⟨s, k, none⟩ = some (.slice (some ⟨g, 0, none⟩) bl.length cap) ∧ W.cell? ⟨g, 0, none⟩ = some (.int .i64 ((u : Nat) : Int)) ∧ W.cell? ⟨s, k2, none⟩ = some (.slice (some ⟨g2, 0, none⟩) bl2.length cap2) ∧ W.cell? ⟨g2, 0, none⟩ = some (.int .i64 ((u2 : Nat) : Int))) := fun W hW => ⟨(hW.cell (p := ⟨s, k, none⟩) hszs).trans c0, (hW.cell (p := ⟨g, 0, none⟩) hszg).trans d0, (hW.cell (p := ⟨s, k2, none⟩) hszs).trans c2, (hW.cell (p := ⟨g2, 0, none⟩) hszg2).trans d2⟩
                            clear hcx hcx2 hbl2 hbe2 h02 hbk hh1 hpl
                            go_wp2_with fail
                            go_region_held3 (fun W => W.cell? ⟨s, k, none⟩ = some (.slice (some ⟨g, 0, none⟩) bl.length cap) ∧ W.cell? ⟨g, 0, none⟩ = some (.int .i64 ((u : Nat) : Int)) ∧ W.cell? ⟨s, k2, none⟩ = some (.slice (some ⟨g2, 0, none⟩) bl2.length cap2) ∧ W.cell? ⟨g2, 0, none⟩ = some (.int .i64 ((u2 : Nat) : Int))) (first | assumption | exact hS0) (first | (go_at_call 13; refine (HH1.out _ HB.out.drew).mono ?_; rintro e w20 ⟨rfl, hB20⟩; have hx20 : Below wr.heap.size wr w20 := below_of_drew' hB20; have HX20 := hid_of hx20; have K20 := HSW.out _ hx20))
                            go_wp2_with fail
                            go_roundg (k - (k2 + 1))
                            case measure => have := HK2F.out; omega
                            case rel => exact ⟨k2 + 1, by go_num, by omega, by have := HK2F.out; rw [Hid]; omega, below_step HB.out HB.out.size HX20.out⟩
                        · obtain rfl : k2 = k := by omega
                          go_wp2_with fail
                          go_roundg (vsc.length - (k2 + 1))
                          case measure => have := HKF.out; omega
                          case rel => exact ⟨k2 + 1, by go_num, by omega, by have := HKF.out; rw [Hid]; omega, HB.out⟩
              · as_aux_lemma =>
                  obtain rfl : k = vsc.length := by omega
                  have HLW11 := hid_of (HLW10.out.step HB.out)
                  have HI11 := hid_of (HI10.out.below HB.out)
                  have HP11 := hid_of (HP10.out.below HB.out)
                  clear HLW10 HI10 HP10 HB HBLK HCO HKF hlt hk
                  go_wp2_with fail
                  refine (Len_calls b c L wr HLW11.out.rel).mono ?_
                  rintro e w' ⟨rfl, hw'⟩
                  obtain rfl : wr = w' := hw'.symm
                  go_wp2_with fail
                  refine (new_small L.length hn wr).mono ?_
                  rintro e w12 ⟨bn, cn, rfl, hM12⟩
                  have HLW12 := hid_of (HLW11.out.step hM12.below)
                  have HI12 := hid_of (HI11.out.below hM12.below)
                  have HP12 := hid_of (HP11.out.below hM12.below)
                  have hlin := oLinear_calls bn cn (List.replicate L.length 0) (.slice fa fl0.length fc) (toI fl0) w12 hM12.rel (hT.step HLW12.out.bel) HI12.out
                  rw [HFL.out, HCL.out] at hlin
                  rw [← HFL.out] at hlin
                  clear HLW11 HI11 HP11 hM12
                  go_wp2_with fail
                  refine hlin.mono ?_
                  rintro e w13 ⟨rfl, hB13⟩
                  have HLW13 := hid_of (HLW12.out.step hB13)
                  have HI13 := hid_of (HI12.out.below hB13)
                  have HP13 := hid_of (HP12.out.below hB13)
                  clear HLW12 HI12 HP12 hB13 hlin
                  have hwL := wf_of_low HLo.out
                  cases qb
                  · obtain rfl := HCE.out.2 rfl
                    have HL0 : Hid ((loopsL (plusL L) == 0) = false) := HQB.out
                    skip
                    go_wp2_with fail
                    refine (oReduction_no b c L w13 HLW13.out.rel HL0).mono ?_
                    rintro e w14 ⟨rfl, hB14⟩
                    go_wp2_with fail
                    go_ret
                    exact ⟨rfl, (HLW13.out.step hB14).bel⟩
                  · as_aux_lemma =>
                      obtain rfl := HCE.out.1 rfl
                      have HL0 : Hid ((loopsL (plusL L) == 0) = true) := HQB.out
                      have hzl : loopsL (plusL L) = 0 := by have := HQB.out; rw [beq_iff_eq] at this; exact this
                      have hints := ints2_calls (.slice fa fl0.length fc) (.slice pa3 la3 ca3) (toI fl0) (toI (sortOf L)) w13 HI13.out (HLW13.out.srt rfl) (by rw [toI_length]; omega)
                      rw [HFL.out, HCS.out rfl, beq_self_eq_true] at hints
                      rw [← HCS.out rfl, ← HFL.out] at hints
                      have HRP := hid_of (red_plus hn hwL hzl)
                      have HRR := hid_of (red_red hn hwL hzl)
                      go_wp2_with fail
                      refine hints.mono ?_
                      rintro e w14 ⟨rfl, hB14⟩
                      have HLW14 := hid_of (HLW13.out.step hB14)
                      have HP14 := hid_of (HP13.out.below hB14)
                      clear HLW13 HI13 HP13 hB14 hints
                      go_wp2_with fail
                      refine (oReduction_yes b c L w14 HLW14.out.rel (hT.step HLW14.out.bel) HL0).mono ?_
                      rintro e w15 ⟨bd, cd, rfl, hM15⟩
                      have HLW15 := hid_of (HLW14.out.step hM15.below)
                      have HP15 := hid_of (HP14.out.below hM15.below)
                      have HD15 := hid_of hM15.rel
                      clear HLW14 HP14 hM15
                      have hpd := Plus_calls bd cd (redL L) w15 HD15.out
                      rw [HRP.out] at hpd
                      go_wp2_with fail
                      refine hpd.mono ?_
                      rintro e w16 ⟨be, ce, rfl, hM16⟩
                      have heq := Equal_calls be ce bp cp (plusL L) (plusL L) w16 hM16.rel (HP15.out.below hM16.below)
                      rw [beq_self_eq_true] at heq
                      have HLW16 := hid_of (HLW15.out.step hM16.below)
                      have HP16 := hid_of (HP15.out.below hM16.below)
                      have HD16 := hid_of (HD15.out.below hM16.below)
                      clear hpd HLW15 HP15 HD15 hM16
                      go_wp2_with fail
                      refine heq.mono ?_
                      rintro e w17 ⟨rfl, hB17⟩
                      have HLW17 := hid_of (HLW16.out.step hB17)
                      have HP17 := hid_of (HP16.out.below hB17)
                      have HD17 := hid_of (HD16.out.below hB17)
                      clear heq HLW16 HP16 HD16 hB17
                      have hrd := oReduction_yes bd cd (redL L) w17 HD17.out (hT.step HLW17.out.bel) (by rw [Hid, HRP.out]; exact HL0.out)
                      rw [HRR.out] at hrd
                      go_wp2_with fail
                      refine hrd.mono ?_
                      rintro e w18 ⟨bg, cg2, rfl, hM18⟩
                      have heq := Equal_calls bg cg2 bd cd (redL L) (redL L) w18 hM18.rel (HD17.out.below hM18.below)
                      rw [beq_self_eq_true] at heq
                      have HLW18 := hid_of (HLW17.out.step hM18.below)
                      have HP18 := hid_of (HP17.out.below hM18.below)
                      have HD18 := hid_of (HD17.out.below hM18.below)
                      clear hrd HLW17 HP17 HD17 hM18
                      go_wp2_with fail
                      refine heq.mono ?_
                      rintro e w19 ⟨rfl, hB19⟩
                      have HLW19 := hid_of (HLW18.out.step hB19)
                      have HP19 := hid_of (HP18.out.below hB19)
                      have HD19 := hid_of (HD18.out.below hB19)
                      clear heq HLW18 HP18 HD18 hB19
                      go_wp2_with fail
                      refine (Pairs_calls bd cd (redL L) w19 HD19.out (hT.step HLW19.out.bel)).mono ?_
                      rintro e w20 ⟨vq, rfl, hoq, hB20⟩
                      have HLW20 := hid_of (HLW19.out.step hB20)
                      have HP20 := hid_of (HP19.out.below hB20)
                      have HD20 := hid_of (HD19.out.below hB20)
                      have hrl : (redL L).length = L.length := (wf_red hn hwL).len
                      have hplen : (pairsL (redL L)).length ≤ 65536 := by have := pairsK_length (redL L) (redL L).length; simp only [pairsL]; omega
                      have hpq : ∃ p1 cap1, vq = .slice p1 (pairsL (redL L)).length cap1 ∧ (0 < (pairsL (redL L)).length → ∃ sq, p1 = some ⟨sq, 0, none⟩ ∧ PrsR w20 sq (pairsL (redL L))) := by
                        rcases owns_prs hoq with ⟨e1, e2⟩ | ⟨sq, cap, e1, _, h2⟩
                        · exact ⟨_, _, by rw [e2]; exact e1, fun h0 => by rw [e2] at h0; simp at h0⟩
                        · exact ⟨_, _, e1, fun _ => ⟨sq, rfl, h2⟩⟩
                      obtain ⟨pq, capq, rfl, hpq2⟩ := hpq
                      have HPQ := hid_of hpq2
                      have hlowD : ∀ R ∈ redL L, R < 2 ^ (redL L).length := HD20.out.low
                      have HPM : Hid (∀ x ∈ pairsL (redL L), hs (redL L) x.1 x.2) := fun x hx => (pairs_hs (by omega) hlowD x.1 x.2).1 hx
                      have HWL := hid_of hwL
                      generalize hps : pairsL (redL L) = ps at *
                      clear hps hoq hpq2 hB20 HLW19 HP19 HD19 hlowD hwL
                      go_wp2_with fail
                      go_loopg [24] ps.length (fun f i wr => ∃ q : Nat, i = .int .i64 ((q : Nat) : Int) ∧ q ≤ ps.length ∧ Hid (q + f = ps.length) ∧ Hid (Below w20.heap.size w20 wr))
                      case atStart => exact ⟨0, rfl, Nat.zero_le _, Nat.zero_add _, Below.refl _ _⟩
                      case round =>
                        obtain ⟨q, rfl, hq, HQF, HB⟩ := hrel
                        have HLWr := hid_of (HLW20.out.step HB.out)
                        have HPr := hid_of (HP20.out.below HB.out)
                        have HDr := hid_of (HD20.out.below HB.out)
                        by_cases hlt : q < ps.length
                        · have t1 : ((q : Nat) : Int) < ((ps.length : Nat) : Int) := by omega
                          by_cases h20 : q < 20
                          · as_aux_lemma =>
                              have t2 : ((q : Nat) : Int) < 20 := by omega
                              obtain ⟨sq, rfl, hsq⟩ := HPQ.out (by omega)
                              obtain ⟨⟨a, b9⟩, hx⟩ : ∃ x, ps[q]? = some x := ⟨_, List.getElem?_eq_getElem hlt⟩
                              have HAB := hid_of (HPM.out _ (List.mem_of_getElem? hx))
                              have hsr := hsq.below HB.out
                              have HX := hid_of hx
                              have q0 : (0 : Int) ≤ ((q : Nat) : Int) := by omega
                              clear hx
                              go_wp2_with fail
                              refine (Copy_calls bd cd (redL L) wr HDr.out).mono ?_
                              rintro e w21 ⟨bl9, cl9, rfl, hM21⟩
                              have hsr2 := hsr.below hM21.below
                              have c0 : w21.cell? ⟨sq, q * 2, none⟩ = some (.int .i64 ((a : Nat) : Int)) := hsr2.fst q _ HX.out
                              have c1 : w21.cell? ⟨sq, q * 2 + 1, none⟩ = some (.int .i64 ((b9 : Nat) : Int)) := hsr2.snd q _ HX.out
                              have hne : sq ≠ cl9 := by have := hsr.lt; have := hM21.hc; omega
                              have hput : ∀ W, IsRel W bl9 cl9 (redL L) → Calls Tryd.prog 21 #[pv bl9, .int .i64 ((a : Nat) : Int), .int .i64 ((b9 : Nat) : Int), .bool false] W fun e w' => e = .returned (.bool (putC (redL L) ((a : Nat) : Int) ((b9 : Nat) : Int) false)) ∧ IsRel w' bl9 cl9 (putP (redL L) ((a : Nat) : Int) ((b9 : Nat) : Int) false) ∧ Touch cl9 W w' := fun W hW => Put_calls bl9 cl9 (redL L) _ _ false W hW
                              have HPUT := hid_of hput
                              have HM21 := hid_of hM21
                              have HKT : Hid (∀ W, Touch cl9 w21 W → W.cell? ⟨sq, q * 2, none⟩ = some (.int .i64 ((a : Nat) : Int)) ∧ W.cell? ⟨sq, q * 2 + 1, none⟩ = some (.int .i64 ((b9 : Nat) : Int))) := fun W hW => ⟨(World.cell?_of_block (a := ⟨sq, q * 2, none⟩) (hW.block sq hsr2.lt hne)).trans c0, (World.cell?_of_block (a := ⟨sq, q * 2 + 1, none⟩) (hW.block sq hsr2.lt hne)).trans c1⟩
                              generalize putC (redL L) ((a : Nat) : Int) ((b9 : Nat) : Int) false = pcv at *
                              clear hput hM21
                              go_upto_region 45 with fail
                              go_region_held3 (fun W => W.cell? ⟨sq, q * 2, none⟩ = some (.int .i64 ((a : Nat) : Int)) ∧ W.cell? ⟨sq, q * 2 + 1, none⟩ = some (.int .i64 ((b9 : Nat) : Int))) (first | assumption | exact ⟨c0, c1⟩) (first | (go_at_call 21; refine (HPUT.out _ HM21.out.rel.drew).mono ?_; rintro e w22 ⟨rfl, hI22, ht22⟩; have ht22' : Touch cl9 w21 w22 := ⟨ht22.os, ht22.tape, ht22.output, ht22.size, ht22.block⟩; have HT22 := hid_of ht22'; have HI22 := hid_of hI22; have K22 := HKT.out _ ht22'))
                              have hb22 : Below wr.heap.size wr w22 := HM21.out.below.trans (HT22.out.below (Nat.le_trans (Nat.le_refl _) HM21.out.hc) HM21.out.below.size)
                              have hpl22 := Plus_calls bl9 cl9 _ w22 HI22.out
                              go_wp2_with fail
                              refine hpl22.mono ?_
                              rintro e w23 ⟨bf, cf, rfl, hM23⟩
                              have heq := Equal_calls bf cf bp cp _ (plusL L) w23 hM23.rel ((HPr.out.below hb22).below hM23.below)
                              rw [red_less hn HWL.out HAB.out] at heq
                              have HB23 := hid_of (below_step (below_step HB.out HB.out.size hb22) (Nat.le_trans HB.out.size hb22.size) hM23.below)
                              clear hpl22 hM23 hb22
                              go_wp2_with fail
                              refine heq.mono ?_
                              rintro e w24 ⟨rfl, hB24⟩
                              go_wp2_with fail
                              go_roundg (ps.length - (q + 1))
                              case measure => have := HQF.out; omega
                              case rel => exact ⟨q + 1, by go_num, by omega, by have := HQF.out; rw [Hid]; omega, below_step HB23.out HB23.out.size hB24⟩
                          · have t2 : ¬ ((q : Nat) : Int) < 20 := by omega
                            go_wp2_with fail
                            go_ret
                            exact ⟨rfl, HLWr.out.bel⟩
                        · obtain rfl : q = ps.length := by omega
                          go_wp2_with fail
                          go_ret
                          exact ⟨rfl, HLWr.out.bel⟩
end Go.Proofs.YtijjogpldoafjabDoor
