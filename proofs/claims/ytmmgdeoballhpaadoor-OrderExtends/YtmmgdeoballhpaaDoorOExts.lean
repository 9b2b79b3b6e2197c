/- The statement OrderExtends, walked. (Its loops are those of OrderParts: printed by oexts.py.) -/
import Derived.Test.YtmmgdeoballhpaaDoorJ19
import Derived.Test.YtmmgdeoballhpaaDoorJ20
import Derived.Test.YtmmgdeoballhpaaDoorOPart1
import Derived.Test.YtmmgdeoballhpaaDoorJ13
namespace Go.Proofs.YtmmgdeoballhpaaDoor
open Go.RowKit Go.Shelf Sx

theorem allO_len {L : List Nat} (hn : L.length ≤ 256) (hlow : ∀ R ∈ L, R < 2 ^ L.length) : ∀ o ∈ allO L, o.length = L.length := by
  intro o ho
  rw [← all_good hn hlow] at ho
  exact (prm_ok _ _ o (List.mem_filter.1 ho).1).len
set_option maxRecDepth 100000 in
set_option maxHeartbeats 16000000 in
theorem OrderExtends_calls (n : Int) (v1 : Value) (l1 : List (Int × Int)) (most : Int) (w : World) (hT : Tab w) (a1 : PArg w v1 l1) :
    Calls Tryd.prog 5 #[.int .i64 n, v1, .int .i64 most] w fun e w' => e = .returned (.bool true) ∧ Below w.heap.size w w' := by
  obtain ⟨i0, hi, hz0, hz1, hz2⟩ := info_parts Tryd.infoint
  go_enter Tryd.func5, Tryd.ntmps5
  go_upto_if 21 with fail
  go_cut [2] (fun v2 wx => ∃ m2 : Int, v2 = .int .i64 m2 ∧ m2 ≤ 300 ∧ wx = w)
  case first =>
    by_cases hbig : (300 : Int) < most
    · go_wp2_with fail
      go_meet
      case rel => exact ⟨300, rfl, by omega, rfl⟩
    · go_wp2_with fail
      go_meet
      case rel => exact ⟨most, rfl, by omega, rfl⟩
  case rest =>
  obtain ⟨m2, rfl, hm2, hwc⟩ := hcut
  obtain rfl : w = _ := hwc.symm
  go_wp2_with fail
  refine (OfT n v1 l1 _ a1).mono ?_
  rintro e w1 ⟨b, c, rfl, hM1⟩
  have hB1 := hM1.below
  have hR1 := hM1.rel
  clear hM1
  go_wp2_with fail
  refine (refOf_calls n v1 l1 _ (a1.below hB1)).mono ?_
  rintro e w2 ⟨M, rb, rfl, hF2, hB2⟩
  obtain ⟨x2, y2, z2, rfl⟩ := hF2.slice
  have hn : clampN n ≤ 256 := by unfold clampN; omega
  have HTw := hid_of (twO_of n l1)
  have HLo := hid_of hR1.low
  have hLn := (twO_of n l1).len
  generalize hF : ofFn (clampN n) l1 = F at *
  clear hF
  generalize hLL : ofL n l1 = L at *
  clear hLL
  rw [← hLn] at hn HTw hF2 ⊢
  clear hLn
  have hX2 : Below w.heap.size w w2 := below_step hB1 hB1.size hB2
  have hR2 := hR1.below hB2
  have hbx := Blk.new w2 46 #[.int .i64 ((L.length : Nat) : Int), .slice x2 y2 z2]
  have hbA := (Below.refl w2.heap.size w2).alloc (Nat.le_refl _) (.cells #[.int .i64 ((L.length : Nat) : Int), .slice x2 y2 z2] 46)
  have hX3 : Below w.heap.size w (w2.alloc (.cells #[.int .i64 ((L.length : Nat) : Int), .slice x2 y2 z2] 46)) := below_step hX2 hX2.size hbA
  have HR3 := hid_of (hR2.below hbA)
  have HF3 := hid_of (hF2.below hbA)
  have HX3 := hid_of hX3
  have d0 := hbx.cell (j := 0) rfl
  have d1 := hbx.cell (j := 1) rfl
  clear hX3 hbx hbA hR1 hR2 hF2 hX2 hB1 hB2
  go_wp2_with fail
  generalize (w2.alloc (.cells #[.int .i64 ((L.length : Nat) : Int), .slice x2 y2 z2] 46)) = w3 at *
  generalize w2.heap.size = g8 at *
  refine (r2ext_calls _ x2 y2 z2 rb F L hn HTw.out HLo.out m2 (by omega) w3 HF3.out).mono ?_
  rintro e w4 ⟨vw, vsw, qw, os, rfl, hMA, hW4, hB4⟩
  have hX4 := below_step HX3.out HX3.out.size hB4
  obtain ⟨hos, hqw⟩ := hMA
  go_wp2_with fail
  refine (oExt_calls b c L m2 (by omega) w4 (HR3.out.below hB4) (hT.step hX4)).mono ?_
  rintro e w5 ⟨va, qa, rfl, ⟨vsa, hCa, hqa⟩, hB5⟩
  rw [← hos] at hCa
  rw [← hqw] at hqa
  subst hqa
  have hX5 := below_step hX4 hX4.size hB5
  have hB35 : Below w3.heap.size w3 w5 := below_step hB4 hB4.size hB5
  have hok1 : os.length ≤ 300 := by rw [hos, List.length_take]; omega
  have hok2 : ∀ o ∈ os, o.length ≤ 256 := fun o ho => by
    rw [hos] at ho
    rw [allO_len hn HLo.out o (List.mem_of_mem_take ho)]
    exact hn
  have HOS := hid_of hos
  have HOK := hid_of hok2
  have HW5 := hid_of (hW4.step hB5)
  have HW4 := hid_of hW4
  have HCa := hid_of hCa
  have HQW := hid_of hqw
  have qq : (qa != qa) = false := by simp
  have hls := lists2_same va vw os w5 HCa.out.blocks HW5.out.blocks (by omega) (fun bl hbl => by have := HOK.out bl hbl; omega)
  have HLS2 := hid_of hls
  clear hls hos hok2 hqw hW4 d0 d1
  go_wp2_with fail
  refine HLS2.out.mono ?_
  rintro e w6 ⟨rfl, hB6⟩
  have HCa7 := hid_of (HCa.out.step hB6)
  have hB46 : Below w4.heap.size w4 w6 := below_step hB5 hB5.size hB6
  have hhi : w4.heap.size ≤ w5.heap.size := hB5.size
  have hhi4 : w5.heap.size ≤ w6.heap.size := hB6.size
  have hvl : vsa.length = os.length := by have := HCa7.out.rows.len; simpa using this
  obtain ⟨pa, ca, rfl⟩ := owns_len HCa7.out.own
  have HVL := hid_of hvl
  have HAB : Hid ((∀ (i : Nat) (y : Value) (g : Nat), vsa[i]? = some y → y.ownBlock = some g → w4.heap.size ≤ g ∧ g < w5.heap.size) ∧ ∀ g, (Value.slice pa vsa.length ca).ownBlock = some g → g < w5.heap.size) := ⟨fun i y g hy hg => hCa.rows.lt hy hg, fun g hg => (hCa.own.lt g hg).2⟩
  have HLN : Hid (∀ (k : Nat) (l : List Int), (os.map toI)[k]? = some l → l.length ≤ 256) := fun k l hl => by
    obtain ⟨bl, hbl, rfl⟩ := List.mem_map.1 (List.mem_of_getElem? hl)
    rw [toI_length]
    exact HOK.out bl hbl
  have hcl : (os.map toI).length = os.length := by simp
  have hvb : vsa.length ≤ 300 := by rw [hvl]; exact hok1
  have HCL := hid_of hcl
  clear HLS2 HCa hCa hB6 hvl hcl hB5
  go_wp2_with fail
  generalize hls : os.map toI = ls at *
  have HLS := hid_of hls
  clear hls
  have HF7 := hid_of (Fr.refl w4.heap.size w5.heap.size w6)
  go_loopg [13] vsa.length (fun f i wr => ∃ k : Nat, i = .int .i64 ((k : Nat) : Int) ∧ k ≤ vsa.length ∧ Hid (k + f = vsa.length) ∧ Hid (ClR wr w4.heap.size (.slice pa vsa.length ca) vsa (mrkK ls k)) ∧ Hid (Fr w4.heap.size w5.heap.size w6 wr))
  case atStart => exact ⟨0, rfl, Nat.zero_le _, Nat.zero_add _, by rw [mrkK_zero]; exact HCa7.out, HF7.out⟩
  case round =>
    clear HCa7 HF7
    obtain ⟨k, rfl, hk, HKF, HC, HF⟩ := hrel
    by_cases hlt : k < vsa.length
    · obtain ⟨x, hx⟩ : ∃ x, vsa[k]? = some x := ⟨_, List.getElem?_eq_getElem hlt⟩
      obtain ⟨l, hl⟩ : ∃ l, ls[k]? = some l := ⟨_, List.getElem?_eq_getElem (by rw [HCL.out, ← HVL.out]; exact hlt)⟩
      have hll := HLN.out k l hl
      have HX := hid_of hx
      have HL := hid_of hl
      have k0 : (0 : Int) ≤ ((k : Nat) : Int) := by omega
      have k1 : ((k : Nat) : Int) < ((vsa.length : Nat) : Int) := by omega
      have HC0 : Hid (ClR wr w4.heap.size (.slice pa vsa.length ca) vsa ((mrkK ls k).set k (midL k 0 l))) := by
        rw [Hid, midL_zero]
        have e : (mrkK ls k).set k l = mrkK ls k := by
          apply List.ext_getElem?
          intro i
          rw [List.getElem?_set]
          by_cases e : k = i
          · subst e
            rw [if_pos rfl, if_pos (by rw [mrkK_length, HCL.out, ← HVL.out]; exact hlt), mrkK_at hl, if_neg (by omega)]
          · rw [if_neg e]
        rw [e]
        exact HC.out
      obtain ⟨s, capo, e1, hs1, hs2⟩ := owns_cells HC.out.own rfl (by omega)
      injection e1 with e1 _ e3
      subst e1
      obtain ⟨xa, xc, hxe⟩ := owns_len (HC.out.rows.row k x _ hx (mrkK_at hl))
      rw [if_neg (by omega)] at hxe
      subst hxe
      clear hx hl hs1 hs2 HC e3
      go_wp2_with fail
      go_loopg [14] l.length (fun f i wr => ∃ j : Nat, i = .int .i64 ((j : Nat) : Int) ∧ j ≤ l.length ∧ Hid (j + f = l.length) ∧ Hid (ClR wr w4.heap.size (.slice (some ⟨s, 0, none⟩) vsa.length ca) vsa ((mrkK ls k).set k (midL k j l))) ∧ Hid (Fr w4.heap.size w5.heap.size w6 wr))
      case atStart => exact ⟨0, rfl, Nat.zero_le _, Nat.zero_add _, HC0.out, HF.out⟩
      case round =>
        clear HC0 HF
        obtain ⟨j, rfl, hj, HJF, HC, HF⟩ := hrel
        have HMK : Hid (((mrkK ls k).set k (midL k j l))[k]? = some (midL k j l)) := by
          rw [Hid, List.getElem?_set, if_pos rfl, if_pos (by rw [mrkK_length, HCL.out, ← HVL.out]; exact hlt)]
        obtain ⟨s', capo, e1, hs1, hs2⟩ := owns_cells HC.out.own rfl (by omega)
        injection e1 with e1 _ e3
        injection e1 with e1
        injection e1 with e1
        subst e1
        have c0 := hs2 k _ HX.out
        clear hs2 e3
        have ho := HC.out.rows.row k _ _ HX.out HMK.out
        rw [midL_length hj] at ho
        by_cases hjl : j < l.length
        · have j0 : (0 : Int) ≤ ((j : Nat) : Int) := by omega
          have j1 : ((j : Nat) : Int) < ((l.length : Nat) : Int) := by omega
          obtain ⟨g, rfl⟩ : ∃ g, xa = some ⟨g, 0, none⟩ := by
            rcases ho.2 with ⟨_, e⟩ | ⟨g, cap, cur, e, _⟩
            · omega
            · injection e with e _ _
              exact ⟨g, e⟩
          have c1 := ho.cellAt j (by omega)
          have hml : j < (encJ (midL k j l)).length := by rw [show (encJ (midL k j l)).length = (midL k j l).length by simp [encJ], midL_length hj]; exact hjl
          rw [List.getElem?_eq_getElem hml] at c1
          have f1 := ho.frozenAt j
          have hC2 := HC.out.store HX.out HMK.out j (-1 - (k : Int))
          rw [midL_set hjl, List.set_set] at hC2
          have hF2 := HF.out.set (.inl (HAB.out.1 k _ g HX.out rfl)) j (.int .i64 (-1 - (k : Int)))
          generalize (encJ (midL k j l))[j] = ov at *
          clear ho hml
          go_wp2_with fail
          go_roundg (l.length - (j + 1))
          case measure => have := HJF.out; omega
          case rel => exact ⟨j + 1, by go_num, by omega, by have := HJF.out; rw [Hid]; omega, hC2, hF2⟩
        · obtain rfl : j = l.length := by omega
          rw [midL_all] at ho HMK HC
          rw [mrkK_succ HL.out] at HC HMK
          have HO := hid_of ho
          have hnw : ∀ j u, ([.int .i64 7, .int .i64 7, .int .i64 7] : List Value)[j]? = some u → (wr.alloc (.cells #[.int .i64 7, .int .i64 7, .int .i64 7] 3)).cell? ((⟨wr.heap.size, 0, none⟩ : Addr).add j) = some u := by
            intro j u hj
            rw [Addr.add_lit, Nat.zero_add]
            exact (Blk.new wr 3 #[.int .i64 7, .int .i64 7, .int .i64 7]).cell (by simpa using hj)
          have HNW := hid_of hnw
          have hN3 : ((l.length + 3 : Nat) : Int) - 1 = ((l.length + 2 : Nat) : Int) := by omega
          have hsz := HF.out.size
          have zz : w4.heap.size ≤ wr.heap.size := by omega
          clear ho hnw
          go_wp2_with (at_builtin; refine wpList_append_keeps _ rfl _ _ 29 rfl w4.heap.size 3 i0 (.int .i64 0) 1 8 Tryd.underlying29 hi hz0 hz1 hz2 rfl (by decide) (.slice xa l.length xc) l.length (encJ (mkL k l)) rfl (HO.out.alloc _) ⟨_, 0, none⟩ 3 3 [.int .i64 7, .int .i64 7, .int .i64 7] rfl rfl HNW.out (by simp [Value.oneCell']) (by unfold maxLen; omega) (by omega) (by simp; omega) ?_; intro v' w5 hown' hkeep hgrow hat; obtain ⟨g6, c6, hv6, hc6, hf6⟩ := owns_last hown' (by simp [encJ, mkL]); subst hv6)
          have hml : (mkL k l).length = l.length := by simp [mkL]
          have hC5 := HC.out.after HX.out HMK.out hgrow (by rw [hml]; exact hkeep)
          have hcase : ((Value.slice xa l.length xc).ownBlock = some g6) ∨ g6 = wr.heap.size + 1 := by
            rcases hat with e | e
            · exact .inl e.symm
            · right
              simp [Value.ownBlock] at e
              exact e
          have hC6 := hC5.beyond (g := g6) (j := l.length + 2) (u := .int .i64 8) HX.out HMK.out (by
            rcases hcase with e | e
            · exact .inl ⟨e, by omega⟩
            · refine .inr ⟨fun i y hy hyg => ?_, fun hyg => ?_⟩
              · have := (HC.out.rows.lt hy hyg).2
                omega
              · have := (HC.out.own.lt _ hyg).2
                omega)
          have hF6 := (HF.out.grown hgrow (fun g e => HAB.out.1 k _ g HX.out e)).set (g := g6) (by
            rcases hcase with e | e
            · exact .inl (HAB.out.1 k _ g6 HX.out e)
            · right; omega) (l.length + 2) (.int .i64 8)
          go_roundg (vsa.length - (k + 1))
          case measure => have := HKF.out; omega
          case rel => exact ⟨k + 1, by go_num, by omega, by have := HKF.out; rw [Hid]; omega, hC6, hF6⟩
    · obtain rfl : k = vsa.length := by omega
      have HC9 := hid_of HC.out
      have HF9 := hid_of HF.out
      clear HC HF
      go_wp2_with fail
      go_loopg [16] vsa.length (fun f i wr => ∃ k : Nat, i = .int .i64 ((k : Nat) : Int) ∧ k ≤ vsa.length ∧ Hid (k + f = vsa.length) ∧ Hid (ClR wr w4.heap.size (.slice pa vsa.length ca) vsa (mrkK ls vsa.length)) ∧ Hid (Fr w4.heap.size w5.heap.size w6 wr))
      case atStart => exact ⟨0, rfl, Nat.zero_le _, Nat.zero_add _, HC9.out, HF9.out⟩
      case round =>
        clear HC9 HF9
        obtain ⟨k, rfl, hk, HKF, HC, HF⟩ := hrel
        by_cases hlt : k < vsa.length
        · obtain ⟨x, hx⟩ : ∃ x, vsa[k]? = some x := ⟨_, List.getElem?_eq_getElem hlt⟩
          obtain ⟨l, hl⟩ : ∃ l, ls[k]? = some l := ⟨_, List.getElem?_eq_getElem (by rw [HCL.out, ← HVL.out]; exact hlt)⟩
          have hll := HLN.out k l hl
          have hmk := mrkK_at (k := vsa.length) hl
          rw [if_pos hlt] at hmk
          have ho := HC.out.rows.row k x _ hx hmk
          have hml : (mkL k l).length = l.length := by simp [mkL]
          rw [hml] at ho
          have HX := hid_of hx
          have HMK := hid_of hmk
          have k0 : (0 : Int) ≤ ((k : Nat) : Int) := by omega
          have k1 : ((k : Nat) : Int) < ((vsa.length : Nat) : Int) := by omega
          obtain ⟨s, capo, e1, hs1, hs2⟩ := owns_cells HC.out.own rfl (by omega)
          injection e1 with e1 _ e3
          subst e1
          obtain ⟨xa, xc, rfl⟩ := owns_len ho
          clear hx hl hmk hs1 hs2 e3 ho
          go_wp2_with fail
          go_loopg [17] l.length (fun f i wr => ∃ j : Nat, i = .int .i64 ((j : Nat) : Int) ∧ j ≤ l.length ∧ Hid (j + f = l.length) ∧ Hid (ClR wr w4.heap.size (.slice (some ⟨s, 0, none⟩) vsa.length ca) vsa (mrkK ls vsa.length)) ∧ Hid (Fr w4.heap.size w5.heap.size w6 wr))
          case atStart => exact ⟨0, rfl, Nat.zero_le _, Nat.zero_add _, HC.out, HF.out⟩
          case round =>
            clear HC HF
            obtain ⟨j, rfl, hj, HJF, HC, HF⟩ := hrel
            obtain ⟨s', capo, e1, hs1, hs2⟩ := owns_cells HC.out.own rfl (by omega)
            injection e1 with e1 _ e3
            injection e1 with e1
            injection e1 with e1
            subst e1
            have c0 := hs2 k _ HX.out
            clear hs2 e3
            have ho := HC.out.rows.row k _ _ HX.out HMK.out
            rw [hml] at ho
            by_cases hjl : j < l.length
            · have j0 : (0 : Int) ≤ ((j : Nat) : Int) := by omega
              have j1 : ((j : Nat) : Int) < ((l.length : Nat) : Int) := by omega
              obtain ⟨g, rfl⟩ : ∃ g, xa = some ⟨g, 0, none⟩ := by
                rcases ho.2 with ⟨_, e⟩ | ⟨g, cap, cur, e, _⟩
                · omega
                · injection e with e _ _
                  exact ⟨g, e⟩
              have c1 : wr.cell? ⟨g, j, none⟩ = some (.int .i64 (-1 - (k : Int))) := by
                rw [ho.cellAt j (by omega)]
                unfold encJ
                rw [List.getElem?_map, mkL_at hjl]
                rfl
              have q1 : ((-1 - (k : Int)) != (-1 - (k : Int))) = false := by simp
              clear ho
              go_wp2_with fail
              go_roundg (l.length - (j + 1))
              case measure => have := HJF.out; omega
              case rel => exact ⟨j + 1, by go_num, by omega, by have := HJF.out; rw [Hid]; omega, HC.out, HF.out⟩
            · obtain rfl : j = l.length := by omega
              clear ho
              go_wp2_with fail
              go_roundg (vsa.length - (k + 1))
              case measure => have := HKF.out; omega
              case rel => exact ⟨k + 1, by go_num, by omega, by have := HKF.out; rw [Hid]; omega, HC.out, HF.out⟩
        · obtain rfl : k = vsa.length := by omega
          have hBm : Below w4.heap.size w4 wr := hB46.trans (HF.out.below (Nat.le_trans hhi hhi4))
          have hXm : Below w.heap.size w wr := below_step hX4 hX4.size hBm
          have hRm := HR3.out.below (below_step hB4 hB4.size hBm)
          have HWm : Hid (RdL wr w3.heap.size vw vsw ls) := HW4.out.step hBm
          clear HC HF hB46 HLN HAB
          go_wp2_with fail
          refine (oExt_calls b c L m2 (by omega) wr hRm (hT.step hXm)).mono ?_
          rintro e w8 ⟨vm, qm, rfl, ⟨vsm, hCm, hqm⟩, hB8⟩
          have hX8 := below_step hXm hXm.size hB8
          rw [← HOS.out] at hCm
          have hW8 := HWm.out.step hB8
          rw [← HLS.out] at hW8
          have hl2 := lists2_same vm vw os w8 hCm.blocks hW8.blocks (by omega) (fun bl hbl => by have := HOK.out bl hbl; omega)
          have HL2 := hid_of hl2
          clear hl2 hCm hW8 hqm
          go_wp2_with fail
          refine HL2.out.mono ?_
          rintro e w9 ⟨rfl, hB9⟩
          have hX9 := below_step hX8 hX8.size hB9
          go_wp2_with fail
          refine (lives2_calls w9 (hT.step hX9)).mono ?_
          rintro e w10 ⟨rfl, hB10⟩
          go_wp2_with fail
          go_ret
          exact ⟨rfl, below_step hX9 hX9.size hB10⟩
end Go.Proofs.YtmmgdeoballhpaaDoor
