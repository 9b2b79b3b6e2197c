/- Package order's classes. -/
import Derived.Test.YtijjogpldoafjaaDoorJ18
import Derived.Deep.LoopGhost
import Derived.WalkMore
import Derived.Test.YtijjogpldoafjaaDoorJ15
import Derived.Test.YtijjogpldoafjaaDoorJ17
import Derived.Test.YtijjogpldoafjaaDoorJ09
namespace Go.Proofs.YtijjogpldoafjaaDoor
open Go.RowKit Go.Shelf Sx

/-- Both ways: what the program looks up. -/
theorem has_both {L : List Nat} (hw : WF L.length L) (hn : L.length ≤ 256) {p q : Nat} (hp : p < L.length) (hq : q < L.length) : hasP (interL (plusL L) (invL (plusL L))) ((p : Nat) : Int) ((q : Nat) : Int) = bothE (cloB L) p q := by
  have h1 := wf_plus hw
  have h2 := wf_inv hn h1
  have h3 := wf_inter h1 h2
  unfold hasP
  rw [h3.len, inR_nat hp, inR_nat hq, Bool.true_and, Bool.true_and, Int.toNat_natCast, Int.toNat_natCast, Bool.eq_iff_iff]
  unfold bothE
  rw [Bool.and_eq_true]
  have := hs_inter h1 h2 p q
  rw [hs_inv hn h1] at this
  exact this
theorem cls_head {E : Nat → Nat → Bool} {k i : Nat} {l : List Int} (h : ((clsK E k).map toI)[i]? = some l) : ∃ u, (fstK E k)[i]? = some u ∧ u < k ∧ l = toI (clK E k u) ∧ l[0]? = some ((u : Nat) : Int) := by
  unfold clsK at h
  rw [List.getElem?_map, List.getElem?_map] at h
  cases hu : (fstK E k)[i]? with
  | none => rw [hu] at h; cases h
  | some u =>
    rw [hu] at h
    simp at h
    obtain ⟨tl, e⟩ := clK_head (List.mem_of_getElem? hu)
    refine ⟨u, rfl, (fstK_mem.1 (List.mem_of_getElem? hu)).1, h.symm, ?_⟩
    rw [← h, e]
    rfl
theorem cls_len (E : Nat → Nat → Bool) (k : Nat) : (clsK E k).length ≤ k := by
  unfold clsK fstK
  rw [List.length_map]
  have := List.length_filter_le (fun p => leastE E p == p) (List.range k)
  rw [List.length_range] at this
  exact this
theorem cl_len (E : Nat → Nat → Bool) (k u : Nat) : (clK E k u).length ≤ k := by
  unfold clK
  have := List.length_filter_le (fun p => leastE E p == u) (List.range k)
  rw [List.length_range] at this
  exact this
set_option maxRecDepth 100000 in
set_option maxHeartbeats 8000000 in
theorem oClasses_calls (b c : Nat) (L : List Nat) (w : World) (h : IsRel w b c L) (hT : Tab w) (E : Nat → Nat → Bool) (HE : Hid (E = bothE (cloB L))) (HV : Hid (Eqv L.length E)) :
    Calls Tryd.prog 40 #[pv b] w fun e w' => ∃ v vs, e = .returned v ∧ ClR w' w.heap.size v vs ((clsK E L.length).map toI) ∧ Below w.heap.size w w' := by
  have hl := h.len
  obtain ⟨i0, hi, hz0, hz1, hz2⟩ := info_parts Tryd.infoint
  obtain ⟨i1, hJ, hy0, hy1, hy2⟩ := info_parts Tryd.infoints
  have HB : Hid (∀ p q : Nat, p < L.length → q < L.length → hasP (interL (plusL L) (invL (plusL L))) ((p : Nat) : Int) ((q : Nat) : Int) = E p q) := fun p q hp hq => by
    rw [HE.out]
    exact has_both (h.wf rfl) hl hp hq
  clear HE
  go_enter Tryd.func40, Tryd.ntmps40
  go_wp2_with fail
  go_step3
  go_wp2_with fail
  refine (Plus_calls b c L _ h).mono ?_
  rintro e w1 ⟨b1, c1, rfl, hM1⟩
  go_wp2_with fail
  refine (Inverse_calls b1 c1 (plusL L) _ hM1.rel (hT.step hM1.below)).mono ?_
  rintro e w2 ⟨b2, c2, rfl, hM2⟩
  have hM12 := hM1.step hM2.below
  go_wp2_with fail
  refine (Inter_calls b1 c1 b2 c2 (plusL L) (invL (plusL L)) _ hM12.rel hM2.rel).mono ?_
  rintro e w3 ⟨b3, c3, rfl, hM3⟩
  have hB3 : Below w.heap.size w w3 := below_step hM12.below hM12.below.size hM3.below
  have hR3 := h.below hB3
  have hI3 := hM3.rel
  clear hM1 hM2 hM12 hM3
  generalize interL (plusL L) (invL (plusL L)) = M at *
  go_wp2_with fail
  go_step3
  go_wp2_with fail
  refine (Len_calls b c L _ hR3).mono ?_
  rintro e w' ⟨rfl, hw'⟩
  obtain rfl : w3 = w' := hw'.symm
  clear hR3
  go_wp2_with fail
  have hb3 := hI3.head.lt
  have hc3 := hI3.rows.lt
  go_loopg [5, 17] L.length (fun f v5 i wr => ∃ (k : Nat) (vs : List Value), Hid (k + f = L.length) ∧ k ≤ L.length ∧ i = .int .i64 k ∧ Hid (ClR wr w3.heap.size v5 vs ((clsK E k).map toI)) ∧ Below w3.heap.size w3 wr)
  case atStart => exact ⟨0, [], Nat.zero_add _, by omega, rfl, ClR.nil _ _, Below.refl _ _⟩
  case round =>
    obtain ⟨k, vs, HKF, hk, rfl, HC, hBl⟩ := hrel
    obtain ⟨a5, cap5, rfl⟩ := owns_len HC.out.own
    have HVL : Hid (vs.length = (clsK E k).length) := by have := HC.out.rows.len; rw [Hid]; simpa using this
    have hvk : vs.length ≤ k := by have := cls_len E k; have := HVL.out; omega
    by_cases hlt : k < L.length
    · go_wp2_with fail
      go_loopg [22] vs.length (fun f i wr2 => ∃ j : Nat, Hid (j + f = vs.length) ∧ j ≤ vs.length ∧ i = .int .i64 j ∧ Hid (ClR wr2 w3.heap.size (.slice a5 vs.length cap5) vs ((clsK E k).map toI)) ∧ Below w3.heap.size w3 wr2 ∧ Hid (∀ (j' u : Nat), j' < j → (fstK E k)[j']? = some u → E u k = false))
      case atStart => exact ⟨0, Nat.zero_add _, by omega, rfl, HC.out, hBl, fun j' u hj' => by omega⟩
      case round =>
        clear HC hBl
        obtain ⟨j, HJF, hj, rfl, HC, hBl, HN⟩ := hrel
        by_cases hjl : j < vs.length
        · obtain ⟨x, hx⟩ : ∃ x, vs[j]? = some x := ⟨_, List.getElem?_eq_getElem hjl⟩
          obtain ⟨l, hl2, ho⟩ := HC.out.rows.at_ hx
          obtain ⟨u, hu1, hu2, hu3, hu4⟩ := cls_head hl2
          obtain ⟨s, capo, e1, hs1, hs2⟩ := owns_cells HC.out.own rfl (by omega)
          injection e1 with e1 _ e3
          subst e1
          subst e3
          have c0 := hs2 j x hx
          obtain ⟨sx, ox, capx, rfl, hsx, hcx⟩ := (owns_intsR ho).some (by have := (List.getElem?_eq_some_iff.1 hu4).1; omega)
          have c1 : wr.cell? ⟨sx, ox, none⟩ = some (.int .i64 ((u : Nat) : Int)) := hcx 0 _ hu4
          have hh := Has_calls b3 c3 M ((u : Nat) : Int) ((k : Nat) : Int) wr (hI3.below' hBl hb3 hc3)
          rw [HB.out u k (by omega) hlt] at hh
          have HX := hid_of hx
          have HL2 := hid_of hl2
          have HU1 := hid_of hu1
          have HU3 := hid_of hu3
          have HO := hid_of ho
          have hll : l.length ≤ k := by rw [hu3, toI_length]; exact cl_len E k u
          have j0 : (0 : Int) ≤ ((j : Nat) : Int) := by omega
          have j1 : ((j : Nat) : Int) < ((vs.length : Nat) : Int) := by omega
          have l0 : (0 : Int) < ((l.length : Nat) : Int) := by have := (List.getElem?_eq_some_iff.1 hu4).1; omega
          clear hx hl2 hu1 hu3 ho hu4 hcx hs2
          cases hE : E u k
          · rw [hE] at hh
            have HN2 : Hid (∀ (j' u : Nat), j' < j + 1 → (fstK E k)[j']? = some u → E u k = false) := fun j' u' hj' hu' => by
              by_cases e : j' = j
              · subst e
                rw [HU1.out] at hu'
                rw [← Option.some.inj hu']
                exact hE
              · exact HN.out j' u' (by omega) hu'
            clear hE
            go_wp2_with fail
            refine hh.mono ?_
            rintro e w4 ⟨rfl, hB4⟩
            go_wp2_with fail
            go_roundg (vs.length - (j + 1))
            case measure => have := HJF.out; omega
            case rel => exact ⟨j + 1, by have := HJF.out; rw [Hid]; omega, by omega, by go_num, HC.out.step hB4, below_step hBl hBl.size hB4, HN2.out⟩
          · rw [hE] at hh
            go_wp2_with fail
            refine hh.mono ?_
            rintro e w4 ⟨rfl, hB4⟩
            have HLE := hid_of (scan_some HV.out hlt HU1.out hE HN.out)
            have HCK : Hid ((clsK E (k + 1)).map toI = ((clsK E k).map toI).set j (l ++ [((k : Nat) : Int)])) := by
              rw [Hid, cls_in HLE.out hu2 HU1.out, List.map_set]
              congr 1
              rw [HU3.out]
              simp [toI]
            have HC4 := hid_of (HC.out.step hB4)
            have hB5 := below_step hBl hBl.size hB4
            have ho4 := hid_of (owns_below' HO.out hB4)
            have z4 := hB5.size
            have hs4 : s < w4.heap.size := (HC4.out.own.lt s rfl).2
            have HCS : Hid (w4.cell? ⟨s, j, none⟩ = some (.slice (some ⟨sx, ox, none⟩) l.length capx) ∧ w4.frozen? ⟨s, j, none⟩ = false ∧ some s ≠ (Value.slice (some ⟨sx, ox, none⟩) l.length capx).ownBlock) := ⟨(hB4.cell (p := ⟨s, j, none⟩) hs1).trans c0, HC4.out.own.frozenAt j, fun e => HC4.out.ne HX.out e.symm rfl⟩
            clear hE HC HN hBl hB4 c0 c1 HO HU3 HU1 hh
            go_wp2_with (at_builtin; refine wpList_append_own_at _ rfl _ _ 29 rfl w3.heap.size 3 i0 (.int .i64 0) 1 8 Tryd.underlying29 hi hz0 hz1 hz2 rfl (by decide) (.slice (some ⟨sx, ox, none⟩) l.length capx) l.length (encJ l) rfl (ho4.out.alloc _) ⟨_, 0, none⟩ 1 1 [.int .i64 ((k : Nat) : Int)] rfl rfl (by intro k u hk; match k, hk with | 0, hk => simp at hk; subst hk; exact (Blk.new _ _ _).cell rfl) (by simp [Value.oneCell']) (by unfold maxLen; omega) (by omega) (by simp; omega) ?_; intro v' w5 hown' hgrow _ hat; obtain ⟨a6, c6, hv6⟩ := owns_len hown'; subst hv6; have cs5 := hgrow.cell (cellA' HCS.out.1 _) HCS.out.2.2; have fs5 := (World.frozen?_of_block (hgrow.block s (by simp; omega) HCS.out.2.2)).trans ((World.frozen?_of_block (Below.heap_alloc _ _ _ hs4)).trans HCS.out.2.1))
            have hC6 := HC4.out.grow HX.out hown' hgrow hat
            rw [← HCK.out] at hC6
            have hb6 : Below w3.heap.size w3 (w5.setCell ⟨s, j, none⟩ (.slice a6 (l.length + 1) c6)) := ((hB5.alloc hB5.size _).grown hgrow (by simp; omega) (fun q e => (ho4.out.lt q e).1)).setCell (by have := (HC4.out.own.lt s rfl).1; exact this) _
            go_roundg (L.length - (k + 1))
            case measure => have := HKF.out; omega
            case rel => exact ⟨k + 1, _, by have := HKF.out; rw [Hid]; omega, by omega, by go_num, hC6, hb6⟩
        · obtain rfl : j = vs.length := by omega
          have HLE : Hid (leastE E k = k) := scan_none HV.out hlt (fun i u hu => HN.out i u (by
            have h1 := (List.getElem?_eq_some_iff.1 hu).1
            have h2 := HVL.out
            unfold clsK at h2
            rw [List.length_map] at h2
            omega) hu)
          have HCK : Hid ((clsK E (k + 1)).map toI = (clsK E k).map toI ++ [[((k : Nat) : Int)]]) := by
            rw [Hid, cls_new HLE.out, List.map_append]
            rfl
          have z4 := hBl.size
          have hnw : ∀ j u, ([.slice (some ⟨wr.heap.size, 0, none⟩) 1 1] : List Value)[j]? = some u → ((wr.alloc (.cells #[.int .i64 ((k : Nat) : Int)] 3)).alloc (.cells #[.slice (some ⟨wr.heap.size, 0, none⟩) 1 1] 29)).cell? ((⟨wr.heap.size + 1, 0, none⟩ : Addr).add j) = some u := by
            have := cell_one_new (wr.alloc (.cells #[.int .i64 ((k : Nat) : Int)] 3)) (.slice (some ⟨wr.heap.size, 0, none⟩) 1 1) 29
            rw [World.size_alloc] at this
            exact this
          have HNW := hid_of hnw
          clear hnw
          go_wp2_with (at_builtin; refine wpList_append_own_at _ rfl _ _ 25 rfl w3.heap.size 29 i1 (.slice none 0 0) 1 24 Tryd.underlying25 hJ hy0 hy1 hy2 rfl (by decide) (.slice a5 vs.length cap5) vs.length vs rfl ((HC.out.own.alloc _).alloc _) ⟨_, 0, none⟩ 1 1 [.slice (some ⟨wr.heap.size, 0, none⟩) 1 1] rfl rfl HNW.out (by simp [Value.oneCell']) (by unfold maxLen; omega) (by omega) (by simp; omega) ?_; intro v' w5 hown' hgrow _ _)
          have hC6 := HC.out.push hBl.size hown' hgrow
          rw [← HCK.out] at hC6
          have hb6 : Below w3.heap.size w3 w5 := ((hBl.alloc hBl.size _).alloc (by simp; omega) _).grown hgrow (by simp; omega) (fun q e => (HC.out.own.lt q e).1)
          go_roundg (L.length - (k + 1))
          case measure => have := HKF.out; omega
          case rel => exact ⟨k + 1, _, by have := HKF.out; rw [Hid]; omega, by omega, by go_num, hC6, hb6⟩
    · obtain rfl : k = L.length := by omega
      go_wp2_with fail
      rw [Exit.noGoto_ret]
      go_ret
      exact ⟨_, vs, rfl, (HC.out.step (Below.refl _ _)).lo hB3.size, hB3.trans (hBl.mono hB3.size)⟩
end Go.Proofs.YtijjogpldoafjaaDoor
/- Package order's sortBlocks, telling which slices it lays; Components; Reduction. -/
namespace Go.Proofs.YtijjogpldoafjaaDoor
open Go.RowKit Go.Shelf Sx

set_option maxRecDepth 100000 in
set_option maxHeartbeats 8000000 in
theorem oSortB_own (b c base : Nat) (L : List Nat) (v : Value) (vs : List Value) (bs : List (List Nat)) (w : World) (h : IsRel w b c L) (hT : Tab w) (hv0 : ClR w base v vs (bs.map toI)) (hm : bs.length ≤ 256) (hp : ∀ bl ∈ bs, bl.length ≤ 256 ∧ ∀ p ∈ bl, p < L.length) (hX : (sortOf (betw L bs)).length = bs.length) :
    Calls Tryd.prog 39 #[pv b, v] w fun e w' => ∃ v', e = .returned (.tuple #[v', .int .i64 0]) ∧ w'.ownsRow w.heap.size 29 1 v' bs.length ((sortOf (betw L bs)).map (fun i => vs.getD i (.slice none 0 0))) ∧ Below w.heap.size w w' := by
  have hv := hv0.blocks
  have hbt := oBetween_calls b c L v bs w h hT hv hm hp
  obtain ⟨i0, hi, hz0, hz1, hz2⟩ := info_parts Tryd.infoints
  go_enter Tryd.func39, Tryd.ntmps39
  go_wp2_with fail
  refine hbt.mono ?_
  rintro e w1 ⟨b2, c2, rfl, hM⟩
  go_wp2_with fail
  refine (oSort_calls b2 c2 _ w1 hM.rel (hT.step hM.below)).mono ?_
  rintro e w2 ⟨v2, code, rfl, ⟨hA1, hA2⟩, hB2⟩
  rw [betw_length] at hA1 hA2
  have hBw : Below w.heap.size w w2 := below_step hM.below hM.below.size hB2
  clear hbt
  obtain ⟨rfl, ho⟩ := hA1 hX
  have hso := sortOf_lt (betw L bs)
  rw [betw_length] at hso
  have hIR : IntsR w2 v2 (toI (sortOf (betw L bs))) := by
    have : w2.ownsRow w1.heap.size 3 1 v2 (toI (sortOf (betw L bs))).length (encJ (toI (sortOf (betw L bs)))) := by
      rw [toI_length, hX, show encJ (toI (sortOf (betw L bs))) = encN (sortOf (betw L bs)) from by simp [encJ, toI, encN]]
      exact ho
    exact owns_intsR this
  have hC := hv0.step hBw
  have hvl : vs.length = bs.length := by have := hC.rows.len; simpa using this
  obtain ⟨p, cap, rfl⟩ := owns_len hC.own
  have hvs : 0 < bs.length → ∃ s, p = some ⟨s, 0, none⟩ ∧ s < w2.heap.size ∧ ∀ (i : Nat) (u : Value), vs[i]? = some u → w2.cell? ⟨s, i, none⟩ = some u := fun h0 => by
    obtain ⟨s, cap', e1, h1, h2⟩ := owns_cells hC.own rfl (by omega)
    injection e1 with e1 _ _
    exact ⟨s, e1, h1, h2⟩
  have hrow : ∀ (i : Nat) (u : Value) (bl : List Nat), vs[i]? = some u → bs[i]? = some bl → IntsR w2 u (toI bl) := fun i u bl hu hbl => owns_intsR (hC.rows.row i u (toI bl) hu (by rw [List.getElem?_map, hbl]; rfl))
  rw [hvl]
  obtain ⟨p2, cap2, rfl, hq⟩ : ∃ a cap, v2 = .slice a (sortOf (betw L bs)).length cap ∧ (0 < (sortOf (betw L bs)).length → ∃ s o, a = some ⟨s, o, none⟩ ∧ s < w2.heap.size ∧ ∀ (i x : Nat), (sortOf (betw L bs))[i]? = some x → w2.cell? ⟨s, o + i, none⟩ = some (.int .i64 x)) := by
    rcases hIR with ⟨a, cap, e, e2⟩ | ⟨s, o, cap, e, h1, h2⟩
    · have : (sortOf (betw L bs)).length = 0 := by have := congrArg List.length e2; simpa [toI] using this
      exact ⟨a, cap, by rw [this]; exact e, fun h0 => by omega⟩
    · exact ⟨_, cap, by rw [toI_length] at e; exact e, fun _ => ⟨s, o, rfl, h1, fun i x hx => h2 i _ (toI_at hx)⟩⟩
  have hol : (sortOf (betw L bs)).length ≤ 256 := by omega
  have HX := hid_of hX
  have HQ := hid_of hq
  have HSO := hid_of hso
  have HVS := hid_of hvs
  have HROW := hid_of hrow
  clear hA1 hA2 ho hIR hq hX hso hvs hrow hv hv0 hC
  generalize hod : sortOf (betw L bs) = od at *
  have HOD := hid_of hod
  clear hod
  go_wp2_with fail
  go_loopw [8, 20] (fun v8 i wr => ∃ k : Nat, k ≤ od.length ∧ i = .int .i64 k ∧ Hid (wr.ownsRow w2.heap.size 29 1 v8 k ((od.take k).map (fun i => vs.getD i (.slice none 0 0)))) ∧ Below w2.heap.size w2 wr) (fun _ i _ => od.length - (intOf i).toNat)
  case atStart => exact ⟨0, by omega, rfl, World.ownsRow_nil _ _ _ _, Below.refl _ _⟩
  case round =>
    obtain ⟨k, hk, rfl, HO, hBl⟩ := hrel
    by_cases hlt : k < od.length
    · obtain ⟨s2, o2, rfl, hs3, hs4⟩ := HQ.out (by omega)
      obtain ⟨j, hj⟩ : ∃ j, od[k]? = some j := ⟨_, List.getElem?_eq_getElem hlt⟩
      have hjn := HSO.out j (List.mem_of_getElem? hj)
      obtain ⟨s, rfl, hs1, hs2⟩ := HVS.out (by omega)
      obtain ⟨u, hu⟩ : ∃ u, vs[j]? = some u := ⟨_, List.getElem?_eq_getElem (by omega)⟩
      obtain ⟨bl, hbl⟩ : ∃ bl, bs[j]? = some bl := ⟨_, List.getElem?_eq_getElem hjn⟩
      obtain ⟨ua, ucap, rfl⟩ := (HROW.out j u bl hu hbl).len
      have c0 := (hBl.cell (p := ⟨s2, o2 + k, none⟩) hs3).trans (hs4 k j hj)
      have c1 := (hBl.cell (p := ⟨s, j, none⟩) hs1).trans (hs2 j _ hu)
      have HE : Hid ((od.take (k + 1)).map (fun i => vs.getD i (.slice none 0 0)) = (od.take k).map (fun i => vs.getD i (.slice none 0 0)) ++ [.slice ua (toI bl).length ucap]) := by
        show _ = _
        rw [List.take_add_one, hj, List.map_append]
        simp [List.getD, hu]
      have j0 : (0 : Int) ≤ (j : Int) := by omega
      have j1 : (j : Int) < (bs.length : Int) := by omega
      have zB := hBl.size
      clear hj hu hbl hs2 hs4
      generalize (toI bl).length = ul at *
      generalize (od.take k).map (fun i => vs.getD i (.slice none 0 0)) = xs at *
      go_wp2_with (at_builtin; refine wpList_append_own_at _ rfl _ _ 25 rfl w2.heap.size 29 i0 (.slice none 0 0) 1 24 Tryd.underlying25 hi hz0 hz1 hz2 rfl (by decide) u8 k xs rfl (HO.out.alloc _) ⟨_, 0, none⟩ 1 1 [.slice ua ul ucap] rfl rfl (by intro k u hk; match k, hk with | 0, hk => simp at hk; subst hk; exact (Blk.new _ _ _).cell rfl) (by simp [Value.oneCell']) (by unfold maxLen; omega) (by omega) (by simp; omega) ?_; intro v' w5 hown' hgrow _ hat)
      refine ⟨⟨k + 1, by omega, by go_num, ?_, ?_⟩, by simp [intOf]; omega⟩
      · rw [HE.out]; exact hown'
      · exact (hBl.alloc hBl.size _).grown hgrow (by simp; omega) (fun k e => owns_ge HO.out e)
    · obtain rfl : k = od.length := by omega
      have ho1 := HO.out
      rw [List.take_length] at ho1
      obtain ⟨a8, c8, hv8⟩ := owns_len ho1
      go_wp2_with fail
      go_ret2
      refine ⟨u8, rfl, ?_, below_step hBw hBw.size hBl⟩
      have := owns_lo ho1 hBw.size
      rw [HX.out] at this
      rw [HOD.out]
      exact this
/-- The lists in another order. -/
theorem ClR.perm {W : World} {base : Nat} {v v' : Value} {vs : List Value} {bs : List (List Nat)} {od : List Nat} (h : ClR W base v vs (bs.map toI)) (hn : od.Nodup) (hlt : ∀ i ∈ od, i < bs.length) (ho : W.ownsRow base 29 1 v' od.length (od.map (fun i => vs.getD i (.slice none 0 0)))) : ClR W base v' (od.map (fun i => vs.getD i (.slice none 0 0))) ((od.map (fun i => bs.getD i [])).map toI) := by
  have hvl : vs.length = bs.length := by have := h.rows.len; simpa using this
  have key : ∀ (i : Nat) (x : Value), (od.map (fun i => vs.getD i (.slice none 0 0)))[i]? = some x → ∃ j, od[i]? = some j ∧ vs[j]? = some x ∧ j < bs.length := fun i x hx => by
    rw [List.getElem?_map] at hx
    cases hj : od[i]? with
    | none => rw [hj] at hx; cases hx
    | some j =>
      rw [hj] at hx
      have hjn := hlt j (List.mem_of_getElem? hj)
      simp at hx
      refine ⟨j, rfl, ?_, hjn⟩
      rw [List.getElem?_eq_getElem (by omega)] at hx ⊢
      simpa using hx
  refine ⟨by rw [List.length_map]; exact ho, by simp, fun i x l hx hl => ?_, fun i j x y g hx hy h1 h2 => ?_⟩
  · obtain ⟨j, hj, hvj, hjn⟩ := key i x hx
    refine h.rows.row j x l hvj ?_
    rw [List.getElem?_map, List.getElem?_map, hj] at hl
    simp at hl
    rw [List.getElem?_map, List.getElem?_eq_getElem hjn]
    simp
    rw [List.getElem?_eq_getElem hjn] at hl
    simpa using hl
  · obtain ⟨a, ha, hva, _⟩ := key i x hx
    obtain ⟨b, hb, hvb, _⟩ := key j y hy
    have := h.rows.apart a b x y g hva hvb h1 h2
    subst this
    have l1 := (List.getElem?_eq_some_iff.1 ha).1
    exact (List.getElem?_inj l1 hn).1 (by rw [ha, hb])
set_option maxHeartbeats 1000000 in
theorem oComponents_calls (b c : Nat) (L : List Nat) (F : Nat → Nat → Bool) (w : World) (h : IsRel w b c L) (hT : Tab w) (hTw : TwO L.length F L) :
    Calls Tryd.prog 15 #[pv b] w fun e w' => ∃ v vs, e = .returned v ∧ ClR w' w.heap.size v vs ((compsL L).map toI) ∧ Below w.heap.size w w' := by
  have hl := h.len
  have hw := h.wf rfl
  have hC := clo_plus hTw hw
  have hcl := oClasses_calls b c L w h hT (bothE (cloB L)) rfl hC.eqv
  have hall := comps_all hTw hl h.low hC
  have hgd := sortOf_good (betw L (clsK (bothE (cloB L)) L.length))
  have hcn := cls_len (bothE (cloB L)) L.length
  have hp : ∀ bl ∈ clsK (bothE (cloB L)) L.length, bl.length ≤ 256 ∧ ∀ p ∈ bl, p < L.length := fun bl hbl => by
    obtain ⟨u, _, rfl⟩ := List.mem_map.1 hbl
    have := cl_len (bothE (cloB L)) L.length u
    exact ⟨by omega, fun p hp => (clK_mem.1 hp).1⟩
  have HA := hid_of hall
  have HG := hid_of hgd
  have HP := hid_of hp
  have HSB : Hid (compsL L = (sortOf (betw L (clsK (bothE (cloB L)) L.length))).map (fun i => (clsK (bothE (cloB L)) L.length).getD i [])) := rfl
  clear hall hgd hp hw hC hTw
  generalize clsK (bothE (cloB L)) L.length = bs at *
  generalize compsL L = cs at *
  go_enter Tryd.func15, Tryd.ntmps15
  go_wp2_with fail
  refine hcl.mono ?_
  rintro e w1 ⟨v1, vs, rfl, hC1, hB1⟩
  go_wp2_with fail
  refine (oSortB_own b c w.heap.size L v1 vs bs w1 (h.below hB1) (hT.step hB1) hC1 (by omega) HP.out HA.out).mono ?_
  rintro e w2 ⟨v2, rfl, ho2, hB2⟩
  go_wp2_with fail
  go_ret
  refine ⟨v2, (sortOf (betw L bs)).map (fun i => vs.getD i (.slice none 0 0)), rfl, ?_, below_step hB1 hB1.size hB2⟩
  rw [HSB.out]
  obtain ⟨g1, g2, _⟩ := HG.out
  rw [betw_length] at g2
  exact (hC1.step hB2).perm g1 g2 (by rw [HA.out]; exact owns_lo ho2 hB1.size)
/-- What Reduction answers. -/
def redL (L : List Nat) : List Nat := minusL (plusL L) (compL (plusL L) (plusL L))
set_option maxHeartbeats 1000000 in
theorem oReduction_no (b c : Nat) (L : List Nat) (w : World) (h : IsRel w b c L) (H0 : Hid ((loopsL (plusL L) == 0) = false)) :
    Calls Tryd.prog 16 #[pv b] w fun e w' => e = .returned (.tuple #[.pointer none, .int .i64 3]) ∧ Below w.heap.size w w' := by
  go_enter Tryd.func16, Tryd.ntmps16
  go_wp2_with fail
  refine (Plus_calls b c L _ h).mono ?_
  rintro e w1 ⟨b1, c1, rfl, hM1⟩
  go_wp2_with fail
  refine (Irr_calls b1 c1 (plusL L) _ hM1.rel).mono ?_
  rw [H0.out]
  rintro e w2 ⟨rfl, hB2⟩
  go_wp2_with fail
  go_ret2
  exact ⟨rfl, below_step hM1.below hM1.below.size hB2⟩
set_option maxHeartbeats 1000000 in
theorem oReduction_yes (b c : Nat) (L : List Nat) (w : World) (h : IsRel w b c L) (hT : Tab w) (H0 : Hid ((loopsL (plusL L) == 0) = true)) :
    Calls Tryd.prog 16 #[pv b] w fun e w' => ∃ b2 c2, e = .returned (.tuple #[pv b2, .int .i64 0]) ∧ Made w w' b2 c2 (redL L) := by
  go_enter Tryd.func16, Tryd.ntmps16
  go_wp2_with fail
  refine (Plus_calls b c L _ h).mono ?_
  rintro e w1 ⟨b1, c1, rfl, hM1⟩
  go_wp2_with fail
  refine (Irr_calls b1 c1 (plusL L) _ hM1.rel).mono ?_
  rw [H0.out]
  rintro e w2 ⟨rfl, hB2⟩
  have hM2 := hM1.step hB2
  go_wp2_with fail
  refine (Comp_calls b1 c1 b1 c1 (plusL L) (plusL L) _ hM2.rel hM2.rel (hT.step hM2.below)).mono ?_
  rintro e w3 ⟨b3, c3, rfl, hM3⟩
  go_wp2_with fail
  refine (Minus_calls b1 c1 b3 c3 (plusL L) (compL (plusL L) (plusL L)) _ (hM2.rel.below hM3.below) hM3.rel).mono ?_
  rintro e w4 ⟨b4, c4, rfl, hM4⟩
  have hB3 : Below w.heap.size w w3 := below_step hM2.below hM2.below.size hM3.below
  go_wp2_with fail
  go_ret2
  exact ⟨b4, c4, rfl, hM4.rel, Nat.le_trans hB3.size hM4.hb, Nat.le_trans hB3.size hM4.hc, below_step hB3 hB3.size hM4.below⟩
end Go.Proofs.YtijjogpldoafjaaDoor
/- Of RefInter, what this seat can build. -/
namespace Go.Proofs.YtijjogpldoafjaaDoor
open Go.RowKit Go.Shelf Sx

theorem hasF_nat (n : Nat) (F : Nat → Nat → Bool) (p q : Nat) : hasF n F ((p : Nat) : Int) ((q : Nat) : Int) = extF n F p q := by
  unfold hasF extF inR
  rw [Int.toNat_natCast, Int.toNat_natCast]
  congr 1
  · simp
  · congr 1
    simp
theorem fillF_put2 {G F0 : Nat → Nat → Bool} {m a b : Nat} {v : Bool} (h : G a b = v) : upd (fillF G F0 m a b) a b v = fillF G F0 m a (b + 1) := by
  rw [← h]
  exact fillF_put G F0
set_option maxRecDepth 100000 in
set_option maxHeartbeats 8000000 in
theorem refMinus_calls (lo lo2 n m N : Nat) (hn : n ≤ 256) (hm : m ≤ 256) (HN : Hid (N = max n m)) (x : Option Addr) (y z : Nat) (rb : Nat → Nat) (F : Nat → Nat → Bool) (x1 : Option Addr) (y1 z1 : Nat) (rb1 : Nat → Nat) (G : Nat → Nat → Bool) (w : World) (h : RefM lo w (.slice x y z) n n rb F) (h1 : RefM lo2 w (.slice x1 y1 z1) m m rb1 G) :
    Calls Tryd.prog 57 #[.agg #[.int .i64 ((n : Nat) : Int), .slice x y z], .agg #[.int .i64 ((m : Nat) : Int), .slice x1 y1 z1]] w fun e w' => ∃ M rb', e = .returned (.agg #[.int .i64 ((N : Nat) : Int), M]) ∧ RefM w.heap.size w' M N N rb' (fun p q => extF n F p q && !extF m G p q) ∧ Below w.heap.size w w' := by
  have hN : N ≤ 256 := by have := HN.out; omega
  have hnN : n ≤ N := by have := HN.out; omega
  have hmN : m ≤ N := by have := HN.out; omega
  go_enter Tryd.func57, Tryd.ntmps57
  go_wp2_with fail
  refine (refWide_at lo n hn x y z rb F m N hm HN _ (((h.alloc _).alloc _).alloc _)).mono ?_
  rintro e w1 ⟨M, rbw, rfl, hRM, hB1⟩
  obtain ⟨x2, y2, z2, rfl⟩ := hRM.slice
  have hA : MkAt w (w1.alloc (.cells #[.int .i64 ((N : Nat) : Int), .slice x2 y2 z2] 46)) 3 [(0, #[.int .i64 ((n : Nat) : Int), .slice x y z]), (1, #[.int .i64 ((m : Nat) : Int), .slice x1 y1 z1]), (2, #[.int .i64 0, .slice none 0 0])] w1.heap.size N (.slice x2 y2 z2) rbw (fillF (fun p q => extF n F p q && !extF m G p q) (extF n F) N 0 0) := by
    refine MkAt.begin ((((Below.refl _ w).alloc (Nat.le_refl _) _).alloc (by simp) _).alloc (by simp; omega) _) (by simp) ?_ (hRM.congr fun p q hp hq => ?_) hB1
    · intro x hx
      simp only [List.mem_cons, List.not_mem_nil, or_false] at hx
      rcases hx with rfl | rfl | rfl
      · exact ⟨by omega, ((Blk.new w _ _).alloc _).alloc _⟩
      · exact ⟨by omega, (Blk.new2 w _ _ _).alloc _⟩
      · exact ⟨by omega, Blk.new3 w _ _ _ _⟩
    · rw [fillF_zero, fill_ext]
  clear hRM hB1
  go_wp2_with fail
  generalize w1.heap.size = B at *
  go_loopw [6] (fun i wr => ∃ a, a ≤ N ∧ i = .int .i64 ((a : Nat) : Int) ∧ MkAt w wr 3 [(0, #[.int .i64 ((n : Nat) : Int), .slice x y z]), (1, #[.int .i64 ((m : Nat) : Int), .slice x1 y1 z1]), (2, #[.int .i64 0, .slice none 0 0])] B N (.slice x2 y2 z2) rbw (fillF (fun p q => extF n F p q && !extF m G p q) (extF n F) N a 0)) (fun i _ => N - (intOf i).toNat)
  case atStart => exact ⟨0, by omega, rfl, hA⟩
  case round =>
    clear hA
    obtain ⟨a, ha, rfl, hA⟩ := hrel
    (try dsimp only at hA)
    have c0 := hA.box.cell (j := 0) rfl
    by_cases hlt : a < N
    · go_wp2_with fail
      clear c0
      go_loopw [7] (fun i wr => ∃ b, b ≤ N ∧ i = .int .i64 ((b : Nat) : Int) ∧ MkAt w wr 3 [(0, #[.int .i64 ((n : Nat) : Int), .slice x y z]), (1, #[.int .i64 ((m : Nat) : Int), .slice x1 y1 z1]), (2, #[.int .i64 0, .slice none 0 0])] B N (.slice x2 y2 z2) rbw (fillF (fun p q => extF n F p q && !extF m G p q) (extF n F) N a b)) (fun i _ => N - (intOf i).toNat)
      case atStart => exact ⟨0, by omega, rfl, hA⟩
      case round =>
        clear hA
        obtain ⟨b, hb, rfl, hA⟩ := hrel
        (try dsimp only at hA)
        have c0 := hA.box.cell (j := 0) rfl
        by_cases hlt2 : b < N
        · skip
          have d1 := hA.box.cell (j := 1) rfl
          have c2 := hA.snd.cell (j := 1) rfl
          obtain ⟨g2, cap2, e2, q2, _, n2, s0, s1, fz, q3⟩ := hA.ref.at_ (p := a) (q := b) (by omega) (by omega)
          cases e2
          rw [fillF_at] at s1
          have haN : a < N := by omega
          have hbN : b < N := by omega
          cases hv : extF n F a b
          · rw [hv] at s1
            have hA2 := (hA.drew.put (p := a) (q := b) (by omega) (by omega) false).congr (G := fillF (fun p q => extF n F p q && !extF m G p q) (extF n F) N a (b + 1)) (fun p q _ _ => congrFun (congrFun (fillF_put2 (G := fun p q => extF n F p q && !extF m G p q) (by rw [hv, Bool.false_and])) p) q)
            go_wp2_with fail
            go_region
            all_goals
              go_wp2_with fail
              refine ⟨⟨b + 1, by omega, by go_num, hA2⟩, by simp [intOf]; omega⟩
          · rw [hv] at s1
            go_wp2_with fail
            generalize hA0 : Act.mk _ _ = a0
            have hsz : a0.tmps.size = 47 := by rw [← hA0]; rfl
            have b5 : Act.eval a0 (.tmp 5) = pv B := by rw [← hA0]; rfl
            have b6 : Act.eval a0 (.tmp 6) = .int .i64 ((a : Nat) : Int) := by rw [← hA0]; rfl
            have b7 : Act.eval a0 (.tmp 7) = .int .i64 ((b : Nat) : Int) := by rw [← hA0]; rfl
            have b3 : Act.eval a0 (.tmp 3) = pv (w.heap.size + 1) := by rw [← hA0]; rfl
            refine wp_region_held_drew (S := (fun W' => ∃ F', MkAt w W' 3 [(0, #[.int .i64 ((n : Nat) : Int), .slice x y z]), (1, #[.int .i64 ((m : Nat) : Int), .slice x1 y1 z1]), (2, #[.int .i64 0, .slice none 0 0])] B N (.slice (some ⟨g2, 0, none⟩) N z2) rbw F')) (by kernel_rfl) ⟨_, hA.drew⟩ (fun hS => ?_)
            refine anyS_take (i := 0) (d := some 24) (v := .pointer (some ⟨B, 1, none⟩)) hS rfl rfl (by kernel_rfl) (by kernel_rfl) (by kernel_rfl) (fun _ _ _ h => h) (by rfl) ?_ ?_
            · intro w9 hSw
              have e5 := b5
              have ec : ∀ v, Act.eval a0 (.const v) = v := fun _ => rfl
              have ef : ∀ f, Act.eval a0 (.func f) = .func (.func f) #[] #[] := fun _ => rfl
              generalize Act.eval a0 = ρ at *
              simp only [List.getElem_toArray, List.getElem_cons_zero]
              clear hSw
              go_simp
            refine anyS_take (i := 1) (d := some 25) (v := .slice (some ⟨g2, 0, none⟩) N z2) hS rfl rfl (by kernel_rfl) (by kernel_rfl) (by kernel_rfl) (fun _ _ _ h => h) (by rfl) ?_ ?_
            · intro w9 hSw
              have e24 : Act.eval (a0.put (some 24) (.pointer (some ⟨B, 1, none⟩))) (.tmp 24) = .pointer (some ⟨B, 1, none⟩) := by rw [Act.eval_put_same _ _ _ (by (repeat rw [Act.size_put]); omega)]
              have ec : ∀ v, Act.eval (a0.put (some 24) (.pointer (some ⟨B, 1, none⟩))) (.const v) = v := fun _ => rfl
              have ef : ∀ f, Act.eval (a0.put (some 24) (.pointer (some ⟨B, 1, none⟩))) (.func f) = .func (.func f) #[] #[] := fun _ => rfl
              generalize Act.eval (a0.put (some 24) (.pointer (some ⟨B, 1, none⟩))) = ρ at *
              simp only [List.getElem_toArray, List.getElem_cons_zero, List.getElem_cons_succ]
              obtain ⟨F9, hA9⟩ := hSw
              have d9 := hA9.box.cell (j := 1) rfl
              go_simp
            refine anyS_take (i := 2) (d := some 26) (v := .int .i64 ((a : Nat) : Int)) hS rfl rfl (by kernel_rfl) (by kernel_rfl) (by kernel_rfl) (fun _ _ _ h => h) (by rfl) ?_ ?_
            · intro w9 hSw
              have e6 : Act.eval ((a0.put (some 24) (.pointer (some ⟨B, 1, none⟩))).put (some 25) (.slice (some ⟨g2, 0, none⟩) N z2)) (.tmp 6) = .int .i64 ((a : Nat) : Int) := by rw [Act.eval_put_ne _ _ _ _ (by decide), Act.eval_put_ne _ _ _ _ (by decide), b6]
              have ec : ∀ v, Act.eval ((a0.put (some 24) (.pointer (some ⟨B, 1, none⟩))).put (some 25) (.slice (some ⟨g2, 0, none⟩) N z2)) (.const v) = v := fun _ => rfl
              have ef : ∀ f, Act.eval ((a0.put (some 24) (.pointer (some ⟨B, 1, none⟩))).put (some 25) (.slice (some ⟨g2, 0, none⟩) N z2)) (.func f) = .func (.func f) #[] #[] := fun _ => rfl
              generalize Act.eval ((a0.put (some 24) (.pointer (some ⟨B, 1, none⟩))).put (some 25) (.slice (some ⟨g2, 0, none⟩) N z2)) = ρ at *
              simp only [List.getElem_toArray, List.getElem_cons_zero, List.getElem_cons_succ]
              clear hSw
              go_simp
            refine anyS_take (i := 3) (d := some 27) (v := .pointer (some ⟨g2, a, none⟩)) hS rfl rfl (by kernel_rfl) (by kernel_rfl) (by kernel_rfl) (fun _ _ _ h => h) (by rfl) ?_ ?_
            · intro w9 hSw
              have e25 : Act.eval (((a0.put (some 24) (.pointer (some ⟨B, 1, none⟩))).put (some 25) (.slice (some ⟨g2, 0, none⟩) N z2)).put (some 26) (.int .i64 ((a : Nat) : Int))) (.tmp 25) = .slice (some ⟨g2, 0, none⟩) N z2 := by rw [Act.eval_put_ne _ _ _ _ (by decide), Act.eval_put_same _ _ _ (by (repeat rw [Act.size_put]); omega)]
              have e26 : Act.eval (((a0.put (some 24) (.pointer (some ⟨B, 1, none⟩))).put (some 25) (.slice (some ⟨g2, 0, none⟩) N z2)).put (some 26) (.int .i64 ((a : Nat) : Int))) (.tmp 26) = .int .i64 ((a : Nat) : Int) := by rw [Act.eval_put_same _ _ _ (by (repeat rw [Act.size_put]); omega)]
              have ec : ∀ v, Act.eval (((a0.put (some 24) (.pointer (some ⟨B, 1, none⟩))).put (some 25) (.slice (some ⟨g2, 0, none⟩) N z2)).put (some 26) (.int .i64 ((a : Nat) : Int))) (.const v) = v := fun _ => rfl
              have ef : ∀ f, Act.eval (((a0.put (some 24) (.pointer (some ⟨B, 1, none⟩))).put (some 25) (.slice (some ⟨g2, 0, none⟩) N z2)).put (some 26) (.int .i64 ((a : Nat) : Int))) (.func f) = .func (.func f) #[] #[] := fun _ => rfl
              generalize Act.eval (((a0.put (some 24) (.pointer (some ⟨B, 1, none⟩))).put (some 25) (.slice (some ⟨g2, 0, none⟩) N z2)).put (some 26) (.int .i64 ((a : Nat) : Int))) = ρ at *
              simp only [List.getElem_toArray, List.getElem_cons_zero, List.getElem_cons_succ]
              clear hSw
              go_simp
            refine anyS_take (i := 4) (d := some 28) (v := hdr N (rbw a)) hS rfl rfl (by kernel_rfl) (by kernel_rfl) (by kernel_rfl) (fun _ _ _ h => h) (by rfl) ?_ ?_
            · intro w9 hSw
              have e27 : Act.eval ((((a0.put (some 24) (.pointer (some ⟨B, 1, none⟩))).put (some 25) (.slice (some ⟨g2, 0, none⟩) N z2)).put (some 26) (.int .i64 ((a : Nat) : Int))).put (some 27) (.pointer (some ⟨g2, a, none⟩))) (.tmp 27) = .pointer (some ⟨g2, a, none⟩) := by rw [Act.eval_put_same _ _ _ (by (repeat rw [Act.size_put]); omega)]
              have ec : ∀ v, Act.eval ((((a0.put (some 24) (.pointer (some ⟨B, 1, none⟩))).put (some 25) (.slice (some ⟨g2, 0, none⟩) N z2)).put (some 26) (.int .i64 ((a : Nat) : Int))).put (some 27) (.pointer (some ⟨g2, a, none⟩))) (.const v) = v := fun _ => rfl
              have ef : ∀ f, Act.eval ((((a0.put (some 24) (.pointer (some ⟨B, 1, none⟩))).put (some 25) (.slice (some ⟨g2, 0, none⟩) N z2)).put (some 26) (.int .i64 ((a : Nat) : Int))).put (some 27) (.pointer (some ⟨g2, a, none⟩))) (.func f) = .func (.func f) #[] #[] := fun _ => rfl
              generalize Act.eval ((((a0.put (some 24) (.pointer (some ⟨B, 1, none⟩))).put (some 25) (.slice (some ⟨g2, 0, none⟩) N z2)).put (some 26) (.int .i64 ((a : Nat) : Int))).put (some 27) (.pointer (some ⟨g2, a, none⟩))) = ρ at *
              simp only [List.getElem_toArray, List.getElem_cons_zero, List.getElem_cons_succ]
              obtain ⟨F9, hA9⟩ := hSw
              obtain ⟨g9, cap9, e9, _, _, _, s9, _, _, _⟩ := hA9.ref.at_ (p := a) (q := b) haN hbN
              cases e9
              go_simp
            refine anyS_take (i := 5) (d := some 29) (v := .int .i64 ((b : Nat) : Int)) hS rfl rfl (by kernel_rfl) (by kernel_rfl) (by kernel_rfl) (fun _ _ _ h => h) (by rfl) ?_ ?_
            · intro w9 hSw
              have e7 : Act.eval (((((a0.put (some 24) (.pointer (some ⟨B, 1, none⟩))).put (some 25) (.slice (some ⟨g2, 0, none⟩) N z2)).put (some 26) (.int .i64 ((a : Nat) : Int))).put (some 27) (.pointer (some ⟨g2, a, none⟩))).put (some 28) (hdr N (rbw a))) (.tmp 7) = .int .i64 ((b : Nat) : Int) := by rw [Act.eval_put_ne _ _ _ _ (by decide), Act.eval_put_ne _ _ _ _ (by decide), Act.eval_put_ne _ _ _ _ (by decide), Act.eval_put_ne _ _ _ _ (by decide), Act.eval_put_ne _ _ _ _ (by decide), b7]
              have ec : ∀ v, Act.eval (((((a0.put (some 24) (.pointer (some ⟨B, 1, none⟩))).put (some 25) (.slice (some ⟨g2, 0, none⟩) N z2)).put (some 26) (.int .i64 ((a : Nat) : Int))).put (some 27) (.pointer (some ⟨g2, a, none⟩))).put (some 28) (hdr N (rbw a))) (.const v) = v := fun _ => rfl
              have ef : ∀ f, Act.eval (((((a0.put (some 24) (.pointer (some ⟨B, 1, none⟩))).put (some 25) (.slice (some ⟨g2, 0, none⟩) N z2)).put (some 26) (.int .i64 ((a : Nat) : Int))).put (some 27) (.pointer (some ⟨g2, a, none⟩))).put (some 28) (hdr N (rbw a))) (.func f) = .func (.func f) #[] #[] := fun _ => rfl
              generalize Act.eval (((((a0.put (some 24) (.pointer (some ⟨B, 1, none⟩))).put (some 25) (.slice (some ⟨g2, 0, none⟩) N z2)).put (some 26) (.int .i64 ((a : Nat) : Int))).put (some 27) (.pointer (some ⟨g2, a, none⟩))).put (some 28) (hdr N (rbw a))) = ρ at *
              simp only [List.getElem_toArray, List.getElem_cons_zero, List.getElem_cons_succ]
              clear hSw
              go_simp
            refine anyS_take (i := 6) (d := some 30) (v := .pointer (some ⟨B, 1, none⟩)) hS rfl rfl (by kernel_rfl) (by kernel_rfl) (by kernel_rfl) (fun _ _ _ h => h) (by rfl) ?_ ?_
            · intro w9 hSw
              have e5 : Act.eval ((((((a0.put (some 24) (.pointer (some ⟨B, 1, none⟩))).put (some 25) (.slice (some ⟨g2, 0, none⟩) N z2)).put (some 26) (.int .i64 ((a : Nat) : Int))).put (some 27) (.pointer (some ⟨g2, a, none⟩))).put (some 28) (hdr N (rbw a))).put (some 29) (.int .i64 ((b : Nat) : Int))) (.tmp 5) = pv B := by rw [Act.eval_put_ne _ _ _ _ (by decide), Act.eval_put_ne _ _ _ _ (by decide), Act.eval_put_ne _ _ _ _ (by decide), Act.eval_put_ne _ _ _ _ (by decide), Act.eval_put_ne _ _ _ _ (by decide), Act.eval_put_ne _ _ _ _ (by decide), b5]
              have ec : ∀ v, Act.eval ((((((a0.put (some 24) (.pointer (some ⟨B, 1, none⟩))).put (some 25) (.slice (some ⟨g2, 0, none⟩) N z2)).put (some 26) (.int .i64 ((a : Nat) : Int))).put (some 27) (.pointer (some ⟨g2, a, none⟩))).put (some 28) (hdr N (rbw a))).put (some 29) (.int .i64 ((b : Nat) : Int))) (.const v) = v := fun _ => rfl
              have ef : ∀ f, Act.eval ((((((a0.put (some 24) (.pointer (some ⟨B, 1, none⟩))).put (some 25) (.slice (some ⟨g2, 0, none⟩) N z2)).put (some 26) (.int .i64 ((a : Nat) : Int))).put (some 27) (.pointer (some ⟨g2, a, none⟩))).put (some 28) (hdr N (rbw a))).put (some 29) (.int .i64 ((b : Nat) : Int))) (.func f) = .func (.func f) #[] #[] := fun _ => rfl
              generalize Act.eval ((((((a0.put (some 24) (.pointer (some ⟨B, 1, none⟩))).put (some 25) (.slice (some ⟨g2, 0, none⟩) N z2)).put (some 26) (.int .i64 ((a : Nat) : Int))).put (some 27) (.pointer (some ⟨g2, a, none⟩))).put (some 28) (hdr N (rbw a))).put (some 29) (.int .i64 ((b : Nat) : Int))) = ρ at *
              simp only [List.getElem_toArray, List.getElem_cons_zero, List.getElem_cons_succ]
              clear hSw
              go_simp
            refine anyS_take (i := 7) (d := some 31) (v := .slice (some ⟨g2, 0, none⟩) N z2) hS rfl rfl (by kernel_rfl) (by kernel_rfl) (by kernel_rfl) (fun _ _ _ h => h) (by rfl) ?_ ?_
            · intro w9 hSw
              have e30 : Act.eval (((((((a0.put (some 24) (.pointer (some ⟨B, 1, none⟩))).put (some 25) (.slice (some ⟨g2, 0, none⟩) N z2)).put (some 26) (.int .i64 ((a : Nat) : Int))).put (some 27) (.pointer (some ⟨g2, a, none⟩))).put (some 28) (hdr N (rbw a))).put (some 29) (.int .i64 ((b : Nat) : Int))).put (some 30) (.pointer (some ⟨B, 1, none⟩))) (.tmp 30) = .pointer (some ⟨B, 1, none⟩) := by rw [Act.eval_put_same _ _ _ (by (repeat rw [Act.size_put]); omega)]
              have ec : ∀ v, Act.eval (((((((a0.put (some 24) (.pointer (some ⟨B, 1, none⟩))).put (some 25) (.slice (some ⟨g2, 0, none⟩) N z2)).put (some 26) (.int .i64 ((a : Nat) : Int))).put (some 27) (.pointer (some ⟨g2, a, none⟩))).put (some 28) (hdr N (rbw a))).put (some 29) (.int .i64 ((b : Nat) : Int))).put (some 30) (.pointer (some ⟨B, 1, none⟩))) (.const v) = v := fun _ => rfl
              have ef : ∀ f, Act.eval (((((((a0.put (some 24) (.pointer (some ⟨B, 1, none⟩))).put (some 25) (.slice (some ⟨g2, 0, none⟩) N z2)).put (some 26) (.int .i64 ((a : Nat) : Int))).put (some 27) (.pointer (some ⟨g2, a, none⟩))).put (some 28) (hdr N (rbw a))).put (some 29) (.int .i64 ((b : Nat) : Int))).put (some 30) (.pointer (some ⟨B, 1, none⟩))) (.func f) = .func (.func f) #[] #[] := fun _ => rfl
              generalize Act.eval (((((((a0.put (some 24) (.pointer (some ⟨B, 1, none⟩))).put (some 25) (.slice (some ⟨g2, 0, none⟩) N z2)).put (some 26) (.int .i64 ((a : Nat) : Int))).put (some 27) (.pointer (some ⟨g2, a, none⟩))).put (some 28) (hdr N (rbw a))).put (some 29) (.int .i64 ((b : Nat) : Int))).put (some 30) (.pointer (some ⟨B, 1, none⟩))) = ρ at *
              simp only [List.getElem_toArray, List.getElem_cons_zero, List.getElem_cons_succ]
              obtain ⟨F9, hA9⟩ := hSw
              have d9 := hA9.box.cell (j := 1) rfl
              go_simp
            refine anyS_take (i := 8) (d := some 32) (v := .int .i64 ((a : Nat) : Int)) hS rfl rfl (by kernel_rfl) (by kernel_rfl) (by kernel_rfl) (fun _ _ _ h => h) (by rfl) ?_ ?_
            · intro w9 hSw
              have e6 : Act.eval ((((((((a0.put (some 24) (.pointer (some ⟨B, 1, none⟩))).put (some 25) (.slice (some ⟨g2, 0, none⟩) N z2)).put (some 26) (.int .i64 ((a : Nat) : Int))).put (some 27) (.pointer (some ⟨g2, a, none⟩))).put (some 28) (hdr N (rbw a))).put (some 29) (.int .i64 ((b : Nat) : Int))).put (some 30) (.pointer (some ⟨B, 1, none⟩))).put (some 31) (.slice (some ⟨g2, 0, none⟩) N z2)) (.tmp 6) = .int .i64 ((a : Nat) : Int) := by rw [Act.eval_put_ne _ _ _ _ (by decide), Act.eval_put_ne _ _ _ _ (by decide), Act.eval_put_ne _ _ _ _ (by decide), Act.eval_put_ne _ _ _ _ (by decide), Act.eval_put_ne _ _ _ _ (by decide), Act.eval_put_ne _ _ _ _ (by decide), Act.eval_put_ne _ _ _ _ (by decide), Act.eval_put_ne _ _ _ _ (by decide), b6]
              have ec : ∀ v, Act.eval ((((((((a0.put (some 24) (.pointer (some ⟨B, 1, none⟩))).put (some 25) (.slice (some ⟨g2, 0, none⟩) N z2)).put (some 26) (.int .i64 ((a : Nat) : Int))).put (some 27) (.pointer (some ⟨g2, a, none⟩))).put (some 28) (hdr N (rbw a))).put (some 29) (.int .i64 ((b : Nat) : Int))).put (some 30) (.pointer (some ⟨B, 1, none⟩))).put (some 31) (.slice (some ⟨g2, 0, none⟩) N z2)) (.const v) = v := fun _ => rfl
              have ef : ∀ f, Act.eval ((((((((a0.put (some 24) (.pointer (some ⟨B, 1, none⟩))).put (some 25) (.slice (some ⟨g2, 0, none⟩) N z2)).put (some 26) (.int .i64 ((a : Nat) : Int))).put (some 27) (.pointer (some ⟨g2, a, none⟩))).put (some 28) (hdr N (rbw a))).put (some 29) (.int .i64 ((b : Nat) : Int))).put (some 30) (.pointer (some ⟨B, 1, none⟩))).put (some 31) (.slice (some ⟨g2, 0, none⟩) N z2)) (.func f) = .func (.func f) #[] #[] := fun _ => rfl
              generalize Act.eval ((((((((a0.put (some 24) (.pointer (some ⟨B, 1, none⟩))).put (some 25) (.slice (some ⟨g2, 0, none⟩) N z2)).put (some 26) (.int .i64 ((a : Nat) : Int))).put (some 27) (.pointer (some ⟨g2, a, none⟩))).put (some 28) (hdr N (rbw a))).put (some 29) (.int .i64 ((b : Nat) : Int))).put (some 30) (.pointer (some ⟨B, 1, none⟩))).put (some 31) (.slice (some ⟨g2, 0, none⟩) N z2)) = ρ at *
              simp only [List.getElem_toArray, List.getElem_cons_zero, List.getElem_cons_succ]
              clear hSw
              go_simp
            refine anyS_take (i := 9) (d := some 33) (v := .pointer (some ⟨g2, a, none⟩)) hS rfl rfl (by kernel_rfl) (by kernel_rfl) (by kernel_rfl) (fun _ _ _ h => h) (by rfl) ?_ ?_
            · intro w9 hSw
              have e31 : Act.eval (((((((((a0.put (some 24) (.pointer (some ⟨B, 1, none⟩))).put (some 25) (.slice (some ⟨g2, 0, none⟩) N z2)).put (some 26) (.int .i64 ((a : Nat) : Int))).put (some 27) (.pointer (some ⟨g2, a, none⟩))).put (some 28) (hdr N (rbw a))).put (some 29) (.int .i64 ((b : Nat) : Int))).put (some 30) (.pointer (some ⟨B, 1, none⟩))).put (some 31) (.slice (some ⟨g2, 0, none⟩) N z2)).put (some 32) (.int .i64 ((a : Nat) : Int))) (.tmp 31) = .slice (some ⟨g2, 0, none⟩) N z2 := by rw [Act.eval_put_ne _ _ _ _ (by decide), Act.eval_put_same _ _ _ (by (repeat rw [Act.size_put]); omega)]
              have e32 : Act.eval (((((((((a0.put (some 24) (.pointer (some ⟨B, 1, none⟩))).put (some 25) (.slice (some ⟨g2, 0, none⟩) N z2)).put (some 26) (.int .i64 ((a : Nat) : Int))).put (some 27) (.pointer (some ⟨g2, a, none⟩))).put (some 28) (hdr N (rbw a))).put (some 29) (.int .i64 ((b : Nat) : Int))).put (some 30) (.pointer (some ⟨B, 1, none⟩))).put (some 31) (.slice (some ⟨g2, 0, none⟩) N z2)).put (some 32) (.int .i64 ((a : Nat) : Int))) (.tmp 32) = .int .i64 ((a : Nat) : Int) := by rw [Act.eval_put_same _ _ _ (by (repeat rw [Act.size_put]); omega)]
              have ec : ∀ v, Act.eval (((((((((a0.put (some 24) (.pointer (some ⟨B, 1, none⟩))).put (some 25) (.slice (some ⟨g2, 0, none⟩) N z2)).put (some 26) (.int .i64 ((a : Nat) : Int))).put (some 27) (.pointer (some ⟨g2, a, none⟩))).put (some 28) (hdr N (rbw a))).put (some 29) (.int .i64 ((b : Nat) : Int))).put (some 30) (.pointer (some ⟨B, 1, none⟩))).put (some 31) (.slice (some ⟨g2, 0, none⟩) N z2)).put (some 32) (.int .i64 ((a : Nat) : Int))) (.const v) = v := fun _ => rfl
              have ef : ∀ f, Act.eval (((((((((a0.put (some 24) (.pointer (some ⟨B, 1, none⟩))).put (some 25) (.slice (some ⟨g2, 0, none⟩) N z2)).put (some 26) (.int .i64 ((a : Nat) : Int))).put (some 27) (.pointer (some ⟨g2, a, none⟩))).put (some 28) (hdr N (rbw a))).put (some 29) (.int .i64 ((b : Nat) : Int))).put (some 30) (.pointer (some ⟨B, 1, none⟩))).put (some 31) (.slice (some ⟨g2, 0, none⟩) N z2)).put (some 32) (.int .i64 ((a : Nat) : Int))) (.func f) = .func (.func f) #[] #[] := fun _ => rfl
              generalize Act.eval (((((((((a0.put (some 24) (.pointer (some ⟨B, 1, none⟩))).put (some 25) (.slice (some ⟨g2, 0, none⟩) N z2)).put (some 26) (.int .i64 ((a : Nat) : Int))).put (some 27) (.pointer (some ⟨g2, a, none⟩))).put (some 28) (hdr N (rbw a))).put (some 29) (.int .i64 ((b : Nat) : Int))).put (some 30) (.pointer (some ⟨B, 1, none⟩))).put (some 31) (.slice (some ⟨g2, 0, none⟩) N z2)).put (some 32) (.int .i64 ((a : Nat) : Int))) = ρ at *
              simp only [List.getElem_toArray, List.getElem_cons_zero, List.getElem_cons_succ]
              clear hSw
              go_simp
            refine anyS_take (i := 10) (d := some 34) (v := hdr N (rbw a)) hS rfl rfl (by kernel_rfl) (by kernel_rfl) (by kernel_rfl) (fun _ _ _ h => h) (by rfl) ?_ ?_
            · intro w9 hSw
              have e33 : Act.eval ((((((((((a0.put (some 24) (.pointer (some ⟨B, 1, none⟩))).put (some 25) (.slice (some ⟨g2, 0, none⟩) N z2)).put (some 26) (.int .i64 ((a : Nat) : Int))).put (some 27) (.pointer (some ⟨g2, a, none⟩))).put (some 28) (hdr N (rbw a))).put (some 29) (.int .i64 ((b : Nat) : Int))).put (some 30) (.pointer (some ⟨B, 1, none⟩))).put (some 31) (.slice (some ⟨g2, 0, none⟩) N z2)).put (some 32) (.int .i64 ((a : Nat) : Int))).put (some 33) (.pointer (some ⟨g2, a, none⟩))) (.tmp 33) = .pointer (some ⟨g2, a, none⟩) := by rw [Act.eval_put_same _ _ _ (by (repeat rw [Act.size_put]); omega)]
              have ec : ∀ v, Act.eval ((((((((((a0.put (some 24) (.pointer (some ⟨B, 1, none⟩))).put (some 25) (.slice (some ⟨g2, 0, none⟩) N z2)).put (some 26) (.int .i64 ((a : Nat) : Int))).put (some 27) (.pointer (some ⟨g2, a, none⟩))).put (some 28) (hdr N (rbw a))).put (some 29) (.int .i64 ((b : Nat) : Int))).put (some 30) (.pointer (some ⟨B, 1, none⟩))).put (some 31) (.slice (some ⟨g2, 0, none⟩) N z2)).put (some 32) (.int .i64 ((a : Nat) : Int))).put (some 33) (.pointer (some ⟨g2, a, none⟩))) (.const v) = v := fun _ => rfl
              have ef : ∀ f, Act.eval ((((((((((a0.put (some 24) (.pointer (some ⟨B, 1, none⟩))).put (some 25) (.slice (some ⟨g2, 0, none⟩) N z2)).put (some 26) (.int .i64 ((a : Nat) : Int))).put (some 27) (.pointer (some ⟨g2, a, none⟩))).put (some 28) (hdr N (rbw a))).put (some 29) (.int .i64 ((b : Nat) : Int))).put (some 30) (.pointer (some ⟨B, 1, none⟩))).put (some 31) (.slice (some ⟨g2, 0, none⟩) N z2)).put (some 32) (.int .i64 ((a : Nat) : Int))).put (some 33) (.pointer (some ⟨g2, a, none⟩))) (.func f) = .func (.func f) #[] #[] := fun _ => rfl
              generalize Act.eval ((((((((((a0.put (some 24) (.pointer (some ⟨B, 1, none⟩))).put (some 25) (.slice (some ⟨g2, 0, none⟩) N z2)).put (some 26) (.int .i64 ((a : Nat) : Int))).put (some 27) (.pointer (some ⟨g2, a, none⟩))).put (some 28) (hdr N (rbw a))).put (some 29) (.int .i64 ((b : Nat) : Int))).put (some 30) (.pointer (some ⟨B, 1, none⟩))).put (some 31) (.slice (some ⟨g2, 0, none⟩) N z2)).put (some 32) (.int .i64 ((a : Nat) : Int))).put (some 33) (.pointer (some ⟨g2, a, none⟩))) = ρ at *
              simp only [List.getElem_toArray, List.getElem_cons_zero, List.getElem_cons_succ]
              obtain ⟨F9, hA9⟩ := hSw
              obtain ⟨g9, cap9, e9, _, _, _, s9, _, _, _⟩ := hA9.ref.at_ (p := a) (q := b) haN hbN
              cases e9
              go_simp
            refine anyS_take (i := 11) (d := some 35) (v := .int .i64 ((b : Nat) : Int)) hS rfl rfl (by kernel_rfl) (by kernel_rfl) (by kernel_rfl) (fun _ _ _ h => h) (by rfl) ?_ ?_
            · intro w9 hSw
              have e7 : Act.eval (((((((((((a0.put (some 24) (.pointer (some ⟨B, 1, none⟩))).put (some 25) (.slice (some ⟨g2, 0, none⟩) N z2)).put (some 26) (.int .i64 ((a : Nat) : Int))).put (some 27) (.pointer (some ⟨g2, a, none⟩))).put (some 28) (hdr N (rbw a))).put (some 29) (.int .i64 ((b : Nat) : Int))).put (some 30) (.pointer (some ⟨B, 1, none⟩))).put (some 31) (.slice (some ⟨g2, 0, none⟩) N z2)).put (some 32) (.int .i64 ((a : Nat) : Int))).put (some 33) (.pointer (some ⟨g2, a, none⟩))).put (some 34) (hdr N (rbw a))) (.tmp 7) = .int .i64 ((b : Nat) : Int) := by rw [Act.eval_put_ne _ _ _ _ (by decide), Act.eval_put_ne _ _ _ _ (by decide), Act.eval_put_ne _ _ _ _ (by decide), Act.eval_put_ne _ _ _ _ (by decide), Act.eval_put_ne _ _ _ _ (by decide), Act.eval_put_ne _ _ _ _ (by decide), Act.eval_put_ne _ _ _ _ (by decide), Act.eval_put_ne _ _ _ _ (by decide), Act.eval_put_ne _ _ _ _ (by decide), Act.eval_put_ne _ _ _ _ (by decide), Act.eval_put_ne _ _ _ _ (by decide), b7]
              have ec : ∀ v, Act.eval (((((((((((a0.put (some 24) (.pointer (some ⟨B, 1, none⟩))).put (some 25) (.slice (some ⟨g2, 0, none⟩) N z2)).put (some 26) (.int .i64 ((a : Nat) : Int))).put (some 27) (.pointer (some ⟨g2, a, none⟩))).put (some 28) (hdr N (rbw a))).put (some 29) (.int .i64 ((b : Nat) : Int))).put (some 30) (.pointer (some ⟨B, 1, none⟩))).put (some 31) (.slice (some ⟨g2, 0, none⟩) N z2)).put (some 32) (.int .i64 ((a : Nat) : Int))).put (some 33) (.pointer (some ⟨g2, a, none⟩))).put (some 34) (hdr N (rbw a))) (.const v) = v := fun _ => rfl
              have ef : ∀ f, Act.eval (((((((((((a0.put (some 24) (.pointer (some ⟨B, 1, none⟩))).put (some 25) (.slice (some ⟨g2, 0, none⟩) N z2)).put (some 26) (.int .i64 ((a : Nat) : Int))).put (some 27) (.pointer (some ⟨g2, a, none⟩))).put (some 28) (hdr N (rbw a))).put (some 29) (.int .i64 ((b : Nat) : Int))).put (some 30) (.pointer (some ⟨B, 1, none⟩))).put (some 31) (.slice (some ⟨g2, 0, none⟩) N z2)).put (some 32) (.int .i64 ((a : Nat) : Int))).put (some 33) (.pointer (some ⟨g2, a, none⟩))).put (some 34) (hdr N (rbw a))) (.func f) = .func (.func f) #[] #[] := fun _ => rfl
              generalize Act.eval (((((((((((a0.put (some 24) (.pointer (some ⟨B, 1, none⟩))).put (some 25) (.slice (some ⟨g2, 0, none⟩) N z2)).put (some 26) (.int .i64 ((a : Nat) : Int))).put (some 27) (.pointer (some ⟨g2, a, none⟩))).put (some 28) (hdr N (rbw a))).put (some 29) (.int .i64 ((b : Nat) : Int))).put (some 30) (.pointer (some ⟨B, 1, none⟩))).put (some 31) (.slice (some ⟨g2, 0, none⟩) N z2)).put (some 32) (.int .i64 ((a : Nat) : Int))).put (some 33) (.pointer (some ⟨g2, a, none⟩))).put (some 34) (hdr N (rbw a))) = ρ at *
              simp only [List.getElem_toArray, List.getElem_cons_zero, List.getElem_cons_succ]
              clear hSw
              go_simp
            refine anyS_take (i := 12) (d := some 36) (v := .pointer (some ⟨rbw a, b, none⟩)) hS rfl rfl (by kernel_rfl) (by kernel_rfl) (by kernel_rfl) (fun _ _ _ h => h) (by rfl) ?_ ?_
            · intro w9 hSw
              have e34 : Act.eval ((((((((((((a0.put (some 24) (.pointer (some ⟨B, 1, none⟩))).put (some 25) (.slice (some ⟨g2, 0, none⟩) N z2)).put (some 26) (.int .i64 ((a : Nat) : Int))).put (some 27) (.pointer (some ⟨g2, a, none⟩))).put (some 28) (hdr N (rbw a))).put (some 29) (.int .i64 ((b : Nat) : Int))).put (some 30) (.pointer (some ⟨B, 1, none⟩))).put (some 31) (.slice (some ⟨g2, 0, none⟩) N z2)).put (some 32) (.int .i64 ((a : Nat) : Int))).put (some 33) (.pointer (some ⟨g2, a, none⟩))).put (some 34) (hdr N (rbw a))).put (some 35) (.int .i64 ((b : Nat) : Int))) (.tmp 34) = hdr N (rbw a) := by rw [Act.eval_put_ne _ _ _ _ (by decide), Act.eval_put_same _ _ _ (by (repeat rw [Act.size_put]); omega)]
              have e35 : Act.eval ((((((((((((a0.put (some 24) (.pointer (some ⟨B, 1, none⟩))).put (some 25) (.slice (some ⟨g2, 0, none⟩) N z2)).put (some 26) (.int .i64 ((a : Nat) : Int))).put (some 27) (.pointer (some ⟨g2, a, none⟩))).put (some 28) (hdr N (rbw a))).put (some 29) (.int .i64 ((b : Nat) : Int))).put (some 30) (.pointer (some ⟨B, 1, none⟩))).put (some 31) (.slice (some ⟨g2, 0, none⟩) N z2)).put (some 32) (.int .i64 ((a : Nat) : Int))).put (some 33) (.pointer (some ⟨g2, a, none⟩))).put (some 34) (hdr N (rbw a))).put (some 35) (.int .i64 ((b : Nat) : Int))) (.tmp 35) = .int .i64 ((b : Nat) : Int) := by rw [Act.eval_put_same _ _ _ (by (repeat rw [Act.size_put]); omega)]
              have ec : ∀ v, Act.eval ((((((((((((a0.put (some 24) (.pointer (some ⟨B, 1, none⟩))).put (some 25) (.slice (some ⟨g2, 0, none⟩) N z2)).put (some 26) (.int .i64 ((a : Nat) : Int))).put (some 27) (.pointer (some ⟨g2, a, none⟩))).put (some 28) (hdr N (rbw a))).put (some 29) (.int .i64 ((b : Nat) : Int))).put (some 30) (.pointer (some ⟨B, 1, none⟩))).put (some 31) (.slice (some ⟨g2, 0, none⟩) N z2)).put (some 32) (.int .i64 ((a : Nat) : Int))).put (some 33) (.pointer (some ⟨g2, a, none⟩))).put (some 34) (hdr N (rbw a))).put (some 35) (.int .i64 ((b : Nat) : Int))) (.const v) = v := fun _ => rfl
              have ef : ∀ f, Act.eval ((((((((((((a0.put (some 24) (.pointer (some ⟨B, 1, none⟩))).put (some 25) (.slice (some ⟨g2, 0, none⟩) N z2)).put (some 26) (.int .i64 ((a : Nat) : Int))).put (some 27) (.pointer (some ⟨g2, a, none⟩))).put (some 28) (hdr N (rbw a))).put (some 29) (.int .i64 ((b : Nat) : Int))).put (some 30) (.pointer (some ⟨B, 1, none⟩))).put (some 31) (.slice (some ⟨g2, 0, none⟩) N z2)).put (some 32) (.int .i64 ((a : Nat) : Int))).put (some 33) (.pointer (some ⟨g2, a, none⟩))).put (some 34) (hdr N (rbw a))).put (some 35) (.int .i64 ((b : Nat) : Int))) (.func f) = .func (.func f) #[] #[] := fun _ => rfl
              generalize Act.eval ((((((((((((a0.put (some 24) (.pointer (some ⟨B, 1, none⟩))).put (some 25) (.slice (some ⟨g2, 0, none⟩) N z2)).put (some 26) (.int .i64 ((a : Nat) : Int))).put (some 27) (.pointer (some ⟨g2, a, none⟩))).put (some 28) (hdr N (rbw a))).put (some 29) (.int .i64 ((b : Nat) : Int))).put (some 30) (.pointer (some ⟨B, 1, none⟩))).put (some 31) (.slice (some ⟨g2, 0, none⟩) N z2)).put (some 32) (.int .i64 ((a : Nat) : Int))).put (some 33) (.pointer (some ⟨g2, a, none⟩))).put (some 34) (hdr N (rbw a))).put (some 35) (.int .i64 ((b : Nat) : Int))) = ρ at *
              simp only [List.getElem_toArray, List.getElem_cons_zero, List.getElem_cons_succ]
              clear hSw
              go_simp
            refine wpAnyH_ready (rs := [13]) (by kernel_rfl) (by simp) ?_
            refine anyS_value (i := 13) (d := some 37) (v := .bool true) (w' := wr.drew) rfl rfl (by rfl) ?_ hS ?_ AllReadyH.nil
            · skip
              have e36 : Act.eval (((((((((((((a0.put (some 24) (.pointer (some ⟨B, 1, none⟩))).put (some 25) (.slice (some ⟨g2, 0, none⟩) N z2)).put (some 26) (.int .i64 ((a : Nat) : Int))).put (some 27) (.pointer (some ⟨g2, a, none⟩))).put (some 28) (hdr N (rbw a))).put (some 29) (.int .i64 ((b : Nat) : Int))).put (some 30) (.pointer (some ⟨B, 1, none⟩))).put (some 31) (.slice (some ⟨g2, 0, none⟩) N z2)).put (some 32) (.int .i64 ((a : Nat) : Int))).put (some 33) (.pointer (some ⟨g2, a, none⟩))).put (some 34) (hdr N (rbw a))).put (some 35) (.int .i64 ((b : Nat) : Int))).put (some 36) (.pointer (some ⟨rbw a, b, none⟩))) (.tmp 36) = .pointer (some ⟨rbw a, b, none⟩) := by rw [Act.eval_put_same _ _ _ (by (repeat rw [Act.size_put]); omega)]
              have ec : ∀ v, Act.eval (((((((((((((a0.put (some 24) (.pointer (some ⟨B, 1, none⟩))).put (some 25) (.slice (some ⟨g2, 0, none⟩) N z2)).put (some 26) (.int .i64 ((a : Nat) : Int))).put (some 27) (.pointer (some ⟨g2, a, none⟩))).put (some 28) (hdr N (rbw a))).put (some 29) (.int .i64 ((b : Nat) : Int))).put (some 30) (.pointer (some ⟨B, 1, none⟩))).put (some 31) (.slice (some ⟨g2, 0, none⟩) N z2)).put (some 32) (.int .i64 ((a : Nat) : Int))).put (some 33) (.pointer (some ⟨g2, a, none⟩))).put (some 34) (hdr N (rbw a))).put (some 35) (.int .i64 ((b : Nat) : Int))).put (some 36) (.pointer (some ⟨rbw a, b, none⟩))) (.const v) = v := fun _ => rfl
              have ef : ∀ f, Act.eval (((((((((((((a0.put (some 24) (.pointer (some ⟨B, 1, none⟩))).put (some 25) (.slice (some ⟨g2, 0, none⟩) N z2)).put (some 26) (.int .i64 ((a : Nat) : Int))).put (some 27) (.pointer (some ⟨g2, a, none⟩))).put (some 28) (hdr N (rbw a))).put (some 29) (.int .i64 ((b : Nat) : Int))).put (some 30) (.pointer (some ⟨B, 1, none⟩))).put (some 31) (.slice (some ⟨g2, 0, none⟩) N z2)).put (some 32) (.int .i64 ((a : Nat) : Int))).put (some 33) (.pointer (some ⟨g2, a, none⟩))).put (some 34) (hdr N (rbw a))).put (some 35) (.int .i64 ((b : Nat) : Int))).put (some 36) (.pointer (some ⟨rbw a, b, none⟩))) (.func f) = .func (.func f) #[] #[] := fun _ => rfl
              generalize Act.eval (((((((((((((a0.put (some 24) (.pointer (some ⟨B, 1, none⟩))).put (some 25) (.slice (some ⟨g2, 0, none⟩) N z2)).put (some 26) (.int .i64 ((a : Nat) : Int))).put (some 27) (.pointer (some ⟨g2, a, none⟩))).put (some 28) (hdr N (rbw a))).put (some 29) (.int .i64 ((b : Nat) : Int))).put (some 30) (.pointer (some ⟨B, 1, none⟩))).put (some 31) (.slice (some ⟨g2, 0, none⟩) N z2)).put (some 32) (.int .i64 ((a : Nat) : Int))).put (some 33) (.pointer (some ⟨g2, a, none⟩))).put (some 34) (hdr N (rbw a))).put (some 35) (.int .i64 ((b : Nat) : Int))).put (some 36) (.pointer (some ⟨rbw a, b, none⟩))) = ρ at *
              simp only [List.getElem_toArray, List.getElem_cons_zero, List.getElem_cons_succ]
              go_simp
            refine anyS_take (i := 14) (d := some 38) (v := .bool true) hS rfl rfl (by kernel_rfl) (by kernel_rfl) (by kernel_rfl) (fun _ _ _ h => h) (by rfl) ?_ ?_
            · intro w9 hSw
              have e37 : Act.eval ((((((((((((((a0.put (some 24) (.pointer (some ⟨B, 1, none⟩))).put (some 25) (.slice (some ⟨g2, 0, none⟩) N z2)).put (some 26) (.int .i64 ((a : Nat) : Int))).put (some 27) (.pointer (some ⟨g2, a, none⟩))).put (some 28) (hdr N (rbw a))).put (some 29) (.int .i64 ((b : Nat) : Int))).put (some 30) (.pointer (some ⟨B, 1, none⟩))).put (some 31) (.slice (some ⟨g2, 0, none⟩) N z2)).put (some 32) (.int .i64 ((a : Nat) : Int))).put (some 33) (.pointer (some ⟨g2, a, none⟩))).put (some 34) (hdr N (rbw a))).put (some 35) (.int .i64 ((b : Nat) : Int))).put (some 36) (.pointer (some ⟨rbw a, b, none⟩))).put (some 37) (.bool true)) (.tmp 37) = .bool true := by rw [Act.eval_put_same _ _ _ (by (repeat rw [Act.size_put]); omega)]
              have ec : ∀ v, Act.eval ((((((((((((((a0.put (some 24) (.pointer (some ⟨B, 1, none⟩))).put (some 25) (.slice (some ⟨g2, 0, none⟩) N z2)).put (some 26) (.int .i64 ((a : Nat) : Int))).put (some 27) (.pointer (some ⟨g2, a, none⟩))).put (some 28) (hdr N (rbw a))).put (some 29) (.int .i64 ((b : Nat) : Int))).put (some 30) (.pointer (some ⟨B, 1, none⟩))).put (some 31) (.slice (some ⟨g2, 0, none⟩) N z2)).put (some 32) (.int .i64 ((a : Nat) : Int))).put (some 33) (.pointer (some ⟨g2, a, none⟩))).put (some 34) (hdr N (rbw a))).put (some 35) (.int .i64 ((b : Nat) : Int))).put (some 36) (.pointer (some ⟨rbw a, b, none⟩))).put (some 37) (.bool true)) (.const v) = v := fun _ => rfl
              have ef : ∀ f, Act.eval ((((((((((((((a0.put (some 24) (.pointer (some ⟨B, 1, none⟩))).put (some 25) (.slice (some ⟨g2, 0, none⟩) N z2)).put (some 26) (.int .i64 ((a : Nat) : Int))).put (some 27) (.pointer (some ⟨g2, a, none⟩))).put (some 28) (hdr N (rbw a))).put (some 29) (.int .i64 ((b : Nat) : Int))).put (some 30) (.pointer (some ⟨B, 1, none⟩))).put (some 31) (.slice (some ⟨g2, 0, none⟩) N z2)).put (some 32) (.int .i64 ((a : Nat) : Int))).put (some 33) (.pointer (some ⟨g2, a, none⟩))).put (some 34) (hdr N (rbw a))).put (some 35) (.int .i64 ((b : Nat) : Int))).put (some 36) (.pointer (some ⟨rbw a, b, none⟩))).put (some 37) (.bool true)) (.func f) = .func (.func f) #[] #[] := fun _ => rfl
              generalize Act.eval ((((((((((((((a0.put (some 24) (.pointer (some ⟨B, 1, none⟩))).put (some 25) (.slice (some ⟨g2, 0, none⟩) N z2)).put (some 26) (.int .i64 ((a : Nat) : Int))).put (some 27) (.pointer (some ⟨g2, a, none⟩))).put (some 28) (hdr N (rbw a))).put (some 29) (.int .i64 ((b : Nat) : Int))).put (some 30) (.pointer (some ⟨B, 1, none⟩))).put (some 31) (.slice (some ⟨g2, 0, none⟩) N z2)).put (some 32) (.int .i64 ((a : Nat) : Int))).put (some 33) (.pointer (some ⟨g2, a, none⟩))).put (some 34) (hdr N (rbw a))).put (some 35) (.int .i64 ((b : Nat) : Int))).put (some 36) (.pointer (some ⟨rbw a, b, none⟩))).put (some 37) (.bool true)) = ρ at *
              simp only [List.getElem_toArray, List.getElem_cons_zero, List.getElem_cons_succ]
              clear hSw
              go_simp
            refine anyS_take (i := 15) (d := some 39) (v := .agg #[.int .i64 ((m : Nat) : Int), .slice x1 y1 z1]) hS rfl rfl (by kernel_rfl) (by kernel_rfl) (by kernel_rfl) (fun _ _ _ h => h) (wanted_guard (j := 14) (d := 38) (want := true) rfl rfl (by rw [tmp_put_same _ _ _ (by (repeat rw [Act.size_put]); omega)])) ?_ ?_
            · intro w9 hSw
              have e3 : Act.eval (((((((((((((((a0.put (some 24) (.pointer (some ⟨B, 1, none⟩))).put (some 25) (.slice (some ⟨g2, 0, none⟩) N z2)).put (some 26) (.int .i64 ((a : Nat) : Int))).put (some 27) (.pointer (some ⟨g2, a, none⟩))).put (some 28) (hdr N (rbw a))).put (some 29) (.int .i64 ((b : Nat) : Int))).put (some 30) (.pointer (some ⟨B, 1, none⟩))).put (some 31) (.slice (some ⟨g2, 0, none⟩) N z2)).put (some 32) (.int .i64 ((a : Nat) : Int))).put (some 33) (.pointer (some ⟨g2, a, none⟩))).put (some 34) (hdr N (rbw a))).put (some 35) (.int .i64 ((b : Nat) : Int))).put (some 36) (.pointer (some ⟨rbw a, b, none⟩))).put (some 37) (.bool true)).put (some 38) (.bool true)) (.tmp 3) = pv (w.heap.size + 1) := by rw [Act.eval_put_ne _ _ _ _ (by decide), Act.eval_put_ne _ _ _ _ (by decide), Act.eval_put_ne _ _ _ _ (by decide), Act.eval_put_ne _ _ _ _ (by decide), Act.eval_put_ne _ _ _ _ (by decide), Act.eval_put_ne _ _ _ _ (by decide), Act.eval_put_ne _ _ _ _ (by decide), Act.eval_put_ne _ _ _ _ (by decide), Act.eval_put_ne _ _ _ _ (by decide), Act.eval_put_ne _ _ _ _ (by decide), Act.eval_put_ne _ _ _ _ (by decide), Act.eval_put_ne _ _ _ _ (by decide), Act.eval_put_ne _ _ _ _ (by decide), Act.eval_put_ne _ _ _ _ (by decide), Act.eval_put_ne _ _ _ _ (by decide), b3]
              have ec : ∀ v, Act.eval (((((((((((((((a0.put (some 24) (.pointer (some ⟨B, 1, none⟩))).put (some 25) (.slice (some ⟨g2, 0, none⟩) N z2)).put (some 26) (.int .i64 ((a : Nat) : Int))).put (some 27) (.pointer (some ⟨g2, a, none⟩))).put (some 28) (hdr N (rbw a))).put (some 29) (.int .i64 ((b : Nat) : Int))).put (some 30) (.pointer (some ⟨B, 1, none⟩))).put (some 31) (.slice (some ⟨g2, 0, none⟩) N z2)).put (some 32) (.int .i64 ((a : Nat) : Int))).put (some 33) (.pointer (some ⟨g2, a, none⟩))).put (some 34) (hdr N (rbw a))).put (some 35) (.int .i64 ((b : Nat) : Int))).put (some 36) (.pointer (some ⟨rbw a, b, none⟩))).put (some 37) (.bool true)).put (some 38) (.bool true)) (.const v) = v := fun _ => rfl
              have ef : ∀ f, Act.eval (((((((((((((((a0.put (some 24) (.pointer (some ⟨B, 1, none⟩))).put (some 25) (.slice (some ⟨g2, 0, none⟩) N z2)).put (some 26) (.int .i64 ((a : Nat) : Int))).put (some 27) (.pointer (some ⟨g2, a, none⟩))).put (some 28) (hdr N (rbw a))).put (some 29) (.int .i64 ((b : Nat) : Int))).put (some 30) (.pointer (some ⟨B, 1, none⟩))).put (some 31) (.slice (some ⟨g2, 0, none⟩) N z2)).put (some 32) (.int .i64 ((a : Nat) : Int))).put (some 33) (.pointer (some ⟨g2, a, none⟩))).put (some 34) (hdr N (rbw a))).put (some 35) (.int .i64 ((b : Nat) : Int))).put (some 36) (.pointer (some ⟨rbw a, b, none⟩))).put (some 37) (.bool true)).put (some 38) (.bool true)) (.func f) = .func (.func f) #[] #[] := fun _ => rfl
              generalize Act.eval (((((((((((((((a0.put (some 24) (.pointer (some ⟨B, 1, none⟩))).put (some 25) (.slice (some ⟨g2, 0, none⟩) N z2)).put (some 26) (.int .i64 ((a : Nat) : Int))).put (some 27) (.pointer (some ⟨g2, a, none⟩))).put (some 28) (hdr N (rbw a))).put (some 29) (.int .i64 ((b : Nat) : Int))).put (some 30) (.pointer (some ⟨B, 1, none⟩))).put (some 31) (.slice (some ⟨g2, 0, none⟩) N z2)).put (some 32) (.int .i64 ((a : Nat) : Int))).put (some 33) (.pointer (some ⟨g2, a, none⟩))).put (some 34) (hdr N (rbw a))).put (some 35) (.int .i64 ((b : Nat) : Int))).put (some 36) (.pointer (some ⟨rbw a, b, none⟩))).put (some 37) (.bool true)).put (some 38) (.bool true)) = ρ at *
              simp only [List.getElem_toArray, List.getElem_cons_zero, List.getElem_cons_succ]
              obtain ⟨F9, hA9⟩ := hSw
              have k0 := hA9.snd.cell (j := 0) rfl
              have k1 := hA9.snd.cell (j := 1) rfl
              go_simp
            refine anyS_take (i := 16) (d := some 40) (v := .int .i64 ((a : Nat) : Int)) hS rfl rfl (by kernel_rfl) (by kernel_rfl) (by kernel_rfl) (fun _ _ _ h => h) (wanted_guard (j := 14) (d := 38) (want := true) rfl rfl (by rw [tmp_put_ne _ _ _ _ (by decide), tmp_put_same _ _ _ (by (repeat rw [Act.size_put]); omega)])) ?_ ?_
            · intro w9 hSw
              have e6 : Act.eval ((((((((((((((((a0.put (some 24) (.pointer (some ⟨B, 1, none⟩))).put (some 25) (.slice (some ⟨g2, 0, none⟩) N z2)).put (some 26) (.int .i64 ((a : Nat) : Int))).put (some 27) (.pointer (some ⟨g2, a, none⟩))).put (some 28) (hdr N (rbw a))).put (some 29) (.int .i64 ((b : Nat) : Int))).put (some 30) (.pointer (some ⟨B, 1, none⟩))).put (some 31) (.slice (some ⟨g2, 0, none⟩) N z2)).put (some 32) (.int .i64 ((a : Nat) : Int))).put (some 33) (.pointer (some ⟨g2, a, none⟩))).put (some 34) (hdr N (rbw a))).put (some 35) (.int .i64 ((b : Nat) : Int))).put (some 36) (.pointer (some ⟨rbw a, b, none⟩))).put (some 37) (.bool true)).put (some 38) (.bool true)).put (some 39) (.agg #[.int .i64 ((m : Nat) : Int), .slice x1 y1 z1])) (.tmp 6) = .int .i64 ((a : Nat) : Int) := by rw [Act.eval_put_ne _ _ _ _ (by decide), Act.eval_put_ne _ _ _ _ (by decide), Act.eval_put_ne _ _ _ _ (by decide), Act.eval_put_ne _ _ _ _ (by decide), Act.eval_put_ne _ _ _ _ (by decide), Act.eval_put_ne _ _ _ _ (by decide), Act.eval_put_ne _ _ _ _ (by decide), Act.eval_put_ne _ _ _ _ (by decide), Act.eval_put_ne _ _ _ _ (by decide), Act.eval_put_ne _ _ _ _ (by decide), Act.eval_put_ne _ _ _ _ (by decide), Act.eval_put_ne _ _ _ _ (by decide), Act.eval_put_ne _ _ _ _ (by decide), Act.eval_put_ne _ _ _ _ (by decide), Act.eval_put_ne _ _ _ _ (by decide), Act.eval_put_ne _ _ _ _ (by decide), b6]
              have ec : ∀ v, Act.eval ((((((((((((((((a0.put (some 24) (.pointer (some ⟨B, 1, none⟩))).put (some 25) (.slice (some ⟨g2, 0, none⟩) N z2)).put (some 26) (.int .i64 ((a : Nat) : Int))).put (some 27) (.pointer (some ⟨g2, a, none⟩))).put (some 28) (hdr N (rbw a))).put (some 29) (.int .i64 ((b : Nat) : Int))).put (some 30) (.pointer (some ⟨B, 1, none⟩))).put (some 31) (.slice (some ⟨g2, 0, none⟩) N z2)).put (some 32) (.int .i64 ((a : Nat) : Int))).put (some 33) (.pointer (some ⟨g2, a, none⟩))).put (some 34) (hdr N (rbw a))).put (some 35) (.int .i64 ((b : Nat) : Int))).put (some 36) (.pointer (some ⟨rbw a, b, none⟩))).put (some 37) (.bool true)).put (some 38) (.bool true)).put (some 39) (.agg #[.int .i64 ((m : Nat) : Int), .slice x1 y1 z1])) (.const v) = v := fun _ => rfl
              have ef : ∀ f, Act.eval ((((((((((((((((a0.put (some 24) (.pointer (some ⟨B, 1, none⟩))).put (some 25) (.slice (some ⟨g2, 0, none⟩) N z2)).put (some 26) (.int .i64 ((a : Nat) : Int))).put (some 27) (.pointer (some ⟨g2, a, none⟩))).put (some 28) (hdr N (rbw a))).put (some 29) (.int .i64 ((b : Nat) : Int))).put (some 30) (.pointer (some ⟨B, 1, none⟩))).put (some 31) (.slice (some ⟨g2, 0, none⟩) N z2)).put (some 32) (.int .i64 ((a : Nat) : Int))).put (some 33) (.pointer (some ⟨g2, a, none⟩))).put (some 34) (hdr N (rbw a))).put (some 35) (.int .i64 ((b : Nat) : Int))).put (some 36) (.pointer (some ⟨rbw a, b, none⟩))).put (some 37) (.bool true)).put (some 38) (.bool true)).put (some 39) (.agg #[.int .i64 ((m : Nat) : Int), .slice x1 y1 z1])) (.func f) = .func (.func f) #[] #[] := fun _ => rfl
              generalize Act.eval ((((((((((((((((a0.put (some 24) (.pointer (some ⟨B, 1, none⟩))).put (some 25) (.slice (some ⟨g2, 0, none⟩) N z2)).put (some 26) (.int .i64 ((a : Nat) : Int))).put (some 27) (.pointer (some ⟨g2, a, none⟩))).put (some 28) (hdr N (rbw a))).put (some 29) (.int .i64 ((b : Nat) : Int))).put (some 30) (.pointer (some ⟨B, 1, none⟩))).put (some 31) (.slice (some ⟨g2, 0, none⟩) N z2)).put (some 32) (.int .i64 ((a : Nat) : Int))).put (some 33) (.pointer (some ⟨g2, a, none⟩))).put (some 34) (hdr N (rbw a))).put (some 35) (.int .i64 ((b : Nat) : Int))).put (some 36) (.pointer (some ⟨rbw a, b, none⟩))).put (some 37) (.bool true)).put (some 38) (.bool true)).put (some 39) (.agg #[.int .i64 ((m : Nat) : Int), .slice x1 y1 z1])) = ρ at *
              simp only [List.getElem_toArray, List.getElem_cons_zero, List.getElem_cons_succ]
              clear hSw
              go_simp
            refine anyS_take (i := 17) (d := some 41) (v := .int .i64 ((b : Nat) : Int)) hS rfl rfl (by kernel_rfl) (by kernel_rfl) (by kernel_rfl) (fun _ _ _ h => h) (wanted_guard (j := 14) (d := 38) (want := true) rfl rfl (by rw [tmp_put_ne _ _ _ _ (by decide), tmp_put_ne _ _ _ _ (by decide), tmp_put_same _ _ _ (by (repeat rw [Act.size_put]); omega)])) ?_ ?_
            · intro w9 hSw
              have e7 : Act.eval (((((((((((((((((a0.put (some 24) (.pointer (some ⟨B, 1, none⟩))).put (some 25) (.slice (some ⟨g2, 0, none⟩) N z2)).put (some 26) (.int .i64 ((a : Nat) : Int))).put (some 27) (.pointer (some ⟨g2, a, none⟩))).put (some 28) (hdr N (rbw a))).put (some 29) (.int .i64 ((b : Nat) : Int))).put (some 30) (.pointer (some ⟨B, 1, none⟩))).put (some 31) (.slice (some ⟨g2, 0, none⟩) N z2)).put (some 32) (.int .i64 ((a : Nat) : Int))).put (some 33) (.pointer (some ⟨g2, a, none⟩))).put (some 34) (hdr N (rbw a))).put (some 35) (.int .i64 ((b : Nat) : Int))).put (some 36) (.pointer (some ⟨rbw a, b, none⟩))).put (some 37) (.bool true)).put (some 38) (.bool true)).put (some 39) (.agg #[.int .i64 ((m : Nat) : Int), .slice x1 y1 z1])).put (some 40) (.int .i64 ((a : Nat) : Int))) (.tmp 7) = .int .i64 ((b : Nat) : Int) := by rw [Act.eval_put_ne _ _ _ _ (by decide), Act.eval_put_ne _ _ _ _ (by decide), Act.eval_put_ne _ _ _ _ (by decide), Act.eval_put_ne _ _ _ _ (by decide), Act.eval_put_ne _ _ _ _ (by decide), Act.eval_put_ne _ _ _ _ (by decide), Act.eval_put_ne _ _ _ _ (by decide), Act.eval_put_ne _ _ _ _ (by decide), Act.eval_put_ne _ _ _ _ (by decide), Act.eval_put_ne _ _ _ _ (by decide), Act.eval_put_ne _ _ _ _ (by decide), Act.eval_put_ne _ _ _ _ (by decide), Act.eval_put_ne _ _ _ _ (by decide), Act.eval_put_ne _ _ _ _ (by decide), Act.eval_put_ne _ _ _ _ (by decide), Act.eval_put_ne _ _ _ _ (by decide), Act.eval_put_ne _ _ _ _ (by decide), b7]
              have ec : ∀ v, Act.eval (((((((((((((((((a0.put (some 24) (.pointer (some ⟨B, 1, none⟩))).put (some 25) (.slice (some ⟨g2, 0, none⟩) N z2)).put (some 26) (.int .i64 ((a : Nat) : Int))).put (some 27) (.pointer (some ⟨g2, a, none⟩))).put (some 28) (hdr N (rbw a))).put (some 29) (.int .i64 ((b : Nat) : Int))).put (some 30) (.pointer (some ⟨B, 1, none⟩))).put (some 31) (.slice (some ⟨g2, 0, none⟩) N z2)).put (some 32) (.int .i64 ((a : Nat) : Int))).put (some 33) (.pointer (some ⟨g2, a, none⟩))).put (some 34) (hdr N (rbw a))).put (some 35) (.int .i64 ((b : Nat) : Int))).put (some 36) (.pointer (some ⟨rbw a, b, none⟩))).put (some 37) (.bool true)).put (some 38) (.bool true)).put (some 39) (.agg #[.int .i64 ((m : Nat) : Int), .slice x1 y1 z1])).put (some 40) (.int .i64 ((a : Nat) : Int))) (.const v) = v := fun _ => rfl
              have ef : ∀ f, Act.eval (((((((((((((((((a0.put (some 24) (.pointer (some ⟨B, 1, none⟩))).put (some 25) (.slice (some ⟨g2, 0, none⟩) N z2)).put (some 26) (.int .i64 ((a : Nat) : Int))).put (some 27) (.pointer (some ⟨g2, a, none⟩))).put (some 28) (hdr N (rbw a))).put (some 29) (.int .i64 ((b : Nat) : Int))).put (some 30) (.pointer (some ⟨B, 1, none⟩))).put (some 31) (.slice (some ⟨g2, 0, none⟩) N z2)).put (some 32) (.int .i64 ((a : Nat) : Int))).put (some 33) (.pointer (some ⟨g2, a, none⟩))).put (some 34) (hdr N (rbw a))).put (some 35) (.int .i64 ((b : Nat) : Int))).put (some 36) (.pointer (some ⟨rbw a, b, none⟩))).put (some 37) (.bool true)).put (some 38) (.bool true)).put (some 39) (.agg #[.int .i64 ((m : Nat) : Int), .slice x1 y1 z1])).put (some 40) (.int .i64 ((a : Nat) : Int))) (.func f) = .func (.func f) #[] #[] := fun _ => rfl
              generalize Act.eval (((((((((((((((((a0.put (some 24) (.pointer (some ⟨B, 1, none⟩))).put (some 25) (.slice (some ⟨g2, 0, none⟩) N z2)).put (some 26) (.int .i64 ((a : Nat) : Int))).put (some 27) (.pointer (some ⟨g2, a, none⟩))).put (some 28) (hdr N (rbw a))).put (some 29) (.int .i64 ((b : Nat) : Int))).put (some 30) (.pointer (some ⟨B, 1, none⟩))).put (some 31) (.slice (some ⟨g2, 0, none⟩) N z2)).put (some 32) (.int .i64 ((a : Nat) : Int))).put (some 33) (.pointer (some ⟨g2, a, none⟩))).put (some 34) (hdr N (rbw a))).put (some 35) (.int .i64 ((b : Nat) : Int))).put (some 36) (.pointer (some ⟨rbw a, b, none⟩))).put (some 37) (.bool true)).put (some 38) (.bool true)).put (some 39) (.agg #[.int .i64 ((m : Nat) : Int), .slice x1 y1 z1])).put (some 40) (.int .i64 ((a : Nat) : Int))) = ρ at *
              simp only [List.getElem_toArray, List.getElem_cons_zero, List.getElem_cons_succ]
              clear hSw
              go_simp
            refine wpAnyH_ready (rs := [18]) (by kernel_rfl) (by simp) ?_
            refine anyS_enter (i := 18) (d := some 42) (f := 87) (args := #[.agg #[.int .i64 ((m : Nat) : Int), .slice x1 y1 z1], .int .i64 ((a : Nat) : Int), .int .i64 ((b : Nat) : Int)]) (w' := wr.drew) rfl rfl (wanted_guard (j := 14) (d := 38) (want := true) rfl rfl (by rw [tmp_put_ne _ _ _ _ (by decide), tmp_put_ne _ _ _ _ (by decide), tmp_put_ne _ _ _ _ (by decide), tmp_put_same _ _ _ (by (repeat rw [Act.size_put]); omega)])) ?_ ?_ AllReadyH.nil
            · skip
              have e39 : Act.eval ((((((((((((((((((a0.put (some 24) (.pointer (some ⟨B, 1, none⟩))).put (some 25) (.slice (some ⟨g2, 0, none⟩) N z2)).put (some 26) (.int .i64 ((a : Nat) : Int))).put (some 27) (.pointer (some ⟨g2, a, none⟩))).put (some 28) (hdr N (rbw a))).put (some 29) (.int .i64 ((b : Nat) : Int))).put (some 30) (.pointer (some ⟨B, 1, none⟩))).put (some 31) (.slice (some ⟨g2, 0, none⟩) N z2)).put (some 32) (.int .i64 ((a : Nat) : Int))).put (some 33) (.pointer (some ⟨g2, a, none⟩))).put (some 34) (hdr N (rbw a))).put (some 35) (.int .i64 ((b : Nat) : Int))).put (some 36) (.pointer (some ⟨rbw a, b, none⟩))).put (some 37) (.bool true)).put (some 38) (.bool true)).put (some 39) (.agg #[.int .i64 ((m : Nat) : Int), .slice x1 y1 z1])).put (some 40) (.int .i64 ((a : Nat) : Int))).put (some 41) (.int .i64 ((b : Nat) : Int))) (.tmp 39) = .agg #[.int .i64 ((m : Nat) : Int), .slice x1 y1 z1] := by rw [Act.eval_put_ne _ _ _ _ (by decide), Act.eval_put_ne _ _ _ _ (by decide), Act.eval_put_same _ _ _ (by (repeat rw [Act.size_put]); omega)]
              have e40 : Act.eval ((((((((((((((((((a0.put (some 24) (.pointer (some ⟨B, 1, none⟩))).put (some 25) (.slice (some ⟨g2, 0, none⟩) N z2)).put (some 26) (.int .i64 ((a : Nat) : Int))).put (some 27) (.pointer (some ⟨g2, a, none⟩))).put (some 28) (hdr N (rbw a))).put (some 29) (.int .i64 ((b : Nat) : Int))).put (some 30) (.pointer (some ⟨B, 1, none⟩))).put (some 31) (.slice (some ⟨g2, 0, none⟩) N z2)).put (some 32) (.int .i64 ((a : Nat) : Int))).put (some 33) (.pointer (some ⟨g2, a, none⟩))).put (some 34) (hdr N (rbw a))).put (some 35) (.int .i64 ((b : Nat) : Int))).put (some 36) (.pointer (some ⟨rbw a, b, none⟩))).put (some 37) (.bool true)).put (some 38) (.bool true)).put (some 39) (.agg #[.int .i64 ((m : Nat) : Int), .slice x1 y1 z1])).put (some 40) (.int .i64 ((a : Nat) : Int))).put (some 41) (.int .i64 ((b : Nat) : Int))) (.tmp 40) = .int .i64 ((a : Nat) : Int) := by rw [Act.eval_put_ne _ _ _ _ (by decide), Act.eval_put_same _ _ _ (by (repeat rw [Act.size_put]); omega)]
              have e41 : Act.eval ((((((((((((((((((a0.put (some 24) (.pointer (some ⟨B, 1, none⟩))).put (some 25) (.slice (some ⟨g2, 0, none⟩) N z2)).put (some 26) (.int .i64 ((a : Nat) : Int))).put (some 27) (.pointer (some ⟨g2, a, none⟩))).put (some 28) (hdr N (rbw a))).put (some 29) (.int .i64 ((b : Nat) : Int))).put (some 30) (.pointer (some ⟨B, 1, none⟩))).put (some 31) (.slice (some ⟨g2, 0, none⟩) N z2)).put (some 32) (.int .i64 ((a : Nat) : Int))).put (some 33) (.pointer (some ⟨g2, a, none⟩))).put (some 34) (hdr N (rbw a))).put (some 35) (.int .i64 ((b : Nat) : Int))).put (some 36) (.pointer (some ⟨rbw a, b, none⟩))).put (some 37) (.bool true)).put (some 38) (.bool true)).put (some 39) (.agg #[.int .i64 ((m : Nat) : Int), .slice x1 y1 z1])).put (some 40) (.int .i64 ((a : Nat) : Int))).put (some 41) (.int .i64 ((b : Nat) : Int))) (.tmp 41) = .int .i64 ((b : Nat) : Int) := by rw [Act.eval_put_same _ _ _ (by (repeat rw [Act.size_put]); omega)]
              have ec : ∀ v, Act.eval ((((((((((((((((((a0.put (some 24) (.pointer (some ⟨B, 1, none⟩))).put (some 25) (.slice (some ⟨g2, 0, none⟩) N z2)).put (some 26) (.int .i64 ((a : Nat) : Int))).put (some 27) (.pointer (some ⟨g2, a, none⟩))).put (some 28) (hdr N (rbw a))).put (some 29) (.int .i64 ((b : Nat) : Int))).put (some 30) (.pointer (some ⟨B, 1, none⟩))).put (some 31) (.slice (some ⟨g2, 0, none⟩) N z2)).put (some 32) (.int .i64 ((a : Nat) : Int))).put (some 33) (.pointer (some ⟨g2, a, none⟩))).put (some 34) (hdr N (rbw a))).put (some 35) (.int .i64 ((b : Nat) : Int))).put (some 36) (.pointer (some ⟨rbw a, b, none⟩))).put (some 37) (.bool true)).put (some 38) (.bool true)).put (some 39) (.agg #[.int .i64 ((m : Nat) : Int), .slice x1 y1 z1])).put (some 40) (.int .i64 ((a : Nat) : Int))).put (some 41) (.int .i64 ((b : Nat) : Int))) (.const v) = v := fun _ => rfl
              have ef : ∀ f, Act.eval ((((((((((((((((((a0.put (some 24) (.pointer (some ⟨B, 1, none⟩))).put (some 25) (.slice (some ⟨g2, 0, none⟩) N z2)).put (some 26) (.int .i64 ((a : Nat) : Int))).put (some 27) (.pointer (some ⟨g2, a, none⟩))).put (some 28) (hdr N (rbw a))).put (some 29) (.int .i64 ((b : Nat) : Int))).put (some 30) (.pointer (some ⟨B, 1, none⟩))).put (some 31) (.slice (some ⟨g2, 0, none⟩) N z2)).put (some 32) (.int .i64 ((a : Nat) : Int))).put (some 33) (.pointer (some ⟨g2, a, none⟩))).put (some 34) (hdr N (rbw a))).put (some 35) (.int .i64 ((b : Nat) : Int))).put (some 36) (.pointer (some ⟨rbw a, b, none⟩))).put (some 37) (.bool true)).put (some 38) (.bool true)).put (some 39) (.agg #[.int .i64 ((m : Nat) : Int), .slice x1 y1 z1])).put (some 40) (.int .i64 ((a : Nat) : Int))).put (some 41) (.int .i64 ((b : Nat) : Int))) (.func f) = .func (.func f) #[] #[] := fun _ => rfl
              generalize Act.eval ((((((((((((((((((a0.put (some 24) (.pointer (some ⟨B, 1, none⟩))).put (some 25) (.slice (some ⟨g2, 0, none⟩) N z2)).put (some 26) (.int .i64 ((a : Nat) : Int))).put (some 27) (.pointer (some ⟨g2, a, none⟩))).put (some 28) (hdr N (rbw a))).put (some 29) (.int .i64 ((b : Nat) : Int))).put (some 30) (.pointer (some ⟨B, 1, none⟩))).put (some 31) (.slice (some ⟨g2, 0, none⟩) N z2)).put (some 32) (.int .i64 ((a : Nat) : Int))).put (some 33) (.pointer (some ⟨g2, a, none⟩))).put (some 34) (hdr N (rbw a))).put (some 35) (.int .i64 ((b : Nat) : Int))).put (some 36) (.pointer (some ⟨rbw a, b, none⟩))).put (some 37) (.bool true)).put (some 38) (.bool true)).put (some 39) (.agg #[.int .i64 ((m : Nat) : Int), .slice x1 y1 z1])).put (some 40) (.int .i64 ((a : Nat) : Int))).put (some 41) (.int .i64 ((b : Nat) : Int))) = ρ at *
              simp only [List.getElem_toArray, List.getElem_cons_zero, List.getElem_cons_succ]
              go_simp
            refine (refHas_calls lo2 m x1 y1 z1 rb1 G _ _ _ (h1.below hA.drew.below)).mono ?_
            rintro e w5 ⟨rfl, hB5⟩
            have hA5 := hA.drew.step hB5
            refine ⟨_, rfl, ⟨_, hA5⟩, ?_⟩
            rw [hasF_nat]
            clear hS s0 s1 fz d1
            have hS : ∃ F', MkAt w w5 3 [(0, #[.int .i64 ((n : Nat) : Int), .slice x y z]), (1, #[.int .i64 ((m : Nat) : Int), .slice x1 y1 z1]), (2, #[.int .i64 0, .slice none 0 0])] B N (.slice (some ⟨g2, 0, none⟩) N z2) rbw F' := ⟨_, hA5⟩
            have hA6 := hA5.put (p := a) (q := b) haN hbN (!extF m G a b)
            obtain ⟨_, _, e3, _, _, _, _, s2, fz, _⟩ := hA5.ref.at_ (p := a) (q := b) haN hbN
            clear e3
            refine anyS_take (i := 19) (d := some 43) (v := .bool (!extF m G a b)) hS rfl rfl (by kernel_rfl) (by kernel_rfl) (by kernel_rfl) (fun _ _ _ h => h) (wanted_guard (j := 14) (d := 38) (want := true) rfl rfl (by rw [tmp_put_ne _ _ _ _ (by decide), tmp_put_ne _ _ _ _ (by decide), tmp_put_ne _ _ _ _ (by decide), tmp_put_ne _ _ _ _ (by decide), tmp_put_same _ _ _ (by (repeat rw [Act.size_put]); omega)])) ?_ ?_
            · intro w9 hSw
              have e42 : Act.eval (((((((((((((((((((a0.put (some 24) (.pointer (some ⟨B, 1, none⟩))).put (some 25) (.slice (some ⟨g2, 0, none⟩) N z2)).put (some 26) (.int .i64 ((a : Nat) : Int))).put (some 27) (.pointer (some ⟨g2, a, none⟩))).put (some 28) (hdr N (rbw a))).put (some 29) (.int .i64 ((b : Nat) : Int))).put (some 30) (.pointer (some ⟨B, 1, none⟩))).put (some 31) (.slice (some ⟨g2, 0, none⟩) N z2)).put (some 32) (.int .i64 ((a : Nat) : Int))).put (some 33) (.pointer (some ⟨g2, a, none⟩))).put (some 34) (hdr N (rbw a))).put (some 35) (.int .i64 ((b : Nat) : Int))).put (some 36) (.pointer (some ⟨rbw a, b, none⟩))).put (some 37) (.bool true)).put (some 38) (.bool true)).put (some 39) (.agg #[.int .i64 ((m : Nat) : Int), .slice x1 y1 z1])).put (some 40) (.int .i64 ((a : Nat) : Int))).put (some 41) (.int .i64 ((b : Nat) : Int))).put (some 42) (.bool (extF m G a b))) (.tmp 42) = .bool (extF m G a b) := by rw [Act.eval_put_same _ _ _ (by (repeat rw [Act.size_put]); omega)]
              have ec : ∀ v, Act.eval (((((((((((((((((((a0.put (some 24) (.pointer (some ⟨B, 1, none⟩))).put (some 25) (.slice (some ⟨g2, 0, none⟩) N z2)).put (some 26) (.int .i64 ((a : Nat) : Int))).put (some 27) (.pointer (some ⟨g2, a, none⟩))).put (some 28) (hdr N (rbw a))).put (some 29) (.int .i64 ((b : Nat) : Int))).put (some 30) (.pointer (some ⟨B, 1, none⟩))).put (some 31) (.slice (some ⟨g2, 0, none⟩) N z2)).put (some 32) (.int .i64 ((a : Nat) : Int))).put (some 33) (.pointer (some ⟨g2, a, none⟩))).put (some 34) (hdr N (rbw a))).put (some 35) (.int .i64 ((b : Nat) : Int))).put (some 36) (.pointer (some ⟨rbw a, b, none⟩))).put (some 37) (.bool true)).put (some 38) (.bool true)).put (some 39) (.agg #[.int .i64 ((m : Nat) : Int), .slice x1 y1 z1])).put (some 40) (.int .i64 ((a : Nat) : Int))).put (some 41) (.int .i64 ((b : Nat) : Int))).put (some 42) (.bool (extF m G a b))) (.const v) = v := fun _ => rfl
              have ef : ∀ f, Act.eval (((((((((((((((((((a0.put (some 24) (.pointer (some ⟨B, 1, none⟩))).put (some 25) (.slice (some ⟨g2, 0, none⟩) N z2)).put (some 26) (.int .i64 ((a : Nat) : Int))).put (some 27) (.pointer (some ⟨g2, a, none⟩))).put (some 28) (hdr N (rbw a))).put (some 29) (.int .i64 ((b : Nat) : Int))).put (some 30) (.pointer (some ⟨B, 1, none⟩))).put (some 31) (.slice (some ⟨g2, 0, none⟩) N z2)).put (some 32) (.int .i64 ((a : Nat) : Int))).put (some 33) (.pointer (some ⟨g2, a, none⟩))).put (some 34) (hdr N (rbw a))).put (some 35) (.int .i64 ((b : Nat) : Int))).put (some 36) (.pointer (some ⟨rbw a, b, none⟩))).put (some 37) (.bool true)).put (some 38) (.bool true)).put (some 39) (.agg #[.int .i64 ((m : Nat) : Int), .slice x1 y1 z1])).put (some 40) (.int .i64 ((a : Nat) : Int))).put (some 41) (.int .i64 ((b : Nat) : Int))).put (some 42) (.bool (extF m G a b))) (.func f) = .func (.func f) #[] #[] := fun _ => rfl
              generalize Act.eval (((((((((((((((((((a0.put (some 24) (.pointer (some ⟨B, 1, none⟩))).put (some 25) (.slice (some ⟨g2, 0, none⟩) N z2)).put (some 26) (.int .i64 ((a : Nat) : Int))).put (some 27) (.pointer (some ⟨g2, a, none⟩))).put (some 28) (hdr N (rbw a))).put (some 29) (.int .i64 ((b : Nat) : Int))).put (some 30) (.pointer (some ⟨B, 1, none⟩))).put (some 31) (.slice (some ⟨g2, 0, none⟩) N z2)).put (some 32) (.int .i64 ((a : Nat) : Int))).put (some 33) (.pointer (some ⟨g2, a, none⟩))).put (some 34) (hdr N (rbw a))).put (some 35) (.int .i64 ((b : Nat) : Int))).put (some 36) (.pointer (some ⟨rbw a, b, none⟩))).put (some 37) (.bool true)).put (some 38) (.bool true)).put (some 39) (.agg #[.int .i64 ((m : Nat) : Int), .slice x1 y1 z1])).put (some 40) (.int .i64 ((a : Nat) : Int))).put (some 41) (.int .i64 ((b : Nat) : Int))).put (some 42) (.bool (extF m G a b))) = ρ at *
              simp only [List.getElem_toArray, List.getElem_cons_zero, List.getElem_cons_succ]
              clear hSw
              go_simp
            refine anyS_take (i := 20) (d := some 44) (v := .bool (!extF m G a b)) hS rfl rfl (by kernel_rfl) (by kernel_rfl) (by kernel_rfl) (fun _ _ _ h => h) (by rfl) ?_ ?_
            · intro w9 hSw
              have e38 : Act.eval ((((((((((((((((((((a0.put (some 24) (.pointer (some ⟨B, 1, none⟩))).put (some 25) (.slice (some ⟨g2, 0, none⟩) N z2)).put (some 26) (.int .i64 ((a : Nat) : Int))).put (some 27) (.pointer (some ⟨g2, a, none⟩))).put (some 28) (hdr N (rbw a))).put (some 29) (.int .i64 ((b : Nat) : Int))).put (some 30) (.pointer (some ⟨B, 1, none⟩))).put (some 31) (.slice (some ⟨g2, 0, none⟩) N z2)).put (some 32) (.int .i64 ((a : Nat) : Int))).put (some 33) (.pointer (some ⟨g2, a, none⟩))).put (some 34) (hdr N (rbw a))).put (some 35) (.int .i64 ((b : Nat) : Int))).put (some 36) (.pointer (some ⟨rbw a, b, none⟩))).put (some 37) (.bool true)).put (some 38) (.bool true)).put (some 39) (.agg #[.int .i64 ((m : Nat) : Int), .slice x1 y1 z1])).put (some 40) (.int .i64 ((a : Nat) : Int))).put (some 41) (.int .i64 ((b : Nat) : Int))).put (some 42) (.bool (extF m G a b))).put (some 43) (.bool (!extF m G a b))) (.tmp 38) = .bool true := by rw [Act.eval_put_ne _ _ _ _ (by decide), Act.eval_put_ne _ _ _ _ (by decide), Act.eval_put_ne _ _ _ _ (by decide), Act.eval_put_ne _ _ _ _ (by decide), Act.eval_put_ne _ _ _ _ (by decide), Act.eval_put_same _ _ _ (by (repeat rw [Act.size_put]); omega)]
              have e43 : Act.eval ((((((((((((((((((((a0.put (some 24) (.pointer (some ⟨B, 1, none⟩))).put (some 25) (.slice (some ⟨g2, 0, none⟩) N z2)).put (some 26) (.int .i64 ((a : Nat) : Int))).put (some 27) (.pointer (some ⟨g2, a, none⟩))).put (some 28) (hdr N (rbw a))).put (some 29) (.int .i64 ((b : Nat) : Int))).put (some 30) (.pointer (some ⟨B, 1, none⟩))).put (some 31) (.slice (some ⟨g2, 0, none⟩) N z2)).put (some 32) (.int .i64 ((a : Nat) : Int))).put (some 33) (.pointer (some ⟨g2, a, none⟩))).put (some 34) (hdr N (rbw a))).put (some 35) (.int .i64 ((b : Nat) : Int))).put (some 36) (.pointer (some ⟨rbw a, b, none⟩))).put (some 37) (.bool true)).put (some 38) (.bool true)).put (some 39) (.agg #[.int .i64 ((m : Nat) : Int), .slice x1 y1 z1])).put (some 40) (.int .i64 ((a : Nat) : Int))).put (some 41) (.int .i64 ((b : Nat) : Int))).put (some 42) (.bool (extF m G a b))).put (some 43) (.bool (!extF m G a b))) (.tmp 43) = .bool (!extF m G a b) := by rw [Act.eval_put_same _ _ _ (by (repeat rw [Act.size_put]); omega)]
              have ec : ∀ v, Act.eval ((((((((((((((((((((a0.put (some 24) (.pointer (some ⟨B, 1, none⟩))).put (some 25) (.slice (some ⟨g2, 0, none⟩) N z2)).put (some 26) (.int .i64 ((a : Nat) : Int))).put (some 27) (.pointer (some ⟨g2, a, none⟩))).put (some 28) (hdr N (rbw a))).put (some 29) (.int .i64 ((b : Nat) : Int))).put (some 30) (.pointer (some ⟨B, 1, none⟩))).put (some 31) (.slice (some ⟨g2, 0, none⟩) N z2)).put (some 32) (.int .i64 ((a : Nat) : Int))).put (some 33) (.pointer (some ⟨g2, a, none⟩))).put (some 34) (hdr N (rbw a))).put (some 35) (.int .i64 ((b : Nat) : Int))).put (some 36) (.pointer (some ⟨rbw a, b, none⟩))).put (some 37) (.bool true)).put (some 38) (.bool true)).put (some 39) (.agg #[.int .i64 ((m : Nat) : Int), .slice x1 y1 z1])).put (some 40) (.int .i64 ((a : Nat) : Int))).put (some 41) (.int .i64 ((b : Nat) : Int))).put (some 42) (.bool (extF m G a b))).put (some 43) (.bool (!extF m G a b))) (.const v) = v := fun _ => rfl
              have ef : ∀ f, Act.eval ((((((((((((((((((((a0.put (some 24) (.pointer (some ⟨B, 1, none⟩))).put (some 25) (.slice (some ⟨g2, 0, none⟩) N z2)).put (some 26) (.int .i64 ((a : Nat) : Int))).put (some 27) (.pointer (some ⟨g2, a, none⟩))).put (some 28) (hdr N (rbw a))).put (some 29) (.int .i64 ((b : Nat) : Int))).put (some 30) (.pointer (some ⟨B, 1, none⟩))).put (some 31) (.slice (some ⟨g2, 0, none⟩) N z2)).put (some 32) (.int .i64 ((a : Nat) : Int))).put (some 33) (.pointer (some ⟨g2, a, none⟩))).put (some 34) (hdr N (rbw a))).put (some 35) (.int .i64 ((b : Nat) : Int))).put (some 36) (.pointer (some ⟨rbw a, b, none⟩))).put (some 37) (.bool true)).put (some 38) (.bool true)).put (some 39) (.agg #[.int .i64 ((m : Nat) : Int), .slice x1 y1 z1])).put (some 40) (.int .i64 ((a : Nat) : Int))).put (some 41) (.int .i64 ((b : Nat) : Int))).put (some 42) (.bool (extF m G a b))).put (some 43) (.bool (!extF m G a b))) (.func f) = .func (.func f) #[] #[] := fun _ => rfl
              generalize Act.eval ((((((((((((((((((((a0.put (some 24) (.pointer (some ⟨B, 1, none⟩))).put (some 25) (.slice (some ⟨g2, 0, none⟩) N z2)).put (some 26) (.int .i64 ((a : Nat) : Int))).put (some 27) (.pointer (some ⟨g2, a, none⟩))).put (some 28) (hdr N (rbw a))).put (some 29) (.int .i64 ((b : Nat) : Int))).put (some 30) (.pointer (some ⟨B, 1, none⟩))).put (some 31) (.slice (some ⟨g2, 0, none⟩) N z2)).put (some 32) (.int .i64 ((a : Nat) : Int))).put (some 33) (.pointer (some ⟨g2, a, none⟩))).put (some 34) (hdr N (rbw a))).put (some 35) (.int .i64 ((b : Nat) : Int))).put (some 36) (.pointer (some ⟨rbw a, b, none⟩))).put (some 37) (.bool true)).put (some 38) (.bool true)).put (some 39) (.agg #[.int .i64 ((m : Nat) : Int), .slice x1 y1 z1])).put (some 40) (.int .i64 ((a : Nat) : Int))).put (some 41) (.int .i64 ((b : Nat) : Int))).put (some 42) (.bool (extF m G a b))).put (some 43) (.bool (!extF m G a b))) = ρ at *
              simp only [List.getElem_toArray, List.getElem_cons_zero, List.getElem_cons_succ]
              clear hSw
              go_simp
            refine anyS_take (i := 21) (d := some 45) (v := .pointer (some ⟨rbw a, b, none⟩)) hS rfl rfl (by kernel_rfl) (by kernel_rfl) (by kernel_rfl) (fun _ _ _ h => h) (by rfl) ?_ ?_
            · intro w9 hSw
              have e28 : Act.eval (((((((((((((((((((((a0.put (some 24) (.pointer (some ⟨B, 1, none⟩))).put (some 25) (.slice (some ⟨g2, 0, none⟩) N z2)).put (some 26) (.int .i64 ((a : Nat) : Int))).put (some 27) (.pointer (some ⟨g2, a, none⟩))).put (some 28) (hdr N (rbw a))).put (some 29) (.int .i64 ((b : Nat) : Int))).put (some 30) (.pointer (some ⟨B, 1, none⟩))).put (some 31) (.slice (some ⟨g2, 0, none⟩) N z2)).put (some 32) (.int .i64 ((a : Nat) : Int))).put (some 33) (.pointer (some ⟨g2, a, none⟩))).put (some 34) (hdr N (rbw a))).put (some 35) (.int .i64 ((b : Nat) : Int))).put (some 36) (.pointer (some ⟨rbw a, b, none⟩))).put (some 37) (.bool true)).put (some 38) (.bool true)).put (some 39) (.agg #[.int .i64 ((m : Nat) : Int), .slice x1 y1 z1])).put (some 40) (.int .i64 ((a : Nat) : Int))).put (some 41) (.int .i64 ((b : Nat) : Int))).put (some 42) (.bool (extF m G a b))).put (some 43) (.bool (!extF m G a b))).put (some 44) (.bool (!extF m G a b))) (.tmp 28) = hdr N (rbw a) := by rw [Act.eval_put_ne _ _ _ _ (by decide), Act.eval_put_ne _ _ _ _ (by decide), Act.eval_put_ne _ _ _ _ (by decide), Act.eval_put_ne _ _ _ _ (by decide), Act.eval_put_ne _ _ _ _ (by decide), Act.eval_put_ne _ _ _ _ (by decide), Act.eval_put_ne _ _ _ _ (by decide), Act.eval_put_ne _ _ _ _ (by decide), Act.eval_put_ne _ _ _ _ (by decide), Act.eval_put_ne _ _ _ _ (by decide), Act.eval_put_ne _ _ _ _ (by decide), Act.eval_put_ne _ _ _ _ (by decide), Act.eval_put_ne _ _ _ _ (by decide), Act.eval_put_ne _ _ _ _ (by decide), Act.eval_put_ne _ _ _ _ (by decide), Act.eval_put_ne _ _ _ _ (by decide), Act.eval_put_same _ _ _ (by (repeat rw [Act.size_put]); omega)]
              have e29 : Act.eval (((((((((((((((((((((a0.put (some 24) (.pointer (some ⟨B, 1, none⟩))).put (some 25) (.slice (some ⟨g2, 0, none⟩) N z2)).put (some 26) (.int .i64 ((a : Nat) : Int))).put (some 27) (.pointer (some ⟨g2, a, none⟩))).put (some 28) (hdr N (rbw a))).put (some 29) (.int .i64 ((b : Nat) : Int))).put (some 30) (.pointer (some ⟨B, 1, none⟩))).put (some 31) (.slice (some ⟨g2, 0, none⟩) N z2)).put (some 32) (.int .i64 ((a : Nat) : Int))).put (some 33) (.pointer (some ⟨g2, a, none⟩))).put (some 34) (hdr N (rbw a))).put (some 35) (.int .i64 ((b : Nat) : Int))).put (some 36) (.pointer (some ⟨rbw a, b, none⟩))).put (some 37) (.bool true)).put (some 38) (.bool true)).put (some 39) (.agg #[.int .i64 ((m : Nat) : Int), .slice x1 y1 z1])).put (some 40) (.int .i64 ((a : Nat) : Int))).put (some 41) (.int .i64 ((b : Nat) : Int))).put (some 42) (.bool (extF m G a b))).put (some 43) (.bool (!extF m G a b))).put (some 44) (.bool (!extF m G a b))) (.tmp 29) = .int .i64 ((b : Nat) : Int) := by rw [Act.eval_put_ne _ _ _ _ (by decide), Act.eval_put_ne _ _ _ _ (by decide), Act.eval_put_ne _ _ _ _ (by decide), Act.eval_put_ne _ _ _ _ (by decide), Act.eval_put_ne _ _ _ _ (by decide), Act.eval_put_ne _ _ _ _ (by decide), Act.eval_put_ne _ _ _ _ (by decide), Act.eval_put_ne _ _ _ _ (by decide), Act.eval_put_ne _ _ _ _ (by decide), Act.eval_put_ne _ _ _ _ (by decide), Act.eval_put_ne _ _ _ _ (by decide), Act.eval_put_ne _ _ _ _ (by decide), Act.eval_put_ne _ _ _ _ (by decide), Act.eval_put_ne _ _ _ _ (by decide), Act.eval_put_ne _ _ _ _ (by decide), Act.eval_put_same _ _ _ (by (repeat rw [Act.size_put]); omega)]
              have ec : ∀ v, Act.eval (((((((((((((((((((((a0.put (some 24) (.pointer (some ⟨B, 1, none⟩))).put (some 25) (.slice (some ⟨g2, 0, none⟩) N z2)).put (some 26) (.int .i64 ((a : Nat) : Int))).put (some 27) (.pointer (some ⟨g2, a, none⟩))).put (some 28) (hdr N (rbw a))).put (some 29) (.int .i64 ((b : Nat) : Int))).put (some 30) (.pointer (some ⟨B, 1, none⟩))).put (some 31) (.slice (some ⟨g2, 0, none⟩) N z2)).put (some 32) (.int .i64 ((a : Nat) : Int))).put (some 33) (.pointer (some ⟨g2, a, none⟩))).put (some 34) (hdr N (rbw a))).put (some 35) (.int .i64 ((b : Nat) : Int))).put (some 36) (.pointer (some ⟨rbw a, b, none⟩))).put (some 37) (.bool true)).put (some 38) (.bool true)).put (some 39) (.agg #[.int .i64 ((m : Nat) : Int), .slice x1 y1 z1])).put (some 40) (.int .i64 ((a : Nat) : Int))).put (some 41) (.int .i64 ((b : Nat) : Int))).put (some 42) (.bool (extF m G a b))).put (some 43) (.bool (!extF m G a b))).put (some 44) (.bool (!extF m G a b))) (.const v) = v := fun _ => rfl
              have ef : ∀ f, Act.eval (((((((((((((((((((((a0.put (some 24) (.pointer (some ⟨B, 1, none⟩))).put (some 25) (.slice (some ⟨g2, 0, none⟩) N z2)).put (some 26) (.int .i64 ((a : Nat) : Int))).put (some 27) (.pointer (some ⟨g2, a, none⟩))).put (some 28) (hdr N (rbw a))).put (some 29) (.int .i64 ((b : Nat) : Int))).put (some 30) (.pointer (some ⟨B, 1, none⟩))).put (some 31) (.slice (some ⟨g2, 0, none⟩) N z2)).put (some 32) (.int .i64 ((a : Nat) : Int))).put (some 33) (.pointer (some ⟨g2, a, none⟩))).put (some 34) (hdr N (rbw a))).put (some 35) (.int .i64 ((b : Nat) : Int))).put (some 36) (.pointer (some ⟨rbw a, b, none⟩))).put (some 37) (.bool true)).put (some 38) (.bool true)).put (some 39) (.agg #[.int .i64 ((m : Nat) : Int), .slice x1 y1 z1])).put (some 40) (.int .i64 ((a : Nat) : Int))).put (some 41) (.int .i64 ((b : Nat) : Int))).put (some 42) (.bool (extF m G a b))).put (some 43) (.bool (!extF m G a b))).put (some 44) (.bool (!extF m G a b))) (.func f) = .func (.func f) #[] #[] := fun _ => rfl
              generalize Act.eval (((((((((((((((((((((a0.put (some 24) (.pointer (some ⟨B, 1, none⟩))).put (some 25) (.slice (some ⟨g2, 0, none⟩) N z2)).put (some 26) (.int .i64 ((a : Nat) : Int))).put (some 27) (.pointer (some ⟨g2, a, none⟩))).put (some 28) (hdr N (rbw a))).put (some 29) (.int .i64 ((b : Nat) : Int))).put (some 30) (.pointer (some ⟨B, 1, none⟩))).put (some 31) (.slice (some ⟨g2, 0, none⟩) N z2)).put (some 32) (.int .i64 ((a : Nat) : Int))).put (some 33) (.pointer (some ⟨g2, a, none⟩))).put (some 34) (hdr N (rbw a))).put (some 35) (.int .i64 ((b : Nat) : Int))).put (some 36) (.pointer (some ⟨rbw a, b, none⟩))).put (some 37) (.bool true)).put (some 38) (.bool true)).put (some 39) (.agg #[.int .i64 ((m : Nat) : Int), .slice x1 y1 z1])).put (some 40) (.int .i64 ((a : Nat) : Int))).put (some 41) (.int .i64 ((b : Nat) : Int))).put (some 42) (.bool (extF m G a b))).put (some 43) (.bool (!extF m G a b))).put (some 44) (.bool (!extF m G a b))) = ρ at *
              simp only [List.getElem_toArray, List.getElem_cons_zero, List.getElem_cons_succ]
              clear hSw
              go_simp
            refine wpAnyH_ready (rs := [22]) (by kernel_rfl) (by simp) ?_
            refine anyS_skip (i := 22) (d := none) (w' := w5.setCell ⟨rbw a, b, none⟩ (.bool (!extF m G a b))) rfl rfl (by rfl) ?_ ⟨_, hA6⟩ ?_ AllReadyH.nil
            · skip
              have e44 : Act.eval ((((((((((((((((((((((a0.put (some 24) (.pointer (some ⟨B, 1, none⟩))).put (some 25) (.slice (some ⟨g2, 0, none⟩) N z2)).put (some 26) (.int .i64 ((a : Nat) : Int))).put (some 27) (.pointer (some ⟨g2, a, none⟩))).put (some 28) (hdr N (rbw a))).put (some 29) (.int .i64 ((b : Nat) : Int))).put (some 30) (.pointer (some ⟨B, 1, none⟩))).put (some 31) (.slice (some ⟨g2, 0, none⟩) N z2)).put (some 32) (.int .i64 ((a : Nat) : Int))).put (some 33) (.pointer (some ⟨g2, a, none⟩))).put (some 34) (hdr N (rbw a))).put (some 35) (.int .i64 ((b : Nat) : Int))).put (some 36) (.pointer (some ⟨rbw a, b, none⟩))).put (some 37) (.bool true)).put (some 38) (.bool true)).put (some 39) (.agg #[.int .i64 ((m : Nat) : Int), .slice x1 y1 z1])).put (some 40) (.int .i64 ((a : Nat) : Int))).put (some 41) (.int .i64 ((b : Nat) : Int))).put (some 42) (.bool (extF m G a b))).put (some 43) (.bool (!extF m G a b))).put (some 44) (.bool (!extF m G a b))).put (some 45) (.pointer (some ⟨rbw a, b, none⟩))) (.tmp 44) = .bool (!extF m G a b) := by rw [Act.eval_put_ne _ _ _ _ (by decide), Act.eval_put_same _ _ _ (by (repeat rw [Act.size_put]); omega)]
              have e45 : Act.eval ((((((((((((((((((((((a0.put (some 24) (.pointer (some ⟨B, 1, none⟩))).put (some 25) (.slice (some ⟨g2, 0, none⟩) N z2)).put (some 26) (.int .i64 ((a : Nat) : Int))).put (some 27) (.pointer (some ⟨g2, a, none⟩))).put (some 28) (hdr N (rbw a))).put (some 29) (.int .i64 ((b : Nat) : Int))).put (some 30) (.pointer (some ⟨B, 1, none⟩))).put (some 31) (.slice (some ⟨g2, 0, none⟩) N z2)).put (some 32) (.int .i64 ((a : Nat) : Int))).put (some 33) (.pointer (some ⟨g2, a, none⟩))).put (some 34) (hdr N (rbw a))).put (some 35) (.int .i64 ((b : Nat) : Int))).put (some 36) (.pointer (some ⟨rbw a, b, none⟩))).put (some 37) (.bool true)).put (some 38) (.bool true)).put (some 39) (.agg #[.int .i64 ((m : Nat) : Int), .slice x1 y1 z1])).put (some 40) (.int .i64 ((a : Nat) : Int))).put (some 41) (.int .i64 ((b : Nat) : Int))).put (some 42) (.bool (extF m G a b))).put (some 43) (.bool (!extF m G a b))).put (some 44) (.bool (!extF m G a b))).put (some 45) (.pointer (some ⟨rbw a, b, none⟩))) (.tmp 45) = .pointer (some ⟨rbw a, b, none⟩) := by rw [Act.eval_put_same _ _ _ (by (repeat rw [Act.size_put]); omega)]
              have ec : ∀ v, Act.eval ((((((((((((((((((((((a0.put (some 24) (.pointer (some ⟨B, 1, none⟩))).put (some 25) (.slice (some ⟨g2, 0, none⟩) N z2)).put (some 26) (.int .i64 ((a : Nat) : Int))).put (some 27) (.pointer (some ⟨g2, a, none⟩))).put (some 28) (hdr N (rbw a))).put (some 29) (.int .i64 ((b : Nat) : Int))).put (some 30) (.pointer (some ⟨B, 1, none⟩))).put (some 31) (.slice (some ⟨g2, 0, none⟩) N z2)).put (some 32) (.int .i64 ((a : Nat) : Int))).put (some 33) (.pointer (some ⟨g2, a, none⟩))).put (some 34) (hdr N (rbw a))).put (some 35) (.int .i64 ((b : Nat) : Int))).put (some 36) (.pointer (some ⟨rbw a, b, none⟩))).put (some 37) (.bool true)).put (some 38) (.bool true)).put (some 39) (.agg #[.int .i64 ((m : Nat) : Int), .slice x1 y1 z1])).put (some 40) (.int .i64 ((a : Nat) : Int))).put (some 41) (.int .i64 ((b : Nat) : Int))).put (some 42) (.bool (extF m G a b))).put (some 43) (.bool (!extF m G a b))).put (some 44) (.bool (!extF m G a b))).put (some 45) (.pointer (some ⟨rbw a, b, none⟩))) (.const v) = v := fun _ => rfl
              have ef : ∀ f, Act.eval ((((((((((((((((((((((a0.put (some 24) (.pointer (some ⟨B, 1, none⟩))).put (some 25) (.slice (some ⟨g2, 0, none⟩) N z2)).put (some 26) (.int .i64 ((a : Nat) : Int))).put (some 27) (.pointer (some ⟨g2, a, none⟩))).put (some 28) (hdr N (rbw a))).put (some 29) (.int .i64 ((b : Nat) : Int))).put (some 30) (.pointer (some ⟨B, 1, none⟩))).put (some 31) (.slice (some ⟨g2, 0, none⟩) N z2)).put (some 32) (.int .i64 ((a : Nat) : Int))).put (some 33) (.pointer (some ⟨g2, a, none⟩))).put (some 34) (hdr N (rbw a))).put (some 35) (.int .i64 ((b : Nat) : Int))).put (some 36) (.pointer (some ⟨rbw a, b, none⟩))).put (some 37) (.bool true)).put (some 38) (.bool true)).put (some 39) (.agg #[.int .i64 ((m : Nat) : Int), .slice x1 y1 z1])).put (some 40) (.int .i64 ((a : Nat) : Int))).put (some 41) (.int .i64 ((b : Nat) : Int))).put (some 42) (.bool (extF m G a b))).put (some 43) (.bool (!extF m G a b))).put (some 44) (.bool (!extF m G a b))).put (some 45) (.pointer (some ⟨rbw a, b, none⟩))) (.func f) = .func (.func f) #[] #[] := fun _ => rfl
              generalize Act.eval ((((((((((((((((((((((a0.put (some 24) (.pointer (some ⟨B, 1, none⟩))).put (some 25) (.slice (some ⟨g2, 0, none⟩) N z2)).put (some 26) (.int .i64 ((a : Nat) : Int))).put (some 27) (.pointer (some ⟨g2, a, none⟩))).put (some 28) (hdr N (rbw a))).put (some 29) (.int .i64 ((b : Nat) : Int))).put (some 30) (.pointer (some ⟨B, 1, none⟩))).put (some 31) (.slice (some ⟨g2, 0, none⟩) N z2)).put (some 32) (.int .i64 ((a : Nat) : Int))).put (some 33) (.pointer (some ⟨g2, a, none⟩))).put (some 34) (hdr N (rbw a))).put (some 35) (.int .i64 ((b : Nat) : Int))).put (some 36) (.pointer (some ⟨rbw a, b, none⟩))).put (some 37) (.bool true)).put (some 38) (.bool true)).put (some 39) (.agg #[.int .i64 ((m : Nat) : Int), .slice x1 y1 z1])).put (some 40) (.int .i64 ((a : Nat) : Int))).put (some 41) (.int .i64 ((b : Nat) : Int))).put (some 42) (.bool (extF m G a b))).put (some 43) (.bool (!extF m G a b))).put (some 44) (.bool (!extF m G a b))).put (some 45) (.pointer (some ⟨rbw a, b, none⟩))) = ρ at *
              simp only [List.getElem_toArray, List.getElem_cons_zero, List.getElem_cons_succ]
              go_simp
            refine wpAnyH_done (by kernel_rfl) ?_ _
            subst hA0
            simp only [Act.put, List.setIfInBounds_toArray, List.set_cons_zero, List.set_cons_succ]
            have hA7 := hA6.congr (G := fillF (fun p q => extF n F p q && !extF m G p q) (extF n F) N a (b + 1)) (fun p q _ _ => congrFun (congrFun (fillF_put2 (G := fun p q => extF n F p q && !extF m G p q) (by rw [hv, Bool.true_and])) p) q)
            clear hA6 hS s2 fz
            go_wp2_with fail
            refine ⟨⟨b + 1, by omega, by go_num, hA7⟩, by simp [intOf]; omega⟩
        · have e : N = b := by omega
          subst e
          rw [fillF_row] at hA
          go_wp2_with fail
          refine ⟨⟨a + 1, by omega, by go_num, hA⟩, by simp [intOf]; omega⟩
    · have e : N = a := by omega
      subst e
      have hA := hA.congr (G := fun p q => extF n F p q && !extF m G p q) (fun p q hp hq => by exact fillF_full hp hq)
      have b0 := hA.box.cell (j := 0) rfl
      have b1 := hA.box.cell (j := 1) rfl
      have hr := hA.trd
      have d0 := hr.cell (j := 0) rfl
      have d1 := hr.cell (j := 1) rfl
      have f0 := hr.frozen 0
      have f1 := hr.frozen 1
      go_wp2_with fail
      have hres := (hr.set 0 (.int .i64 ((N : Nat) : Int))).set 1 (.slice x2 y2 z2)
      simp only [List.setIfInBounds_toArray, List.set_cons_zero, List.set_cons_succ] at hres
      (try simp only [Exit.inBlock, Exit.then])
      refine bodyPost_ret (ret_ref rfl rfl hres) rfl ?_
      obtain ⟨hA1, hB1⟩ := hA.answer (r := 2) (by omega)
      first | exact ⟨_, rbw, rfl, hA1, hB1⟩ | exact ⟨_, rfl, ⟨rbw, hA1⟩, hB1⟩
end Go.Proofs.YtijjogpldoafjaaDoor
/- Of RefPlus, what this seat can build. -/
namespace Go.Proofs.YtijjogpldoafjaaDoor
open Go.RowKit Go.Shelf Sx

theorem ext_in {n p q : Nat} {F : Nat → Nat → Bool} (hp : p < n) (hq : q < n) : extF n F p q = F p q := by
  unfold extF
  simp [hp, hq]
def plusFn (F : Nat → Nat → Bool) : Nat → Nat → Nat → Bool
  | 0 => F
  | k + 1 => fun p q => plusFn F k p q || (plusFn F k p k && plusFn F k k q)
theorem plusFn_succ (F : Nat → Nat → Bool) (k p q : Nat) : plusFn F (k + 1) p q = (plusFn F k p q || (plusFn F k p k && plusFn F k k q)) := rfl
theorem plusFn_col (F : Nat → Nat → Bool) (k p : Nat) : plusFn F (k + 1) p k = plusFn F k p k := by
  rw [plusFn_succ]
  cases plusFn F k p k <;> simp
theorem plusFn_row (F : Nat → Nat → Bool) (k q : Nat) : plusFn F (k + 1) k q = plusFn F k k q := by
  rw [plusFn_succ]
  cases plusFn F k k q <;> simp
theorem fill_col (F : Nat → Nat → Bool) (N k p q x : Nat) : fillF (plusFn F (k + 1)) (plusFn F k) N p q x k = plusFn F k x k := by
  unfold fillF
  split
  · exact plusFn_col F k x
  · rfl
theorem fill_row (F : Nat → Nat → Bool) (N k p q y : Nat) : fillF (plusFn F (k + 1)) (plusFn F k) N p q k y = plusFn F k k y := by
  unfold fillF
  split
  · exact plusFn_row F k y
  · rfl
theorem fill_still (F : Nat → Nat → Bool) (N k p : Nat) (h : plusFn F k p k = false) (x y : Nat) : fillF (plusFn F (k + 1)) (plusFn F k) N p 0 x y = fillF (plusFn F (k + 1)) (plusFn F k) N (p + 1) 0 x y := by
  unfold fillF
  by_cases h1 : x < p ∧ y < N
  · rw [if_pos (by omega), if_pos (by omega)]
  · rw [if_neg (by omega)]
    by_cases h2 : x = p ∧ y < N
    · rw [if_pos (by omega), plusFn_succ, h2.1, h]
      simp
    · rw [if_neg (by omega)]
set_option maxRecDepth 100000 in
set_option maxHeartbeats 8000000 in
theorem refPlus_calls (lo N : Nat) (hN : N ≤ 256) (x : Option Addr) (y z : Nat) (rb : Nat → Nat) (F : Nat → Nat → Bool) (w : World) (h : RefM lo w (.slice x y z) N N rb F) :
    Calls Tryd.prog 55 #[.agg #[.int .i64 ((N : Nat) : Int), .slice x y z]] w fun e w' => ∃ M rb', e = .returned (.agg #[.int .i64 ((N : Nat) : Int), M]) ∧ RefM w.heap.size w' M N N rb' (plusFn F N) ∧ Below w.heap.size w w' := by
  have HN : Hid (N = max N 0) := by show _ = _; omega
  go_enter Tryd.func55, Tryd.ntmps55
  go_wp2_with fail
  refine (refWide_at lo N hN x y z rb F 0 N (by omega) HN _ ((h.alloc _).alloc _)).mono ?_
  rintro e w1 ⟨M, rbw, rfl, hRM, hB1⟩
  obtain ⟨x2, y2, z2, rfl⟩ := hRM.slice
  have hA : MkAt w (w1.alloc (.cells #[.int .i64 ((N : Nat) : Int), .slice x2 y2 z2] 46)) 2 [(0, #[.int .i64 ((N : Nat) : Int), .slice x y z]), (1, #[.int .i64 0, .slice none 0 0])] w1.heap.size N (.slice x2 y2 z2) rbw (plusFn F 0) := by
    refine MkAt.begin (((Below.refl _ w).alloc (Nat.le_refl _) _).alloc (by simp) _) (by simp) ?_ (hRM.congr fun p q hp hq => ?_) hB1
    · intro x hx
      simp only [List.mem_cons, List.not_mem_nil, or_false] at hx
      rcases hx with rfl | rfl
      · exact ⟨by omega, (Blk.new w _ _).alloc _⟩
      · exact ⟨by omega, Blk.new2 w _ _ _⟩
    · rw [fill_ext, ext_in hp hq]
      rfl
  clear hRM hB1
  go_wp2_with fail
  generalize w1.heap.size = B at *
  go_loopw [4] (fun i wr => ∃ k, k ≤ N ∧ i = .int .i64 ((k : Nat) : Int) ∧ MkAt w wr 2 [(0, #[.int .i64 ((N : Nat) : Int), .slice x y z]), (1, #[.int .i64 0, .slice none 0 0])] B N (.slice x2 y2 z2) rbw (plusFn F k)) (fun i _ => N - (intOf i).toNat)
  case atStart => exact ⟨0, by omega, rfl, hA⟩
  case round =>
    clear hA
    obtain ⟨k, hk, rfl, hA⟩ := hrel
    have c0 := hA.box.cell (j := 0) rfl
    by_cases hlt : k < N
    · rw [← fillF_zero (plusFn F (k + 1)) (plusFn F k) N] at hA
      go_wp2_with fail
      clear c0
      go_loopw [5] (fun i wr => ∃ p, p ≤ N ∧ i = .int .i64 ((p : Nat) : Int) ∧ MkAt w wr 2 [(0, #[.int .i64 ((N : Nat) : Int), .slice x y z]), (1, #[.int .i64 0, .slice none 0 0])] B N (.slice x2 y2 z2) rbw (fillF (plusFn F (k + 1)) (plusFn F k) N p 0)) (fun i _ => N - (intOf i).toNat)
      case atStart => exact ⟨0, by omega, rfl, hA⟩
      case round =>
        clear hA
        obtain ⟨p, hp, rfl, hA⟩ := hrel
        have c0 := hA.box.cell (j := 0) rfl
        by_cases hlt2 : p < N
        · cases hv : plusFn F k p k
          · have hA2 := hA.congr (fun x y _ _ => fill_still F N k p hv x y)
            have Hv : Hid (plusFn F k p k = false) := hv
            clear hA hv
            go_wp2_with fail
            clear c0
            go_loopw [6] (fun i wr => i = .int .i64 0 ∧ MkAt w wr 2 [(0, #[.int .i64 ((N : Nat) : Int), .slice x y z]), (1, #[.int .i64 0, .slice none 0 0])] B N (.slice x2 y2 z2) rbw (fillF (plusFn F (k + 1)) (plusFn F k) N (p + 1) 0)) (fun _ _ => 0)
            case atStart => exact ⟨rfl, hA2⟩
            case round =>
              clear hA2
              obtain ⟨rfl, hA⟩ := hrel
              have d1 := hA.box.cell (j := 1) rfl
              obtain ⟨g2, cap2, e2, _, _, _, s0, s1, _, _⟩ := hA.ref.at_ (p := p) (q := k) hlt2 hlt
              cases e2
              rw [fill_col, Hv.out] at s1
              go_wp2_with fail
              refine ⟨⟨p + 1, by omega, by go_num, hA⟩, by simp [intOf]; omega⟩
          · have Hv : Hid (plusFn F k p k = true) := hv
            clear hv
            go_wp2_with fail
            clear c0
            go_loopw [6] (fun i wr => ∃ q, q ≤ N ∧ i = .int .i64 ((q : Nat) : Int) ∧ MkAt w wr 2 [(0, #[.int .i64 ((N : Nat) : Int), .slice x y z]), (1, #[.int .i64 0, .slice none 0 0])] B N (.slice x2 y2 z2) rbw (fillF (plusFn F (k + 1)) (plusFn F k) N p q)) (fun i _ => N - (intOf i).toNat)
            case atStart => exact ⟨0, by omega, rfl, hA⟩
            case round =>
              clear hA
              obtain ⟨q, hq, rfl, hA⟩ := hrel
              have c0 := hA.box.cell (j := 0) rfl
              have d1 := hA.box.cell (j := 1) rfl
              obtain ⟨g2, cap2, e2, _, _, _, s0, s1, _, _⟩ := hA.ref.at_ (p := p) (q := k) hlt2 hlt
              rw [fill_col, Hv.out] at s1
              by_cases hlt3 : q < N
              · obtain ⟨g3, cap3, e3, _, _, _, t0, t1, _, _⟩ := hA.ref.at_ (p := k) (q := q) hlt hlt3
                obtain ⟨g4, cap4, e4, _, _, n4, u0, u1, fz, _⟩ := hA.ref.at_ (p := p) (q := q) hlt2 hlt3
                cases e2
                cases e3
                cases e4
                rw [fill_row] at t1
                rw [fillF_at] at u1
                have hval : plusFn F (k + 1) p q = (plusFn F k p q || plusFn F k k q) := by rw [plusFn_succ, Hv.out, Bool.true_and]
                have hA2 := hA.drew.put (p := p) (q := q) hlt2 hlt3 (plusFn F k p q || plusFn F k k q)
                rw [← hval, fillF_put] at hA2
                cases hu : plusFn F k p q
                · rw [hval, hu, Bool.false_or] at hA2
                  rw [hu] at u1
                  clear hval hu
                  go_wp2_with fail
                  go_region
                  all_goals
                    go_wp2_with fail
                    refine ⟨⟨q + 1, by omega, by go_num, hA2⟩, by simp [intOf]; omega⟩
                · rw [hval, hu, Bool.true_or] at hA2
                  rw [hu] at u1
                  clear hval hu
                  go_wp2_with fail
                  go_region
                  all_goals
                    go_wp2_with fail
                    refine ⟨⟨q + 1, by omega, by go_num, hA2⟩, by simp [intOf]; omega⟩
              · have e : N = q := by omega
                subst e
                cases e2
                rw [fillF_row] at hA
                go_wp2_with fail
                refine ⟨⟨p + 1, by omega, by go_num, hA⟩, by simp [intOf]; omega⟩
        · have e : N = p := by omega
          subst e
          have hA2 := hA.congr (G := plusFn F (k + 1)) (fun x y hx hy => fillF_full hx hy)
          go_wp2_with fail
          refine ⟨⟨k + 1, by omega, by go_num, hA2⟩, by simp [intOf]; omega⟩
    · have e : N = k := by omega
      subst e
      have b1 := hA.box.cell (j := 1) rfl
      have hr := hA.snd
      have d0 := hr.cell (j := 0) rfl
      have d1 := hr.cell (j := 1) rfl
      have f0 := hr.frozen 0
      have f1 := hr.frozen 1
      go_wp2_with fail
      have hres := (hr.set 0 (.int .i64 ((N : Nat) : Int))).set 1 (.slice x2 y2 z2)
      simp only [List.setIfInBounds_toArray, List.set_cons_zero, List.set_cons_succ] at hres
      (try simp only [Exit.inBlock, Exit.then])
      refine bodyPost_ret (ret_ref rfl rfl hres) rfl ?_
      obtain ⟨hA1, hB1⟩ := hA.answer (r := 1) (by omega)
      first | exact ⟨_, rbw, rfl, hA1, hB1⟩ | exact ⟨_, rfl, ⟨rbw, hA1⟩, hB1⟩
end Go.Proofs.YtijjogpldoafjaaDoor
/- Of RefSame, what this seat can build. -/
namespace Go.Proofs.YtijjogpldoafjaaDoor
open Go.RowKit Go.Shelf Sx Relation

/-- The table F and the rows L have the same pairs, of points below N. -/
def Same (N : Nat) (F : Nat → Nat → Bool) (L : List Nat) : Prop := ∀ p q, p < N → q < N → (F p q = true ↔ hs L p q)
section
variable {N : Nat} {F : Nat → Nat → Bool} {L : List Nat}
theorem same_plusN (h : Same N F L) (hl : L.length = N) (k : Nat) (hk : k ≤ N) : Same N (plusFn F k) (plusN L k) := by
  induction k with
  | zero => exact h
  | succ k ih =>
    intro p q hp hq
    have ih := ih (by omega)
    rw [plusFn_succ, Bool.or_eq_true, Bool.and_eq_true, plusN_step hl, ih p q hp hq, ih p k hp (by omega), ih k q (by omega) hq]
theorem same_plus (h : Same N F L) (hl : L.length = N) : Same N (plusFn F N) (plusL L) := by
  have := same_plusN h hl N (Nat.le_refl _)
  unfold plusL
  rw [hl]
  exact this
end
end Go.Proofs.YtijjogpldoafjaaDoor
/- The contract of the document's own Comp. -/
namespace Go.Proofs.YtijjogpldoafjaaDoor
open Go.RowKit Go.Shelf Sx

def cmpF (X Y : Nat → Nat → Bool) : Nat → Nat → Nat → Bool
  | 0 => fun _ _ => false
  | q + 1 => fun p s => cmpF X Y q p s || (X p q && Y q s)
theorem cmpF_succ (X Y : Nat → Nat → Bool) (q p s : Nat) : cmpF X Y (q + 1) p s = (cmpF X Y q p s || (X p q && Y q s)) := rfl
def rowsF (X Y : Nat → Nat → Bool) (N p q : Nat) : Nat → Nat → Bool := fun x y => if x < p then cmpF X Y N x y else if x = p then cmpF X Y q x y else false
theorem rowsF_zero (X Y : Nat → Nat → Bool) (N x y : Nat) : rowsF X Y N 0 0 x y = false := by
  unfold rowsF
  rw [if_neg (by omega)]
  split <;> rfl
theorem rowsF_still (X Y : Nat → Nat → Bool) (N p q : Nat) (h : X p q = false) (x y : Nat) : rowsF X Y N p q x y = rowsF X Y N p (q + 1) x y := by
  unfold rowsF
  by_cases h1 : x < p
  · rw [if_pos h1, if_pos h1]
  · rw [if_neg h1, if_neg h1]
    by_cases h2 : x = p
    · subst h2
      rw [if_pos rfl, if_pos rfl, cmpF_succ, h]
      simp
    · rw [if_neg h2, if_neg h2]
theorem rowsF_next (X Y : Nat → Nat → Bool) (N p x y : Nat) : rowsF X Y N p N x y = rowsF X Y N (p + 1) 0 x y := by
  unfold rowsF
  by_cases h1 : x < p
  · rw [if_pos h1, if_pos (by omega)]
  · rw [if_neg h1]
    by_cases h2 : x = p
    · subst h2
      rw [if_pos rfl, if_pos (by omega)]
    · rw [if_neg h2, if_neg (by omega)]
      split <;> rfl
theorem rowsF_filled (X Y : Nat → Nat → Bool) (N p q x y : Nat) (hy : y < N) : fillF (cmpF X Y (q + 1)) (rowsF X Y N p q) 0 p N x y = rowsF X Y N p (q + 1) x y := by
  unfold fillF rowsF
  by_cases h1 : x < p
  · rw [if_neg (by omega), if_pos h1, if_pos h1]
  · by_cases h2 : x = p
    · subst h2
      rw [if_pos (by omega), if_neg h1, if_pos rfl]
    · rw [if_neg (by omega), if_neg h1, if_neg h1, if_neg h2, if_neg h2]
theorem rowsF_here (X Y : Nat → Nat → Bool) (N p q s : Nat) : rowsF X Y N p q p s = cmpF X Y q p s := by
  unfold rowsF
  rw [if_neg (by omega), if_pos rfl]

structure CompB (w W : World) (bx bY N : Nat) (M1 M2 : Value) (r1 r2 : Nat → Nat) (X Y : Nat → Nat → Bool) : Prop where
  below : Below w.heap.size w W
  res : Blk W (w.heap.size + 2) 46 #[.int .i64 0, .slice none 0 0]
  hx : Blk W bx 46 #[.int .i64 ((N : Nat) : Int), M1]
  hy : Blk W bY 46 #[.int .i64 ((N : Nat) : Int), M2]
  rx : RefM 0 W M1 N N r1 X
  ry : RefM 0 W M2 N N r2 Y
theorem CompB.step {w W W' : World} {bx bY N : Nat} {M1 M2 : Value} {r1 r2 : Nat → Nat} {X Y : Nat → Nat → Bool} (h : CompB w W bx bY N M1 M2 r1 r2 X Y) (hB : Below W.heap.size W W') : CompB w W' bx bY N M1 M2 r1 r2 X Y :=
  ⟨below_step h.below h.below.size hB, h.res.of_below hB, h.hx.of_below hB, h.hy.of_below hB, h.rx.below hB, h.ry.below hB⟩

set_option maxRecDepth 100000 in
set_option maxHeartbeats 8000000 in
theorem refComp_calls (lo lo2 n m N : Nat) (hn : n ≤ 256) (hm : m ≤ 256) (HN : Hid (N = max n m)) (x : Option Addr) (y z : Nat) (rb : Nat → Nat) (F : Nat → Nat → Bool) (x1 : Option Addr) (y1 z1 : Nat) (rb1 : Nat → Nat) (G : Nat → Nat → Bool) (w : World) (h : RefM lo w (.slice x y z) n n rb F) (h1 : RefM lo2 w (.slice x1 y1 z1) m m rb1 G) :
    Calls Tryd.prog 58 #[.agg #[.int .i64 ((n : Nat) : Int), .slice x y z], .agg #[.int .i64 ((m : Nat) : Int), .slice x1 y1 z1]] w fun e w' => ∃ M rb', e = .returned (.agg #[.int .i64 ((N : Nat) : Int), M]) ∧ RefM w.heap.size w' M N N rb' (cmpF (extF n F) (extF m G) N) ∧ Below w.heap.size w w' := by
  have hN : N ≤ 256 := by have := HN.out; omega
  have HN2 : Hid (N = max m n) := by show _ = _; have := HN.out; omega
  have hW0 : Below w.heap.size w (((w.alloc (.cells #[.int .i64 ((n : Nat) : Int), .slice x y z] 46)).alloc (.cells #[.int .i64 ((m : Nat) : Int), .slice x1 y1 z1] 46)).alloc (.cells #[.int .i64 0, .slice none 0 0] 46)) := (((Below.refl _ w).alloc (Nat.le_refl _) _).alloc (by simp) _).alloc (by simp; omega) _
  go_enter Tryd.func58, Tryd.ntmps58
  go_wp2_with fail
  refine (refWide_at lo n hn x y z rb F m N hm HN _ (((h.alloc _).alloc _).alloc _)).mono ?_
  rintro e w1 ⟨M1, r1, rfl, hR1, hB1⟩
  obtain ⟨x2, y2, z2, rfl⟩ := hR1.slice
  have ba := (((((Blk.new w 46 #[.int .i64 ((n : Nat) : Int), .slice x y z]).alloc (.cells #[.int .i64 ((m : Nat) : Int), .slice x1 y1 z1] 46)).alloc (.cells #[.int .i64 0, .slice none 0 0] 46)).of_below hB1).alloc (.cells #[.int .i64 ((N : Nat) : Int), .slice x2 y2 z2] 46))
  have bb := ((((Blk.new2 w (.cells #[.int .i64 ((n : Nat) : Int), .slice x y z] 46) 46 #[.int .i64 ((m : Nat) : Int), .slice x1 y1 z1]).alloc (.cells #[.int .i64 0, .slice none 0 0] 46)).of_below hB1).alloc (.cells #[.int .i64 ((N : Nat) : Int), .slice x2 y2 z2] 46))
  have br := ((Blk.new3 w (.cells #[.int .i64 ((n : Nat) : Int), .slice x y z] 46) (.cells #[.int .i64 ((m : Nat) : Int), .slice x1 y1 z1] 46) 46 #[.int .i64 0, .slice none 0 0]).of_below hB1).alloc (.cells #[.int .i64 ((N : Nat) : Int), .slice x2 y2 z2] 46)
  have bx := Blk.new w1 46 #[.int .i64 ((N : Nat) : Int), .slice x2 y2 z2]
  have hW1 := below_step hW0 hW0.size hB1
  have hW1a := hW1.alloc hW1.size (.cells #[.int .i64 ((N : Nat) : Int), .slice x2 y2 z2] 46)
  have rX := ((hR1.congr (G := extF n F) (fun p q _ _ => fill_ext n F p q)).mono (Nat.zero_le _)).alloc (.cells #[.int .i64 ((N : Nat) : Int), .slice x2 y2 z2] 46)
  have h1a := h1.below hW1a
  clear hR1 hB1 hW0 hW1
  have a0 := ba.cell (j := 0) rfl
  have b0 := bb.cell (j := 0) rfl
  have b1 := bb.cell (j := 1) rfl
  go_wp2_with fail
  generalize hw1a : w1.alloc (.cells #[.int .i64 ((N : Nat) : Int), .slice x2 y2 z2] 46) = W1 at *
  generalize w1.heap.size = BX at *
  refine (refWide_at lo2 m hm x1 y1 z1 rb1 G n N hn HN2 _ h1a).mono ?_
  rintro e w2 ⟨M2, r2, rfl, hR2, hB2⟩
  obtain ⟨x3, y3, z3, rfl⟩ := hR2.slice
  have hW2 := below_step hW1a hW1a.size hB2
  have hC : CompB w (w2.alloc (.cells #[.int .i64 ((N : Nat) : Int), .slice x3 y3 z3] 46)) BX w2.heap.size N (.slice x2 y2 z2) (.slice x3 y3 z3) r1 r2 (extF n F) (extF m G) :=
    ⟨hW2.alloc hW2.size _, (br.of_below hB2).alloc _, (bx.of_below hB2).alloc _, Blk.new _ _ _, (rX.below hB2).alloc _, ((hR2.congr (G := extF m G) (fun p q _ _ => fill_ext m G p q)).mono (Nat.zero_le _)).alloc _⟩
  clear ba bb br bx hW1a rX h1a hR2 hB2 hW2 a0 b0 b1 h h1
  have a0 := hC.hx.cell (j := 0) rfl
  go_wp2_with fail
  generalize w2.alloc (.cells #[.int .i64 ((N : Nat) : Int), .slice x3 y3 z3] 46) = w3 at *
  generalize w2.heap.size = BY at *
  clear a0
  refine (refNew_mid N hN _).mono ?_
  rintro e w4 ⟨M, rbw, rfl, hRM, hB4⟩
  obtain ⟨x4, y4, z4, rfl⟩ := hRM.slice
  have hA : MkAt w3 (w4.alloc (.cells #[.int .i64 ((N : Nat) : Int), .slice x4 y4 z4] 46)) 0 [] w4.heap.size N (.slice x4 y4 z4) rbw (rowsF (extF n F) (extF m G) N 0 0) :=
    MkAt.begin (Below.refl _ _) (by simp) (fun x hx => by cases hx) (hRM.congr fun p q hp hq => (rowsF_zero _ _ N p q).symm) hB4
  clear hRM hB4
  go_wp2_with fail
  generalize w4.heap.size = B at *
  go_loopw [8] (fun i wr => ∃ p, p ≤ N ∧ i = .int .i64 ((p : Nat) : Int) ∧ MkAt w3 wr 0 [] B N (.slice x4 y4 z4) rbw (rowsF (extF n F) (extF m G) N p 0)) (fun i _ => N - (intOf i).toNat)
  case atStart => exact ⟨0, by omega, rfl, hA⟩
  case round =>
    clear hA
    obtain ⟨p, hp, rfl, hA⟩ := hrel
    have c0 := hA.box.cell (j := 0) rfl
    by_cases hlt : p < N
    · go_wp2_with fail
      clear c0
      go_loopw [9] (fun i wr => ∃ q, q ≤ N ∧ i = .int .i64 ((q : Nat) : Int) ∧ MkAt w3 wr 0 [] B N (.slice x4 y4 z4) rbw (rowsF (extF n F) (extF m G) N p q)) (fun i _ => N - (intOf i).toNat)
      case atStart => exact ⟨0, by omega, rfl, hA⟩
      case round =>
        clear hA
        obtain ⟨q, hq, rfl, hA⟩ := hrel
        have c0 := hA.box.cell (j := 0) rfl
        by_cases hlt2 : q < N
        · cases hv : extF n F p q
          · have hA2 := hA.congr (fun x y _ _ => rowsF_still (extF n F) (extF m G) N p q hv x y)
            have Hv : Hid (extF n F p q = false) := hv
            clear hA hv
            go_wp2_with fail
            clear c0
            go_loopw [10] (fun i wr => i = .int .i64 0 ∧ MkAt w3 wr 0 [] B N (.slice x4 y4 z4) rbw (rowsF (extF n F) (extF m G) N p (q + 1))) (fun _ _ => 0)
            case atStart => exact ⟨rfl, hA2⟩
            case round =>
              clear hA2
              obtain ⟨rfl, hA⟩ := hrel
              have hC2 := hC.step hA.below
              have d1 := hC2.hx.cell (j := 1) rfl
              obtain ⟨g2, cap2, e2, _, _, _, s0, s1, _, _⟩ := hC2.rx.at_ (p := p) (q := q) hlt hlt2
              cases e2
              rw [Hv.out] at s1
              go_wp2_with fail
              refine ⟨⟨q + 1, by omega, by go_num, hA⟩, by simp [intOf]; omega⟩
          · have Hv : Hid (extF n F p q = true) := hv
            have hA2 : MkAt w3 _ 0 [] B N (.slice x4 y4 z4) rbw (fillF (cmpF (extF n F) (extF m G) (q + 1)) (rowsF (extF n F) (extF m G) N p q) 0 p 0) := hA.congr (fun x y _ _ => by unfold fillF; rw [if_neg (by omega)])
            clear hv hA
            go_wp2_with fail
            clear c0
            go_loopw [10] (fun i wr => ∃ s, s ≤ N ∧ i = .int .i64 ((s : Nat) : Int) ∧ MkAt w3 wr 0 [] B N (.slice x4 y4 z4) rbw (fillF (cmpF (extF n F) (extF m G) (q + 1)) (rowsF (extF n F) (extF m G) N p q) 0 p s)) (fun i _ => N - (intOf i).toNat)
            case atStart => exact ⟨0, by omega, rfl, hA2⟩
            case round =>
              clear hA2
              obtain ⟨s, hs, rfl, hA⟩ := hrel
              have hC2 := hC.step hA.below
              have c0 := hA.box.cell (j := 0) rfl
              have d1 := hC2.hx.cell (j := 1) rfl
              obtain ⟨g2, cap2, e2, _, _, _, s0, s1, _, _⟩ := hC2.rx.at_ (p := p) (q := q) hlt hlt2
              rw [Hv.out] at s1
              by_cases hlt3 : s < N
              · have k1 := hC2.hy.cell (j := 1) rfl
                have m1 := hA.box.cell (j := 1) rfl
                obtain ⟨g3, cap3, e3, _, _, _, t0, t1, _, _⟩ := hC2.ry.at_ (p := q) (q := s) hlt2 hlt3
                obtain ⟨g4, cap4, e4, _, _, n4, u0, u1, fz, _⟩ := hA.ref.at_ (p := p) (q := s) hlt hlt3
                cases e2
                cases e3
                cases e4
                rw [fillF_at, rowsF_here] at u1
                have hval : cmpF (extF n F) (extF m G) (q + 1) p s = (cmpF (extF n F) (extF m G) q p s || extF m G q s) := by rw [cmpF_succ, Hv.out, Bool.true_and]
                have hA2 := hA.drew.put (p := p) (q := s) hlt hlt3 (cmpF (extF n F) (extF m G) q p s || extF m G q s)
                rw [← hval, fillF_put] at hA2
                cases hu : cmpF (extF n F) (extF m G) q p s
                · rw [hval, hu, Bool.false_or] at hA2
                  rw [hu] at u1
                  clear hval hu
                  go_wp2_with fail
                  go_region
                  all_goals
                    go_wp2_with fail
                    refine ⟨⟨s + 1, by omega, by go_num, hA2⟩, by simp [intOf]; omega⟩
                · rw [hval, hu, Bool.true_or] at hA2
                  rw [hu] at u1
                  clear hval hu
                  go_wp2_with fail
                  go_region
                  all_goals
                    go_wp2_with fail
                    refine ⟨⟨s + 1, by omega, by go_num, hA2⟩, by simp [intOf]; omega⟩
              · have e : N = s := by omega
                subst e
                cases e2
                have hA2 := hA.congr (fun x y _ hy => rowsF_filled (extF n F) (extF m G) N p q x y hy)
                go_wp2_with fail
                refine ⟨⟨q + 1, by omega, by go_num, hA2⟩, by simp [intOf]; omega⟩
        · have e : N = q := by omega
          subst e
          have hA2 := hA.congr (fun x y _ _ => rowsF_next (extF n F) (extF m G) N p x y)
          go_wp2_with fail
          refine ⟨⟨p + 1, by omega, by go_num, hA2⟩, by simp [intOf]; omega⟩
    · have e : N = p := by omega
      subst e
      have hA := hA.congr (G := cmpF (extF n F) (extF m G) N) (fun x y hx _ => by unfold rowsF; rw [if_pos hx])
      have hC2 := hC.step hA.below
      have b1 := hA.box.cell (j := 1) rfl
      have hr := hC2.res
      have d0 := hr.cell (j := 0) rfl
      have d1 := hr.cell (j := 1) rfl
      have f0 := hr.frozen 0
      have f1 := hr.frozen 1
      go_wp2_with fail
      have hres := (hr.set 0 (.int .i64 ((N : Nat) : Int))).set 1 (.slice x4 y4 z4)
      simp only [List.setIfInBounds_toArray, List.set_cons_zero, List.set_cons_succ] at hres
      (try simp only [Exit.inBlock, Exit.then])
      refine bodyPost_ret (ret_ref rfl rfl hres) rfl ?_
      have hl := hC.res.lt
      have hA1 : RefM w.heap.size ((_ : World).setCell ⟨w.heap.size + 2, 0, none⟩ (.int .i64 ((N : Nat) : Int)) |>.setCell ⟨w.heap.size + 2, 1, none⟩ (.slice x4 y4 z4)) (.slice x4 y4 z4) N N rbw (cmpF (extF n F) (extF m G) N) := RefM.mono (hA.ref.below' fun g hg _ => by rw [Below.heap_setCell _ _ _ _ (by simp; omega), Below.heap_setCell _ _ _ _ (by simp; omega)]) (by omega)
      have hB1 := (hC2.below.setCell (p := ⟨w.heap.size + 2, 0, none⟩) (by simp) (.int .i64 ((N : Nat) : Int))).setCell (p := ⟨w.heap.size + 2, 1, none⟩) (by simp) (.slice x4 y4 z4)
      first | exact ⟨_, rbw, rfl, hA1, hB1⟩ | exact ⟨_, rfl, ⟨rbw, hA1⟩, hB1⟩
end Go.Proofs.YtijjogpldoafjaaDoor
/- Of RefLook, what this seat can build. -/
namespace Go.Proofs.YtijjogpldoafjaaDoor
open Go.RowKit Go.Shelf Sx

def irrF (n : Nat) (F : Nat → Nat → Bool) : Bool := (List.range n).all fun p => !F p p
theorem irrF_false {n p : Nat} {F : Nat → Nat → Bool} (hp : p < n) (h : F p p = true) : irrF n F = false := by
  unfold irrF
  rw [List.all_eq_false]
  exact ⟨p, by simpa using hp, by simp [h]⟩
theorem irrF_true {n : Nat} {F : Nat → Nat → Bool} (h : ∀ p, p < n → F p p = false) : irrF n F = true := by
  unfold irrF
  rw [List.all_eq_true]
  intro p hp
  simp [h p (by simpa using hp)]
set_option maxHeartbeats 1000000 in
theorem refIrr_calls (lo n : Nat) (hn : n ≤ 256) (x : Option Addr) (y z : Nat) (rb : Nat → Nat) (F : Nat → Nat → Bool) (w : World) (h : RefM lo w (.slice x y z) n n rb F) (v : Bool) (Hv : Hid (irrF n F = v)) :
    Calls Tryd.prog 56 #[.agg #[.int .i64 ((n : Nat) : Int), .slice x y z]] w fun e w' => e = .returned (.bool v) ∧ Below w.heap.size w w' := by
  have hB0 : Below w.heap.size w (w.alloc (.cells #[.int .i64 ((n : Nat) : Int), .slice x y z] 46)) := (Below.refl _ _).alloc (Nat.le_refl _) _
  have hb0 := Blk.new w 46 #[.int .i64 ((n : Nat) : Int), .slice x y z]
  have h0 := h.below hB0
  go_enter Tryd.func56, Tryd.ntmps56
  go_wp2_with fail
  generalize w.alloc (.cells #[.int .i64 ((n : Nat) : Int), .slice x y z] 46) = W at *
  have c0 := hb0.cell (j := 0) rfl
  have c1 := hb0.cell (j := 1) rfl
  go_loopw [3] (fun i wr => ∃ k, k ≤ n ∧ i = .int .i64 ((k : Nat) : Int) ∧ wr = W ∧ Hid (∀ p, p < k → F p p = false)) (fun i _ => n - (intOf i).toNat)
  case atStart => exact ⟨0, by omega, rfl, rfl, fun p hp => by omega⟩
  case round =>
    obtain ⟨k, hk, rfl, rfl, HF⟩ := hrel
    by_cases hlt : k < n
    · obtain ⟨g, cap, e, _, _, _, d0, d1, _, _⟩ := h0.at_ hlt hlt
      cases e
      cases hf : F k k
      · rw [hf] at d1
        have HF2 : Hid (∀ p, p < k + 1 → F p p = false) := by
          intro p hp
          by_cases e : p = k
          · rw [e]; exact hf
          · exact HF.out p (by omega)
        clear hf
        go_wp2_with fail
        refine ⟨⟨k + 1, by omega, by go_num, by first | rfl | trivial, HF2⟩, by simp [intOf]; omega⟩
      · rw [hf] at d1
        obtain rfl : v = false := by rw [← Hv.out]; exact irrF_false hlt hf
        clear hf
        go_wp2_with fail
        go_ret
        exact ⟨rfl, hB0⟩
    · have e : n = k := by omega
      subst e
      obtain rfl : v = true := by rw [← Hv.out]; exact irrF_true HF.out
      go_wp2_with fail
      go_ret
      exact ⟨rfl, hB0⟩
end Go.Proofs.YtijjogpldoafjaaDoor
/- The contract of the document's own Pairs. -/
namespace Go.Proofs.YtijjogpldoafjaaDoor
open Go.RowKit Go.Shelf Sx

def prsRow (F : Nat → Nat → Bool) (p q : Nat) : List (Nat × Nat) := ((List.range q).filter (F p)).map (fun y => (p, y))
def prsF (n : Nat) (F : Nat → Nat → Bool) (p q : Nat) : List (Nat × Nat) := (List.range p).flatMap (fun x => prsRow F x n) ++ prsRow F p q
theorem prsRow_succ (F : Nat → Nat → Bool) (p q : Nat) : prsRow F p (q + 1) = prsRow F p q ++ (if F p q then [(p, q)] else []) := by
  unfold prsRow
  rw [List.range_succ, List.filter_append, List.map_append]
  congr 1
  cases h : F p q <;> simp [h]
theorem prsF_yes {n : Nat} {F : Nat → Nat → Bool} {p q : Nat} (h : F p q = true) : prsF n F p (q + 1) = prsF n F p q ++ [(p, q)] := by
  unfold prsF
  rw [prsRow_succ, h, if_pos rfl, List.append_assoc]
theorem prsF_no {n : Nat} {F : Nat → Nat → Bool} {p q : Nat} (h : F p q = false) : prsF n F p (q + 1) = prsF n F p q := by
  unfold prsF
  rw [prsRow_succ, h]
  simp
theorem prsF_next (n : Nat) (F : Nat → Nat → Bool) (p : Nat) : prsF n F p n = prsF n F (p + 1) 0 := by
  unfold prsF
  rw [List.range_succ, List.flatMap_append]
  simp [prsRow]

structure PrAt (w W : World) (n : Nat) (A v : Value) (l : List (Nat × Nat)) : Prop where
  below : Below w.heap.size w W
  box : Blk W w.heap.size 46 #[.int .i64 ((n : Nat) : Int), A]
  own : W.ownsRow (w.heap.size + 1) 37 2 v l.length (encPs l)
theorem PrAt.more {w W W' : World} {n : Nat} {A v v' : Value} {l : List (Nat × Nat)} {a b : Nat} (h : PrAt w W n A v l)
    (hown : W'.ownsRow (w.heap.size + 1) 37 2 v' (l.length + 1) (encPs l ++ [.int .i64 ((a : Nat) : Int), .int .i64 ((b : Nat) : Int)]))
    (hg : (W.alloc (.cells #[.int .i64 ((a : Nat) : Int), .int .i64 ((b : Nat) : Int)] 37)).grownBy W' v.ownBlock) : PrAt w W' n A v' (l ++ [(a, b)]) := by
  have hlt := h.box.lt
  refine ⟨(h.below.alloc h.below.size _).grown hg (by simp; omega) (fun k e => by have := (h.own.lt k e).1; omega), ?_, ?_⟩
  · exact (hg.block _ (by simp; omega) (fun e => by have := (h.own.lt _ e.symm).1; omega)).trans (h.box.alloc _)
  · rw [encPs_snoc, List.length_append]
    exact hown

theorem owns_lower {w : World} {base base' : Nat} {e : TypeId} {size : Nat} {v : Value} {n : Nat} {xs : List Value} (h : w.ownsRow base e size v n xs) (hb : base' ≤ base) : w.ownsRow base' e size v n xs := by
  refine ⟨h.1, ?_⟩
  rcases h.2 with h2 | ⟨g, cap, cur, e1, e2, e3⟩
  · exact .inl h2
  · exact .inr ⟨g, cap, cur, e1, Nat.le_trans hb e2, e3⟩
set_option maxRecDepth 100000 in
set_option maxHeartbeats 4000000 in
theorem refPairs_calls (lo n : Nat) (hn : n ≤ 256) (x : Option Addr) (y z : Nat) (rb : Nat → Nat) (F : Nat → Nat → Bool) (w : World) (h : RefM lo w (.slice x y z) n n rb F) :
    Calls Tryd.prog 34 #[.agg #[.int .i64 ((n : Nat) : Int), .slice x y z]] w fun e w' => ∃ v, e = .returned v ∧ w'.ownsRow w.heap.size 37 2 v (prsF n F n 0).length (encPs (prsF n F n 0)) ∧ Below w.heap.size w w' := by
  obtain ⟨i0, hi, hz0, hz1, hz2⟩ := info_parts Tryd.infopair
  have hA : PrAt w (w.alloc (.cells #[.int .i64 ((n : Nat) : Int), .slice x y z] 46)) n (.slice x y z) (.slice none 0 0) [] :=
    ⟨(Below.refl _ _).alloc (Nat.le_refl _) _, Blk.new _ _ _, World.ownsRow_nil _ _ _ _⟩
  go_enter Tryd.func34, Tryd.ntmps34
  go_wp2_with fail
  go_loopw [3, 4] (fun v i wr => ∃ p l, p ≤ n ∧ i = .int .i64 ((p : Nat) : Int) ∧ PrAt w wr n (.slice x y z) v l ∧ Hid (l = prsF n F p 0) ∧ l.length ≤ p * 256) (fun _ i _ => n - (intOf i).toNat)
  case atStart => exact ⟨0, [], by omega, rfl, hA, rfl, by simp⟩
  case round =>
    clear hA
    obtain ⟨p, l, hp, rfl, hA, HL, hlen⟩ := hrel
    have c0 := hA.box.cell (j := 0) rfl
    by_cases hlt : p < n
    · go_wp2_with fail
      clear c0
      go_loopw [3, 5] (fun v i wr => ∃ q l, q ≤ n ∧ i = .int .i64 ((q : Nat) : Int) ∧ PrAt w wr n (.slice x y z) v l ∧ Hid (l = prsF n F p q) ∧ l.length ≤ p * 256 + q) (fun _ i _ => n - (intOf i).toNat)
      case atStart => exact ⟨0, l, by omega, rfl, hA, HL, by omega⟩
      case round =>
        clear hA HL hlen
        obtain ⟨q, l, hq, rfl, hA, HL, hlen⟩ := hrel
        have c0 := hA.box.cell (j := 0) rfl
        by_cases hlt2 : q < n
        · have c1 := hA.box.cell (j := 1) rfl
          obtain ⟨g, cap, e, _, _, _, d0, d1, _, _⟩ := (h.below hA.below).at_ hlt hlt2
          cases e
          cases hf : F p q
          · rw [hf] at d1
            have HL2 : Hid (l = prsF n F p (q + 1)) := by show _ = _; rw [prsF_no hf]; exact HL.out
            clear hf
            go_wp2_with fail
            refine ⟨⟨q + 1, l, by omega, by go_num, hA, HL2, by omega⟩, by simp [intOf]; omega⟩
          · rw [hf] at d1
            have HL2 : Hid (l ++ [(p, q)] = prsF n F p (q + 1)) := by show _ = _; rw [prsF_yes hf, ← HL.out]
            clear hf
            have hlt4 := hA.box.lt
            go_wp2_with (at_builtin; refine wpList_append_own_at _ rfl _ _ 38 rfl (w.heap.size + 1) 37 i0 (.agg #[.int .i64 0, .int .i64 0]) 2 16 Tryd.underlying38 hi hz0 hz1 hz2 rfl (by decide) _ _ _ rfl (hA.own.alloc _) ⟨_, 0, none⟩ 1 1 [.int .i64 ((p : Nat) : Int), .int .i64 ((q : Nat) : Int)] rfl rfl (news_two _ _ _ _) (by simp [Value.oneCell']) (by unfold maxLen; omega) (by omega) (by simp; omega) ?_; intro v' w4 hown' hgrow _ hat)
            have hA2 := hA.more hown' hgrow
            refine ⟨⟨q + 1, l ++ [(p, q)], by omega, by go_num, hA2, HL2, by simp; omega⟩, by simp [intOf]; omega⟩
        · have e : n = q := by omega
          subst e
          have HL2 : Hid (l = prsF n F (p + 1) 0) := by show _ = _; rw [← prsF_next]; exact HL.out
          go_wp2_with fail
          refine ⟨⟨p + 1, l, by omega, by go_num, hA, HL2, by omega⟩, by simp [intOf]; omega⟩
    · have e : n = p := by omega
      subst e
      have ho := hA.own
      rw [HL.out] at ho
      go_wp2_with fail
      go_ret
      exact ⟨_, rfl, owns_lower ho (by omega), hA.below⟩
end Go.Proofs.YtijjogpldoafjaaDoor
/- Of SameMath, what this seat can build. -/
namespace Go.Proofs.YtijjogpldoafjaaDoor
open Go.RowKit Go.Shelf Sx Relation

/-- A table and rows of one length with the same pairs. -/
structure Twin (n : Nat) (F : Nat → Nat → Bool) (L : List Nat) : Prop where
  wf : WF n L
  same : Same n F L
section
variable {n m N : Nat} {F G : Nat → Nat → Bool} {A B : List Nat}
theorem Twin.ext (h : Twin n F A) (p q : Nat) : extF n F p q = true ↔ hs A p q := by
  unfold extF
  rw [Bool.and_eq_true, Bool.and_eq_true, decide_eq_true_eq, decide_eq_true_eq]
  constructor
  · rintro ⟨h1, h2, h3⟩
    exact (h.same p q h1 h2).1 h3
  · intro h1
    have h2 := hs_left h1
    rw [h.wf.len] at h2
    exact ⟨h2, h.wf.low _ _ h1, (h.same p q h2 (h.wf.low _ _ h1)).2 h1⟩
theorem Twin.low (h : Twin n F A) {p q : Nat} (h1 : hs A p q) : p < n ∧ q < n := by
  have h2 := hs_left h1
  rw [h.wf.len] at h2
  exact ⟨h2, h.wf.low _ _ h1⟩
/-- Rows whose pairs are told whole make a twin. -/
theorem Twin.mk' {L : List Nat} {H : Nat → Nat → Bool} (hl : L.length = N) (h1 : ∀ p q, hs L p q → q < N) (h2 : ∀ p q, p < N → q < N → (H p q = true ↔ hs L p q)) : Twin N H L := ⟨⟨hl, h1⟩, h2⟩
theorem twin_minus (ha : Twin n F A) (hb : Twin m G B) (HN : N = max n m) : Twin N (fun p q => extF n F p q && !extF m G p q) (minusL A B) := by
  have hl : max A.length B.length = N := by rw [ha.wf.len, hb.wf.len, HN]
  have key : ∀ p q, hs (minusL A B) p q ↔ hs A p q ∧ ¬ hs B p q := fun p q => by
    unfold minusL
    rw [hl, hs_fill (Nat.le_refl _), testBit_ldiff, Bool.and_eq_true, Bool.not_eq_true']
    unfold hs
    rw [Bool.not_eq_true]
    exact ⟨fun h => h.2, fun h => ⟨by have := ha.low (show hs A p q from h.1); omega, h⟩⟩
  refine Twin.mk' (by unfold minusL; rw [fillK_length, hl]) ?_ ?_
  · intro p q h
    have := ha.low ((key p q).1 h).1; omega
  · intro p q _ _
    rw [Bool.and_eq_true, ha.ext, Bool.not_eq_true', ← Bool.not_eq_true, hb.ext, key]
theorem cmpF_iff (X Y : Nat → Nat → Bool) (k p q : Nat) : cmpF X Y k p q = true ↔ ∃ r, r < k ∧ X p r = true ∧ Y r q = true := by
  induction k with
  | zero => simp [cmpF]
  | succ k ih =>
    rw [cmpF_succ, Bool.or_eq_true, ih, Bool.and_eq_true]
    constructor
    · rintro (⟨r, h1, h2⟩ | h)
      · exact ⟨r, by omega, h2⟩
      · exact ⟨k, by omega, h⟩
    · rintro ⟨r, h1, h2⟩
      by_cases e : r = k
      · subst e; exact Or.inr h2
      · exact Or.inl ⟨r, by omega, h2⟩
theorem twin_comp (hn : n ≤ 256) (ha : Twin n F A) (hb : Twin m G B) (HN : N = max n m) : Twin N (cmpF (extF n F) (extF m G) N) (compL A B) := by
  have hl : max A.length B.length = N := by rw [ha.wf.len, hb.wf.len, HN]
  have key : ∀ p q, hs (compL A B) p q ↔ ∃ r, hs A p r ∧ hs B r q := fun p q => by
    unfold compL
    rw [hl]
    have e : fillK N (fun p => joinRows B (bitsOf (gr A p))) A.length = fillK N (fun p => joinRows B (bitsOf (gr A p))) N := by
      unfold fillK
      apply List.map_congr_left
      intro p hp
      have hp : p < N := by simpa using hp
      rw [if_pos hp]
      by_cases h : p < A.length
      · rw [if_pos h]
      · rw [if_neg h]
        show 0 = joinRows B (bitsOf (gr A p))
        rw [gr_not h]
        have : bitsOf 0 = [] := by
          cases e : bitsOf 0 with
          | nil => rfl
          | cons x l =>
            have : x ∈ bitsOf 0 := by rw [e]; simp
            have := (mem_bitsOf.1 this).2
            simp at this
        rw [this]
        rfl
    rw [e, hs_fill (Nat.le_refl _)]
    unfold joinRows
    rw [join_bits]
    constructor
    · rintro ⟨_, h | ⟨r, hr, h⟩⟩
      · simp at h
      · exact ⟨r, (mem_bitsOf.1 hr).2, h⟩
    · rintro ⟨r, h1, h2⟩
      have := ha.low h1
      exact ⟨by omega, Or.inr ⟨r, mem_bitsOf.2 ⟨by omega, h1⟩, h2⟩⟩
  refine Twin.mk' (by unfold compL; rw [fillK_length, hl]) ?_ ?_
  · intro p q h
    obtain ⟨r, _, h⟩ := (key p q).1 h
    have := hb.low h; omega
  · intro p q _ _
    rw [cmpF_iff, key]
    constructor
    · rintro ⟨r, _, h1, h2⟩
      exact ⟨r, (ha.ext p r).1 h1, (hb.ext r q).1 h2⟩
    · rintro ⟨r, h1, h2⟩
      have := hb.low h2
      exact ⟨r, by omega, (ha.ext p r).2 h1, (hb.ext r q).2 h2⟩
theorem twin_inv (hn : n ≤ 256) (ha : Twin n F A) : Twin n (fun p q => F q p) (invL A) :=
  ⟨wf_inv hn ha.wf, fun p q hp hq => by rw [hs_inv hn ha.wf]; exact ha.same q p hq hp⟩
theorem twin_plus (ha : Twin n F A) : Twin n (plusFn F n) (plusL A) := ⟨wf_plus ha.wf, same_plus ha.same ha.wf.len⟩
end
end Go.Proofs.YtijjogpldoafjaaDoor
/- Of SameMath2, what this seat can build. -/
namespace Go.Proofs.YtijjogpldoafjaaDoor
open Go.RowKit Go.Shelf Sx Relation

section
variable {n m N : Nat} {F G : Nat → Nat → Bool} {A B : List Nat}
theorem bits_row (hn : n ≤ 256) (ha : Twin n F A) {p : Nat} (hp : p < n) : bitsOf (gr A p) = (List.range n).filter (F p) := by
  unfold bitsOf bitsN
  obtain ⟨d, hd⟩ : ∃ d, 256 = n + d := ⟨256 - n, by omega⟩
  have hz : (List.map (fun x => n + x) (List.range d)).filter (gr A p).testBit = [] := by
    rw [List.filter_eq_nil_iff]
    intro q hq h
    obtain ⟨r, _, rfl⟩ := List.mem_map.1 hq
    have := (ha.low (show hs A p (n + r) from h)).2
    omega
  rw [hd, List.range_add, List.filter_append, hz, List.append_nil]
  apply List.filter_congr
  intro q hq
  have hq : q < n := by simpa using hq
  rw [Bool.eq_iff_iff]
  exact (ha.same p q hp hq).symm
theorem twin_pairs (hn : n ≤ 256) (ha : Twin n F A) : pairsL A = prsF n F n 0 := by
  unfold pairsL pairsK prsF
  rw [ha.wf.len, show prsRow F n 0 = [] from rfl, List.append_nil]
  rw [List.flatMap_def, List.flatMap_def]
  congr 1
  apply List.map_congr_left
  intro p hp
  have hp : p < n := by simpa using hp
  unfold prsRow
  rw [bits_row hn ha hp]
theorem twin_irr (ha : Twin n F A) : irrF n F = (loopsL A == 0) := by
  rw [Bool.eq_iff_iff, beq_iff_eq, loops_zero]
  unfold irrF
  rw [List.all_eq_true]
  constructor
  · intro h p hp
    have h1 := (ha.low hp).1
    have := h p (by simpa using h1)
    rw [Bool.not_eq_true', ← Bool.not_eq_true] at this
    exact this ((ha.same p p h1 h1).2 hp)
  · intro h p hp
    have hp : p < n := by simpa using hp
    rw [Bool.not_eq_true', ← Bool.not_eq_true, ha.same p p hp hp]
    exact h p
end
end Go.Proofs.YtijjogpldoafjaaDoor
/- The contract of the reference's Components: what it keeps. -/
namespace Go.Proofs.YtijjogpldoafjaaDoor
open Go.RowKit Go.Shelf Sx

/-- The reference's box, the closure's, and of each point its least one. -/
structure P1 (w W : World) (n : Nat) (A : Value) (cb : Nat) (M1 : Value) (rb1 : Nat → Nat) (C : Nat → Nat → Bool) (O : List Int) : Prop where
  below : Below w.heap.size w W
  box : Blk W w.heap.size 46 #[.int .i64 ((n : Nat) : Int), A]
  cbox : Blk W cb 46 #[.int .i64 ((n : Nat) : Int), M1]
  cm : RefM (w.heap.size + 1) W M1 n n rb1 C
  of_ : Blk W (cb + 1) 3 (intsA O)
  lo : w.heap.size < cb
  clt : ∀ p, p < n → rb1 p < cb
  mlt : ∀ g, M1.ownBlock = some g → g < cb
theorem P1.setO {w W : World} {n : Nat} {A : Value} {cb : Nat} {M1 : Value} {rb1 : Nat → Nat} {C : Nat → Nat → Bool} {O : List Int} (h : P1 w W n A cb M1 rb1 C O) (i : Nat) (x : Int) : P1 w (W.setCell ⟨cb + 1, i, none⟩ (.int .i64 x)) n A cb M1 rb1 C (O.set i x) := by
  have h1 := h.lo
  refine ⟨h.below.setCell (by show w.heap.size ≤ cb + 1; omega) _, h.box.setOther (by show w.heap.size ≠ cb + 1; omega) _, h.cbox.setOther (by show cb ≠ cb + 1; omega) _, h.cm.far (.inr ⟨fun p hp => ?_, fun e => ?_⟩) _ _, h.of_.setI i x, h.lo, h.clt, h.mlt⟩
  · have := h.clt p hp
    omega
  · have := h.mlt _ e
    omega
/-- The box, the least points, and the relation between them. -/
structure P3 (w W : World) (n : Nat) (A : Value) (ob : Nat) (O : List Nat) (sb lo2 : Nat) (M2 : Value) (rb2 : Nat → Nat) (S : Nat → Nat → Bool) : Prop where
  below : Below w.heap.size w W
  box : Blk W w.heap.size 46 #[.int .i64 ((n : Nat) : Int), A]
  of_ : Blk W ob 3 (intsA (toI O))
  olo : w.heap.size < ob
  sm : RefM lo2 W M2 n n rb2 S
  sbx : Blk W sb 46 #[.int .i64 ((n : Nat) : Int), M2]
  lo : ob < lo2 ∧ lo2 ≤ sb
  rlt : ∀ p, p < n → rb2 p < sb
  mlt : ∀ g, M2.ownBlock = some g → g < sb
theorem P3.step {w W W' : World} {n : Nat} {A : Value} {ob : Nat} {O : List Nat} {sb lo2 : Nat} {M2 : Value} {rb2 : Nat → Nat} {S : Nat → Nat → Bool} (h : P3 w W n A ob O sb lo2 M2 rb2 S) (hb : Below W.heap.size W W') : P3 w W' n A ob O sb lo2 M2 rb2 S :=
  ⟨below_step h.below h.below.size hb, h.box.of_below hb, h.of_.of_below hb, h.olo, h.sm.below hb, h.sbx.of_below hb, h.lo, h.rlt, h.mlt⟩
theorem P3.put {w W : World} {n : Nat} {A : Value} {ob : Nat} {O : List Nat} {sb lo2 : Nat} {M2 : Value} {rb2 : Nat → Nat} {S : Nat → Nat → Bool} (h : P3 w W n A ob O sb lo2 M2 rb2 S) {u v : Nat} (hu : u < n) (hv : v < n) : P3 w (W.setCell ⟨rb2 u, v, none⟩ (.bool true)) n A ob O sb lo2 M2 rb2 (upd S u v true) := by
  have h1 := (h.sm.row u hu).1
  have h2 := h.rlt u hu
  have h3 := h.lo
  have h4 := h.olo
  exact ⟨h.below.setCell (by show w.heap.size ≤ rb2 u; omega) _, h.box.setOther (by show w.heap.size ≠ rb2 u; omega) _, h.of_.setOther (by show ob ≠ rb2 u; omega) _, h.olo, h.sm.put hu hv true, h.sbx.setOther (by show sb ≠ rb2 u; omega) _, h.lo, h.rlt, h.mlt⟩
/-- Blocks up to hi are as they were. -/
theorem P3.keep {w W W' : World} {n : Nat} {A : Value} {ob : Nat} {O : List Nat} {sb lo2 : Nat} {M2 : Value} {rb2 : Nat → Nat} {S : Nat → Nat → Bool} (h : P3 w W n A ob O sb lo2 M2 rb2 S) (hb : Below (sb + 1) W W') : P3 w W' n A ob O sb lo2 M2 rb2 S := by
  have h1 := h.lo
  have h2 := h.olo
  refine ⟨h.below.trans (hb.mono (by omega)), h.box.below hb (by omega), h.of_.below hb (by omega), h.olo, ?_, h.sbx.below hb (by omega), h.lo, h.rlt, h.mlt⟩
  refine ⟨?_, fun q hq => ⟨(h.sm.row q hq).1, (h.sm.row q hq).2.below hb (by have := h.rlt q hq; omega)⟩, h.sm.apart, h.sm.inj⟩
  exact owns_keep h.sm.own (fun g hg => hb.block g (by have := h.mlt g hg; omega))
/-- The same, with what is done and the lists. -/
structure P5 (w W : World) (n : Nat) (A : Value) (ob : Nat) (O : List Nat) (sb lo2 : Nat) (M2 : Value) (rb2 : Nat → Nat) (S : Nat → Nat → Bool) (db : Nat) (D : List Bool) (v : Value) (vs : List Value) (ls : List (List Int)) : Prop where
  g : P3 w W n A ob O sb lo2 M2 rb2 S
  don : Blk W db 4 (arrB D)
  cl : ClR W (db + 1) v vs ls
  lo : sb < db
theorem P5.step {w W W' : World} {n : Nat} {A : Value} {ob : Nat} {O : List Nat} {sb lo2 : Nat} {M2 : Value} {rb2 : Nat → Nat} {S : Nat → Nat → Bool} {db : Nat} {D : List Bool} {v : Value} {vs : List Value} {ls : List (List Int)} (h : P5 w W n A ob O sb lo2 M2 rb2 S db D v vs ls) (hb : Below W.heap.size W W') : P5 w W' n A ob O sb lo2 M2 rb2 S db D v vs ls :=
  ⟨h.g.step hb, h.don.of_below hb, h.cl.step hb, h.lo⟩
theorem P5.mark {w W : World} {n : Nat} {A : Value} {ob : Nat} {O : List Nat} {sb lo2 : Nat} {M2 : Value} {rb2 : Nat → Nat} {S : Nat → Nat → Bool} {db : Nat} {D : List Bool} {v : Value} {vs : List Value} {ls : List (List Int)} (h : P5 w W n A ob O sb lo2 M2 rb2 S db D v vs ls) (p : Nat) : P5 w (W.setCell ⟨db, p, none⟩ (.bool true)) n A ob O sb lo2 M2 rb2 S db (D.set p true) v vs ls := by
  have h2 := h.lo
  refine ⟨h.g.keep ((Below.refl _ _).setCell (by show sb + 1 ≤ db; omega) _), ?_, ⟨owns_set h.cl.own (by show db < db + 1; omega) _, h.cl.rows.keep (fun i x g hx hg => Below.heap_setCell _ _ _ _ (by have := (h.cl.rows.lt hx hg).1; show g ≠ db; omega))⟩, h.lo⟩
  have := h.don.set p (.bool true)
  rwa [arrB_set] at this
theorem P5.more {w W W' : World} {n : Nat} {A : Value} {ob : Nat} {O : List Nat} {sb lo2 : Nat} {M2 : Value} {rb2 : Nat → Nat} {S : Nat → Nat → Bool} {db : Nat} {D : List Bool} {v v' x : Value} {vs : List Value} {ls : List (List Int)} {l : List Int} {N0 : Nat} {o : Obj} (h : P5 w W n A ob O sb lo2 M2 rb2 S db D v vs ls) (hN : db + 1 ≤ N0) (hvs : ∀ (i : Nat) (y : Value) (g : Nat), vs[i]? = some y → y.ownBlock = some g → g < N0) (hx : W.ownsRow N0 3 1 x l.length (encJ l))
    (hown : W'.ownsRow (db + 1) 29 1 v' (vs.length + 1) (vs ++ [x])) (hg : (W.alloc o).grownBy W' v.ownBlock) : P5 w W' n A ob O sb lo2 M2 rb2 S db D v' (vs ++ [x]) (ls ++ [l]) := by
  have h2 := h.lo
  have hdl := h.don.lt
  have hb : Below (db + 1) W W' := ((Below.refl _ W).alloc (by omega) o).grown hg (by simp; omega) (fun k e => (h.cl.own.lt k e).1)
  refine ⟨h.g.keep (hb.mono (by omega)), h.don.below hb (by omega), h.cl.add (owns_lo hx hN) (fun i y g hy hyg e => ?_) hown hg, h.lo⟩
  have h3 := hvs i y g hy hyg
  have h4 := (hx.lt g e).1
  omega
end Go.Proofs.YtijjogpldoafjaaDoor
/- The contract of the reference's Components, walked. -/
namespace Go.Proofs.YtijjogpldoafjaaDoor
open Go.RowKit Go.Shelf Sx

/-- The least point from k on, as the reference looks for it. -/
def LeastO (E : Nat → Nat → Bool) (p k v : Nat) : Prop := (v = p ∧ ∀ q, k ≤ q → q < p → E p q = false) ∨ (k ≤ v ∧ v < p ∧ E p v = true ∧ ∀ q, k ≤ q → q < v → E p q = false)
theorem LeastO.start (E : Nat → Nat → Bool) (p : Nat) : LeastO E p p p := .inl ⟨rfl, fun q h1 h2 => by omega⟩
theorem LeastO.no {E : Nat → Nat → Bool} {p k v : Nat} (h : LeastO E p (k + 1) v) (hf : E p k = false) : LeastO E p k v := by
  rcases h with ⟨rfl, h⟩ | ⟨h1, h2, h3, h4⟩
  · refine .inl ⟨rfl, fun q hq hn => ?_⟩
    by_cases e : q = k
    · subst e; exact hf
    · exact h q (by omega) hn
  · refine .inr ⟨by omega, h2, h3, fun q hq hp => ?_⟩
    by_cases e : q = k
    · subst e; exact hf
    · exact h4 q (by omega) hp
theorem LeastO.yes {E : Nat → Nat → Bool} {p k : Nat} (hk : k < p) (hf : E p k = true) : LeastO E p k k := .inr ⟨Nat.le_refl _, hk, hf, fun q h1 h2 => by omega⟩
theorem LeastO.done {E : Nat → Nat → Bool} {p v : Nat} (h : LeastO E p 0 v) : v = leastE E p := by
  rcases leastE_cases E p with ⟨e, h1⟩ | ⟨e, h2, h3⟩
  · rcases h with ⟨rfl, _⟩ | ⟨_, k2, k3, _⟩
    · exact e.symm
    · rw [h1 v k2] at k3; cases k3
  · rcases h with ⟨rfl, k1⟩ | ⟨_, k2, k3, k4⟩
    · rw [k1 _ (Nat.zero_le _) e] at h2; cases h2
    · rcases Nat.lt_trichotomy v (leastE E p) with g | g | g
      · rw [h3 v g] at k3; cases k3
      · exact g
      · rw [k4 _ (Nat.zero_le _) g] at h2; cases h2
theorem upTo_getD {n k : Nat} {f : Nat → Int} {i : Nat} (hi : i < n) : (upTo n k f).getD i 0 = if i < k then f i else 0 := by
  unfold upTo
  simp [List.getD_eq_getElem?_getD, hi]
theorem upTo_val {n k : Nat} {f : Nat → Int} (hk : k < n) (x : Int) (hx : x = f k) : (upTo n k f).set k x = upTo n (k + 1) f := by
  rw [hx]
  exact upTo_set f hk
theorem set_set' (l : List Int) (i : Nat) (x y : Int) : (l.set i x).set i y = l.set i y := by simp
theorem offs_toI (E : Nat → Nat → Bool) (n : Nat) : toI (offs E n) = (List.range n).map (fun p => ((leastE E p : Nat) : Int)) := by simp [toI, offs]
/-- The points of a list, as far as they are looked at. -/
def ofU (O : List Nat) (u k : Nat) : List Nat := (List.range k).filter (fun p => O.getD p 0 == u)
theorem ofU_yes {O : List Nat} {u k : Nat} (h : O.getD k 0 = u) : ofU O u (k + 1) = ofU O u k ++ [k] := by
  unfold ofU
  rw [List.range_succ, List.filter_append, List.filter_cons_of_pos (by show (O.getD k 0 == u) = true; rw [h]; exact beq_self_eq_true _)]
  rfl
theorem ofU_no {O : List Nat} {u k : Nat} (h : ¬ O.getD k 0 = u) : ofU O u (k + 1) = ofU O u k := by
  unfold ofU
  rw [List.range_succ, List.filter_append, List.filter_cons_of_neg (by show ¬ (O.getD k 0 == u) = true; rw [beq_iff_eq]; exact h)]
  exact List.append_nil _
theorem ofU_len (O : List Nat) (u k : Nat) : (ofU O u k).length ≤ k := by
  unfold ofU
  have := List.length_filter_le (fun p => O.getD p 0 == u) (List.range k)
  rw [List.length_range] at this
  exact this
theorem ofU_cl (E : Nat → Nat → Bool) (n u : Nat) : ofU (offs E n) u n = clK E n u := by
  unfold ofU clK
  apply List.filter_congr
  intro p hp
  rw [offs_at (List.mem_range.1 hp)]
theorem encN_toI (l : List Nat) (x : Nat) : encJ (toI l) ++ [.int .i64 ((x : Nat) : Int)] = encJ (toI (l ++ [x])) := by simp [encJ, toI]
set_option maxRecDepth 100000 in
set_option maxHeartbeats 16000000 in
theorem r2comp_calls (lo n : Nat) (hn : n ≤ 256) (x : Option Addr) (y z : Nat) (rb : Nat → Nat) (F : Nat → Nat → Bool) (L : List Nat) (w : World) (h : RefM lo w (.slice x y z) n n rb F) (hL : n = L.length) (hT : TwO L.length F L) (hlow : ∀ R ∈ L, R < 2 ^ L.length) :
    Calls Tryd.prog 28 #[.agg #[.int .i64 ((n : Nat) : Int), .slice x y z]] w fun e w' => ∃ v vs, e = .returned v ∧ ClR w' w.heap.size v vs ((compsL L).map toI) ∧ Below w.heap.size w w' := by
  obtain ⟨i0, hi, hz0, hz1, hz2⟩ := info_parts Tryd.infoint
  obtain ⟨i1, hj, hy0, hy1, hy2⟩ := info_parts Tryd.infoints
  have hmi := fun W => make_ints n (by omega) W
  have hmb := fun W => make_bools n (by omega) W
  have hw := wf_of_low hlow
  have hTw : Twin L.length F L := ⟨hw, fun p q hp hq => by rw [hT.same p q hp hq]; rfl⟩
  have HCE : Hid (∀ p q, p < n → q < n → plusFn F n p q = cloB L p q) := fun p q hp hq => by
    have := (twin_plus hTw).same p q (by omega) (by omega)
    rw [← hL] at this
    rw [Bool.eq_iff_iff, this]
    rfl
  have hClo := clo_plus hT hw
  have HEv := hid_of hClo.eqv
  have HUn := hid_of (units_cls hClo.eqv)
  have HT := hid_of hT
  have HLW := hid_of hlow
  have HLn := hid_of hL
  have hA1 := h.alloc (.cells #[.int .i64 ((n : Nat) : Int), .slice x y z] 46)
  have hpl := refPlus_calls lo n hn x y z rb F (w.alloc (.cells #[.int .i64 ((n : Nat) : Int), .slice x y z] 46)) hA1
  have hb0 := Blk.new w 46 #[.int .i64 ((n : Nat) : Int), .slice x y z]
  have b0 : (w.alloc (.cells #[.int .i64 ((n : Nat) : Int), .slice x y z] 46)).cell? ⟨w.heap.size, 0, none⟩ = some (.int .i64 ((n : Nat) : Int)) := hb0.cell rfl
  have b1 : (w.alloc (.cells #[.int .i64 ((n : Nat) : Int), .slice x y z] 46)).cell? ⟨w.heap.size, 1, none⟩ = some (.slice x y z) := hb0.cell rfl
  have HPL := hid_of hpl
  have HB0 := hid_of hb0
  clear hT hlow hL hTw hw hClo hpl hb0 hA1
  go_enter Tryd.func28, Tryd.ntmps28
  go_wp2_with fail
  refine HPL.out.mono ?_
  rintro e w1 ⟨M1, rb1, rfl, hM1, hB1⟩
  obtain ⟨x1, y1, z1, rfl⟩ := hM1.slice
  have hsz1 : w.heap.size < w1.heap.size := by have := hB1.size; simp at this; omega
  have hM1' : RefM (w.heap.size + 1) w1 (.slice x1 y1 z1) n n rb1 (plusFn F n) := by rw [World.size_alloc] at hM1; exact hM1
  have hBw1 : Below w.heap.size w w1 := ((Below.refl _ w).alloc (Nat.le_refl _) _).trans (hB1.mono (by simp))
  have hP0 : P1 w ((w1.alloc (.cells #[.int .i64 ((n : Nat) : Int), .slice x1 y1 z1] 46)).alloc (.cells (intsA (List.replicate n 0)) 3)) n (.slice x y z) w1.heap.size (.slice x1 y1 z1) rb1 (plusFn F n) (List.replicate n 0) := by
    refine ⟨(hBw1.alloc (by omega) _).alloc (by simp; omega) _, ((HB0.out.of_below hB1).alloc _).alloc _, (Blk.new w1 _ _).alloc _, (hM1'.alloc _).alloc _, ?_, hsz1, fun p hp => (hM1'.row p hp).2.lt, fun g hg => (hM1'.own.lt g hg).2⟩
    have := Blk.new (w1.alloc (.cells #[.int .i64 ((n : Nat) : Int), .slice x1 y1 z1] 46)) 3 (intsA (List.replicate n 0))
    rw [World.size_alloc] at this
    exact this
  have HP0 := hid_of hP0
  have b0 : (w1.alloc (.cells #[.int .i64 ((n : Nat) : Int), .slice x1 y1 z1] 46)).cell? ⟨w.heap.size, 0, none⟩ = some (.int .i64 ((n : Nat) : Int)) := ((HB0.out.of_below hB1).alloc _).cell rfl
  clear hP0 hM1 hM1' hB1 hBw1 HB0 HPL b1
  go_wp2_with fail
  generalize ((w1.alloc (.cells #[.int .i64 ((n : Nat) : Int), .slice x1 y1 z1] 46)).alloc (.cells (intsA (List.replicate n 0)) 3)) = wA at *
  generalize w1.heap.size = cb at *
  clear b0
  go_loopg [5] n (fun f i wr => ∃ k : Nat, i = .int .i64 ((k : Nat) : Int) ∧ k ≤ n ∧ Hid (k + f = n) ∧ Hid (P1 w wr n (.slice x y z) cb (.slice x1 y1 z1) rb1 (plusFn F n) (upTo n k (fun q => ((leastE (bothE (cloB L)) q : Nat) : Int)))))
  case atStart => exact ⟨0, rfl, Nat.zero_le _, Nat.zero_add _, by rw [upTo_zero]; exact HP0.out⟩
  case round =>
    clear HP0
    obtain ⟨k, rfl, hk, HKF, HA⟩ := hrel
    have b0 : wr.cell? ⟨w.heap.size, 0, none⟩ = some (.int .i64 ((n : Nat) : Int)) := HA.out.box.cell rfl
    by_cases hlt : k < n
    · obtain ⟨v1, c1⟩ := cell_upTo HA.out.of_ hlt
      have f1 := HA.out.of_.frozen k
      have k0 : (0 : Int) ≤ ((k : Nat) : Int) := by omega
      have k1 : ((k : Nat) : Int) < ((n : Nat) : Int) := by omega
      have HA2 := hid_of (HA.out.setO k ((k : Nat) : Int))
      go_wp2_with fail
      clear HA c1 f1 b0
      generalize (wr.setCell ⟨cb + 1, k, none⟩ (.int .i64 ((k : Nat) : Int))) = wB at *
      go_loopg [6] k (fun f i wr => ∃ (q v : Nat), i = .int .i64 (((q : Nat) : Int) - 1) ∧ q ≤ k ∧ v < n ∧ Hid (q = f) ∧ Hid (LeastO (bothE (cloB L)) k q v) ∧ Hid (P1 w wr n (.slice x y z) cb (.slice x1 y1 z1) rb1 (plusFn F n) ((upTo n k (fun q => ((leastE (bothE (cloB L)) q : Nat) : Int))).set k ((v : Nat) : Int))))
      case atStart => exact ⟨k, k, rfl, Nat.le_refl _, hlt, rfl, LeastO.start _ _, HA2.out⟩
      case round =>
        clear HA2
        obtain ⟨q, v, rfl, hq, hv, HQF, HLO, HA⟩ := hrel
        by_cases hq0 : 0 < q
        · obtain ⟨q', rfl⟩ : ∃ q', q = q' + 1 := ⟨q - 1, by omega⟩
          have eq1 : (((q' + 1 : Nat) : Int)) - 1 = ((q' : Nat) : Int) := by omega
          rw [eq1]
          have g0 : (0 : Int) ≤ ((q' : Nat) : Int) := by omega
          have g1 : ((q' : Nat) : Int) < ((n : Nat) : Int) := by omega
          have cb1 : wr.cell? ⟨cb, 1, none⟩ = some (.slice x1 y1 z1) := HA.out.cbox.cell rfl
          obtain ⟨g, cap', e, _, _, _, m4, m5, _, _⟩ := HA.out.cm.at_ hlt (show q' < n by omega)
          obtain ⟨g2, cap2, e2, _, _, _, t4, t5, _, _⟩ := HA.out.cm.at_ (show q' < n by omega) hlt
          obtain ⟨hx1, hx2, hx3⟩ : some ⟨g, 0, none⟩ = x1 ∧ n = y1 ∧ cap' = z1 := by cases e; exact ⟨rfl, rfl, rfl⟩
          subst hx1 hx2 hx3
          obtain ⟨hx1, hx3⟩ : g2 = g ∧ cap2 = cap' := by cases e2; exact ⟨rfl, rfl⟩
          subst hx1 hx3
          clear e e2
          rw [HCE.out k q' hlt (by omega)] at m5
          rw [HCE.out q' k (by omega) hlt] at t5
          cases hC1 : cloB L k q'
          · rw [hC1] at m5
            have HL2 := hid_of (HLO.out.no (by unfold bothE; rw [hC1]; rfl))
            clear hC1 t4 t5
            go_wp2_with fail
            go_roundg q'
            case measure => have := HQF.out; omega
            case rel => exact ⟨q', v, by go_num, by omega, hv, rfl, HL2.out, HA.out⟩
          · rw [hC1] at m5
            cases hC2 : cloB L q' k
            · rw [hC2] at t5
              have HL2 := hid_of (HLO.out.no (by unfold bothE; rw [hC1, hC2]; rfl))
              clear hC1 hC2
              go_wp2_with fail
              go_roundg q'
              case measure => have := HQF.out; omega
              case rel => exact ⟨q', v, by go_num, by omega, hv, rfl, HL2.out, HA.out⟩
            · rw [hC2] at t5
              have HL2 := hid_of (LeastO.yes (E := bothE (cloB L)) (p := k) (k := q') (by omega) (by unfold bothE; rw [hC1, hC2]; rfl))
              have o1 := cellI_getD HA.out.of_ (i := k) (by rw [List.length_set, upTo_length]; exact hlt)
              have of1 := HA.out.of_.frozen k
              have hA2 := HA.out.setO k ((q' : Nat) : Int)
              rw [set_set'] at hA2
              generalize ((upTo n k (fun q => ((leastE (bothE (cloB L)) q : Nat) : Int))).set k ((v : Nat) : Int)).getD k 0 = ov at *
              clear hC1 hC2
              go_wp2_with fail
              go_roundg q'
              case measure => have := HQF.out; omega
              case rel => exact ⟨q', q', by go_num, by omega, by omega, rfl, HL2.out, hA2⟩
        · obtain rfl : q = 0 := by omega
          have hm1 : ¬ (0 : Int) ≤ ((0 : Nat) : Int) - 1 := by omega
          have HE := hid_of HLO.out.done
          have hA3 := HA.out
          rw [upTo_val hlt _ (by rw [HE.out])] at hA3
          go_wp2_with fail
          go_roundg (n - (k + 1))
          case measure => have := HKF.out; omega
          case rel => exact ⟨k + 1, by go_num, by omega, by have := HKF.out; rw [Hid]; omega, hA3⟩
    · obtain rfl : k = n := by omega
      have hA1 := HA.out
      rw [upTo_all, ← offs_toI] at hA1
      have hrn := refNew_calls ((k : Nat) : Int) wr
      have hck : clampN ((k : Nat) : Int) = k := by unfold clampN; omega
      rw [hck] at hrn
      have HRN := hid_of hrn
      clear hrn hck HA
      go_wp2_with fail
      refine HRN.out.mono ?_
      rintro e w2 ⟨M2, rb2, rfl, hM2, hB2⟩
      obtain ⟨x2, y2, z2, rfl⟩ := hM2.slice
      have hoL : (offs (bothE (cloB L)) k).length = k := by simp [offs]
      have HOL := hid_of hoL
      have hbA := (Below.refl w2.heap.size w2).alloc (Nat.le_refl _) (.cells #[.int .i64 ((k : Nat) : Int), .slice x2 y2 z2] 46)
      have hub : cb + 1 < wr.heap.size := hA1.of_.lt
      have hb2s := hB2.size
      have hlo1 := hA1.lo
      have hG3 : P3 w (w2.alloc (.cells #[.int .i64 ((k : Nat) : Int), .slice x2 y2 z2] 46)) k (.slice x y z) (cb + 1) (offs (bothE (cloB L)) k) w2.heap.size wr.heap.size (.slice x2 y2 z2) rb2 (fun _ _ => false) :=
        ⟨(below_step hA1.below hA1.below.size hB2).alloc (Nat.le_trans hA1.below.size hb2s) _, (hA1.box.of_below hB2).alloc _, (hA1.of_.of_below hB2).alloc _, by omega, hM2.below hbA, Blk.new w2 _ _, by omega, fun q hq => (hM2.row q hq).2.lt, fun g hg => (hM2.own.lt g hg).2⟩
      have HG3 := hid_of hG3
      clear HRN hM2 hbA hG3 hA1 hB2 hoL
      generalize hO : offs (bothE (cloB L)) k = O at *
      have HO := hid_of hO
      clear hO
      go_wp2_with fail
      generalize (w2.alloc (.cells #[.int .i64 ((k : Nat) : Int), .slice x2 y2 z2] 46)) = wB at *
      generalize w2.heap.size = sb at *
      generalize wr.heap.size = lo2 at *
      clear b0
      go_loopg [8] k (fun f i wq => ∃ (pp : Nat) (S : Nat → Nat → Bool), i = .int .i64 ((pp : Nat) : Int) ∧ pp ≤ k ∧ Hid (pp + f = k) ∧ Hid (P3 w wq k (.slice x y z) (cb + 1) O sb lo2 (.slice x2 y2 z2) rb2 S) ∧ Hid (SmK k (acrF F O) O (List.replicate k (-1)) pp 0 S))
      case atStart => exact ⟨0, _, rfl, Nat.zero_le _, Nat.zero_add _, HG3.out, SmK.start _ _ _ _⟩
      case round =>
        clear HG3
        obtain ⟨pp, S, rfl, hpp, HPF, HA, HS⟩ := hrel
        have b0 : wr.cell? ⟨w.heap.size, 0, none⟩ = some (.int .i64 ((k : Nat) : Int)) := HA.out.box.cell rfl
        by_cases hlt : pp < k
        · have P0 : (0 : Int) ≤ ((pp : Nat) : Int) := by omega
          have P1' : ((pp : Nat) : Int) < ((k : Nat) : Int) := by omega
          go_wp2_with fail
          clear b0
          go_loopg [9] k (fun f i wq => ∃ (q : Nat) (S : Nat → Nat → Bool), i = .int .i64 ((q : Nat) : Int) ∧ q ≤ k ∧ Hid (q + f = k) ∧ Hid (P3 w wq k (.slice x y z) (cb + 1) O sb lo2 (.slice x2 y2 z2) rb2 S) ∧ Hid (SmK k (acrF F O) O (List.replicate k (-1)) pp q S))
          case atStart => exact ⟨0, S, rfl, Nat.zero_le _, Nat.zero_add _, HA.out, HS.out⟩
          case round =>
            clear HA HS
            obtain ⟨q, S, rfl, hqk, HQF, HA, HS⟩ := hrel
            have b0 : wr.cell? ⟨w.heap.size, 0, none⟩ = some (.int .i64 ((k : Nat) : Int)) := HA.out.box.cell rfl
            have b1 : wr.cell? ⟨w.heap.size, 1, none⟩ = some (.slice x y z) := HA.out.box.cell rfl
            by_cases hql : q < k
            · have Q0 : (0 : Int) ≤ ((q : Nat) : Int) := by omega
              have Q1 : ((q : Nat) : Int) < ((k : Nat) : Int) := by omega
              obtain ⟨g, cap', e, _, _, _, m4, m5, _, _⟩ := (h.below HA.out.below).at_ hlt hql
              obtain ⟨hx1, hx2, hx3⟩ : some ⟨g, 0, none⟩ = x ∧ k = y ∧ cap' = z := by cases e; exact ⟨rfl, rfl, rfl⟩
              subst hx1 hx2 hx3
              clear e
              have o1 := cellI_getD HA.out.of_ (i := pp) (by rw [toI_length, HOL.out]; exact hlt)
              have o2 := cellI_getD HA.out.of_ (i := q) (by rw [toI_length, HOL.out]; exact hql)
              rw [toI_getD] at o1 o2
              cases hF : F pp q
              · rw [hF] at m5
                have HS2 := hid_of (HS.out.no (fun hc => by have := hc.1; unfold acrF at this; rw [hF] at this; cases this))
                clear hF o1 o2
                go_wp2_with fail
                go_quiet (fail)
                go_wp2_with fail
                go_roundg (k - (q + 1))
                case measure => have := HQF.out; omega
                case rel => exact ⟨q + 1, S, by go_num, by omega, by have := HQF.out; rw [Hid]; omega, HA.out.step (below_drewN (Below.refl _ _) _), HS2.out⟩
              · rw [hF] at m5
                by_cases hOO : O.getD pp 0 = O.getD q 0
                · have HS2 := hid_of (HS.out.no (fun hc => by have := hc.1; unfold acrF at this; rw [hF, hOO] at this; simp at this))
                  rw [hOO] at o1
                  generalize O.getD q 0 = ov at *
                  have q1 : (((ov : Nat) : Int) != ((ov : Nat) : Int)) = false := by simp
                  clear hF hOO
                  go_wp2_with fail
                  go_quiet (fail)
                  go_wp2_with fail
                  go_roundg (k - (q + 1))
                  case measure => have := HQF.out; omega
                  case rel => exact ⟨q + 1, S, by go_num, by omega, by have := HQF.out; rw [Hid]; omega, HA.out.step (below_drewN (Below.refl _ _) _), HS2.out⟩
                · have hX : (List.replicate k (-1 : Int)).getD pp 0 ≠ ((q : Nat) : Int) := by
                    rw [List.getD_eq_getElem?_getD, List.getElem?_replicate, if_pos hlt]
                    simp
                  have HS2 := hid_of (HS.out.yes hlt hql (by unfold acrF; rw [hF, Bool.true_and, bne_iff_ne]; exact hOO) hX)
                  have hu : O.getD pp 0 < k := by
                    rw [← HO.out, offs_at hlt]
                    have := leastE_le (bothE (cloB L)) pp
                    omega
                  have hv2 : O.getD q 0 < k := by
                    rw [← HO.out, offs_at hql]
                    have := leastE_le (bothE (cloB L)) q
                    omega
                  obtain ⟨g2, cap2, e2, t1, t2, t3, t4, t5, t6, t7⟩ := HA.out.sm.at_ hu hv2
                  obtain ⟨hx1, hx2, hx3⟩ : some ⟨g2, 0, none⟩ = x2 ∧ k = y2 ∧ cap2 = z2 := by cases e2; exact ⟨rfl, rfl, rfl⟩
                  subst hx1 hx2 hx3
                  clear e2
                  have s1 : wr.cell? ⟨sb, 1, none⟩ = some (.slice (some ⟨g2, 0, none⟩) k cap2) := HA.out.sbx.cell rfl
                  have hA2 := HA.out.put hu hv2
                  have hr1 := (HA.out.sm.row _ hu).1
                  have hr2 := HA.out.rlt _ hu
                  have hr3 := HA.out.lo
                  have q1 : (((O.getD pp 0 : Nat) : Int) != ((O.getD q 0 : Nat) : Int)) = true := by simp only [bne_iff_ne, ne_eq]; omega
                  generalize O.getD pp 0 = u at *
                  generalize O.getD q 0 = vv at *
                  have U0 : (0 : Int) ≤ ((u : Nat) : Int) := by omega
                  have U1 : ((u : Nat) : Int) < ((k : Nat) : Int) := by omega
                  have V0 : (0 : Int) ≤ ((vv : Nat) : Int) := by omega
                  have V1 : ((vv : Nat) : Int) < ((k : Nat) : Int) := by omega
                  clear hF hX HS hOO
                  go_wp2_with fail
                  go_quiet (fail)
                  go_wp2_with fail
                  have s1' : (wr.drewN nq).cell? ⟨sb, 1, none⟩ = some (.slice (some ⟨g2, 0, none⟩) k cap2) := s1
                  have o1' : (wr.drewN nq).cell? ⟨cb + 1, pp, none⟩ = some (.int .i64 ((u : Nat) : Int)) := o1
                  have o2' : (wr.drewN nq).cell? ⟨cb + 1, q, none⟩ = some (.int .i64 ((vv : Nat) : Int)) := o2
                  have t4' : (wr.drewN nq).cell? ⟨g2, u, none⟩ = some (hdr k (rb2 u)) := t4
                  have t5' : (wr.drewN nq).cell? ⟨rb2 u, vv, none⟩ = some (.bool (S u vv)) := t5
                  have t6' : (wr.drewN nq).frozen? ⟨rb2 u, vv, none⟩ = false := t6
                  have hAq := HA.out.step (below_drewN (Below.refl wr.heap.size wr) nq)
                  clear s1 o1 o2 t4 t5 t6 hA2 b0 b1 m4 m5 HA t7
                  generalize wr.drewN nq = wD at *
                  have y1 : ((wD.setCell ⟨rb2 u, vv, none⟩ (.bool true)).drew).cell? ⟨sb, 1, none⟩ = some (.slice (some ⟨g2, 0, none⟩) k cap2) := (World.cell?_setCell_far wD ⟨rb2 u, vv, none⟩ ⟨sb, 1, none⟩ _ (by show rb2 u ≠ sb; omega)).trans s1'
                  have y2 : ((wD.setCell ⟨rb2 u, vv, none⟩ (.bool true)).drew).cell? ⟨cb + 1, pp, none⟩ = some (.int .i64 ((u : Nat) : Int)) := (World.cell?_setCell_far wD ⟨rb2 u, vv, none⟩ ⟨cb + 1, pp, none⟩ _ (by show rb2 u ≠ cb + 1; omega)).trans o1'
                  have y3 : ((wD.setCell ⟨rb2 u, vv, none⟩ (.bool true)).drew).cell? ⟨cb + 1, q, none⟩ = some (.int .i64 ((vv : Nat) : Int)) := (World.cell?_setCell_far wD ⟨rb2 u, vv, none⟩ ⟨cb + 1, q, none⟩ _ (by show rb2 u ≠ cb + 1; omega)).trans o2'
                  have y4 : ((wD.setCell ⟨rb2 u, vv, none⟩ (.bool true)).drew).cell? ⟨g2, u, none⟩ = some (hdr k (rb2 u)) := (World.cell?_setCell_far wD ⟨rb2 u, vv, none⟩ ⟨g2, u, none⟩ _ t3).trans t4'
                  have HY := hid_of (And.intro y1 (And.intro y2 (And.intro y3 y4)))
                  have HA3 := hid_of ((hAq.put hu hv2).step (Below.refl _ _).drew)
                  clear y1 y2 y3 y4 hAq
                  go_region_held3 (fun w' => w'.cell? ⟨sb, 1, none⟩ = some (.slice (some ⟨g2, 0, none⟩) k cap2) ∧ w'.cell? ⟨cb + 1, pp, none⟩ = some (.int .i64 ((u : Nat) : Int)) ∧ w'.cell? ⟨cb + 1, q, none⟩ = some (.int .i64 ((vv : Nat) : Int)) ∧ w'.cell? ⟨g2, u, none⟩ = some (hdr k (rb2 u))) (first | assumption | exact ⟨s1', o1', o2', t4'⟩ | exact HY.out) (fail)
                  rename_i hHeld
                  clear hHeld
                  go_wp2_with fail
                  go_roundg (k - (q + 1))
                  case measure => have := HQF.out; omega
                  case rel => exact ⟨q + 1, _, by go_num, by omega, by have := HQF.out; rw [Hid]; omega, HA3.out, HS2.out⟩
            · obtain rfl : q = k := by omega
              have HS2 := hid_of HS.out.row
              go_wp2_with fail
              go_roundg (q - (pp + 1))
              case measure => have := HPF.out; omega
              case rel => exact ⟨pp + 1, S, by go_num, by omega, by have := HPF.out; rw [Hid]; omega, HA.out, HS2.out⟩
        · obtain rfl : pp = k := by omega
          have hSm : RefM lo2 wr (.slice x2 y2 z2) pp pp rb2 (smV pp F O) := HA.out.sm.congr (fun u v _ _ => HS.out.done u v)
          have hG3 : P3 w wr pp (.slice x y z) (cb + 1) O sb lo2 (.slice x2 y2 z2) rb2 (smV pp F O) := ⟨HA.out.below, HA.out.box, HA.out.of_, HA.out.olo, hSm, HA.out.sbx, HA.out.lo, HA.out.rlt, HA.out.mlt⟩
          have hsbl : sb < wr.heap.size := HA.out.sbx.lt
          have hbA := (Below.refl wr.heap.size wr).alloc (Nat.le_refl _) (.cells (arrB (List.replicate pp false)) 4)
          have hG5 : P5 w (wr.alloc (.cells (arrB (List.replicate pp false)) 4)) pp (.slice x y z) (cb + 1) O sb lo2 (.slice x2 y2 z2) rb2 (smV pp F O) wr.heap.size (doneL pp []) (.slice none 0 0) [] [] := by
            refine ⟨hG3.step hbA, ?_, ClR.nil _ _, hsbl⟩
            rw [doneL_nil]
            exact Blk.new wr _ _
          have HG5 := hid_of hG5
          clear hG3 hSm hG5 HA HS hbA
          go_wp2_with fail
          generalize (wr.alloc (.cells (arrB (List.replicate pp false)) 4)) = wC at *
          generalize wr.heap.size = db at *
          clear b0
          go_loopg [11] (fsts pp O).length (fun f vl wq => ∃ (pts : List Nat) (vs : List Value), Hid (pts.length + f = (fsts pp O).length) ∧ Hid (SrtAt (betw L (clsK (bothE (cloB L)) L.length)) pts.length pts) ∧ Hid (P5 w wq pp (.slice x y z) (cb + 1) O sb lo2 (.slice x2 y2 z2) rb2 (smV pp F O) db (doneL pp (lastU (fsts pp O) pts)) vl vs ((pts.map (fun i => (clsK (bothE (cloB L)) L.length).getD i [])).map toI)))
          case atStart => exact ⟨[], [], Nat.zero_add _, SrtAt.begin _, HG5.out⟩
          case round =>
            clear HG5
            obtain ⟨pts, vs, HPF, HSR, HA⟩ := hrel
            have b0 : wr.cell? ⟨w.heap.size, 0, none⟩ = some (.int .i64 ((pp : Nat) : Int)) := HA.out.g.box.cell rfl
            obtain ⟨va, vcap, rfl⟩ := owns_len HA.out.cl.own
            have HVL : Hid (vs.length = pts.length) := by have := HA.out.cl.rows.len; rw [Hid]; simpa using this
            have HUO : Hid (Units L.length (clsK (bothE (cloB L)) L.length) O) := by
              have h1 := HUn.out
              have h2 := HO.out
              rw [HLn.out] at h2
              rw [h2] at h1
              exact h1
            have HBL : Hid ((betw L (clsK (bothE (cloB L)) L.length)).length = (fsts L.length O).length) := by rw [Hid, betw_length, HUO.out.len]
            have HPT : Hid (∀ i ∈ pts, i < (fsts L.length O).length) := fun i hi => by rw [← HBL.out]; exact HSR.out.lt i hi
            have hfl : (fsts pp O).length ≤ pp := by
              have := List.length_filter_le (fun p => O.getD p 0 == p) (List.range pp)
              rw [List.length_range] at this
              exact this
            obtain ⟨ls, HLS⟩ : ∃ ls, Hid (ls = lastU (fsts pp O) pts) := ⟨_, rfl⟩
            rw [← HLS.out] at HA
            go_wp2_with fail
            clear b0
            go_loopg [12, 13] pp (fun f nx i wq => ∃ (q : Nat) (nv : Int), nx = .int .i64 nv ∧ i = .int .i64 (((q : Nat) : Int) - 1) ∧ q ≤ pp ∧ Hid (q = f) ∧ Hid (LeastP (fun p => O.getD p 0 == p && freeF pp (smV pp F O) (doneL pp ls) p) pp q nv) ∧ Hid (P5 w wq pp (.slice x y z) (cb + 1) O sb lo2 (.slice x2 y2 z2) rb2 (smV pp F O) db (doneL pp ls) (.slice va vs.length vcap) vs ((pts.map (fun i => (clsK (bothE (cloB L)) L.length).getD i [])).map toI)))
            case atStart => exact ⟨pp, -1, rfl, rfl, Nat.le_refl _, rfl, LeastP.start _ _, HA.out⟩
            case round =>
              clear HA
              obtain ⟨q, nv, rfl, rfl, hq, HQF, HLP, HA⟩ := hrel
              by_cases hq0 : 0 < q
              · obtain ⟨q', rfl⟩ : ∃ q', q = q' + 1 := ⟨q - 1, by omega⟩
                have eq1 : (((q' + 1 : Nat) : Int)) - 1 = ((q' : Nat) : Int) := by omega
                rw [eq1]
                have g0 : (0 : Int) ≤ ((q' : Nat) : Int) := by omega
                have g1 : ((q' : Nat) : Int) < ((pp : Nat) : Int) := by omega
                have oc := cellI_getD HA.out.g.of_ (i := q') (by rw [toI_length, HOL.out]; omega)
                rw [toI_getD] at oc
                by_cases hO : O.getD q' 0 = q'
                · rw [hO] at oc
                  have o1 : (((q' : Nat) : Int) == ((q' : Nat) : Int)) = true := by simp
                  have s0 : wr.cell? ⟨sb, 0, none⟩ = some (.int .i64 ((pp : Nat) : Int)) := HA.out.g.sbx.cell rfl
                  have s1 : wr.cell? ⟨sb, 1, none⟩ = some (.slice x2 y2 z2) := HA.out.g.sbx.cell rfl
                  have hf := r2free_calls lo2 pp hn x2 y2 z2 rb2 (smV pp F O) (doneL pp ls) db q' wr HA.out.g.sm HA.out.don (doneL_length _ _) (by omega)
                  cases hfr : freeF pp (smV pp F O) (doneL pp ls) q'
                  · rw [hfr] at hf
                    have HL2 := hid_of (HLP.out.no (by rw [hfr, Bool.and_false]))
                    clear hfr hO
                    go_wp2_with fail
                    refine hf.mono ?_
                    rintro e w3 ⟨rfl, hB3⟩
                    have hA3 := HA.out.step hB3
                    clear hf oc s0 s1
                    go_wp2_with fail
                    go_roundg q'
                    case measure => have := HQF.out; omega
                    case rel => exact ⟨q', nv, rfl, by go_num, by omega, rfl, HL2.out, hA3⟩
                  · rw [hfr] at hf
                    have HL2 : Hid (LeastP (fun p => O.getD p 0 == p && freeF pp (smV pp F O) (doneL pp ls) p) pp q' ((q' : Nat) : Int)) := LeastP.yes (by omega) (by rw [hfr, hO, beq_self_eq_true]; rfl)
                    clear hfr hO
                    go_wp2_with fail
                    refine hf.mono ?_
                    rintro e w3 ⟨rfl, hB3⟩
                    have hA3 := HA.out.step hB3
                    clear hf oc s0 s1
                    go_wp2_with fail
                    go_roundg q'
                    case measure => have := HQF.out; omega
                    case rel => exact ⟨q', ((q' : Nat) : Int), rfl, by go_num, by omega, rfl, HL2.out, hA3⟩
                · have o1 : (((O.getD q' 0 : Nat) : Int) == ((q' : Nat) : Int)) = false := by rw [beq_eq_false_iff_ne]; omega
                  have HL2 := hid_of (HLP.out.no (by rw [show (O.getD q' 0 == q') = false by rw [beq_eq_false_iff_ne]; exact hO]; rfl))
                  generalize O.getD q' 0 = ov at *
                  clear hO
                  go_wp2_with fail
                  go_roundg q'
                  case measure => have := HQF.out; omega
                  case rel => exact ⟨q', nv, rfl, by go_num, by omega, rfl, HL2.out, HA.out⟩
              · obtain rfl : q = 0 := by omega
                have hm1 : ¬ (0 : Int) ≤ ((0 : Nat) : Int) - 1 := by omega
                have HLF : Hid ((nv = -1 ∧ fz (wAll (betw L (clsK (bothE (cloB L)) L.length)).length (pairsL (betw L (clsK (bothE (cloB L)) L.length))) pts) < 0) ∨ (∃ (j u : Nat), nv = (u : Int) ∧ (fsts L.length O)[j]? = some u ∧ fz (wAll (betw L (clsK (bothE (cloB L)) L.length)).length (pairsL (betw L (clsK (bothE (cloB L)) L.length))) pts) = (j : Int))) := by
                  have hpL := HLn.out
                  have hh := HLP.out
                  have h3 := HLS.out
                  rw [h3, hpL] at hh
                  exact HUO.out.least HT.out (by omega) HLW.out HPT.out hh
                have hlo1 := HA.out.g.olo
                have hlo2 := HA.out.g.lo
                have hlo3 := HA.out.lo
                by_cases hneg : nv < 0
                · have HEQ : Hid (compsL L = pts.map (fun i => (clsK (bothE (cloB L)) L.length).getD i [])) := by
                    rcases HLF.out with ⟨_, h2⟩ | ⟨j, u, h1, _⟩
                    · rw [Hid]
                      unfold compsL sbOf
                      rw [HSR.out.over h2]
                    · omega
                  clear HLF HLP
                  go_wp2_with fail
                  go_ret
                  refine ⟨_, rfl, ⟨vs, ?_⟩, HA.out.g.below⟩
                  rw [HEQ.out]
                  exact HA.out.cl.lo (by omega)
                · obtain ⟨j, u, HNU, HJ, HFZ⟩ : ∃ j u : Nat, Hid (nv = (u : Int)) ∧ Hid ((fsts L.length O)[j]? = some u) ∧ Hid (fz (wAll (betw L (clsK (bothE (cloB L)) L.length)).length (pairsL (betw L (clsK (bothE (cloB L)) L.length))) pts) = (j : Int)) := by
                    rcases HLF.out with ⟨h1, _⟩ | h1
                    · omega
                    · exact h1
                  obtain rfl := HNU.out
                  have hup : u < pp := by rw [HLn.out]; exact (fsts_mem.1 (List.mem_of_getElem? HJ.out)).1
                  have HJN := hid_of (fz_new HFZ.out)
                  have HSR2 : Hid (SrtAt (betw L (clsK (bothE (cloB L)) L.length)) (pts ++ [j]).length (pts ++ [j])) := by
                    have h1 := HJN.out
                    have h2 := sub_len (j :: pts) (List.range (betw L (clsK (bothE (cloB L)) L.length)).length) (List.nodup_cons.2 ⟨h1.2, HSR.out.nodup⟩) (fun i hi => by
                      rcases List.mem_cons.1 hi with rfl | hi
                      · exact List.mem_range.2 h1.1
                      · exact List.mem_range.2 (HSR.out.lt i hi))
                    rw [List.length_range, List.length_cons] at h2
                    have := HSR.out.next (by omega) HFZ.out
                    rw [List.length_append]
                    exact this
                  have HLA : Hid (lastU (fsts pp O) (pts ++ [j]) = ls ++ [u]) := by
                    rw [Hid, lastU_snoc, ← HLS.out, HLn.out]
                    congr 2
                    rw [List.getD_eq_getElem?_getD, HJ.out]
                    rfl
                  have HCU : Hid ((clsK (bothE (cloB L)) L.length).getD j [] = ofU O u pp) := by
                    have h1 := HO.out
                    have h2 := HJ.out
                    have hpL := HLn.out
                    rw [hpL] at h1
                    rw [Hid, hpL, ← h1, ofU_cl]
                    rw [← h1, offs_fsts] at h2
                    unfold clsK
                    rw [List.getD_eq_getElem?_getD, List.getElem?_map, h2]
                    rfl
                  have hptl : pts.length < pp := by
                    have h1 := HPF.out
                    have h2 := HSR2.out.le
                    rw [List.length_append, HBL.out, ← HLn.out] at h2
                    simp at h2
                    omega
                  have U0 : (0 : Int) ≤ ((u : Nat) : Int) := by omega
                  have U1 : ((u : Nat) : Int) < ((pp : Nat) : Int) := by omega
                  have d0 := arrB_cell HA.out.don (i := u) (by rw [doneL_length]; exact hup)
                  have f0 := HA.out.don.frozen u
                  have hA1 := HA.out.mark u
                  rw [doneL_set] at hA1
                  have hneg' : ¬ ((u : Nat) : Int) < 0 := by omega
                  generalize (doneL pp ls).getD u false = dv at *
                  have HA1 := hid_of hA1
                  clear HLP HLF HFZ HJ HSR HJN HNU hA1 HA HLS
                  go_wp2_with fail
                  generalize wr.setCell ⟨db, u, none⟩ (.bool true) = W1 at *
                  clear d0 f0
                  have hdl : db < W1.heap.size := HA1.out.don.lt
                  go_loopg [14, 15] pp (fun f lv i wq => ∃ k : Nat, i = .int .i64 ((k : Nat) : Int) ∧ k ≤ pp ∧ Hid (k + f = pp) ∧ Hid (wq.ownsRow W1.heap.size 3 1 lv (toI (ofU O u k)).length (encJ (toI (ofU O u k)))) ∧ Hid (Below W1.heap.size W1 wq))
                  case atStart => exact ⟨0, rfl, Nat.zero_le _, Nat.zero_add _, World.ownsRow_nil _ _ _ _, Below.refl _ _⟩
                  case round =>
                    obtain ⟨k, rfl, hk, HKF2, HLO, HBQ⟩ := hrel
                    have hA := HA1.out.step HBQ.out
                    have b0 : wr.cell? ⟨w.heap.size, 0, none⟩ = some (.int .i64 ((pp : Nat) : Int)) := hA.g.box.cell rfl
                    have hul := ofU_len O u k
                    have hWl := HBQ.out.size
                    obtain ⟨la, lcap, rfl⟩ := owns_len HLO.out
                    rw [toI_length] at HLO
                    by_cases hlt : k < pp
                    · have K0 : (0 : Int) ≤ ((k : Nat) : Int) := by omega
                      have K1 : ((k : Nat) : Int) < ((pp : Nat) : Int) := by omega
                      have oc := cellI_getD hA.g.of_ (i := k) (by rw [toI_length, HOL.out]; omega)
                      rw [toI_getD] at oc
                      by_cases hO : O.getD k 0 = u
                      · rw [hO] at oc
                        have q1 : (((u : Nat) : Int) == ((u : Nat) : Int)) = true := by simp
                        have HE := hid_of (ofU_yes hO)
                        clear hO hA
                        generalize ofU O u k = lu at *
                        rw [toI_length]
                        go_wp2_with (at_builtin; refine wpList_append_own_at _ rfl _ _ 29 rfl W1.heap.size 3 i0 (.int .i64 0) 1 8 Tryd.underlying29 hi hz0 hz1 hz2 rfl (by decide) (.slice la lu.length lcap) lu.length (encJ (toI lu)) rfl (HLO.out.alloc _) ⟨_, 0, none⟩ 1 1 [.int .i64 ((k : Nat) : Int)] rfl rfl (news_int wr k) (by simp [Value.oneCell']) (by unfold maxLen; omega) (by omega) (by simp; omega) ?_; intro v2 w5 hown' hgrow _ _)
                        have hb5 : Below W1.heap.size W1 w5 := (HBQ.out.alloc HBQ.out.size _).grown hgrow (by simp; omega) (fun q e => (HLO.out.lt q e).1)
                        go_roundg (pp - (k + 1))
                        case measure => have := HKF2.out; omega
                        case rel =>
                          refine ⟨k + 1, by go_num, by omega, by have := HKF2.out; rw [Hid]; omega, ?_, hb5⟩
                          rw [Hid, HE.out, ← encN_toI, toI_length, List.length_append]
                          exact hown'
                      · have q1 : (((O.getD k 0 : Nat) : Int) == ((u : Nat) : Int)) = false := by rw [beq_eq_false_iff_ne]; omega
                        have HE := hid_of (ofU_no hO)
                        generalize O.getD k 0 = ov at *
                        clear hO hA
                        rw [toI_length]
                        go_wp2_with fail
                        go_roundg (pp - (k + 1))
                        case measure => have := HKF2.out; omega
                        case rel =>
                          refine ⟨k + 1, by go_num, by omega, by have := HKF2.out; rw [Hid]; omega, ?_, HBQ.out⟩
                          rw [Hid, HE.out, toI_length]
                          exact HLO.out
                    · obtain rfl : k = pp := by omega
                      have HA5 := hid_of hA
                      have hvsl : vs.length < k := by have := HVL.out; omega
                      have hnw := cell_one_new wr (.slice la (ofU O u k).length lcap) 29
                      have HNW := hid_of hnw
                      clear hA hnw
                      rw [toI_length]
                      generalize hlu : ofU O u k = lu at *
                      have HLU := hid_of hlu
                      clear hlu
                      go_wp2_with (at_builtin; refine wpList_append_own_at _ rfl _ _ 25 rfl (db + 1) 29 i1 (.slice none 0 0) 1 24 Tryd.underlying25 hj hy0 hy1 hy2 rfl (by decide) (.slice va vs.length vcap) vs.length vs rfl (HA5.out.cl.own.alloc _) ⟨_, 0, none⟩ 1 1 [.slice la lu.length lcap] rfl rfl HNW.out (by simp [Value.oneCell']) (by unfold maxLen; omega) (by omega) (by simp; omega) ?_; intro v2 w5 hown' hgrow _ _)
                      have hA6 := HA5.out.more (l := toI lu) (N0 := W1.heap.size) (by omega) (fun i y g hy hg => (HA1.out.cl.rows.lt hy hg).2) (by rw [toI_length]; exact HLO.out) hown' hgrow
                      go_roundg ((fsts k O).length - (pts.length + 1))
                      case measure => have := HPF.out; have h2 := HSR2.out.le; rw [List.length_append, HBL.out, ← HLn.out] at h2; simp at h2; omega
                      case rel =>
                        refine ⟨pts ++ [j], vs ++ [.slice la lu.length lcap], ?_, HSR2.out, ?_⟩
                        · have := HPF.out; have h2 := HSR2.out.le; rw [List.length_append, HBL.out, ← HLn.out] at h2; simp at h2; rw [Hid, List.length_append]; simp; omega
                        · rw [Hid, HLA.out, List.map_append, List.map_append]
                          have e : ([j].map (fun i => (clsK (bothE (cloB L)) L.length).getD i [])).map toI = [toI lu] := by
                            show [toI ((clsK (bothE (cloB L)) L.length).getD j [])] = _
                            rw [HCU.out]
                          rw [e]
                          exact hA6
end Go.Proofs.YtijjogpldoafjaaDoor
