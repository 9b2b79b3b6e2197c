/- append onto an empty list of numbers that was just made. -/
import Derived.Test.YtmmgdeoballhpaaDoorJ19
import Derived.Test.YtmmgdeoballhpaaDoorJ20
import Derived.Test.YtmmgdeoballhpaaDoorJ18
import Derived.Deep.LoopGhost
import Derived.WalkMore
import Derived.Test.YtmmgdeoballhpaaDoorJ15
namespace Go.Proofs.YtmmgdeoballhpaaDoor
open Go.RowKit Go.Shelf Sx

theorem run_append_lit0 {P : Program} (w : World) (t ty e : TypeId) (i : TypeInfo) (ht : P.underlying t = some (.slice e)) (hi : P.info? e = some i) (g : Nat) (x : Option Addr) (cap : Nat) :
    (Builtin.append_ #[t, t] ty #[.slice (some ⟨g, 0, none⟩) 0 0, .slice x 0 cap]).run P w = .ok (.slice (some ⟨g, 0, none⟩) 0 0) w := by
  have hc : (Builtin.firstCells i.size 0 (.slice x 0 cap)).run P w = .ok #[] w := by
    cases x with
    | none => exact run_firstCells_none w i.size 0 0 cap
    | some a => exact run_firstCells_some w i.size 0 a 0 cap [] (by simp) (fun j u h => by simp at h)
  simp [Builtin.append_, run_underlying ht, sizeOf, typeInfo, hi, Builtin.lenOf, hc, storeCells]
theorem grown_same (w : World) (r : Option Nat) : w.grownBy w r := ⟨rfl, rfl, rfl, Nat.le_refl _, fun _ _ _ => rfl⟩
theorem owns_empty {W : World} {g base : Nat} (h : Blk W g 3 #[]) (hb : base ≤ g) : W.ownsRow base 3 1 (.slice (some ⟨g, 0, none⟩) 0 0) 0 [] :=
  ⟨rfl, .inr ⟨g, 0, #[], rfl, hb, h, Nat.le_refl _, by decide, rfl, rfl⟩⟩
theorem wpList_append_lit0 {w : World} {ops : Array Oper} {rest : List Oper} {o : Oper} {a : Act} {Q : Exit → Act → World → Prop} (hgd : o.guard = none) (s x : Operand)
    (ho : o.op = .call { callee := .builtin .append, args := #[s, x], argTypes := #[29, 29] }) (g base : Nat) (hg : Blk w g 3 #[]) (hb : base ≤ g) (hs : a.eval s = .slice (some ⟨g, 0, none⟩) 0 0) (v : Value) (hx : a.eval x = v) (l : List Int) (hP : IntsR w v l) (hl : l.length * 8 ≤ 140737488355328)
    (h : ∀ v' w', w'.ownsRow base 3 1 v' l.length (encJ l) → w.grownBy w' (some g) → wpList Tryd.prog ops Q rest (a.put o.dst v') w') : wpList Tryd.prog ops Q (o :: rest) a w := by
  obtain ⟨i0, hi, hz0, hz1, hz2⟩ := info_parts Tryd.infoint
  rcases hP with ⟨x0, cap, rfl, rfl⟩ | ⟨s0, o0, cap, rfl, _, h2⟩
  · refine wpList_plain hgd fun K hK => ?_
    have hrun := run_append_lit0 (P := Tryd.prog) w 29 o.type 3 i0 Tryd.underlying29 hi g x0 cap
    unfold Oper.wp
    simp [execOp, ho, resolve, invoke, builtin, hs, hx, hrun, Result.andThen]
    exact hK _ _ (h _ _ (owns_empty hg hb) (grown_same w _))
  · have hgl := hg.lt
    refine wpList_append_own w hgd s x 29 ho base 3 i0 (.int .i64 0) 1 8 Tryd.underlying29 hi hz0 hz1 hz2 rfl (by decide) (.slice (some ⟨g, 0, none⟩) 0 0) 0 [] hs (owns_empty hg hb) ⟨s0, o0, none⟩ l.length cap (encJ l) hx (by simp [encJ]) ?_ ?_ (by unfold maxLen; omega) (by omega) (by omega) ?_
    · intro j u hj
      rw [Addr.add_lit]
      simp only [encJ, List.getElem?_map, Option.map_eq_some_iff] at hj
      obtain ⟨y, hy, rfl⟩ := hj
      exact h2 j y hy
    · intro u hu
      obtain ⟨y, _, rfl⟩ := List.mem_map.1 hu
      rfl
    · intro v' w' hown hgr _
      rw [Nat.zero_add, List.nil_append] at hown
      exact h v' w' hown hgr
end Go.Proofs.YtmmgdeoballhpaaDoor
/- Package order's classes. -/
namespace Go.Proofs.YtmmgdeoballhpaaDoor
open Go.RowKit Go.Shelf Sx

/-- Both ways: what the program looks up. -/
theorem has_both {L : List Nat} (hw : WF L.length L) (hn : L.length ≤ 256) {p q : Nat} (hp : p < L.length) (hq : q < L.length) : hasP (interL (plusL L) (invL (plusL L))) ((p : Nat) : Int) ((q : Nat) : Int) = bothE (cloB L) p q := by
  have h1 := wf_plus hw
  have h2 := wf_inv hn h1
  have h3 := wf_inter h1 h2
  unfold hasP
  rw [h3.len, inR_nat hp, inR_nat hq, Bool.true_and, Bool.true_and, Int.toNat_natCast, Int.toNat_natCast, Bool.eq_iff_iff]
  unfold bothE
  rw [Bool.and_eq_true]
  have := hs_inter h1 h2 p q
  rw [hs_inv hn h1] at this
  exact this
theorem cls_head {E : Nat → Nat → Bool} {k i : Nat} {l : List Int} (h : ((clsK E k).map toI)[i]? = some l) : ∃ u, (fstK E k)[i]? = some u ∧ u < k ∧ l = toI (clK E k u) ∧ l[0]? = some ((u : Nat) : Int) := by
  unfold clsK at h
  rw [List.getElem?_map, List.getElem?_map] at h
  cases hu : (fstK E k)[i]? with
  | none => rw [hu] at h; cases h
  | some u =>
    rw [hu] at h
    simp at h
    obtain ⟨tl, e⟩ := clK_head (List.mem_of_getElem? hu)
    refine ⟨u, rfl, (fstK_mem.1 (List.mem_of_getElem? hu)).1, h.symm, ?_⟩
    rw [← h, e]
    rfl
theorem cls_len (E : Nat → Nat → Bool) (k : Nat) : (clsK E k).length ≤ k := by
  unfold clsK fstK
  rw [List.length_map]
  have := List.length_filter_le (fun p => leastE E p == p) (List.range k)
  rw [List.length_range] at this
  exact this
theorem cl_len (E : Nat → Nat → Bool) (k u : Nat) : (clK E k u).length ≤ k := by
  unfold clK
  have := List.length_filter_le (fun p => leastE E p == u) (List.range k)
  rw [List.length_range] at this
  exact this
set_option maxRecDepth 100000 in
set_option maxHeartbeats 8000000 in
theorem oClasses_calls (b c : Nat) (L : List Nat) (w : World) (h : IsRel w b c L) (hT : Tab w) (E : Nat → Nat → Bool) (HE : Hid (E = bothE (cloB L))) (HV : Hid (Eqv L.length E)) :
    Calls Tryd.prog 40 #[pv b] w fun e w' => ∃ v vs, e = .returned v ∧ ClR w' w.heap.size v vs ((clsK E L.length).map toI) ∧ Below w.heap.size w w' := by
  have hl := h.len
  obtain ⟨i0, hi, hz0, hz1, hz2⟩ := info_parts Tryd.infoint
  obtain ⟨i1, hJ, hy0, hy1, hy2⟩ := info_parts Tryd.infoints
  have HB : Hid (∀ p q : Nat, p < L.length → q < L.length → hasP (interL (plusL L) (invL (plusL L))) ((p : Nat) : Int) ((q : Nat) : Int) = E p q) := fun p q hp hq => by
    rw [HE.out]
    exact has_both (h.wf rfl) hl hp hq
  clear HE
  go_enter Tryd.func40, Tryd.ntmps40
  go_wp2_with fail
  go_step3
  go_wp2_with fail
  refine (Plus_calls b c L _ h).mono ?_
  rintro e w1 ⟨b1, c1, rfl, hM1⟩
  go_wp2_with fail
  refine (Inverse_calls b1 c1 (plusL L) _ hM1.rel (hT.step hM1.below)).mono ?_
  rintro e w2 ⟨b2, c2, rfl, hM2⟩
  have hM12 := hM1.step hM2.below
  go_wp2_with fail
  refine (Inter_calls b1 c1 b2 c2 (plusL L) (invL (plusL L)) _ hM12.rel hM2.rel).mono ?_
  rintro e w3 ⟨b3, c3, rfl, hM3⟩
  have hB3 : Below w.heap.size w w3 := below_step hM12.below hM12.below.size hM3.below
  have hR3 := h.below hB3
  have hI3 := hM3.rel
  clear hM1 hM2 hM12 hM3
  generalize interL (plusL L) (invL (plusL L)) = M at *
  go_wp2_with fail
  go_step3
  go_wp2_with fail
  refine (Len_calls b c L _ hR3).mono ?_
  rintro e w' ⟨rfl, hw'⟩
  obtain rfl : w3 = w' := hw'.symm
  clear hR3
  go_wp2_with fail
  have hb3 := hI3.head.lt
  have hc3 := hI3.rows.lt
  go_loopg [5, 17] L.length (fun f v5 i wr => ∃ (k : Nat) (vs : List Value), Hid (k + f = L.length) ∧ k ≤ L.length ∧ i = .int .i64 k ∧ Hid (ClR wr w3.heap.size v5 vs ((clsK E k).map toI)) ∧ Below w3.heap.size w3 wr)
  case atStart => exact ⟨0, [], Nat.zero_add _, by omega, rfl, ClR.nil _ _, Below.refl _ _⟩
  case round =>
    obtain ⟨k, vs, HKF, hk, rfl, HC, hBl⟩ := hrel
    obtain ⟨a5, cap5, rfl⟩ := owns_len HC.out.own
    have HVL : Hid (vs.length = (clsK E k).length) := by have := HC.out.rows.len; rw [Hid]; simpa using this
    have hvk : vs.length ≤ k := by have := cls_len E k; have := HVL.out; omega
    by_cases hlt : k < L.length
    · go_wp2_with fail
      go_loopg [22] vs.length (fun f i wr2 => ∃ j : Nat, Hid (j + f = vs.length) ∧ j ≤ vs.length ∧ i = .int .i64 j ∧ Hid (ClR wr2 w3.heap.size (.slice a5 vs.length cap5) vs ((clsK E k).map toI)) ∧ Below w3.heap.size w3 wr2 ∧ Hid (∀ (j' u : Nat), j' < j → (fstK E k)[j']? = some u → E u k = false))
      case atStart => exact ⟨0, Nat.zero_add _, by omega, rfl, HC.out, hBl, fun j' u hj' => by omega⟩
      case round =>
        clear HC hBl
        obtain ⟨j, HJF, hj, rfl, HC, hBl, HN⟩ := hrel
        by_cases hjl : j < vs.length
        · obtain ⟨x, hx⟩ : ∃ x, vs[j]? = some x := ⟨_, List.getElem?_eq_getElem hjl⟩
          obtain ⟨l, hl2, ho⟩ := HC.out.rows.at_ hx
          obtain ⟨u, hu1, hu2, hu3, hu4⟩ := cls_head hl2
          obtain ⟨s, capo, e1, hs1, hs2⟩ := owns_cells HC.out.own rfl (by omega)
          injection e1 with e1 _ e3
          subst e1
          subst e3
          have c0 := hs2 j x hx
          obtain ⟨sx, ox, capx, rfl, hsx, hcx⟩ := (owns_intsR ho).some (by have := (List.getElem?_eq_some_iff.1 hu4).1; omega)
          have c1 : wr.cell? ⟨sx, ox, none⟩ = some (.int .i64 ((u : Nat) : Int)) := hcx 0 _ hu4
          have hh := Has_calls b3 c3 M ((u : Nat) : Int) ((k : Nat) : Int) wr (hI3.below' hBl hb3 hc3)
          rw [HB.out u k (by omega) hlt] at hh
          have HX := hid_of hx
          have HL2 := hid_of hl2
          have HU1 := hid_of hu1
          have HU3 := hid_of hu3
          have HO := hid_of ho
          have hll : l.length ≤ k := by rw [hu3, toI_length]; exact cl_len E k u
          have j0 : (0 : Int) ≤ ((j : Nat) : Int) := by omega
          have j1 : ((j : Nat) : Int) < ((vs.length : Nat) : Int) := by omega
          have l0 : (0 : Int) < ((l.length : Nat) : Int) := by have := (List.getElem?_eq_some_iff.1 hu4).1; omega
          clear hx hl2 hu1 hu3 ho hu4 hcx hs2
          cases hE : E u k
          · rw [hE] at hh
            have HN2 : Hid (∀ (j' u : Nat), j' < j + 1 → (fstK E k)[j']? = some u → E u k = false) := fun j' u' hj' hu' => by
              by_cases e : j' = j
              · subst e
                rw [HU1.out] at hu'
                rw [← Option.some.inj hu']
                exact hE
              · exact HN.out j' u' (by omega) hu'
            clear hE
            go_wp2_with fail
            refine hh.mono ?_
            rintro e w4 ⟨rfl, hB4⟩
            go_wp2_with fail
            go_roundg (vs.length - (j + 1))
            case measure => have := HJF.out; omega
            case rel => exact ⟨j + 1, by have := HJF.out; rw [Hid]; omega, by omega, by go_num, HC.out.step hB4, below_step hBl hBl.size hB4, HN2.out⟩
          · rw [hE] at hh
            go_wp2_with fail
            refine hh.mono ?_
            rintro e w4 ⟨rfl, hB4⟩
            have HLE := hid_of (scan_some HV.out hlt HU1.out hE HN.out)
            have HCK : Hid ((clsK E (k + 1)).map toI = ((clsK E k).map toI).set j (l ++ [((k : Nat) : Int)])) := by
              rw [Hid, cls_in HLE.out hu2 HU1.out, List.map_set]
              congr 1
              rw [HU3.out]
              simp [toI]
            have HC4 := hid_of (HC.out.step hB4)
            have hB5 := below_step hBl hBl.size hB4
            have ho4 := hid_of (owns_below' HO.out hB4)
            have z4 := hB5.size
            have hs4 : s < w4.heap.size := (HC4.out.own.lt s rfl).2
            have HCS : Hid (w4.cell? ⟨s, j, none⟩ = some (.slice (some ⟨sx, ox, none⟩) l.length capx) ∧ w4.frozen? ⟨s, j, none⟩ = false ∧ some s ≠ (Value.slice (some ⟨sx, ox, none⟩) l.length capx).ownBlock) := ⟨(hB4.cell (p := ⟨s, j, none⟩) hs1).trans c0, HC4.out.own.frozenAt j, fun e => HC4.out.ne HX.out e.symm rfl⟩
            clear hE HC HN hBl hB4 c0 c1 HO HU3 HU1 hh
            go_wp2_with (at_builtin; refine wpList_append_own_at _ rfl _ _ 29 rfl w3.heap.size 3 i0 (.int .i64 0) 1 8 Tryd.underlying29 hi hz0 hz1 hz2 rfl (by decide) (.slice (some ⟨sx, ox, none⟩) l.length capx) l.length (encJ l) rfl (ho4.out.alloc _) ⟨_, 0, none⟩ 1 1 [.int .i64 ((k : Nat) : Int)] rfl rfl (by intro k u hk; match k, hk with | 0, hk => simp at hk; subst hk; exact (Blk.new _ _ _).cell rfl) (by simp [Value.oneCell']) (by unfold maxLen; omega) (by omega) (by simp; omega) ?_; intro v' w5 hown' hgrow _ hat; obtain ⟨a6, c6, hv6⟩ := owns_len hown'; subst hv6; have cs5 := hgrow.cell (cellA' HCS.out.1 _) HCS.out.2.2; have fs5 := (World.frozen?_of_block (hgrow.block s (by simp; omega) HCS.out.2.2)).trans ((World.frozen?_of_block (Below.heap_alloc _ _ _ hs4)).trans HCS.out.2.1))
            have hC6 := HC4.out.grow HX.out hown' hgrow hat
            rw [← HCK.out] at hC6
            have hb6 : Below w3.heap.size w3 (w5.setCell ⟨s, j, none⟩ (.slice a6 (l.length + 1) c6)) := ((hB5.alloc hB5.size _).grown hgrow (by simp; omega) (fun q e => (ho4.out.lt q e).1)).setCell (by have := (HC4.out.own.lt s rfl).1; exact this) _
            go_roundg (L.length - (k + 1))
            case measure => have := HKF.out; omega
            case rel => exact ⟨k + 1, _, by have := HKF.out; rw [Hid]; omega, by omega, by go_num, hC6, hb6⟩
        · obtain rfl : j = vs.length := by omega
          have HLE : Hid (leastE E k = k) := scan_none HV.out hlt (fun i u hu => HN.out i u (by
            have h1 := (List.getElem?_eq_some_iff.1 hu).1
            have h2 := HVL.out
            unfold clsK at h2
            rw [List.length_map] at h2
            omega) hu)
          have HCK : Hid ((clsK E (k + 1)).map toI = (clsK E k).map toI ++ [[((k : Nat) : Int)]]) := by
            rw [Hid, cls_new HLE.out, List.map_append]
            rfl
          have z4 := hBl.size
          have hnw : ∀ j u, ([.slice (some ⟨wr.heap.size, 0, none⟩) 1 1] : List Value)[j]? = some u → ((wr.alloc (.cells #[.int .i64 ((k : Nat) : Int)] 3)).alloc (.cells #[.slice (some ⟨wr.heap.size, 0, none⟩) 1 1] 29)).cell? ((⟨wr.heap.size + 1, 0, none⟩ : Addr).add j) = some u := by
            have := cell_one_new (wr.alloc (.cells #[.int .i64 ((k : Nat) : Int)] 3)) (.slice (some ⟨wr.heap.size, 0, none⟩) 1 1) 29
            rw [World.size_alloc] at this
            exact this
          have HNW := hid_of hnw
          clear hnw
          go_wp2_with (at_builtin; refine wpList_append_own_at _ rfl _ _ 25 rfl w3.heap.size 29 i1 (.slice none 0 0) 1 24 Tryd.underlying25 hJ hy0 hy1 hy2 rfl (by decide) (.slice a5 vs.length cap5) vs.length vs rfl ((HC.out.own.alloc _).alloc _) ⟨_, 0, none⟩ 1 1 [.slice (some ⟨wr.heap.size, 0, none⟩) 1 1] rfl rfl HNW.out (by simp [Value.oneCell']) (by unfold maxLen; omega) (by omega) (by simp; omega) ?_; intro v' w5 hown' hgrow _ _)
          have hC6 := HC.out.push hBl.size hown' hgrow
          rw [← HCK.out] at hC6
          have hb6 : Below w3.heap.size w3 w5 := ((hBl.alloc hBl.size _).alloc (by simp; omega) _).grown hgrow (by simp; omega) (fun q e => (HC.out.own.lt q e).1)
          go_roundg (L.length - (k + 1))
          case measure => have := HKF.out; omega
          case rel => exact ⟨k + 1, _, by have := HKF.out; rw [Hid]; omega, by omega, by go_num, hC6, hb6⟩
    · obtain rfl : k = L.length := by omega
      go_wp2_with fail
      rw [Exit.noGoto_ret]
      go_ret
      exact ⟨_, vs, rfl, (HC.out.step (Below.refl _ _)).lo hB3.size, hB3.trans (hBl.mono hB3.size)⟩
end Go.Proofs.YtmmgdeoballhpaaDoor
/- Package order's sortBlocks, telling which slices it lays; Components; Reduction. -/
namespace Go.Proofs.YtmmgdeoballhpaaDoor
open Go.RowKit Go.Shelf Sx

set_option maxRecDepth 100000 in
set_option maxHeartbeats 8000000 in
theorem oSortB_own (b c base : Nat) (L : List Nat) (v : Value) (vs : List Value) (bs : List (List Nat)) (w : World) (h : IsRel w b c L) (hT : Tab w) (hv0 : ClR w base v vs (bs.map toI)) (hm : bs.length ≤ 256) (hp : ∀ bl ∈ bs, bl.length ≤ 256 ∧ ∀ p ∈ bl, p < L.length) (hX : (sortOf (betw L bs)).length = bs.length) :
    Calls Tryd.prog 39 #[pv b, v] w fun e w' => ∃ v', e = .returned (.tuple #[v', .int .i64 0]) ∧ w'.ownsRow w.heap.size 29 1 v' bs.length ((sortOf (betw L bs)).map (fun i => vs.getD i (.slice none 0 0))) ∧ Below w.heap.size w w' := by
  have hv := hv0.blocks
  have hbt := oBetween_calls b c L v bs w h hT hv hm hp
  obtain ⟨i0, hi, hz0, hz1, hz2⟩ := info_parts Tryd.infoints
  go_enter Tryd.func39, Tryd.ntmps39
  go_wp2_with fail
  refine hbt.mono ?_
  rintro e w1 ⟨b2, c2, rfl, hM⟩
  go_wp2_with fail
  refine (oSort_calls b2 c2 _ w1 hM.rel (hT.step hM.below)).mono ?_
  rintro e w2 ⟨v2, code, rfl, ⟨hA1, hA2⟩, hB2⟩
  rw [betw_length] at hA1 hA2
  have hBw : Below w.heap.size w w2 := below_step hM.below hM.below.size hB2
  clear hbt
  obtain ⟨rfl, ho⟩ := hA1 hX
  have hso := sortOf_lt (betw L bs)
  rw [betw_length] at hso
  have hIR : IntsR w2 v2 (toI (sortOf (betw L bs))) := by
    have : w2.ownsRow w1.heap.size 3 1 v2 (toI (sortOf (betw L bs))).length (encJ (toI (sortOf (betw L bs)))) := by
      rw [toI_length, hX, show encJ (toI (sortOf (betw L bs))) = encN (sortOf (betw L bs)) from by simp [encJ, toI, encN]]
      exact ho
    exact owns_intsR this
  have hC := hv0.step hBw
  have hvl : vs.length = bs.length := by have := hC.rows.len; simpa using this
  obtain ⟨p, cap, rfl⟩ := owns_len hC.own
  have hvs : 0 < bs.length → ∃ s, p = some ⟨s, 0, none⟩ ∧ s < w2.heap.size ∧ ∀ (i : Nat) (u : Value), vs[i]? = some u → w2.cell? ⟨s, i, none⟩ = some u := fun h0 => by
    obtain ⟨s, cap', e1, h1, h2⟩ := owns_cells hC.own rfl (by omega)
    injection e1 with e1 _ _
    exact ⟨s, e1, h1, h2⟩
  have hrow : ∀ (i : Nat) (u : Value) (bl : List Nat), vs[i]? = some u → bs[i]? = some bl → IntsR w2 u (toI bl) := fun i u bl hu hbl => owns_intsR (hC.rows.row i u (toI bl) hu (by rw [List.getElem?_map, hbl]; rfl))
  rw [hvl]
  obtain ⟨p2, cap2, rfl, hq⟩ : ∃ a cap, v2 = .slice a (sortOf (betw L bs)).length cap ∧ (0 < (sortOf (betw L bs)).length → ∃ s o, a = some ⟨s, o, none⟩ ∧ s < w2.heap.size ∧ ∀ (i x : Nat), (sortOf (betw L bs))[i]? = some x → w2.cell? ⟨s, o + i, none⟩ = some (.int .i64 x)) := by
    rcases hIR with ⟨a, cap, e, e2⟩ | ⟨s, o, cap, e, h1, h2⟩
    · have : (sortOf (betw L bs)).length = 0 := by have := congrArg List.length e2; simpa [toI] using this
      exact ⟨a, cap, by rw [this]; exact e, fun h0 => by omega⟩
    · exact ⟨_, cap, by rw [toI_length] at e; exact e, fun _ => ⟨s, o, rfl, h1, fun i x hx => h2 i _ (toI_at hx)⟩⟩
  have hol : (sortOf (betw L bs)).length ≤ 256 := by omega
  have HX := hid_of hX
  have HQ := hid_of hq
  have HSO := hid_of hso
  have HVS := hid_of hvs
  have HROW := hid_of hrow
  clear hA1 hA2 ho hIR hq hX hso hvs hrow hv hv0 hC
  generalize hod : sortOf (betw L bs) = od at *
  have HOD := hid_of hod
  clear hod
  go_wp2_with fail
  go_loopw [8, 20] (fun v8 i wr => ∃ k : Nat, k ≤ od.length ∧ i = .int .i64 k ∧ Hid (wr.ownsRow w2.heap.size 29 1 v8 k ((od.take k).map (fun i => vs.getD i (.slice none 0 0)))) ∧ Below w2.heap.size w2 wr) (fun _ i _ => od.length - (intOf i).toNat)
  case atStart => exact ⟨0, by omega, rfl, World.ownsRow_nil _ _ _ _, Below.refl _ _⟩
  case round =>
    obtain ⟨k, hk, rfl, HO, hBl⟩ := hrel
    by_cases hlt : k < od.length
    · obtain ⟨s2, o2, rfl, hs3, hs4⟩ := HQ.out (by omega)
      obtain ⟨j, hj⟩ : ∃ j, od[k]? = some j := ⟨_, List.getElem?_eq_getElem hlt⟩
      have hjn := HSO.out j (List.mem_of_getElem? hj)
      obtain ⟨s, rfl, hs1, hs2⟩ := HVS.out (by omega)
      obtain ⟨u, hu⟩ : ∃ u, vs[j]? = some u := ⟨_, List.getElem?_eq_getElem (by omega)⟩
      obtain ⟨bl, hbl⟩ : ∃ bl, bs[j]? = some bl := ⟨_, List.getElem?_eq_getElem hjn⟩
      obtain ⟨ua, ucap, rfl⟩ := (HROW.out j u bl hu hbl).len
      have c0 := (hBl.cell (p := ⟨s2, o2 + k, none⟩) hs3).trans (hs4 k j hj)
      have c1 := (hBl.cell (p := ⟨s, j, none⟩) hs1).trans (hs2 j _ hu)
      have HE : Hid ((od.take (k + 1)).map (fun i => vs.getD i (.slice none 0 0)) = (od.take k).map (fun i => vs.getD i (.slice none 0 0)) ++ [.slice ua (toI bl).length ucap]) := by
        show _ = _
        rw [List.take_add_one, hj, List.map_append]
        simp [List.getD, hu]
      have j0 : (0 : Int) ≤ (j : Int) := by omega
      have j1 : (j : Int) < (bs.length : Int) := by omega
      have zB := hBl.size
      clear hj hu hbl hs2 hs4
      generalize (toI bl).length = ul at *
      generalize (od.take k).map (fun i => vs.getD i (.slice none 0 0)) = xs at *
      go_wp2_with (at_builtin; refine wpList_append_own_at _ rfl _ _ 25 rfl w2.heap.size 29 i0 (.slice none 0 0) 1 24 Tryd.underlying25 hi hz0 hz1 hz2 rfl (by decide) u8 k xs rfl (HO.out.alloc _) ⟨_, 0, none⟩ 1 1 [.slice ua ul ucap] rfl rfl (by intro k u hk; match k, hk with | 0, hk => simp at hk; subst hk; exact (Blk.new _ _ _).cell rfl) (by simp [Value.oneCell']) (by unfold maxLen; omega) (by omega) (by simp; omega) ?_; intro v' w5 hown' hgrow _ hat)
      refine ⟨⟨k + 1, by omega, by go_num, ?_, ?_⟩, by simp [intOf]; omega⟩
      · rw [HE.out]; exact hown'
      · exact (hBl.alloc hBl.size _).grown hgrow (by simp; omega) (fun k e => owns_ge HO.out e)
    · obtain rfl : k = od.length := by omega
      have ho1 := HO.out
      rw [List.take_length] at ho1
      obtain ⟨a8, c8, hv8⟩ := owns_len ho1
      go_wp2_with fail
      go_ret2
      refine ⟨u8, rfl, ?_, below_step hBw hBw.size hBl⟩
      have := owns_lo ho1 hBw.size
      rw [HX.out] at this
      rw [HOD.out]
      exact this
/-- The lists in another order. -/
theorem ClR.perm {W : World} {base : Nat} {v v' : Value} {vs : List Value} {bs : List (List Nat)} {od : List Nat} (h : ClR W base v vs (bs.map toI)) (hn : od.Nodup) (hlt : ∀ i ∈ od, i < bs.length) (ho : W.ownsRow base 29 1 v' od.length (od.map (fun i => vs.getD i (.slice none 0 0)))) : ClR W base v' (od.map (fun i => vs.getD i (.slice none 0 0))) ((od.map (fun i => bs.getD i [])).map toI) := by
  have hvl : vs.length = bs.length := by have := h.rows.len; simpa using this
  have key : ∀ (i : Nat) (x : Value), (od.map (fun i => vs.getD i (.slice none 0 0)))[i]? = some x → ∃ j, od[i]? = some j ∧ vs[j]? = some x ∧ j < bs.length := fun i x hx => by
    rw [List.getElem?_map] at hx
    cases hj : od[i]? with
    | none => rw [hj] at hx; cases hx
    | some j =>
      rw [hj] at hx
      have hjn := hlt j (List.mem_of_getElem? hj)
      simp at hx
      refine ⟨j, rfl, ?_, hjn⟩
      rw [List.getElem?_eq_getElem (by omega)] at hx ⊢
      simpa using hx
  refine ⟨by rw [List.length_map]; exact ho, by simp, fun i x l hx hl => ?_, fun i j x y g hx hy h1 h2 => ?_⟩
  · obtain ⟨j, hj, hvj, hjn⟩ := key i x hx
    refine h.rows.row j x l hvj ?_
    rw [List.getElem?_map, List.getElem?_map, hj] at hl
    simp at hl
    rw [List.getElem?_map, List.getElem?_eq_getElem hjn]
    simp
    rw [List.getElem?_eq_getElem hjn] at hl
    simpa using hl
  · obtain ⟨a, ha, hva, _⟩ := key i x hx
    obtain ⟨b, hb, hvb, _⟩ := key j y hy
    have := h.rows.apart a b x y g hva hvb h1 h2
    subst this
    have l1 := (List.getElem?_eq_some_iff.1 ha).1
    exact (List.getElem?_inj l1 hn).1 (by rw [ha, hb])
set_option maxHeartbeats 1000000 in
theorem oComponents_calls (b c : Nat) (L : List Nat) (F : Nat → Nat → Bool) (w : World) (h : IsRel w b c L) (hT : Tab w) (hTw : TwO L.length F L) :
    Calls Tryd.prog 15 #[pv b] w fun e w' => ∃ v vs, e = .returned v ∧ ClR w' w.heap.size v vs ((compsL L).map toI) ∧ Below w.heap.size w w' := by
  have hl := h.len
  have hw := h.wf rfl
  have hC := clo_plus hTw hw
  have hcl := oClasses_calls b c L w h hT (bothE (cloB L)) rfl hC.eqv
  have hall := comps_all hTw hl h.low hC
  have hgd := sortOf_good (betw L (clsK (bothE (cloB L)) L.length))
  have hcn := cls_len (bothE (cloB L)) L.length
  have hp : ∀ bl ∈ clsK (bothE (cloB L)) L.length, bl.length ≤ 256 ∧ ∀ p ∈ bl, p < L.length := fun bl hbl => by
    obtain ⟨u, _, rfl⟩ := List.mem_map.1 hbl
    have := cl_len (bothE (cloB L)) L.length u
    exact ⟨by omega, fun p hp => (clK_mem.1 hp).1⟩
  have HA := hid_of hall
  have HG := hid_of hgd
  have HP := hid_of hp
  have HSB : Hid (compsL L = (sortOf (betw L (clsK (bothE (cloB L)) L.length))).map (fun i => (clsK (bothE (cloB L)) L.length).getD i [])) := rfl
  clear hall hgd hp hw hC hTw
  generalize clsK (bothE (cloB L)) L.length = bs at *
  generalize compsL L = cs at *
  go_enter Tryd.func15, Tryd.ntmps15
  go_wp2_with fail
  refine hcl.mono ?_
  rintro e w1 ⟨v1, vs, rfl, hC1, hB1⟩
  go_wp2_with fail
  refine (oSortB_own b c w.heap.size L v1 vs bs w1 (h.below hB1) (hT.step hB1) hC1 (by omega) HP.out HA.out).mono ?_
  rintro e w2 ⟨v2, rfl, ho2, hB2⟩
  go_wp2_with fail
  go_ret
  refine ⟨v2, (sortOf (betw L bs)).map (fun i => vs.getD i (.slice none 0 0)), rfl, ?_, below_step hB1 hB1.size hB2⟩
  rw [HSB.out]
  obtain ⟨g1, g2, _⟩ := HG.out
  rw [betw_length] at g2
  exact (hC1.step hB2).perm g1 g2 (by rw [HA.out]; exact owns_lo ho2 hB1.size)
/-- What Reduction answers. -/
def redL (L : List Nat) : List Nat := minusL (plusL L) (compL (plusL L) (plusL L))
set_option maxHeartbeats 1000000 in
theorem oReduction_no (b c : Nat) (L : List Nat) (w : World) (h : IsRel w b c L) (H0 : Hid ((loopsL (plusL L) == 0) = false)) :
    Calls Tryd.prog 16 #[pv b] w fun e w' => e = .returned (.tuple #[.pointer none, .int .i64 3]) ∧ Below w.heap.size w w' := by
  go_enter Tryd.func16, Tryd.ntmps16
  go_wp2_with fail
  refine (Plus_calls b c L _ h).mono ?_
  rintro e w1 ⟨b1, c1, rfl, hM1⟩
  go_wp2_with fail
  refine (Irr_calls b1 c1 (plusL L) _ hM1.rel).mono ?_
  rw [H0.out]
  rintro e w2 ⟨rfl, hB2⟩
  go_wp2_with fail
  go_ret2
  exact ⟨rfl, below_step hM1.below hM1.below.size hB2⟩
set_option maxHeartbeats 1000000 in
theorem oReduction_yes (b c : Nat) (L : List Nat) (w : World) (h : IsRel w b c L) (hT : Tab w) (H0 : Hid ((loopsL (plusL L) == 0) = true)) :
    Calls Tryd.prog 16 #[pv b] w fun e w' => ∃ b2 c2, e = .returned (.tuple #[pv b2, .int .i64 0]) ∧ Made w w' b2 c2 (redL L) := by
  go_enter Tryd.func16, Tryd.ntmps16
  go_wp2_with fail
  refine (Plus_calls b c L _ h).mono ?_
  rintro e w1 ⟨b1, c1, rfl, hM1⟩
  go_wp2_with fail
  refine (Irr_calls b1 c1 (plusL L) _ hM1.rel).mono ?_
  rw [H0.out]
  rintro e w2 ⟨rfl, hB2⟩
  have hM2 := hM1.step hB2
  go_wp2_with fail
  refine (Comp_calls b1 c1 b1 c1 (plusL L) (plusL L) _ hM2.rel hM2.rel (hT.step hM2.below)).mono ?_
  rintro e w3 ⟨b3, c3, rfl, hM3⟩
  go_wp2_with fail
  refine (Minus_calls b1 c1 b3 c3 (plusL L) (compL (plusL L) (plusL L)) _ (hM2.rel.below hM3.below) hM3.rel).mono ?_
  rintro e w4 ⟨b4, c4, rfl, hM4⟩
  have hB3 : Below w.heap.size w w3 := below_step hM2.below hM2.below.size hM3.below
  go_wp2_with fail
  go_ret2
  exact ⟨b4, c4, rfl, hM4.rel, Nat.le_trans hB3.size hM4.hb, Nat.le_trans hB3.size hM4.hc, below_step hB3 hB3.size hM4.below⟩
end Go.Proofs.YtmmgdeoballhpaaDoor
/- The laws of orders: their maths. -/
namespace Go.Proofs.YtmmgdeoballhpaaDoor
open Go.RowKit Go.Shelf Sx Relation

/-- A relation's own table. -/
def tabF (L : List Nat) (p q : Nat) : Bool := (gr L p).testBit q
theorem tab_two (L : List Nat) : TwO L.length (tabF L) L := ⟨rfl, fun _ _ _ _ => rfl⟩
theorem topo_idx {ps : List (Nat × Nat)} {pts : List Nat} (h : TopoU ps pts) (hn : pts.Nodup) {i j : Nat} (hij : (i, j) ∈ ps) (hj : j ∈ pts) : pts.idxOf i < pts.idxOf j := by
  obtain ⟨A, C, e, hjA⟩ := split_mem hj hn
  have hi := h A j C e i hij
  rw [e]
  exact idx_before (R := j :: C) hi hjA
theorem mem_full {pts : List Nat} {n : Nat} (hn : pts.Nodup) (hlt : ∀ i ∈ pts, i < n) (hl : pts.length = n) : ∀ i, i < n → i ∈ pts := by
  intro i hi
  refine Classical.byContradiction fun hni => ?_
  have := sub_len (i :: pts) (List.range n) (List.nodup_cons.2 ⟨hni, hn⟩) (fun x hx => by
    rcases List.mem_cons.1 hx with rfl | hx
    · exact List.mem_range.2 hi
    · exact List.mem_range.2 (hlt x hx))
  simp at this
  omega
section
variable {L : List Nat}
theorem pairs_hs (hn : L.length ≤ 256) (hlow : ∀ R ∈ L, R < 2 ^ L.length) (p q : Nat) : (p, q) ∈ pairsL L ↔ hs L p q := by
  rw [mem_pairsL hn hlow]
  exact ⟨fun h => h.2, fun h => ⟨hs_left h, h⟩⟩
/-- Sort lays all just where there is no cycle. -/
theorem sort_acyc (hn : L.length ≤ 256) (hlow : ∀ R ∈ L, R < 2 ^ L.length) : (sortOf L).length = L.length ↔ loopsL (plusL L) = 0 := by
  have hw := wf_of_low hlow
  have hC := clo_plus (tab_two L) hw
  constructor
  · intro hl
    obtain ⟨g1, g2, g3⟩ := sortOf_good L
    have hall := mem_full g1 g2 hl
    rw [loops_zero]
    intro p hp
    have key : ∀ a b, TransGen (hs L) a b → (sortOf L).idxOf a < (sortOf L).idxOf b := by
      intro a b h
      induction h with
      | single h => exact topo_idx g3 g1 ((pairs_hs hn hlow _ _).2 h) (hall _ (hw.low _ _ h))
      | tail _ h ih => exact Nat.lt_trans ih (topo_idx g3 g1 ((pairs_hs hn hlow _ _).2 h) (hall _ (hw.low _ _ h)))
    have := key p p ((hs_plus hw p p).1 hp)
    omega
  · intro hz
    rw [loops_zero] at hz
    refine sort_all L (leadN L.length (cloB L)) (fun i j hij => ?_)
    have h1 := (pairs_hs hn hlow i j).1 hij
    have hi := hs_left h1
    have hj := hw.low _ _ h1
    have hCij : cloB L i j = true := hC.sub i j hi hj h1
    refine ⟨hi, lead_lt hC hi hj hCij ?_ ?_⟩
    · rw [Bool.eq_false_iff]
      intro e
      exact hz i (hC.trans i j i hi hj hi hCij e)
    · rintro rfl
      exact hz i hCij
theorem sort_lin (hn : L.length ≤ 256) (hlow : ∀ R ∈ L, R < 2 ^ L.length) (hl : (sortOf L).length = L.length) : linB L (toI (sortOf L)) = true := by
  obtain ⟨g1, g2, g3⟩ := sortOf_good L
  have hall := mem_full g1 g2 hl
  have hps := fun p q => pairs_of (tab_two L) hn hlow p q
  rw [lin_iff hps g1 g2 hl hall]
  intro p q hp hq hF
  exact topo_idx g3 g1 ((hps p q).2 ⟨hp, hq, hF⟩) (hall q hq)
theorem glue_lin {l : List (Int × Int)} (h : (glueF L l).2 = 0) : linB L (toI (glueF L l).1) = true := by
  unfold glueF at h ⊢
  split at h
  · cases h
  · split at h
    · rename_i hc
      split at h
      · rename_i hd
        rw [if_pos hc, if_pos hd]
        exact hd
      · cases h
    · cases h
end
/-- A block of two stays. -/
theorem gluF_stay (n : Nat) : ∀ (l : List (Int × Int)) (bs bs' : List (List Nat)) (p : Nat), gluF n l bs = some bs' → (bs.getD p []).length = 2 → bs'.getD p [] = bs.getD p []
  | [], bs, bs', p, h, _ => by
    have h : some bs = some bs' := h
    injection h with h
    rw [h]
  | (a, b) :: l, bs, bs', p, h, hp => by
    rw [gluF] at h
    split at h
    · rename_i hc
      have ne : ∀ x : Int, freeB n bs x = true → x.toNat ≠ p := by
        intro x hx e
        unfold freeB at hx
        rw [Bool.and_eq_true, beq_iff_eq, e, hp] at hx
        omega
      have ha := ne a hc.2.1
      have hb := ne b hc.2.2
      have e : ((bs.set a.toNat [a.toNat, b.toNat]).set b.toNat []).getD p [] = bs.getD p [] := by
        simp only [List.getD_eq_getElem?_getD, List.getElem?_set, if_neg ha, if_neg hb]
      rw [gluF_stay n l _ bs' p h (by rw [e]; exact hp), e]
    · cases h
theorem gluF_has (n : Nat) : ∀ (l : List (Int × Int)) (bs bs' : List (List Nat)), bs.length = n → gluF n l bs = some bs' → ∀ x ∈ l, ∃ a b : Nat, x = ((a : Int), (b : Int)) ∧ a < n ∧ bs'.getD a [] = [a, b]
  | [], _, _, _, _, x, hx => by cases hx
  | (a, b) :: l, bs, bs', hl, h, x, hx => by
    rw [gluF] at h
    split at h
    · rename_i hc
      obtain ⟨i, rfl, hi⟩ := inR_true (freeB_in hc.2.1)
      obtain ⟨j, rfl, hj⟩ := inR_true (freeB_in hc.2.2)
      have hij : i ≠ j := fun e => hc.1 (by rw [e])
      rw [Int.toNat_natCast, Int.toNat_natCast] at h
      rcases List.mem_cons.1 hx with rfl | hx
      · refine ⟨i, j, rfl, hi, ?_⟩
        have e : ((bs.set i [i, j]).set j []).getD i [] = [i, j] := by
          rw [getD_setU _ _ _ _ _ (by rw [List.length_set, hl]; exact hj), if_neg (fun e => hij e.symm), getD_setU _ _ _ _ _ (by rw [hl]; exact hi), if_pos rfl]
        rw [gluF_stay n l _ bs' i h (by rw [e]; rfl), e]
      · exact gluF_has n l _ bs' (by simp [hl]) h x hx
    · cases h
theorem flatten_mem {ls : List (List Nat)} {bl : List Nat} (h : bl ∈ ls) : ∃ A B, ls.flatten = A ++ bl ++ B := by
  obtain ⟨P, Q, e⟩ := List.append_of_mem h
  exact ⟨P.flatten, Q.flatten, by rw [e]; simp⟩
/-- Glue's pairs are together. -/
theorem glue_tog {L : List Nat} {l : List (Int × Int)} (h : (glueF L l).2 = 0) : ∀ x ∈ l, ∃ j : Nat, (toI (glueF L l).1)[j]? = some x.1 ∧ (toI (glueF L l).1)[j + 1]? = some x.2 := by
  intro x hx
  cases hg : gluF L.length l (glInit L.length) with
  | none =>
    have : glueF L l = ([], 1) := by simp [glueF, glB, hg]
    rw [this] at h
    cases h
  | some bs =>
    obtain ⟨a, b, rfl, ha, hb⟩ := gluF_has L.length l _ bs (glInit_length _) hg x hx
    obtain ⟨hbl, _⟩ := gluF_ok L.length l _ bs hg (glInit_ok L.length)
    have er : glueF L l = if (sortOf (betw L (bs.filter (fun b => !b.isEmpty)))).length = (bs.filter (fun b => !b.isEmpty)).length then (if linB L (toI (sbOf L (bs.filter (fun b => !b.isEmpty))).flatten) = true then ((sbOf L (bs.filter (fun b => !b.isEmpty))).flatten, 0) else ([], 3)) else ([], 3) := by simp [glueF, glB, hg]
    by_cases h1 : (sortOf (betw L (bs.filter (fun b => !b.isEmpty)))).length = (bs.filter (fun b => !b.isEmpty)).length
    · rw [if_pos h1] at er
      by_cases h2 : linB L (toI (sbOf L (bs.filter (fun b => !b.isEmpty))).flatten) = true
      · rw [if_pos h2] at er
        rw [er]
        have hm : [a, b] ∈ bs.filter (fun b => !b.isEmpty) := by
          refine List.mem_filter.2 ⟨?_, rfl⟩
          rw [← hb, List.getD_eq_getElem?_getD, List.getElem?_eq_getElem (by rw [hbl]; exact ha)]
          exact List.getElem_mem _
        obtain ⟨i, hi⟩ := List.getElem?_of_mem hm
        obtain ⟨g1, g2, _⟩ := sortOf_good (betw L (bs.filter (fun b => !b.isEmpty)))
        rw [betw_length] at g2
        have hil := (List.getElem?_eq_some_iff.1 hi).1
        have him := mem_full g1 g2 h1 i hil
        have hs : [a, b] ∈ sbOf L (bs.filter (fun b => !b.isEmpty)) := by
          unfold sbOf
          refine List.mem_map.2 ⟨i, him, ?_⟩
          rw [List.getD_eq_getElem?_getD, hi]
          rfl
        obtain ⟨A, B, e⟩ := flatten_mem hs
        refine ⟨A.length, ?_, ?_⟩
        · show (toI (sbOf L (bs.filter (fun b => !b.isEmpty))).flatten)[A.length]? = _
          rw [e]
          apply toI_at
          simp
        · show (toI (sbOf L (bs.filter (fun b => !b.isEmpty))).flatten)[A.length + 1]? = _
          rw [e]
          apply toI_at
          simp
      · rw [if_neg h2] at er
        rw [er] at h
        cases h
    · rw [if_neg h1] at er
      rw [er] at h
      cases h
section
variable {L : List Nat}
/-- What is known of the components. -/
structure CompOK (L : List Nat) (cs : List (List Nat)) : Prop where
  head : ∀ (i : Nat) (bl : List Nat), cs[i]? = some bl → ∃ u tl, bl = u :: tl ∧ u < L.length
  both : ∀ (i j u v : Nat) (bl : List Nat), cs[i]? = some bl → bl[0]? = some u → bl[j]? = some v → 0 < j → hs (plusL L) u v ∧ hs (plusL L) v u ∧ v < L.length
  rise : ∀ (i j v v' : Nat) (bl : List Nat), cs[i]? = some bl → bl[j]? = some v → bl[j + 1]? = some v' → v < v'
  back : ∀ (i k u u' : Nat) (bl bl' : List Nat), cs[i]? = some bl → cs[k]? = some bl' → bl[0]? = some u → bl'[0]? = some u' → k < i → ¬ hs (plusL L) u u'
theorem comps_at {i : Nat} {bl : List Nat} (h : (compsL L)[i]? = some bl) : ∃ j u, (sortOf (betw L (clsK (bothE (cloB L)) L.length)))[i]? = some j ∧ (fstK (bothE (cloB L)) L.length)[j]? = some u ∧ bl = clK (bothE (cloB L)) L.length u := by
  unfold compsL sbOf at h
  rw [List.getElem?_map] at h
  cases hj : (sortOf (betw L (clsK (bothE (cloB L)) L.length)))[i]? with
  | none => rw [hj] at h; cases h
  | some j =>
    rw [hj] at h
    obtain ⟨_, g2, _⟩ := sortOf_good (betw L (clsK (bothE (cloB L)) L.length))
    rw [betw_length] at g2
    have hjl := g2 j (List.mem_of_getElem? hj)
    have hjf : j < (fstK (bothE (cloB L)) L.length).length := by unfold clsK at hjl; rw [List.length_map] at hjl; exact hjl
    refine ⟨j, _, rfl, List.getElem?_eq_getElem hjf, ?_⟩
    simp only [Option.map_some, Option.some.injEq] at h
    rw [← h, List.getD_eq_getElem?_getD]
    unfold clsK
    rw [List.getElem?_map, List.getElem?_eq_getElem hjf]
    rfl
theorem cl_rise (E : Nat → Nat → Bool) (n u : Nat) : (clK E n u).Pairwise (· < ·) := List.Pairwise.filter _ List.pairwise_lt_range
theorem comps_ok (hn : L.length ≤ 256) (hlow : ∀ R ∈ L, R < 2 ^ L.length) : CompOK L (compsL L) := by
  have hw := wf_of_low hlow
  have hC := clo_plus (tab_two L) hw
  have hE := hC.eqv
  have hps := fun p q => pairs_of (tab_two L) hn hlow p q
  have hU := units_cls hE
  obtain ⟨g1, g2, g3⟩ := sortOf_good (betw L (clsK (bothE (cloB L)) L.length))
  have hfull := comps_all (tab_two L) hn hlow hC
  rw [betw_length] at g2
  have hall := mem_full g1 g2 hfull
  have hb0 : ∀ (j u : Nat), (fstK (bothE (cloB L)) L.length)[j]? = some u → ∃ tl, clK (bothE (cloB L)) L.length u = u :: tl := fun j u hj => clK_head (List.mem_of_getElem? hj)
  refine ⟨fun i bl h => ?_, fun i j u v bl h hu hv hj => ?_, fun i j v v' bl h hv hv' => ?_, fun i k u u' bl bl' h h' hu hu' hki hc => ?_⟩
  · obtain ⟨j, u, _, h2, rfl⟩ := comps_at h
    obtain ⟨tl, e⟩ := hb0 j u h2
    exact ⟨u, tl, e, (fstK_mem.1 (List.mem_of_getElem? h2)).1⟩
  · obtain ⟨j', u0, _, h2, rfl⟩ := comps_at h
    obtain ⟨tl, e⟩ := hb0 j' u0 h2
    have hu0 : u0 = u := by rw [e] at hu; simpa using hu
    subst hu0
    have hvm := clK_mem.1 (List.mem_of_getElem? hv)
    have hum := fstK_mem.1 (List.mem_of_getElem? h2)
    have hne : u0 ≠ v := by
      rintro rfl
      have hr := cl_rise (bothE (cloB L)) L.length u0
      have := fst_inj hr hu hv
      omega
    have hEv : bothE (cloB L) u0 v = true := by
      rcases (leastE_same hE hum.1 hvm.1).1 (by rw [hum.2, hvm.2]) with e | e
      · exact absurd e hne
      · exact e
    unfold bothE at hEv
    rw [Bool.and_eq_true] at hEv
    exact ⟨hEv.1, hEv.2, hvm.1⟩
  · obtain ⟨j', u0, _, h2, rfl⟩ := comps_at h
    have hr := cl_rise (bothE (cloB L)) L.length u0
    obtain ⟨l1, e1⟩ := List.getElem?_eq_some_iff.1 hv
    obtain ⟨l2, e2⟩ := List.getElem?_eq_some_iff.1 hv'
    have := List.pairwise_iff_getElem.1 hr j (j + 1) l1 l2 (by omega)
    omega
  · obtain ⟨j, u0, hj1, hj2, rfl⟩ := comps_at h
    obtain ⟨k', u1, hk1, hk2, rfl⟩ := comps_at h'
    obtain ⟨tl, e⟩ := hb0 j u0 hj2
    obtain ⟨tl', e'⟩ := hb0 k' u1 hk2
    have hu0 : u0 = u := by rw [e] at hu; simpa using hu
    have hu1 : u1 = u' := by rw [e'] at hu'; simpa using hu'
    subst hu0; subst hu1
    have hum := fstK_mem.1 (List.mem_of_getElem? hj2)
    have hum' := fstK_mem.1 (List.mem_of_getElem? hk2)
    have key : ∀ a b, TransGen (hs L) a b → ∀ ja jb : Nat, (fstK (bothE (cloB L)) L.length)[ja]? = some (leastE (bothE (cloB L)) a) → (fstK (bothE (cloB L)) L.length)[jb]? = some (leastE (bothE (cloB L)) b) → (sortOf (betw L (clsK (bothE (cloB L)) L.length))).idxOf ja ≤ (sortOf (betw L (clsK (bothE (cloB L)) L.length))).idxOf jb := by
      have one : ∀ a b, hs L a b → ∀ ja jb : Nat, (fstK (bothE (cloB L)) L.length)[ja]? = some (leastE (bothE (cloB L)) a) → (fstK (bothE (cloB L)) L.length)[jb]? = some (leastE (bothE (cloB L)) b) → (sortOf (betw L (clsK (bothE (cloB L)) L.length))).idxOf ja ≤ (sortOf (betw L (clsK (bothE (cloB L)) L.length))).idxOf jb := by
        intro a b hab ja jb hja hjb
        have han := hs_left hab
        have hbn := hw.low _ _ hab
        by_cases hne : leastE (bothE (cloB L)) a = leastE (bothE (cloB L)) b
        · rw [hne] at hja
          rw [fst_inj (fstK_rise _ _) hja hjb]
          exact Nat.le_refl _
        · have hB := (hU.BF hps (i := ja) (j := jb) (by rw [offs_fsts]; exact hja) (by rw [offs_fsts]; exact hjb)).2 ⟨hne, a, b, han, hbn, hab, offs_at han, offs_at hbn⟩
          have hjal : ja < (betw L (clsK (bothE (cloB L)) L.length)).length := by
            rw [betw_length]; unfold clsK; rw [List.length_map]; exact (List.getElem?_eq_some_iff.1 hja).1
          have hjbl : jb < (betw L (clsK (bothE (cloB L)) L.length)).length := by
            rw [betw_length]; unfold clsK; rw [List.length_map]; exact (List.getElem?_eq_some_iff.1 hjb).1
          have hcl := cls_len (bothE (cloB L)) L.length
          have hp := ((betw_two L (clsK (bothE (cloB L)) L.length)).pairs (by rw [betw_length]; omega) (betw_low _ _) hjal hjbl).1 hB
          exact Nat.le_of_lt (topo_idx g3 g1 hp (hall jb (by rw [betw_length] at hjbl; exact hjbl)))
      intro a b hab
      induction hab with
      | single h => exact one _ _ h
      | tail h1 h2 ih =>
        intro ja jb hja hjb
        have hmn := hs_left h2
        obtain ⟨jm, hjm⟩ := List.getElem?_of_mem (fstK_mem.2 ⟨Nat.lt_of_le_of_lt (leastE_le _ _) hmn, leastE_idem hE hmn⟩)
        exact Nat.le_trans (ih ja jm hja hjm) (one _ _ h2 jm jb hjm hjb)
    have hle := key u0 u1 ((hs_plus hw u0 u1).1 hc) j k' (by rw [hum.2]; exact hj2) (by rw [hum'.2]; exact hk2)
    have i1 : (sortOf (betw L (clsK (bothE (cloB L)) L.length))).idxOf j = i := by
      obtain ⟨l1, e1⟩ := List.getElem?_eq_some_iff.1 hj1
      rw [← e1]
      exact g1.idxOf_getElem i l1
    have i2 : (sortOf (betw L (clsK (bothE (cloB L)) L.length))).idxOf k' = k := by
      obtain ⟨l1, e1⟩ := List.getElem?_eq_some_iff.1 hk1
      rw [← e1]
      exact g1.idxOf_getElem k l1
    rw [i1, i2] at hle
    omega
end
end Go.Proofs.YtmmgdeoballhpaaDoor
/- All lists of all points, gone through: those that are linear are the orders, in their order. -/
namespace Go.Proofs.YtmmgdeoballhpaaDoor
open Go.RowKit Go.Shelf Sx

/-- One point more, each that is not there. -/
def freshP (n : Nat) (l : List Nat) : List Nat := (List.range n).filter (fun p => !l.contains p)
def moreP (n : Nat) (ls : List (List Nat)) : List (List Nat) := ls.flatMap (fun l => (freshP n l).map (fun p => l ++ [p]))
def prm (n : Nat) : Nat → List (List Nat)
  | 0 => [[]]
  | k + 1 => moreP n (prm n k)
def moreC (n : Nat) (ps : List (Nat × Nat)) (ls : List (List Nat)) : List (List Nat) := ls.flatMap (fun l => (cands n ps l 0).map (fun p => l ++ [p]))
def levC (n : Nat) (ps : List (Nat × Nat)) : Nat → List (List Nat)
  | 0 => [[]]
  | k + 1 => moreC n ps (levC n ps k)
theorem exts_flat (n : Nat) (ps : List (Nat × Nat)) (f : Nat) (ls : List (List Nat)) : ls.flatMap (exts n ps (f + 1)) = (moreC n ps ls).flatMap (exts n ps f) := by
  unfold moreC
  rw [List.flatMap_assoc]
  congr 1
  funext l
  rw [exts, List.flatMap_map]
theorem exts_lev (n : Nat) (ps : List (Nat × Nat)) : ∀ (f k : Nat), (levC n ps k).flatMap (exts n ps f) = levC n ps (k + f)
  | 0, k => by
    rw [Nat.add_zero, show exts n ps 0 = fun pts => [pts] from funext fun _ => rfl]
    simp
  | f + 1, k => by
    rw [exts_flat]
    show (levC n ps (k + 1)).flatMap (exts n ps f) = _
    rw [exts_lev n ps f (k + 1)]
    congr 1
    omega
theorem exts_all (n : Nat) (ps : List (Nat × Nat)) : exts n ps n [] = levC n ps n := by
  have := exts_lev n ps n 0
  rw [show levC n ps 0 = [[]] from rfl] at this
  simpa using this
theorem wAt_iff {ps : List (Nat × Nat)} {pts : List Nat} {p : Nat} : wAt ps pts p = 0 ↔ p ∉ pts ∧ ∀ i, (i, p) ∈ ps → i ∈ pts := by
  refine ⟨wAt_zero, fun ⟨h1, h2⟩ => ?_⟩
  unfold wAt
  rw [if_neg (by simpa using h1)]
  have : ps.filter (fun x => x.2 == p && !pts.contains x.1) = [] := by
    rw [List.filter_eq_nil_iff]
    rintro ⟨a, q⟩ hx hc
    simp only [Bool.and_eq_true, beq_iff_eq, Bool.not_eq_true'] at hc
    obtain ⟨rfl, hc⟩ := hc
    rw [List.contains_iff_mem.2 (h2 a hx)] at hc
    cases hc
  rw [this]; rfl
theorem topo_pre {ps : List (Nat × Nat)} {pts : List Nat} {p : Nat} (h : TopoU ps (pts ++ [p])) : TopoU ps pts ∧ ∀ i, (i, p) ∈ ps → i ∈ pts :=
  ⟨fun A j C e => h A j (C ++ [p]) (by rw [e]; simp), fun i hi => h pts p [] (by simp) i hi⟩
open Classical in
theorem lev_filter (n : Nat) (ps : List (Nat × Nat)) : ∀ k, (prm n k).filter (fun l => decide (TopoU ps l)) = levC n ps k
  | 0 => by
    have : TopoU ps [] := fun A j C e => absurd e (by simp)
    simp [prm, levC, this]
  | k + 1 => by
    show (moreP n (prm n k)).filter _ = moreC n ps (levC n ps k)
    rw [← lev_filter n ps k]
    unfold moreP moreC
    generalize prm n k = ls
    induction ls with
    | nil => rfl
    | cons l ls ih =>
      rw [List.flatMap_cons, List.filter_append, ih, List.filter_cons]
      by_cases hl : TopoU ps l
      · rw [if_pos (by simpa using hl), List.flatMap_cons]
        congr 1
        rw [List.filter_map]
        congr 1
        unfold freshP cands
        rw [List.filter_filter]
        apply List.filter_congr
        intro p _
        rw [Bool.eq_iff_iff]
        simp only [Function.comp, Bool.and_eq_true, decide_eq_true_eq, Bool.not_eq_true', beq_iff_eq, Nat.zero_le, true_and]
        rw [wAt_iff]
        constructor
        · rintro ⟨h1, h2⟩
          exact ⟨fun hm => (by rw [List.contains_iff_mem.2 hm] at h2; cases h2), (topo_pre h1).2⟩
        · rintro ⟨h1, h2⟩
          exact ⟨hl.snoc h2, by rw [Bool.eq_false_iff]; intro hc; exact h1 (List.contains_iff_mem.1 hc)⟩
      · rw [if_neg (by simpa using hl)]
        have : ((freshP n l).map (fun p => l ++ [p])).filter (fun l => decide (TopoU ps l)) = [] := by
          rw [List.filter_eq_nil_iff]
          intro x hx hc
          obtain ⟨p, _, rfl⟩ := List.mem_map.1 hx
          exact hl (topo_pre (of_decide_eq_true hc)).1
        rw [this, List.nil_append]
/-- A list that is gone through. -/
structure PrmOk (n k : Nat) (l : List Nat) : Prop where
  len : l.length = k
  nodup : l.Nodup
  lt : ∀ p ∈ l, p < n
theorem prm_ok (n : Nat) : ∀ (k : Nat) (l : List Nat), l ∈ prm n k → PrmOk n k l
  | 0, l, h => by
    have : l = [] := by simpa [prm] using h
    subst this
    exact ⟨rfl, List.nodup_nil, fun p hp => by simp at hp⟩
  | k + 1, l, h => by
    obtain ⟨l0, h0, h1⟩ := List.mem_flatMap.1 h
    obtain ⟨p, hp, rfl⟩ := List.mem_map.1 h1
    obtain ⟨a, b, c⟩ := prm_ok n k l0 h0
    unfold freshP at hp
    rw [List.mem_filter, List.mem_range] at hp
    have hn : p ∉ l0 := fun hm => by have := hp.2; rw [List.contains_iff_mem.2 hm] at this; cases this
    refine ⟨by simp [a], ?_, fun q hq => ?_⟩
    · rw [List.nodup_append]
      exact ⟨b, by simp, fun x hx y hy => by simp at hy; subst hy; exact fun e => hn (e ▸ hx)⟩
    · rcases List.mem_append.1 hq with hq | hq
      · exact c q hq
      · simp at hq; subst hq; exact hp.1
theorem PrmOk.all {n : Nat} {l : List Nat} (h : PrmOk n n l) : ∀ p, p < n → p ∈ l := by
  intro i hi
  refine Classical.byContradiction fun hni => ?_
  have := sub_len (i :: l) (List.range n) (List.nodup_cons.2 ⟨hni, h.nodup⟩) (fun x hx => by
    rcases List.mem_cons.1 hx with rfl | hx
    · exact List.mem_range.2 hi
    · exact List.mem_range.2 (h.lt x hx))
  have h2 := h.len
  simp at this
  omega
theorem idx_topo {ps : List (Nat × Nat)} {l : List Nat} (hn : l.Nodup) (h : ∀ i j, (i, j) ∈ ps → i ∈ l ∧ l.idxOf i < l.idxOf j) : TopoU ps l := by
  intro A j C e i hi
  obtain ⟨h1, h2⟩ := h i j hi
  have hj : j ∉ A := fun hj => by
    rw [e] at hn
    have := (List.nodup_append.1 hn).2.2 j hj j (by simp)
    exact this rfl
  rw [e] at h1 h2
  rcases List.mem_append.1 h1 with h3 | h3
  · exact h3
  · exfalso
    have hA : l.idxOf j = A.length := by
      rw [e, List.idxOf_append, if_neg hj]
      simp
    by_cases hiA : i ∈ A
    · rcases List.mem_cons.1 h3 with rfl | h3
      · exact hj hiA
      · rw [e] at hn
        exact (List.nodup_append.1 hn).2.2 i hiA i (List.mem_cons_of_mem _ h3) rfl
    · rw [← e, hA, e, List.idxOf_append, if_neg hiA] at h2
      omega
open Classical in
theorem allO_exts {L : List Nat} (hlow : ∀ R ∈ L, R < 2 ^ L.length) : allO L = exts L.length (pairsL L) L.length [] := by
  unfold allO
  split
  · rfl
  · rename_i h
    rw [exts_all, ← lev_filter, eq_comm, List.filter_eq_nil_iff]
    intro l hl hc
    have hp := prm_ok _ _ l hl
    exact h (line_sort hlow ⟨hp.nodup, hp.lt, of_decide_eq_true hc⟩ hp.len)
/-- Of all lists those that are linear are the orders. -/
theorem all_good {L : List Nat} (hn : L.length ≤ 256) (hlow : ∀ R ∈ L, R < 2 ^ L.length) : (prm L.length L.length).filter (fun l => linB L (toI l)) = allO L := by
  classical
  rw [allO_exts hlow, exts_all, ← lev_filter]
  have hps := fun p q => pairs_of (tab_two L) hn hlow p q
  apply List.filter_congr
  intro l hl
  have hp := prm_ok _ _ l hl
  rw [Bool.eq_iff_iff, decide_eq_true_eq, lin_iff hps hp.nodup hp.lt hp.len hp.all]
  constructor
  · intro h
    exact idx_topo hp.nodup (fun i j hij => ⟨hp.all i ((hps i j).1 hij).1, h i j ((hps i j).1 hij).1 ((hps i j).1 hij).2.1 ((hps i j).1 hij).2.2⟩)
  · intro h p q hp' hq hF
    exact topo_idx h hp.nodup ((hps p q).2 ⟨hp', hq, hF⟩) (hp.all q hq)
end Go.Proofs.YtmmgdeoballhpaaDoor
/- Where there is any order with the pairs together, Glue tells one. -/
namespace Go.Proofs.YtmmgdeoballhpaaDoor
open Go.RowKit Go.Shelf Sx

theorem gluF_of (n : Nat) : ∀ (l : List (Int × Int)) (bs bs' : List (List Nat)) (O : List Nat) (X : List Int) (U : List Bool), GlOf n bs O X U → gluF n l bs = some bs' →
    ∃ O' X' U', GlOf n bs' O' X' U' ∧ ∀ p q : Nat, p < n → X'.getD p 0 = (q : Int) → X.getD p 0 = (q : Int) ∨ ((p : Int), (q : Int)) ∈ l
  | [], bs, bs', O, X, U, h, hg => by
    have hg : some bs = some bs' := hg
    injection hg with hg
    subst hg
    exact ⟨O, X, U, h, fun p q _ hx => .inl hx⟩
  | (a, b) :: l, bs, bs', O, X, U, h, hg => by
    rw [gluF] at hg
    split at hg
    · rename_i hc
      obtain ⟨h1, h2, h3⟩ := hc
      rw [h.free, Bool.and_eq_true, Bool.not_eq_true'] at h2 h3
      obtain ⟨i, rfl, hi⟩ := inR_true h2.1
      obtain ⟨j, rfl, hj⟩ := inR_true h3.1
      rw [Int.toNat_natCast] at h2 h3
      have hij : i ≠ j := fun e => h1 (by rw [e])
      rw [Int.toNat_natCast, Int.toNat_natCast] at hg
      obtain ⟨O', X', U', g1, g2⟩ := gluF_of n l _ bs' _ _ _ (h.step hi hj hij h2.2 h3.2) hg
      refine ⟨O', X', U', g1, fun p q hp hx => ?_⟩
      rcases g2 p q hp hx with e | e
      · rw [getD_setU _ _ _ _ _ (by rw [h.lx]; exact hi)] at e
        by_cases e2 : i = p
        · rw [if_pos e2] at e
          right
          have : j = q := by exact_mod_cast e
          rw [← e2, ← this]
          exact List.mem_cons_self ..
        · rw [if_neg e2] at e
          exact .inl e
      · exact .inr (List.mem_cons_of_mem _ e)
    · cases hg
/-- Next to one another in an order. -/
theorem idx_next {o : List Nat} (hn : o.Nodup) {p q j : Nat} (h1 : o[j]? = some p) (h2 : o[j + 1]? = some q) : o.idxOf q = o.idxOf p + 1 := by
  obtain ⟨hj, e1⟩ := List.getElem?_eq_some_iff.1 h1
  obtain ⟨hj2, e2⟩ := List.getElem?_eq_some_iff.1 h2
  rw [← e1, ← e2, hn.idxOf_getElem, hn.idxOf_getElem]
theorem idx_inj {o : List Nat} {u v : Nat} (hu : u ∈ o) (h : o.idxOf u = o.idxOf v) : u = v := by
  have h1 : o.idxOf u < o.length := List.idxOf_lt_length_of_mem hu
  have h2 : o.idxOf v < o.length := h ▸ h1
  have e1 := List.getElem_idxOf h1
  have e2 := List.getElem_idxOf h2
  rw [← e1, ← e2]
  simp only [h]
theorem glue_all {L : List Nat} (hn : L.length ≤ 256) (hlow : ∀ R ∈ L, R < 2 ^ L.length) {l : List (Int × Int)} {o : List Nat} (ho : PrmOk L.length L.length o) (hlin : linB L (toI o) = true)
    (htog : ∀ x ∈ l, ∃ j : Nat, (toI o)[j]? = some x.1 ∧ (toI o)[j + 1]? = some x.2) (h1 : (glueF L l).2 ≠ 1) : (glueF L l).2 = 0 := by
  cases hg : gluF L.length l (glInit L.length) with
  | none =>
    have : glueF L l = ([], 1) := by simp [glueF, glB, hg]
    rw [this] at h1
    exact absurd rfl h1
  | some bs =>
    have hT := tab_two L
    have hps := fun p q => pairs_of hT hn hlow p q
    obtain ⟨O, X, U, h, hX⟩ := gluF_of L.length l _ bs _ _ _ (GlOf.start L.length) hg
    have hX2 : ∀ p q : Nat, p < L.length → X.getD p 0 = (q : Int) → o.idxOf q = o.idxOf p + 1 := by
      intro p q hp hx
      rcases hX p q hp hx with e | e
      · exfalso
        rw [List.getD_eq_getElem?_getD, List.getElem?_replicate, if_pos hp] at e
        simp at e
      · obtain ⟨j, e1, e2⟩ := htog _ e
        refine idx_next ho.nodup (j := j) ?_ ?_
        · simp only [toI, List.getElem?_map, Option.map_eq_some_iff] at e1
          obtain ⟨a, ha, e1⟩ := e1
          have : a = p := by exact_mod_cast e1
          rw [ha, this]
        · simp only [toI, List.getElem?_map, Option.map_eq_some_iff] at e2
          obtain ⟨a, ha, e2⟩ := e2
          have : a = q := by exact_mod_cast e2
          rw [ha, this]
    have hlt := (lin_iff hps ho.nodup ho.lt ho.len ho.all).1 hlin
    have hin : ∀ p, p < L.length → p = O.getD p 0 ∨ o.idxOf p = o.idxOf (O.getD p 0) + 1 := by
      intro p hp
      obtain ⟨u1, u2, u3, _⟩ := h.unit hp
      rcases h.cases u1 u2 with e | ⟨x, e, hx, _⟩
      · rw [e] at u3
        exact .inl (by simpa using u3)
      · rw [e] at u3
        rcases List.mem_cons.1 u3 with e3 | e3
        · exact .inl e3
        · have : p = x := by simpa using e3
          subst this
          exact .inr (hX2 _ p u1 hx)
    have hgood : ∀ u, u < L.length → SmU L.length (tabF L) O X u u = false := by
      intro u hu
      rw [Bool.eq_false_iff]
      intro hs
      obtain ⟨p, q, hp, hq, hF, hXp, hOp, hOq⟩ := SmU_iff.1 hs
      have h3 := hlt p q hp hq hF
      have hpi := hin p hp
      have hqi := hin q hq
      rw [hOp] at hpi
      rw [hOq] at hqi
      rcases hpi with e1 | e1
      · subst e1
        rcases hqi with e2 | e2
        · subst e2; omega
        · have hup := (h.unit hp)
          rw [hOp] at hup
          rcases h.cases hp hOp with e | ⟨x, e, hx, _⟩
          · have := (h.unit hq).2.2.1
            rw [hOq, e] at this
            have : q = p := by simpa using this
            subst this
            omega
          · have := (h.unit hq).2.2.1
            rw [hOq, e] at this
            rcases List.mem_cons.1 this with e4 | e4
            · subst e4; omega
            · have : q = x := by simpa using e4
              subst this
              exact hXp hx
      · rcases hqi with e2 | e2
        · subst e2; omega
        · omega
    rw [glue_good hg h hT hn hlow hgood]
    have hbl : (bs.filter (fun b => !b.isEmpty)).length = (fsts L.length O).length := by rw [h.blocks, List.length_map]
    have hle : (betw L (bs.filter (fun b => !b.isEmpty))).length = (fsts L.length O).length := by rw [betw_length, hbl]
    have hfl : (fsts L.length O).length ≤ L.length := by
      have := List.length_filter_le (fun p => O.getD p 0 == p) (List.range L.length)
      rw [List.length_range] at this
      exact this
    have hs := sort_all (betw L (bs.filter (fun b => !b.isEmpty))) (fun i => o.idxOf ((fsts L.length O).getD i 0)) (fun i j hij => by
      have hbw := betw_two L (bs.filter (fun b => !b.isEmpty))
      have hb := pairsL_lt (betw_low _ _) _ hij
      refine ⟨hb.1, ?_⟩
      have hB := (hbw.pairs (by omega) (betw_low _ _) hb.1 hb.2).2 hij
      obtain ⟨u, hu1, hu2, hu3, hu4⟩ := fs_at (n := L.length) (O := O) (i := i) (by omega)
      obtain ⟨v, hv1, hv2, hv3, hv4⟩ := fs_at (n := L.length) (O := O) (i := j) (by omega)
      obtain ⟨hne, p, q, hp, hq, hF, hOp, hOq⟩ := (BF_iff h hps hu1 hv1).1 hB
      have h3 := hlt p q hp hq hF
      have hpi := hin p hp
      have hqi := hin q hq
      rw [hOp] at hpi
      rw [hOq] at hqi
      show o.idxOf ((fsts L.length O).getD i 0) < o.idxOf ((fsts L.length O).getD j 0)
      rw [hu2, hv2]
      have hne2 : o.idxOf u ≠ o.idxOf v := fun e => hne (idx_inj (ho.all u hu3) e)
      rcases hpi with e1 | e1
      · rcases hqi with e2 | e2
        · rw [← e1, ← e2]; exact h3
        · rw [← e1] at hne2 ⊢; omega
      · rcases hqi with e2 | e2
        · rw [← e2]; omega
        · omega)
    rw [if_pos (by rw [hs, hle])]
end Go.Proofs.YtmmgdeoballhpaaDoor
/- What OrderAll's loops have, as maths. -/
namespace Go.Proofs.YtmmgdeoballhpaaDoor
open Go.RowKit Go.Shelf Sx

theorem prm_small : ∀ m, m ≤ 5 → ∀ k, k ≤ 5 → (prm m k).length ≤ 200 := by
  intro m hm k hk
  have h : ∀ m : Fin 6, ∀ k : Fin 6, (prm m.1 k.1).length ≤ 200 := by decide +kernel
  exact h ⟨m, by omega⟩ ⟨k, by omega⟩
/-- The points below p that are not there. -/
def freshK (l : List Nat) (p : Nat) : List Nat := (List.range p).filter (fun q => !l.contains q)
theorem freshK_zero (l : List Nat) : freshK l 0 = [] := rfl
theorem freshK_yes {l : List Nat} {p : Nat} (h : l.contains p = false) : freshK l (p + 1) = freshK l p ++ [p] := by
  unfold freshK
  rw [List.range_succ, List.filter_append, List.filter_cons_of_pos (by show (!l.contains p) = true; rw [h]; rfl)]
  rfl
theorem freshK_no {l : List Nat} {p : Nat} (h : l.contains p = true) : freshK l (p + 1) = freshK l p := by
  unfold freshK
  rw [List.range_succ, List.filter_append, List.filter_cons_of_neg (by show ¬ (!l.contains p) = true; rw [h]; simp)]
  exact List.append_nil _
/-- The lists that are laid where the list i is at hand, its points looked at up to p. -/
def nextK (m : Nat) (ls : List (List Nat)) (i : Nat) (l : List Nat) (p : Nat) : List (List Nat) := moreP m (ls.take i) ++ (freshK l p).map (fun q => l ++ [q])
theorem nextK_zero (m : Nat) (ls : List (List Nat)) (i : Nat) (l : List Nat) : nextK m ls i l 0 = moreP m (ls.take i) := by simp [nextK, freshK_zero]
theorem nextK_yes {m : Nat} {ls : List (List Nat)} {i : Nat} {l : List Nat} {p : Nat} (h : l.contains p = false) : nextK m ls i l (p + 1) = nextK m ls i l p ++ [l ++ [p]] := by
  unfold nextK
  rw [freshK_yes h, List.map_append, List.append_assoc]
  rfl
theorem nextK_no {m : Nat} {ls : List (List Nat)} {i : Nat} {l : List Nat} {p : Nat} (h : l.contains p = true) : nextK m ls i l (p + 1) = nextK m ls i l p := by
  unfold nextK
  rw [freshK_no h]
theorem nextK_all {m : Nat} {ls : List (List Nat)} {i : Nat} {l : List Nat} (h : ls[i]? = some l) : nextK m ls i l m = moreP m (ls.take (i + 1)) := by
  obtain ⟨hi, e⟩ := List.getElem?_eq_some_iff.1 h
  unfold nextK moreP
  rw [List.take_succ_eq_append_getElem hi, List.flatMap_append, e]
  simp [freshK, freshP]
theorem moreP_all (m : Nat) (ls : List (List Nat)) {i : Nat} (h : i = ls.length) : moreP m (ls.take i) = moreP m ls := by rw [h, List.take_length]
/-- Every list that is gone through is among them. -/
theorem mem_prm (n : Nat) : ∀ (k : Nat) (l : List Nat), PrmOk n k l → l ∈ prm n k
  | 0, l, h => by
    have : l = [] := List.length_eq_zero_iff.1 h.len
    subst this
    simp [prm]
  | k + 1, l, h => by
    have hne : l ≠ [] := fun e => by have := h.len; rw [e] at this; simp at this
    have hl := h.len
    have hd : (l.dropLast).length = k := by rw [List.length_dropLast]; omega
    have e := List.dropLast_concat_getLast hne
    generalize l.getLast hne = p at e
    generalize l.dropLast = l0 at e hd
    subst e
    have hn := List.nodup_append.1 h.nodup
    have hp : p ∉ l0 := fun hp => hn.2.2 p hp p (by simp) rfl
    refine List.mem_flatMap.2 ⟨l0, mem_prm n k l0 ⟨hd, hn.1, fun q hq => h.lt q (List.mem_append_left _ hq)⟩, List.mem_map.2 ⟨p, ?_, rfl⟩⟩
    unfold freshP
    rw [List.mem_filter, List.mem_range]
    refine ⟨h.lt p (by simp), ?_⟩
    have : l0.contains p = false := by rw [Bool.eq_false_iff]; intro hc; exact hp (List.contains_iff_mem.1 hc)
    rw [this]
    rfl
theorem puts_ok (n : Nat) : ∀ (l : List Nat) (k : Nat) (pl pl' : List Int), pl.length = n → putsF n (toI l) k pl = some pl' → l.Nodup ∧ ∀ x ∈ l, x < n ∧ pl.getD x 0 = 0
  | [], _, _, _, _, _ => ⟨List.nodup_nil, fun x hx => by simp at hx⟩
  | x :: l, k, pl, pl', hl, h => by
    rw [show toI (x :: l) = ((x : Nat) : Int) :: toI l from rfl, putsF] at h
    split at h
    · rename_i hc
      obtain ⟨i, hi, hin⟩ := inR_true hc.1
      have hxi : x = i := by exact_mod_cast hi
      subst hxi
      rw [Int.toNat_natCast] at h hc
      obtain ⟨h1, h2⟩ := puts_ok n l (k + 1) _ pl' (by rw [List.length_set, hl]) h
      have hx : ∀ y ∈ l, y ≠ x := fun y hy e => by
        subst e
        have := (h2 y hy).2
        rw [List.getD_eq_getElem?_getD, List.getElem?_set, if_pos rfl, if_pos (by rw [hl]; exact hin)] at this
        simp at this
        omega
      refine ⟨List.nodup_cons.2 ⟨fun hm => hx x hm rfl, h1⟩, fun y hy => ?_⟩
      rcases List.mem_cons.1 hy with rfl | hy
      · exact ⟨hin, hc.2⟩
      · refine ⟨(h2 y hy).1, ?_⟩
        have := (h2 y hy).2
        rw [List.getD_eq_getElem?_getD, List.getElem?_set, if_neg (fun e => hx y hy e.symm)] at this
        rw [List.getD_eq_getElem?_getD]
        exact this
    · cases h
theorem lin_prm {L : List Nat} {l : List Nat} (h : linB L (toI l) = true) : PrmOk L.length L.length l := by
  unfold linB at h
  rw [Bool.and_eq_true, beq_iff_eq, toI_length] at h
  cases hp : putsF L.length (toI l) 0 (List.replicate L.length 0) with
  | none => rw [hp] at h; exact absurd h.2 (by simp)
  | some pl =>
    obtain ⟨h1, h2⟩ := puts_ok L.length l 0 _ pl (by simp) hp
    exact ⟨h.1, h1, fun p hp => (h2 p hp).1⟩
/-- Sort's order is the first. -/
theorem exts_first (n : Nat) (ps : List (Nat × Nat)) : ∀ (f : Nat) (pts : List Nat), pts.length + f = n → (srt n ps (f + 1) pts).length = n → ∃ r, exts n ps f pts = srt n ps (f + 1) pts :: r
  | 0, pts, hl, hs => by
    rw [srt] at hs ⊢
    split at hs
    · exfalso
      simp only [srt, List.length_append, List.length_singleton] at hs
      omega
    · rename_i h
      rw [if_neg h]
      exact ⟨[], rfl⟩
  | f + 1, pts, hl, hs => by
    rw [srt] at hs ⊢
    split at hs
    · rename_i h
      rw [if_pos h]
      have h' : 0 ≤ fz ((wAll n ps pts).drop 0) := by rw [List.drop_zero]; exact h
      obtain ⟨p, e, _, hp, h0, hlo⟩ := fz_drop_some h'
      rw [List.drop_zero] at e
      have ep : (fz (wAll n ps pts)).toNat = p := by omega
      rw [ep] at hs ⊢
      obtain ⟨r, hr⟩ := exts_first n ps f (pts ++ [p]) (by simp; omega) hs
      rw [exts, cands_least hp (Nat.zero_le _) h0 hlo, List.flatMap_cons, hr]
      exact ⟨_, rfl⟩
    · exfalso
      omega
theorem allO_first {L : List Nat} (h : (sortOf L).length = L.length) : ∃ r, allO L = sortOf L :: r := by
  rw [allO, if_pos h]
  exact exts_first L.length (pairsL L) L.length [] (by simp) h
end Go.Proofs.YtmmgdeoballhpaaDoor
