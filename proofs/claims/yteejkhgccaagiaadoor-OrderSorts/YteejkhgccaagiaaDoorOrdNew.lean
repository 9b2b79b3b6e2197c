/- Package order's newLine. -/
import Derived.Test.YteejkhgccaagiaaDoorOrdNewM
import Derived.Test.YteejkhgccaagiaaDoorOrdLin
import Derived.Deep.RegionLaw
import Derived.Deep.DeepCutAuto
import Derived.Deep.AppendLies
namespace Go.Proofs.YteejkhgccaagiaaDoor
open Go.RowKit Go.Shelf Sx

theorem nlk_0 {w wx w' : World} {l bh wt n : Nat} (h : NL0 w wx l bh wt n) (hb : Below wx.heap.size wx w') : NLk w' w'.heap.size l bh wt n (List.replicate n (.slice none 0 0)) (bkOf n []) (wtOf n []) := by
  have e1 : wtOf n [] = List.replicate n 0 := by
    apply List.ext_getElem?
    intro p
    by_cases hp : p < n
    · rw [wtOf_at _ hp, List.getElem?_replicate, if_pos hp]; rfl
    · rw [List.getElem?_eq_none (by rw [wtOf_length]; omega), List.getElem?_eq_none (by simp; omega)]
  have z := hb.size
  refine ⟨h.st.of_below hb, h.bhB.of_below hb, by rw [e1]; exact h.wtB.of_below hb, by simp, by rw [bkOf_length], ?_, ?_, ?_, h.ne, Nat.le_refl _⟩
  · intro p v bl hv hbl
    rw [List.getElem?_replicate] at hv
    split at hv
    · rename_i hp
      rw [bkOf_at _ hp] at hbl
      injection hv with hv
      injection hbl with hbl
      subst hv; subst hbl
      exact World.ownsRow_nil _ _ _ _
    · cases hv
  · intro p q v u g _ hv _ hg
    rw [List.getElem?_replicate] at hv
    split at hv
    · injection hv with hv
      subst hv
      cases hg
    · cases hv
  · have := h.st.lt; have := h.bhB.lt; have := h.wtB.lt; omega
theorem cellA' {w : World} {a : Addr} {v : Value} (h : w.cell? a = some v) (o : Obj) : (w.alloc o).cell? a = some v := by
  have hb := World.block_lt_of_cell? w _ h
  exact (((Below.refl _ w).alloc (Nat.le_refl _) o).cell (p := a) hb).trans h
theorem cell_setOther {w : World} {a c : Addr} (h : c.block ≠ a.block) (v : Value) : (w.setCell a v).cell? c = w.cell? c := by
  unfold World.cell?
  rw [Below.heap_setCell w a v c.block h]
theorem ne_pairB {w : World} {base : Nat} {v : Value} {n : Nat} {xs : List Value} {B : Nat} {cs : Array Value} (h : w.ownsRow base 3 1 v n xs) (hB : Blk w B 37 cs) : some B ≠ v.ownBlock := by
  rcases h.2 with ⟨rfl, _⟩ | ⟨g, cap, cur, rfl, hg, hb, _⟩
  · simp [Value.ownBlock]
  · intro e'
    simp [Value.ownBlock] at e'
    subst e'
    have h4 : w.heap[B]? = some (.cells cs 37 (0, 0)) := hB
    rw [hb] at h4
    simp at h4
theorem nl_end {W w2 w5 : World} {l bh wt n a b2 B5 : Nat} {vs : List Value} {rows : List (List Nat)} {wts : List Int} {v : Value} {bl : List Nat} {g cp : Nat} {o : Obj} (h : NLk W w2.heap.size l bh wt n vs rows wts) (hv : vs[a]? = some v) (hbl : rows[a]? = some bl)
    (ho : W.ownsRow w2.heap.size 3 1 v bl.length (encN bl))
    (hown2 : w5.ownsRow w2.heap.size 3 1 (.slice (some ⟨g, 0, none⟩) (bl.length + 1) cp) (bl.length + 1) (encN bl ++ [.int .i64 (b2 : Int)])) (hgrow : (W.drew.alloc o).grownBy w5 v.ownBlock) (hat : v.ownBlock = some g ∨ g = (W.drew.alloc o).heap.size)
    (hp5 : Blk w5 B5 37 #[.int .i64 (a : Int), .int .i64 (b2 : Int)]) (hB5 : w2.heap.size ≤ B5) (hKW : Keep2 bh wt w2.heap.size w2 W) :
    ∃ vs', NLk (w5.setCell ⟨bh, a, none⟩ (.slice (some ⟨g, 0, none⟩) (bl.length + 1) cp)) w2.heap.size l bh wt n vs' (rows.set a (bl ++ [b2])) wts ∧ Blk (w5.setCell ⟨bh, a, none⟩ (.slice (some ⟨g, 0, none⟩) (bl.length + 1) cp)) B5 37 #[.int .i64 (a : Int), .int .i64 (b2 : Int)] ∧ Keep2 bh wt w2.heap.size w2 (w5.setCell ⟨bh, a, none⟩ (.slice (some ⟨g, 0, none⟩) (bl.length + 1) cp)) := by
  have hbW : Below W.heap.size W (W.drew.alloc o) := (Below.refl _ _).drew.alloc (Nat.le_refl _) _
  have hA := h.step hbW
  have hlo := h.low
  refine ⟨_, hA.app hv hbl hown2 hgrow hat, hp5.setOther (by simp; omega) _, ?_⟩
  have hk1 : Keep2 bh wt w2.heap.size W w5 := ⟨hgrow.os.trans hbW.os, hgrow.tape.trans hbW.tape, hgrow.output.trans hbW.output, Nat.le_trans hbW.size hgrow.size, fun k hk _ _ => (hgrow.block k (by have := h.hN; have := hbW.size; omega) (owns_ne ho hk)).trans (hbW.block k (by have := h.hN; omega))⟩
  exact (hKW.trans hk1).setL _
theorem NLk.drew {wr : World} {N1 l bh wt n : Nat} {vs : List Value} {rows : List (List Nat)} {wts : List Int} (h : NLk wr N1 l bh wt n vs rows wts) : NLk wr.drew N1 l bh wt n vs rows wts := h.step ((Below.refl _ _).drew)
theorem Keep2.drew {l wt N : Nat} {a b : World} (h : Keep2 l wt N a b) : Keep2 l wt N a b.drew := ⟨h.os, h.tape, h.output, h.size, h.block⟩
set_option linter.unusedSimpArgs false in
set_option maxRecDepth 100000 in
set_option maxHeartbeats 8000000 in
theorem oNewLine_calls (b c : Nat) (L : List Nat) (w : World) (h : IsRel w b c L) (hT : Tab w) :
    Calls Tryd.prog 64 #[pv b] w fun e w' => ∃ N1 l bh wt vs, e = .returned (pv l) ∧ w.heap.size ≤ l ∧ w.heap.size ≤ bh ∧ w.heap.size ≤ wt ∧ NLk w' N1 l bh wt L.length vs (bkOf L.length (pairsL L)) (wtOf L.length (pairsL L)) ∧ Below w.heap.size w w' := by
  have hl := h.len
  have hm1 := make_ints L.length (by omega)
  have hm2 := make_intss L.length (by omega)
  obtain ⟨i0, hi, hz0, hz1, hz2⟩ := info_parts Tryd.infoint
  go_enter Tryd.func64, Tryd.ntmps64
  go_wp2_with fail
  go_cut [3] (fun v3 wx => ∃ l bh wt, v3 = pv l ∧ NL0 w wx l bh wt L.length)
  case first =>
    go_region_with (go_at_call 30; refine (Len_calls b c L _ (by first | exact h.drew | exact h.drew.alloc _ | exact (h.drew.alloc _).alloc _)).mono ?_; rintro e w' ⟨rfl, hw'⟩; cases hw')
    all_goals
      go_wp2_with fail
      go_meet
      first
      | exact ⟨_, _, _, rfl, nl0_a w L.length⟩
      | exact ⟨_, _, _, rfl, nl0_b w L.length⟩
  case rest =>
    obtain ⟨l, bh, wt, rfl, hN⟩ := hcut
    clear hm1 hm2
    go_wp2_with fail
    refine (Pairs_calls b c L _ (h.below hN.below) (hT.step hN.below)).mono ?_
    rintro e w2 ⟨v1, rfl, ho, hB1⟩
    have hk0 := nlk_0 hN hB1
    have hB2 : Below w.heap.size w w2 := below_step hN.below hN.below.size hB1
    have hlo := hN.lo
    have hpv := owns_pv ho
    have hlen : (pairsL L).length ≤ 65536 := by have := pairsK_length L L.length; simp only [pairsL]; omega
    have hlow : ∀ x ∈ pairsL L, x.1 < L.length ∧ x.2 < L.length := pairsL_lt h.low
    have hsN : ∀ s cap, v1 = .slice (some ⟨s, 0, none⟩) (pairsL L).length cap → 0 < (pairsL L).length → s < w2.heap.size ∧ s ≠ bh ∧ s ≠ wt := by
      intro s cap e h0
      rcases owns_prs ho with ⟨e2, e3⟩ | ⟨s2, cap2, e2, hs, hp⟩
      · rw [e3] at h0; exact absurd h0 (by simp)
      · rw [e2] at e
        injection e with e _ _
        injection e with e
        injection e with e _ _
        subst e
        have := hp.lt; have := hN.bhB.lt; have := hN.wtB.lt
        omega
    clear hN ho hB1
    obtain ⟨p1, cap1, rfl, hpv⟩ := hpv
    have HPV := hid_of hpv
    have HSN := hid_of hsN
    have HLW := hid_of hlow
    have HK0 := hid_of hk0
    clear hpv hsN hlow hk0
    generalize hps : pairsL L = ps at *
    go_wp2_with fail
    go_loopw [17] (fun i wr => ∃ (k : Nat) (vs : List Value), k ≤ ps.length ∧ i = .int .i64 k ∧ Hid (NLk wr w2.heap.size l bh wt L.length vs (bkOf L.length (ps.take k)) (wtOf L.length (ps.take k))) ∧ Keep2 bh wt w2.heap.size w2 wr) (fun i _ => ps.length - (intOf i).toNat)
    case atStart => exact ⟨0, _, by omega, rfl, HK0, Keep2.refl _ _ _ _⟩
    case round =>
      clear HK0
      obtain ⟨k, vs, hk, rfl, HK, hKeep⟩ := hrel
      by_cases hlt : k < ps.length
      · obtain ⟨s, rfl, hs⟩ := HPV.out (by omega)
        obtain ⟨hs1, hs2, hs3⟩ := HSN.out s cap1 rfl (by omega)
        obtain ⟨⟨a, b2⟩, hx⟩ : ∃ x, ps[k]? = some x := ⟨_, List.getElem?_eq_getElem hlt⟩
        obtain ⟨ha, hb⟩ := HLW.out _ (List.mem_of_getElem? hx)
        have hsr := hs.keep2 hKeep hs1 hs2 hs3
        have c0 := hsr.fst k _ hx
        have c1 := hsr.snd k _ hx
        have hnl := HK.out
        have s1 := hnl.st.cell (j := 1) rfl
        have s2 := hnl.st.cell (j := 2) rfl
        obtain ⟨v, hv⟩ : ∃ v, vs[a]? = some v := ⟨_, List.getElem?_eq_getElem (by rw [hnl.vlen]; exact ha)⟩
        have hbl := bkOf_at (n := L.length) (ps.take k) ha
        have hwb := wtOf_at (n := L.length) (ps.take k) hb
        have x0 : wr.cell? ⟨bh, a, none⟩ = some v := hnl.bhB.cell (by simpa using hv)
        have y0 := hnl.wtB.cellI hwb
        have a0 : (0 : Int) ≤ (a : Int) := by omega
        have a1 : (a : Int) < (L.length : Int) := by omega
        have b0 : (0 : Int) ≤ (b2 : Int) := by omega
        have b1 : (b2 : Int) < (L.length : Int) := by omega
        have lr := Nat.le_refl wr.heap.size
        have nr := hnl.hN
        have n1 := hnl.st.lt
        have n2 := hnl.bhB.lt
        have n3 := hnl.wtB.lt
        go_wp2_with fail
        have hbW := (Below.refl wr.heap.size wr).alloc (Nat.le_refl _) (.cells #[.int .i64 a, .int .i64 b2] 37)
        have hnW := hnl.step hbW
        have hpW := Blk.new wr 37 #[.int .i64 (a : Int), .int .i64 (b2 : Int)]
        have hKW : Keep2 bh wt w2.heap.size w2 (wr.alloc (.cells #[.int .i64 a, .int .i64 b2] 37)) := hKeep.trans (Keep2.of_below (hbW.mono nr))
        have hB5 : w2.heap.size ≤ wr.heap.size := nr
        clear c0 c1 s1 s2 x0 y0 hnl hsr hs HK hKeep hbW lr n1 n2 n3
        generalize wr.alloc (.cells #[.int .i64 a, .int .i64 b2] 37) = W at *
        generalize wr.heap.size = B5 at *
        have hBl : Hid ((bkOf L.length (ps.take k))[a]? = some (((ps.take k).filter (fun x => x.1 == a)).map (·.2))) := hbl
        have hbll : (((ps.take k).filter (fun x => x.1 == a)).map (·.2)).length ≤ 65536 := by
          rw [List.length_map]
          have h1 := List.length_filter_le (fun x : Nat × Nat => x.1 == a) (ps.take k)
          have h2 : (ps.take k).length ≤ ps.length := by rw [List.length_take]; omega
          omega
        clear hbl
        have HRE : Hid (bkOf L.length (ps.take (k + 1)) = (bkOf L.length (ps.take k)).set a ((((ps.take k).filter (fun x => x.1 == a)).map (·.2)) ++ [b2])) := by
          show _ = _
          rw [List.take_add_one, hx]
          refine (bkOf_snoc _ ha).trans ?_
          rw [List.getD_eq_getElem?_getD, hBl.out]; rfl
        have HWE : Hid (wtOf L.length (ps.take (k + 1)) = (wtOf L.length (ps.take k)).set b2 ((((ps.take k).filter (fun x => x.2 == b2)).length : Int) + 1)) := by
          show _ = _
          rw [List.take_add_one, hx]
          refine (wtOf_snoc _ hb).trans ?_
          rw [List.getD_eq_getElem?_getD, hwb]; rfl
        have hwl : (((ps.take k).filter (fun x => x.2 == b2)).length) ≤ 65536 := by
          have h1 := List.length_filter_le (fun x : Nat × Nat => x.2 == b2) (ps.take k)
          have h2 : (ps.take k).length ≤ ps.length := by rw [List.length_take]; omega
          omega
        have HWB := hid_of hwb
        clear hwb hx
        generalize ((ps.take k).filter (fun x => x.1 == a)).map (·.2) = bl at *
        generalize ((ps.take k).filter (fun x => x.2 == b2)).length = wn at *
        generalize bkOf L.length (ps.take k) = rows at *
        generalize wtOf L.length (ps.take k) = wts at *
        go_cut [] (fun wx => ∃ vs', NLk wx w2.heap.size l bh wt L.length vs' (rows.set a (bl ++ [b2])) wts ∧ Blk wx B5 37 #[.int .i64 (a : Int), .int .i64 (b2 : Int)] ∧ Keep2 bh wt w2.heap.size w2 wx)
        case first =>
          clear HRE HWE HWB HPV HSN HLW
          have hown := hnW.own a v bl hv hBl
          have hlo1 := hnW.low
          have hne1 := hnW.ne
          have hNW := hnW.hN
          have SW : W.drew.cell? ⟨l, 1, none⟩ = some (.slice (some ⟨bh, 0, none⟩) L.length L.length) ∧ W.drew.cell? ⟨B5, 0, none⟩ = some (.int .i64 a) ∧ W.drew.cell? ⟨B5, 1, none⟩ = some (.int .i64 b2) := ⟨hnW.st.cell (j := 1) rfl, hpW.cell (j := 0) rfl, hpW.cell (j := 1) rfl⟩
          have SA : (W.drew.alloc (.cells #[.int .i64 b2] 3)).cell? ⟨l, 1, none⟩ = some (.slice (some ⟨bh, 0, none⟩) L.length L.length) ∧ (W.drew.alloc (.cells #[.int .i64 b2] 3)).cell? ⟨B5, 0, none⟩ = some (.int .i64 a) ∧ (W.drew.alloc (.cells #[.int .i64 b2] 3)).cell? ⟨B5, 1, none⟩ = some (.int .i64 b2) := ⟨cellA' SW.1 _, cellA' SW.2.1 _, cellA' SW.2.2 _⟩
          have x0 : W.drew.cell? ⟨bh, a, none⟩ = some v := hnW.bhB.cell (by simpa using hv)
          have x2 : W.cell? ⟨bh, a, none⟩ = some v := x0
          have nb : bh ≠ W.heap.size := by have := hnW.bhB.lt; omega
          have nb2 : W.heap.size ≠ bh := fun e => nb e.symm
          have nb3 : bh < W.heap.size := hnW.bhB.lt
          have HN := hid_of hnW
          have HP := hid_of hpW
          have HO := hid_of hown
          have HV := hid_of hv
          clear hnW hpW hown hv
          refine wp_region_held_drew (S := (fun w' => w'.cell? ⟨l, 1, none⟩ = some (.slice (some ⟨bh, 0, none⟩) L.length L.length) ∧ w'.cell? ⟨B5, 0, none⟩ = some (.int .i64 a) ∧ w'.cell? ⟨B5, 1, none⟩ = some (.int .i64 b2))) (by kernel_rfl) SW (fun hHeld => ?_)
          refine wpAnyH_take (i := 0) (v := ?_) rfl (by kernel_rfl) (by kernel_rfl) (by kernel_rfl) (fun _ _ _ h => h) (Or.inl ⟨by rfl, ?_⟩) (by assumption) ?_
          rotate_left
          · (intro w hSw; (try dsimp only at hSw); go_simp) <;> with_reducible rfl
          simp only [Act.put, List.getElem_toArray, List.getElem_cons_zero, List.getElem_cons_succ, List.setIfInBounds_toArray, List.set_cons_zero, List.set_cons_succ]
          refine wpAnyH_take (i := 1) (v := ?_) rfl (by kernel_rfl) (by kernel_rfl) (by kernel_rfl) (fun _ _ _ h => h) (Or.inl ⟨by rfl, ?_⟩) (by assumption) ?_
          rotate_left
          · (intro w hSw; (try dsimp only at hSw); go_simp) <;> with_reducible rfl
          simp only [Act.put, List.getElem_toArray, List.getElem_cons_zero, List.getElem_cons_succ, List.setIfInBounds_toArray, List.set_cons_zero, List.set_cons_succ]
          refine wpAnyH_take (i := 2) (v := ?_) rfl (by kernel_rfl) (by kernel_rfl) (by kernel_rfl) (fun _ _ _ h => h) (Or.inl ⟨by rfl, ?_⟩) (by assumption) ?_
          rotate_left
          · (intro w hSw; (try dsimp only at hSw); go_simp) <;> with_reducible rfl
          simp only [Act.put, List.getElem_toArray, List.getElem_cons_zero, List.getElem_cons_succ, List.setIfInBounds_toArray, List.set_cons_zero, List.set_cons_succ]
          refine wpAnyH_take (i := 3) (v := ?_) rfl (by kernel_rfl) (by kernel_rfl) (by kernel_rfl) (fun _ _ _ h => h) (Or.inl ⟨by rfl, ?_⟩) (by assumption) ?_
          rotate_left
          · (intro w hSw; (try dsimp only at hSw); go_simp) <;> with_reducible rfl
          simp only [Act.put, List.getElem_toArray, List.getElem_cons_zero, List.getElem_cons_succ, List.setIfInBounds_toArray, List.set_cons_zero, List.set_cons_succ]
          refine wpAnyH_take (i := 4) (v := ?_) rfl (by kernel_rfl) (by kernel_rfl) (by kernel_rfl) (fun _ _ _ h => h) (Or.inl ⟨by rfl, ?_⟩) (by assumption) ?_
          rotate_left
          · (intro w hSw; (try dsimp only at hSw); go_simp) <;> with_reducible rfl
          simp only [Act.put, List.getElem_toArray, List.getElem_cons_zero, List.getElem_cons_succ, List.setIfInBounds_toArray, List.set_cons_zero, List.set_cons_succ]
          refine wpAnyH_take (i := 5) (v := ?_) rfl (by kernel_rfl) (by kernel_rfl) (by kernel_rfl) (fun _ _ _ h => h) (Or.inl ⟨by rfl, ?_⟩) (by assumption) ?_
          rotate_left
          · (intro w hSw; (try dsimp only at hSw); go_simp) <;> with_reducible rfl
          simp only [Act.put, List.getElem_toArray, List.getElem_cons_zero, List.getElem_cons_succ, List.setIfInBounds_toArray, List.set_cons_zero, List.set_cons_succ]
          refine wpAnyH_take (i := 6) (v := ?_) rfl (by kernel_rfl) (by kernel_rfl) (by kernel_rfl) (fun _ _ _ h => h) (Or.inl ⟨by rfl, ?_⟩) (by assumption) ?_
          rotate_left
          · (intro w hSw; (try dsimp only at hSw); go_simp) <;> with_reducible rfl
          simp only [Act.put, List.getElem_toArray, List.getElem_cons_zero, List.getElem_cons_succ, List.setIfInBounds_toArray, List.set_cons_zero, List.set_cons_succ]
          refine wpAnyH_take (i := 7) (v := ?_) rfl (by kernel_rfl) (by kernel_rfl) (by kernel_rfl) (fun _ _ _ h => h) (Or.inl ⟨by rfl, ?_⟩) (by assumption) ?_
          rotate_left
          · (intro w hSw; (try dsimp only at hSw); go_simp) <;> with_reducible rfl
          simp only [Act.put, List.getElem_toArray, List.getElem_cons_zero, List.getElem_cons_succ, List.setIfInBounds_toArray, List.set_cons_zero, List.set_cons_succ]
          refine wpAnyH_take (i := 8) (v := ?_) rfl (by kernel_rfl) (by kernel_rfl) (by kernel_rfl) (fun _ _ _ h => h) (Or.inl ⟨by rfl, ?_⟩) (by assumption) ?_
          rotate_left
          · (intro w hSw; (try dsimp only at hSw); go_simp) <;> with_reducible rfl
          simp only [Act.put, List.getElem_toArray, List.getElem_cons_zero, List.getElem_cons_succ, List.setIfInBounds_toArray, List.set_cons_zero, List.set_cons_succ]
          refine wpAnyH_take (i := 9) (v := ?_) rfl (by kernel_rfl) (by kernel_rfl) (by kernel_rfl) (fun _ _ _ h => h) (Or.inl ⟨by rfl, ?_⟩) (by assumption) ?_
          rotate_left
          · (intro w hSw; (try dsimp only at hSw); go_simp) <;> with_reducible rfl
          simp only [Act.put, List.getElem_toArray, List.getElem_cons_zero, List.getElem_cons_succ, List.setIfInBounds_toArray, List.set_cons_zero, List.set_cons_succ]
          refine wpAnyH_take (i := 10) (v := ?_) rfl (by kernel_rfl) (by kernel_rfl) (by kernel_rfl) (fun _ _ _ h => h) (Or.inl ⟨by rfl, ?_⟩) (by assumption) ?_
          rotate_left
          · (intro w hSw; (try dsimp only at hSw); go_simp) <;> with_reducible rfl
          simp only [Act.put, List.getElem_toArray, List.getElem_cons_zero, List.getElem_cons_succ, List.setIfInBounds_toArray, List.set_cons_zero, List.set_cons_succ]
          refine wpAnyH_take (i := 11) (v := ?_) rfl (by kernel_rfl) (by kernel_rfl) (by kernel_rfl) (fun _ _ _ h => h) (Or.inl ⟨by rfl, ?_⟩) (by assumption) ?_
          rotate_left
          · (intro w hSw; (try dsimp only at hSw); go_simp) <;> with_reducible rfl
          simp only [Act.put, List.getElem_toArray, List.getElem_cons_zero, List.getElem_cons_succ, List.setIfInBounds_toArray, List.set_cons_zero, List.set_cons_succ]
          refine wpAnyH_take (i := 12) (v := ?_) rfl (by kernel_rfl) (by kernel_rfl) (by kernel_rfl) (fun _ _ _ h => h) (Or.inl ⟨by rfl, ?_⟩) (by assumption) ?_
          rotate_left
          · (intro w hSw; (try dsimp only at hSw); go_simp) <;> with_reducible rfl
          simp only [Act.put, List.getElem_toArray, List.getElem_cons_zero, List.getElem_cons_succ, List.setIfInBounds_toArray, List.set_cons_zero, List.set_cons_succ]
          refine wpAnyH_take (i := 14) (v := ?_) rfl (by kernel_rfl) (by kernel_rfl) (by kernel_rfl) (fun _ _ _ h => h) (Or.inl ⟨by rfl, ?_⟩) (by assumption) ?_
          rotate_left
          · (intro w hSw; (try dsimp only at hSw); go_simp) <;> with_reducible rfl
          simp only [Act.put, List.getElem_toArray, List.getElem_cons_zero, List.getElem_cons_succ, List.setIfInBounds_toArray, List.set_cons_zero, List.set_cons_succ]
          refine wpAnyH_take (i := 15) (v := ?_) rfl (by kernel_rfl) (by kernel_rfl) (by kernel_rfl) (fun _ _ _ h => h) (Or.inl ⟨by rfl, ?_⟩) (by assumption) ?_
          rotate_left
          · (intro w hSw; (try dsimp only at hSw); go_simp) <;> with_reducible rfl
          simp only [Act.put, List.getElem_toArray, List.getElem_cons_zero, List.getElem_cons_succ, List.setIfInBounds_toArray, List.set_cons_zero, List.set_cons_succ]
          refine wpAnyH_ready (rs := [13, 16]) (by kernel_rfl) (by simp) ?_
          refine AllReadyH.cons rfl (fun K hK => ?_) (AllReadyH.cons rfl (fun K hK => ?_) AllReadyH.nil)
          · simp only [List.getElem_toArray, List.getElem_cons_zero, List.getElem_cons_succ]
            go_simp
            refine hK.out _ _ SW (fun hHeld => ?_)
            clear hK K
            try simp only [Act.put, List.getElem_toArray, List.getElem_cons_zero, List.getElem_cons_succ, List.setIfInBounds_toArray, List.set_cons_zero, List.set_cons_succ]
            refine wpAnyH_ready (rs := [16]) (by kernel_rfl) (by simp) ?_
            refine AllReadyH.cons rfl (fun K hK => ?_) AllReadyH.nil
            simp only [List.getElem_toArray, List.getElem_cons_zero, List.getElem_cons_succ]
            go_simp
            refine hK.out _ _ SA (fun hHeld => ?_)
            clear hK K
            try simp only [Act.put, List.getElem_toArray, List.getElem_cons_zero, List.getElem_cons_succ, List.setIfInBounds_toArray, List.set_cons_zero, List.set_cons_succ]
            refine wpAnyH_ready (rs := [17]) (by kernel_rfl) (by simp) ?_
            refine AllReadyH.cons rfl (fun K hK => ?_) AllReadyH.nil
            refine step_append_lies _ rfl _ _ 29 rfl w2.heap.size 3 i0 (.int .i64 0) 1 8 Tryd.underlying29 hi hz0 hz1 hz2 rfl (by decide) v bl.length (encN bl) rfl (HO.out.alloc _) ⟨W.heap.size, 0, none⟩ 1 1 [.int .i64 b2] rfl rfl (by intro k u hk; match k, hk with | 0, hk => simp at hk; subst hk; exact (Blk.new W 3 #[.int .i64 (b2 : Int)]).cell (j := 0) rfl) (by simp [Value.oneCell']) (by omega) (by unfold maxLen; omega) (by omega) (by simp; omega) _ rfl ?_
            intro g cp w5 hown2 hgrow hat hlt5
            have hb5 : ∀ k, k < w2.heap.size → w5.heap[k]? = W.heap[k]? := fun k hk => (hgrow.block k (by simp; omega) (owns_ne HO.out hk)).trans (Below.heap_alloc W.drew _ k (by show k < W.heap.size; omega))
            have hp5 : Blk w5 B5 37 #[.int .i64 (a : Int), .int .i64 (b2 : Int)] := (hgrow.block B5 (by have := HP.out.lt; simp; omega) (ne_pairB HO.out HP.out)).trans (HP.out.alloc _)
            have S5 : w5.cell? ⟨l, 1, none⟩ = some (.slice (some ⟨bh, 0, none⟩) L.length L.length) ∧ w5.cell? ⟨B5, 0, none⟩ = some (.int .i64 a) ∧ w5.cell? ⟨B5, 1, none⟩ = some (.int .i64 b2) := ⟨Blk.cell (show Blk w5 l _ _ from (hb5 l hlo1.1).trans HN.out.st) (j := 1) rfl, hp5.cell (j := 0) rfl, hp5.cell (j := 1) rfl⟩
            refine hK.out _ _ S5 (fun hHeld => ?_)
            clear hK K
            try simp only [Act.put, List.getElem_toArray, List.getElem_cons_zero, List.getElem_cons_succ, List.setIfInBounds_toArray, List.set_cons_zero, List.set_cons_succ]
            refine wpAnyH_take (i := 18) (v := ?_) rfl (by kernel_rfl) (by kernel_rfl) (by kernel_rfl) (fun _ _ _ h => h) (Or.inl ⟨by rfl, ?_⟩) (by assumption) ?_
            rotate_left
            · (intro w hSw; (try dsimp only at hSw); go_simp) <;> with_reducible rfl
            simp only [Act.put, List.getElem_toArray, List.getElem_cons_zero, List.getElem_cons_succ, List.setIfInBounds_toArray, List.set_cons_zero, List.set_cons_succ]
            have hbh5 : Blk w5 bh 29 vs.toArray := (hb5 bh hlo1.2.1).trans HN.out.bhB
            have k5 : w5.cell? ⟨bh, a, none⟩ = some v := hbh5.cell (by simpa using HV.out)
            have e5 := hbh5.frozen a
            refine wpAnyH_ready (rs := [19]) (by kernel_rfl) (by simp) ?_
            refine AllReadyH.cons rfl (fun K hK => ?_) AllReadyH.nil
            simp only [List.getElem_toArray, List.getElem_cons_zero, List.getElem_cons_succ]
            go_simp
            refine hK.out _ _ ?_ (fun hHeld => ?_)
            · exact ⟨(cell_setOther (by simpa using hne1.1) _).trans S5.1, (cell_setOther (by simp; omega) _).trans S5.2.1, (cell_setOther (by simp; omega) _).trans S5.2.2⟩
            clear hK K
            refine wpAnyH_done (by kernel_rfl) ?_ _
            go_wp2_with fail
            go_meet
            exact nl_end HN.out HV.out hBl.out HO.out hown2 hgrow hat hp5 (by omega) hKW
          · simp only [List.getElem_toArray, List.getElem_cons_zero, List.getElem_cons_succ]
            go_simp
            refine hK.out _ _ SA (fun hHeld => ?_)
            clear hK K
            try simp only [Act.put, List.getElem_toArray, List.getElem_cons_zero, List.getElem_cons_succ, List.setIfInBounds_toArray, List.set_cons_zero, List.set_cons_succ]
            refine wpAnyH_ready (rs := [13]) (by kernel_rfl) (by simp) ?_
            refine AllReadyH.cons rfl (fun K hK => ?_) AllReadyH.nil
            simp only [List.getElem_toArray, List.getElem_cons_zero, List.getElem_cons_succ]
            go_simp
            refine hK.out _ _ SA (fun hHeld => ?_)
            clear hK K
            try simp only [Act.put, List.getElem_toArray, List.getElem_cons_zero, List.getElem_cons_succ, List.setIfInBounds_toArray, List.set_cons_zero, List.set_cons_succ]
            refine wpAnyH_ready (rs := [17]) (by kernel_rfl) (by simp) ?_
            refine AllReadyH.cons rfl (fun K hK => ?_) AllReadyH.nil
            refine step_append_lies _ rfl _ _ 29 rfl w2.heap.size 3 i0 (.int .i64 0) 1 8 Tryd.underlying29 hi hz0 hz1 hz2 rfl (by decide) v bl.length (encN bl) rfl (HO.out.alloc _) ⟨W.heap.size, 0, none⟩ 1 1 [.int .i64 b2] rfl rfl (by intro k u hk; match k, hk with | 0, hk => simp at hk; subst hk; exact (Blk.new W 3 #[.int .i64 (b2 : Int)]).cell (j := 0) rfl) (by simp [Value.oneCell']) (by omega) (by unfold maxLen; omega) (by omega) (by simp; omega) _ rfl ?_
            intro g cp w5 hown2 hgrow hat hlt5
            have hb5 : ∀ k, k < w2.heap.size → w5.heap[k]? = W.heap[k]? := fun k hk => (hgrow.block k (by simp; omega) (owns_ne HO.out hk)).trans (Below.heap_alloc W.drew _ k (by show k < W.heap.size; omega))
            have hp5 : Blk w5 B5 37 #[.int .i64 (a : Int), .int .i64 (b2 : Int)] := (hgrow.block B5 (by have := HP.out.lt; simp; omega) (ne_pairB HO.out HP.out)).trans (HP.out.alloc _)
            have S5 : w5.cell? ⟨l, 1, none⟩ = some (.slice (some ⟨bh, 0, none⟩) L.length L.length) ∧ w5.cell? ⟨B5, 0, none⟩ = some (.int .i64 a) ∧ w5.cell? ⟨B5, 1, none⟩ = some (.int .i64 b2) := ⟨Blk.cell (show Blk w5 l _ _ from (hb5 l hlo1.1).trans HN.out.st) (j := 1) rfl, hp5.cell (j := 0) rfl, hp5.cell (j := 1) rfl⟩
            refine hK.out _ _ S5 (fun hHeld => ?_)
            clear hK K
            try simp only [Act.put, List.getElem_toArray, List.getElem_cons_zero, List.getElem_cons_succ, List.setIfInBounds_toArray, List.set_cons_zero, List.set_cons_succ]
            refine wpAnyH_take (i := 18) (v := ?_) rfl (by kernel_rfl) (by kernel_rfl) (by kernel_rfl) (fun _ _ _ h => h) (Or.inl ⟨by rfl, ?_⟩) (by assumption) ?_
            rotate_left
            · (intro w hSw; (try dsimp only at hSw); go_simp) <;> with_reducible rfl
            simp only [Act.put, List.getElem_toArray, List.getElem_cons_zero, List.getElem_cons_succ, List.setIfInBounds_toArray, List.set_cons_zero, List.set_cons_succ]
            have hbh5 : Blk w5 bh 29 vs.toArray := (hb5 bh hlo1.2.1).trans HN.out.bhB
            have k5 : w5.cell? ⟨bh, a, none⟩ = some v := hbh5.cell (by simpa using HV.out)
            have e5 := hbh5.frozen a
            refine wpAnyH_ready (rs := [19]) (by kernel_rfl) (by simp) ?_
            refine AllReadyH.cons rfl (fun K hK => ?_) AllReadyH.nil
            simp only [List.getElem_toArray, List.getElem_cons_zero, List.getElem_cons_succ]
            go_simp
            refine hK.out _ _ ?_ (fun hHeld => ?_)
            · exact ⟨(cell_setOther (by simpa using hne1.1) _).trans S5.1, (cell_setOther (by simp; omega) _).trans S5.2.1, (cell_setOther (by simp; omega) _).trans S5.2.2⟩
            clear hK K
            refine wpAnyH_done (by kernel_rfl) ?_ _
            go_wp2_with fail
            go_meet
            exact nl_end HN.out HV.out hBl.out HO.out hown2 hgrow hat hp5 (by omega) hKW
        case rest =>
          obtain ⟨vs', hN6, hP6, hK6⟩ := hcut
          have s2 := hN6.st.cell (j := 2) rfl
          have y0 := hN6.wtB.cellI HWB.out
          have f0 := hN6.wtB.frozen b2
          have p1 := hP6.cell (j := 1) rfl
          have m1 := hN6.st.lt
          have m2 := hN6.wtB.lt
          have m3 := hP6.lt
          have hN7 := hN6.drew.wset b2 ((wn : Int) + 1)
          have hK7 : Keep2 bh wt w2.heap.size w2 (wc.drew.setCell ⟨wt, b2, none⟩ (.int .i64 ((wn : Int) + 1))) := hK6.drew.setW _
          have HN7 := hid_of hN7
          clear hN6 hN7 hnW
          go_wp2_with fail
          go_region
          all_goals
            go_wp2_with fail
            refine ⟨⟨k + 1, vs', by omega, by go_num, ?_, hK7⟩, by simp [intOf]; omega⟩
            rw [HRE.out, HWE.out]
            exact HN7
      · obtain rfl : k = ps.length := by omega
        rw [List.take_length] at HK
        go_wp2_with fail
        go_ret
        exact ⟨_, l, bh, wt, vs, rfl, hlo.1, hlo.2.1, hlo.2.2, by rw [hps]; exact HK.out, hB2.trans (hKeep.below hB2.size hlo.2.1 hlo.2.2)⟩
end Go.Proofs.YteejkhgccaagiaaDoor
