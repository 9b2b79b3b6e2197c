/- AtomKept. -/
import Derived.Test.YtecolbdnaipgdaaKeptScan
import Derived.Test.YtecolbdnaipgdaaAtAwake
import Derived.Maps.AppendAt
namespace Go.Proofs.Ytecolbdnaipgdaa
open Go.RowKit

theorem rem_r (N : Int) : ∃ r : Nat, 1 ≤ r ∧ r ≤ 16 ∧ (0 ≤ N.tmod 16 → wrap64 (N.tmod 16 + 1) = ((r : Nat) : Int)) ∧ (N.tmod 16 < 0 → wrap64 (wrap64 (-N.tmod 16) + 1) = ((r : Nat) : Int)) := by
  have h1 := Int.tmod_lt_of_pos N (show (0 : Int) < 16 by decide)
  have h2 := Int.lt_tmod_of_pos N (show (0 : Int) < 16 by decide)
  generalize N.tmod 16 = m at *
  refine ⟨m.natAbs + 1, by omega, by omega, fun h => ?_, fun h => ?_⟩
  · unfold wrap64; omega
  · unfold wrap64; omega
theorem owns_below {w w' : World} {base : Nat} {e : TypeId} {size : Nat} {v : Value} {n : Nat} {xs : List Value} (h : w.ownsRow base e size v n xs) (hb : Below w.heap.size w w') : w'.ownsRow base e size v n xs := by
  refine ⟨h.1, ?_⟩
  rcases h.2 with h | ⟨g, cap, cur, h1, h2, h3, h4⟩
  · exact .inl h
  · exact .inr ⟨g, cap, cur, h1, h2, (hb.block g (Array.getElem?_eq_some_iff.1 h3).1).trans h3, h4⟩
theorem grown_only {w0 w w' : World} {gp g : Nat} {o : Obj} (h : Only [gp] w0 w) (hg : (w.alloc o).grownBy w' (some g)) (hgg : g = gp ∨ w0.heap.size ≤ g) : Only [gp] w0 w' :=
  have a := h.trans (Only.alloc [gp] w o)
  ⟨hg.os.trans a.os, hg.tape.trans a.tape, hg.output.trans a.output, Nat.le_trans a.size hg.size, fun k hk hn => (hg.block k (Nat.lt_of_lt_of_le hk a.size) (fun e => by injection e with e; subst e; simp at hn; omega)).trans (a.block k hk hn)⟩
/-- A slice of r numbers that is owned. -/
def OwnU (w : World) (base : Nat) (g r cap : Nat) : Prop := ∃ xs : List Value, w.ownsRow base 22 1 (.slice (some ⟨g, 0, none⟩) r cap) r xs ∧ ∀ u ∈ xs, ∃ x, u = .int .u64 x
theorem rowAt_alloc {w : World} {v : Value} {r : Nat} {f : Nat → Int} (h : RowAt w v r f) (o : Obj) : RowAt (w.alloc o) v r f :=
  h.below ((Below.refl _ _).alloc (Nat.le_refl _) _)
theorem rowAt_made (w : World) (r : Nat) : RowAt (w.alloc (.cells (rowU r (fun _ => 0)) 22)) (.slice (some ⟨w.heap.size, 0, none⟩) r r) r (fun _ => 0) :=
  ⟨w.heap.size, r, rfl, by simp, fun _ hj => (Blk.new w _ _).cell (rowU_at hj)⟩
theorem rowAt_blk {w : World} {b r : Nat} (h : Blk w b 22 (rowU r (fun _ => 0))) : RowAt w (.slice (some ⟨b, 0, none⟩) r r) r (fun _ => 0) :=
  ⟨b, r, rfl, h.lt, fun _ hj => h.cell (rowU_at hj)⟩
set_option maxRecDepth 100000 in
set_option maxHeartbeats 20000000 in
theorem Kept_calls (v N : Int) (w : World) :
    Calls Try.prog 3 #[.int .u64 v, .int .i64 N] w fun e w' => e = .returned (.bool true) ∧ Below w.heap.size w w' := by
  obtain ⟨r, hr1, hr2, hE1, hE2⟩ := rem_r N
  have hc : ((r : Nat) : Int) - 1 = ((r - 1 : Nat) : Int) := by omega
  have HC := hid_of' hc
  clear hc
  have HE1 := hid_of' hE1
  have HE2 := hid_of' hE2
  clear hE1 hE2
  go_enter Try.func3, Try.ntmps3
  go_wp2_with fail
  refine (awake_calls w).mono ?_
  rintro e w1 ⟨rfl, hB1⟩
  by_cases hs : N.tmod 16 < 0
  all_goals
    first
    | have hE := HE2.out hs
    | have hE := HE1.out (by omega)
    clear HE1 HE2
    go_wp2_with fail
    refine (NewSnap_calls r hr1 hr2 _).mono ?_
    rintro e w2 ⟨S, R, K, rfl, zS, zR, zK, nRK, hS2, hK2, hB2⟩
    go_wp2_with fail
    refine (NewSnap_calls r hr1 hr2 _).mono ?_
    rintro e w3 ⟨S', R', K', rfl, zS', zR', zK', nRK', hS3', hK3', hB3⟩
    have hS3 := hS2.moved (fun b t cs hb _ => hb.of_below hB3)
    have hK3 := hK2.of_below hB3
    have z2 := hB2.size
    have z3 := hB3.size
    have z1 := hB1.size
    have zR3 := hS3.regB.lt
    have zR2 := hS2.regB.lt
    have hU := Update_calls S R K r (r - 1) w1.heap.size (by omega) hr2 v (List.replicate r none) (fun _ => 0) (Array.replicate r (.pointer none)) w3 (by omega) hS3 nRK hK3 (by rw [List.getElem?_replicate, if_pos (by omega)]) (by rw [Array.getElem?_replicate, if_pos (by omega)])
    rw [← HC.out] at hU
    go_wp2_with fail
    refine hU.mono ?_
    clear hU
    rintro e w4 ⟨T, UP, LK, OWN, MV, rfl, zT, zL, zO, hU4, hO4⟩
    have hKK : K' ≠ K := by have := hK2.lt; omega
    have hRK' : R' ≠ K := by have := hK2.lt; omega
    have sS' := only_ne hO4 hK3 hS3'.snap (by decide)
    have sR' := hS3'.regB.only hO4 (by simpa using hRK')
    go_wp2_with fail
    refine (up_alone w1.heap.size T UP LK OWN S R K MV r (r - 1) v (by omega) hr2 zR _ _ w4 hU4).mono ?_
    rintro e w5 ⟨⟨ev, rfl⟩, ⟨⟨OU, stU, hT5, hOU5, zOU⟩, hS5⟩, hk5⟩
    obtain ⟨regs1, hregs1⟩ : ∃ l, l = (List.replicate r (none : Option Addr)).set (r - 1) (some ⟨OWN, 0, none⟩) := ⟨_, rfl⟩
    obtain ⟨f1, hf1⟩ : ∃ f1 : Nat → Int, f1 = (fun k => if k = r - 1 then v else (fun _ => 0) k) := ⟨_, rfl⟩
    rw [← hregs1, ← hf1] at hS5
    have HF : Hid (∀ k, f1 k = if k = r - 1 then v else 0) := fun k => by rw [hf1]
    clear hregs1 hf1
    have z4 := hO4.size
    have hTw := hU4.task
    obtain ⟨_, hLw⟩ := hU4.look.choose_spec.blk
    obtain ⟨_, hOw⟩ := hU4.own
    have sS5 := hk5.keep _ _ _ sS' (by simp; exact ⟨sS'.ne2 hTw (by decide), sS'.ne2 hLw (by decide), sS'.ne2 hOw (by decide), sS'.ne2 hU4.snap.regB (by decide)⟩) (.inl (by decide))
    have sR5 := hk5.keep _ _ _ sR' (by simp; exact ⟨sR'.ne2 hTw (by decide), sR'.ne2 hLw (by decide), sR'.ne2 hOw (by decide), by omega⟩) (.inl (by decide))
    have z5 := hk5.below.size
    go_wp2_with fail
    refine (Scan0_calls S R K r hr2 w5 hS5.snap).mono ?_
    rintro e w6 ⟨T2, SC2, LK2, MV2, rfl, zT2, zL2, hT6, hC6, hL6, hB6⟩
    have z6 := hB6.size
    go_wp2_with fail
    refine (Scan0_calls S' R' K' r hr2 w6 (sS5.of_below hB6)).mono ?_
    rintro e w7 ⟨T3, SC3, LK3, MV3, rfl, zT3, zL3, hT7, hC7, hL7, hB7⟩
    have z7 := hB7.size
    have hr6 : ScanRun w7 w1.heap.size T2 SC2 LK2 S R K MV2 r 0 false 0 regs1 f1 := ⟨hT6.of_below hB7, hC6.of_below hB7, ⟨_, look_fresh (by omega) (hL6.of_below hB7) _⟩, (hS5.moved (fun b t cs hb _ => hb.of_below hB6)).moved (fun b t cs hb _ => hb.of_below hB7), by omega, by omega⟩
    have l2 := hT6.lt
    have l2' := hL6.lt
    go_wp2_with fail
    refine (scan_alone w1.heap.size T2 SC2 LK2 S R K MV2 r (by omega) hr2 regs1 f1 w7 hr6).mono ?_
    rintro e w8 ⟨⟨ev2, rfl⟩, ⟨O2, g2, st2, hT8, hO8, hg8, zO2, zg2⟩, hk8⟩
    have z8 := hk8.below.size
    have k8 : ∀ b t cs, Blk w7 b t cs → b ≠ T2 → b ≠ LK2 → t ≠ 47 → Blk w8 b t cs := fun b t cs hb h1 h2 h3 => hk8.keep b t cs hb (by simp; exact ⟨h1, h2⟩) (.inl h3)
    have hT8' := k8 _ _ _ hT7 (by omega) (by have := hr6.look.choose_spec.blk; obtain ⟨_, h⟩ := this; exact hT7.ne2 h (by decide)) (by decide)
    have hC8' := k8 _ _ _ hC7 (hC7.ne2 hr6.task (by decide)) (by have := hr6.look.choose_spec.blk; obtain ⟨_, h⟩ := this; exact hC7.ne2 h (by decide)) (by decide)
    have hL8' := k8 _ _ _ hL7 (hL7.ne2 hr6.task (by decide)) (by omega) (by decide)
    have lT5 := hT5.lt
    obtain ⟨_, hLK2⟩ := hr6.look.choose_spec.blk
    have sS8 := k8 _ _ _ ((sS5.of_below hB6).of_below hB7) (((sS5.of_below hB6).of_below hB7).ne2 hr6.task (by decide)) (((sS5.of_below hB6).of_below hB7).ne2 hLK2 (by decide)) (by decide)
    have sR8 := k8 _ _ _ ((sR5.of_below hB6).of_below hB7) (((sR5.of_below hB6).of_below hB7).ne2 hr6.task (by decide)) (((sR5.of_below hB6).of_below hB7).ne2 hLK2 (by decide)) (by decide)
    have hTU7 := (hT5.of_below hB6).of_below hB7
    have hOU7 := (hOU5.of_below hB6).of_below hB7
    have hTU8 := k8 _ _ _ hTU7 (by omega) (hTU7.ne2 hLK2 (by decide)) (by decide)
    have hOU8 := k8 _ _ _ hOU7 (hOU7.ne2 hr6.task (by decide)) (hOU7.ne2 hLK2 (by decide)) (by decide)
    have hS8' := snap_fresh w8 S' R' K' r sS8 (by simpa using sR8)
    have hr8 : ScanRun w8 w1.heap.size T3 SC3 LK3 S' R' K' MV3 r 0 false 0 (List.replicate r none) (fun _ => 0) := ⟨hT8', hC8', ⟨_, look_fresh (by omega) hL8' _⟩, hS8', by omega, by omega⟩
    go_wp2_with fail
    refine (scan_alone w1.heap.size T3 SC3 LK3 S' R' K' MV3 r (by omega) hr2 _ _ w8 hr8).mono ?_
    rintro e w9 ⟨⟨ev3, rfl⟩, ⟨O3, g3, st3, hT9', hO9', hg9', zO3, zg3⟩, hk9⟩
    have z9 := hk9.below.size
    have k9 : ∀ b t cs, Blk w8 b t cs → b ≠ T3 → b ≠ LK3 → t ≠ 47 → Blk w9 b t cs := fun b t cs hb h1 h2 h3 => hk9.keep b t cs hb (by simp; exact ⟨h1, h2⟩) (.inl h3)
    have hT9 := k9 _ _ _ hT8 (by omega) (hT8.ne2 hL8' (by decide)) (by decide)
    have hO9 := k9 _ _ _ hO8 (hO8.ne2 hT8' (by decide)) (hO8.ne2 hL8' (by decide)) (by decide)
    have hg9 := k9 _ _ _ hg8 (hg8.ne2 hT8' (by decide)) (hg8.ne2 hL8' (by decide)) (by decide)
    have hTU9 := k9 _ _ _ hTU8 (by omega) (hTU8.ne2 hL8' (by decide)) (by decide)
    have hOU9 := k9 _ _ _ hOU8 (hOU8.ne2 hT8' (by decide)) (hOU8.ne2 hL8' (by decide)) (by decide)
    have hBB9 : Below w.heap.size w w9 := by
      have a1 := hB1.trans ((hB2.mono z1).trans (hB3.mono (by omega)))
      have a2 := a1.trans (hO4.below (n := w.heap.size) (by simp; omega) (by omega))
      have a3 := a2.trans (hk5.below.mono z1)
      have a4 := a3.trans ((hB6.mono (by omega)).trans (hB7.mono (by omega)))
      exact a4.trans ((hk8.below.mono z1).trans (hk9.below.mono z1))
    clear hS2 hK2 hS3 hK3 hS3' hK3' hU4 hO4 hS5 hk5 sS5 sR5 sS' sR' hr6 hr8 hS8' k8 hk8 k9 hk9 hT8 hO8 hg8 hTU8 hOU8 hTU7 hOU7 sS8 sR8 hT8' hC8' hL8' hT7 hC7 hL7 hT6 hC6 hL6 hT5 hOU5 hLK2 hTw hLw hOw
    clear hB1 hB2 hB3 hB6 hB7
    go_wp2_with fail
    refine (TView_calls T2 _ _ O2 g2 r hr2 f1 _ _ w9 hT9 hO9 hg9).mono ?_
    rintro e w10 ⟨vp, rfl, hownp, hB10⟩
    obtain ⟨gp, capp, rfl, zgp, hcp⟩ := owns_row (by omega) hownp
    have hT10 := hT9.of_below hB10
    have hO10 := hO9.of_below hB10
    have hg10 := hg9.of_below hB10
    go_wp2_with fail
    refine (TView_calls T2 _ _ O2 g2 r hr2 f1 _ _ w10 hT10 hO10 hg10).mono ?_
    rintro e w11 ⟨vq, rfl, hownq, hB11⟩
    obtain ⟨gq, capq, rfl, zgq, hcq⟩ := owns_row (by omega) hownq
    have hv : f1 (r - 1) = v := by rw [HF.out, if_pos rfl]
    have cp : w11.cell? ⟨gp, r - 1, none⟩ = some (.int .u64 v) := (hB11.cell (p := ⟨gp, r - 1, none⟩) zgp).trans ((hcp _ (by omega)).trans (by rw [hv]))
    have cq : w11.cell? ⟨gq, r - 1, none⟩ = some (.int .u64 v) := (hcq _ (by omega)).trans (by rw [hv])
    have hOU : OwnU w11 w9.heap.size gp r capp := ⟨_, owns_below hownp hB11, fun u hu => by obtain ⟨k, _, rfl⟩ := List.mem_map.1 hu; exact ⟨_, rfl⟩⟩
    have HOU := hid_of' hOU
    have HCQ := hid_of' hcq
    have z10 := hB10.size
    have z11 := hB11.size
    have zgp9 : w9.heap.size ≤ gp := (hownp.lt gp rfl).1
    have zgq9 : w10.heap.size ≤ gq := (hownq.lt gq rfl).1
    clear hcp hcq hownp hownq hOU
    have b0 : (0 : Int) ≤ ((r : Nat) : Int) - 1 := by omega
    go_wp2_with fail
    clear cp
    go_loopw [15] (fun i wr => ∃ k : Nat, k ≤ r ∧ i = .int .i64 ((k : Nat) : Int) ∧ Hid (OwnU wr w9.heap.size gp r capp) ∧ Only [gp] w11 wr) (fun i _ => r - (intOf i).toNat)
    case atStart => exact ⟨0, by omega, rfl, HOU, Only.refl _ _⟩
    case round =>
      clear HOU
      obtain ⟨k, hk, rfl, HOU, hON⟩ := hrel
      by_cases hlt : k < r
      · obtain ⟨xs, ho, hxs⟩ := HOU.out
        have hl : xs.length = r := by have := ho.1; omega
        obtain ⟨x, hx⟩ := hxs (xs[k]'(by omega)) (List.getElem_mem _)
        have ck := ho.cellAt k (by omega)
        rw [List.getElem?_eq_getElem (by omega), hx] at ck
        have fk := ho.frozenAt k
        have bk0 : (0 : Int) ≤ ((k : Nat) : Int) := by omega
        have bk1 : ((k : Nat) : Int) < ((r : Nat) : Int) := by omega
        have HO := hid_of' ho
        have HX := hid_of' hxs
        clear ho hxs
        go_wp2_with fail
        refine ⟨⟨k + 1, by omega, by go_num, ?_, hON.trans (Only.set _ (by simp) _ _)⟩, by simp [intOf]; omega⟩
        refine ⟨_, (HO.out.stored k _).1, fun u hu => ?_⟩
        rcases List.mem_or_eq_of_mem_set hu with hu | rfl
        · exact HX.out u hu
        · exact ⟨_, rfl⟩
      · have hge : ¬ ((k : Nat) : Int) < ((r : Nat) : Int) := by omega
        clear hlt
        go_wp2_with fail
        obtain ⟨i0, hi, hz0, hz1, hz2⟩ := info_parts' Try.infou64
        go_loopw [16, 13] (fun i p wr' => ∃ m g cap : Nat, m ≤ 5 ∧ i = .int .i64 ((m : Nat) : Int) ∧ p = .slice (some ⟨g, 0, none⟩) (r + m) cap ∧ Hid (OwnU wr' w9.heap.size g (r + m) cap) ∧ Only [gp] w11 wr' ∧ (g = gp ∨ w11.heap.size ≤ g)) (fun i _ _ => 5 - (intOf i).toNat)
        case atStart => exact ⟨0, gp, capp, by omega, rfl, rfl, HOU, hON, .inl rfl⟩
        case round =>
          clear HOU hON
          obtain ⟨m, g, cap, hm, rfl, rfl, HOU, hON, hgg⟩ := hrel
          by_cases hlt : m < 5
          · obtain ⟨xs, ho, hxs⟩ := HOU.out
            have hm5 : ((m : Nat) : Int) < 5 := by omega
            have HO := hid_of' ho
            have HX := hid_of' hxs
            clear hxs ho
            have zON := hON.size
            go_wp2_with (at_builtin; refine wpList_append_own_at _ rfl _ _ 34 rfl w9.heap.size 22 i0 (.int .u64 0) 1 8 Try.underlying34 hi hz0 hz1 hz2 rfl (by decide) (.slice (some ⟨g, 0, none⟩) (r + m) cap) (r + m) xs rfl (HO.out.alloc _) ⟨_, 0, none⟩ 1 1 [.int .u64 7] rfl rfl (by intro k u hk; match k, hk with | 0, hk => simp at hk; subst hk; exact (Blk.new _ _ _).cell rfl) (by simp [Value.oneCell']) (by unfold maxLen; omega) (by omega) (by simp; omega) ?_; intro v' w5 hown' hgrow _ hat)
            have hform : ∃ g' cap', v' = .slice (some ⟨g', 0, none⟩) (r + m + 1) cap' := by
              rcases hown'.2 with ⟨_, e⟩ | ⟨g', cap', _, e, _⟩
              · omega
              · exact ⟨g', cap', e⟩
            obtain ⟨g', cap', rfl⟩ := hform
            refine ⟨⟨m + 1, g', cap', by omega, by go_num, rfl, ⟨_, hown', fun u hu => ?_⟩, ?_, ?_⟩, by simp [intOf]; omega⟩
            · rcases List.mem_append.1 hu with hu | hu
              · exact HX.out u hu
              · exact ⟨7, by simpa using hu⟩
            · exact grown_only hON hgrow hgg
            · rcases hat with e | e
              · have e : g' = g := by simpa [Value.ownBlock] using e
                rw [e]; exact hgg
              · right
                simp [Value.ownBlock] at e
                omega
          · have hm5 : ¬ ((m : Nat) : Int) < 5 := by omega
            clear hlt HOU
            go_wp2_with fail
            refine (NewStack_calls _).mono ?_
            rintro e w12 ⟨S1, rfl, zS1, hS12, hB12⟩
            go_wp2_with fail
            refine (NewStack_calls _).mono ?_
            rintro e w13 ⟨S2, rfl, zS2, hS13, hB13⟩
            go_wp2_with fail
            refine (Push_calls S1 v _).mono ?_
            rintro e w14 ⟨T4, C4, g4, rfl, zT4, zC4, zg4, n1, n2, n3, hg14, hT14, hC14, hB14⟩
            go_wp2_with fail
            refine (push_alone T4 C4 S1 g4 v _ hT14 hC14 ((hS12.of_below hB13).of_below hB14) hg14).mono ?_
            rintro e w15 ⟨⟨ev4, rfl⟩, hO15⟩
            have lS1 := hS12.lt
            have lS2 := hS13.lt
            have zON := hON.size
            have z12 := hB12.size
            have z13 := hB13.size
            have z14 := hB14.size
            have z15 := hO15.size
            have hS15 := (hS13.of_below hB14).only hO15 (by simp; omega)
            go_wp2_with fail
            refine (Pop_calls S2 _).mono ?_
            rintro e w16 ⟨T5, C5, rfl, zT5, zC5, n4, hT16, hC16, hB16⟩
            have z16 := hB16.size
            go_wp2_with fail
            refine (pop_alone T5 C5 S2 _ hT16 hC16 (hS15.of_below hB16)).mono ?_
            rintro e w17 ⟨⟨pn, pk, rfl⟩, hO17⟩
            have z17 := hO17.size
            have hB17 : Below w11.heap.size wr w17 := by
              have a1 := (hB12.mono zON).trans ((hB13.mono (show w11.heap.size ≤ _ by omega)).trans (hB14.mono (show w11.heap.size ≤ _ by omega)))
              have a2 := a1.trans (hO15.below (n := w11.heap.size) (by simp; omega) (by omega))
              have a3 := a2.trans (hB16.mono (show w11.heap.size ≤ _ by omega))
              exact a3.trans (hO17.below (n := w11.heap.size) (by simp; omega) (by omega))
            have hON17 := only_then hON hB17
            have lT2 := hT9.lt
            have lO2 := hO9.lt
            have lg2 := hg9.lt
            have lT3 := hT9'.lt
            have lO3 := hO9'.lt
            have lg3 := hg9'.lt
            have lTU := hTU9.lt
            have lOU := hOU9.lt
            have aT2 := (hT10.of_below hB11).only hON17 (by simp; omega)
            have aO2 := (hO10.of_below hB11).only hON17 (by simp; omega)
            have ag2 := (hg10.of_below hB11).only hON17 (by simp; omega)
            have aT3 := ((hT9'.of_below hB10).of_below hB11).only hON17 (by simp; omega)
            have aO3 := ((hO9'.of_below hB10).of_below hB11).only hON17 (by simp; omega)
            have ag3 := ((hg9'.of_below hB10).of_below hB11).only hON17 (by simp; omega)
            have aTU := ((hTU9.of_below hB10).of_below hB11).only hON17 (by simp; omega)
            have aOU := ((hOU9.of_below hB10).of_below hB11).only hON17 (by simp; omega)
            have cellO : ∀ j, w17.cell? ⟨gq, j, none⟩ = w11.cell? ⟨gq, j, none⟩ := fun j => by
              unfold World.cell?
              rw [hON17.block gq zgq (by simp; omega)]
            have aq : RowAt w17 (.slice (some ⟨gq, 0, none⟩) r capq) r f1 := ⟨gq, capq, rfl, by have := hON17.size; omega, fun j hj => (cellO j).trans (HCQ.out j hj)⟩
            have cq17 : w17.cell? ⟨gq, r - 1, none⟩ = some (.int .u64 v) := (cellO _).trans cq
            have hBB17 : Below w.heap.size w w17 := ((hBB9.trans (hB10.mono (by have := hBB9.size; omega))).trans (hB11.mono (by have := hBB9.size; omega))).trans (hON17.below (by simp; have := hBB9.size; omega) (by have := hBB9.size; omega))
            clear hT9 hO9 hg9 hT9' hO9' hg9' hTU9 hOU9 hT10 hO10 hg10 cq HCQ cellO hON17 hON hB10 hB11 hB12 hB13 hB14 hB16 hO15 hO17 hB17 hS12 hS13 hS15 hT14 hC14 hg14 hT16 hC16
            go_wp2_with fail
            have ix0 : (0 : Int) ≤ ((r : Nat) : Int) - 1 := by omega
            have ix1 : ((r : Nat) : Int) - 1 < ((r : Nat) : Int) := by omega
            have h1r : (1 : Int) ≤ ((r : Nat) : Int) := by omega
            have hmk := make_u64s r (by omega)
            have hw1 : IntKind.i64.wrap (((r : Nat) : Int) - 1) = ((r : Nat) : Int) - 1 := by rw [IntKind.wrap_i64]; omega
            have hw2 : wrap64 (((r : Nat) : Int) - 1) = ((r : Nat) : Int) - 1 := by unfold wrap64; omega
            have hw3 : (((r : Nat) : Int) - 1).toNat = r - 1 := by omega
            have hS17 : w17.drew.cell? ⟨gq, r - 1, none⟩ = some (.int .u64 v) ∧ Below w17.heap.size w17 w17.drew := ⟨cq17, (Below.refl _ _).drew⟩
            have zq : gq < w17.heap.size := by
              obtain ⟨_, _, h, h2, _⟩ := aq
              injection h with h _ _
              injection h with h
              injection h with h _ _
              subst h
              exact h2
            have kS : ∀ w', Below w17.heap.size w17 w' → w'.cell? ⟨gq, r - 1, none⟩ = some (.int .u64 v) ∧ Below w17.heap.size w17 w' := fun w' h => ⟨(h.cell (p := ⟨gq, r - 1, none⟩) zq).trans cq17, h⟩
            have KS := hid_of' kS
            clear kS
            go_region_held3 (fun w' => w'.cell? ⟨gq, r - 1, none⟩ = some (.int .u64 v) ∧ Below w17.heap.size w17 w') (first | assumption | exact hS17 | exact KS.out _ (hX19.alloc hX19.size _) | exact KS.out _ (hX20.alloc hX20.size _))
              (first
              | (go_at_call 9; with_reducible show Calls _ _ _ w17.drew _; refine (TView_calls T2 _ _ O2 g2 r hr2 f1 _ _ w17.drew aT2.drew aO2.drew ag2.drew).mono ?_; rintro e w18 ⟨v18, rfl, hown18, hB18⟩; have hX18 := below_of_drew' hB18; have K18 := KS.out w18 hX18)
              | (go_at_call 13; with_reducible show Calls _ _ _ w18 _; refine (list_calls v18 _ r hr2 f1 w18 (owns_row (by omega) hown18) (aq.below hX18)).mono ?_; rintro e w19 ⟨rfl, hB19⟩; have hX19 : Below w17.heap.size w17 w19 := hX18.trans (hB19.mono hX18.size); have K19 := KS.out w19 hX19)
              | (go_at_call 9; with_reducible show Calls _ _ _ w19 _; refine (TView_calls T3 _ _ O3 g3 r hr2 (fun _ => 0) _ _ w19 (aT3.of_below hX19) (aO3.of_below hX19) (ag3.of_below hX19)).mono ?_; rintro e w20 ⟨v20, rfl, hown20, hB20⟩; have hX20 : Below w17.heap.size w17 w20 := hX19.trans (hB20.mono hX19.size); have K20 := KS.out w20 hX20)
              | (go_at_call 9; with_reducible show Calls _ _ _ (World.alloc w19 _) _; refine (TView_calls T3 _ _ O3 g3 r hr2 (fun _ => 0) _ _ (w19.alloc (.cells (rowU r (fun _ => 0)) 22)) ((aT3.of_below hX19).alloc _) ((aO3.of_below hX19).alloc _) ((ag3.of_below hX19).alloc _)).mono ?_; rintro e w20 ⟨v20, rfl, hown20, hB20⟩; have hX20 : Below w17.heap.size w17 w20 := (hX19.alloc hX19.size _).trans (hB20.mono (by have := hX19.size; simp; omega)); have K20 := KS.out w20 hX20; have hM20 := (Blk.new w19 22 (rowU r (fun _ => 0))).of_below hB20)
              | (go_at_call 13; with_reducible show Calls _ _ _ (World.alloc w20 _) _; refine (list_calls v20 _ r hr2 (fun _ => 0) (w20.alloc (.cells (rowU r (fun _ => 0)) 22)) (rowAt_alloc (owns_row (by omega) hown20) _) (rowAt_made w20 r)).mono ?_; rintro e w21 ⟨rfl, hB21⟩; have hX21 : Below w17.heap.size w17 w21 := (hX20.alloc hX20.size _).trans (hB21.mono (by have := hX20.size; simp; omega)); have K21 := KS.out w21 hX21)
              | (go_at_call 13; with_reducible show Calls _ _ _ w20 _; refine (list_calls v20 _ r hr2 (fun _ => 0) w20 (owns_row (by omega) hown20) (rowAt_blk hM20)).mono ?_; rintro e w21 ⟨rfl, hB21⟩; have hX21 : Below w17.heap.size w17 w21 := hX20.trans (hB21.mono hX20.size); have K21 := KS.out w21 hX21)
              | (go_at_call 9; with_reducible show Calls _ _ _ w21 _; refine (TView_nil T _ _ OU _ _ w21 (aTU.of_below hX21) (aOU.of_below hX21)).mono ?_; rintro e w22 ⟨rfl, hB22⟩; have hX22 : Below w17.heap.size w17 w22 := hX21.trans (hB22.mono hX21.size); have K22 := KS.out w22 hX22))
            all_goals
              go_wp2_with fail
              go_ret
              exact ⟨rfl, hBB17.trans (hX22.mono (by have := hBB17.size; omega))⟩
end Go.Proofs.Ytecolbdnaipgdaa
