/- The contract of the statement RelCycles' program: it answers true. -/
import Derived.Test.YtpflelkdkpabbaaDoorRisesWalk
import Derived.Test.YtpflelkdkpabbaaDoorOfArgs
import Derived.Deep.RegionHeld3
namespace Go.Proofs.YtpflelkdkpabbaaDoor
open Go.RowKit Go.Shelf Sx Relation

theorem ofC_length (n : Int) (l : List (Int × Int)) : (ofL n l).length = clampN n := by
  have : ∀ (l : List (Int × Int)) (X : List Nat), (l.foldl (fun A x => putP A x.1 x.2 true) X).length = X.length := by
    intro l
    induction l with
    | nil => intro X; rfl
    | cons x l ih => intro X; rw [List.foldl_cons, ih, putP_len]
  unfold ofL ofK
  rw [this, List.length_replicate]
theorem clampC_le (n : Int) : clampN n ≤ 256 := by unfold clampN; omega
theorem hasP_yes {n : Nat} {L : List Nat} (hw : WF n L) {p q : Nat} (h : hs L p q) : hasP L ((p : Nat) : Int) ((q : Nat) : Int) = true := by
  have h1 := hs_left h
  have h2 := hw.low _ _ h
  rw [← hw.len] at h2
  unfold hasP inR
  rw [decide_eq_true (by omega), decide_eq_true (by omega)]
  exact h
theorem hasP_no {L : List Nat} {p q : Nat} (h : ¬ hs L p q) : hasP L ((p : Nat) : Int) ((q : Nat) : Int) = false := by
  unfold hasP
  have : (gr L ((p : Nat) : Int).toNat).testBit ((q : Nat) : Int).toNat = false := by
    rw [Bool.eq_false_iff]
    exact h
  rw [this, Bool.and_false, Bool.and_false]
theorem HasT (v : Bool) (b c : Nat) (L : List Nat) (x y : Int) (w : World) (h : IsRel w b c L) (hv : hasP L x y = v) :
    Calls Tryd.prog 39 #[pv b, .int .i64 x, .int .i64 y] w fun e w' => e = .returned (.bool v) ∧ Below w.heap.size w w' := by
  subst hv
  exact Has_calls b c L x y w h

/-- What the loops of RelCycles find: the relation, its closure, the told points. -/
structure CycAt (w W : World) (b1 c1 b2 c2 : Nat) (L : List Nat) (sb o : Nat) (out : List Nat) : Prop where
  below : Below w.heap.size w W
  rel : IsRel W b1 c1 L
  plus : IsRel W b2 c2 (plusL L)
  lt : sb < W.heap.size
  cell : ∀ t, t < out.length → W.cell? ⟨sb, o + t, none⟩ = some (.int .i64 ((gr out t : Nat) : Int))
theorem CycAt.step {w W W' : World} {b1 c1 b2 c2 : Nat} {L : List Nat} {sb o : Nat} {out : List Nat} (h : CycAt w W b1 c1 b2 c2 L sb o out) (hB : Below W.heap.size W W') : CycAt w W' b1 c1 b2 c2 L sb o out :=
  ⟨below_step h.below h.below.size hB, h.rel.below hB, h.plus.below hB, Nat.lt_of_lt_of_le h.lt hB.size, fun t ht => (hB.cell (p := ⟨sb, o + t, none⟩) h.lt).trans (h.cell t ht)⟩
theorem CycAt.drewN {w W : World} {b1 c1 b2 c2 : Nat} {L : List Nat} {sb o : Nat} {out : List Nat} (h : CycAt w W b1 c1 b2 c2 L sb o out) (k : Nat) : CycAt w (W.drewN k) b1 c1 b2 c2 L sb o out :=
  ⟨below_drewN h.below k, h.rel.drewN k, h.plus.drewN k, h.lt, h.cell⟩
theorem CycAt.drew {w W : World} {b1 c1 b2 c2 : Nat} {L : List Nat} {sb o : Nat} {out : List Nat} (h : CycAt w W b1 c1 b2 c2 L sb o out) : CycAt w W.drew b1 c1 b2 c2 L sb o out :=
  h.step (below_drew _)

set_option maxRecDepth 100000 in
set_option maxHeartbeats 8000000 in
theorem RelCycles_calls (n : Int) (v1 : Value) (l1 : List (Int × Int)) (w : World) (hT : Tab w) (h1 : PArg w v1 l1) :
    Calls Tryd.prog 6 #[.int .i64 n, v1] w fun e w' => e = .returned (.bool true) ∧ Below w.heap.size w w' := by
  go_enter Tryd.func6, Tryd.ntmps6
  have hK := KN.nil hT
  go_wp2_with fail
  refine (OfT n v1 l1 _ h1).mono ?_
  rintro e w1 ⟨b1, c1, rfl, hM⟩
  replace hK := hK.add hM
  clear hM
  have hN := clampC_le n
  have HW : Hid (WF (clampN n) (ofL n l1)) := hK.one.wf (ofC_length n l1)
  generalize ofL n l1 = L at *
  generalize clampN n = N at *
  clear h1 hT
  go_wp2_with fail
  refine (lives_calls _ hK.tab).mono ?_
  rintro e w2 ⟨rfl, hB⟩
  replace hK := hK.step hB
  clear hB
  go_wp2_with fail
  refine (Cycle_calls b1 c1 L _ hK.one hK.tab).mono ?_
  rintro e w3 ⟨v, out, rfl, hC, ho, hB⟩
  replace hK := hK.step hB
  clear hB
  rcases cyc_facts hN HW.out hC with ⟨rfl, hac⟩ | ⟨s, l, rfl, hpath, hdis, hleast, hnone, hon⟩
  · have hv : ∃ p cap, v = .slice p 0 cap := by
      rcases owns_ints ho with ⟨rfl, _⟩ | ⟨s, o, cap, rfl, _⟩
      · exact ⟨_, _, rfl⟩
      · exact ⟨_, _, rfl⟩
    obtain ⟨p, cap, rfl⟩ := hv
    have Hac : Hid (∀ p, ¬ TransGen (hs L) p p) := hac
    clear hac ho hC
    go_wp2_with fail
    refine (rises_calls b1 c1 L _ hK.one hK.tab Hac.out).mono ?_
    rintro e w4 ⟨rfl, hB⟩
    replace hK := hK.step hB
    clear hB
    go_wp2_with fail
    go_ret
    exact ⟨rfl, hK.below⟩
  · obtain ⟨sb, o, cap, rfl, hlt, hcell⟩ : ∃ sb o cap, v = .slice (some ⟨sb, o, none⟩) (s :: l).length cap ∧ sb < w3.heap.size ∧ ∀ t, t < (s :: l).length → w3.cell? ⟨sb, o + t, none⟩ = some (.int .i64 ((gr (s :: l) t : Nat) : Int)) := by
      rcases owns_ints ho with ⟨_, e⟩ | ⟨sb, o, cap, e, e2, e3⟩
      · simp at e
      · refine ⟨sb, o, cap, by rw [e, List.length_map], e2, fun t ht => ?_⟩
        exact e3 t _ (by rw [List.getElem?_map, gr_of ht]; rfl)
    have at_ : ∀ k (h : k < (s :: l).length), gr (s :: l) k = (s :: l)[k] := fun k h => gr_eq (List.getElem?_eq_getElem h)
    have F1 : Hid (∀ i, i < (s :: l).length → hs L (gr (s :: l) i) (if i + 1 < (s :: l).length then gr (s :: l) (i + 1) else gr (s :: l) 0)) := path_at _ _ _ hpath
    have F2 : Hid (∀ t k, t < k → k < (s :: l).length → gr (s :: l) t ≠ gr (s :: l) k) := by
      intro t k h1 h2
      rw [at_ t (by omega), at_ k h2]
      exact List.pairwise_iff_getElem.1 hdis t k (by omega) h2 h1
    have F3 : Hid (∀ k, k < (s :: l).length → gr (s :: l) 0 ≤ gr (s :: l) k) := by
      intro k hk
      rw [at_ k hk]
      exact (hleast _ (List.getElem_mem hk)).1
    have F4 : Hid (∀ q, q < gr (s :: l) 0 → ¬ hs (plusL L) q q) := hnone
    have F5 : Hid (hs (plusL L) (gr (s :: l) 0) (gr (s :: l) 0)) := hon
    have hMl : (s :: l).length ≤ 256 := Nat.le_trans (nodup_le N _ hdis (fun x hx => (hleast x hx).2)) hN
    have hpos : 0 < (s :: l).length := by simp
    have hz : gr (s :: l) 0 < 256 := Nat.lt_of_lt_of_le (hleast s (by simp)).2 hN
    have HWp : Hid (WF N (plusL L)) := wf_plus HW.out
    clear hpath hdis hleast hnone hon hC ho at_
    generalize (s :: l) = out at *
    have hne : (((out.length : Nat) : Int) == 0) = false := by rw [beq_eq_false_iff_ne]; omega
    go_wp2_with fail
    refine (Plus_calls b1 c1 L _ hK.one).mono ?_
    rintro e w4 ⟨b2, c2, rfl, hM⟩
    have hA : CycAt w w4 b1 c1 b2 c2 L sb o out := ⟨below_step hK.below hK.below.size hM.below, hM.old hK.one, hM.rel, Nat.lt_of_lt_of_le hlt hM.below.size, fun t ht => (hM.below.cell (p := ⟨sb, o + t, none⟩) hlt).trans (hcell t ht)⟩
    clear hK hM hcell hlt hne
    go_wp2_with fail
    go_loopw [8] (fun i wr => ∃ k, k ≤ out.length ∧ i = .int .i64 ((k : Nat) : Int) ∧ CycAt w wr b1 c1 b2 c2 L sb o out) (fun i _ => out.length - (intOf i).toNat)
    case atStart => exact ⟨0, by omega, rfl, hA⟩
    case round =>
      clear hA
      obtain ⟨k, hk, rfl, hA⟩ := hrel
      by_cases hlt : k < out.length
      · have ck := hA.cell k hlt
        have c0 := hA.cell 0 hpos
        rw [Nat.add_zero] at c0
        have hh := hasP_yes HW.out (F1.out k hlt)
        have hge : decide (((gr out k : Nat) : Int) < ((gr out 0 : Nat) : Int)) = false := by
          have := F3.out k hlt
          rw [decide_eq_false_iff_not]
          omega
        have hge2 : ¬ gr out k < gr out 0 := by have := F3.out k hlt; omega
        by_cases hlt2 : k + 1 < out.length
        · have cn := hA.cell (k + 1) hlt2
          rw [if_pos hlt2] at hh
          generalize gr out (k + 1) = nx at cn hh
          go_wp2_with fail
          go_region_held3 (fun w' => w'.cell? ⟨sb, o + k, none⟩ = some (.int .i64 ((gr out k : Nat) : Int)) ∧ w'.cell? ⟨sb, o, none⟩ = some (.int .i64 ((gr out 0 : Nat) : Int))) (first | assumption | exact ⟨ck, c0⟩ | exact ⟨ck5, c05⟩) (first | (go_at_call 39; refine (HasT true b1 c1 L _ _ _ hA.drew.rel hh).mono ?_; rintro e w5 ⟨rfl, hB5⟩; have hA5 := hA.drew.step hB5; clear ck c0; have ck5 := hA5.cell k hlt; have c05 := hA5.cell 0 hpos; rw [Nat.add_zero] at c05))
          all_goals
            clear hA hh
            go_wp2_with fail
            clear ck5 c05 hge hge2
            go_loopw [10] (fun i wr => ∃ t, t ≤ k ∧ i = .int .i64 ((t : Nat) : Int) ∧ CycAt w wr b1 c1 b2 c2 L sb o out) (fun i _ => k - (intOf i).toNat)
            case atStart => exact ⟨0, by omega, rfl, hA5⟩
            case round =>
              clear hA5
              obtain ⟨t, ht, rfl, hA⟩ := hrel
              by_cases htk : t < k
              · have ct := hA.cell t (by omega)
                have ck := hA.cell k hlt
                have hn : (((gr out t : Nat) : Int) == ((gr out k : Nat) : Int)) = false := by
                  rw [beq_eq_false_iff_ne]
                  have := F2.out t k htk hlt
                  omega
                go_wp2_with fail
                go_quiet (fail)
                go_wp2_with fail
                refine ⟨⟨t + 1, by omega, by go_num, hA.drewN _⟩, by simp [intOf]; omega⟩
              · have e : k = t := by omega
                subst e
                go_wp2_with fail
                refine ⟨⟨k + 1, by omega, by go_num, hA⟩, by simp [intOf]; omega⟩
        · rw [if_neg hlt2] at hh
          go_wp2_with fail
          go_region_held3 (fun w' => w'.cell? ⟨sb, o + k, none⟩ = some (.int .i64 ((gr out k : Nat) : Int)) ∧ w'.cell? ⟨sb, o, none⟩ = some (.int .i64 ((gr out 0 : Nat) : Int))) (first | assumption | exact ⟨ck, c0⟩ | exact ⟨ck5, c05⟩) (first | (go_at_call 39; refine (HasT true b1 c1 L _ _ _ hA.drew.rel hh).mono ?_; rintro e w5 ⟨rfl, hB5⟩; have hA5 := hA.drew.step hB5; clear ck c0; have ck5 := hA5.cell k hlt; have c05 := hA5.cell 0 hpos; rw [Nat.add_zero] at c05))
          all_goals
            clear hA hh
            go_wp2_with fail
            clear ck5 c05 hge hge2
            go_loopw [10] (fun i wr => ∃ t, t ≤ k ∧ i = .int .i64 ((t : Nat) : Int) ∧ CycAt w wr b1 c1 b2 c2 L sb o out) (fun i _ => k - (intOf i).toNat)
            case atStart => exact ⟨0, by omega, rfl, hA5⟩
            case round =>
              clear hA5
              obtain ⟨t, ht, rfl, hA⟩ := hrel
              by_cases htk : t < k
              · have ct := hA.cell t (by omega)
                have ck := hA.cell k hlt
                have hn : (((gr out t : Nat) : Int) == ((gr out k : Nat) : Int)) = false := by
                  rw [beq_eq_false_iff_ne]
                  have := F2.out t k htk hlt
                  omega
                go_wp2_with fail
                go_quiet (fail)
                go_wp2_with fail
                refine ⟨⟨t + 1, by omega, by go_num, hA.drewN _⟩, by simp [intOf]; omega⟩
              · have e : k = t := by omega
                subst e
                go_wp2_with fail
                refine ⟨⟨k + 1, by omega, by go_num, hA⟩, by simp [intOf]; omega⟩
      · go_wp2_with fail
        go_loopw [11] (fun i wr => ∃ q, q ≤ gr out 0 ∧ i = .int .i64 ((q : Nat) : Int) ∧ CycAt w wr b1 c1 b2 c2 L sb o out) (fun i _ => gr out 0 - (intOf i).toNat)
        case atStart => exact ⟨0, by omega, rfl, hA⟩
        case round =>
          clear hA
          obtain ⟨q, hq, rfl, hA⟩ := hrel
          have c0 := hA.cell 0 hpos
          rw [Nat.add_zero] at c0
          by_cases hqz : q < gr out 0
          · have hn := hasP_no (F4.out q hqz)
            go_wp2_with fail
            refine (HasT false b2 c2 (plusL L) _ _ _ hA.plus hn).mono ?_
            rintro e w5 ⟨rfl, hB5⟩
            have hA5 := hA.step hB5
            clear c0 hn hB5
            go_wp2_with fail
            refine ⟨⟨q + 1, by omega, by go_num, hA5⟩, by simp [intOf]; omega⟩
          · have hy := hasP_yes HWp.out F5.out
            go_wp2_with fail
            go_region_held3 (fun w' => w'.cell? ⟨sb, o, none⟩ = some (.int .i64 ((gr out 0 : Nat) : Int))) (first | assumption | exact c05) (first | (go_at_call 39; refine (HasT true b2 c2 (plusL L) _ _ _ hA.drew.plus hy).mono ?_; rintro e w5 ⟨rfl, hB5⟩; have hA5 := hA.drew.step hB5; clear c0; have c05 := hA5.cell 0 hpos; rw [Nat.add_zero] at c05))
            all_goals
              go_wp2_with fail
              go_ret
              exact ⟨rfl, hA5.below⟩
end Go.Proofs.YtpflelkdkpabbaaDoor
