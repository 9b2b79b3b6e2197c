/- The reference's IsName, and the statement LexNames, walked. -/
import Derived.Test.YtkgppagpjbkhmaaDoorLxNames
namespace Go.Proofs.YtkgppagpjbkhmaaDoor
open Go.RowKit Go.Shelf

theorem ownsR_below {w w' : World} {base : Nat} {v : Value} {n : Nat} {xs : List Value} (h : w.ownsRow base 52 5 v n xs) (hb : Below w.heap.size w w') : w'.ownsRow base 52 5 v n xs := by
  refine ⟨h.1, ?_⟩
  rcases h.2 with h2 | ⟨g, cap, cur, rfl, h4, h5, h6⟩
  · exact .inl h2
  · exact .inr ⟨g, cap, cur, rfl, h4, (hb.block g (Blk.lt (t := 52) (cs := cur) h5)).trans h5, h6⟩
theorem rn_form {w : World} {base n : Nat} {v : Value} {xs : List Value} (h : w.ownsRow base 52 5 v n xs) (h0 : 0 < n) : ∃ g cap, v = .slice (some ⟨g, 0, none⟩) n cap := by
  rcases h.2 with ⟨_, e⟩ | ⟨g, cap, cur, e, _⟩
  · omega
  · exact ⟨g, cap, e⟩
theorem rn_at {w : World} {base g cap : Nat} {l : List Rn} (h : w.ownsRow base 52 5 (.slice (some ⟨g, 0, none⟩) l.length cap) l.length (encR l)) {k : Nat} {x : Rn} (hx : l[k]? = some x) (j : Nat) (hj : j < 5) : w.cell? ⟨g, k * 5 + j, none⟩ = (rnC x)[j]? := by
  have hk := (List.getElem?_eq_some_iff.1 hx).1
  rw [h.cellAt (k * 5 + j) (by omega), encR_at l k x hx j hj]
theorem drop_two {l : List Rn} {k : Nat} {x : Rn} (hx : l[k]? = some x) (hk : k + 1 < l.length) : ∃ y r, l.drop k = x :: y :: r := by
  obtain ⟨h1, e⟩ := List.getElem?_eq_some_iff.1 hx
  refine ⟨l[k + 1], l.drop (k + 2), ?_⟩
  rw [List.drop_eq_getElem_cons h1, e, List.drop_eq_getElem_cons hk]
set_option maxRecDepth 100000 in
set_option maxHeartbeats 8000000 in
theorem rIsName_calls (s : ByteArray) (w : World) (hs : s.size ≤ 1099511627776) (hsl : (runesA s).length ≤ 1099511627777) :
    Calls Tryd.prog 19 #[.string s] w fun e w' => e = .returned (.bool (rNameB s)) ∧ Below w.heap.size w w' := by
  have hcv := run_bytes_of_string (P := Tryd.prog) w 9 32 5 s Tryd.underlying9 Tryd.underlying32 Tryd.underlying5
  generalize grownCap w s.size 0 5 = cap at *
  have hB1 : Below w.heap.size w ((w.alloc (.cells (bytesRow s cap) 5 ((bytesRow s cap).size, (bytesRow s cap).size + 1))).drew) := ((Below.refl w.heap.size w).alloc (Nat.le_refl _) _).drew
  have hb1 := (bytes_of w s cap cap ((bytesRow s cap).size, (bytesRow s cap).size + 1)).below (Below.refl _ _).drew
  have hL := Runes_calls _ _ _ hb1 hs
  generalize bytesRow s cap = C at *
  have HL := hid_of hL
  have h0 := runesK_pos s s.size 0 1 1
  change 0 < (runesA s).length at h0
  have HN : Hid (rNameB s = (nameL 0 (runesA s) && decide (1 < (runesA s).length) && !wordB s)) := rfl
  generalize runesA s = L at *
  clear hL hb1
  go_enter Tryd.func19, Tryd.ntmps19
  go_wp2_with fail
  refine HL.out.mono ?_
  rintro e w1 ⟨v, rfl, hown, hB2⟩
  obtain ⟨g, capr, rfl⟩ := rn_form hown h0
  have hW1 : Below w.heap.size w w1 := below_step hB1 hB1.size hB2
  clear HL hcv hB1 hB2
  go_wp2_with fail
  go_loopw [4] (fun i wr => ∃ k : Nat, k + 1 ≤ L.length ∧ i = .int .i64 ((k : Nat) : Int) ∧ Hid (nameL 0 L = nameL k (L.drop k)) ∧ Hid (Below w1.heap.size w1 wr)) (fun i _ => L.length - (intOf i).toNat)
  case atStart => exact ⟨0, by omega, rfl, rfl, Below.refl _ _⟩
  case round =>
    obtain ⟨k, hk, rfl, HK, HB⟩ := hrel
    have hW : Below w.heap.size w wr := below_step hW1 hW1.size HB.out
    by_cases hlt : k + 1 < L.length
    · have t1 : ((k : Nat) : Int) < ((L.length : Nat) : Int) - 1 := by omega
      obtain ⟨x, hx⟩ : ∃ x, L[k]? = some x := ⟨_, List.getElem?_eq_getElem (by omega)⟩
      obtain ⟨y, r, hd⟩ := drop_two hx hlt
      have HK2 := hid_of (HK.out.trans (nameL_drop k L x y r hd))
      have ho := ownsR_below hown HB.out
      have q0 := rn_at ho hx 0 (by omega)
      have q1 := rn_at ho hx 1 (by omega)
      have q2 := rn_at ho hx 2 (by omega)
      have q3 := rn_at ho hx 3 (by omega)
      have q4 := rn_at ho hx 4 (by omega)
      have HS : Hid (rnStop k x = (!letterRB x && (decide (k = 0) || !digitRB x))) := rfl
      have hcl := fun W => rLetter_calls x W
      have hcd := fun W => rDigit_calls x W
      have HX := hid_of hx
      obtain ⟨xr, xa, xn, xl, xc⟩ := x
      simp only [rnC, List.getElem?_toArray, List.getElem?_cons_zero, List.getElem?_cons_succ, Nat.add_zero] at q0 q1 q2 q3 q4 hcl hcd
      have k0 : (0 : Int) ≤ ((k : Nat) : Int) := by omega
      have k1 : ((k : Nat) : Int) < ((L.length : Nat) : Int) := by omega
      clear hx hd ho HK
      cases hl : letterRB ⟨xr, xa, xn, xl, xc⟩
      · rw [hl] at hcl
        by_cases hz : k = 0
        · have t2 : (((k : Nat) : Int) == 0) = true := by simp [hz]
          have HE : Hid (rNameB s = false) := by rw [Hid, HN.out, HK2.out, HS.out, hl]; simp [hz]
          clear hl hz hcd
          go_wp2_with fail
          refine (hcl _).mono ?_
          rintro e w2 ⟨rfl, hb2⟩
          go_wp2_with fail
          go_ret
          exact ⟨ret_bool HE.out.symm, below_step hW hW.size hb2⟩
        · have t2 : (((k : Nat) : Int) == 0) = false := by rw [beq_eq_false_iff_ne]; omega
          cases hd : digitRB ⟨xr, xa, xn, xl, xc⟩
          · have HE : Hid (rNameB s = false) := by rw [Hid, HN.out, HK2.out, HS.out, hl, hd]; simp
            rw [hd] at hcd
            clear hl hz hd
            go_wp2_with fail
            refine (hcl _).mono ?_
            rintro e w2 ⟨rfl, hb2⟩
            have ho2 := ownsR_below (ownsR_below hown HB.out) hb2
            have z0 := rn_at ho2 HX.out 0 (by omega)
            have z1 := rn_at ho2 HX.out 1 (by omega)
            have z2 := rn_at ho2 HX.out 2 (by omega)
            have z3 := rn_at ho2 HX.out 3 (by omega)
            have z4 := rn_at ho2 HX.out 4 (by omega)
            simp only [rnC, List.getElem?_toArray, List.getElem?_cons_zero, List.getElem?_cons_succ, Nat.add_zero] at z0 z1 z2 z3 z4
            clear q0 q1 q2 q3 q4 ho2
            go_wp2_with fail
            refine (hcd _).mono ?_
            rintro e w3 ⟨rfl, hb3⟩
            go_wp2_with fail
            go_ret
            exact ⟨ret_bool HE.out.symm, below_step (below_step hW hW.size hb2) (Nat.le_trans hW.size hb2.size) hb3⟩
          · have HE : Hid (nameL 0 L = nameL (k + 1) (L.drop (k + 1))) := by rw [Hid, HK2.out, HS.out, hl, hd]; simp [hz]
            rw [hd] at hcd
            clear hl hz hd
            go_wp2_with fail
            refine (hcl _).mono ?_
            rintro e w2 ⟨rfl, hb2⟩
            have ho2 := ownsR_below (ownsR_below hown HB.out) hb2
            have z0 := rn_at ho2 HX.out 0 (by omega)
            have z1 := rn_at ho2 HX.out 1 (by omega)
            have z2 := rn_at ho2 HX.out 2 (by omega)
            have z3 := rn_at ho2 HX.out 3 (by omega)
            have z4 := rn_at ho2 HX.out 4 (by omega)
            simp only [rnC, List.getElem?_toArray, List.getElem?_cons_zero, List.getElem?_cons_succ, Nat.add_zero] at z0 z1 z2 z3 z4
            clear q0 q1 q2 q3 q4 ho2
            go_wp2_with fail
            refine (hcd _).mono ?_
            rintro e w3 ⟨rfl, hb3⟩
            have HB3 : Hid (Below w1.heap.size w1 w3) := below_step (below_step HB.out HB.out.size hb2) (Nat.le_trans HB.out.size hb2.size) hb3
            go_wp2_with fail
            exact ⟨⟨k + 1, by omega, by go_num, HE, HB3⟩, by simp [intOf]; omega⟩
      · have HE : Hid (nameL 0 L = nameL (k + 1) (L.drop (k + 1))) := by rw [Hid, HK2.out, HS.out, hl]; simp
        rw [hl] at hcl
        clear hl hcd
        go_wp2_with fail
        refine (hcl _).mono ?_
        rintro e w2 ⟨rfl, hb2⟩
        have HB3 : Hid (Below w1.heap.size w1 w2) := below_step HB.out HB.out.size hb2
        go_wp2_with fail
        exact ⟨⟨k + 1, by omega, by go_num, HE, HB3⟩, by simp [intOf]; omega⟩
    · have t1 : ¬ ((k : Nat) : Int) < ((L.length : Nat) : Int) - 1 := by omega
      have HE : Hid (nameL 0 L = true) := by
        rw [Hid, HK.out]
        obtain ⟨x, hx⟩ : ∃ x, L.drop k = [x] := by
          refine ⟨L[k]'(by omega), ?_⟩
          rw [List.drop_eq_getElem_cons (by omega), List.drop_eq_nil_of_le (by omega)]
        rw [hx]
        rfl
      have HE2 : Hid (rNameB s = (decide (1 < L.length) && !wordB s)) := by rw [Hid, HN.out, HE.out, Bool.true_and]
      by_cases h1 : 1 < L.length
      · have t2 : (1 : Int) < ((L.length : Nat) : Int) := by omega
        have HE3 : Hid (rNameB s = !wordB s) := HE2.out.trans (by simp [h1])
        clear h1 HE2 HE HK
        go_wp2_with fail
        refine (rIsWord_calls s _).mono ?_
        rintro e w2 ⟨rfl, hb2⟩
        go_wp2_with fail
        go_ret
        exact ⟨ret_bool HE3.out.symm, below_step hW hW.size hb2⟩
      · have t2 : ¬ (1 : Int) < ((L.length : Nat) : Int) := by omega
        have HE3 : Hid (rNameB s = false) := HE2.out.trans (by simp [h1])
        clear h1 HE2 HE HK
        go_wp2_with fail
        go_ret
        exact ⟨ret_bool HE3.out.symm, hW⟩
theorem runesK_le (s : ByteArray) : ∀ f pos l k, s.size ≤ pos + f → pos ≤ s.size → (runesK s f pos l k).length ≤ s.size - pos + 1 := by
  intro f
  induction f with
  | zero => intro pos l k _ _; simp [runesK]
  | succ f ih =>
    intro pos l k hf hp
    unfold runesK
    by_cases h : pos < s.size
    · rw [if_pos h]
      have hw := dec_pos s pos
      have hl := dec_le s pos h
      have := ih (pos + (Utf8.decode s pos).2) (if runeI s pos = 10 then l + 1 else l) (if runeI s pos = 10 then 1 else k + 1) (by omega) hl
      rw [List.length_cons]
      omega
    · rw [if_neg h]
      simp
set_option maxRecDepth 100000 in
set_option maxHeartbeats 4000000 in
theorem LexNames_calls (s : ByteArray) (w : World) (hT : Tabs w) (hs : s.size ≤ 1099511627776) :
    Calls Tryd.prog 5 #[.string s] w fun e w' => e = .returned (.bool true) ∧ Below w.heap.size w w' := by
  have hlen : (runesA s).length ≤ 1099511627777 := by
    have := runesK_le s s.size 0 1 1 (by omega) (by omega)
    unfold runesA
    omega
  have h1 := IsName_calls s w (by omega)
  have h2 := fun W => rIsName_calls s W hs hlen
  rw [rName_same] at h2
  generalize isNameB s = q at *
  have hq : (q == q) = true := by simp
  go_enter Tryd.func5, Tryd.ntmps5
  go_wp2_with fail
  refine h1.mono ?_
  rintro e w1 ⟨rfl, hb1⟩
  go_wp2_with fail
  refine (h2 _).mono ?_
  rintro e w2 ⟨rfl, hb2⟩
  have hW2 := below_step hb1 hb1.size hb2
  clear h1 h2
  go_wp2_with fail
  refine (awake_calls _ (hT.below hW2)).mono ?_
  rintro e w3 ⟨rfl, hb3⟩
  go_wp2_with fail
  go_ret
  exact ⟨rfl, below_step hW2 hW2.size hb3⟩
end Go.Proofs.YtkgppagpjbkhmaaDoor
