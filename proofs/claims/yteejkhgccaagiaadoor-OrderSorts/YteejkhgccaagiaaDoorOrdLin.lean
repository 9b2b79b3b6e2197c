/- The contract of package order's Linear. -/
import Derived.Test.YteejkhgccaagiaaDoorOrdMem
namespace Go.Proofs.YteejkhgccaagiaaDoor
open Go.RowKit Go.Shelf Sx

/-- A slice of pairs, or nil. -/
def PV (w : World) (v : Value) (l : List (Nat × Nat)) : Prop := ∃ p cap, v = .slice p l.length cap ∧ (0 < l.length → ∃ s, p = some ⟨s, 0, none⟩ ∧ PrsR w s l)
theorem owns_pv {w : World} {base : Nat} {v : Value} {l : List (Nat × Nat)} (h : w.ownsRow base 37 2 v l.length (encPs l)) : PV w v l := by
  rcases owns_prs h with ⟨rfl, rfl⟩ | ⟨s, cap, rfl, _, hs⟩
  · exact ⟨_, _, rfl, fun h => by simp at h⟩
  · exact ⟨_, _, rfl, fun _ => ⟨s, rfl, hs⟩⟩
theorem PV.below {w w' : World} {v : Value} {l : List (Nat × Nat)} (h : PV w v l) (hb : Below w.heap.size w w') : PV w' v l := by
  obtain ⟨p, cap, e, h⟩ := h
  exact ⟨p, cap, e, fun h0 => by obtain ⟨s, e2, h2⟩ := h h0; exact ⟨s, e2, h2.below hb⟩⟩
def turnd (pl : List Int) (x : Nat × Nat) : Bool := decide (pl.getD x.2 0 ≤ pl.getD x.1 0)
def anyT (pl : List Int) (l : List (Nat × Nat)) : Bool := l.any (turnd pl)
def putsF (n : Nat) : List Int → Nat → List Int → Option (List Int)
  | [], _, pl => some pl
  | x :: xs, i, pl => if inR n x = true ∧ pl.getD x.toNat 0 = 0 then putsF n xs (i + 1) (pl.set x.toNat ((i : Int) + 1)) else none
def linB (L : List Nat) (l : List Int) : Bool := l.length == L.length && match putsF L.length l 0 (List.replicate L.length 0) with | none => false | some pl => !anyT pl (pairsL L)
set_option maxHeartbeats 1000000 in
theorem lin1_calls (a b B P : Nat) (pl : List Int) (w : World) (hB : Blk w B 29 #[.slice (some ⟨P, 0, none⟩) pl.length pl.length]) (hP : Blk w P 3 (intsA pl)) (ha : a < pl.length) (hb : b < pl.length) :
    Calls Tryd.prog 49 #[.agg #[.int .i64 a, .int .i64 b], pv B] w fun e w' => e = .returned (.bool (turnd pl (a, b))) ∧ Below w.heap.size w w' := by
  have c0 := hB.cell (j := 0) rfl
  have x0 := hP.cellI (List.getElem?_eq_getElem ha)
  have y0 := hP.cellI (List.getElem?_eq_getElem hb)
  have e : turnd pl (a, b) = decide (pl[b] ≤ pl[a]) := by simp [turnd, List.getD, ha, hb]
  have n1 := hB.lt
  have n2 := hP.lt
  rw [e]
  clear e
  generalize pl[a] = x at *
  generalize pl[b] = y at *
  have a0 : (0 : Int) ≤ (a : Int) := by omega
  have a1 : (a : Int) < (pl.length : Int) := by omega
  have b0 : (0 : Int) ≤ (b : Int) := by omega
  have b1 : (b : Int) < (pl.length : Int) := by omega
  go_enter Tryd.func49, Tryd.ntmps49
  go_wp2_with fail
  go_quiet (fail)
  all_goals
    go_wp2_with fail
    go_ret
    exact ⟨rfl, below_drewN ((Below.refl _ _).alloc (Nat.le_refl _) _) _⟩
set_option maxHeartbeats 2000000 in
theorem idxP_calls (B P : Nat) (pl : List Int) (v : Value) (l : List (Nat × Nat)) (w : World) (hv : PV w v l) (hB : Blk w B 29 #[.slice (some ⟨P, 0, none⟩) pl.length pl.length]) (hP : Blk w P 3 (intsA pl))
    (hl : ∀ x ∈ l, x.1 < pl.length ∧ x.2 < pl.length) (hm : l.length ≤ 1000000) :
    Calls Tryd.prog 85 #[v, .func (.func 49) #[] #[pv B]] w fun e w' => ∃ r : Int, e = .returned (.int .i64 r) ∧ decide (0 ≤ r) = anyT pl l ∧ Below w.heap.size w w' := by
  obtain ⟨p, cap, rfl, hp⟩ := hv
  go_enter Tryd.func85, Tryd.ntmps85
  go_wp2_with fail
  go_loopw [8] (fun i wr => ∃ k : Nat, k ≤ l.length ∧ i = .int .i64 k ∧ Hid (anyT pl (l.take k) = false) ∧ Below w.heap.size w wr) (fun i _ => l.length - (intOf i).toNat)
  case atStart => exact ⟨0, by omega, rfl, rfl, Below.refl _ _⟩
  case round =>
    obtain ⟨k, hk, rfl, HC, hBl⟩ := hrel
    by_cases hlt : k < l.length
    · obtain ⟨s, rfl, hs⟩ := hp (by omega)
      obtain ⟨⟨a, b⟩, hx⟩ : ∃ x, l[k]? = some x := ⟨_, List.getElem?_eq_getElem hlt⟩
      have hr := hs.below hBl
      have c0 := hr.fst k _ hx
      have c1 := hr.snd k _ hx
      obtain ⟨ha, hb⟩ := hl _ (List.mem_of_getElem? hx)
      have HE : Hid (anyT pl (l.take (k + 1)) = turnd pl (a, b)) := by
        show _ = _
        rw [List.take_add_one, hx]
        have := HC.out
        simp [anyT] at this ⊢
        intro u v hu he
        exact absurd he (by rw [this u v hu]; simp)
      clear hx
      cases ht : turnd pl (a, b)
      · go_wp2_with fail
        refine (lin1_calls a b B P pl _ (hB.of_below hBl) (hP.of_below hBl) ha hb).mono ?_
        rw [ht]
        rintro e w1 ⟨rfl, hB1⟩
        go_wp2_with fail
        refine ⟨⟨k + 1, by omega, by go_num, HE.out.trans ht, below_step hBl hBl.size hB1⟩, by simp [intOf]; omega⟩
      · go_wp2_with fail
        refine (lin1_calls a b B P pl _ (hB.of_below hBl) (hP.of_below hBl) ha hb).mono ?_
        rw [ht]
        rintro e w1 ⟨rfl, hB1⟩
        go_wp2_with fail
        go_ret
        refine ⟨_, rfl, ?_, below_step hBl hBl.size hB1⟩
        have h1 := HE.out.trans ht
        rw [show anyT pl l = true from ?_]
        · simp
        · simp [anyT] at h1 ⊢
          obtain ⟨u, v, hu, he⟩ := h1
          exact ⟨u, v, List.mem_of_mem_take hu, he⟩
    · obtain rfl : k = l.length := by omega
      have h1 := HC.out
      rw [List.take_length] at h1
      go_wp2_with fail
      go_ret
      exact ⟨_, rfl, by rw [h1]; rfl, hBl⟩
set_option maxHeartbeats 2000000 in
theorem contP_calls (B P : Nat) (pl : List Int) (v : Value) (l : List (Nat × Nat)) (w : World) (hv : PV w v l) (hB : Blk w B 29 #[.slice (some ⟨P, 0, none⟩) pl.length pl.length]) (hP : Blk w P 3 (intsA pl))
    (hl : ∀ x ∈ l, x.1 < pl.length ∧ x.2 < pl.length) (hm : l.length ≤ 1000000) :
    Calls Tryd.prog 50 #[v, .func (.func 49) #[] #[pv B]] w fun e w' => e = .returned (.bool (anyT pl l)) ∧ Below w.heap.size w w' := by
  have hc := idxP_calls B P pl v l w hv hB hP hl hm
  clear hv hB hP hl
  go_enter Tryd.func50, Tryd.ntmps50
  go_wp2_with fail
  refine hc.mono ?_
  rintro e w1 ⟨r, rfl, hr, hB1⟩
  have Hr := hid_of hr
  clear hr
  go_wp2_with fail
  go_ret
  exact ⟨by rw [← Hr.out]; rfl, hB1⟩
theorem putsF_step {n : Nat} {l : List Int} {k : Nat} {pl : List Int} {x : Int} (hx : l[k]? = some x) : putsF n (l.drop k) k pl = if inR n x = true ∧ pl.getD x.toNat 0 = 0 then putsF n (l.drop (k + 1)) (k + 1) (pl.set x.toNat ((k : Int) + 1)) else none := by
  obtain ⟨hk, e⟩ := List.getElem?_eq_some_iff.1 hx
  rw [List.drop_eq_getElem_cons hk, e]
  rfl
theorem pairsL_lt {L : List Nat} (h : ∀ R ∈ L, R < 2 ^ L.length) : ∀ x ∈ pairsL L, x.1 < L.length ∧ x.2 < L.length := by
  intro x hx
  obtain ⟨h1, h2⟩ := mem_pairsK.1 hx
  refine ⟨h1, ?_⟩
  have h3 : gr L x.1 < 2 ^ L.length := gr_lt h
  apply Nat.lt_of_not_le
  intro hle
  have h4 := mem_bitsN.1 h2
  rw [testBit_of_lt h3 hle] at h4
  cases h4.2
set_option maxHeartbeats 4000000 in
theorem oLinear_calls (b c : Nat) (L : List Nat) (v : Value) (l : List Int) (w : World) (h : IsRel w b c L) (hT : Tab w) (hv : IntsR w v l) :
    Calls Tryd.prog 21 #[pv b, v] w fun e w' => e = .returned (.bool (linB L l)) ∧ Below w.heap.size w w' := by
  have hl := h.len
  by_cases hn : l.length = L.length
  · have hp : ∃ p cap, v = .slice p l.length cap ∧ (0 < l.length → ∃ s o, p = some ⟨s, o, none⟩ ∧ s < w.heap.size ∧ ∀ (i : Nat) (x : Int), l[i]? = some x → w.cell? ⟨s, o + i, none⟩ = some (.int .i64 x)) := by
      rcases hv with ⟨a, cap, rfl, rfl⟩ | ⟨s, o, cap, rfl, h1, h2⟩
      · exact ⟨_, _, rfl, fun h => by simp at h⟩
      · exact ⟨_, _, rfl, fun _ => ⟨s, o, rfl, h1, h2⟩⟩
    clear hv
    obtain ⟨p, cap, rfl, hp⟩ := hp
    have e0 : linB L l = match putsF L.length l 0 (List.replicate L.length 0) with | none => false | some pl => !anyT pl (pairsL L) := by simp [linB, hn]
    have HE0 := hid_of e0
    clear e0
    have hmk := make_ints L.length (by omega)
    have hne : ((l.length : Int) != (L.length : Int)) = false := by simp; omega
    go_enter Tryd.func21, Tryd.ntmps21
    go_wp2_with (go_at_call 30; refine (Len_calls b c L _ h).mono ?_; rintro e w' ⟨rfl, hw'⟩; obtain rfl : w = w' := hw'.symm)
    have hB0 : Below w.heap.size w ((w.alloc (.cells (intsA (List.replicate L.length 0)) 3)).alloc (.cells #[.slice (some ⟨w.heap.size, 0, none⟩) L.length L.length] 29)) := ((Below.refl _ _).alloc (Nat.le_refl _) _).alloc (by simp) _
    go_loopw [20] (fun i wr => ∃ (k : Nat) (pl : List Int), k ≤ l.length ∧ i = .int .i64 k ∧ pl.length = L.length ∧ Blk wr w.heap.size 3 (intsA pl) ∧ Blk wr (w.heap.size + 1) 29 #[.slice (some ⟨w.heap.size, 0, none⟩) L.length L.length] ∧ Hid (putsF L.length l 0 (List.replicate L.length 0) = putsF L.length (l.drop k) k pl) ∧ Below w.heap.size w wr) (fun i _ => l.length - (intOf i).toNat)
    case atStart => exact ⟨0, _, by omega, rfl, by simp, (Blk.new _ _ _).alloc _, by have := Blk.new (w.alloc (.cells (intsA (List.replicate L.length 0)) 3)) 29 #[.slice (some ⟨w.heap.size, 0, none⟩) L.length L.length]; rwa [World.size_alloc] at this, rfl, hB0⟩
    case round =>
      clear hB0 hmk
      obtain ⟨k, pl, hk, rfl, hpl, hP, hQ, HC, hBl⟩ := hrel
      by_cases hlt : k < l.length
      · obtain ⟨s, o, rfl, hs, hc⟩ := hp (by omega)
        obtain ⟨x, hx⟩ : ∃ x, l[k]? = some x := ⟨_, List.getElem?_eq_getElem hlt⟩
        have c0 := (hBl.cell (p := ⟨s, o + k, none⟩) hs).trans (hc k x hx)
        have q0 := hQ.cell (j := 0) rfl
        have HE : Hid (_ = _) := HC.out.trans (putsF_step hx)
        clear HC hx
        cases hi : inR L.length x
        · have HI := hid_of hi
          rw [hi] at HE
          clear hi
          go_wp2_with (go_at_call 48; refine (oIsPoint_calls _ x _).mono ?_; rw [HI.out]; rintro e w' ⟨rfl, rfl⟩)
          go_ret
          have := HE.out
          rw [if_neg (by simp)] at this
          have hr : linB L l = false := HE0.out.trans (by rw [this])
          exact ⟨by rw [hr]; rfl, hBl⟩
        · have HI := hid_of hi
          rw [hi] at HE
          obtain ⟨j, rfl, hj⟩ := inR_true hi
          clear hi
          have hj2 : j < pl.length := by omega
          have d0 := hP.cellI (List.getElem?_eq_getElem hj2)
          have f0 := hP.frozen j
          have j0 : (0 : Int) ≤ (j : Int) := by omega
          have j1 : (j : Int) < (L.length : Int) := by omega
          have HG : Hid (pl.getD (((j : Nat) : Int)).toNat 0 = pl[j]) := by show _ = _; simp [List.getD, hj2]
          cases hz : (pl[j] != 0)
          · have HZ : Hid (pl[j] = 0) := by show _ = _; simpa using hz
            generalize pl[j] = y at *
            go_wp2_with (go_at_call 48; refine (oIsPoint_calls _ _ _).mono ?_; rw [HI.out]; rintro e w' ⟨rfl, rfl⟩)
            refine ⟨⟨k + 1, pl.set j ((k : Int) + 1), by omega, by go_num, by simpa using hpl, hP.setI _ _, hQ.setOther (by simp) _, ?_, hBl.setCell (by simp) _⟩, by simp [intOf]; omega⟩
            have := HE.out
            rw [if_pos ⟨by trivial, HG.out.trans HZ.out⟩] at this
            exact this
          · have HZ : Hid (¬ pl[j] = 0) := by show ¬ _; simpa using hz
            generalize pl[j] = y at *
            go_wp2_with (go_at_call 48; refine (oIsPoint_calls _ _ _).mono ?_; rw [HI.out]; rintro e w' ⟨rfl, rfl⟩)
            go_ret
            have := HE.out
            rw [if_neg (fun h => HZ.out (HG.out.symm.trans h.2))] at this
            have hr : linB L l = false := HE0.out.trans (by rw [this])
            exact ⟨by rw [hr]; rfl, hBl⟩
      · obtain rfl : k = l.length := by omega
        have e1 := HC.out
        rw [List.drop_length, show putsF L.length [] l.length pl = some pl from rfl] at e1
        have HE := hid_of e1
        clear e1 HC
        go_wp2_with fail
        refine (Pairs_calls b c L _ (h.below hBl) (hT.step hBl)).mono ?_
        rintro e w1 ⟨v1, rfl, ho, hB1⟩
        have hQ1 := hQ.of_below hB1
        rw [← hpl] at hQ1
        have hlow : ∀ x ∈ pairsL L, x.1 < pl.length ∧ x.2 < pl.length := by rw [hpl]; exact pairsL_lt h.low
        have hlen : (pairsL L).length ≤ 1000000 := by have := pairsK_length L L.length; simp only [pairsL]; omega
        go_wp2_with fail
        refine (contP_calls _ _ pl v1 (pairsL L) _ (owns_pv ho) hQ1 (hP.of_below hB1) hlow hlen).mono ?_
        rintro e w2 ⟨rfl, hB2⟩
        go_wp2_with fail
        go_ret
        have hr : linB L l = !anyT pl (pairsL L) := HE0.out.trans (by rw [HE.out])
        exact ⟨by rw [hr]; rfl, below_step (below_step hBl hBl.size hB1) (Nat.le_trans hBl.size hB1.size) hB2⟩
  · obtain ⟨a, cap, rfl⟩ := hv.len
    have e0 : linB L l = false := by simp [linB, hn]
    rw [e0]
    have hne : ((l.length : Int) != (L.length : Int)) = true := by simp; omega
    go_enter Tryd.func21, Tryd.ntmps21
    go_wp2_with (go_at_call 30; refine (Len_calls b c L _ h).mono ?_; rintro e w' ⟨rfl, hw'⟩; obtain rfl : w = w' := hw'.symm)
    go_ret
    exact ⟨rfl, Below.refl _ _⟩
end Go.Proofs.YteejkhgccaagiaaDoor
