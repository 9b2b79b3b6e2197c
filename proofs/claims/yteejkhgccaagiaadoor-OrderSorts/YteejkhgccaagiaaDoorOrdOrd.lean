/- Package order's orders, where the loop body leaves in its first round. -/
import Derived.Test.YteejkhgccaagiaaDoorOrdNew
import Derived.Test.YteejkhgccaagiaaDoorOrdMath
import Derived.Sort.LoopGhostIn
import Derived.Sort.CutIn
import Derived.Stop.RegionWithIn
import Derived.Scope
import Derived.WalkMore
namespace Go.Proofs.YteejkhgccaagiaaDoor
open Go.RowKit Go.Shelf Sx
attribute [local go_sem] Oper.semAt_some

theorem bk_pairs (L : List Nat) (p : Nat) : ∀ k, ((pairsK L k).filter (fun x => x.1 == p)).map (·.2) = if p < k then bitsOf (gr L p) else []
  | 0 => by simp [pairsK]
  | k + 1 => by
    rw [pairsK_succ, List.filter_append, List.map_append, bk_pairs L p k]
    by_cases e : k = p
    · subst e
      rw [if_neg (by omega), if_pos (by omega), List.nil_append]
      have : ((bitsOf (gr L k)).map (fun q => (k, q))).filter (fun x => x.1 == k) = (bitsOf (gr L k)).map (fun q => (k, q)) := by
        rw [List.filter_eq_self]
        intro x hx
        obtain ⟨q, _, rfl⟩ := List.mem_map.1 hx
        simp
      rw [this, List.map_map]
      exact List.map_id _
    · have : ((bitsOf (gr L k)).map (fun q => (k, q))).filter (fun x => x.1 == p) = [] := by
        rw [List.filter_eq_nil_iff]
        intro x hx
        obtain ⟨q, _, rfl⟩ := List.mem_map.1 hx
        simpa using e
      rw [this, List.map_nil, List.append_nil]
      by_cases h : p < k
      · rw [if_pos h, if_pos (by omega)]
      · rw [if_neg h, if_neg (by omega)]
theorem nlk_ln {w w' : World} {N1 l bh wt : Nat} {vs : List Value} {L : List Nat} (h : NLk w N1 l bh wt L.length vs (bkOf L.length (pairsL L)) (wtOf L.length (pairsL L))) (hb : Below w.heap.size w w') (hL : L.length ≤ 256) (hlow : ∀ R ∈ L, R < 2 ^ L.length) :
    LnP w' N1 w'.heap.size l bh wt (.slice none 0 0) [] vs (bkOf L.length (pairsL L)) (wAll L.length (pairsL L) []) := by
  have hl := wAll_length L.length (pairsL L) []
  have z := hb.size
  have hN := h.hN
  refine ⟨⟨?_, h.bhB.of_below hb, ?_, by rw [hl, h.vlen], by rw [hl, bkOf_length], ?_, ?_, h.low, h.ne, ⟨by omega, Nat.le_refl _⟩, by rw [hl]; exact hL⟩, World.ownsRow_nil _ _ _ _⟩
  · rw [hl]; exact h.st.of_below hb
  · rw [wAll_nil]; exact h.wtB.of_below hb
  · intro p v bl hv hbl
    have ho := owns_below' (h.own p v bl hv hbl) hb
    rcases ho.2 with ⟨rfl, e2⟩ | ⟨g, cap, cur, rfl, h4, h5, _, _, _, ht⟩
    · have : bl = [] := List.eq_nil_of_length_eq_zero e2
      subst this
      exact ⟨_, _, rfl, fun h0 => by simp at h0⟩
    · refine ⟨_, _, rfl, fun _ => ⟨g, rfl, h4, (Array.getElem?_eq_some_iff.1 h5).1, fun i x hx => ?_⟩⟩
      have hk : Blk w' g 3 cur := h5
      apply hk.cell
      have hi : i < bl.length := (List.getElem?_eq_some_iff.1 hx).1
      have : (encN bl)[i]? = some (.int .i64 ((x : Nat) : Int)) := by simp [encN, hx]
      rw [← ht, List.getElem?_take_of_lt (by omega)] at this
      simpa using this
  · intro bl hbl
    rw [hl]
    obtain ⟨p, hp, rfl⟩ := List.mem_iff_getElem.1 hbl
    have hpn : p < L.length := by rw [bkOf_length] at hp; exact hp
    have e := bkOf_at (pairsL L) hpn
    rw [List.getElem?_eq_getElem hp] at e
    injection e with e
    rw [e]
    refine ⟨?_, fun q hq => ?_⟩
    · rw [show pairsL L = pairsK L L.length from rfl, bk_pairs, if_pos hpn]
      exact bitsOf_length _
    · obtain ⟨x, hx, rfl⟩ := List.mem_map.1 hq
      exact (pairsL_lt hlow x (List.mem_filter.1 hx).1).2
/-- The order that Sort lays, or as much of it as can be laid. -/
def sortOf (L : List Nat) : List Nat := srt L.length (pairsL L) (L.length + 1) []
theorem wAll_sm (L : List Nat) (hL : L.length ≤ 256) (pts : List Nat) : Sm 100000 (wAll L.length (pairsL L) pts) := by
  intro x hx
  obtain ⟨q, hq, rfl⟩ := List.mem_map.1 hx
  have h1 := wAt_nonneg (pairsL L) pts q
  have h2 : wAt (pairsL L) pts q ≤ 65537 := by
    unfold wAt
    have h3 := List.length_filter_le (fun x : Nat × Nat => x.2 == q && !pts.contains x.1) (pairsL L)
    have h4 : (pairsL L).length ≤ 65536 := by have := pairsK_length L L.length; simp only [pairsL]; omega
    split <;> omega
  omega
theorem oNext0 (N1 N0 l bh wt t3 : Nat) (vp : Value) (vs : List Value) (beh : List (List Nat)) (wts : List Int) (w : World) (h : Ln w N1 N0 l bh wt vp vs beh wts) (ht : Blk w t3 103 #[pv l]) :
    Calls Tryd.prog 65 #[.int .i64 0, pv t3] w fun e w' => e = .returned (.tuple #[.int .i64 (fz wts), .bool (decide (0 ≤ fz wts))]) ∧ Below w.heap.size w w' := by
  have := oNext_calls N1 N0 l bh wt t3 vp vs beh wts 0 w h ht (by omega)
  rw [show nxt wts 0 = .tuple #[.int .i64 (fz wts), .bool (decide (0 ≤ fz wts))] from by simp [nxt]] at this
  exact this
theorem LnP.step {w w' : World} {N1 N0 l bh wt : Nat} {vp : Value} {pts : List Int} {vs : List Value} {beh : List (List Nat)} {wts : List Int} (h : LnP w N1 N0 l bh wt vp pts vs beh wts) (hb : Below w.heap.size w w') : LnP w' N1 N0 l bh wt vp pts vs beh wts :=
  ⟨h.ln.keep (hb.mono h.ln.hN.2), owns_below' h.own hb⟩
theorem owns_len {w : World} {base : Nat} {e : TypeId} {size : Nat} {v : Value} {n : Nat} {xs : List Value} (h : w.ownsRow base e size v n xs) : ∃ a cap, v = .slice a n cap := by
  rcases h.2 with ⟨rfl, rfl⟩ | ⟨g, cap, cur, rfl, _⟩
  · exact ⟨_, _, rfl⟩
  · exact ⟨_, _, rfl⟩
theorem owns_lo {w : World} {base b' : Nat} {e : TypeId} {size : Nat} {v : Value} {n : Nat} {xs : List Value} (h : w.ownsRow base e size v n xs) (hb : b' ≤ base) : w.ownsRow b' e size v n xs := by
  refine ⟨h.1, ?_⟩
  rcases h.2 with h2 | ⟨g, cap, cur, h3, h4, h5⟩
  · exact .inl h2
  · exact .inr ⟨g, cap, cur, h3, by omega, h5⟩
theorem nodup_le : ∀ (n : Nat) (l : List Nat), l.Nodup → (∀ p ∈ l, p < n) → l.length ≤ n
  | 0, [], _, _ => by simp
  | 0, p :: l, _, h => by have := h p (by simp); omega
  | n + 1, l, hd, h => by
    have h1 := nodup_le n (l.erase n) (hd.erase n) (fun p hp => by
      have h2 := h p (List.mem_of_mem_erase hp)
      have h3 : p ≠ n := fun e => by subst e; exact (List.Nodup.not_mem_erase hd) hp
      omega)
    have h4 := List.length_erase_le (a := n) (l := l)
    have h5 : l.length ≤ (l.erase n).length + 1 := by
      by_cases hm : n ∈ l
      · rw [List.length_erase_of_mem hm]; omega
      · rw [List.erase_of_not_mem hm]; omega
    omega
theorem noGoto_n {Q : Exit → Act → World → Prop} {a : Act} {w : World} (h : Q .normal a w) : Exit.noGoto Q .normal a w := h
theorem wpIn_scope_wide {n : Nat} {P : Program} {c : Code} {Q : Exit → Act → World → Prop} {a : Act} {w : World} (h : c.wpIn Fence.wide n P (Exit.noGoto Q) a w) : (Code.scope c).wpIn Fence.wide n P Q a w := wpIn_wide.2 (wp_scope_straight (wpIn_wide.1 h))
set_option linter.unusedSimpArgs false in
set_option maxRecDepth 100000 in
set_option maxHeartbeats 8000000 in
theorem ord1_in (b c Bn l : Nat) (L : List Nat) (n : Nat) (hn : 1 ≤ n) (W : World) (h : IsRel W b c L) (hT : Tab W) (hBn : Blk W Bn 22 #[pv b]) (Jx : Value → World → Prop)
    (hY : ∀ v W', (sortOf L).length = L.length → W'.ownsRow W.heap.size 3 1 v L.length (encN (sortOf L)) → Below W.heap.size W W' → YieldAt Fence.wide (n - 1) Tryd.prog l #[v] W' fun e W2 => e = .returned (.bool false) ∧ Jx v W2) :
    CallsIn Fence.wide n Tryd.prog 63 #[.func (.yield l) #[] #[], pv Bn] W fun e W' => (∃ r, e = .returned r) ∧ ((sortOf L).length < L.length ∧ Below W.heap.size W W' ∨ (sortOf L).length = L.length ∧ ∃ v, Jx v W') := by
  have hl := h.len
  have c0 := hBn.cell (j := 0) rfl
  have HLow := hid_of h.low
  refine callsIn_of_wp Tryd.func63 rfl trivial ?_ rfl
  simp only [Tryd.ntmps63, List.size_toArray, List.length_cons, List.length_nil, Nat.reduceAdd, Nat.reduceSub, Array.replicate_succ, Array.replicate_zero, List.push_toArray, List.append_toArray, List.nil_append, List.cons_append]
  refine wpIn_scope_wide ?_
  gi_wp2_with (refine ⟨trivial, ?_⟩; gi_at_call 64; refine (callsIn_wide.2 (oNewLine_calls b c L _ h hT)).mono ?_; rintro e w1 ⟨N1, ll, bh, wt, vs, rfl, lo1, lo2, lo3, hnl, hB1⟩)
  have hbA := (Below.refl w1.heap.size w1).alloc (Nat.le_refl _) (.cells #[pv ll] 103)
  have hlp := nlk_ln hnl hbA hl HLow.out
  have ht3 := Blk.new w1 103 #[pv ll]
  have hBW : Below W.heap.size W (w1.alloc (.cells #[pv ll] 103)) := below_step hB1 hB1.size hbA
  have hz : (w1.alloc (.cells #[pv ll] 103)).heap.size = w1.heap.size + 1 := by simp
  have hlw : ll < w1.heap.size ∧ bh < w1.heap.size ∧ wt < w1.heap.size := ⟨hnl.st.lt, hnl.bhB.lt, hnl.wtB.lt⟩
  have hz1 := hB1.size
  clear c0 hnl hbA
  refine wpIn_label ?_
  gi_wp2_with fail
  rw [show (Obj.cells #[Value.pointer (some ⟨ll, 0, none⟩)] 103) = Obj.cells #[pv ll] 103 from rfl]
  generalize w1.alloc (.cells #[pv ll] 103) = W2 at *
  generalize w1.heap.size = t3 at *
  have HLP := hid_of hlp
  clear hlp
  gi_loopw [5] (fun v5 wr => v5 = .int .i64 0 ∧ Hid (wr = W2)) (fun _ _ => 0)
  case atStart => exact ⟨rfl, rfl⟩
  case round =>
    obtain ⟨rfl, HW⟩ := hrel
    obtain rfl : W2 = wr := HW.out.symm
    have hN0 := oNext0 N1 W2.heap.size ll bh wt t3 _ vs _ _ _ HLP.out.ln ht3
    gi_wp2_with (refine ⟨trivial, ?_⟩; gi_at_call 65; refine (callsIn_wide.2 hN0).mono ?_; rintro e w3 ⟨rfl, hB3⟩)
    have hLP3 := HLP.out.step hB3
    have ht33 := ht3.of_below hB3
    have hB3W : Below W.heap.size W w3 := below_step hBW hBW.size hB3
    have HL3 := hid_of hLP3
    have z3 := hB3.size
    clear hLP3 HLP hN0
    generalize hps : pairsL L = ps at *
    have HSO : Hid (sortOf L = srt L.length ps (L.length + 1) []) := by show _ = _; rw [← hps]; rfl
    have HSM : Hid (∀ pts, Sm 100000 (wAll L.length ps pts)) := fun pts => by rw [← hps]; exact wAll_sm L hl pts
    generalize hso : sortOf L = so at *
    have HSOE := hid_of hso
    clear hso
    gi_loopg [6, 7] (L.length + 1) (fun k v6 v7 wr => ∃ (pts : List Nat) (vp : Value), v6 = .int .i64 (fz (wAll L.length ps pts)) ∧ v7 = .bool (decide (0 ≤ fz (wAll L.length ps pts))) ∧ Hid (LnP wr N1 W2.heap.size ll bh wt vp (pts.map (fun x => ((x : Nat) : Int))) vs (bkOf L.length ps) (wAll L.length ps pts)) ∧ Blk wr t3 103 #[pv ll] ∧ Hid (pts.Nodup ∧ (∀ p ∈ pts, p < L.length) ∧ k + pts.length = L.length + 1 ∧ so = srt L.length ps k pts ∧ (pts = [] → vp = .slice none 0 0)) ∧ Below W.heap.size W wr)
    case atStart => exact ⟨[], _, rfl, rfl, HL3, ht33, ⟨List.nodup_nil, (fun p hp => by simp at hp), rfl, HSO.out, fun _ => rfl⟩, hB3W⟩
    case round =>
      clear HL3 ht33 hB3W HSO
      obtain ⟨pts, vp, rfl, rfl, HL, ht, HP, hBr⟩ := hrel
      have hptl := nodup_le L.length pts HP.out.1 HP.out.2.1
      have q3 := ht.cell (j := 0) rfl
      have hNw := HL.out.ln.hN
      cases hz0 : decide (0 ≤ fz (wAll L.length ps pts))
      · have HZ : Hid (¬ 0 ≤ fz (wAll L.length ps pts)) := by show ¬ _; simpa using hz0
        have HE : Hid (so = pts) := by
          show _ = _
          rw [HP.out.2.2.2.1]
          cases gk with
          | zero => rfl
          | succ k => rw [srt, if_neg HZ.out]
        have hlp := HL.out
        obtain ⟨ap, capp, hvp⟩ := owns_len hlp.own
        rw [List.length_map] at hvp
        have k0 := hlp.ln.st.cell (j := 0) rfl
        have hBnr := hBn.below hBr hBn.lt
        have n0 := hBnr.cell (j := 0) rfl
        have hRr := h.below hBr
        have hIR := owns_intsR hlp.own
        have HIR := hid_of hIR
        have HNil : Hid (pts.map (fun x => ((x : Nat) : Int)) = [] → vp = .slice none 0 0) := fun e => HP.out.2.2.2.2 (List.map_eq_nil_iff.1 e)
        subst hvp
        clear hIR hlp
        by_cases hful : pts.length < L.length
        · have hd : decide ((pts.length : Int) < (L.length : Int)) = true := decide_eq_true (by omega)
          gi_wp2_with fail
          refine wpIn_wide.2 ?_
          refine wp_region_held_drew (S := (fun w' => w'.cell? ⟨t3, 0, none⟩ = some (pv ll) ∧ w'.cell? ⟨ll, 0, none⟩ = some (.slice ap pts.length capp) ∧ w'.cell? ⟨Bn, 0, none⟩ = some (pv b))) (by kernel_rfl) ⟨q3, k0, n0⟩ (fun hHeld => ?_)
          refine wpAnyH_take (i := 0) (v := ?_) rfl (by kernel_rfl) (by kernel_rfl) (by kernel_rfl) (fun _ _ _ h => h) (Or.inl ⟨by rfl, ?_⟩) (by assumption) ?_
          rotate_left
          · (intro w hSw; (try dsimp only at hSw); go_simp) <;> with_reducible rfl
          simp only [Act.put, List.getElem_toArray, List.getElem_cons_zero, List.getElem_cons_succ, List.setIfInBounds_toArray, List.set_cons_zero, List.set_cons_succ]
          refine wpAnyH_take (i := 1) (v := ?_) rfl (by kernel_rfl) (by kernel_rfl) (by kernel_rfl) (fun _ _ _ h => h) (Or.inl ⟨by rfl, ?_⟩) (by assumption) ?_
          rotate_left
          · (intro w hSw; (try dsimp only at hSw); go_simp) <;> with_reducible rfl
          simp only [Act.put, List.getElem_toArray, List.getElem_cons_zero, List.getElem_cons_succ, List.setIfInBounds_toArray, List.set_cons_zero, List.set_cons_succ]
          refine wpAnyH_take (i := 2) (v := ?_) rfl (by kernel_rfl) (by kernel_rfl) (by kernel_rfl) (fun _ _ _ h => h) (Or.inl ⟨by rfl, ?_⟩) (by assumption) ?_
          rotate_left
          · (intro w hSw; (try dsimp only at hSw); go_simp) <;> with_reducible rfl
          simp only [Act.put, List.getElem_toArray, List.getElem_cons_zero, List.getElem_cons_succ, List.setIfInBounds_toArray, List.set_cons_zero, List.set_cons_succ]
          refine wpAnyH_take (i := 3) (v := ?_) rfl (by kernel_rfl) (by kernel_rfl) (by kernel_rfl) (fun _ _ _ h => h) (Or.inl ⟨by rfl, ?_⟩) (by assumption) ?_
          rotate_left
          · (intro w hSw; (try dsimp only at hSw); go_simp) <;> with_reducible rfl
          simp only [Act.put, List.getElem_toArray, List.getElem_cons_zero, List.getElem_cons_succ, List.setIfInBounds_toArray, List.set_cons_zero, List.set_cons_succ]
          refine wpAnyH_take (i := 4) (v := ?_) rfl (by kernel_rfl) (by kernel_rfl) (by kernel_rfl) (fun _ _ _ h => h) (Or.inl ⟨by rfl, ?_⟩) (by assumption) ?_
          rotate_left
          · (intro w hSw; (try dsimp only at hSw); go_simp) <;> with_reducible rfl
          simp only [Act.put, List.getElem_toArray, List.getElem_cons_zero, List.getElem_cons_succ, List.setIfInBounds_toArray, List.set_cons_zero, List.set_cons_succ]
          refine wpAnyH_take (i := 5) (v := ?_) rfl (by kernel_rfl) (by kernel_rfl) (by kernel_rfl) (fun _ _ _ h => h) (Or.inl ⟨by rfl, ?_⟩) (by assumption) ?_
          rotate_left
          · (intro w hSw; (try dsimp only at hSw); go_simp) <;> with_reducible rfl
          simp only [Act.put, List.getElem_toArray, List.getElem_cons_zero, List.getElem_cons_succ, List.setIfInBounds_toArray, List.set_cons_zero, List.set_cons_succ]
          refine wpAnyH_ready (rs := [6]) (by kernel_rfl) (by simp) ?_
          refine AllReadyH.cons rfl (fun K hK => ?_) AllReadyH.nil
          simp only [List.getElem_toArray, List.getElem_cons_zero, List.getElem_cons_succ]
          go_simp
          refine (Len_calls b c L _ hRr.drew).mono ?_
          rintro e w' ⟨rfl, hw'⟩
          cases hw'
          refine hK.out _ _ ⟨q3, k0, n0⟩ (fun hHeld => ?_)
          clear hK K
          try simp only [Act.put, List.getElem_toArray, List.getElem_cons_zero, List.getElem_cons_succ, List.setIfInBounds_toArray, List.set_cons_zero, List.set_cons_succ]
          refine wpAnyH_take (i := 7) (v := ?_) rfl (by kernel_rfl) (by kernel_rfl) (by kernel_rfl) (fun _ _ _ h => h) (Or.inl ⟨by rfl, ?_⟩) (by assumption) ?_
          rotate_left
          · (intro w hSw; (try dsimp only at hSw); go_simp) <;> with_reducible rfl
          simp only [Act.put, List.getElem_toArray, List.getElem_cons_zero, List.getElem_cons_succ, List.setIfInBounds_toArray, List.set_cons_zero, List.set_cons_succ]
          refine wpAnyH_take (i := 8) (v := ?_) rfl (by kernel_rfl) (by kernel_rfl) (by kernel_rfl) (fun _ _ _ h => h) (Or.inl ⟨by rfl, ?_⟩) (by assumption) ?_
          rotate_left
          · (intro w hSw; (try dsimp only at hSw); go_simp) <;> with_reducible rfl
          simp only [Act.put, List.getElem_toArray, List.getElem_cons_zero, List.getElem_cons_succ, List.setIfInBounds_toArray, List.set_cons_zero, List.set_cons_succ]
          refine wpAnyH_take (i := 9) (v := ?_) rfl (by kernel_rfl) (by kernel_rfl) (by kernel_rfl) (fun _ _ _ h => h) (Or.inr ⟨by rfl, ?_⟩) (by assumption) ?_
          rotate_left
          · rfl
          simp only [Act.put, List.getElem_toArray, List.getElem_cons_zero, List.getElem_cons_succ, List.setIfInBounds_toArray, List.set_cons_zero, List.set_cons_succ]
          refine wpAnyH_take (i := 10) (v := ?_) rfl (by kernel_rfl) (by kernel_rfl) (by kernel_rfl) (fun _ _ _ h => h) (Or.inr ⟨by rfl, ?_⟩) (by assumption) ?_
          rotate_left
          · rfl
          simp only [Act.put, List.getElem_toArray, List.getElem_cons_zero, List.getElem_cons_succ, List.setIfInBounds_toArray, List.set_cons_zero, List.set_cons_succ]
          refine wpAnyH_take (i := 11) (v := ?_) rfl (by kernel_rfl) (by kernel_rfl) (by kernel_rfl) (fun _ _ _ h => h) (Or.inr ⟨by rfl, ?_⟩) (by assumption) ?_
          rotate_left
          · rfl
          simp only [Act.put, List.getElem_toArray, List.getElem_cons_zero, List.getElem_cons_succ, List.setIfInBounds_toArray, List.set_cons_zero, List.set_cons_succ]
          refine wpAnyH_take (i := 12) (v := ?_) rfl (by kernel_rfl) (by kernel_rfl) (by kernel_rfl) (fun _ _ _ h => h) (Or.inr ⟨by rfl, ?_⟩) (by assumption) ?_
          rotate_left
          · rfl
          simp only [Act.put, List.getElem_toArray, List.getElem_cons_zero, List.getElem_cons_succ, List.setIfInBounds_toArray, List.set_cons_zero, List.set_cons_succ]
          refine wpAnyH_take (i := 13) (v := ?_) rfl (by kernel_rfl) (by kernel_rfl) (by kernel_rfl) (fun _ _ _ h => h) (Or.inr ⟨by rfl, ?_⟩) (by assumption) ?_
          rotate_left
          · rfl
          simp only [Act.put, List.getElem_toArray, List.getElem_cons_zero, List.getElem_cons_succ, List.setIfInBounds_toArray, List.set_cons_zero, List.set_cons_succ]
          refine wpAnyH_take (i := 14) (v := ?_) rfl (by kernel_rfl) (by kernel_rfl) (by kernel_rfl) (fun _ _ _ h => h) (Or.inr ⟨by rfl, ?_⟩) (by assumption) ?_
          rotate_left
          · rfl
          simp only [Act.put, List.getElem_toArray, List.getElem_cons_zero, List.getElem_cons_succ, List.setIfInBounds_toArray, List.set_cons_zero, List.set_cons_succ]
          refine wpAnyH_take (i := 15) (v := ?_) rfl (by kernel_rfl) (by kernel_rfl) (by kernel_rfl) (fun _ _ _ h => h) (Or.inr ⟨by rfl, ?_⟩) (by assumption) ?_
          rotate_left
          · rfl
          simp only [Act.put, List.getElem_toArray, List.getElem_cons_zero, List.getElem_cons_succ, List.setIfInBounds_toArray, List.set_cons_zero, List.set_cons_succ]
          refine wpAnyH_take (i := 16) (v := ?_) rfl (by kernel_rfl) (by kernel_rfl) (by kernel_rfl) (fun _ _ _ h => h) (Or.inr ⟨by rfl, ?_⟩) (by assumption) ?_
          rotate_left
          · rfl
          simp only [Act.put, List.getElem_toArray, List.getElem_cons_zero, List.getElem_cons_succ, List.setIfInBounds_toArray, List.set_cons_zero, List.set_cons_succ]
          refine wpAnyH_take (i := 17) (v := ?_) rfl (by kernel_rfl) (by kernel_rfl) (by kernel_rfl) (fun _ _ _ h => h) (Or.inl ⟨by rfl, ?_⟩) (by assumption) ?_
          rotate_left
          · (intro w hSw; (try dsimp only at hSw); go_simp) <;> with_reducible rfl
          simp only [Act.put, List.getElem_toArray, List.getElem_cons_zero, List.getElem_cons_succ, List.setIfInBounds_toArray, List.set_cons_zero, List.set_cons_succ]
          refine wpAnyH_done (by kernel_rfl) ?_ _
          gi_wp2_with fail
          refine noGoto_n ?_
          go_end0
          exact ⟨⟨_, rfl⟩, .inl ⟨by rw [HSOE.out, HE.out]; exact hful, hBr.drew⟩⟩
        · have hd : decide ((pts.length : Int) < (L.length : Int)) = false := decide_eq_false (by omega)
          have hful2 : pts.length = L.length := by omega
          have HFU := hid_of hful2
          have hcl := fun w0 (hw : IntsR w0 (.slice ap pts.length capp) (pts.map (fun x => ((x : Nat) : Int)))) => cloneI_calls (.slice ap pts.length capp) _ w0 hw HNil.out (by simp; omega)
          have HCL := hid_of hcl
          have HYY : Hid (∀ v6 w6, w6.ownsRow wr.heap.size 3 1 v6 (pts.map (fun x => ((x : Nat) : Int))).length (encJ (pts.map (fun x => ((x : Nat) : Int)))) → Below wr.heap.size wr.drew w6 → YieldAt Fence.wide (n - 1) Tryd.prog l #[v6] w6 fun e W2 => e = .returned (.bool false) ∧ Jx v6 W2) := fun v6 w6 ho hB => by
            have e1 : encJ (pts.map (fun x => ((x : Nat) : Int))) = encN so := by rw [HE.out]; simp [encJ, encN]
            refine hY v6 w6 (by rw [HE.out]; exact HFU.out) ?_ (below_step hBr hBr.size (below_of_drew' hB))
            rw [e1, List.length_map, HFU.out] at ho
            exact owns_lo ho hBr.size
          clear hcl hful2
          gi_wp2_with fail
          gi_region_with (first
            | (refine ⟨trivial, ?_⟩; gi_at_call 30; refine (callsIn_wide.2 (Len_calls b c L _ (by first | exact hRr.drew | exact hRr))).mono ?_; rintro e w' ⟨rfl, hw'⟩; cases hw')
            | (refine ⟨trivial, ?_⟩; gi_at_call 68; refine (callsIn_wide.2 (HCL.out wr.drew HIR.out)).mono ?_; rintro e w6 ⟨v6, rfl, ho6, hB6⟩; obtain ⟨fn, tmps, assign, body, hy, hRR⟩ := HYY.out v6 w6 ho6 hB6)
            | (refine hRR.mono ?_; rintro e w7 ⟨rfl, hJ7⟩))
          all_goals
            gi_wp2_with fail
            refine noGoto_n ?_
            go_end0
            exact ⟨⟨_, rfl⟩, .inr ⟨by rw [HSOE.out, HE.out]; exact HFU.out, _, hJ7⟩⟩
      · have HZ : Hid (0 ≤ fz (wAll L.length ps pts)) := by show _ ≤ _; simpa using hz0
        obtain ⟨p, hp1, hp2, hp3⟩ := fz_range HZ.out
        rw [wAll_length] at hp2
        have hnp : p ∉ pts := fun hm => by
          rw [wAll_at ps pts hp2] at hp3
          injection hp3 with hp3
          exact wAt_pos hm hp3
        have hput := oPut_calls N1 W2.heap.size ll bh wt vp _ vs _ _ p wr HL.out (by rw [wAll_length]; exact hp2) (HSM.out pts) (by simp; omega)
        rw [count_wAll ps pts hp2 hnp, show (pts.map (fun x => ((x : Nat) : Int))) ++ [(p : Int)] = (pts ++ [p]).map (fun x => ((x : Nat) : Int)) from by simp] at hput
        have HPU := hid_of hput
        have HF := hid_of hp1
        clear hput hp3
        rw [hp1]
        gi_wp2_with (refine ⟨trivial, ?_⟩; first | (gi_at_call 67; refine (callsIn_wide.2 HPU.out).mono ?_; rintro e w4 ⟨⟨r4, rfl⟩, ⟨vp4, hL4⟩, hK4⟩; have ht4 := ht.keep2 hK4 (by omega) (by omega) (by omega); have hB4 := hBr.trans (hK4.below (by omega) (by omega) (by omega)); have HN4 := oNext0 _ _ _ _ _ _ _ _ _ _ _ hL4.ln ht4) | (gi_at_call 65; refine (callsIn_wide.2 HN4).mono ?_; rintro e w5 ⟨rfl, hB5⟩))
        gi_roundg (gk - 1)
        case measure => have := HP.out.2.2.1; omega
        case rel =>
          refine ⟨pts ++ [p], vp4, rfl, rfl, hL4.step hB5, ht4.of_below hB5, ⟨?_, ?_, ?_, ?_, fun e => by simp at e⟩, below_step hB4 hB4.size hB5⟩
          · rw [List.nodup_append]
            exact ⟨HP.out.1, by simp, fun a ha b hb => by simp at hb; subst hb; exact fun e => hnp (e ▸ ha)⟩
          · intro q hq
            rcases List.mem_append.1 hq with hq | hq
            · exact HP.out.2.1 q hq
            · simp at hq; subst hq; exact hp2
          · have := HP.out.2.2.1
            rw [List.length_append]
            simp
            omega
          · have h1 := HP.out.2.2.2.1
            have h2 := HP.out.2.2.1
            obtain ⟨k, rfl⟩ : ∃ k, gk = k + 1 := ⟨gk - 1, by omega⟩
            rw [h1, srt, if_pos HZ.out, HF.out]
            rfl
end Go.Proofs.YteejkhgccaagiaaDoor
