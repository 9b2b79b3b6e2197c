/- Package order's orders, where the loop body leaves in its first round. -/
import Derived.Test.YtmmgdeoballhpaaDoorJ11
import Derived.Sort.LoopGhostIn
import Derived.Sort.CutIn
import Derived.Stop.RegionWithIn
import Derived.Scope
import Derived.WalkMore
namespace Go.Proofs.YtmmgdeoballhpaaDoor
open Go.RowKit Go.Shelf Sx
attribute [local go_sem] Oper.semAt_some

theorem bk_pairs (L : List Nat) (p : Nat) : ∀ k, ((pairsK L k).filter (fun x => x.1 == p)).map (·.2) = if p < k then bitsOf (gr L p) else []
  | 0 => by simp [pairsK]
  | k + 1 => by
    rw [pairsK_succ, List.filter_append, List.map_append, bk_pairs L p k]
    by_cases e : k = p
    · subst e
      rw [if_neg (by omega), if_pos (by omega), List.nil_append]
      have : ((bitsOf (gr L k)).map (fun q => (k, q))).filter (fun x => x.1 == k) = (bitsOf (gr L k)).map (fun q => (k, q)) := by
        rw [List.filter_eq_self]
        intro x hx
        obtain ⟨q, _, rfl⟩ := List.mem_map.1 hx
        simp
      rw [this, List.map_map]
      exact List.map_id _
    · have : ((bitsOf (gr L k)).map (fun q => (k, q))).filter (fun x => x.1 == p) = [] := by
        rw [List.filter_eq_nil_iff]
        intro x hx
        obtain ⟨q, _, rfl⟩ := List.mem_map.1 hx
        simpa using e
      rw [this, List.map_nil, List.append_nil]
      by_cases h : p < k
      · rw [if_pos h, if_pos (by omega)]
      · rw [if_neg h, if_neg (by omega)]
theorem nlk_ln {w w' : World} {N1 l bh wt : Nat} {vs : List Value} {L : List Nat} (h : NLk w N1 l bh wt L.length vs (bkOf L.length (pairsL L)) (wtOf L.length (pairsL L))) (hb : Below w.heap.size w w') (hL : L.length ≤ 256) (hlow : ∀ R ∈ L, R < 2 ^ L.length) :
    LnP w' N1 w'.heap.size l bh wt (.slice none 0 0) [] vs (bkOf L.length (pairsL L)) (wAll L.length (pairsL L) []) := by
  have hl := wAll_length L.length (pairsL L) []
  have z := hb.size
  have hN := h.hN
  refine ⟨⟨?_, h.bhB.of_below hb, ?_, by rw [hl, h.vlen], by rw [hl, bkOf_length], ?_, ?_, h.low, h.ne, ⟨by omega, Nat.le_refl _⟩, by rw [hl]; exact hL⟩, World.ownsRow_nil _ _ _ _⟩
  · rw [hl]; exact h.st.of_below hb
  · rw [wAll_nil]; exact h.wtB.of_below hb
  · intro p v bl hv hbl
    have ho := owns_below' (h.own p v bl hv hbl) hb
    rcases ho.2 with ⟨rfl, e2⟩ | ⟨g, cap, cur, rfl, h4, h5, _, _, _, ht⟩
    · have : bl = [] := List.eq_nil_of_length_eq_zero e2
      subst this
      exact ⟨_, _, rfl, fun h0 => by simp at h0⟩
    · refine ⟨_, _, rfl, fun _ => ⟨g, rfl, h4, (Array.getElem?_eq_some_iff.1 h5).1, fun i x hx => ?_⟩⟩
      have hk : Blk w' g 3 cur := h5
      apply hk.cell
      have hi : i < bl.length := (List.getElem?_eq_some_iff.1 hx).1
      have : (encN bl)[i]? = some (.int .i64 ((x : Nat) : Int)) := by simp [encN, hx]
      rw [← ht, List.getElem?_take_of_lt (by omega)] at this
      simpa using this
  · intro bl hbl
    rw [hl]
    obtain ⟨p, hp, rfl⟩ := List.mem_iff_getElem.1 hbl
    have hpn : p < L.length := by rw [bkOf_length] at hp; exact hp
    have e := bkOf_at (pairsL L) hpn
    rw [List.getElem?_eq_getElem hp] at e
    injection e with e
    rw [e]
    refine ⟨?_, fun q hq => ?_⟩
    · rw [show pairsL L = pairsK L L.length from rfl, bk_pairs, if_pos hpn]
      exact bitsOf_length _
    · obtain ⟨x, hx, rfl⟩ := List.mem_map.1 hq
      exact (pairsL_lt hlow x (List.mem_filter.1 hx).1).2
/-- The order that Sort lays, or as much of it as can be laid. -/
def sortOf (L : List Nat) : List Nat := srt L.length (pairsL L) (L.length + 1) []
theorem wAll_sm (L : List Nat) (hL : L.length ≤ 256) (pts : List Nat) : Sm 100000 (wAll L.length (pairsL L) pts) := by
  intro x hx
  obtain ⟨q, hq, rfl⟩ := List.mem_map.1 hx
  have h1 := wAt_nonneg (pairsL L) pts q
  have h2 : wAt (pairsL L) pts q ≤ 65537 := by
    unfold wAt
    have h3 := List.length_filter_le (fun x : Nat × Nat => x.2 == q && !pts.contains x.1) (pairsL L)
    have h4 : (pairsL L).length ≤ 65536 := by have := pairsK_length L L.length; simp only [pairsL]; omega
    split <;> omega
  omega
theorem oNext0 (N1 N0 l bh wt t3 : Nat) (vp : Value) (vs : List Value) (beh : List (List Nat)) (wts : List Int) (w : World) (h : Ln w N1 N0 l bh wt vp vs beh wts) (ht : Blk w t3 103 #[pv l]) :
    Calls Tryd.prog 65 #[.int .i64 0, pv t3] w fun e w' => e = .returned (.tuple #[.int .i64 (fz wts), .bool (decide (0 ≤ fz wts))]) ∧ Below w.heap.size w w' := by
  have := oNext_calls N1 N0 l bh wt t3 vp vs beh wts 0 w h ht (by omega)
  rw [show nxt wts 0 = .tuple #[.int .i64 (fz wts), .bool (decide (0 ≤ fz wts))] from by simp [nxt]] at this
  exact this
theorem LnP.step {w w' : World} {N1 N0 l bh wt : Nat} {vp : Value} {pts : List Int} {vs : List Value} {beh : List (List Nat)} {wts : List Int} (h : LnP w N1 N0 l bh wt vp pts vs beh wts) (hb : Below w.heap.size w w') : LnP w' N1 N0 l bh wt vp pts vs beh wts :=
  ⟨h.ln.keep (hb.mono h.ln.hN.2), owns_below' h.own hb⟩
theorem owns_len {w : World} {base : Nat} {e : TypeId} {size : Nat} {v : Value} {n : Nat} {xs : List Value} (h : w.ownsRow base e size v n xs) : ∃ a cap, v = .slice a n cap := by
  rcases h.2 with ⟨rfl, rfl⟩ | ⟨g, cap, cur, rfl, _⟩
  · exact ⟨_, _, rfl⟩
  · exact ⟨_, _, rfl⟩
theorem owns_lo {w : World} {base b' : Nat} {e : TypeId} {size : Nat} {v : Value} {n : Nat} {xs : List Value} (h : w.ownsRow base e size v n xs) (hb : b' ≤ base) : w.ownsRow b' e size v n xs := by
  refine ⟨h.1, ?_⟩
  rcases h.2 with h2 | ⟨g, cap, cur, h3, h4, h5⟩
  · exact .inl h2
  · exact .inr ⟨g, cap, cur, h3, by omega, h5⟩
theorem nodup_le : ∀ (n : Nat) (l : List Nat), l.Nodup → (∀ p ∈ l, p < n) → l.length ≤ n
  | 0, [], _, _ => by simp
  | 0, p :: l, _, h => by have := h p (by simp); omega
  | n + 1, l, hd, h => by
    have h1 := nodup_le n (l.erase n) (hd.erase n) (fun p hp => by
      have h2 := h p (List.mem_of_mem_erase hp)
      have h3 : p ≠ n := fun e => by subst e; exact (List.Nodup.not_mem_erase hd) hp
      omega)
    have h4 := List.length_erase_le (a := n) (l := l)
    have h5 : l.length ≤ (l.erase n).length + 1 := by
      by_cases hm : n ∈ l
      · rw [List.length_erase_of_mem hm]; omega
      · rw [List.erase_of_not_mem hm]; omega
    omega
theorem noGoto_n {Q : Exit → Act → World → Prop} {a : Act} {w : World} (h : Q .normal a w) : Exit.noGoto Q .normal a w := h
theorem wpIn_scope_wide {n : Nat} {P : Program} {c : Code} {Q : Exit → Act → World → Prop} {a : Act} {w : World} (h : c.wpIn Fence.wide n P (Exit.noGoto Q) a w) : (Code.scope c).wpIn Fence.wide n P Q a w := wpIn_wide.2 (wp_scope_straight (wpIn_wide.1 h))
set_option linter.unusedSimpArgs false in
set_option maxRecDepth 100000 in
set_option maxHeartbeats 8000000 in
theorem ord1_in (b c Bn l : Nat) (L : List Nat) (n : Nat) (hn : 1 ≤ n) (W : World) (h : IsRel W b c L) (hT : Tab W) (hBn : Blk W Bn 22 #[pv b]) (Jx : Value → World → Prop)
    (hY : ∀ v W', (sortOf L).length = L.length → W'.ownsRow W.heap.size 3 1 v L.length (encN (sortOf L)) → Below W.heap.size W W' → YieldAt Fence.wide (n - 1) Tryd.prog l #[v] W' fun e W2 => e = .returned (.bool false) ∧ Jx v W2) :
    CallsIn Fence.wide n Tryd.prog 63 #[.func (.yield l) #[] #[], pv Bn] W fun e W' => (∃ r, e = .returned r) ∧ ((sortOf L).length < L.length ∧ Below W.heap.size W W' ∨ (sortOf L).length = L.length ∧ ∃ v, Jx v W') := by
  have hl := h.len
  have c0 := hBn.cell (j := 0) rfl
  have HLow := hid_of h.low
  refine callsIn_of_wp Tryd.func63 rfl trivial ?_ rfl
  simp only [Tryd.ntmps63, List.size_toArray, List.length_cons, List.length_nil, Nat.reduceAdd, Nat.reduceSub, Array.replicate_succ, Array.replicate_zero, List.push_toArray, List.append_toArray, List.nil_append, List.cons_append]
  refine wpIn_scope_wide ?_
  gi_wp2_with (refine ⟨trivial, ?_⟩; gi_at_call 64; refine (callsIn_wide.2 (oNewLine_calls b c L _ h hT)).mono ?_; rintro e w1 ⟨N1, ll, bh, wt, vs, rfl, lo1, lo2, lo3, hnl, hB1⟩)
  have hbA := (Below.refl w1.heap.size w1).alloc (Nat.le_refl _) (.cells #[pv ll] 103)
  have hlp := nlk_ln hnl hbA hl HLow.out
  have ht3 := Blk.new w1 103 #[pv ll]
  have hBW : Below W.heap.size W (w1.alloc (.cells #[pv ll] 103)) := below_step hB1 hB1.size hbA
  have hz : (w1.alloc (.cells #[pv ll] 103)).heap.size = w1.heap.size + 1 := by simp
  have hlw : ll < w1.heap.size ∧ bh < w1.heap.size ∧ wt < w1.heap.size := ⟨hnl.st.lt, hnl.bhB.lt, hnl.wtB.lt⟩
  have hz1 := hB1.size
  clear c0 hnl hbA
  refine wpIn_label ?_
  gi_wp2_with fail
  rw [show (Obj.cells #[Value.pointer (some ⟨ll, 0, none⟩)] 103) = Obj.cells #[pv ll] 103 from rfl]
  generalize w1.alloc (.cells #[pv ll] 103) = W2 at *
  generalize w1.heap.size = t3 at *
  have HLP := hid_of hlp
  clear hlp
  gi_loopw [5] (fun v5 wr => v5 = .int .i64 0 ∧ Hid (wr = W2)) (fun _ _ => 0)
  case atStart => exact ⟨rfl, rfl⟩
  case round =>
    obtain ⟨rfl, HW⟩ := hrel
    obtain rfl : W2 = wr := HW.out.symm
    have hN0 := oNext0 N1 W2.heap.size ll bh wt t3 _ vs _ _ _ HLP.out.ln ht3
    gi_wp2_with (refine ⟨trivial, ?_⟩; gi_at_call 65; refine (callsIn_wide.2 hN0).mono ?_; rintro e w3 ⟨rfl, hB3⟩)
    have hLP3 := HLP.out.step hB3
    have ht33 := ht3.of_below hB3
    have hB3W : Below W.heap.size W w3 := below_step hBW hBW.size hB3
    have HL3 := hid_of hLP3
    have z3 := hB3.size
    clear hLP3 HLP hN0
    generalize hps : pairsL L = ps at *
    have HSO : Hid (sortOf L = srt L.length ps (L.length + 1) []) := by show _ = _; rw [← hps]; rfl
    have HSM : Hid (∀ pts, Sm 100000 (wAll L.length ps pts)) := fun pts => by rw [← hps]; exact wAll_sm L hl pts
    generalize hso : sortOf L = so at *
    have HSOE := hid_of hso
    clear hso
    gi_loopg [6, 7] (L.length + 1) (fun k v6 v7 wr => ∃ (pts : List Nat) (vp : Value), v6 = .int .i64 (fz (wAll L.length ps pts)) ∧ v7 = .bool (decide (0 ≤ fz (wAll L.length ps pts))) ∧ Hid (LnP wr N1 W2.heap.size ll bh wt vp (pts.map (fun x => ((x : Nat) : Int))) vs (bkOf L.length ps) (wAll L.length ps pts)) ∧ Blk wr t3 103 #[pv ll] ∧ Hid (pts.Nodup ∧ (∀ p ∈ pts, p < L.length) ∧ k + pts.length = L.length + 1 ∧ so = srt L.length ps k pts ∧ (pts = [] → vp = .slice none 0 0)) ∧ Below W.heap.size W wr)
    case atStart => exact ⟨[], _, rfl, rfl, HL3, ht33, ⟨List.nodup_nil, (fun p hp => by simp at hp), rfl, HSO.out, fun _ => rfl⟩, hB3W⟩
    case round =>
      clear HL3 ht33 hB3W HSO
      obtain ⟨pts, vp, rfl, rfl, HL, ht, HP, hBr⟩ := hrel
      have hptl := nodup_le L.length pts HP.out.1 HP.out.2.1
      have q3 := ht.cell (j := 0) rfl
      have hNw := HL.out.ln.hN
      cases hz0 : decide (0 ≤ fz (wAll L.length ps pts))
      · have HZ : Hid (¬ 0 ≤ fz (wAll L.length ps pts)) := by show ¬ _; simpa using hz0
        have HE : Hid (so = pts) := by
          show _ = _
          rw [HP.out.2.2.2.1]
          cases gk with
          | zero => rfl
          | succ k => rw [srt, if_neg HZ.out]
        have hlp := HL.out
        obtain ⟨ap, capp, hvp⟩ := owns_len hlp.own
        rw [List.length_map] at hvp
        have k0 := hlp.ln.st.cell (j := 0) rfl
        have hBnr := hBn.below hBr hBn.lt
        have n0 := hBnr.cell (j := 0) rfl
        have hRr := h.below hBr
        have hIR := owns_intsR hlp.own
        have HIR := hid_of hIR
        have HNil : Hid (pts.map (fun x => ((x : Nat) : Int)) = [] → vp = .slice none 0 0) := fun e => HP.out.2.2.2.2 (List.map_eq_nil_iff.1 e)
        subst hvp
        clear hIR hlp
        by_cases hful : pts.length < L.length
        · have hd : decide ((pts.length : Int) < (L.length : Int)) = true := decide_eq_true (by omega)
          gi_wp2_with fail
          refine wpIn_wide.2 ?_
          refine wp_region_held_drew (S := (fun w' => w'.cell? ⟨t3, 0, none⟩ = some (pv ll) ∧ w'.cell? ⟨ll, 0, none⟩ = some (.slice ap pts.length capp) ∧ w'.cell? ⟨Bn, 0, none⟩ = some (pv b))) (by kernel_rfl) ⟨q3, k0, n0⟩ (fun hHeld => ?_)
          refine wpAnyH_take (i := 0) (v := ?_) rfl (by kernel_rfl) (by kernel_rfl) (by kernel_rfl) (fun _ _ _ h => h) (Or.inl ⟨by rfl, ?_⟩) (by assumption) ?_
          rotate_left
          · (intro w hSw; (try dsimp only at hSw); go_simp) <;> with_reducible rfl
          simp only [Act.put, List.getElem_toArray, List.getElem_cons_zero, List.getElem_cons_succ, List.setIfInBounds_toArray, List.set_cons_zero, List.set_cons_succ]
          refine wpAnyH_take (i := 1) (v := ?_) rfl (by kernel_rfl) (by kernel_rfl) (by kernel_rfl) (fun _ _ _ h => h) (Or.inl ⟨by rfl, ?_⟩) (by assumption) ?_
          rotate_left
          · (intro w hSw; (try dsimp only at hSw); go_simp) <;> with_reducible rfl
          simp only [Act.put, List.getElem_toArray, List.getElem_cons_zero, List.getElem_cons_succ, List.setIfInBounds_toArray, List.set_cons_zero, List.set_cons_succ]
          refine wpAnyH_take (i := 2) (v := ?_) rfl (by kernel_rfl) (by kernel_rfl) (by kernel_rfl) (fun _ _ _ h => h) (Or.inl ⟨by rfl, ?_⟩) (by assumption) ?_
          rotate_left
          · (intro w hSw; (try dsimp only at hSw); go_simp) <;> with_reducible rfl
          simp only [Act.put, List.getElem_toArray, List.getElem_cons_zero, List.getElem_cons_succ, List.setIfInBounds_toArray, List.set_cons_zero, List.set_cons_succ]
          refine wpAnyH_take (i := 3) (v := ?_) rfl (by kernel_rfl) (by kernel_rfl) (by kernel_rfl) (fun _ _ _ h => h) (Or.inl ⟨by rfl, ?_⟩) (by assumption) ?_
          rotate_left
          · (intro w hSw; (try dsimp only at hSw); go_simp) <;> with_reducible rfl
          simp only [Act.put, List.getElem_toArray, List.getElem_cons_zero, List.getElem_cons_succ, List.setIfInBounds_toArray, List.set_cons_zero, List.set_cons_succ]
          refine wpAnyH_take (i := 4) (v := ?_) rfl (by kernel_rfl) (by kernel_rfl) (by kernel_rfl) (fun _ _ _ h => h) (Or.inl ⟨by rfl, ?_⟩) (by assumption) ?_
          rotate_left
          · (intro w hSw; (try dsimp only at hSw); go_simp) <;> with_reducible rfl
          simp only [Act.put, List.getElem_toArray, List.getElem_cons_zero, List.getElem_cons_succ, List.setIfInBounds_toArray, List.set_cons_zero, List.set_cons_succ]
          refine wpAnyH_take (i := 5) (v := ?_) rfl (by kernel_rfl) (by kernel_rfl) (by kernel_rfl) (fun _ _ _ h => h) (Or.inl ⟨by rfl, ?_⟩) (by assumption) ?_
          rotate_left
          · (intro w hSw; (try dsimp only at hSw); go_simp) <;> with_reducible rfl
          simp only [Act.put, List.getElem_toArray, List.getElem_cons_zero, List.getElem_cons_succ, List.setIfInBounds_toArray, List.set_cons_zero, List.set_cons_succ]
          refine wpAnyH_ready (rs := [6]) (by kernel_rfl) (by simp) ?_
          refine AllReadyH.cons rfl (fun K hK => ?_) AllReadyH.nil
          simp only [List.getElem_toArray, List.getElem_cons_zero, List.getElem_cons_succ]
          go_simp
          refine (Len_calls b c L _ hRr.drew).mono ?_
          rintro e w' ⟨rfl, hw'⟩
          cases hw'
          refine hK.out _ _ ⟨q3, k0, n0⟩ (fun hHeld => ?_)
          clear hK K
          try simp only [Act.put, List.getElem_toArray, List.getElem_cons_zero, List.getElem_cons_succ, List.setIfInBounds_toArray, List.set_cons_zero, List.set_cons_succ]
          refine wpAnyH_take (i := 7) (v := ?_) rfl (by kernel_rfl) (by kernel_rfl) (by kernel_rfl) (fun _ _ _ h => h) (Or.inl ⟨by rfl, ?_⟩) (by assumption) ?_
          rotate_left
          · (intro w hSw; (try dsimp only at hSw); go_simp) <;> with_reducible rfl
          simp only [Act.put, List.getElem_toArray, List.getElem_cons_zero, List.getElem_cons_succ, List.setIfInBounds_toArray, List.set_cons_zero, List.set_cons_succ]
          refine wpAnyH_take (i := 8) (v := ?_) rfl (by kernel_rfl) (by kernel_rfl) (by kernel_rfl) (fun _ _ _ h => h) (Or.inl ⟨by rfl, ?_⟩) (by assumption) ?_
          rotate_left
          · (intro w hSw; (try dsimp only at hSw); go_simp) <;> with_reducible rfl
          simp only [Act.put, List.getElem_toArray, List.getElem_cons_zero, List.getElem_cons_succ, List.setIfInBounds_toArray, List.set_cons_zero, List.set_cons_succ]
          refine wpAnyH_take (i := 9) (v := ?_) rfl (by kernel_rfl) (by kernel_rfl) (by kernel_rfl) (fun _ _ _ h => h) (Or.inr ⟨by rfl, ?_⟩) (by assumption) ?_
          rotate_left
          · rfl
          simp only [Act.put, List.getElem_toArray, List.getElem_cons_zero, List.getElem_cons_succ, List.setIfInBounds_toArray, List.set_cons_zero, List.set_cons_succ]
          refine wpAnyH_take (i := 10) (v := ?_) rfl (by kernel_rfl) (by kernel_rfl) (by kernel_rfl) (fun _ _ _ h => h) (Or.inr ⟨by rfl, ?_⟩) (by assumption) ?_
          rotate_left
          · rfl
          simp only [Act.put, List.getElem_toArray, List.getElem_cons_zero, List.getElem_cons_succ, List.setIfInBounds_toArray, List.set_cons_zero, List.set_cons_succ]
          refine wpAnyH_take (i := 11) (v := ?_) rfl (by kernel_rfl) (by kernel_rfl) (by kernel_rfl) (fun _ _ _ h => h) (Or.inr ⟨by rfl, ?_⟩) (by assumption) ?_
          rotate_left
          · rfl
          simp only [Act.put, List.getElem_toArray, List.getElem_cons_zero, List.getElem_cons_succ, List.setIfInBounds_toArray, List.set_cons_zero, List.set_cons_succ]
          refine wpAnyH_take (i := 12) (v := ?_) rfl (by kernel_rfl) (by kernel_rfl) (by kernel_rfl) (fun _ _ _ h => h) (Or.inr ⟨by rfl, ?_⟩) (by assumption) ?_
          rotate_left
          · rfl
          simp only [Act.put, List.getElem_toArray, List.getElem_cons_zero, List.getElem_cons_succ, List.setIfInBounds_toArray, List.set_cons_zero, List.set_cons_succ]
          refine wpAnyH_take (i := 13) (v := ?_) rfl (by kernel_rfl) (by kernel_rfl) (by kernel_rfl) (fun _ _ _ h => h) (Or.inr ⟨by rfl, ?_⟩) (by assumption) ?_
          rotate_left
          · rfl
          simp only [Act.put, List.getElem_toArray, List.getElem_cons_zero, List.getElem_cons_succ, List.setIfInBounds_toArray, List.set_cons_zero, List.set_cons_succ]
          refine wpAnyH_take (i := 14) (v := ?_) rfl (by kernel_rfl) (by kernel_rfl) (by kernel_rfl) (fun _ _ _ h => h) (Or.inr ⟨by rfl, ?_⟩) (by assumption) ?_
          rotate_left
          · rfl
          simp only [Act.put, List.getElem_toArray, List.getElem_cons_zero, List.getElem_cons_succ, List.setIfInBounds_toArray, List.set_cons_zero, List.set_cons_succ]
          refine wpAnyH_take (i := 15) (v := ?_) rfl (by kernel_rfl) (by kernel_rfl) (by kernel_rfl) (fun _ _ _ h => h) (Or.inr ⟨by rfl, ?_⟩) (by assumption) ?_
          rotate_left
          · rfl
          simp only [Act.put, List.getElem_toArray, List.getElem_cons_zero, List.getElem_cons_succ, List.setIfInBounds_toArray, List.set_cons_zero, List.set_cons_succ]
          refine wpAnyH_take (i := 16) (v := ?_) rfl (by kernel_rfl) (by kernel_rfl) (by kernel_rfl) (fun _ _ _ h => h) (Or.inr ⟨by rfl, ?_⟩) (by assumption) ?_
          rotate_left
          · rfl
          simp only [Act.put, List.getElem_toArray, List.getElem_cons_zero, List.getElem_cons_succ, List.setIfInBounds_toArray, List.set_cons_zero, List.set_cons_succ]
          refine wpAnyH_take (i := 17) (v := ?_) rfl (by kernel_rfl) (by kernel_rfl) (by kernel_rfl) (fun _ _ _ h => h) (Or.inl ⟨by rfl, ?_⟩) (by assumption) ?_
          rotate_left
          · (intro w hSw; (try dsimp only at hSw); go_simp) <;> with_reducible rfl
          simp only [Act.put, List.getElem_toArray, List.getElem_cons_zero, List.getElem_cons_succ, List.setIfInBounds_toArray, List.set_cons_zero, List.set_cons_succ]
          refine wpAnyH_done (by kernel_rfl) ?_ _
          gi_wp2_with fail
          refine noGoto_n ?_
          go_end0
          exact ⟨⟨_, rfl⟩, .inl ⟨by rw [HSOE.out, HE.out]; exact hful, hBr.drew⟩⟩
        · have hd : decide ((pts.length : Int) < (L.length : Int)) = false := decide_eq_false (by omega)
          have hful2 : pts.length = L.length := by omega
          have HFU := hid_of hful2
          have hcl := fun w0 (hw : IntsR w0 (.slice ap pts.length capp) (pts.map (fun x => ((x : Nat) : Int)))) => cloneI_calls (.slice ap pts.length capp) _ w0 hw HNil.out (by simp; omega)
          have HCL := hid_of hcl
          have HYY : Hid (∀ v6 w6, w6.ownsRow wr.heap.size 3 1 v6 (pts.map (fun x => ((x : Nat) : Int))).length (encJ (pts.map (fun x => ((x : Nat) : Int)))) → Below wr.heap.size wr.drew w6 → YieldAt Fence.wide (n - 1) Tryd.prog l #[v6] w6 fun e W2 => e = .returned (.bool false) ∧ Jx v6 W2) := fun v6 w6 ho hB => by
            have e1 : encJ (pts.map (fun x => ((x : Nat) : Int))) = encN so := by rw [HE.out]; simp [encJ, encN]
            refine hY v6 w6 (by rw [HE.out]; exact HFU.out) ?_ (below_step hBr hBr.size (below_of_drew' hB))
            rw [e1, List.length_map, HFU.out] at ho
            exact owns_lo ho hBr.size
          clear hcl hful2
          gi_wp2_with fail
          gi_region_with (first
            | (refine ⟨trivial, ?_⟩; gi_at_call 30; refine (callsIn_wide.2 (Len_calls b c L _ (by first | exact hRr.drew | exact hRr))).mono ?_; rintro e w' ⟨rfl, hw'⟩; cases hw')
            | (refine ⟨trivial, ?_⟩; gi_at_call 68; refine (callsIn_wide.2 (HCL.out wr.drew HIR.out)).mono ?_; rintro e w6 ⟨v6, rfl, ho6, hB6⟩; obtain ⟨fn, tmps, assign, body, hy, hRR⟩ := HYY.out v6 w6 ho6 hB6)
            | (refine hRR.mono ?_; rintro e w7 ⟨rfl, hJ7⟩))
          all_goals
            gi_wp2_with fail
            refine noGoto_n ?_
            go_end0
            exact ⟨⟨_, rfl⟩, .inr ⟨by rw [HSOE.out, HE.out]; exact HFU.out, _, hJ7⟩⟩
      · have HZ : Hid (0 ≤ fz (wAll L.length ps pts)) := by show _ ≤ _; simpa using hz0
        obtain ⟨p, hp1, hp2, hp3⟩ := fz_range HZ.out
        rw [wAll_length] at hp2
        have hnp : p ∉ pts := fun hm => by
          rw [wAll_at ps pts hp2] at hp3
          injection hp3 with hp3
          exact wAt_pos hm hp3
        have hput := oPut_calls N1 W2.heap.size ll bh wt vp _ vs _ _ p wr HL.out (by rw [wAll_length]; exact hp2) (HSM.out pts) (by simp; omega)
        rw [count_wAll ps pts hp2 hnp, show (pts.map (fun x => ((x : Nat) : Int))) ++ [(p : Int)] = (pts ++ [p]).map (fun x => ((x : Nat) : Int)) from by simp] at hput
        have HPU := hid_of hput
        have HF := hid_of hp1
        clear hput hp3
        rw [hp1]
        gi_wp2_with (refine ⟨trivial, ?_⟩; first | (gi_at_call 67; refine (callsIn_wide.2 HPU.out).mono ?_; rintro e w4 ⟨⟨r4, rfl⟩, ⟨vp4, hL4⟩, hK4⟩; have ht4 := ht.keep2 hK4 (by omega) (by omega) (by omega); have hB4 := hBr.trans (hK4.below (by omega) (by omega) (by omega)); have HN4 := oNext0 _ _ _ _ _ _ _ _ _ _ _ hL4.ln ht4) | (gi_at_call 65; refine (callsIn_wide.2 HN4).mono ?_; rintro e w5 ⟨rfl, hB5⟩))
        gi_roundg (gk - 1)
        case measure => have := HP.out.2.2.1; omega
        case rel =>
          refine ⟨pts ++ [p], vp4, rfl, rfl, hL4.step hB5, ht4.of_below hB5, ⟨?_, ?_, ?_, ?_, fun e => by simp at e⟩, below_step hB4 hB4.size hB5⟩
          · rw [List.nodup_append]
            exact ⟨HP.out.1, by simp, fun a ha b hb => by simp at hb; subst hb; exact fun e => hnp (e ▸ ha)⟩
          · intro q hq
            rcases List.mem_append.1 hq with hq | hq
            · exact HP.out.2.1 q hq
            · simp at hq; subst hq; exact hp2
          · have := HP.out.2.2.1
            rw [List.length_append]
            simp
            omega
          · have h1 := HP.out.2.2.2.1
            have h2 := HP.out.2.2.1
            obtain ⟨k, rfl⟩ : ∃ k, gk = k + 1 := ⟨gk - 1, by omega⟩
            rw [h1, srt, if_pos HZ.out, HF.out]
            rfl
end Go.Proofs.YtmmgdeoballhpaaDoor
/- Package order's Sort: a range over an iterator whose body leaves in its first round. -/
namespace Go.Proofs.YtmmgdeoballhpaaDoor
open Go.RowKit Go.Shelf Sx
attribute [local go_sem] Oper.semAt_some

/-- A range over a function that calls yield once at the most, with a value of its own making; the body returns at once. -/
theorem rf_once {P : Program} {n : Nat} {g : Operand} {ps : Array Tmp} {assign body : Code} {Q : Exit → Act → World → Prop} {a : Act} {w : World} (hn : 1 ≤ n) {gf : Nat} {lb : Array Value}
    (hg : a.eval g = .func (.func gf) #[] lb) (eg : ∀ args w, (callFunc gf args).run P w = .ok (.enter gf args) w) (hps : ps.size = 1) (X : Prop) (G B : Value → World → Prop)
    (hG : ∀ v W l o o', G v W → W.heap[l]? = some o → o.isCells = false → G v (W.putObj l o'))
    (hB : ∀ v W l o o', w.heap.size ≤ l → B v W → W.heap[l]? = some o → o.isCells = false → B v (W.putObj l o'))
    (hgen : ∀ (W1 : World) (l : Nat) (Jx : Value → World → Prop), Below w.heap.size w W1 → (∀ v W', X → G v W' → Below W1.heap.size W1 W' → YieldAt Fence.wide (n - 1 - 1) P l #[v] W' fun e W2 => e = .returned (.bool false) ∧ Jx v W2) →
      CallsIn Fence.wide (n - 1) P gf (#[.func (.yield l) #[] #[]] ++ lb) W1 fun e W' => (∃ r, e = .returned r) ∧ (¬ X ∧ Below W1.heap.size W1 W' ∨ X ∧ ∃ v, Jx v W'))
    (a₁ : Value → Act)
    (hassign : ∀ (l : Nat) (v : Value) (W : World) (K : Act → World → Prop), K (a₁ v) W → assign.wpIn (Fence.wide.inRound l) (n - 1 - 1) P (Exit.then K (fun _ _ _ => False)) { tmps := (ps.zip #[v]).foldl (fun t (p, v) => t.setIfInBounds p v) a.tmps, defers := [] } W)
    (hbody : ∀ (l : Nat) (v : Value) (W : World), X → G v W → Below w.heap.size w W → body.wpIn (Fence.wide.inRound l) (n - 1 - 1) P (fun e _ W3 => e = .ret ∧ KeepsOthers W W3 ∧ B v W3) (a₁ v) W)
    (hdone : ¬ X → ∀ (D : Nat) (W : World), w.heap.size ≤ D → Below w.heap.size w W → W.heap[D]? = some (.deferred (some [])) → Q .normal { a with defers := { target := .collected D, args := #[] } :: a.defers } W)
    (hstop : X → ∀ (D : Nat) (v : Value) (W : World), w.heap.size ≤ D → B v W → W.heap[D]? = some (.deferred (some [])) → Code.ret.wpIn Fence.wide n P Q { a with defers := { target := .collected D, args := #[] } :: a.defers } W) :
    (Code.rangeFunc g ps assign body).wpIn Fence.wide n P Q a w := by
  refine wpIn_rangeFunc fun fn hfn => ?_
  obtain ⟨rc, hrc⟩ : ∃ rc : LoopState → Option Code → Loop, rc = fun st pe => { state := st, pending := pe, fn, tmps := a.tmps, params := ps, assign, body, defers := w.heap.size } := ⟨_, rfl⟩
  obtain ⟨W1, hW1⟩ : ∃ W1, (w.alloc (.deferred (some []))).alloc (.loop (rc .ready none)) = W1 := ⟨_, rfl⟩
  have hL1 : W1.heap[w.heap.size + 1]? = some (.loop (rc .ready none)) := by
    have := World.alloc_heap_new (w.alloc (.deferred (some []))) (.loop (rc .ready none))
    rwa [World.size_alloc, hW1] at this
  have hD1 : W1.heap[w.heap.size]? = some (.deferred (some [])) := by
    rw [← hW1]
    exact (Below.heap_alloc _ _ _ (by simp)).trans (World.alloc_heap_new w _)
  have hb1 : Below w.heap.size w W1 := by
    rw [← hW1]
    exact ((Below.refl _ w).alloc (Nat.le_refl _) _).alloc (by simp) _
  have hs1 : W1.heap.size = w.heap.size + 2 := by rw [← hW1]; simp
  refine ⟨w.heap.size + 1, [{ target := .collected w.heap.size, args := #[] }], W1, { target := .fn (.func gf) lb, args := #[.func (.yield (w.heap.size + 1)) #[] #[]] }, W1, gf,
    #[.func (.yield (w.heap.size + 1)) #[] #[]] ++ lb, W1, ?_, ?_, fun _ _ => trivial, ?_, fun _ => hn, ?_⟩
  · rw [← hW1, hrc]; exact run_enterLoop_outer _ _ _ _ _
  · simp only [resolve, hg]
    simp [go_sem]
  · simp [invoke, go_sem, eg]
  refine (hgen W1 (w.heap.size + 1) (fun v W => B v W ∧ W.heap[w.heap.size + 1]? = some (.loop (rc .done (some .ret))) ∧ W.heap[w.heap.size]? = some (.deferred (some []))) hb1 ?_).mono ?_
  · intro v W hX hGv hBW
    have hl := (hBW.block _ (by omega)).trans hL1
    have hd := (hBW.block _ (by omega)).trans hD1
    have hlt : w.heap.size + 1 < W.heap.size := (Array.getElem?_eq_some_iff.1 hl).1
    have hy := run_yield (P := P) (args := #[v]) hl (by rw [hrc]; simp [hps])
    rw [hrc] at hy
    refine ⟨fn, _, assign, body, hy, roundIn_of_wpIn hfn (hassign _ v W _ ⟨_, run_beginRound hl (by rw [hrc]), ?_⟩)⟩
    have hl2 : (W.putObj (w.heap.size + 1) (.loop { rc .ready none with state := .busy })).heap[w.heap.size + 1]? = some (.loop { rc .ready none with state := .busy }) := World.putObj_heap_same hlt
    have hd2 : (W.putObj (w.heap.size + 1) (.loop { rc .ready none with state := .busy })).heap[w.heap.size]? = some (.deferred (some [])) := (World.putObj_heap_other (by omega)).trans hd
    have hb2 : Below w.heap.size w (W.putObj (w.heap.size + 1) (.loop { rc .ready none with state := .busy })) := by
      have h3 : Below w.heap.size w W := below_step hb1 (by omega) hBW
      refine ⟨h3.os, h3.tape, h3.output, ?_, fun k hk => (World.putObj_heap_other (by omega)).trans (h3.block k hk)⟩
      have := h3.size
      simp [World.putObj]
      omega
    refine wpIn_mono (hbody _ v _ hX (hG v W _ _ _ hGv hl rfl) hb2) ?_
    rintro e a3 W3 ⟨rfl, hk3, hB3⟩
    have hl3 := hk3.same _ _ hl2 rfl
    have hr := run_endRound (P := P) (some .ret) hl3
    refine ⟨_, _, hr, rfl, hB v W3 _ _ _ (by omega) hB3 hl3 rfl, ?_, (World.putObj_heap_other (by omega)).trans (hk3.same _ _ hd2 rfl)⟩
    rw [World.putObj_heap_same (Array.getElem?_eq_some_iff.1 hl3).1, hrc]
    rfl
  · rintro e W2 ⟨⟨r, rfl⟩, ⟨hX, hBW⟩ | ⟨hX, v, hBv, hl, hd⟩⟩
    · have hl := (hBW.block _ (by omega)).trans hL1
      have hd := (hBW.block _ (by omega)).trans hD1
      refine ⟨none, _, by have := run_endLoop (P := P) hl (by rw [hrc]; simp); rw [hrc] at this; exact this, hdone hX _ _ (Nat.le_refl _) ?_ ((World.putObj_heap_other (by omega)).trans hd)⟩
      have h3 : Below w.heap.size w W2 := below_step hb1 (by omega) hBW
      refine ⟨h3.os, h3.tape, h3.output, ?_, fun k hk => (World.putObj_heap_other (by omega)).trans (h3.block k hk)⟩
      have := h3.size
      simp [World.putObj]
      omega
    · exact ⟨some .ret, _, by have := run_endLoop (P := P) hl (by rw [hrc]; simp); rw [hrc] at this; exact this, hstop hX _ v _ (Nat.le_refl _) (hB v W2 _ _ _ (by omega) hBv hl rfl) ((World.putObj_heap_other (by omega)).trans hd)⟩
end Go.Proofs.YtmmgdeoballhpaaDoor
/- The contract of package order's Sort. -/
namespace Go.Proofs.YtmmgdeoballhpaaDoor
open Go.RowKit Go.Shelf Sx
attribute [local go_sem] Oper.semAt_some

theorem results_cc {fn : Func} {p q : Tmp} {ty u : TypeId} (h : fn.results = #[.cell p ty, .cell q u]) (tmps : Array Value) (P : Program) (w : World) :
    (results fn tmps).run P w =
      ((asAddr (tmps.getD p undef)).run P w).andThen fun a w₁ => ((loadVar ty a).run P w₁).andThen fun v w₂ => ((asAddr (tmps.getD q undef)).run P w₂).andThen fun a₂ w₃ => ((loadVar u a₂).run P w₃).andThen fun v₂ w₄ => .ok (.tuple #[v, v₂]) w₄ := by
  simp only [results, h]
  simp [Sem.run_bind, Result.andThen]
theorem ret_sort {tmps : Array Value} {w : World} {g k : Nat} {x : Option Addr} {y z : Nat} {e : Int} (hp : tmps.getD 2 undef = pv g) (hq : tmps.getD 3 undef = pv k) (hg : Blk w g 29 #[.slice x y z]) (hk : Blk w k 32 #[.int .i64 e]) :
    (results Tryd.f25 tmps).run Tryd.prog w = .ok (.tuple #[.slice x y z, .int .i64 e]) w := by
  have c1 := hg.cell (j := 0) rfl
  have c2 := hk.cell (j := 0) rfl
  rw [results_cc (p := 2) (q := 3) (ty := 29) (u := 32) rfl, hp, hq]
  simp [asAddr]
  go_simp
set_option maxHeartbeats 1000000 in
theorem oOrders_in (F : Fence) (n : Nat) (hf : F.fn 38) (hro : F.round = none) (b : Nat) (w : World) :
    CallsIn F n Tryd.prog 38 #[pv b] w fun e w' => e = .returned (.func (.func 63) #[] #[pv w.heap.size]) ∧ w' = w.alloc (.cells #[pv b] 22) := by
  refine callsIn_of_wp Tryd.func38 rfl hf ?_ hro
  simp only [Tryd.ntmps38, List.size_toArray, List.length_cons, List.length_nil, Nat.reduceAdd, Nat.reduceSub, Array.replicate_succ, Array.replicate_zero, List.push_toArray, List.append_toArray, List.nil_append, List.cons_append]
  gi_wp2
  go_ret
  exact ⟨rfl, rfl⟩
/-- What Sort answers. -/
def SortAns (w w' : World) (L : List Nat) (v : Value) (code : Int) : Prop :=
  ((sortOf L).length = L.length → code = 0 ∧ w'.ownsRow w.heap.size 3 1 v L.length (encN (sortOf L))) ∧ (¬ (sortOf L).length = L.length → code = 3 ∧ v = .slice none 0 0)
theorem owns_slice {w : World} {base : Nat} {e : TypeId} {size : Nat} {v : Value} {n : Nat} {xs : List Value} (h : w.ownsRow base e size v n xs) : ∃ x y z, v = .slice x y z := by
  obtain ⟨a, cap, e⟩ := owns_len h
  exact ⟨_, _, _, e⟩
set_option maxRecDepth 100000 in
set_option maxHeartbeats 4000000 in
theorem oSort_in (b c : Nat) (L : List Nat) (w : World) (h : IsRel w b c L) (hT : Tab w) :
    CallsIn Fence.wide 6 Tryd.prog 25 #[pv b] w fun e w' => ∃ v code, e = .returned (.tuple #[v, .int .i64 code]) ∧ SortAns w w' L v code ∧ Below w.heap.size w w' := by
  refine callsIn_of_wp_marks Tryd.func25 rfl trivial ?_ rfl
  simp only [Tryd.ntmps25, List.size_toArray, List.length_cons, List.length_nil, Nat.reduceAdd, Nat.reduceSub, Array.replicate_succ, Array.replicate_zero, List.push_toArray, List.append_toArray, List.nil_append, List.cons_append]
  gi_wp2_with (refine ⟨trivial, ?_⟩; gi_at_call 38; refine (oOrders_in Fence.wide _ trivial rfl b _).mono ?_; rintro e w' ⟨rfl, rfl⟩)
  have r2 : Blk (((w.alloc (.cells #[.slice none 0 0] 29)).alloc (.cells #[.int .i64 0] 32)).alloc (.cells #[pv b] 22)) w.heap.size 29 #[.slice none 0 0] := ((Blk.new w _ _).alloc _).alloc _
  have r3 : Blk (((w.alloc (.cells #[.slice none 0 0] 29)).alloc (.cells #[.int .i64 0] 32)).alloc (.cells #[pv b] 22)) (w.heap.size + 1) 32 #[.int .i64 0] := (Blk.new2 w _ _ _).alloc _
  have r4 : Blk (((w.alloc (.cells #[.slice none 0 0] 29)).alloc (.cells #[.int .i64 0] 32)).alloc (.cells #[pv b] 22)) (w.heap.size + 1 + 1) 22 #[pv b] := Blk.new3' w _ _ _ _
  have hBA : Below w.heap.size w (((w.alloc (.cells #[.slice none 0 0] 29)).alloc (.cells #[.int .i64 0] 32)).alloc (.cells #[pv b] 22)) := (((Below.refl _ w).alloc (Nat.le_refl _) _).alloc (by simp) _).alloc (by simp; omega) _
  have hzA : (((w.alloc (.cells #[.slice none 0 0] 29)).alloc (.cells #[.int .i64 0] 32)).alloc (.cells #[pv b] 22)).heap.size = w.heap.size + 3 := by simp
  generalize ((w.alloc (.cells #[.slice none 0 0] 29)).alloc (.cells #[.int .i64 0] 32)).alloc (.cells #[pv b] 22) = wA at *
  have hA := h.below hBA
  have hTA := hT.step hBA
  clear h hT
  refine rf_once (by omega) (gf := 63) (lb := #[pv (w.heap.size + 1 + 1)]) rfl (enters_of Tryd.func63 (by kernel_rfl) rfl) rfl ((sortOf L).length = L.length)
    (fun v W => W.ownsRow (w.heap.size + 3) 3 1 v L.length (encN (sortOf L)))
    (fun v W => W.ownsRow (w.heap.size + 3) 3 1 v L.length (encN (sortOf L)) ∧ Blk W w.heap.size 29 #[v] ∧ Blk W (w.heap.size + 1) 32 #[.int .i64 0] ∧ Below w.heap.size w W)
    (fun v W l o o' hG hl ho => ownsRow_putObj hG _ hl ho) ?hB ?hgen
    (fun v => { tmps := #[pv b, undef, .pointer (some ⟨w.heap.size, 0, none⟩), .pointer (some ⟨w.heap.size + 1, 0, none⟩), v, pv b, .func (.func 63) #[] #[pv (w.heap.size + 1 + 1)], v, undef], defers := [] }) ?assign ?body ?done ?stop
  case hB =>
    rintro v W l o o' hle ⟨h1, h2, h3, h4⟩ hl ho
    have hne : ∀ (k : Nat) (t : TypeId) (cs : Array Value), Blk W k t cs → k ≠ l := fun k t cs hk e => by
      subst e
      rw [show W.heap[k]? = _ from hk] at hl
      injection hl with hl
      subst hl
      cases ho
    refine ⟨ownsRow_putObj h1 _ hl ho, (World.putObj_heap_other (hne _ _ _ h2)).trans h2, (World.putObj_heap_other (hne _ _ _ h3)).trans h3, h4.os, h4.tape, h4.output, ?_, fun k hk => (World.putObj_heap_other (by omega)).trans (h4.block k hk)⟩
    have := h4.size
    simp [World.putObj]
    omega
  case hgen =>
    intro W1 l Jx hb1 hy
    have hz1 := hb1.size
    refine (ord1_in b c (w.heap.size + 1 + 1) l L (6 - 1) (by omega) W1 (hA.below hb1) (hTA.step hb1) (r4.of_below hb1) Jx ?_).mono ?_
    · intro v W' hX ho hb
      exact hy v W' hX (owns_lo ho (by omega)) hb
    · rintro e W' ⟨hr, ⟨h1, h2⟩ | ⟨h1, h2⟩⟩
      · exact ⟨hr, .inl ⟨by omega, h2⟩⟩
      · exact ⟨hr, .inr ⟨h1, h2⟩⟩
  case assign =>
    intro l v W K hK
    gi_wp2
    exact hK
  case body =>
    intro l v W hX hG hbW
    have q2 := r2.of_below hbW
    have q3 := r3.of_below hbW
    have c2 := q2.cell (j := 0) rfl
    have c3 := q3.cell (j := 0) rfl
    have f2 := q2.frozen 0
    have f3 := q3.frozen 0
    obtain ⟨x, y, z, rfl⟩ := owns_slice hG
    have HG := hid_of hG
    clear hG
    gi_wp2_with fail
    have e1 := owns_set (owns_set HG.out (a := ⟨w.heap.size, 0, none⟩) (by simp) (.slice x y z)) (a := ⟨w.heap.size + 1, 0, none⟩) (by simp) (.int .i64 0)
    have e2 := (q2.set 0 (.slice x y z)).setOther (a := ⟨w.heap.size + 1, 0, none⟩) (by simp) (.int .i64 0)
    have e3 := (q3.setOther (a := ⟨w.heap.size, 0, none⟩) (by simp) (.slice x y z)).set 0 (.int .i64 0)
    have hbw : Below w.heap.size w W := below_step hBA hBA.size hbW
    exact ⟨(KeepsOthers.setCell _ _ _).trans (KeepsOthers.setCell _ _ _), e1, by simpa using e2, by simpa using e3, (hbw.setCell (by simp) _).setCell (by simp) _⟩
  case done =>
    intro hX D W hD hbW hDD
    have q2 := r2.of_below hbW
    have q3 := r3.of_below hbW
    have c2 := q2.cell (j := 0) rfl
    have c3 := q3.cell (j := 0) rfl
    have f2 := q2.frozen 0
    have f3 := q3.frozen 0
    have hbw : Below w.heap.size w W := below_step hBA hBA.size hbW
    gi_wp2_with fail
    have e2 := (q2.set 0 (.slice none 0 0)).setOther (a := ⟨w.heap.size + 1, 0, none⟩) (by simp) (.int .i64 3)
    have e3 := (q3.setOther (a := ⟨w.heap.size, 0, none⟩) (by simp) (.slice none 0 0)).set 0 (.int .i64 3)
    have hb2 : Below w.heap.size w ((W.setCell ⟨w.heap.size, 0, none⟩ (.slice none 0 0)).setCell ⟨w.heap.size + 1, 0, none⟩ (.int .i64 3)) := (hbw.setCell (by simp) _).setCell (by simp) _
    have hmk : Marks w.heap.size ((W.setCell ⟨w.heap.size, 0, none⟩ (.slice none 0 0)).setCell ⟨w.heap.size + 1, 0, none⟩ (.int .i64 3)) [D] := (Marks.nil _ _).cons ((Below.heap_setCell _ _ _ _ (by simp; omega)).trans ((Below.heap_setCell _ _ _ _ (by simp; omega)).trans hDD)) (by omega) (by simp)
    refine leave_marks hmk ⟨_, ret_sort (e := 3) (x := none) (y := 0) (z := 0) rfl rfl (shut_blk hmk (by simpa using e2)) (shut_blk hmk (by simpa using e3)), _, _, rfl, ⟨fun e => absurd e hX, fun _ => ⟨rfl, rfl⟩⟩, hb2.trans (shut_below hmk)⟩
  case stop =>
    rintro hX D v W hD ⟨h1, h2, h3, h4⟩ hDD
    obtain ⟨x, y, z, rfl⟩ := owns_slice h1
    gi_wp2_with fail
    have hmk : Marks w.heap.size W [D] := (Marks.nil _ _).cons hDD (by omega) (by simp)
    exact leave_marks hmk ⟨_, ret_sort rfl rfl (shut_blk hmk h2) (shut_blk hmk h3), _, _, rfl, ⟨fun _ => ⟨rfl, owns_lo (shut_owns hmk h1) (by omega)⟩, fun e => absurd hX e⟩, h4.trans (shut_below hmk)⟩
theorem oSort_calls (b c : Nat) (L : List Nat) (w : World) (h : IsRel w b c L) (hT : Tab w) :
    Calls Tryd.prog 25 #[pv b] w fun e w' => ∃ v code, e = .returned (.tuple #[v, .int .i64 code]) ∧ SortAns w w' L v code ∧ Below w.heap.size w w' := callsIn_wide.1 (oSort_in b c L w h hT)
end Go.Proofs.YtmmgdeoballhpaaDoor
/- Package order's between. -/
namespace Go.Proofs.YtmmgdeoballhpaaDoor
open Go.RowKit Go.Shelf Sx

def toI (l : List Nat) : List Int := l.map (fun x => ((x : Nat) : Int))
theorem toI_length (l : List Nat) : (toI l).length = l.length := by simp [toI]
theorem toI_at {l : List Nat} {i x : Nat} (h : l[i]? = some x) : (toI l)[i]? = some ((x : Nat) : Int) := by simp [toI, h]
/-- A list of lists in memory. -/
def BlocksR (w : World) (v : Value) (bs : List (List Nat)) : Prop := ∃ p cap, v = .slice p bs.length cap ∧ ∃ vs : List Value, vs.length = bs.length ∧
  (0 < bs.length → ∃ s, p = some ⟨s, 0, none⟩ ∧ s < w.heap.size ∧ ∀ (i : Nat) (u : Value), vs[i]? = some u → w.cell? ⟨s, i, none⟩ = some u) ∧ ∀ (i : Nat) (u : Value) (bl : List Nat), vs[i]? = some u → bs[i]? = some bl → IntsR w u (toI bl)
theorem BlocksR.below {w w' : World} {v : Value} {bs : List (List Nat)} (h : BlocksR w v bs) (hb : Below w.heap.size w w') : BlocksR w' v bs := by
  obtain ⟨p, cap, e, vs, h1, h2, h3⟩ := h
  refine ⟨p, cap, e, vs, h1, fun h0 => ?_, fun i u bl hu hbl => (h3 i u bl hu hbl).below hb⟩
  obtain ⟨s, e2, h4, h5⟩ := h2 h0
  exact ⟨s, e2, Nat.lt_of_lt_of_le h4 hb.size, fun i u hu => (hb.cell (p := ⟨s, i, none⟩) h4).trans (h5 i u hu)⟩
def setAll (B : List Int) (i : Nat) (b : List Nat) : List Int := b.foldl (fun B p => B.set p (i : Int)) B
theorem setAll_snoc (B : List Int) (i : Nat) (b : List Nat) (p : Nat) : setAll B i (b ++ [p]) = (setAll B i b).set p (i : Int) := by simp [setAll]
theorem setAll_length (i : Nat) (b : List Nat) (B : List Int) : (setAll B i b).length = B.length := by
  unfold setAll
  induction b generalizing B with
  | nil => rfl
  | cons p b ih => rw [List.foldl_cons, ih, List.length_set]
/-- Of each point the number of its block. -/
def blkK (n : Nat) (bs : List (List Nat)) (k : Nat) : List Int := (List.range k).foldl (fun B i => setAll B i (bs.getD i [])) (List.replicate n 0)
theorem blkK_succ (n : Nat) (bs : List (List Nat)) (k : Nat) : blkK n bs (k + 1) = setAll (blkK n bs k) k (bs.getD k []) := by simp [blkK, List.range_succ]
theorem blkK_length (n : Nat) (bs : List (List Nat)) : ∀ k, (blkK n bs k).length = n
  | 0 => by simp [blkK]
  | k + 1 => by rw [blkK_succ, setAll_length, blkK_length n bs k]
def btK (B : List Int) (m : Nat) (ps : List (Nat × Nat)) : List Nat := ps.foldl (fun A x => if B.getD x.1 0 = B.getD x.2 0 then A else putP A (B.getD x.1 0) (B.getD x.2 0) true) (List.replicate m 0)
theorem btK_snoc (B : List Int) (m : Nat) (ps : List (Nat × Nat)) (x : Nat × Nat) : btK B m (ps ++ [x]) = if B.getD x.1 0 = B.getD x.2 0 then btK B m ps else putP (btK B m ps) (B.getD x.1 0) (B.getD x.2 0) true := by simp [btK]
/-- The relation of blocks. -/
def betw (L : List Nat) (bs : List (List Nat)) : List Nat := btK (blkK L.length bs bs.length) bs.length (pairsL L)
theorem new_small (m : Nat) (hm : m ≤ 256) (w : World) : Calls Tryd.prog 14 #[.int .i64 m] w fun e w' => ∃ b c, e = .returned (pv b) ∧ Made w w' b c (List.replicate m 0) := New_c m hm w
set_option maxRecDepth 100000 in
set_option maxHeartbeats 8000000 in
theorem oBetween_calls (b c : Nat) (L : List Nat) (v : Value) (bs : List (List Nat)) (w : World) (h : IsRel w b c L) (hT : Tab w) (hv : BlocksR w v bs) (hm : bs.length ≤ 256) (hp : ∀ bl ∈ bs, bl.length ≤ 256 ∧ ∀ p ∈ bl, p < L.length) :
    Calls Tryd.prog 70 #[pv b, v] w fun e w' => ∃ b2 c2, e = .returned (pv b2) ∧ Made w w' b2 c2 (betw L bs) := by
  have hl := h.len
  have hmk := make_ints L.length (by omega)
  have hv0 := hv
  obtain ⟨p, cap, rfl, vs, hvl, hvs, hrow⟩ := hv
  have HVS := hid_of hvs
  have HROW := hid_of hrow
  have HP := hid_of hp
  clear hvs hrow hp hv0
  go_enter Tryd.func70, Tryd.ntmps70
  go_wp2_with (go_at_call 30; refine (Len_calls b c L _ h).mono ?_; rintro e w' ⟨rfl, hw'⟩; obtain rfl : w = w' := hw'.symm)
  have hB0 : Below w.heap.size w (w.alloc (.cells (intsA (List.replicate L.length 0)) 3)) := (Below.refl _ _).alloc (Nat.le_refl _) _
  go_loopw [20] (fun i wr => ∃ k : Nat, k ≤ bs.length ∧ i = .int .i64 k ∧ Blk wr w.heap.size 3 (intsA (blkK L.length bs k)) ∧ Below w.heap.size w wr) (fun i _ => bs.length - (intOf i).toNat)
  case atStart => exact ⟨0, by omega, rfl, Blk.new _ _ _, hB0⟩
  case round =>
    clear hB0 hmk
    obtain ⟨k, hk, rfl, hB, hBl⟩ := hrel
    by_cases hlt : k < bs.length
    · obtain ⟨s, rfl, hs1, hs2⟩ := HVS.out (by omega)
      obtain ⟨u, hu⟩ : ∃ u, vs[k]? = some u := ⟨_, List.getElem?_eq_getElem (by omega)⟩
      obtain ⟨bl, hbl⟩ : ∃ bl, bs[k]? = some bl := ⟨_, List.getElem?_eq_getElem hlt⟩
      have c0 := (hBl.cell (p := ⟨s, k, none⟩) hs1).trans (hs2 k u hu)
      have hIR := HROW.out k u bl hu hbl
      obtain ⟨hb1, hb2⟩ := HP.out bl (List.mem_of_getElem? hbl)
      have HE : Hid (blkK L.length bs (k + 1) = setAll (blkK L.length bs k) k bl) := by
        show _ = _
        rw [blkK_succ, List.getD_eq_getElem?_getD, hbl]; rfl
      have hBk := blkK_length L.length bs k
      obtain ⟨ua, ucap, rfl, hup⟩ : ∃ a cap, u = .slice a bl.length cap ∧ (0 < bl.length → ∃ s o, a = some ⟨s, o, none⟩ ∧ s < w.heap.size ∧ ∀ (i x : Nat), bl[i]? = some x → w.cell? ⟨s, o + i, none⟩ = some (.int .i64 x)) := by
        rcases hIR with ⟨a, cap, e, e2⟩ | ⟨s, o, cap, e, h1, h2⟩
        · have : bl.length = 0 := by have := congrArg List.length e2; simpa [toI] using this
          exact ⟨a, cap, by rw [this]; exact e, fun h0 => by omega⟩
        · exact ⟨_, cap, by rw [toI_length] at e; exact e, fun _ => ⟨s, o, rfl, h1, fun i x hx => h2 i _ (toI_at hx)⟩⟩
      have HUP := hid_of hup
      clear hu hbl hs2 hIR hup
      generalize blkK L.length bs k = B0 at *
      go_wp2_with fail
      clear c0
      go_loopw [27] (fun i wr2 => ∃ j : Nat, j ≤ bl.length ∧ i = .int .i64 j ∧ Blk wr2 w.heap.size 3 (intsA (setAll B0 k (bl.take j))) ∧ Below w.heap.size w wr2) (fun i _ => bl.length - (intOf i).toNat)
      case atStart => exact ⟨0, by omega, rfl, hB, hBl⟩
      case round =>
        clear hB hBl
        obtain ⟨j, hj, rfl, hB, hBl⟩ := hrel
        by_cases hjl : j < bl.length
        · obtain ⟨s2, o2, rfl, hs3, hs4⟩ := HUP.out (by omega)
          obtain ⟨q, hq⟩ : ∃ q, bl[j]? = some q := ⟨_, List.getElem?_eq_getElem hjl⟩
          have c1 := (hBl.cell (p := ⟨s2, o2 + j, none⟩) hs3).trans (hs4 j q hq)
          have hqn := hb2 q (List.mem_of_getElem? hq)
          have hq2 : q < (setAll B0 k (bl.take j)).length := by rw [setAll_length, hBk]; exact hqn
          have d0 := hB.cellI (List.getElem?_eq_getElem hq2)
          have f0 := hB.frozen q
          have HS : Hid (setAll B0 k (bl.take (j + 1)) = (setAll B0 k (bl.take j)).set q (k : Int)) := by
            show _ = _
            rw [List.take_add_one, hq]
            exact setAll_snoc _ _ _ _
          have q0 : (0 : Int) ≤ (q : Int) := by omega
          have q1 : (q : Int) < (L.length : Int) := by omega
          clear hq hs4
          go_wp2_with fail
          refine ⟨⟨j + 1, by omega, by go_num, ?_, hBl.setCell (by simp) _⟩, by simp [intOf]; omega⟩
          rw [HS.out]
          exact hB.setI _ _
        · obtain rfl : j = bl.length := by omega
          rw [List.take_length] at hB
          go_wp2_with fail
          refine ⟨⟨k + 1, by omega, by go_num, ?_, hBl⟩, by simp [intOf]; omega⟩
          rw [HE.out]
          exact hB
    · obtain rfl : k = bs.length := by omega
      go_wp2_with fail
      refine (new_small bs.length hm _).mono ?_
      rintro e w1 ⟨b2, c2, rfl, hM⟩
      go_wp2_with fail
      refine (Pairs_calls b c L _ (h.below (below_step hBl hBl.size hM.below)) (hT.step (below_step hBl hBl.size hM.below))).mono ?_
      rintro e w2 ⟨v1, rfl, ho, hB1⟩
      have hpv := owns_prs ho
      have hlen : (pairsL L).length ≤ 65536 := by have := pairsK_length L L.length; simp only [pairsL]; omega
      have hlow : ∀ x ∈ pairsL L, x.1 < L.length ∧ x.2 < L.length := pairsL_lt h.low
      have hMw : Made w w2 b2 c2 (btK (blkK L.length bs bs.length) bs.length ((pairsL L).take 0)) := by
        have h1 := hM.step hB1
        exact ⟨h1.rel, Nat.le_trans hBl.size hM.hb, Nat.le_trans hBl.size hM.hc, below_step (below_step hBl hBl.size hM.below) (Nat.le_trans hBl.size hM.below.size) hB1⟩
      have hBw2 := (hB.of_below hM.below).of_below hB1
      have hc2 : c2 < w1.heap.size := hM.rel.rows.lt
      have hcw : w.heap.size < c2 ∧ w.heap.size < b2 := by have := hB.lt; have := hM.hc; have := hM.hb; omega
      have HBE : Hid (betw L bs = btK (blkK L.length bs bs.length) bs.length (pairsL L)) := rfl
      have hpv2 : ∃ p1 cap1, v1 = .slice p1 (pairsL L).length cap1 ∧ (0 < (pairsL L).length → ∃ s, p1 = some ⟨s, 0, none⟩ ∧ w1.heap.size ≤ s ∧ PrsR w2 s (pairsL L)) := by
        rcases hpv with ⟨e1, e2⟩ | ⟨s, cap, e1, h1, h2⟩
        · exact ⟨_, _, by rw [e2]; exact e1, fun h0 => by rw [e2] at h0; simp at h0⟩
        · exact ⟨_, _, e1, fun _ => ⟨s, rfl, h1, h2⟩⟩
      obtain ⟨p1, cap1, rfl, hpv2⟩ := hpv2
      have HPV := hid_of hpv2
      have HLW := hid_of hlow
      have hBn := blkK_length L.length bs bs.length
      clear hpv hpv2 ho hM hB hB1 hlow HVS HROW HP
      generalize blkK L.length bs bs.length = B at *
      generalize pairsL L = ps at *
      go_wp2_with fail
      go_loopw [43] (fun i wr3 => ∃ k : Nat, k ≤ ps.length ∧ i = .int .i64 k ∧ Made w wr3 b2 c2 (btK B bs.length (ps.take k)) ∧ Blk wr3 w.heap.size 3 (intsA B) ∧ Hid (∀ s, w1.heap.size ≤ s → PrsR w2 s ps → PrsR wr3 s ps)) (fun i _ => ps.length - (intOf i).toNat)
      case atStart => exact ⟨0, by omega, rfl, hMw, hBw2, fun _ _ h => h⟩
      case round =>
        clear hMw hBw2
        obtain ⟨k, hk, rfl, hM, hB, HR⟩ := hrel
        by_cases hlt : k < ps.length
        · obtain ⟨s, rfl, hs0, hs1⟩ := HPV.out (by omega)
          obtain ⟨⟨x, y⟩, hx⟩ : ∃ x, ps[k]? = some x := ⟨_, List.getElem?_eq_getElem hlt⟩
          obtain ⟨hxn, hyn⟩ := HLW.out _ (List.mem_of_getElem? hx)
          have hsr := HR.out s hs0 hs1
          have c0 := hsr.fst k _ hx
          have c1 := hsr.snd k _ hx
          have d0 := cellA' (hB.cellI (getD_of (q := x) (by omega))) (.cells #[.int .i64 x, .int .i64 y] 37)
          have d1 := cellA' (hB.cellI (getD_of (q := y) (by omega))) (.cells #[.int .i64 x, .int .i64 y] 37)
          have HE : Hid (btK B bs.length (ps.take (k + 1)) = if B.getD x 0 = B.getD y 0 then btK B bs.length (ps.take k) else putP (btK B bs.length (ps.take k)) (B.getD x 0) (B.getD y 0) true) := by
            show _ = _
            rw [List.take_add_one, hx]
            exact btK_snoc _ _ _ _
          have x0 : (0 : Int) ≤ (x : Int) := by omega
          have x1 : (x : Int) < (L.length : Int) := by omega
          have y0 : (0 : Int) ≤ (y : Int) := by omega
          have y1 : (y : Int) < (L.length : Int) := by omega
          have hpB := Blk.new wr 37 #[.int .i64 (x : Int), .int .i64 (y : Int)]
          have n1 := hB.lt
          have hbA := (Below.refl wr.heap.size wr).alloc (Nat.le_refl _) (.cells #[.int .i64 x, .int .i64 y] 37)
          clear hx hsr hs1
          generalize B.getD x 0 = X at *
          generalize B.getD y 0 = Y at *
          go_wp2_with fail
          have hMA := hM.step hbA
          have hBA := hB.of_below hbA
          have HRA : Hid (∀ s, w1.heap.size ≤ s → PrsR w2 s ps → PrsR (wr.alloc (.cells #[.int .i64 x, .int .i64 y] 37)) s ps) := fun s h1 h2 => (HR.out s h1 h2).below hbA
          have p0 := hpB.cell (j := 0) rfl
          have p2 := hpB.cell (j := 1) rfl
          have m1 := hpB.lt
          clear c0 c1 hM hB HR hbA hpB
          generalize wr.alloc (.cells #[.int .i64 x, .int .i64 y] 37) = W at *
          generalize wr.heap.size = B5 at *
          go_quiet (fail)
          have hMq : Made w (W.drewN nq) b2 c2 (btK B bs.length (ps.take k)) := ⟨hMA.rel.drewN _, hMA.hb, hMA.hc, below_drewN hMA.below _⟩
          by_cases hXY : X = Y
          · have HXY := hid_of hXY
            have hne : (X != Y) = false := by rw [hXY]; simp
            go_wp2_with fail
            refine ⟨⟨k + 1, by omega, by go_num, ?_, hBA.drewN _, fun s h1 h2 => ?_⟩, by simp [intOf]; omega⟩
            · rw [HE.out, if_pos HXY.out]; exact hMq
            · exact (HRA.out s h1 h2).below (below_drewN (Below.refl _ _) _)
          · have HXY := hid_of hXY
            have hne : (X != Y) = true := by simpa using hXY
            go_wp2_with fail
            refine (Put_calls b2 c2 _ X Y true _ hMq.rel).mono ?_
            rintro e w4 ⟨rfl, hI4, ht4⟩
            go_wp2_with fail
            refine ⟨⟨k + 1, by omega, by go_num, ?_, (hBA.drewN nq).touch ht4 (by omega), fun s h1 h2 => ?_⟩, by simp [intOf]; omega⟩
            · rw [HE.out, if_neg HXY.out]; exact hMq.touch hI4 ht4
            · have h3 := (HRA.out s h1 h2).below (below_drewN (Below.refl _ _) nq)
              exact h3.keep2 (N := (W.drewN nq).heap.size) (l := c2) (wt := c2) ⟨ht4.os, ht4.tape, ht4.output, ht4.size, fun k hk h4 _ => ht4.block k hk h4⟩ h3.lt (by omega) (by omega)
        · obtain rfl : k = ps.length := by omega
          rw [List.take_length] at hM
          go_wp2_with fail
          go_ret
          exact ⟨b2, c2, rfl, by rw [HBE.out]; exact hM⟩
end Go.Proofs.YtmmgdeoballhpaaDoor
/- Package order's sortBlocks. -/
namespace Go.Proofs.YtmmgdeoballhpaaDoor
open Go.RowKit Go.Shelf Sx

theorem srt_lt (n : Nat) (ps : List (Nat × Nat)) : ∀ (f : Nat) (pts : List Nat), (∀ p ∈ pts, p < n) → ∀ p ∈ srt n ps f pts, p < n
  | 0, pts, h => h
  | f + 1, pts, h => by
    rw [srt]
    split
    · rename_i hz
      refine srt_lt n ps f _ (fun p hp => ?_)
      rcases List.mem_append.1 hp with hp | hp
      · exact h p hp
      · obtain ⟨q, h1, h2, _⟩ := fz_range hz
        rw [wAll_length] at h2
        simp [h1] at hp
        omega
    · exact h
theorem sortOf_lt (L : List Nat) : ∀ p ∈ sortOf L, p < L.length := srt_lt _ _ _ _ (by simp)
theorem btK_length (B : List Int) (m : Nat) (ps : List (Nat × Nat)) : (btK B m ps).length = m := by
  unfold btK
  suffices h : ∀ (l : List (Nat × Nat)) (A : List Nat), (l.foldl (fun A x => if B.getD x.1 0 = B.getD x.2 0 then A else putP A (B.getD x.1 0) (B.getD x.2 0) true) A).length = A.length by
    rw [h, List.length_replicate]
  intro l
  induction l with
  | nil => intro A; rfl
  | cons x l ih =>
    intro A
    rw [List.foldl_cons, ih]
    split
    · rfl
    · rw [putP_length]
theorem betw_length (L : List Nat) (bs : List (List Nat)) : (betw L bs).length = bs.length := btK_length _ _ _
def sbOf (L : List Nat) (bs : List (List Nat)) : List (List Nat) := (sortOf (betw L bs)).map (fun i => bs.getD i [])
/-- What sortBlocks answers. -/
def SBAns (w' : World) (L : List Nat) (bs : List (List Nat)) (v : Value) (code : Int) : Prop :=
  ((sortOf (betw L bs)).length = bs.length → code = 0 ∧ BlocksR w' v (sbOf L bs)) ∧ (¬ (sortOf (betw L bs)).length = bs.length → code = 3)
theorem owns_cells {w : World} {base : Nat} {e : TypeId} {v : Value} {n : Nat} {xs : List Value} (h : w.ownsRow base e 1 v n xs) (hx : xs.length = n) (h0 : 0 < n) : ∃ s cap, v = .slice (some ⟨s, 0, none⟩) n cap ∧ s < w.heap.size ∧ ∀ (i : Nat) (u : Value), xs[i]? = some u → w.cell? ⟨s, i, none⟩ = some u := by
  rcases h.2 with ⟨_, e2⟩ | ⟨g, cap, cur, ev, _, hb, _, _, _, ht⟩
  · omega
  · refine ⟨g, cap, ev, (Array.getElem?_eq_some_iff.1 hb).1, fun i u hu => ?_⟩
    have hk : Blk w g e cur := hb
    apply hk.cell
    have hi : i < xs.length := (List.getElem?_eq_some_iff.1 hu).1
    rw [← ht, List.getElem?_take_of_lt (by omega)] at hu
    simpa using hu
set_option maxRecDepth 100000 in
set_option maxHeartbeats 8000000 in
theorem oSortB_calls (b c : Nat) (L : List Nat) (v : Value) (bs : List (List Nat)) (w : World) (h : IsRel w b c L) (hT : Tab w) (hv : BlocksR w v bs) (hm : bs.length ≤ 256) (hp : ∀ bl ∈ bs, bl.length ≤ 256 ∧ ∀ p ∈ bl, p < L.length) :
    Calls Tryd.prog 39 #[pv b, v] w fun e w' => ∃ v' code, e = .returned (.tuple #[v', .int .i64 code]) ∧ SBAns w' L bs v' code ∧ Below w.heap.size w w' := by
  have hbt := oBetween_calls b c L v bs w h hT hv hm hp
  obtain ⟨i0, hi, hz0, hz1, hz2⟩ := info_parts Tryd.infoints
  go_enter Tryd.func39, Tryd.ntmps39
  go_wp2_with fail
  refine hbt.mono ?_
  rintro e w1 ⟨b2, c2, rfl, hM⟩
  go_wp2_with fail
  refine (oSort_calls b2 c2 _ w1 hM.rel (hT.step hM.below)).mono ?_
  rintro e w2 ⟨v2, code, rfl, ⟨hA1, hA2⟩, hB2⟩
  rw [betw_length] at hA1 hA2
  have hBw : Below w.heap.size w w2 := below_step hM.below hM.below.size hB2
  clear hbt
  by_cases hX : (sortOf (betw L bs)).length = bs.length
  · obtain ⟨rfl, ho⟩ := hA1 hX
    have hso := sortOf_lt (betw L bs)
    rw [betw_length] at hso
    have hIR : IntsR w2 v2 (toI (sortOf (betw L bs))) := by
      have : w2.ownsRow w1.heap.size 3 1 v2 (toI (sortOf (betw L bs))).length (encJ (toI (sortOf (betw L bs)))) := by
        rw [toI_length, hX, show encJ (toI (sortOf (betw L bs))) = encN (sortOf (betw L bs)) from by simp [encJ, toI, encN]]
        exact ho
      exact owns_intsR this
    have HANS : Hid (∀ w' v', BlocksR w' v' (sbOf L bs) → SBAns w' L bs v' 0) := fun w' v' hb => ⟨fun _ => ⟨rfl, hb⟩, fun e => absurd hX e⟩
    have HSB : Hid (sbOf L bs = (sortOf (betw L bs)).map (fun i => bs.getD i [])) := rfl
    obtain ⟨p, cap, rfl, vs, hvl, hvs, hrow⟩ := hv.below hBw
    obtain ⟨p2, cap2, rfl, hq⟩ : ∃ a cap, v2 = .slice a (sortOf (betw L bs)).length cap ∧ (0 < (sortOf (betw L bs)).length → ∃ s o, a = some ⟨s, o, none⟩ ∧ s < w2.heap.size ∧ ∀ (i x : Nat), (sortOf (betw L bs))[i]? = some x → w2.cell? ⟨s, o + i, none⟩ = some (.int .i64 x)) := by
      rcases hIR with ⟨a, cap, e, e2⟩ | ⟨s, o, cap, e, h1, h2⟩
      · have : (sortOf (betw L bs)).length = 0 := by have := congrArg List.length e2; simpa [toI] using this
        exact ⟨a, cap, by rw [this]; exact e, fun h0 => by omega⟩
      · exact ⟨_, cap, by rw [toI_length] at e; exact e, fun _ => ⟨s, o, rfl, h1, fun i x hx => h2 i _ (toI_at hx)⟩⟩
    have hol : (sortOf (betw L bs)).length ≤ 256 := by omega
    have HX := hid_of hX
    have HQ := hid_of hq
    have HSO := hid_of hso
    have HVS := hid_of hvs
    have HROW := hid_of hrow
    clear hA1 hA2 ho hIR hq hX hso hvs hrow
    generalize sortOf (betw L bs) = od at *
    generalize sbOf L bs = sb at *
    go_wp2_with fail
    go_loopw [8, 20] (fun v8 i wr => ∃ k : Nat, k ≤ od.length ∧ i = .int .i64 k ∧ Hid (wr.ownsRow w2.heap.size 29 1 v8 k ((od.take k).map (fun i => vs.getD i (.slice none 0 0)))) ∧ Below w2.heap.size w2 wr) (fun _ i _ => od.length - (intOf i).toNat)
    case atStart => exact ⟨0, by omega, rfl, World.ownsRow_nil _ _ _ _, Below.refl _ _⟩
    case round =>
      obtain ⟨k, hk, rfl, HO, hBl⟩ := hrel
      by_cases hlt : k < od.length
      · obtain ⟨s2, o2, rfl, hs3, hs4⟩ := HQ.out (by omega)
        obtain ⟨j, hj⟩ : ∃ j, od[k]? = some j := ⟨_, List.getElem?_eq_getElem hlt⟩
        have hjn := HSO.out j (List.mem_of_getElem? hj)
        obtain ⟨s, rfl, hs1, hs2⟩ := HVS.out (by omega)
        obtain ⟨u, hu⟩ : ∃ u, vs[j]? = some u := ⟨_, List.getElem?_eq_getElem (by omega)⟩
        obtain ⟨bl, hbl⟩ : ∃ bl, bs[j]? = some bl := ⟨_, List.getElem?_eq_getElem hjn⟩
        obtain ⟨ua, ucap, rfl⟩ := (HROW.out j u bl hu hbl).len
        have c0 := (hBl.cell (p := ⟨s2, o2 + k, none⟩) hs3).trans (hs4 k j hj)
        have c1 := (hBl.cell (p := ⟨s, j, none⟩) hs1).trans (hs2 j _ hu)
        have HE : Hid ((od.take (k + 1)).map (fun i => vs.getD i (.slice none 0 0)) = (od.take k).map (fun i => vs.getD i (.slice none 0 0)) ++ [.slice ua (toI bl).length ucap]) := by
          show _ = _
          rw [List.take_add_one, hj, List.map_append]
          simp [List.getD, hu]
        have j0 : (0 : Int) ≤ (j : Int) := by omega
        have j1 : (j : Int) < (bs.length : Int) := by omega
        have zB := hBl.size
        clear hj hu hbl hs2 hs4
        generalize (toI bl).length = ul at *
        generalize (od.take k).map (fun i => vs.getD i (.slice none 0 0)) = xs at *
        go_wp2_with (at_builtin; refine wpList_append_own_at _ rfl _ _ 25 rfl w2.heap.size 29 i0 (.slice none 0 0) 1 24 Tryd.underlying25 hi hz0 hz1 hz2 rfl (by decide) u8 k xs rfl (HO.out.alloc _) ⟨_, 0, none⟩ 1 1 [.slice ua ul ucap] rfl rfl (by intro k u hk; match k, hk with | 0, hk => simp at hk; subst hk; exact (Blk.new _ _ _).cell rfl) (by simp [Value.oneCell']) (by unfold maxLen; omega) (by omega) (by simp; omega) ?_; intro v' w5 hown' hgrow _ hat)
        refine ⟨⟨k + 1, by omega, by go_num, ?_, ?_⟩, by simp [intOf]; omega⟩
        · rw [HE.out]; exact hown'
        · exact (hBl.alloc hBl.size _).grown hgrow (by simp; omega) (fun k e => owns_ge HO.out e)
      · obtain rfl : k = od.length := by omega
        have ho1 := HO.out
        rw [List.take_length] at ho1
        obtain ⟨a8, c8, hv8⟩ := owns_len ho1
        go_wp2_with fail
        go_ret2
        refine ⟨u8, 0, rfl, HANS.out _ _ ?_, below_step hBw hBw.size hBl⟩
        rw [HSB.out]
        refine ⟨a8, c8, by rw [List.length_map]; exact hv8, od.map (fun i => vs.getD i (.slice none 0 0)), by simp, fun h0 => ?_, fun i u bl hu hbl => ?_⟩
        · rw [List.length_map] at h0
          obtain ⟨s, cap', e1, h1, h2⟩ := owns_cells ho1 (by simp) h0
          rw [hv8] at e1
          injection e1 with e1 _ _
          exact ⟨s, e1, h1, h2⟩
        · rw [List.getElem?_map] at hu hbl
          cases ho : od[i]? with
          | none => rw [ho] at hu; cases hu
          | some j =>
            rw [ho] at hu hbl
            have hjn := HSO.out j (List.mem_of_getElem? ho)
            simp at hu hbl
            have e1 : vs[j]? = some u := by rw [← hu]; rw [List.getElem?_eq_getElem (by omega)]; simp
            have e2 : bs[j]? = some bl := by rw [← hbl]; rw [List.getElem?_eq_getElem hjn]; simp
            exact (HROW.out j u bl e1 e2).below hBl
  · obtain ⟨rfl, rfl⟩ := hA2 hX
    have HANS : Hid (∀ w' v', SBAns w' L bs v' 3) := fun w' v' => ⟨fun e => absurd e hX, fun _ => rfl⟩
    clear hA1 hA2
    go_wp2_with fail
    go_loopw [8, 20] (fun v8 i wr => i = .int .i64 0 ∧ Below w2.heap.size w2 wr) (fun _ _ _ => 0)
    case atStart => exact ⟨rfl, Below.refl _ _⟩
    case round =>
      obtain ⟨rfl, hBl⟩ := hrel
      go_wp2_with fail
      go_ret2
      exact ⟨_, 3, rfl, HANS.out _ _, below_step hBw hBw.size hBl⟩
end Go.Proofs.YtmmgdeoballhpaaDoor
/- slices.Grow and slices.Concat at lists of ints. -/
namespace Go.Proofs.YtmmgdeoballhpaaDoor
open Go.RowKit Go.Shelf Sx

set_option maxRecDepth 100000 in
set_option maxHeartbeats 2000000 in
theorem slGrow_calls (n : Nat) (h0 : 0 < n) (hn : n ≤ 65536) (w : World) :
    Calls Tryd.prog 84 #[.slice none 0 0, .int .i64 n] w fun e w' => ∃ v, e = .returned v ∧ w'.ownsRow w.heap.size 3 1 v 0 [] ∧ Below w.heap.size w w' := by
  have h1 : (0 : Int) < (n : Int) := by omega
  have h2 : ¬ (n : Int) < 0 := by omega
  have hb8 : Tryd.t3.bytes = 8 := by kernel_rfl
  have hnc : Builtin.nextslicecap n 0 = n := by unfold Builtin.nextslicecap; rw [if_pos (by omega)]
  have h3 : ¬ (281474976710656 : Int) < (n : Int) * ((Tryd.t3.bytes : Nat) : Int) := by rw [hb8]; omega
  have h3' : (n : Int) * ((Tryd.t3.bytes : Nat) : Int) ≤ 281474976710656 := by rw [hb8]; omega
  have h4 : ¬ 281474976710656 < Builtin.nextslicecap n 0 * Tryd.t3.bytes := by rw [hnc, hb8]; omega
  have h5 : (n : Int) ≤ 9223372036854775807 := by omega
  have h6 : ¬ n = 0 := by omega
  have h7 : (0 : Int) ≤ (n : Int) := by omega
  clear hb8 hnc h2
  go_enter Tryd.func84, Tryd.ntmps84
  go_wp2_with fail
  go_ret
  refine ⟨_, rfl, ?_, ((Below.refl _ _).alloc (Nat.le_refl _) _).drew⟩
  have hC : n ≤ (Question.appendCap n 0 3).cut (w.tape w.drawn (Question.appendCap n 0 3)) ∧ (Question.appendCap n 0 3).cut (w.tape w.drawn (Question.appendCap n 0 3)) ≤ maxLen := by
    have hlt := Nat.mod_lt (w.tape w.drawn (.appendCap n 0 3)) (show 0 < 2 ^ 63 - n by omega)
    simp only [Question.cut, maxLen]
    omega
  generalize (Question.appendCap n 0 3).cut (w.tape w.drawn (Question.appendCap n 0 3)) = C at *
  refine ⟨rfl, .inr ⟨w.heap.size, C, _, rfl, Nat.le_refl _, (show (w.alloc _).heap[w.heap.size]? = _ from World.alloc_heap_new w _), by omega, hC.2, ?_, by simp⟩⟩
  simp [Builtin.zeroCells]
  omega
set_option maxRecDepth 100000 in
theorem slGrow_0 (w : World) : Calls Tryd.prog 84 #[.slice none 0 0, .int .i64 0] w fun e w' => e = .returned (.slice none 0 0) ∧ Below w.heap.size w w' := by
  go_enter Tryd.func84, Tryd.ntmps84
  go_wp2_with fail
  go_ret
  exact ⟨rfl, Below.refl _ _⟩
theorem slGrow_any (n : Nat) (hn : n ≤ 65536) (w : World) :
    Calls Tryd.prog 84 #[.slice none 0 0, .int .i64 n] w fun e w' => ∃ v, e = .returned v ∧ w'.ownsRow w.heap.size 3 1 v 0 [] ∧ Below w.heap.size w w' := by
  by_cases h0 : n = 0
  · subst h0
    refine (slGrow_0 w).mono ?_
    rintro e w' ⟨rfl, hB⟩
    exact ⟨_, rfl, World.ownsRow_nil _ _ _ _, hB⟩
  · exact slGrow_calls n (by omega) hn w
theorem catF_take {bs : List (List Nat)} {k : Nat} {bl : List Nat} (h : bs[k]? = some bl) : (bs.take (k + 1)).flatten = (bs.take k).flatten ++ bl := by
  rw [List.take_add_one, h]
  simp
theorem flat_len (bs : List (List Nat)) (h : ∀ bl ∈ bs, bl.length ≤ 256) : ∀ k, (bs.take k).flatten.length ≤ 256 * k := by
  intro k
  induction k with
  | zero => simp
  | succ k ih =>
    by_cases hk : k < bs.length
    · obtain ⟨bl, hbl⟩ : ∃ bl, bs[k]? = some bl := ⟨_, List.getElem?_eq_getElem hk⟩
      rw [catF_take hbl, List.length_append]
      have := h bl (List.mem_of_getElem? hbl)
      omega
    · rw [List.take_of_length_le (by omega)]
      rw [List.take_of_length_le (by omega)] at ih
      omega
set_option maxRecDepth 100000 in
set_option maxHeartbeats 1000000 in
theorem slConcat_calls (v : Value) (bs : List (List Nat)) (w : World) (hv : BlocksR w v bs) (hm : bs.length ≤ 256) (hp : ∀ bl ∈ bs, 0 < bl.length ∧ bl.length ≤ 256) :
    Calls Tryd.prog 47 #[v] w fun e w' => ∃ v', e = .returned v' ∧ w'.ownsRow w.heap.size 3 1 v' bs.flatten.length (encN bs.flatten) ∧ Below w.heap.size w w' := by
  obtain ⟨p, cap, rfl, vs, hvl, hvs, hrow⟩ := hv
  obtain ⟨i0, hi, hz0, hz1, hz2⟩ := info_parts Tryd.infoint
  have HVS := hid_of hvs
  have HROW := hid_of hrow
  have HP := hid_of hp
  have hfl := flat_len bs (fun bl hb => (hp bl hb).2)
  have HFL := hid_of hfl
  clear hvs hrow hp hfl
  go_enter Tryd.func47, Tryd.ntmps47
  go_wp2_with fail
  go_loopw [3, 11] (fun v3 i wr => ∃ k : Nat, k ≤ bs.length ∧ i = .int .i64 k ∧ v3 = .int .i64 (((bs.take k).flatten.length : Nat) : Int) ∧ Below w.heap.size w wr) (fun _ i _ => bs.length - (intOf i).toNat)
  case atStart => exact ⟨0, by omega, rfl, by simp, Below.refl _ _⟩
  case round =>
    obtain ⟨k, hk, rfl, rfl, hBl⟩ := hrel
    have hfk := HFL.out k
    by_cases hlt : k < bs.length
    · obtain ⟨s, rfl, hs1, hs2⟩ := HVS.out (by omega)
      obtain ⟨u, hu⟩ : ∃ u, vs[k]? = some u := ⟨_, List.getElem?_eq_getElem (by omega)⟩
      obtain ⟨bl, hbl⟩ : ∃ bl, bs[k]? = some bl := ⟨_, List.getElem?_eq_getElem hlt⟩
      have hb1 := (HP.out bl (List.mem_of_getElem? hbl)).2
      obtain ⟨ua, ucap, hue⟩ := (HROW.out k u bl hu hbl).len
      rw [toI_length] at hue
      subst hue
      have c0 := (hBl.cell (p := ⟨s, k, none⟩) hs1).trans (hs2 k _ hu)
      have HE : Hid (((bs.take (k + 1)).flatten.length : Int) = ((bs.take k).flatten.length : Int) + (bl.length : Int)) := by
        show _ = _
        rw [catF_take hbl, List.length_append]; simp
      have hnn : ¬ (((bs.take k).flatten.length : Int) + (bl.length : Int)) < 0 := by omega
      have hww : wrap64 (((bs.take k).flatten.length : Int) + (bl.length : Int)) = ((bs.take k).flatten.length : Int) + (bl.length : Int) := by unfold wrap64; omega
      clear hu hbl hs2
      generalize (bs.take k).flatten.length = fl at *
      go_wp2_with fail
      refine ⟨⟨k + 1, by omega, by go_num, ?_, hBl⟩, by simp [intOf]; omega⟩
      rw [HE.out]
    · obtain rfl : k = bs.length := by omega
      rw [List.take_length] at hfk ⊢
      generalize bs.flatten.length = tot at hfk ⊢
      have hG := slGrow_any tot (by omega) wr
      go_wp2_with fail
      refine hG.mono ?_
      rintro e w1 ⟨v1, rfl, ho1, hB1⟩
      have hBw : Below w.heap.size w w1 := below_step hBl hBl.size hB1
      have ho1' := owns_lo ho1 hBl.size
      have HO1 := hid_of ho1'
      clear ho1 ho1' hG hB1 hBl hfk
      go_wp2_with fail
      go_loopw [6, 27] (fun v6 i wr => ∃ k : Nat, k ≤ bs.length ∧ i = .int .i64 k ∧ Hid (wr.ownsRow w.heap.size 3 1 v6 (bs.take k).flatten.length (encN (bs.take k).flatten)) ∧ Below w.heap.size w wr) (fun _ i _ => bs.length - (intOf i).toNat)
      case atStart => exact ⟨0, by omega, rfl, HO1, hBw⟩
      case round =>
        clear HO1 hBw
        obtain ⟨k, hk, rfl, HO, hBl⟩ := hrel
        have hfk := HFL.out k
        by_cases hlt : k < bs.length
        · obtain ⟨s, rfl, hs1, hs2⟩ := HVS.out (by omega)
          obtain ⟨u, hu⟩ : ∃ u, vs[k]? = some u := ⟨_, List.getElem?_eq_getElem (by omega)⟩
          obtain ⟨bl, hbl⟩ : ∃ bl, bs[k]? = some bl := ⟨_, List.getElem?_eq_getElem hlt⟩
          have hb1 := HP.out bl (List.mem_of_getElem? hbl)
          obtain ⟨s2, o2, ucap, hue, hs3, hs4⟩ := (HROW.out k u bl hu hbl).some (by rw [toI_length]; omega)
          rw [toI_length] at hue
          subst hue
          have c0 := (hBl.cell (p := ⟨s, k, none⟩) hs1).trans (hs2 k _ hu)
          have HNEW : Hid (∀ (j : Nat) (y : Value), (encN bl)[j]? = some y → wr.cell? ((⟨s2, o2, none⟩ : Addr).add j) = some y) := fun j y hy => by
            rw [Addr.add_lit]
            rw [encN, List.getElem?_map] at hy
            cases hb : bl[j]? with
            | none => rw [hb] at hy; cases hy
            | some z =>
              rw [hb] at hy
              injection hy with hy
              subst hy
              exact (hBl.cell (p := ⟨s2, o2 + j, none⟩) hs3).trans (hs4 j _ (toI_at hb))
          have HE : Hid ((bs.take (k + 1)).flatten = (bs.take k).flatten ++ bl) := catF_take hbl
          have HEN : Hid (encN ((bs.take k).flatten ++ bl) = encN (bs.take k).flatten ++ encN bl) := by show _ = _; simp [encN]
          have HLE : Hid ((encN bl).length = bl.length * 1 ∧ ∀ y ∈ encN bl, y.oneCell' = true) := ⟨by simp [encN], fun y hy => by obtain ⟨z, _, rfl⟩ := List.mem_map.1 hy; rfl⟩
          have zB := hBl.size
          clear hu hbl hs2 hs4
          go_wp2_with (at_builtin; refine wpList_append_own_at _ rfl _ _ 29 rfl w.heap.size 3 i0 (.int .i64 0) 1 8 Tryd.underlying29 hi hz0 hz1 hz2 rfl (by decide) u6 (bs.take k).flatten.length (encN (bs.take k).flatten) rfl HO.out ⟨s2, o2, none⟩ bl.length ucap (encN bl) rfl HLE.out.1 HNEW.out HLE.out.2 (by unfold maxLen; omega) (by omega) (by omega) ?_; intro v' w5 hown' hgrow _ hat)
          refine ⟨⟨k + 1, by omega, by go_num, ?_, ?_⟩, by simp [intOf]; omega⟩
          · show World.ownsRow _ _ _ _ _ _ _
            rw [HE.out, HEN.out, List.length_append]; exact hown'
          · exact hBl.grown hgrow hBl.size (fun k e => owns_ge HO.out e)
        · obtain rfl : k = bs.length := by omega
          have ho := HO.out
          rw [List.take_length] at ho
          go_wp2_with fail
          go_ret
          exact ⟨_, rfl, ho, hBl⟩
end Go.Proofs.YtmmgdeoballhpaaDoor
/- A range over an iterator whose body goes on, with memory of its own beside the iterator's. -/
namespace Go.Proofs.YtmmgdeoballhpaaDoor
open Go.RowKit Go.Shelf Sx
attribute [local go_sem] Oper.semAt_some

/-- The blocks of F are as they were. -/
structure KeptF (F : Nat → Prop) (W W' : World) : Prop where
  os : W'.os = W.os
  tape : W'.tape = W.tape
  output : W'.output = W.output
  size : W.heap.size ≤ W'.heap.size
  block : ∀ b, F b → W'.heap[b]? = W.heap[b]?
theorem KeptF.refl (F : Nat → Prop) (W : World) : KeptF F W W := ⟨rfl, rfl, rfl, Nat.le_refl _, fun _ _ => rfl⟩
theorem KeptF.trans {F : Nat → Prop} {A B C : World} (h : KeptF F A B) (k : KeptF F B C) : KeptF F A C :=
  ⟨k.os.trans h.os, k.tape.trans h.tape, k.output.trans h.output, Nat.le_trans h.size k.size, fun b hb => (k.block b hb).trans (h.block b hb)⟩
theorem KeptF.mono {F F' : Nat → Prop} {A B : World} (h : KeptF F A B) (hF : ∀ b, F' b → F b) : KeptF F' A B := ⟨h.os, h.tape, h.output, h.size, fun b hb => h.block b (hF b hb)⟩
theorem KeptF.of_below {F : Nat → Prop} {A B : World} {N : Nat} (h : Below N A B) (hF : ∀ b, F b → b < N) : KeptF F A B := ⟨h.os, h.tape, h.output, h.size, fun b hb => h.block b (hF b hb)⟩
theorem KeptF.putObj (W : World) (l : Nat) (o : Obj) : KeptF (fun b => b ≠ l) W (W.putObj l o) := ⟨rfl, rfl, rfl, by simp [World.putObj], fun b hb => World.putObj_heap_other (by first | exact hb | exact fun e => hb e.symm)⟩

/-- A range over a function that hands on values of its own making; the body has blocks of its own (foot), goes on, or returns. -/
theorem rf_many {P : Program} {n : Nat} {g : Operand} {ps : Array Tmp} {assign body : Code} {Q : Exit → Act → World → Prop} {a : Act} {w : World} (hn : 1 ≤ n) {gf : Nat} {lb : Array Value}
    (hg : a.eval g = .func (.func gf) #[] lb) (eg : ∀ args w, (callFunc gf args).run P w = .ok (.enter gf args) w) (hps : ps.size = 1)
    {σ ω : Type} (s0 : σ) (foot : σ → Nat → Prop) (J : σ → World → Prop) (G : σ → ω → Value → World → Prop) (Nx : σ → ω → σ → Prop) (Bt : World → Prop) (Dn : σ → Prop)
    (hfoot : ∀ s b, foot s b → b ≠ w.heap.size ∧ b ≠ w.heap.size + 1)
    (hJf : ∀ s W k, J s W → foot s k → k < W.heap.size)
    (hJ : ∀ s W W', J s W → KeptF (fun b => foot s b ∨ b < w.heap.size) W W' → J s W')
    (hG : ∀ s o v W W', G s o v W → KeptF (fun b => b ≠ w.heap.size + 1) W W' → G s o v W')
    (hBt : ∀ W W', Bt W → KeptF (fun b => b ≠ w.heap.size + 1) W W' → Bt W')
    (h0 : J s0 w) (hf0 : ∀ b, foot s0 b → b < w.heap.size)
    (hgen : ∀ (W1 : World) (l : Nat) (Y : σ → World → Prop) (Ye : World → Prop), l = w.heap.size + 1 → Below w.heap.size w W1 → W1.heap.size = w.heap.size + 2 → Y s0 W1 → (∀ s W k, Y s W → foot s k → k < W.heap.size) →
      (∀ s W W', Y s W → KeptF (fun b => foot s b ∨ b < w.heap.size + 2) W W' → Y s W') →
      (∀ s o v W', Y s W' → G s o v W' → YieldAt Fence.wide (n - 1 - 1) P l #[v] W' fun e W2 =>
        (e = .returned (.bool true) ∧ ∃ s', Nx s o s' ∧ Y s' W2 ∧ (∀ b, foot s' b → foot s b ∨ v.ownBlock = some b ∨ W'.heap.size ≤ b) ∧ KeptF (fun b => b < W'.heap.size ∧ ¬ foot s b ∧ v.ownBlock ≠ some b ∧ b ≠ l) W' W2) ∨ (e = .returned (.bool false) ∧ Ye W2)) →
      CallsIn Fence.wide (n - 1) P gf (#[.func (.yield l) #[] #[]] ++ lb) W1 fun e W' => (∃ r, e = .returned r) ∧ ((∃ s, Y s W' ∧ Dn s) ∨ Ye W'))
    (a₁ : Value → Act)
    (hassign : ∀ (l : Nat) (v : Value) (W : World) (K : Act → World → Prop), K (a₁ v) W → assign.wpIn (Fence.wide.inRound l) (n - 1 - 1) P (Exit.then K (fun _ _ _ => False)) { tmps := (ps.zip #[v]).foldl (fun t (p, v) => t.setIfInBounds p v) a.tmps, defers := [] } W)
    (hbody : ∀ (l : Nat) (s : σ) (o : ω) (v : Value) (W : World), w.heap.size + 2 ≤ W.heap.size → J s W → G s o v W → body.wpIn (Fence.wide.inRound l) (n - 1 - 1) P (fun e _ W3 => KeepsOthers W W3 ∧
      ((e = .normal ∧ ∃ s', Nx s o s' ∧ J s' W3 ∧ (∀ b, foot s' b → foot s b ∨ v.ownBlock = some b ∨ W.heap.size ≤ b) ∧ KeptF (fun b => b < W.heap.size ∧ ¬ foot s b ∧ v.ownBlock ≠ some b) W W3) ∨ (e = .ret ∧ Bt W3))) (a₁ v) W)
    (hdone : ∀ (s : σ) (D : Nat) (W : World), Dn s → w.heap.size ≤ D → J s W → W.heap[D]? = some (.deferred (some [])) → Q .normal { a with defers := { target := .collected D, args := #[] } :: a.defers } W)
    (hstop : ∀ (D : Nat) (W : World), w.heap.size ≤ D → Bt W → W.heap[D]? = some (.deferred (some [])) → Code.ret.wpIn Fence.wide n P Q { a with defers := { target := .collected D, args := #[] } :: a.defers } W) :
    (Code.rangeFunc g ps assign body).wpIn Fence.wide n P Q a w := by
  refine wpIn_rangeFunc fun fn hfn => ?_
  obtain ⟨rc, hrc⟩ : ∃ rc : LoopState → Option Code → Loop, rc = fun st pe => { state := st, pending := pe, fn, tmps := a.tmps, params := ps, assign, body, defers := w.heap.size } := ⟨_, rfl⟩
  obtain ⟨W1, hW1⟩ : ∃ W1, (w.alloc (.deferred (some []))).alloc (.loop (rc .ready none)) = W1 := ⟨_, rfl⟩
  have hL1 : W1.heap[w.heap.size + 1]? = some (.loop (rc .ready none)) := by
    have := World.alloc_heap_new (w.alloc (.deferred (some []))) (.loop (rc .ready none))
    rwa [World.size_alloc, hW1] at this
  have hD1 : W1.heap[w.heap.size]? = some (.deferred (some [])) := by
    rw [← hW1]
    exact (Below.heap_alloc _ _ _ (by simp)).trans (World.alloc_heap_new w _)
  have hb1 : Below w.heap.size w W1 := by
    rw [← hW1]
    exact ((Below.refl _ w).alloc (Nat.le_refl _) _).alloc (by simp) _
  have hs1 : W1.heap.size = w.heap.size + 2 := by rw [← hW1]; simp
  refine ⟨w.heap.size + 1, [{ target := .collected w.heap.size, args := #[] }], W1, { target := .fn (.func gf) lb, args := #[.func (.yield (w.heap.size + 1)) #[] #[]] }, W1, gf,
    #[.func (.yield (w.heap.size + 1)) #[] #[]] ++ lb, W1, ?_, ?_, fun _ _ => trivial, ?_, fun _ => hn, ?_⟩
  · rw [← hW1, hrc]; exact run_enterLoop_outer _ _ _ _ _
  · simp only [resolve, hg]
    simp [go_sem]
  · simp [invoke, go_sem, eg]
  refine (hgen W1 (w.heap.size + 1) (fun s W => J s W ∧ w.heap.size + 2 ≤ W.heap.size ∧ W.heap[w.heap.size + 1]? = some (.loop (rc .ready none)) ∧ W.heap[w.heap.size]? = some (.deferred (some [])))
    (fun W => Bt W ∧ W.heap[w.heap.size + 1]? = some (.loop (rc .done (some .ret))) ∧ W.heap[w.heap.size]? = some (.deferred (some []))) rfl hb1 hs1 ⟨hJ _ _ _ h0 (KeptF.of_below hb1 fun b hb => hb.elim (hf0 b) id), by omega, hL1, hD1⟩ (fun s W k hy hk => hJf s W k hy.1 hk) ?_ ?_).mono ?_
  · rintro s W W' ⟨h1, h2, h3, h4⟩ hk
    exact ⟨hJ s W W' h1 (hk.mono fun b hb => hb.elim .inl fun q => .inr (by omega)), Nat.le_trans h2 hk.size, (hk.block _ (.inr (by omega))).trans h3, (hk.block _ (.inr (by omega))).trans h4⟩
  · rintro s o v W ⟨hJW, hsz, hl, hd⟩ hGv
    have hlt : w.heap.size + 1 < W.heap.size := (Array.getElem?_eq_some_iff.1 hl).1
    have hy := run_yield (P := P) (args := #[v]) hl (by rw [hrc]; simp [hps])
    rw [hrc] at hy
    refine ⟨fn, _, assign, body, hy, roundIn_of_wpIn hfn (hassign _ v W _ ⟨_, run_beginRound hl (by rw [hrc]), ?_⟩)⟩
    obtain ⟨Wb, hWb⟩ : ∃ Wb, W.putObj (w.heap.size + 1) (.loop { rc .ready none with state := .busy }) = Wb := ⟨_, rfl⟩
    have hkb : KeptF (fun b => b ≠ w.heap.size + 1) W Wb := by rw [← hWb]; exact KeptF.putObj _ _ _
    have hl2 : Wb.heap[w.heap.size + 1]? = some (.loop { rc .ready none with state := .busy }) := by rw [← hWb]; exact World.putObj_heap_same hlt
    have hd2 : Wb.heap[w.heap.size]? = some (.deferred (some [])) := (hkb.block _ (by omega)).trans hd
    have hszb : Wb.heap.size = W.heap.size := by rw [← hWb]; simp [World.putObj]
    rw [hWb]
    refine wpIn_mono (hbody _ s o v Wb (by omega) (hJ s W Wb hJW (hkb.mono fun b hb => hb.elim (fun q => (hfoot s b q).2) (fun q => by omega))) (hG s o v W Wb hGv hkb)) ?_
    rintro e a3 W3 ⟨hk3, ⟨rfl, s', hNx, hJ3, hf3, hK3⟩ | ⟨rfl, hB3⟩⟩
    · have hl3 := hk3.same _ _ hl2 rfl
      have hd3 := hk3.same _ _ hd2 rfl
      have hr := run_endRound (P := P) none hl3
      have hke := KeptF.putObj W3 (w.heap.size + 1) (.loop { ({ rc .ready none with state := .busy } : Loop) with state := if (none : Option Code).isNone then .ready else .done, pending := none })
      refine ⟨_, _, hr, .inl ⟨rfl, s', hNx, ⟨hJ s' _ _ hJ3 (hke.mono fun b hb => hb.elim (fun q => (hfoot s' b q).2) (fun q => by omega)), ?_, ?_, (hke.block _ (by omega)).trans hd3⟩, fun b hb => ?_, ?_⟩⟩
      · have := hk3.size
        exact Nat.le_trans (by omega : w.heap.size + 2 ≤ W3.heap.size) hke.size
      · rw [World.putObj_heap_same (Array.getElem?_eq_some_iff.1 hl3).1, hrc]
        rfl
      · rw [← hszb]; exact hf3 b hb
      · refine ⟨hke.os.trans (hK3.os.trans hkb.os), hke.tape.trans (hK3.tape.trans hkb.tape), hke.output.trans (hK3.output.trans hkb.output), Nat.le_trans hkb.size (Nat.le_trans hK3.size hke.size), fun b hb => ?_⟩
        exact (hke.block b hb.2.2.2).trans ((hK3.block b ⟨by omega, hb.2.1, hb.2.2.1⟩).trans (hkb.block b hb.2.2.2))
    · have hl3 := hk3.same _ _ hl2 rfl
      have hd3 := hk3.same _ _ hd2 rfl
      have hr := run_endRound (P := P) (some .ret) hl3
      have hke := KeptF.putObj W3 (w.heap.size + 1) (.loop { ({ rc .ready none with state := .busy } : Loop) with state := if (some Code.ret).isNone then .ready else .done, pending := some .ret })
      refine ⟨_, _, hr, .inr ⟨rfl, hBt _ _ hB3 hke, ?_, (hke.block _ (by omega)).trans hd3⟩⟩
      rw [World.putObj_heap_same (Array.getElem?_eq_some_iff.1 hl3).1, hrc]
      rfl
  · rintro e W2 ⟨⟨r, rfl⟩, ⟨s, ⟨hJ2, _, hl, hd⟩, hDn⟩ | ⟨hB2, hl, hd⟩⟩
    · have hke := KeptF.putObj W2 (w.heap.size + 1) (.loop { rc .ready none with state := .exhausted })
      exact ⟨none, _, by have := run_endLoop (P := P) hl (by rw [hrc]; simp); rw [hrc] at this; exact this, hdone s _ _ hDn (Nat.le_refl _) (by have := hJ s _ _ hJ2 (hke.mono fun b hb => hb.elim (fun q => (hfoot s b q).2) (fun q => by omega)); rw [hrc] at this; exact this) (by have := (hke.block _ (by omega)).trans hd; rw [hrc] at this; exact this)⟩
    · have hke := KeptF.putObj W2 (w.heap.size + 1) (.loop { rc .done (some .ret) with state := .exhausted })
      exact ⟨some .ret, _, by have := run_endLoop (P := P) hl (by rw [hrc]; simp); rw [hrc] at this; exact this, hstop _ _ (Nat.le_refl _) (by have := hBt _ _ hB2 hke; rw [hrc] at this; exact this) (by have := (hke.block _ (by omega)).trans hd; rw [hrc] at this; exact this)⟩
end Go.Proofs.YtmmgdeoballhpaaDoor
/- Package order's line: take. -/
namespace Go.Proofs.YtmmgdeoballhpaaDoor
open Go.RowKit Go.Shelf Sx

theorem owns_pop {w : World} {base : Nat} {e : TypeId} {v : Value} {n : Nat} {xs : List Value} {x : Value} (h : w.ownsRow base e 1 v (n + 1) (xs ++ [x])) :
    ∃ g cap, v = .slice (some ⟨g, 0, none⟩) (n + 1) cap ∧ base ≤ g ∧ g < w.heap.size ∧ n < cap ∧ w.cell? ⟨g, n, none⟩ = some x ∧ w.ownsRow base e 1 (.slice (some ⟨g, 0, none⟩) n cap) n xs := by
  obtain ⟨h1, h2⟩ := h
  have hx : xs.length = n := by simpa using h1
  rcases h2 with ⟨_, e0⟩ | ⟨g, cap, cur, rfl, hb, hg, hc, hm, hs, ht⟩
  · omega
  · refine ⟨g, cap, rfl, hb, (Array.getElem?_eq_some_iff.1 hg).1, hc, ?_, by omega, .inr ⟨g, cap, cur, rfl, hb, hg, by omega, hm, hs, ?_⟩⟩
    · have hk : Blk w g e cur := hg
      apply hk.cell
      have : (xs ++ [x])[n]? = some x := by rw [← hx]; simp
      rw [← ht, List.getElem?_take_of_lt (by omega)] at this
      simpa using this
    · have : (cur.toList.take ((n + 1) * 1)).take n = xs := by rw [ht, ← hx]; simp
      rw [List.take_take] at this
      rw [← this]
      congr 1
      omega
set_option maxRecDepth 100000 in
set_option maxHeartbeats 4000000 in
theorem oTake_calls (N1 N0 l bh wt : Nat) (vp : Value) (pts : List Int) (vs : List Value) (beh : List (List Nat)) (wts : List Int) (p : Nat) (w : World) (h : LnP w N1 N0 l bh wt vp (pts ++ [(p : Int)]) vs beh wts) (hp : p < wts.length) (hsm : Sm 100000 wts) (hpt : pts.length ≤ 256) :
    Calls Tryd.prog 69 #[pv l] w fun e w' => e = .returned (.int .i64 p) ∧ (∃ vp', LnP w' N1 N0 l bh wt vp' pts vs beh (countF (-1) wts p (beh.getD p [])) ∧ vp'.ownBlock = vp.ownBlock) ∧ Keep2 l wt w.heap.size w w' := by
  obtain ⟨hln, hown⟩ := h
  rw [encJ_snoc, List.length_append] at hown
  obtain ⟨g, cap, rfl, hg1, hg2, hcap, c0, hown'⟩ := owns_pop hown
  have s0 := hln.st.cell (j := 0) rfl
  have f0 := hln.st.frozen 0
  have hlow := hln.low
  have hne := hln.ne
  have hN := hln.hN
  have HO := hid_of hown'
  have HL := hid_of hln
  clear hown hln hown'
  obtain ⟨m, hm⟩ : ∃ m, m = pts.length + 1 := ⟨_, rfl⟩
  have HL6 : Hid (Ln (w.setCell ⟨l, 0, none⟩ (.slice (some ⟨g, 0, none⟩) pts.length cap)) N1 N0 l bh wt (.slice (some ⟨g, 0, none⟩) pts.length cap) vs beh wts) :=
    HL.out.vp ((Keep2.refl l wt N0 w).setL (j := 0) (.slice (some ⟨g, 0, none⟩) pts.length cap)) (by have := HL.out.st.set 0 (.slice (some ⟨g, 0, none⟩) pts.length cap); simpa using this) (HL.out.wtB.setOther (by simpa using fun e => hne.2.1 e.symm) _)
  have HO6 : Hid ((w.setCell ⟨l, 0, none⟩ (.slice (some ⟨g, 0, none⟩) pts.length cap)).ownsRow N0 3 1 (.slice (some ⟨g, 0, none⟩) pts.length cap) pts.length (encJ pts)) := owns_set HO.out (a := ⟨l, 0, none⟩) (by simp; omega) _
  have HK6 : Hid (Keep2 l wt w.heap.size w (w.setCell ⟨l, 0, none⟩ (.slice (some ⟨g, 0, none⟩) pts.length cap))) := (Keep2.refl l wt w.heap.size w).setL _
  clear HL HO
  rw [← hm] at s0
  generalize hnl : pts.length = n at *
  have HNL := hid_of hnl
  clear hnl
  have n0 : (0 : Int) ≤ (n : Int) := by omega
  have n1 : (n : Int) < (m : Int) := by omega
  have n2 : (n : Int) ≤ (cap : Int) := by omega
  have n3 : (m : Int) - 1 = (n : Int) := by omega
  have HM := hid_of hm
  clear hm
  go_enter Tryd.func69, Tryd.ntmps69
  go_wp2_with fail
  refine (oCount_calls N1 N0 l bh wt _ vs beh wts p (-1) _ HL6.out hp (.inr rfl) hsm).mono ?_
  rintro e w7 ⟨⟨r, rfl⟩, hL7, hK7⟩
  go_wp2_with fail
  go_ret
  refine ⟨rfl, ⟨_, ⟨hL7, ?_⟩, rfl⟩, HK6.out.trans (hK7.mono ?_)⟩
  · rw [HNL.out]
    exact owns_keep2 HO6.out hK7 (by omega) (by omega)
  · have : (w.setCell ⟨l, 0, none⟩ (.slice (some ⟨g, 0, none⟩) n cap)).heap.size = w.heap.size := by simp [World.setCell]
    omega
set_option maxRecDepth 100000 in
set_option maxHeartbeats 4000000 in
theorem oPut2_calls (N1 N0 l bh wt : Nat) (vp : Value) (pts : List Int) (vs : List Value) (beh : List (List Nat)) (wts : List Int) (p : Nat) (w : World) (h : LnP w N1 N0 l bh wt vp pts vs beh wts) (hp : p < wts.length) (hsm : Sm 100000 wts) (hpt : pts.length ≤ 256) :
    Calls Tryd.prog 67 #[pv l, .int .i64 p] w fun e w' => (∃ r, e = .returned r) ∧ (∃ vp', LnP w' N1 N0 l bh wt vp' (pts ++ [(p : Int)]) vs beh (countF 1 wts p (beh.getD p [])) ∧ ∀ k, vp'.ownBlock = some k → vp.ownBlock = some k ∨ w.heap.size ≤ k) ∧ KeptF (fun k => k < w.heap.size ∧ k ≠ l ∧ k ≠ wt ∧ vp.ownBlock ≠ some k) w w' := by
  obtain ⟨hln, hown⟩ := h
  obtain ⟨i0, hi, hz0, hz1, hz2⟩ := info_parts Tryd.infoint
  have s0 := hln.st.cell (j := 0) rfl
  have f0 := hln.st.frozen 0
  have hlow := hln.low
  have hne := hln.ne
  have hN := hln.hN
  have HO := hid_of hown
  have HL := hid_of hln
  clear hown hln
  go_enter Tryd.func67, Tryd.ntmps67
  go_wp2_with (at_builtin; refine wpList_append_own_at _ rfl _ _ 29 rfl N0 3 i0 (.int .i64 0) 1 8 Tryd.underlying29 hi hz0 hz1 hz2 rfl (by decide) vp pts.length (encJ pts) rfl (HO.out.alloc _) ⟨_, 0, none⟩ 1 1 [.int .i64 p] rfl rfl (by intro k u hk; match k, hk with | 0, hk => simp at hk; subst hk; exact (Blk.new _ _ _).cell rfl) (by simp [Value.oneCell']) (by unfold maxLen; omega) (by omega) (by simp; omega) ?_; intro v' w5 hown' hgrow _ hat; obtain ⟨g', cap', rfl, hg1, hg2⟩ := owns_form hown'; have hB5 := HL.out.put5 HO.out hgrow; have hG5 := hid_of hgrow; have HAT := hid_of hat; have hL5 := HL.out.keep hB5; have c5 := hL5.st.cell (j := 0) rfl; have e5 := hL5.st.frozen 0)
  have hL6 := hL5.vp (vp' := .slice (some ⟨g', 0, none⟩) (pts.length + 1) cap') ((Keep2.refl l wt N0 w5).setL (j := 0) (.slice (some ⟨g', 0, none⟩) (pts.length + 1) cap')) (by have := hL5.st.set 0 (.slice (some ⟨g', 0, none⟩) (pts.length + 1) cap'); simpa using this) (hL5.wtB.setOther (by simpa using fun e => hne.2.1 e.symm) _)
  have hO6 := owns_set hown' (a := ⟨l, 0, none⟩) (by simp; omega) (.slice (some ⟨g', 0, none⟩) (pts.length + 1) cap')
  refine (oCount_calls N1 N0 l bh wt _ vs beh wts p 1 _ hL6 hp (.inl rfl) hsm).mono ?_
  rintro e w7 ⟨⟨r, rfl⟩, hL7, hK7⟩
  clear c5 e5 s0 f0 hL5 hL6
  go_wp2_with fail
  go_end0
  have hsz : (w5.setCell ⟨l, 0, none⟩ (.slice (some ⟨g', 0, none⟩) (pts.length + 1) cap')).heap.size = w5.heap.size := by simp [World.setCell]
  have hs5 := hG5.out.size
  simp only [World.size_alloc] at hs5
  refine ⟨⟨_, rfl⟩, ⟨_, ⟨hL7, ?_⟩, fun k hk => ?_⟩, ?_⟩
  · rw [encJ_snoc, List.length_append]
    exact owns_keep2 hO6 hK7 (by omega) (by omega)
  · rcases HAT.out with e | e
    · exact .inl (e ▸ hk)
    · rw [e] at hk
      injection hk with hk
      simp only [World.size_alloc] at hk
      exact .inr (by omega)
  · refine ⟨hK7.os.trans hB5.os, hK7.tape.trans hB5.tape, hK7.output.trans hB5.output, Nat.le_trans hB5.size (by have := hK7.size; omega), fun k hk => ?_⟩
    refine (hK7.block k (by omega) hk.2.1 hk.2.2.1).trans ((Below.heap_setCell w5 ⟨l, 0, none⟩ _ k hk.2.1).trans ?_)
    refine (hG5.out.block k (by simp; omega) (fun e => hk.2.2.2 e.symm)).trans ?_
    exact Below.heap_alloc _ _ _ hk.1
end Go.Proofs.YtmmgdeoballhpaaDoor
