/- The statements' twice. -/
import Derived.Test.YteejkhgccaagiaaDoorOrdLives
namespace Go.Proofs.YteejkhgccaagiaaDoor
open Go.RowKit Go.Shelf Sx

set_option maxRecDepth 100000 in
set_option maxHeartbeats 1000000 in
/-- twice: the first list is written over; what the second and the wanted one hold must not lie in it. -/
theorem twice_calls (va vb vw : Value) (la lb lw : List Int) (base : Nat) (w : World) (ha : w.ownsRow base 3 1 va la.length (encJ la)) (hbase : base ≤ w.heap.size)
    (hb : ∀ w', (∀ k, k < w.heap.size → some k ≠ va.ownBlock → w'.heap[k]? = w.heap[k]?) → w.heap.size ≤ w'.heap.size → IntsR w' vb lb ∧ IntsR w' vw lw) (hm : la.length ≤ 65536) (hm2 : lb.length ≤ 65536) :
    Calls Tryd.prog 26 #[va, vb, vw] w fun e w' => e = .returned (.bool (la == lw && lb == lw)) ∧ Below base w w' := by
  have hIA := owns_intsR ha
  obtain ⟨hIb, hIw⟩ := hb w (fun _ _ _ => rfl) (Nat.le_refl _)
  have h1 := ints2_calls va vw la lw w hIA hIw (by omega)
  have HB := hid_of hb
  obtain ⟨pa, ca, hva⟩ := owns_len ha
  subst hva
  have HA := hid_of ha
  clear hIA hIb hIw hb ha
  generalize hq : (la == lw) = q at *
  clear hq
  go_enter Tryd.func26, Tryd.ntmps26
  go_wp2_with fail
  refine h1.mono ?_
  rintro e w1 ⟨rfl, hB1⟩
  have HA1 := hid_of (owns_below' HA.out hB1)
  clear h1
  go_wp2_with fail
  go_loopw [8] (fun i wr => ∃ (k : Nat) (xs : List Value), k ≤ la.length ∧ i = .int .i64 k ∧ Hid (wr.ownsRow base 3 1 (.slice pa la.length ca) la.length xs ∧ ∀ u ∈ xs, ∃ z, u = .int .i64 z) ∧ Hid (∀ k, k < w.heap.size → some k ≠ (Value.slice pa la.length ca).ownBlock → wr.heap[k]? = w.heap[k]?) ∧ w.heap.size ≤ wr.heap.size ∧ Below base w wr) (fun i _ => la.length - (intOf i).toNat)
  case atStart => exact ⟨0, _, by omega, rfl, ⟨HA1.out, fun u hu => by obtain ⟨z, _, rfl⟩ := List.mem_map.1 hu; exact ⟨z, rfl⟩⟩, fun k hk _ => hB1.block k hk, hB1.size, hB1.mono hbase⟩
  case round =>
    clear HA1 hB1
    obtain ⟨k, xs, hk, rfl, HO, HK, hz, hB⟩ := hrel
    by_cases hlt : k < la.length
    · obtain ⟨ho, hxs⟩ := HO.out
      rcases hf : ho.2 with ⟨_, e⟩ | ⟨g, cap, cur, e, hg, hcur, _⟩
      · omega
      · injection e with e _ e3
        subst e
        subst e3
        have hl : xs.length = la.length := by have := ho.1; omega
        obtain ⟨x, hx⟩ := hxs (xs[k]'(by omega)) (List.getElem_mem _)
        have ck := ho.cellAt k (by omega)
        rw [List.getElem?_eq_getElem (by omega), hx] at ck
        have fk := ho.frozenAt k
        have bk0 : (0 : Int) ≤ ((k : Nat) : Int) := by omega
        have bk1 : ((k : Nat) : Int) < ((la.length : Nat) : Int) := by omega
        have HO2 := hid_of (ho.stored k (.int .i64 (-5)))
        have HXS := hid_of hxs
        clear ho hxs hf hcur hx HO
        go_wp2_with fail
        refine ⟨⟨k + 1, xs.set k (.int .i64 (-5)), by omega, by go_num, ⟨HO2.out.1, fun u hu => ?_⟩, fun i hi hne => ?_, by simpa [World.setCell] using hz, hB.setCell (by simpa using hg) _⟩, by simp [intOf]; omega⟩
        · rcases List.mem_or_eq_of_mem_set hu with hu | rfl
          · exact HXS.out u hu
          · exact ⟨_, rfl⟩
        · refine (Below.heap_setCell _ _ _ _ ?_).trans (HK.out i hi hne)
          intro e
          have e : i = g := e
          exact hne (by simp [Value.ownBlock, e])
    · obtain rfl : k = la.length := by omega
      cases q
      · go_wp2_with fail
        go_ret
        exact ⟨rfl, hB⟩
      · obtain ⟨hIb, hIw⟩ := HB.out wr HK.out hz
        have h2 := ints2_calls vb vw lb lw wr hIb hIw (by omega)
        generalize hq2 : (lb == lw) = q2 at h2
        have HQ2 := hid_of hq2
        clear hq2
        go_wp2_with fail
        refine h2.mono ?_
        rintro e w2 ⟨rfl, hB2⟩
        go_wp2_with fail
        go_ret
        exact ⟨by rw [Bool.true_and, HQ2.out]; rfl, hB.trans (hB2.mono (by omega))⟩
end Go.Proofs.YteejkhgccaagiaaDoor
