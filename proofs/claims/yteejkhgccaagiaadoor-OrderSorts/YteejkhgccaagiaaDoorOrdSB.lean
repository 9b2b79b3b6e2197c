/- Package order's sortBlocks. -/
import Derived.Test.YteejkhgccaagiaaDoorOrdBetw
namespace Go.Proofs.YteejkhgccaagiaaDoor
open Go.RowKit Go.Shelf Sx

theorem srt_lt (n : Nat) (ps : List (Nat × Nat)) : ∀ (f : Nat) (pts : List Nat), (∀ p ∈ pts, p < n) → ∀ p ∈ srt n ps f pts, p < n
  | 0, pts, h => h
  | f + 1, pts, h => by
    rw [srt]
    split
    · rename_i hz
      refine srt_lt n ps f _ (fun p hp => ?_)
      rcases List.mem_append.1 hp with hp | hp
      · exact h p hp
      · obtain ⟨q, h1, h2, _⟩ := fz_range hz
        rw [wAll_length] at h2
        simp [h1] at hp
        omega
    · exact h
theorem sortOf_lt (L : List Nat) : ∀ p ∈ sortOf L, p < L.length := srt_lt _ _ _ _ (by simp)
theorem btK_length (B : List Int) (m : Nat) (ps : List (Nat × Nat)) : (btK B m ps).length = m := by
  unfold btK
  suffices h : ∀ (l : List (Nat × Nat)) (A : List Nat), (l.foldl (fun A x => if B.getD x.1 0 = B.getD x.2 0 then A else putP A (B.getD x.1 0) (B.getD x.2 0) true) A).length = A.length by
    rw [h, List.length_replicate]
  intro l
  induction l with
  | nil => intro A; rfl
  | cons x l ih =>
    intro A
    rw [List.foldl_cons, ih]
    split
    · rfl
    · rw [putP_length]
theorem betw_length (L : List Nat) (bs : List (List Nat)) : (betw L bs).length = bs.length := btK_length _ _ _
def sbOf (L : List Nat) (bs : List (List Nat)) : List (List Nat) := (sortOf (betw L bs)).map (fun i => bs.getD i [])
/-- What sortBlocks answers. -/
def SBAns (w' : World) (L : List Nat) (bs : List (List Nat)) (v : Value) (code : Int) : Prop :=
  ((sortOf (betw L bs)).length = bs.length → code = 0 ∧ BlocksR w' v (sbOf L bs)) ∧ (¬ (sortOf (betw L bs)).length = bs.length → code = 3)
theorem owns_cells {w : World} {base : Nat} {e : TypeId} {v : Value} {n : Nat} {xs : List Value} (h : w.ownsRow base e 1 v n xs) (hx : xs.length = n) (h0 : 0 < n) : ∃ s cap, v = .slice (some ⟨s, 0, none⟩) n cap ∧ s < w.heap.size ∧ ∀ (i : Nat) (u : Value), xs[i]? = some u → w.cell? ⟨s, i, none⟩ = some u := by
  rcases h.2 with ⟨_, e2⟩ | ⟨g, cap, cur, ev, _, hb, _, _, _, ht⟩
  · omega
  · refine ⟨g, cap, ev, (Array.getElem?_eq_some_iff.1 hb).1, fun i u hu => ?_⟩
    have hk : Blk w g e cur := hb
    apply hk.cell
    have hi : i < xs.length := (List.getElem?_eq_some_iff.1 hu).1
    rw [← ht, List.getElem?_take_of_lt (by omega)] at hu
    simpa using hu
set_option maxRecDepth 100000 in
set_option maxHeartbeats 8000000 in
theorem oSortB_calls (b c : Nat) (L : List Nat) (v : Value) (bs : List (List Nat)) (w : World) (h : IsRel w b c L) (hT : Tab w) (hv : BlocksR w v bs) (hm : bs.length ≤ 256) (hp : ∀ bl ∈ bs, bl.length ≤ 256 ∧ ∀ p ∈ bl, p < L.length) :
    Calls Tryd.prog 39 #[pv b, v] w fun e w' => ∃ v' code, e = .returned (.tuple #[v', .int .i64 code]) ∧ SBAns w' L bs v' code ∧ Below w.heap.size w w' := by
  have hbt := oBetween_calls b c L v bs w h hT hv hm hp
  obtain ⟨i0, hi, hz0, hz1, hz2⟩ := info_parts Tryd.infoints
  go_enter Tryd.func39, Tryd.ntmps39
  go_wp2_with fail
  refine hbt.mono ?_
  rintro e w1 ⟨b2, c2, rfl, hM⟩
  go_wp2_with fail
  refine (oSort_calls b2 c2 _ w1 hM.rel (hT.step hM.below)).mono ?_
  rintro e w2 ⟨v2, code, rfl, ⟨hA1, hA2⟩, hB2⟩
  rw [betw_length] at hA1 hA2
  have hBw : Below w.heap.size w w2 := below_step hM.below hM.below.size hB2
  clear hbt
  by_cases hX : (sortOf (betw L bs)).length = bs.length
  · obtain ⟨rfl, ho⟩ := hA1 hX
    have hso := sortOf_lt (betw L bs)
    rw [betw_length] at hso
    have hIR : IntsR w2 v2 (toI (sortOf (betw L bs))) := by
      have : w2.ownsRow w1.heap.size 3 1 v2 (toI (sortOf (betw L bs))).length (encJ (toI (sortOf (betw L bs)))) := by
        rw [toI_length, hX, show encJ (toI (sortOf (betw L bs))) = encN (sortOf (betw L bs)) from by simp [encJ, toI, encN]]
        exact ho
      exact owns_intsR this
    have HANS : Hid (∀ w' v', BlocksR w' v' (sbOf L bs) → SBAns w' L bs v' 0) := fun w' v' hb => ⟨fun _ => ⟨rfl, hb⟩, fun e => absurd hX e⟩
    have HSB : Hid (sbOf L bs = (sortOf (betw L bs)).map (fun i => bs.getD i [])) := rfl
    obtain ⟨p, cap, rfl, vs, hvl, hvs, hrow⟩ := hv.below hBw
    obtain ⟨p2, cap2, rfl, hq⟩ : ∃ a cap, v2 = .slice a (sortOf (betw L bs)).length cap ∧ (0 < (sortOf (betw L bs)).length → ∃ s o, a = some ⟨s, o, none⟩ ∧ s < w2.heap.size ∧ ∀ (i x : Nat), (sortOf (betw L bs))[i]? = some x → w2.cell? ⟨s, o + i, none⟩ = some (.int .i64 x)) := by
      rcases hIR with ⟨a, cap, e, e2⟩ | ⟨s, o, cap, e, h1, h2⟩
      · have : (sortOf (betw L bs)).length = 0 := by have := congrArg List.length e2; simpa [toI] using this
        exact ⟨a, cap, by rw [this]; exact e, fun h0 => by omega⟩
      · exact ⟨_, cap, by rw [toI_length] at e; exact e, fun _ => ⟨s, o, rfl, h1, fun i x hx => h2 i _ (toI_at hx)⟩⟩
    have hol : (sortOf (betw L bs)).length ≤ 256 := by omega
    have HX := hid_of hX
    have HQ := hid_of hq
    have HSO := hid_of hso
    have HVS := hid_of hvs
    have HROW := hid_of hrow
    clear hA1 hA2 ho hIR hq hX hso hvs hrow
    generalize sortOf (betw L bs) = od at *
    generalize sbOf L bs = sb at *
    go_wp2_with fail
    go_loopw [8, 20] (fun v8 i wr => ∃ k : Nat, k ≤ od.length ∧ i = .int .i64 k ∧ Hid (wr.ownsRow w2.heap.size 29 1 v8 k ((od.take k).map (fun i => vs.getD i (.slice none 0 0)))) ∧ Below w2.heap.size w2 wr) (fun _ i _ => od.length - (intOf i).toNat)
    case atStart => exact ⟨0, by omega, rfl, World.ownsRow_nil _ _ _ _, Below.refl _ _⟩
    case round =>
      obtain ⟨k, hk, rfl, HO, hBl⟩ := hrel
      by_cases hlt : k < od.length
      · obtain ⟨s2, o2, rfl, hs3, hs4⟩ := HQ.out (by omega)
        obtain ⟨j, hj⟩ : ∃ j, od[k]? = some j := ⟨_, List.getElem?_eq_getElem hlt⟩
        have hjn := HSO.out j (List.mem_of_getElem? hj)
        obtain ⟨s, rfl, hs1, hs2⟩ := HVS.out (by omega)
        obtain ⟨u, hu⟩ : ∃ u, vs[j]? = some u := ⟨_, List.getElem?_eq_getElem (by omega)⟩
        obtain ⟨bl, hbl⟩ : ∃ bl, bs[j]? = some bl := ⟨_, List.getElem?_eq_getElem hjn⟩
        obtain ⟨ua, ucap, rfl⟩ := (HROW.out j u bl hu hbl).len
        have c0 := (hBl.cell (p := ⟨s2, o2 + k, none⟩) hs3).trans (hs4 k j hj)
        have c1 := (hBl.cell (p := ⟨s, j, none⟩) hs1).trans (hs2 j _ hu)
        have HE : Hid ((od.take (k + 1)).map (fun i => vs.getD i (.slice none 0 0)) = (od.take k).map (fun i => vs.getD i (.slice none 0 0)) ++ [.slice ua (toI bl).length ucap]) := by
          show _ = _
          rw [List.take_add_one, hj, List.map_append]
          simp [List.getD, hu]
        have j0 : (0 : Int) ≤ (j : Int) := by omega
        have j1 : (j : Int) < (bs.length : Int) := by omega
        have zB := hBl.size
        clear hj hu hbl hs2 hs4
        generalize (toI bl).length = ul at *
        generalize (od.take k).map (fun i => vs.getD i (.slice none 0 0)) = xs at *
        go_wp2_with (at_builtin; refine wpList_append_own_at _ rfl _ _ 25 rfl w2.heap.size 29 i0 (.slice none 0 0) 1 24 Tryd.underlying25 hi hz0 hz1 hz2 rfl (by decide) u8 k xs rfl (HO.out.alloc _) ⟨_, 0, none⟩ 1 1 [.slice ua ul ucap] rfl rfl (by intro k u hk; match k, hk with | 0, hk => simp at hk; subst hk; exact (Blk.new _ _ _).cell rfl) (by simp [Value.oneCell']) (by unfold maxLen; omega) (by omega) (by simp; omega) ?_; intro v' w5 hown' hgrow _ hat)
        refine ⟨⟨k + 1, by omega, by go_num, ?_, ?_⟩, by simp [intOf]; omega⟩
        · rw [HE.out]; exact hown'
        · exact (hBl.alloc hBl.size _).grown hgrow (by simp; omega) (fun k e => owns_ge HO.out e)
      · obtain rfl : k = od.length := by omega
        have ho1 := HO.out
        rw [List.take_length] at ho1
        obtain ⟨a8, c8, hv8⟩ := owns_len ho1
        go_wp2_with fail
        go_ret2
        refine ⟨u8, 0, rfl, HANS.out _ _ ?_, below_step hBw hBw.size hBl⟩
        rw [HSB.out]
        refine ⟨a8, c8, by rw [List.length_map]; exact hv8, od.map (fun i => vs.getD i (.slice none 0 0)), by simp, fun h0 => ?_, fun i u bl hu hbl => ?_⟩
        · rw [List.length_map] at h0
          obtain ⟨s, cap', e1, h1, h2⟩ := owns_cells ho1 (by simp) h0
          rw [hv8] at e1
          injection e1 with e1 _ _
          exact ⟨s, e1, h1, h2⟩
        · rw [List.getElem?_map] at hu hbl
          cases ho : od[i]? with
          | none => rw [ho] at hu; cases hu
          | some j =>
            rw [ho] at hu hbl
            have hjn := HSO.out j (List.mem_of_getElem? ho)
            simp at hu hbl
            have e1 : vs[j]? = some u := by rw [← hu]; rw [List.getElem?_eq_getElem (by omega)]; simp
            have e2 : bs[j]? = some bl := by rw [← hbl]; rw [List.getElem?_eq_getElem hjn]; simp
            exact (HROW.out j u bl e1 e2).below hBl
  · obtain ⟨rfl, rfl⟩ := hA2 hX
    have HANS : Hid (∀ w' v', SBAns w' L bs v' 3) := fun w' v' => ⟨fun e => absurd e hX, fun _ => rfl⟩
    clear hA1 hA2
    go_wp2_with fail
    go_loopw [8, 20] (fun v8 i wr => i = .int .i64 0 ∧ Below w2.heap.size w2 wr) (fun _ _ _ => 0)
    case atStart => exact ⟨rfl, Below.refl _ _⟩
    case round =>
      obtain ⟨rfl, hBl⟩ := hrel
      go_wp2_with fail
      go_ret2
      exact ⟨_, 3, rfl, HANS.out _ _, below_step hBw hBw.size hBl⟩
end Go.Proofs.YteejkhgccaagiaaDoor
