/- slices.Grow and slices.Concat at lists of ints. -/
import Derived.Test.YteejkhgccaagiaaDoorOrdSB
namespace Go.Proofs.YteejkhgccaagiaaDoor
open Go.RowKit Go.Shelf Sx

set_option maxRecDepth 100000 in
set_option maxHeartbeats 2000000 in
theorem slGrow_calls (n : Nat) (h0 : 0 < n) (hn : n ≤ 65536) (w : World) :
    Calls Tryd.prog 84 #[.slice none 0 0, .int .i64 n] w fun e w' => ∃ v, e = .returned v ∧ w'.ownsRow w.heap.size 3 1 v 0 [] ∧ Below w.heap.size w w' := by
  have h1 : (0 : Int) < (n : Int) := by omega
  have h2 : ¬ (n : Int) < 0 := by omega
  have hb8 : Tryd.t3.bytes = 8 := by kernel_rfl
  have hnc : Builtin.nextslicecap n 0 = n := by unfold Builtin.nextslicecap; rw [if_pos (by omega)]
  have h3 : ¬ (281474976710656 : Int) < (n : Int) * ((Tryd.t3.bytes : Nat) : Int) := by rw [hb8]; omega
  have h3' : (n : Int) * ((Tryd.t3.bytes : Nat) : Int) ≤ 281474976710656 := by rw [hb8]; omega
  have h4 : ¬ 281474976710656 < Builtin.nextslicecap n 0 * Tryd.t3.bytes := by rw [hnc, hb8]; omega
  have h5 : (n : Int) ≤ 9223372036854775807 := by omega
  have h6 : ¬ n = 0 := by omega
  have h7 : (0 : Int) ≤ (n : Int) := by omega
  clear hb8 hnc h2
  go_enter Tryd.func84, Tryd.ntmps84
  go_wp2_with fail
  go_ret
  refine ⟨_, rfl, ?_, ((Below.refl _ _).alloc (Nat.le_refl _) _).drew⟩
  have hC : n ≤ (Question.appendCap n 0 3).cut (w.tape w.drawn (Question.appendCap n 0 3)) ∧ (Question.appendCap n 0 3).cut (w.tape w.drawn (Question.appendCap n 0 3)) ≤ maxLen := by
    have hlt := Nat.mod_lt (w.tape w.drawn (.appendCap n 0 3)) (show 0 < 2 ^ 63 - n by omega)
    simp only [Question.cut, maxLen]
    omega
  generalize (Question.appendCap n 0 3).cut (w.tape w.drawn (Question.appendCap n 0 3)) = C at *
  refine ⟨rfl, .inr ⟨w.heap.size, C, _, rfl, Nat.le_refl _, (show (w.alloc _).heap[w.heap.size]? = _ from World.alloc_heap_new w _), by omega, hC.2, ?_, by simp⟩⟩
  simp [Builtin.zeroCells]
  omega
set_option maxRecDepth 100000 in
theorem slGrow_0 (w : World) : Calls Tryd.prog 84 #[.slice none 0 0, .int .i64 0] w fun e w' => e = .returned (.slice none 0 0) ∧ Below w.heap.size w w' := by
  go_enter Tryd.func84, Tryd.ntmps84
  go_wp2_with fail
  go_ret
  exact ⟨rfl, Below.refl _ _⟩
theorem slGrow_any (n : Nat) (hn : n ≤ 65536) (w : World) :
    Calls Tryd.prog 84 #[.slice none 0 0, .int .i64 n] w fun e w' => ∃ v, e = .returned v ∧ w'.ownsRow w.heap.size 3 1 v 0 [] ∧ Below w.heap.size w w' := by
  by_cases h0 : n = 0
  · subst h0
    refine (slGrow_0 w).mono ?_
    rintro e w' ⟨rfl, hB⟩
    exact ⟨_, rfl, World.ownsRow_nil _ _ _ _, hB⟩
  · exact slGrow_calls n (by omega) hn w
theorem catF_take {bs : List (List Nat)} {k : Nat} {bl : List Nat} (h : bs[k]? = some bl) : (bs.take (k + 1)).flatten = (bs.take k).flatten ++ bl := by
  rw [List.take_add_one, h]
  simp
theorem flat_len (bs : List (List Nat)) (h : ∀ bl ∈ bs, bl.length ≤ 256) : ∀ k, (bs.take k).flatten.length ≤ 256 * k := by
  intro k
  induction k with
  | zero => simp
  | succ k ih =>
    by_cases hk : k < bs.length
    · obtain ⟨bl, hbl⟩ : ∃ bl, bs[k]? = some bl := ⟨_, List.getElem?_eq_getElem hk⟩
      rw [catF_take hbl, List.length_append]
      have := h bl (List.mem_of_getElem? hbl)
      omega
    · rw [List.take_of_length_le (by omega)]
      rw [List.take_of_length_le (by omega)] at ih
      omega
set_option maxRecDepth 100000 in
set_option maxHeartbeats 1000000 in
theorem slConcat_calls (v : Value) (bs : List (List Nat)) (w : World) (hv : BlocksR w v bs) (hm : bs.length ≤ 256) (hp : ∀ bl ∈ bs, 0 < bl.length ∧ bl.length ≤ 256) :
    Calls Tryd.prog 47 #[v] w fun e w' => ∃ v', e = .returned v' ∧ w'.ownsRow w.heap.size 3 1 v' bs.flatten.length (encN bs.flatten) ∧ Below w.heap.size w w' := by
  obtain ⟨p, cap, rfl, vs, hvl, hvs, hrow⟩ := hv
  obtain ⟨i0, hi, hz0, hz1, hz2⟩ := info_parts Tryd.infoint
  have HVS := hid_of hvs
  have HROW := hid_of hrow
  have HP := hid_of hp
  have hfl := flat_len bs (fun bl hb => (hp bl hb).2)
  have HFL := hid_of hfl
  clear hvs hrow hp hfl
  go_enter Tryd.func47, Tryd.ntmps47
  go_wp2_with fail
  go_loopw [3, 11] (fun v3 i wr => ∃ k : Nat, k ≤ bs.length ∧ i = .int .i64 k ∧ v3 = .int .i64 (((bs.take k).flatten.length : Nat) : Int) ∧ Below w.heap.size w wr) (fun _ i _ => bs.length - (intOf i).toNat)
  case atStart => exact ⟨0, by omega, rfl, by simp, Below.refl _ _⟩
  case round =>
    obtain ⟨k, hk, rfl, rfl, hBl⟩ := hrel
    have hfk := HFL.out k
    by_cases hlt : k < bs.length
    · obtain ⟨s, rfl, hs1, hs2⟩ := HVS.out (by omega)
      obtain ⟨u, hu⟩ : ∃ u, vs[k]? = some u := ⟨_, List.getElem?_eq_getElem (by omega)⟩
      obtain ⟨bl, hbl⟩ : ∃ bl, bs[k]? = some bl := ⟨_, List.getElem?_eq_getElem hlt⟩
      have hb1 := (HP.out bl (List.mem_of_getElem? hbl)).2
      obtain ⟨ua, ucap, hue⟩ := (HROW.out k u bl hu hbl).len
      rw [toI_length] at hue
      subst hue
      have c0 := (hBl.cell (p := ⟨s, k, none⟩) hs1).trans (hs2 k _ hu)
      have HE : Hid (((bs.take (k + 1)).flatten.length : Int) = ((bs.take k).flatten.length : Int) + (bl.length : Int)) := by
        show _ = _
        rw [catF_take hbl, List.length_append]; simp
      have hnn : ¬ (((bs.take k).flatten.length : Int) + (bl.length : Int)) < 0 := by omega
      have hww : wrap64 (((bs.take k).flatten.length : Int) + (bl.length : Int)) = ((bs.take k).flatten.length : Int) + (bl.length : Int) := by unfold wrap64; omega
      clear hu hbl hs2
      generalize (bs.take k).flatten.length = fl at *
      go_wp2_with fail
      refine ⟨⟨k + 1, by omega, by go_num, ?_, hBl⟩, by simp [intOf]; omega⟩
      rw [HE.out]
    · obtain rfl : k = bs.length := by omega
      rw [List.take_length] at hfk ⊢
      generalize bs.flatten.length = tot at hfk ⊢
      have hG := slGrow_any tot (by omega) wr
      go_wp2_with fail
      refine hG.mono ?_
      rintro e w1 ⟨v1, rfl, ho1, hB1⟩
      have hBw : Below w.heap.size w w1 := below_step hBl hBl.size hB1
      have ho1' := owns_lo ho1 hBl.size
      have HO1 := hid_of ho1'
      clear ho1 ho1' hG hB1 hBl hfk
      go_wp2_with fail
      go_loopw [6, 27] (fun v6 i wr => ∃ k : Nat, k ≤ bs.length ∧ i = .int .i64 k ∧ Hid (wr.ownsRow w.heap.size 3 1 v6 (bs.take k).flatten.length (encN (bs.take k).flatten)) ∧ Below w.heap.size w wr) (fun _ i _ => bs.length - (intOf i).toNat)
      case atStart => exact ⟨0, by omega, rfl, HO1, hBw⟩
      case round =>
        clear HO1 hBw
        obtain ⟨k, hk, rfl, HO, hBl⟩ := hrel
        have hfk := HFL.out k
        by_cases hlt : k < bs.length
        · obtain ⟨s, rfl, hs1, hs2⟩ := HVS.out (by omega)
          obtain ⟨u, hu⟩ : ∃ u, vs[k]? = some u := ⟨_, List.getElem?_eq_getElem (by omega)⟩
          obtain ⟨bl, hbl⟩ : ∃ bl, bs[k]? = some bl := ⟨_, List.getElem?_eq_getElem hlt⟩
          have hb1 := HP.out bl (List.mem_of_getElem? hbl)
          obtain ⟨s2, o2, ucap, hue, hs3, hs4⟩ := (HROW.out k u bl hu hbl).some (by rw [toI_length]; omega)
          rw [toI_length] at hue
          subst hue
          have c0 := (hBl.cell (p := ⟨s, k, none⟩) hs1).trans (hs2 k _ hu)
          have HNEW : Hid (∀ (j : Nat) (y : Value), (encN bl)[j]? = some y → wr.cell? ((⟨s2, o2, none⟩ : Addr).add j) = some y) := fun j y hy => by
            rw [Addr.add_lit]
            rw [encN, List.getElem?_map] at hy
            cases hb : bl[j]? with
            | none => rw [hb] at hy; cases hy
            | some z =>
              rw [hb] at hy
              injection hy with hy
              subst hy
              exact (hBl.cell (p := ⟨s2, o2 + j, none⟩) hs3).trans (hs4 j _ (toI_at hb))
          have HE : Hid ((bs.take (k + 1)).flatten = (bs.take k).flatten ++ bl) := catF_take hbl
          have HEN : Hid (encN ((bs.take k).flatten ++ bl) = encN (bs.take k).flatten ++ encN bl) := by show _ = _; simp [encN]
          have HLE : Hid ((encN bl).length = bl.length * 1 ∧ ∀ y ∈ encN bl, y.oneCell' = true) := ⟨by simp [encN], fun y hy => by obtain ⟨z, _, rfl⟩ := List.mem_map.1 hy; rfl⟩
          have zB := hBl.size
          clear hu hbl hs2 hs4
          go_wp2_with (at_builtin; refine wpList_append_own_at _ rfl _ _ 29 rfl w.heap.size 3 i0 (.int .i64 0) 1 8 Tryd.underlying29 hi hz0 hz1 hz2 rfl (by decide) u6 (bs.take k).flatten.length (encN (bs.take k).flatten) rfl HO.out ⟨s2, o2, none⟩ bl.length ucap (encN bl) rfl HLE.out.1 HNEW.out HLE.out.2 (by unfold maxLen; omega) (by omega) (by omega) ?_; intro v' w5 hown' hgrow _ hat)
          refine ⟨⟨k + 1, by omega, by go_num, ?_, ?_⟩, by simp [intOf]; omega⟩
          · show World.ownsRow _ _ _ _ _ _ _
            rw [HE.out, HEN.out, List.length_append]; exact hown'
          · exact hBl.grown hgrow hBl.size (fun k e => owns_ge HO.out e)
        · obtain rfl : k = bs.length := by omega
          have ho := HO.out
          rw [List.take_length] at ho
          go_wp2_with fail
          go_ret
          exact ⟨_, rfl, ho, hBl⟩
end Go.Proofs.YteejkhgccaagiaaDoor
