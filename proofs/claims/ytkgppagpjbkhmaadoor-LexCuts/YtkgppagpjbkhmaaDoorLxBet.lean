/- The contract of passBetween. -/
import Derived.Test.YtkgppagpjbkhmaaDoorLxCut
import Derived.Deep.LoopGhost
namespace Go.Proofs.YtkgppagpjbkhmaaDoor
open Go.RowKit Go.Shelf

def at0 (s : ByteArray) : Nat := (s.get! 0).toNat
def betK : Nat → ByteArray → Nat → Nat → ByteArray × Nat × Nat
  | 0, s, l, k => (s, l, k)
  | f + 1, s, l, k => if s.size = 0 then (s, l, k) else if at0 s = 10 then betK f (dropB s 1) (l + 1) 1 else if at0 s = 32 ∨ at0 s = 9 ∨ at0 s = 13 then betK f (dropB s 1) l (k + 1) else if Lib.hasPrefix s.data.toList [47, 47] = true then betK f (dropB s (remA s).1) l (k + (remA s).2) else (s, l, k)
def betA (s : ByteArray) (l k : Nat) : ByteArray × Nat × Nat := betK s.size s l k
theorem dropB_size (s : ByteArray) (n : Nat) : (dropB s n).size = s.size - n := by
  unfold dropB
  rw [ByteArray.size_extract]
  omega
theorem remK_le (s : ByteArray) : ∀ f pos n, n ≤ pos → pos ≤ s.size → (remK s f pos n).1 ≤ s.size ∧ (remK s f pos n).2 ≤ (remK s f pos n).1 := by
  intro f
  induction f with
  | zero => intro pos n h1 h2; exact ⟨Nat.le_refl _, Nat.le_trans h1 h2⟩
  | succ f ih =>
    intro pos n h1 h2
    unfold remK
    split
    · rename_i hp
      split
      · exact ⟨h2, h1⟩
      · have := dec_pos s pos
        have h3 := dec_le s pos hp
        exact ih _ _ (by omega) h3
    · exact ⟨Nat.le_refl _, Nat.le_trans h1 h2⟩
theorem remK_ge (s : ByteArray) : ∀ f pos n, pos ≤ s.size → pos ≤ (remK s f pos n).1 := by
  intro f
  induction f with
  | zero => intro pos n h; exact h
  | succ f ih =>
    intro pos n h
    unfold remK
    split
    · rename_i hp
      split
      · exact Nat.le_refl _
      · have h3 := dec_le s pos hp
        have := ih (pos + (Utf8.decode s pos).2) (n + 1) h3
        omega
    · exact h
theorem remA_le (s : ByteArray) : (remA s).1 ≤ s.size ∧ (remA s).2 ≤ (remA s).1 := remK_le s _ _ _ (Nat.le_refl _) (Nat.zero_le _)
/-- A remark has at least its two strokes. -/
theorem remA_pos (s : ByteArray) (h0 : s.size ≠ 0) (h : at0 s = 47) : 1 ≤ (remA s).1 := by
  unfold remA
  obtain ⟨f, hf⟩ : ∃ f, s.size = f + 1 := ⟨s.size - 1, by omega⟩
  have hd : Utf8.decode s 0 = (47, 1) := by
    unfold Utf8.decode
    simp only [Nat.zero_add]
    unfold at0 at h
    simp only [h, show (47 : Nat) < 128 from by omega, if_true]
  have hns : remStop s 0 = false := by
    unfold remStop
    rw [hd]
    rfl
  have e : remK s s.size 0 0 = remK s f 1 1 := by
    conv => lhs; rw [hf]
    unfold remK
    rw [if_pos (by omega), hns, if_neg (by simp), hd]
    cases f <;> rfl
  rw [e]
  exact remK_ge s f 1 1 (by omega)
theorem pre_at0 (s : ByteArray) (h : Lib.hasPrefix s.data.toList [47, 47] = true) : s.size ≠ 0 ∧ at0 s = 47 := by
  obtain ⟨⟨l⟩⟩ := s
  match l, h with
  | [], h => cases h
  | a :: l, h =>
    have h : ([47, 47] : List UInt8).isPrefixOf (a :: l) = true := h
    rw [List.isPrefixOf_cons_cons, Bool.and_eq_true] at h
    have e : 47 = a := by simpa using h.1
    subst e
    exact ⟨by simp [ByteArray.size], rfl⟩
theorem at0_eq (s : ByteArray) (h : 0 < s.size) : (s[0]'h).toNat = at0 s := by
  unfold at0
  congr 1
  simp [ByteArray.get!, getElem!_pos, h]
  rfl
theorem betK_fuel : ∀ (f : Nat) (s : ByteArray) (l k : Nat), s.size ≤ f → betK f s l k = betK s.size s l k := by
  intro f
  induction f using Nat.strongRecOn with
  | _ f ih =>
    intro s l k hs
    match f, hs, ih with
    | 0, hs, _ => rw [show s.size = 0 from by omega]
    | f + 1, hs, ih =>
      by_cases hz : s.size = 0
      · rw [hz]
        simp [betK, hz]
      · obtain ⟨m, hm⟩ : ∃ m, s.size = m + 1 := ⟨s.size - 1, by omega⟩
        have key : ∀ (t : ByteArray) (l k : Nat), t.size ≤ m → betK f t l k = betK m t l k := by
          intro t l k ht
          rw [ih f (by omega) t l k (by omega)]
          by_cases hmf : m = f
          · rw [hmf, ih f (by omega) t l k (by omega)]
          · rw [ih m (by omega) t l k ht]
        have d1 : (dropB s 1).size ≤ m := by rw [dropB_size]; omega
        have d2 : ∀ n, 1 ≤ n → (dropB s n).size ≤ m := fun n hn => by rw [dropB_size]; omega
        rw [hm]
        unfold betK
        rw [if_neg hz, if_neg hz]
        split
        · exact key _ _ _ d1
        · split
          · exact key _ _ _ d1
          · split
            · rename_i hp
              obtain ⟨h1, h2⟩ := pre_at0 s hp
              exact key _ _ _ (d2 _ (remA_pos s h1 h2))
            · rfl
theorem betK_step (s : ByteArray) (l k : Nat) (hz : s.size ≠ 0) : betK s.size s l k = if at0 s = 10 then betK (dropB s 1).size (dropB s 1) (l + 1) 1 else if at0 s = 32 ∨ at0 s = 9 ∨ at0 s = 13 then betK (dropB s 1).size (dropB s 1) l (k + 1) else if Lib.hasPrefix s.data.toList [47, 47] = true then betK (dropB s (remA s).1).size (dropB s (remA s).1) l (k + (remA s).2) else (s, l, k) := by
  obtain ⟨m, hm⟩ : ∃ m, s.size = m + 1 := ⟨s.size - 1, by omega⟩
  conv => lhs; rw [hm]; unfold betK
  rw [if_neg hz]
  split
  · exact betK_fuel m (dropB s 1) _ _ (by rw [dropB_size]; omega)
  · split
    · exact betK_fuel m (dropB s 1) _ _ (by rw [dropB_size]; omega)
    · split
      · rename_i hp
        obtain ⟨h1, h2⟩ := pre_at0 s hp
        have := remA_pos s h1 h2
        exact betK_fuel m (dropB s (remA s).1) _ _ (by rw [dropB_size]; omega)
      · rfl
theorem ne_empty (s : ByteArray) (h : s.size ≠ 0) : (s.toList == ([] : List UInt8)) = false := by
  rw [ByteArray.toList_eq]
  obtain ⟨⟨d⟩⟩ := s
  cases d with
  | nil => exact absurd rfl h
  | cons a d => rfl
theorem index0 (s : ByteArray) (h : 0 < s.size) (w : World) : (Instr.index 9 (.string s) (.int .i64 0)).run Tryd.prog w = .ok (.int .u8 ((at0 s : Nat) : Int)) w := by
  rw [run_index_string (P := Tryd.prog) w 9 s .i64 0 Tryd.underlying9, dif_pos ⟨by omega, by omega⟩]
  have := at0_eq s h
  rw [← this]
  rfl
theorem u8_eq {n m : Nat} (h : n = m) : (((n : Nat) : Int) == ((m : Nat) : Int)) = true := by simp [h]
set_option maxRecDepth 100000 in
set_option maxHeartbeats 4000000 in
theorem passBetween_calls (c : Nat) (s0 : ByteArray) (l0 k0 : Nat) (w : World) (h : Cut w c s0 l0 k0) (hb0 : s0.size + l0 ≤ 70000 ∧ s0.size + k0 ≤ 70000) :
    Calls Tryd.prog 22 #[pv c] w fun e w' => (∃ r, e = .returned r) ∧ Cut w' c (betA s0 l0 k0).1 (betA s0 l0 k0).2.1 (betA s0 l0 k0).2.2 ∧ But c w w' := by
  go_enter Tryd.func22, Tryd.ntmps22
  go_wp2_with fail
  go_loopg [] (s0.size) (fun f wr => ∃ (s : ByteArray) (l k : Nat), f = s.size ∧ Cut wr c s l k ∧ s.size + l ≤ 70000 ∧ s.size + k ≤ 70000 ∧ Hid (betA s0 l0 k0 = betK s.size s l k) ∧ But c w wr)
  case atStart => exact ⟨s0, l0, k0, rfl, h, hb0.1, hb0.2, rfl, But.refl _ _⟩
  case round =>
    clear h hb0
    obtain ⟨s, l, k, rfl, h, hbl, hbk, HK, hBut⟩ := hrel
    have h' : Blk wr c 54 (cutA s l k) := h
    have c0 : wr.cell? ⟨c, 0, none⟩ = some (.string s) := h'.cell rfl
    have c1 : wr.cell? ⟨c, 1, none⟩ = some (.int .i64 ((l : Nat) : Int)) := h'.cell rfl
    have c2 : wr.cell? ⟨c, 2, none⟩ = some (.int .i64 ((k : Nat) : Int)) := h'.cell rfl
    have f0 := h'.frozen 0
    have f1 := h'.frozen 1
    have f2 := h'.frozen 2
    by_cases hz : s.size = 0
    · obtain rfl : s = ⟨#[]⟩ := by
        obtain ⟨⟨d⟩⟩ := s
        cases d with
        | nil => rfl
        | cons a d => simp [ByteArray.size] at hz
      go_wp2_with fail
      go_end0
      exact ⟨⟨_, rfl⟩, by rw [HK.out]; exact h, hBut⟩
    · have hne := ne_empty s hz
      have hpos : 0 < s.size := by omega
      have hix := index0 s hpos
      have HS := hid_of (betK_step s l k hz)
      have d1 := dropB_size s 1
      have o1 : (1 : Int) ≤ ((s.size : Nat) : Int) := by omega
      by_cases h10 : at0 s = 10
      · have t1 : (((at0 s : Nat) : Int) == 10) = true := by simp [h10]
        have HS2 : Hid (betK s.size s l k = betK (dropB s 1).size (dropB s 1) (l + 1) 1) := HS.out.trans (if_pos h10)
        generalize at0 s = a at *
        clear h10 HS
        go_wp2_with fail
        go_roundg (s.size - 1)
        case measure => omega
        case rel =>
          refine ⟨dropB s 1, l + 1, 1, d1.symm, ?_, by omega, by omega, HK.out.trans HS2.out, ((hBut.set _ _).set _ _).set _ _⟩
          have := ((h'.set 0 (.string (s.extract 1 s.size))).set 1 (.int .i64 (((l + 1 : Nat)) : Int))).set 2 (.int .i64 1)
          simp only [List.setIfInBounds_toArray, List.set_cons_zero, List.set_cons_succ, Int.natCast_add] at this
          exact this
      · have t1 : (((at0 s : Nat) : Int) == 10) = false := by rw [beq_eq_false_iff_ne]; omega
        by_cases hbk3 : at0 s = 32 ∨ at0 s = 9 ∨ at0 s = 13
        · have HS2 : Hid (betK s.size s l k = betK (dropB s 1).size (dropB s 1) l (k + 1)) := HS.out.trans ((if_neg h10).trans (if_pos hbk3))
          have hp := pass_calls c s l k 1 1 wr h (by omega) (by omega) (by omega)
          clear HS
          have fin : ∀ w', Cut w' c (dropB s 1) l (k + 1) → But c wr w' → ∃ (t : ByteArray) (l' k' : Nat), s.size - 1 = t.size ∧ Cut w' c t l' k' ∧ t.size + l' ≤ 70000 ∧ t.size + k' ≤ 70000 ∧ Hid (betA s0 l0 k0 = betK t.size t l' k') ∧ But c w w' := fun w' h1 h2 => ⟨dropB s 1, l, k + 1, d1.symm, h1, by omega, by omega, HK.out.trans HS2.out, hBut.trans h2⟩
          have HFin := hid_of fin
          clear fin
          rcases hbk3 with hb | hb | hb
          · have t2 : (((at0 s : Nat) : Int) == 32) = true := by simp [hb]
            generalize at0 s = a at *
            clear h10 hb
            go_wp2_with (go_at_call 35; refine hp.mono ?_; rintro e w1 ⟨⟨r, rfl⟩, hC1, hB1⟩)
            go_roundg (s.size - 1)
            case measure => omega
            case rel => exact HFin.out _ hC1 hB1
          · have t2 : (((at0 s : Nat) : Int) == 32) = false := by rw [beq_eq_false_iff_ne]; omega
            have t3 : (((at0 s : Nat) : Int) == 9) = true := by simp [hb]
            generalize at0 s = a at *
            clear h10 hb
            go_wp2_with (go_at_call 35; refine hp.mono ?_; rintro e w1 ⟨⟨r, rfl⟩, hC1, hB1⟩)
            go_roundg (s.size - 1)
            case measure => omega
            case rel => exact HFin.out _ hC1 hB1
          · have t2 : (((at0 s : Nat) : Int) == 32) = false := by rw [beq_eq_false_iff_ne]; omega
            have t3 : (((at0 s : Nat) : Int) == 9) = false := by rw [beq_eq_false_iff_ne]; omega
            have t4 : (((at0 s : Nat) : Int) == 13) = true := by simp [hb]
            generalize at0 s = a at *
            clear h10 hb
            go_wp2_with (go_at_call 35; refine hp.mono ?_; rintro e w1 ⟨⟨r, rfl⟩, hC1, hB1⟩)
            go_roundg (s.size - 1)
            case measure => omega
            case rel => exact HFin.out _ hC1 hB1
        · have t2 : (((at0 s : Nat) : Int) == 32) = false := by rw [beq_eq_false_iff_ne]; omega
          have t3 : (((at0 s : Nat) : Int) == 9) = false := by rw [beq_eq_false_iff_ne]; omega
          have t4 : (((at0 s : Nat) : Int) == 13) = false := by rw [beq_eq_false_iff_ne]; omega
          have hcp : Calls Tryd.prog 36 #[.string s, .string ⟨#[47, 47]⟩] wr fun e w' => e = .returned (.bool (Lib.hasPrefix s.data.toList [47, 47])) ∧ w' = wr := Tryd.strings_HasPrefix s ⟨#[47, 47]⟩ wr
          have HS1 := hid_of (HS.out.trans ((if_neg h10).trans (if_neg hbk3)))
          clear HS
          cases hq : Lib.hasPrefix s.data.toList [47, 47]
          · have HS2 : Hid (betK s.size s l k = (s, l, k)) := HS1.out.trans (if_neg (by rw [hq]; simp))
            rw [hq] at hcp
            generalize at0 s = a at *
            clear h10 hbk3 hq HS1
            go_wp2_with (go_at_call 36; refine hcp.mono ?_; rintro e w' ⟨rfl, hw⟩; obtain rfl : wr = w' := hw.symm)
            exact bodyPost_ret (results_none rfl _ _ _) rfl ⟨⟨_, rfl⟩, by rw [HK.out, HS2.out]; exact h, hBut⟩
          · have HS2 : Hid (betK s.size s l k = betK (dropB s (remA s).1).size (dropB s (remA s).1) l (k + (remA s).2)) := HS1.out.trans (if_pos hq)
            have hr1 := remA_pos s (pre_at0 s hq).1 (pre_at0 s hq).2
            have hr2 := remA_le s
            have hra := remarkAhead_calls s wr (by omega)
            have dd := dropB_size s (remA s).1
            rw [hq] at hcp
            generalize at0 s = a at *
            generalize (remA s).1 = n at *
            generalize (remA s).2 = m at *
            clear h10 hbk3 hq HS1
            go_wp2_with (go_at_call 36; refine hcp.mono ?_; rintro e w' ⟨rfl, hw⟩; obtain rfl : wr = w' := hw.symm)
            refine hra.mono ?_
            rintro e w1 ⟨rfl, hB1⟩
            have hC1 : Cut w1 c s l k := Blk.of_below h hB1
            go_wp2_with fail
            refine (pass_calls c s l k n m w1 hC1 (by omega) (by omega) (by omega)).mono ?_
            rintro e w2 ⟨⟨r, rfl⟩, hC2, hB2⟩
            go_wp2_with fail
            go_roundg (s.size - n)
            case measure => omega
            case rel => exact ⟨dropB s n, l, k + m, dd.symm, hC2, by omega, by omega, HK.out.trans HS2.out, (hBut.trans (But.of_below hB1)).trans hB2⟩
end Go.Proofs.YtkgppagpjbkhmaaDoor
