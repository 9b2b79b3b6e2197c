/- The contract of signAhead. -/
import Derived.Test.YtkgppagpjbkhmaaDoorLxRem
namespace Go.Proofs.YtkgppagpjbkhmaaDoor
open Go.RowKit Go.Shelf

def signsL : List (List UInt8) := [[60, 60], [62, 62], [61, 61], [33, 61], [60, 61], [62, 61], [43], [45], [42], [38], [94], [124], [126], [33], [60], [62], [61], [40], [41], [91], [93], [123], [125], [44], [59]]
def signsA : Array Value := (signsL.map (fun l => Value.string ⟨l.toArray⟩)).toArray
/-- The table of signs lies in the program's first variable. -/
def SigTab (w : World) : Prop := 0 < w.heap.size ∧ ∀ j, j < 25 → w.cell? ⟨0, j, none⟩ = signsA[j]?
theorem SigTab.below {w w' : World} (h : SigTab w) (hb : Below w.heap.size w w') : SigTab w' := ⟨Nat.lt_of_lt_of_le h.1 hb.size, fun j hj => (hb.cell (p := ⟨0, j, none⟩) h.1).trans (h.2 j hj)⟩
def signK (s : ByteArray) : List (List UInt8) → Nat
  | [] => 0
  | l :: r => if Lib.hasPrefix s.data.toList l = true then l.length else signK s r
def signA (s : ByteArray) : Nat := signK s signsL
theorem signK_step (s : ByteArray) {k : Nat} {l : List UInt8} (h : signsL[k]? = some l) : signK s (signsL.drop k) = if Lib.hasPrefix s.data.toList l = true then l.length else signK s (signsL.drop (k + 1)) := by
  obtain ⟨hk, e⟩ := List.getElem?_eq_some_iff.1 h
  rw [List.drop_eq_getElem_cons hk, e]
  rfl
theorem signs_at {k : Nat} {l : List UInt8} (h : signsL[k]? = some l) : signsA[k]? = some (.string ⟨l.toArray⟩) := by
  simp [signsA, h]
theorem load_signs {w : World} (h : SigTab w) : (loadVar 77 ⟨0, 0, none⟩).run Tryd.prog w = .ok (.agg signsA) w := by
  have hl : (loadCells ⟨0, 0, none⟩ signsA.toList.length).run Tryd.prog w = .ok signsA.toList.toArray w :=
    run_loadCells_list (P := Tryd.prog) w ⟨0, 0, none⟩ signsA.toList (fun j v hv => by
      have hadd : (⟨0, 0, none⟩ : Addr).add j = ⟨0, j, none⟩ := by unfold Addr.add; split <;> simp_all
      have hj : j < 25 := by
        have := (List.getElem?_eq_some_iff.1 hv).1
        simpa [signsA, signsL] using this
      rw [hadd, h.2 j hj]
      simpa using hv)
  have hz : (Tryd.prog.info? 77).map (·.size) = some 25 := by kernel_rfl
  cases hq : Tryd.prog.info? 77 with
  | none => simp [hq] at hz
  | some i =>
    have hs : i.size = 25 := by simpa [hq] using hz
    have hagg : (isAgg 77).run Tryd.prog w = .ok true w := by
      unfold isAgg
      rw [Sem.run_bind, run_underlying Tryd.underlying77 w]
      rfl
    rw [Array.toArray_toList, show signsA.toList.length = 25 from rfl] at hl
    simp [loadVar, Sem.run_bind, hagg, sizeOf, typeInfo, hq, hs, hl]
theorem wpList_load_signs {w : World} {ops : Array Oper} {rest : List Oper} {o : Oper} {a : Act} {Q : Exit → Act → World → Prop} (hgd : o.guard = none) (x : Operand) (ho : o.op = .load 77 x) (hx : a.eval x = .pointer (some ⟨0, 0, none⟩)) (hT : SigTab w)
    (h : wpList Tryd.prog ops Q rest (a.put o.dst (.agg signsA)) w) : wpList Tryd.prog ops Q (o :: rest) a w :=
  wpList_plain hgd fun K hK => by
    unfold Oper.wp execOp
    simp only [ho, hx, Instr.loadAt, Instr.sureAddr, Sem.run_bind, Sem.run_pure, Result.andThen_ok, load_signs hT]
    exact hK _ _ h
theorem index_signs {A : Array Value} {k : Nat} {v : Value} (hk : k < 25) (h : A[k]? = some v) (w : World) : (Instr.index 77 (.agg A) (.int .i64 ((k : Nat) : Int))).run Tryd.prog w = .ok v w := by
  simp [Instr.index, run_underlying Tryd.underlying77, asIntOf, hk, go_sem]
  rw [h]
  rfl
set_option maxRecDepth 100000 in
set_option maxHeartbeats 8000000 in
theorem signAhead_calls (s : ByteArray) (w : World) (hT : SigTab w) :
    Calls Tryd.prog 39 #[.string s] w fun e w' => e = .returned (.int .i64 ((signA s : Nat) : Int)) ∧ w' = w := by
  go_enter Tryd.func39, Tryd.ntmps39
  go_wp2_with (refine wpList_load_signs rfl _ rfl rfl hT ?_)
  clear hT
  obtain ⟨A, HA⟩ : ∃ A, Hid (signsA = A) := ⟨_, rfl⟩
  rw [HA.out]
  go_loopw [6] (fun i wr => ∃ k : Nat, k ≤ 25 ∧ i = .int .i64 ((k : Nat) : Int) ∧ Hid (signA s = signK s (signsL.drop k)) ∧ wr = w) (fun i _ => 25 - (intOf i).toNat)
  case atStart => exact ⟨0, by omega, rfl, rfl, rfl⟩
  case round =>
    obtain ⟨k, hk, rfl, HK, rfl⟩ := hrel
    by_cases hlt : k < 25
    · obtain ⟨l, hl⟩ : ∃ l, signsL[k]? = some l := ⟨_, List.getElem?_eq_getElem (by simpa [signsL] using hlt)⟩
      have HS := hid_of (HK.out.trans (signK_step s hl))
      have ha := signs_at hl
      rw [HA.out] at ha
      have hix := index_signs hlt ha
      have hcp : Calls Tryd.prog 36 #[.string s, .string ⟨l.toArray⟩] wr fun e w' => e = .returned (.bool (Lib.hasPrefix s.data.toList l)) ∧ w' = wr := Tryd.strings_HasPrefix s ⟨l.toArray⟩ wr
      have hsl : (⟨l.toArray⟩ : ByteArray).size = l.length := by simp [ByteArray.size]
      generalize (⟨l.toArray⟩ : ByteArray) = t at *
      clear hl HK ha
      cases hq : Lib.hasPrefix s.data.toList l
      · rw [hq] at hcp
        have HS2 : Hid (signA s = signK s (signsL.drop (k + 1))) := HS.out.trans (by rw [hq]; rfl)
        clear hq HS
        go_wp2_with (go_at_call 36; refine hcp.mono ?_; rintro e w' ⟨rfl, hw⟩; obtain rfl : wr = w' := hw.symm)
        exact ⟨⟨k + 1, by omega, by go_num, HS2.out, by trivial⟩, by simp [intOf]; omega⟩
      · rw [hq] at hcp
        have HS2 : Hid (signA s = l.length) := HS.out.trans (by rw [hq]; rfl)
        clear hq HS
        go_wp2_with (go_at_call 36; refine hcp.mono ?_; rintro e w' ⟨rfl, hw⟩; obtain rfl : wr = w' := hw.symm)
        go_ret
        exact ⟨by rw [HS2.out]; rfl, rfl⟩
    · go_wp2_with fail
      go_ret
      obtain rfl : k = 25 := by omega
      exact ⟨by rw [HK.out]; rfl, rfl⟩
end Go.Proofs.YtkgppagpjbkhmaaDoor
