/- The words without fields: a map of four. -/
import Derived.Test.YtbggcofnopaloabDoorJ05
import Derived.Maps.RangeWalk
namespace Go.Proofs.YtbggcofnopaloabDoor
open Go.RowKit Sx
theorem wpList_insert_own {H : Type} {P : Program} (w : World) {ops : Array Oper} {rest : List Oper} {o : Oper} {a : Act} {Q : Exit → Act → World → Prop}
    (hg : o.guard = none) (m x v : Operand) (t : TypeId) (hop : o.op = Op.insert t m x v)
    (k e : TypeId) (K : Maps.Keyed P k) (ht : P.underlying t = some (.map k e)) (R : Value → Option (DataW H × List MemPlace)) (b n : Nat) (D : DataW H)
    (hm : a.eval m = .map (some b)) (hown : w.ownsMap P k R b n D) (hn : n < maxLen) (key val : Value) (kl : Lit) (hx : a.eval x = key) (hv : a.eval v = val) (hkey : Go.keyOf P k key = some kl)
    (d : DataW H) (ps : List MemPlace) (hval : R val = some (d, ps))
    (hK : ∀ w', w'.ownsMap P k R b (n + 1) (D.put kl d) → w.grownBy w' (some b) → wpList P ops Q rest (a.put o.dst undef) w') :
    wpList P ops Q (o :: rest) a w := by
  refine wpList_plain hg fun K' hK' => ?_
  obtain ⟨w', hrun, r1, r2⟩ := hown.update K ht hn hkey hval
  unfold Oper.wp
  simp only [execOp, hop, hm, hx, hv, Sem.run_bind, hrun, Result.andThen, Sem.run_pure]
  exact hK' _ _ (hK w' r1 r2)
def bareD : DataW Unit := .map [(.int .i64 30, .lit (.int .u32 0xd5033dbf)), (.int .i64 31, .lit (.int .u32 0xd5033fbf)), (.int .i64 32, .lit (.int .u32 0xd503201f)), (.int .i64 34, .lit (.int .u32 0xd4400000))]
theorem bKey : Maps.Keyed Tryd.prog 3 := Maps.int_keyed Tryd.underlying3
theorem bk (a : Int) (h : (Lit.int .i64 a).wf = true) : Go.keyOf Tryd.prog 3 (.int .i64 a) = some (.int .i64 a) := Maps.keyOf_int_mk Tryd.underlying3 h
theorem be (a : Int) (h : (Lit.int .u32 a).wf = true) : (plainElem (H := Unit) Tryd.prog 22) (.int .u32 a) = some (.lit (.int .u32 a), []) := plainElem_int Tryd.underlying22 h
theorem below_grown {w w' : World} {b : Nat} (hb : b < w.heap.size) (h : w.grownBy w' (some b)) : Below b w w' := ⟨h.os, h.tape, h.output, h.size, fun k hk => h.block k (by omega) (by simp; omega)⟩
theorem cdBare_calls (w : World) :
    Calls Tryd.prog 22 #[] w fun e w' => ∃ b, e = .returned (.map (some b)) ∧ w'.ownsMap Tryd.prog 3 (plainElem (H := Unit) Tryd.prog 22) b 4 bareD ∧ w.heap.size ≤ b ∧ Below w.heap.size w w' := by
  have own0 := World.ownsMap_made w Tryd.prog 3 (plainElem (H := Unit) Tryd.prog 22)
  have hmm := @run_makeMap Tryd.prog
  go_enter Tryd.func22, Tryd.ntmps22
  go_wp2_with (first | (refine wpList_insert_own _ rfl _ _ _ 59 rfl 3 22 bKey Tryd.underlying59 (plainElem (H := Unit) Tryd.prog 22) w.heap.size 0 (.map []) rfl own0 (by decide) (.int .i64 30) _ (.int .i64 30) rfl rfl (bk 30 (by decide)) _ _ (be 3573759423 (by decide)) ?_; intro w1 own1 g1) | (refine wpList_insert_own _ rfl _ _ _ 59 rfl 3 22 bKey Tryd.underlying59 (plainElem (H := Unit) Tryd.prog 22) w.heap.size 1 _ rfl own1 (by decide) (.int .i64 31) _ (.int .i64 31) rfl rfl (bk 31 (by decide)) _ _ (be 3573759935 (by decide)) ?_; intro w2 own2 g2) | (refine wpList_insert_own _ rfl _ _ _ 59 rfl 3 22 bKey Tryd.underlying59 (plainElem (H := Unit) Tryd.prog 22) w.heap.size 2 _ rfl own2 (by decide) (.int .i64 32) _ (.int .i64 32) rfl rfl (bk 32 (by decide)) _ _ (be 3573751839 (by decide)) ?_; intro w3 own3 g3) | (refine wpList_insert_own _ rfl _ _ _ 59 rfl 3 22 bKey Tryd.underlying59 (plainElem (H := Unit) Tryd.prog 22) w.heap.size 3 _ rfl own3 (by decide) (.int .i64 34) _ (.int .i64 34) rfl rfl (bk 34 (by decide)) _ _ (be 3560964096 (by decide)) ?_; intro w4 own4 g4))
  go_ret
  have hs : (w.alloc (.map #[] 0)).heap.size = w.heap.size + 1 := by simp
  exact ⟨w.heap.size, rfl, own4, Nat.le_refl _, ((Below.refl _ w).alloc (Nat.le_refl _) _).trans ((((below_grown own0.lt g1).trans (below_grown own1.lt g2)).trans (below_grown own2.lt g3)).trans (below_grown own3.lt g4))⟩
def bareI (op : Int) : Option Nat := if 0 ≤ op then bare op.toNat else none
theorem bareD_at (op : Int) (zd : DataW Unit) : bareD.atKey (.int .i64 op) zd = match bareI op with | some x => .lit (.int .u32 x) | none => zd := by
  by_cases h0 : op = 30
  · subst h0; rfl
  by_cases h1 : op = 31
  · subst h1; rfl
  by_cases h2 : op = 32
  · subst h2; rfl
  by_cases h3 : op = 34
  · subst h3; rfl
  have e : bareI op = none := by
    unfold bareI bare
    split
    · rw [if_neg (by omega), if_neg (by omega), if_neg (by omega), if_neg (by omega)]
    · rfl
  have g0 : ((30 : Int) = op) = False := by simp; omega
  have g1 : ((31 : Int) = op) = False := by simp; omega
  have g2 : ((32 : Int) = op) = False := by simp; omega
  have g3 : ((34 : Int) = op) = False := by simp; omega
  rw [e]
  simp [bareD, DataW.atKey, Lit.sameKey, List.find?, g0, g1, g2, g3]
theorem bare_look (w : World) (b : Nat) (op : Int) (hop : -9223372036854775808 ≤ op ∧ op ≤ 9223372036854775807) (h : w.ownsMap Tryd.prog 3 (plainElem (H := Unit) Tryd.prog 22) b 4 bareD) :
    (Instr.lookup 59 (.map (some b)) (.int .i64 op) true).run Tryd.prog w = .ok (.tuple #[.int .u32 (((bareI op).getD 0 : Nat) : Int), .bool (bareI op).isSome]) w := by
  obtain ⟨es, clock, hb, F, _, hD⟩ := h
  have hwf : (Lit.int .i64 op).wf = true := by
    simp only [Lit.wf, Bool.and_eq_true, decide_eq_true_eq]
    have a : (IntKind.i64).min = -9223372036854775808 := by decide
    have b : (IntKind.i64).max = 9223372036854775807 := by decide
    omega
  have hz : (zeroValue 22).run Tryd.prog w = .ok (.int .u32 0) w := by kernel_rfl
  rcases Maps.fit_look true bKey Tryd.underlying59 hz hb F (bk op hwf) with ⟨hrun, _, hat⟩ | ⟨e0, y, _, _, hrun, hRv, hat, _⟩
  · rw [← hD] at hat
    have h1 := hat (.lit (.bool true))
    rw [bareD_at] at h1
    cases hbi : bareI op with
    | none => rw [hrun]; rfl
    | some x => rw [hbi] at h1; cases h1
  · rw [← hD] at hat
    have h1 := hat (.lit (.bool true))
    have h2 := hat (.lit (.bool false))
    rw [bareD_at] at h1 h2
    cases hbi : bareI op with
    | none =>
      rw [hbi] at h1 h2
      have := h1.trans h2.symm
      cases this
    | some x =>
      rw [hbi] at h1
      obtain ⟨c, hc1, hc2, -⟩ := plainElem_int_inv Tryd.underlying22 hRv
      rw [hrun, hc1]
      rw [hc2] at h1
      injection h1 with h1
      injection h1 with _ h1
      rw [← h1]
      rfl
end Go.Proofs.YtbggcofnopaloabDoor
