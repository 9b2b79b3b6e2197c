import Derived.Test.YtdkogbfamdnheaaGreatDoorTie
import Derived.Test.YtdkogbfamdnheaaGreatDoorGArgs
import Derived.Test.YtdkogbfamdnheaaGreatDoorJ41
import Derived.Test.YtdkogbfamdnheaaGreatDoorArLaidC
namespace Go.Proofs.YtdkogbfamdnheaaGreatDoor.armChecks
open Go.ChangeShapes Go.WideShapes Go.ChangeAt Go.RowKit Go.Shelf Sx
set_option maxRecDepth 100000
set_option maxHeartbeats 16000000
set_option linter.unusedSimpArgs false
set_option linter.unusedVariables false
def QAk (cs : Array Value) : Obj → Obj
 | .cells _ t frozen => .cells cs t frozen
 | o => o
def Qyp (W : World) : World := { W with heap := (W.heap.modify 0 (QAk (Lib.deBruijn64tab.map fun n => Value.int .u8 ((n : Nat) : Int)).toArray)).modify 1 (QAk (frmL.flatMap fun x => [Value.int .i64 x.1, Value.int .i64 x.2]).toArray) }
theorem Qh9 (H : Type) (enc : TypeId × Value → H) (W : World) (base : Nat) (args : Array Value) (ds gs : List (DataW H)) (before : List MemPlace)
  (hval : ∀ (j : Nat) t v, Tryz.f5.params[j]? = some t → args[j]? = some v → Value.okWide Tryz.prog W .any base t v)
  (hW : DataW.Whole enc Tryz.prog Tryz.f5.params.toList Rows.armChecksSpec.vars false W args.toList ds gs before) (hz : (DataW.weightsEach Tryz.prog (Tryz.f5.params.toList ++ (OpenSpec.ofChange Rows.armChecksSpec).bare.plain.varTypes Tryz.prog) (ds ++ gs)).all (· ≤ reachBytes) = true) (hL : laidMetH Tryz.prog Rows.armChecksRow.laid W) :
  Calls Tryz.prog 5 args W fun e W' => ∃ v, e = .returned v ∧ Rows.armChecksSpec.post enc Tryz.prog Tryz.f5 false true false false W args v W' := by
 have hW' := hW
 obtain ⟨p, q, hA0, hV, rfl, hfz, hnd⟩ := hW
 have hA : DataW.TrodAll enc Tryz.prog W 0 (fun _ => true) true Tryz.f5.params.toList args.toList ds p := hA0
 rw [Tryz.params5] at hA hval
 obtain ⟨v0, vs0, d0, ds0, p0, q0, hargs, rfl, rfl, h0, r0⟩ := trodAll_cons hA
 obtain ⟨rfl, rfl, rfl⟩ := trodAll_nil r0
 obtain rfl : args = #[v0] := by cases args; simp_all
 obtain ⟨rfl, rfl⟩ := trodVars_none hV
 have hz0 : ∀ k ∈ d0.weights Tryz.prog 27, k ≤ reachBytes := by
  intro k hk
  have := List.all_eq_true.1 hz k (DataW.weights_mem_each (j := 0) (t := 27) (d := d0) (by rw [Tryz.params5]; rfl) rfl k hk)
  simpa using this
 obtain ⟨V, g, rfl, hG, hGB⟩ := QAn (hval 0 27 v0 rfl rfl) h0 hz0
 clear hA0
 have hlt : ∀ x ∈ p0 ++ [], x.block < W.heap.size := fun x hx => hW'.lt x (by simpa using hx)
 refine (Qoa V g W hG hGB (Qu9 hL) (Qu8 hL)).mono fun e W' ⟨he, hB⟩ => ?_
 subst he
 have st : ∀ (t : TypeId) (v : Value) (d : DataW H) (ps : List MemPlace), (Tryz.prog.readableRec t = true) → t < Tryz.prog.types.size → (∀ x ∈ ps, x.block < W.heap.size) → DataW.Trod enc Tryz.prog W 0 (fun _ => true) true t v d ps →
   DataW.Trod enc Tryz.prog W' 0 (fun b => decide (b < W.heap.size)) true t v d ps := fun t v d ps h1 h2 hp h =>
  WideElems.Trod_stays QCp h1 h2 h (fun x hx => hB.same (hp x hx)) (fun x hx => by simpa using hp x hx)
 refine ⟨_, rfl, _, _, _, [], _, [], hW', trodAll_cons_mk (shut_bool Tryz.underlying4 _) trodAll_mk0, trodAll_cons_mk (st _ _ d0 p0 kW (of_decide_eq_true kW) (fun x hx => hlt x (by simp [hx])) h0) trodAll_mk0, rfl, Qrh hB _, fun h => by cases h⟩
theorem QDc (os : Os) : laidMet Tryz.prog Rows.armChecksRow.laid ((Qyp (World.holding Tryz.prog os ⟨#[], #[], []⟩)).forCall (fun _ _ => 0) ⟨#[], #[.agg #[.int .i64 0, .slice none 0 0, .slice none 0 0, .slice none 0 0, .slice none 0 0, .slice none 0 0, .slice none 0 0, .slice none 0 0]], []⟩).memory :=
 laidMet_of_run' 8 kW kW
theorem reads (os : Os) {H : Type} (enc : TypeId × Value → H) : ∃ places, DataW.whole enc Tryz.prog ((Qyp (World.holding Tryz.prog os ⟨#[], #[], []⟩)).forCall (fun _ _ => 0) ⟨#[], #[.agg #[.int .i64 0, .slice none 0 0, .slice none 0 0, .slice none 0 0, .slice none 0 0, .slice none 0 0, .slice none 0 0, .slice none 0 0]], []⟩).memory Tryz.f5.params.toList Rows.armChecksSpec.vars false (#[.agg #[.int .i64 0, .slice none 0 0, .slice none 0 0, .slice none 0 0, .slice none 0 0, .slice none 0 0, .slice none 0 0, .slice none 0 0]] : Array Value).toList 8 = some ([.agg [.lit (.int .i64 0), .nil, .nil, .nil, .nil, .nil, .nil, .nil]], [], places) :=
 ⟨[], by kernel_rfl⟩
theorem QId (os : Os) (started : os.Started) (H : Type) (enc : TypeId × Value → H) (F : Stop.Interp) :
  ReturnsInHanded {} Tryz.checked os 5 .any ((OpenSpec.ofChange Rows.armChecksSpec).preRow enc Tryz.prog Tryz.f5 Rows.armChecksRow.domain false Rows.armChecksRow.laid) (((OpenSpec.ofChange Rows.armChecksSpec).at F).post enc Tryz.prog Tryz.f5 false true false false) := by
 obtain ⟨places, hx⟩ := reads os enc
 refine returnsInHanded_of_row (C := Tryz.checked) (s := OpenSpec.ofChange Rows.armChecksSpec) QJm started kW Tryz.func5
  (witness_row_at (enc := enc) (C := Tryz.checked) false (Qyp (World.holding Tryz.prog os ⟨#[], #[], []⟩)) #[.agg #[.int .i64 0, .slice none 0 0, .slice none 0 0, .slice none 0 0, .slice none 0 0, .slice none 0 0, .slice none 0 0, .slice none 0 0]] rfl kW kW kW
   (OpenSpec.preRow_of_cond 8 hx kW (fun k hk => by cases hk) kW (QDc os))) ?_
 intro W base args ds gs before hval hW _ _ hz hL _ _
 exact Qh9 H enc W base args ds gs before hval hW hz hL
theorem QK : Rows.ArmChecksSaid :=
 OpenClaim.holds_of_cond 5 Tryz.f5 rfl rfl rfl rfl rfl rfl rfl ⟨rfl, rfl, rfl, rfl, rfl⟩ rfl rfl rfl rfl rfl kW Tryz.func5 kW
  (of_decide_eq_true kW) (by unfold Func.isWrapper; first | (rw [if_pos (by decide +kernel)]; kernel_rfl) | (rw [if_neg (by decide +kernel)]; exact ⟨rfl, rfl⟩))
  (fun os started H enc _ F => by rw [OpenClaim.pre_eq_preRow]; exact QId os started H enc F)
theorem plain (f : FuncId) (fn : Func) (hf : Tryz.pinned.checked.prog.funcNamed Rows.armChecksRow.func = some f) (hfn : Tryz.pinned.checked.prog.funcs[f]? = some fn) :
    false = Tryz.pinned.checked.prog.looks [] ∧ ∀ (j : Nat) t, fn.params[j]? = some t → Tryz.pinned.checked.prog.wantsStandIn t = false := by
  obtain rfl : f = 5 := Option.some.inj ((show Tryz.prog.funcNamed Rows.armChecksRow.func = some 5 by kernel_rfl).symm.trans hf) |>.symm
  obtain rfl : fn = Tryz.f5 := (Option.some.inj (Tryz.func5.symm.trans hfn)).symm
  refine ⟨by kernel_rfl, fun j t ht => ?_⟩
  rw [Tryz.params5] at ht
  have h26 : Tryz.prog.wantsStandIn 27 = false := by kernel_rfl
  have hm := Array.mem_of_getElem? ht
  simp at hm
  subst hm
  exact h26

theorem card : Rows.ArmChecksCardSaid :=
  Claim7.holds_tied_plain_at .later [] _ _ _ _ QK (fun _ h => by cases h) (by kernel_rfl) (fun _ h => by cases h) armChecks_row_tie rfl ⟨rfl, rfl⟩ (by kernel_rfl) rfl plain (by kernel_rfl)
end Go.Proofs.YtdkogbfamdnheaaGreatDoor.armChecks
namespace Go.Proofs.YtdkogbfamdnheaaGreatDoor
theorem armChecks_holds : Rows.ArmChecksCardSaid := armChecks.card
end Go.Proofs.YtdkogbfamdnheaaGreatDoor
