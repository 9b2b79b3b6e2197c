/- The statement ArmDerives holds: at whatever graph, in whatever world that holds the standard library's table of bits and the program's table of modes, the program answers true and leaves all old memory as it was. -/
import Derived.Test.YtdkogbfamdnheaaGreatDoorCards
import Derived.Test.YtdkogbfamdnheaaGreatDoorTie
import Derived.Test.YtdkogbfamdnheaaGreatDoorGArgs
import Derived.Test.YtdkogbfamdnheaaGreatDoorArDer
import Derived.WalkKit
import Derived.ProofKit
import Derived.OpenShut
import Derived.SizedLaws
import Derived.Deep.DeepHandedRow
import Derived.Test.YtdkogbfamdnheaaGreatDoorArLaidD
namespace Go.Proofs.YtdkogbfamdnheaaGreatDoor.armDerives
open Go.ChangeShapes Go.WideShapes Go.ChangeAt Go.RowKit Go.Shelf Sx
set_option maxRecDepth 100000
set_option maxHeartbeats 16000000
set_option linter.unusedSimpArgs false
set_option linter.unusedVariables false
def Qy (cs : Array Value) : Obj → Obj
 | .cells _ t frozen => .cells cs t frozen
 | o => o
def Qv9 (W : World) : World := { W with heap := (W.heap.modify 0 (Qy (Lib.deBruijn64tab.map fun n => Value.int .u8 ((n : Nat) : Int)).toArray)).modify 1 (Qy (frmL.flatMap fun x => [Value.int .i64 x.1, Value.int .i64 x.2]).toArray) }
theorem Qjn (H : Type) (enc : TypeId × Value → H) (W : World) (base : Nat) (args : Array Value) (ds gs : List (DataW H)) (before : List MemPlace)
  (hval : ∀ (j : Nat) t v, Tryz.f4.params[j]? = some t → args[j]? = some v → Value.okWide Tryz.prog W .any base t v)
  (hW : DataW.Whole enc Tryz.prog Tryz.f4.params.toList Rows.armDerivesSpec.vars false W args.toList ds gs before) (hz : (DataW.weightsEach Tryz.prog (Tryz.f4.params.toList ++ (OpenSpec.ofChange Rows.armDerivesSpec).bare.plain.varTypes Tryz.prog) (ds ++ gs)).all (· ≤ reachBytes) = true) (hL : laidMetH Tryz.prog Rows.armDerivesRow.laid W) :
  Calls Tryz.prog 4 args W fun e W' => ∃ v, e = .returned v ∧ Rows.armDerivesSpec.post enc Tryz.prog Tryz.f4 false true false false W args v W' := by
 have hW' := hW
 obtain ⟨p, q, hA0, hV, rfl, hfz, hnd⟩ := hW
 have hA : DataW.TrodAll enc Tryz.prog W 0 (fun _ => true) true Tryz.f4.params.toList args.toList ds p := hA0
 rw [Tryz.params4] at hA hval
 obtain ⟨v0, vs0, d0, ds0, p0, q0, hargs, rfl, rfl, h0, r0⟩ := trodAll_cons hA
 obtain ⟨rfl, rfl, rfl⟩ := trodAll_nil r0
 obtain rfl : args = #[v0] := by cases args; simp_all
 obtain ⟨rfl, rfl⟩ := trodVars_none hV
 have hz0 : ∀ k ∈ d0.weights Tryz.prog 27, k ≤ reachBytes := by
  intro k hk
  have := List.all_eq_true.1 hz k (DataW.weights_mem_each (j := 0) (t := 27) (d := d0) (by rw [Tryz.params4]; rfl) rfl k hk)
  simpa using this
 obtain ⟨V, g, rfl, hG, hGB⟩ := Qzd (hval 0 27 v0 rfl rfl) h0 hz0
 clear hA0
 have hlt : ∀ x ∈ p0 ++ [], x.block < W.heap.size := fun x hx => hW'.lt x (by simpa using hx)
 refine (Qmv V g W hG hGB (Qtq hL) (Qtp hL)).mono fun e W' ⟨he, hB⟩ => ?_
 subst he
 have st : ∀ (t : TypeId) (v : Value) (d : DataW H) (ps : List MemPlace), (Tryz.prog.readableRec t = true) → t < Tryz.prog.types.size → (∀ x ∈ ps, x.block < W.heap.size) → DataW.Trod enc Tryz.prog W 0 (fun _ => true) true t v d ps →
   DataW.Trod enc Tryz.prog W' 0 (fun b => decide (b < W.heap.size)) true t v d ps := fun t v d ps h1 h2 hp h =>
  WideElems.Trod_stays QAu h1 h2 h (fun x hx => hB.same (hp x hx)) (fun x hx => by simpa using hp x hx)
 refine ⟨_, rfl, _, _, _, [], _, [], hW', trodAll_cons_mk (shut_bool Tryz.underlying4 _) trodAll_mk0, trodAll_cons_mk (st _ _ d0 p0 (by kernel_rfl) (of_decide_eq_true (by kernel_rfl)) (fun x hx => hlt x (by simp [hx])) h0) trodAll_mk0, rfl, Qqc hB _, fun h => by cases h⟩
theorem QAe (os : Os) : laidMet Tryz.prog Rows.armDerivesRow.laid ((Qv9 (World.holding Tryz.prog os ⟨#[], #[], []⟩)).forCall (fun _ _ => 0) ⟨#[], #[.agg #[.int .i64 0, .slice none 0 0, .slice none 0 0, .slice none 0 0, .slice none 0 0, .slice none 0 0, .slice none 0 0, .slice none 0 0]], []⟩).memory :=
 laidMet_of_run' 8 (by kernel_rfl) (by kernel_rfl)
theorem reads (os : Os) {H : Type} (enc : TypeId × Value → H) : ∃ places, DataW.whole enc Tryz.prog ((Qv9 (World.holding Tryz.prog os ⟨#[], #[], []⟩)).forCall (fun _ _ => 0) ⟨#[], #[.agg #[.int .i64 0, .slice none 0 0, .slice none 0 0, .slice none 0 0, .slice none 0 0, .slice none 0 0, .slice none 0 0, .slice none 0 0]], []⟩).memory Tryz.f4.params.toList Rows.armDerivesSpec.vars false (#[.agg #[.int .i64 0, .slice none 0 0, .slice none 0 0, .slice none 0 0, .slice none 0 0, .slice none 0 0, .slice none 0 0, .slice none 0 0]] : Array Value).toList 8 = some ([.agg [.lit (.int .i64 0), .nil, .nil, .nil, .nil, .nil, .nil, .nil]], [], places) :=
 ⟨[], by kernel_rfl⟩
theorem QFd (os : Os) (started : os.Started) (H : Type) (enc : TypeId × Value → H) (F : Stop.Interp) :
  ReturnsInHanded {} Tryz.checked os 4 .any ((OpenSpec.ofChange Rows.armDerivesSpec).preRow enc Tryz.prog Tryz.f4 Rows.armDerivesRow.domain false Rows.armDerivesRow.laid) (((OpenSpec.ofChange Rows.armDerivesSpec).at F).post enc Tryz.prog Tryz.f4 false true false false) := by
 obtain ⟨places, hx⟩ := reads os enc
 refine returnsInHanded_of_row (C := Tryz.checked) (s := OpenSpec.ofChange Rows.armDerivesSpec) QGq started (by kernel_rfl) Tryz.func4
  (witness_row_at (enc := enc) (C := Tryz.checked) false (Qv9 (World.holding Tryz.prog os ⟨#[], #[], []⟩)) #[.agg #[.int .i64 0, .slice none 0 0, .slice none 0 0, .slice none 0 0, .slice none 0 0, .slice none 0 0, .slice none 0 0, .slice none 0 0]] rfl (by kernel_rfl) (by kernel_rfl) (by kernel_rfl)
   (OpenSpec.preRow_of_cond 8 hx (by kernel_rfl) (fun k hk => by cases hk) (by kernel_rfl) (QAe os))) ?_
 intro W base args ds gs before hval hW _ _ hz hL _ _
 exact Qjn H enc W base args ds gs before hval hW hz hL
theorem QHw : Rows.ArmDerivesSaid :=
 OpenClaim.holds_of_cond 4 Tryz.f4 rfl rfl rfl rfl rfl rfl rfl ⟨rfl, rfl, rfl, rfl, rfl⟩ rfl rfl rfl rfl rfl (by kernel_rfl) Tryz.func4 (by kernel_rfl)
  (of_decide_eq_true (by kernel_rfl)) (by unfold Func.isWrapper; first | (rw [if_pos (by decide +kernel)]; kernel_rfl) | (rw [if_neg (by decide +kernel)]; exact ⟨rfl, rfl⟩))
  (fun os started H enc _ F => by rw [OpenClaim.pre_eq_preRow]; exact QFd os started H enc F)
theorem plain (f : FuncId) (fn : Func) (hf : Tryz.pinned.checked.prog.funcNamed Rows.armDerivesRow.func = some f) (hfn : Tryz.pinned.checked.prog.funcs[f]? = some fn) :
    false = Tryz.pinned.checked.prog.looks [] ∧ ∀ (j : Nat) t, fn.params[j]? = some t → Tryz.pinned.checked.prog.wantsStandIn t = false := by
  obtain rfl : f = 4 := Option.some.inj ((show Tryz.prog.funcNamed Rows.armDerivesRow.func = some 4 by kernel_rfl).symm.trans hf) |>.symm
  obtain rfl : fn = Tryz.f4 := (Option.some.inj (Tryz.func4.symm.trans hfn)).symm
  refine ⟨by kernel_rfl, fun j t ht => ?_⟩
  rw [Tryz.params4] at ht
  have h26 : Tryz.prog.wantsStandIn 27 = false := by kernel_rfl
  have hm := Array.mem_of_getElem? ht
  simp at hm
  subst hm
  exact h26

theorem card : Rows.ArmDerivesCardSaid :=
  Claim7.holds_tied_plain_at .later [] _ _ _ _ QHw (fun _ h => by cases h) (by kernel_rfl) (fun _ h => by cases h) armDerives_row_tie rfl ⟨rfl, rfl⟩ (by kernel_rfl) rfl plain (by kernel_rfl)
end Go.Proofs.YtdkogbfamdnheaaGreatDoor.armDerives
namespace Go.Proofs.YtdkogbfamdnheaaGreatDoor
theorem armDerives_holds : Rows.ArmDerivesCardSaid := armDerives.card
end Go.Proofs.YtdkogbfamdnheaaGreatDoor
