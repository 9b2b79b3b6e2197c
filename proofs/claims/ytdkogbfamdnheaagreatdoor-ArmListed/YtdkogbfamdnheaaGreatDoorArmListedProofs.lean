import Derived.Test.YtdkogbfamdnheaaGreatDoorTie
import Derived.Test.YtdkogbfamdnheaaGreatDoorGArgs
import Derived.Test.YtdkogbfamdnheaaGreatDoorArLs
import Derived.Test.YtdkogbfamdnheaaGreatDoorArLaidI
namespace Go.Proofs.YtdkogbfamdnheaaGreatDoor.armListed
open Go.ChangeShapes Go.WideShapes Go.ChangeAt Go.RowKit Go.Shelf Sx
set_option maxRecDepth 100000
set_option maxHeartbeats 16000000
set_option linter.unusedSimpArgs false
set_option linter.unusedVariables false
def Quw (cs : Array Value) : Obj → Obj
 | .cells _ t frozen => .cells cs t frozen
 | o => o
def Qs4 (W : World) : World := { W with heap := (W.heap.modify 0 (Quw (Lib.deBruijn64tab.map fun n => Value.int .u8 ((n : Nat) : Int)).toArray)).modify 1 (Quw (frmL.flatMap fun x => [Value.int .i64 x.1, Value.int .i64 x.2]).toArray) }
theorem Qk0 (H : Type) (enc : TypeId × Value → H) (W : World) (base : Nat) (args : Array Value) (ds gs : List (DataW H)) (before : List MemPlace)
  (hval : ∀ (j : Nat) t v, Tryz.f8.params[j]? = some t → args[j]? = some v → Value.okWide Tryz.prog W .any base t v)
  (hW : DataW.Whole enc Tryz.prog Tryz.f8.params.toList Rows.armListedSpec.vars false W args.toList ds gs before) (hz : (DataW.weightsEach Tryz.prog (Tryz.f8.params.toList ++ (OpenSpec.ofChange Rows.armListedSpec).bare.plain.varTypes Tryz.prog) (ds ++ gs)).all (· ≤ reachBytes) = true) (hL : laidMetH Tryz.prog Rows.armListedRow.laid W) :
  Calls Tryz.prog 8 args W fun e W' => ∃ v, e = .returned v ∧ Rows.armListedSpec.post enc Tryz.prog Tryz.f8 false true false false W args v W' := by
 have hW' := hW
 obtain ⟨p, q, hA0, hV, rfl, hfz, hnd⟩ := hW
 have hA : DataW.TrodAll enc Tryz.prog W 0 (fun _ => true) true Tryz.f8.params.toList args.toList ds p := hA0
 rw [Tryz.params8] at hA hval
 obtain ⟨v0, vs0, d0, ds0, p0, q0, hargs, rfl, rfl, h0, r0⟩ := trodAll_cons hA
 obtain ⟨v1, vs1, d1, ds1, p1, q1, rfl, rfl, rfl, h1, r1⟩ := trodAll_cons r0
 obtain ⟨rfl, rfl, rfl⟩ := trodAll_nil r1
 obtain rfl : args = #[v0, v1] := by cases args; simp_all
 obtain ⟨rfl, rfl⟩ := trodVars_none hV
 have hz0 : ∀ k ∈ d0.weights Tryz.prog 27, k ≤ reachBytes := by
  intro k hk
  have := List.all_eq_true.1 hz k (DataW.weights_mem_each (j := 0) (t := 27) (d := d0) (by rw [Tryz.params8]; rfl) rfl k hk)
  simpa using this
 obtain ⟨V, g, rfl, hG, hGB⟩ := Qwp (hval 0 27 v0 rfl rfl) h0 hz0
 have hz1 : ∀ k ∈ d1.weights Tryz.prog 36, k ≤ reachBytes := by
  intro k hk
  have := List.all_eq_true.1 hz k (DataW.weights_mem_each (j := 1) (t := 36) (d := d1) (by rw [Tryz.params8]; rfl) rfl k hk)
  simpa using this
 obtain ⟨a1, len1, cap1, rfl⟩ := okWide_slice Tryz.underlying36 (hval 1 36 v1 rfl rfl)
 obtain ⟨f1, hf1⟩ := id h1
 obtain ⟨ms, hms, hm8, _⟩ := Qsv hf1 hz1
 clear hA0
 have hlt : ∀ x ∈ p0 ++ (p1 ++ []), x.block < W.heap.size := fun x hx => hW'.lt x (by simpa using hx)
 refine (Ql7 V g _ ms W hG hGB hms hm8 (Qrb hL) (Qra hL)).mono fun e W' ⟨he, hB⟩ => ?_
 subst he
 have st : ∀ (t : TypeId) (v : Value) (d : DataW H) (ps : List MemPlace), (Tryz.prog.readableRec t = true) → t < Tryz.prog.types.size → (∀ x ∈ ps, x.block < W.heap.size) → DataW.Trod enc Tryz.prog W 0 (fun _ => true) true t v d ps →
   DataW.Trod enc Tryz.prog W' 0 (fun b => decide (b < W.heap.size)) true t v d ps := fun t v d ps h1 h2 hp h =>
  WideElems.Trod_stays Qxs h1 h2 h (fun x hx => hB.same (hp x hx)) (fun x hx => by simpa using hp x hx)
 refine ⟨_, rfl, _, _, _, [], _, [], hW', trodAll_cons_mk (shut_bool Tryz.underlying4 _) trodAll_mk0, trodAll_cons_mk (st _ _ d0 p0 kW (of_decide_eq_true kW) (fun x hx => hlt x (by simp [hx])) h0) (trodAll_cons_mk (st _ _ d1 p1 kW (of_decide_eq_true kW) (fun x hx => hlt x (by simp [hx])) h1) trodAll_mk0), rfl, Qos hB _, fun h => by cases h⟩
theorem Qwx (os : Os) : laidMet Tryz.prog Rows.armListedRow.laid ((Qs4 (World.holding Tryz.prog os ⟨#[], #[], []⟩)).forCall (fun _ _ => 0) ⟨#[], #[.agg #[.int .i64 0, .slice none 0 0, .slice none 0 0, .slice none 0 0, .slice none 0 0, .slice none 0 0, .slice none 0 0, .slice none 0 0], .slice none 0 0], []⟩).memory :=
 laidMet_of_run' 8 kW kW
theorem reads (os : Os) {H : Type} (enc : TypeId × Value → H) : ∃ places, DataW.whole enc Tryz.prog ((Qs4 (World.holding Tryz.prog os ⟨#[], #[], []⟩)).forCall (fun _ _ => 0) ⟨#[], #[.agg #[.int .i64 0, .slice none 0 0, .slice none 0 0, .slice none 0 0, .slice none 0 0, .slice none 0 0, .slice none 0 0, .slice none 0 0], .slice none 0 0], []⟩).memory Tryz.f8.params.toList Rows.armListedSpec.vars false (#[.agg #[.int .i64 0, .slice none 0 0, .slice none 0 0, .slice none 0 0, .slice none 0 0, .slice none 0 0, .slice none 0 0, .slice none 0 0], .slice none 0 0] : Array Value).toList 8 = some ([.agg [.lit (.int .i64 0), .nil, .nil, .nil, .nil, .nil, .nil, .nil], .nil], [], places) :=
 ⟨[], by kernel_rfl⟩
theorem QA0 (os : Os) (started : os.Started) (H : Type) (enc : TypeId × Value → H) (F : Stop.Interp) :
  ReturnsInHanded {} Tryz.checked os 8 .any ((OpenSpec.ofChange Rows.armListedSpec).preRow enc Tryz.prog Tryz.f8 Rows.armListedRow.domain false Rows.armListedRow.laid) (((OpenSpec.ofChange Rows.armListedSpec).at F).post enc Tryz.prog Tryz.f8 false true false false) := by
 obtain ⟨places, hx⟩ := reads os enc
 refine returnsInHanded_of_row (C := Tryz.checked) (s := OpenSpec.ofChange Rows.armListedSpec) QCy started kW Tryz.func8
  (witness_row_at (enc := enc) (C := Tryz.checked) false (Qs4 (World.holding Tryz.prog os ⟨#[], #[], []⟩)) #[.agg #[.int .i64 0, .slice none 0 0, .slice none 0 0, .slice none 0 0, .slice none 0 0, .slice none 0 0, .slice none 0 0, .slice none 0 0], .slice none 0 0] rfl kW kW kW
   (OpenSpec.preRow_of_cond 8 hx kW (fun k hk => by cases hk) kW (Qwx os))) ?_
 intro W base args ds gs before hval hW _ _ hz hL _ _
 exact Qk0 H enc W base args ds gs before hval hW hz hL
theorem QC6 : Rows.ArmListedSaid :=
 OpenClaim.holds_of_cond 8 Tryz.f8 rfl rfl rfl rfl rfl rfl rfl ⟨rfl, rfl, rfl, rfl, rfl⟩ rfl rfl rfl rfl rfl kW Tryz.func8 kW
  (of_decide_eq_true kW) (by unfold Func.isWrapper; first | (rw [if_pos (by decide +kernel)]; kernel_rfl) | (rw [if_neg (by decide +kernel)]; exact ⟨rfl, rfl⟩))
  (fun os started H enc _ F => by rw [OpenClaim.pre_eq_preRow]; exact QA0 os started H enc F)
theorem plain (f : FuncId) (fn : Func) (hf : Tryz.pinned.checked.prog.funcNamed Rows.armListedRow.func = some f) (hfn : Tryz.pinned.checked.prog.funcs[f]? = some fn) :
  false = Tryz.pinned.checked.prog.looks [] ∧ ∀ (j : Nat) t, fn.params[j]? = some t → Tryz.pinned.checked.prog.wantsStandIn t = false := by
 obtain rfl : f = 8 := Option.some.inj ((show Tryz.prog.funcNamed Rows.armListedRow.func = some 8 by kernel_rfl).symm.trans hf) |>.symm
 obtain rfl : fn = Tryz.f8 := (Option.some.inj (Tryz.func8.symm.trans hfn)).symm
 refine ⟨by kernel_rfl, fun j t ht => ?_⟩
 rw [Tryz.params8] at ht
 have h26 : Tryz.prog.wantsStandIn 27 = false := by kernel_rfl
 have h45 : Tryz.prog.wantsStandIn 36 = false := by kernel_rfl
 have hm := Array.mem_of_getElem? ht
 simp at hm
 rcases hm with rfl | rfl
 ·exact h26
 ·exact h45
theorem card : Rows.ArmListedCardSaid :=
 Claim7.holds_tied_plain_at .later [] _ _ _ _ QC6 (fun _ h => by cases h) kW (fun _ h => by cases h) armListed_row_tie rfl ⟨rfl, rfl⟩ kW rfl plain kW
end Go.Proofs.YtdkogbfamdnheaaGreatDoor.armListed
namespace Go.Proofs.YtdkogbfamdnheaaGreatDoor
theorem armListed_holds : Rows.ArmListedCardSaid := armListed.card
end Go.Proofs.YtdkogbfamdnheaaGreatDoor
