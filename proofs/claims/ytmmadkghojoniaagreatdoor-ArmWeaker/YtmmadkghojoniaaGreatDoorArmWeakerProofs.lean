/- The statement ArmWeaker holds: at whatever graph and lists of numbers and of truths, in whatever world that holds the standard library's table of bits and the program's table of modes, the program answers true and leaves all old memory as it was. -/
import Derived.Test.YtmmadkghojoniaaGreatDoorCards
import Derived.Test.YtmmadkghojoniaaGreatDoorTie
import Derived.Test.YtmmadkghojoniaaGreatDoorJ14
import Derived.Test.YtmmadkghojoniaaGreatDoorJ37
import Derived.WalkKit
import Derived.ProofKit
import Derived.OpenShut
import Derived.SizedLaws
import Derived.Deep.DeepHandedRow
import Derived.Test.YtmmadkghojoniaaGreatDoorArLaidW
namespace Go.Proofs.YtmmadkghojoniaaGreatDoor.armWeaker
open Go.ChangeShapes Go.WideShapes Go.ChangeAt Go.RowKit Go.Shelf Sx
def putTab (cs : Array Value) : Obj → Obj
  | .cells _ t frozen => .cells cs t frozen
  | o => o
def laidW (W : World) : World := { W with heap := (W.heap.modify 0 (putTab (Lib.deBruijn64tab.map fun n => Value.int .u8 ((n : Nat) : Int)).toArray)).modify 1 (putTab (frmL.flatMap fun x => [Value.int .i64 x.1, Value.int .i64 x.2]).toArray) }
set_option maxRecDepth 100000 in
theorem contract (H : Type) (enc : TypeId × Value → H) (W : World) (base : Nat) (args : Array Value) (ds gs : List (DataW H)) (before : List MemPlace)
    (hval : ∀ (j : Nat) t v, Tryz.f6.params[j]? = some t → args[j]? = some v → Value.okWide Tryz.prog W .any base t v)
    (hW : DataW.Whole enc Tryz.prog Tryz.f6.params.toList Rows.armWeakerSpec.vars false W args.toList ds gs before) (hz : (DataW.weightsEach Tryz.prog (Tryz.f6.params.toList ++ (OpenSpec.ofChange Rows.armWeakerSpec).bare.plain.varTypes Tryz.prog) (ds ++ gs)).all (· ≤ reachBytes) = true) (hL : laidMetH Tryz.prog Rows.armWeakerRow.laid W) :
    Calls Tryz.prog 6 args W fun e W' => ∃ v, e = .returned v ∧ Rows.armWeakerSpec.post enc Tryz.prog Tryz.f6 false true false false W args v W' := by
  have hW' := hW
  obtain ⟨p, q, hA0, hV, rfl, hfz, hnd⟩ := hW
  have hA : DataW.TrodAll enc Tryz.prog W 0 (fun _ => true) true Tryz.f6.params.toList args.toList ds p := hA0
  rw [Tryz.params6] at hA hval
  obtain ⟨v0, vs0, d0, ds0, p0, q0, hargs, rfl, rfl, h0, r0⟩ := trodAll_cons hA
  obtain ⟨v1, vs1, d1, ds1, p1, q1, rfl, rfl, rfl, h1, r1⟩ := trodAll_cons r0
  obtain ⟨v2, vs2, d2, ds2, p2, q2, rfl, rfl, rfl, h2, r2⟩ := trodAll_cons r1
  obtain ⟨rfl, rfl, rfl⟩ := trodAll_nil r2
  obtain rfl : args = #[v0, v1, v2] := by cases args; simp_all
  obtain ⟨rfl, rfl⟩ := trodVars_none hV
  have hz0 : ∀ k ∈ d0.weights Tryz.prog 27, k ≤ reachBytes := by
    intro k hk
    have := List.all_eq_true.1 hz k (DataW.weights_mem_each (j := 0) (t := 27) (d := d0) (by rw [Tryz.params6]; rfl) rfl k hk)
    simpa using this
  obtain ⟨V, g, rfl, hG, hGB⟩ := arg_graph (hval 0 27 v0 rfl rfl) h0 hz0
  have hz1 : ∀ k ∈ d1.weights Tryz.prog 36, k ≤ reachBytes := by
    intro k hk
    have := List.all_eq_true.1 hz k (DataW.weights_mem_each (j := 1) (t := 36) (d := d1) (by rw [Tryz.params6]; rfl) rfl k hk)
    simpa using this
  obtain ⟨a1, len1, cap1, rfl⟩ := okWide_slice Tryz.underlying36 (hval 1 36 v1 rfl rfl)
  obtain ⟨f1, hf1⟩ := id h1
  obtain ⟨ms, hms, hm8, hm9⟩ := arg_its hf1 hz1
  obtain ⟨a2, len2, cap2, rfl⟩ := okWide_slice Tryz.underlying65 (hval 2 65 v2 rfl rfl)
  obtain ⟨f2, hf2⟩ := id h2
  obtain ⟨ks, hks, hkl⟩ := arg_bls hf2
  clear hA0
  have hlt : ∀ x ∈ p0 ++ (p1 ++ (p2 ++ [])), x.block < W.heap.size := fun x hx => hW'.lt x (by simpa using hx)
  refine (ArmWeaker_calls V g _ ms _ ks W hG hGB ⟨hms, by omega, hm9⟩ hks hkl (frm_of_laid hL) (tab_of_laid hL)).mono fun e W' ⟨he, hB⟩ => ?_
  subst he
  have st : ∀ (t : TypeId) (v : Value) (d : DataW H) (ps : List MemPlace), (Tryz.prog.readableRec t = true) → t < Tryz.prog.types.size → (∀ x ∈ ps, x.block < W.heap.size) → DataW.Trod enc Tryz.prog W 0 (fun _ => true) true t v d ps →
      DataW.Trod enc Tryz.prog W' 0 (fun b => decide (b < W.heap.size)) true t v d ps := fun t v d ps h1 h2 hp h =>
    WideElems.Trod_stays laidOutP h1 h2 h (fun x hx => hB.same (hp x hx)) (fun x hx => by simpa using hp x hx)
  refine ⟨_, rfl, _, _, _, [], _, [], hW', trodAll_cons_mk (shut_bool Tryz.underlying4 _) trodAll_mk0, trodAll_cons_mk (st _ _ d0 p0 (by kernel_rfl) (of_decide_eq_true (by kernel_rfl)) (fun x hx => hlt x (by simp [hx])) h0) (trodAll_cons_mk (st _ _ d1 p1 (by kernel_rfl) (of_decide_eq_true (by kernel_rfl)) (fun x hx => hlt x (by simp [hx])) h1) (trodAll_cons_mk (st _ _ d2 p2 (by kernel_rfl) (of_decide_eq_true (by kernel_rfl)) (fun x hx => hlt x (by simp [hx])) h2) trodAll_mk0)), rfl, kept_of_below hB _, fun h => by cases h⟩
theorem laid_met (os : Os) : laidMet Tryz.prog Rows.armWeakerRow.laid ((laidW (World.holding Tryz.prog os ⟨#[], #[], []⟩)).forCall (fun _ _ => 0) ⟨#[], #[.agg #[.int .i64 0, .slice none 0 0, .slice none 0 0, .slice none 0 0, .slice none 0 0, .slice none 0 0, .slice none 0 0, .slice none 0 0], .slice none 0 0, .slice none 0 0], []⟩).memory :=
  laidMet_of_run' 8 (by kernel_rfl) (by kernel_rfl)
theorem reads (os : Os) {H : Type} (enc : TypeId × Value → H) : ∃ places, DataW.whole enc Tryz.prog ((laidW (World.holding Tryz.prog os ⟨#[], #[], []⟩)).forCall (fun _ _ => 0) ⟨#[], #[.agg #[.int .i64 0, .slice none 0 0, .slice none 0 0, .slice none 0 0, .slice none 0 0, .slice none 0 0, .slice none 0 0, .slice none 0 0], .slice none 0 0, .slice none 0 0], []⟩).memory Tryz.f6.params.toList Rows.armWeakerSpec.vars false (#[.agg #[.int .i64 0, .slice none 0 0, .slice none 0 0, .slice none 0 0, .slice none 0 0, .slice none 0 0, .slice none 0 0, .slice none 0 0], .slice none 0 0, .slice none 0 0] : Array Value).toList 8 = some ([.agg [.lit (.int .i64 0), .nil, .nil, .nil, .nil, .nil, .nil, .nil], .nil, .nil], [], places) :=
  ⟨[], by kernel_rfl⟩
set_option maxRecDepth 100000 in
theorem lifted (os : Os) (started : os.Started) (H : Type) (enc : TypeId × Value → H) (F : Stop.Interp) :
    ReturnsInHanded {} Tryz.checked os 6 .any ((OpenSpec.ofChange Rows.armWeakerSpec).preRow enc Tryz.prog Tryz.f6 Rows.armWeakerRow.domain false Rows.armWeakerRow.laid) (((OpenSpec.ofChange Rows.armWeakerSpec).at F).post enc Tryz.prog Tryz.f6 false true false false) := by
  obtain ⟨places, hx⟩ := reads os enc
  refine returnsInHanded_of_row (C := Tryz.checked) (s := OpenSpec.ofChange Rows.armWeakerSpec) ownKn started (by kernel_rfl) Tryz.func6
    (witness_row_at (enc := enc) (C := Tryz.checked) false (laidW (World.holding Tryz.prog os ⟨#[], #[], []⟩)) #[.agg #[.int .i64 0, .slice none 0 0, .slice none 0 0, .slice none 0 0, .slice none 0 0, .slice none 0 0, .slice none 0 0, .slice none 0 0], .slice none 0 0, .slice none 0 0] rfl (by kernel_rfl) (by kernel_rfl) (by kernel_rfl)
      (OpenSpec.preRow_of_cond 8 hx (by kernel_rfl) (fun k hk => by cases hk) (by kernel_rfl) (laid_met os))) ?_
  intro W base args ds gs before hval hW _ _ hz hL _ _
  exact contract H enc W base args ds gs before hval hW hz hL
theorem said : Rows.ArmWeakerSaid :=
  OpenClaim.holds_of_cond 6 Tryz.f6 rfl rfl rfl rfl rfl rfl rfl ⟨rfl, rfl, rfl, rfl, rfl⟩ rfl rfl rfl rfl rfl (by kernel_rfl) Tryz.func6 (by kernel_rfl)
    (of_decide_eq_true (by kernel_rfl)) (by unfold Func.isWrapper; first | (rw [if_pos (by decide +kernel)]; kernel_rfl) | (rw [if_neg (by decide +kernel)]; exact ⟨rfl, rfl⟩))
    (fun os started H enc _ F => by rw [OpenClaim.pre_eq_preRow]; exact lifted os started H enc F)
theorem plain (f : FuncId) (fn : Func) (hf : Tryz.pinned.checked.prog.funcNamed Rows.armWeakerRow.func = some f) (hfn : Tryz.pinned.checked.prog.funcs[f]? = some fn) :
    false = Tryz.pinned.checked.prog.looks [] ∧ ∀ (j : Nat) t, fn.params[j]? = some t → Tryz.pinned.checked.prog.wantsStandIn t = false := by
  obtain rfl : f = 6 := Option.some.inj ((show Tryz.prog.funcNamed Rows.armWeakerRow.func = some 6 by kernel_rfl).symm.trans hf) |>.symm
  obtain rfl : fn = Tryz.f6 := (Option.some.inj (Tryz.func6.symm.trans hfn)).symm
  refine ⟨by kernel_rfl, fun j t ht => ?_⟩
  rw [Tryz.params6] at ht
  have h26 : Tryz.prog.wantsStandIn 27 = false := by kernel_rfl
  have h45 : Tryz.prog.wantsStandIn 36 = false := by kernel_rfl
  have h46 : Tryz.prog.wantsStandIn 65 = false := by kernel_rfl
  have hm := Array.mem_of_getElem? ht
  simp at hm
  rcases hm with rfl | rfl | rfl
  · exact h26
  · exact h45
  · exact h46
theorem card : Rows.ArmWeakerCardSaid :=
  Claim7.holds_tied_plain_at .later [] _ _ _ _ said (fun _ h => by cases h) (by kernel_rfl) (fun _ h => by cases h) armWeaker_row_tie rfl ⟨rfl, rfl⟩ (by kernel_rfl) rfl plain (by kernel_rfl)
end Go.Proofs.YtmmadkghojoniaaGreatDoor.armWeaker
namespace Go.Proofs.YtmmadkghojoniaaGreatDoor
theorem armWeaker_holds : Rows.ArmWeakerCardSaid := armWeaker.card
end Go.Proofs.YtmmadkghojoniaaGreatDoor
