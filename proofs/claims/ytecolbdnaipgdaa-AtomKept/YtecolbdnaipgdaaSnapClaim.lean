/- claim and Update. -/
import Derived.Test.YtecolbdnaipgdaaSnapMake2
import Derived.LaidEqlPtr
namespace Go.Proofs.Ytecolbdnaipgdaa
open Go.RowKit

theorem ptr_eql_same (q : Option Addr) (w : World) : (binOp .eql 47 (.pointer q) (.pointer q)).run Try.prog w = .ok (.bool true) w := by
  obtain ⟨j, hj, _⟩ := Option.map_eq_some_iff.1 infoRecord
  cases q with
  | none =>
    have h : ∀ d : Nat, (Op.equalIn (d + 1) 47 (.pointer none) (.pointer none)).run Try.prog w = .ok true w := fun d => by
      simp [Op.equalIn, run_underlying Try.underlying47]
    simp only [binOp]
    simp [Op.equal, Op.maxDepth, h 9999]
  | some a => exact run_eql_ptr_same w a Try.underlying47 hj
set_option maxRecDepth 100000 in
set_option maxHeartbeats 4000000 in
theorem claim_calls (S R K r i OWN : Nat) (hi : i < r) (q : Option Addr) (rs ks os : Array Value) (w : World) (hS : Blk w S 46 #[.slice (some ⟨R, 0, none⟩) r r, .slice (some ⟨K, 0, none⟩) r r]) (hR : Blk w R 101 rs) (hK : Blk w K 101 ks) (h1 : rs[i]? = some (.pointer q)) (h2 : ks[i]? = some (.pointer q)) (hq : PtrTo w 49 2 q) (hO : Blk w OWN 49 os) (hos : os.size = 2) :
    Calls Try.prog 18 #[pv S, .int .i64 ((i : Nat) : Int), pv OWN] w fun e w' => e = .returned (.bool true) ∧ Only [K] w w' := by
  have d0 := hS.cell (j := 0) rfl
  have d1 := hS.cell (j := 1) rfl
  have bi0 : (0 : Int) ≤ ((i : Nat) : Int) := by omega
  have bi1 : ((i : Nat) : Int) < ((r : Nat) : Int) := by omega
  have hE := ptr_eql_same q
  go_enter Try.func18, Try.ntmps18
  go_wp2_with fail
  refine (recLoad_calls K i q _ (hK.cell h2) hq).mono ?_
  rintro e w1 ⟨rfl, rfl⟩
  go_wp2_with fail
  refine (recLoad_calls R i q _ (hR.cell h1) hq).mono ?_
  rintro e w2 ⟨rfl, rfl⟩
  go_wp2_with fail
  refine (recCAS_calls K i q (some ⟨OWN, 0, none⟩) _ (hK.cell h2) (hK.frozen i) hq (.inr ⟨OWN, os, rfl, hO, hos⟩)).mono ?_
  rintro e w3 ⟨rfl, rfl⟩
  go_wp2_with fail
  go_ret
  exact ⟨rfl, Only.set _ (by simp) _ _⟩
theorem SnapAt.movedR {w w' : World} {S R K r : Nat} {regs : List (Option Addr)} {f : Nat → Int} (h : SnapAt w S R K r regs f) (hk : ∀ b t cs, Blk w b t cs → t = 46 ∨ t = 49 → Blk w' b t cs) (hR : ∀ cs, Blk w R 101 cs → Blk w' R 101 cs) : SnapAt w' S R K r regs f := by
  refine ⟨hk _ _ _ h.snap (by simp), hR _ h.regB, h.len, fun p hp => ?_, fun i p hi => ?_⟩
  · rcases h.ptr p hp with e | ⟨b, cs, e, h1, h2⟩
    · exact .inl e
    · exact .inr ⟨b, cs, e, hk _ _ _ h1 (by simp), h2⟩
  · rcases h.num i p hi with e | ⟨b, s, e, h1⟩
    · exact .inl e
    · exact .inr ⟨b, s, e, hk _ _ _ h1 (by simp)⟩
theorem only_then {bs : List Nat} {a b c : World} (h : Only bs a b) (k : Below a.heap.size b c) : Only bs a c :=
  ⟨k.os.trans h.os, k.tape.trans h.tape, k.output.trans h.output, Nat.le_trans h.size k.size, fun j hj hn => (k.block j hj).trans (h.block j hj hn)⟩
set_option maxRecDepth 100000 in
set_option maxHeartbeats 4000000 in
theorem Update_calls (S R K r i n : Nat) (hi : i < r) (hr : r ≤ 16) (v : Int) (regs : List (Option Addr)) (f : Nat → Int) (ks : Array Value) (w : World) (hn : n ≤ w.heap.size) (hS : SnapAt w S R K r regs f) (hRK : R ≠ K) (hK : Blk w K 101 ks) (h1 : regs[i]? = some none) (h2 : ks[i]? = some (.pointer none)) :
    Calls Try.prog 6 #[pv S, .int .i64 ((i : Nat) : Int), .int .u64 v] w fun e w' => ∃ T UP LK OWN MV, e = .returned (.tuple #[pv T, .int .i64 0]) ∧ w.heap.size ≤ T ∧ w.heap.size ≤ LK ∧ w.heap.size ≤ OWN ∧ UpRun w' n T UP LK OWN S R K MV r i 0 v false 0 regs f ∧ Only [K] w w' := by
  have d0 := (hS.snap.alloc (.cells #[.int .u64 v, .slice none 0 0] 49)).cell (j := 0) rfl
  have bi0 : ¬ ((i : Nat) : Int) < (0 : Int) := by omega
  have bi1 : ¬ ((r : Nat) : Int) ≤ ((i : Nat) : Int) := by omega
  go_enter Try.func6, Try.ntmps6
  go_wp2_with fail
  have hSA := hS.snap.alloc (.cells #[.int .u64 v, .slice none 0 0] 49)
  have hOA := Blk.new w 49 #[.int .u64 v, .slice none 0 0]
  refine (claim_calls S R K r i w.heap.size hi none _ ks _ _ hSA (hS.regB.alloc _) (hK.alloc _) (by simp [h1]) h2 (.inl rfl) hOA rfl).mono ?_
  rintro e w1 ⟨rfl, hO1⟩
  have hKlt := hK.lt
  have hzA : w.heap.size + 1 ≤ w1.heap.size := by have := hO1.size; simpa using this
  have hSB := (only_ne hO1 (hK.alloc _) hSA (by decide)).alloc (.cells (taskA .nilFunc 0 none) 73)
  have hOB := only_ne hO1 (hK.alloc _) hOA (by decide)
  have hS1 : SnapAt w1 S R K r regs f := hS.movedR (fun b t cs hb ht => only_ne hO1 (hK.alloc _) (hb.alloc _) (by rcases ht with rfl | rfl <;> decide)) (fun cs hb => (hb.alloc _).only hO1 (by simpa using hRK))
  have hOw : Only [K] w w1 := (Only.alloc _ w _).trans hO1
  clear d0
  go_wp2_with fail
  refine (newLook_calls S R K r n hr regs _ (by simp; omega) hSB).mono ?_
  rintro e w2 ⟨LK, MV, rfl, zL, hL, hB⟩
  have hT0 := (Blk.new w1 73 (taskA .nilFunc 0 none)).of_below hB
  have hT1 := hT0.alloc (.cells #[pv w1.heap.size, pv LK, .int .i64 ((i : Nat) : Int), pv w.heap.size] 77)
  have hC1 := Blk.new w2 77 #[pv w1.heap.size, pv LK, .int .i64 ((i : Nat) : Int), pv w.heap.size]
  have c0 := hC1.cell (j := 0) rfl
  have hs := store_run (v := .func (.func 20) #[pv w2.heap.size] #[]) rfl (hT1.cell (j := 0) rfl) (hT1.frozen 0)
  have hlt := hT0.lt
  have hz := hB.size
  have hCT := (hC1.setOther (a := ⟨w1.heap.size, 0, none⟩) (by simp; omega) (.func (.func 20) #[pv w2.heap.size] #[])).cell (j := 0) rfl
  go_wp2_with fail
  go_ret2
  have hO : Only [w1.heap.size] w2 ((w2.setCell ⟨w1.heap.size, 0, none⟩ (.func (.func 20) #[pv w2.heap.size] #[])).alloc (.cells #[pv w1.heap.size, pv LK, .int .i64 ((i : Nat) : Int), pv w.heap.size] 77)) := (Only.set _ (by simp) _ _).trans (Only.alloc _ _ _)
  have hTf := (hT0.set 0 (.func (.func 20) #[pv w2.heap.size] #[])).alloc (.cells #[pv w1.heap.size, pv LK, .int .i64 ((i : Nat) : Int), pv w.heap.size] 77)
  have hCf := Blk.new (w2.setCell ⟨w1.heap.size, 0, none⟩ (.func (.func 20) #[pv w2.heap.size] #[])) 77 #[pv w1.heap.size, pv LK, .int .i64 ((i : Nat) : Int), pv w.heap.size]
  rw [World.size_setCell] at hCf
  have hw1 : w1.heap.size + 1 ≤ w2.heap.size := by simpa using hz
  have zL' : w1.heap.size + 1 ≤ LK := by simpa using zL
  have hfar : ∀ p ∈ regs, p ≠ some ⟨w.heap.size, 0, none⟩ := fun p hp e => by
    rcases hS.ptr p hp with e2 | ⟨b, cs, e2, hb, _⟩
    · rw [e2] at e; cases e
    · rw [e2] at e
      injection e with e
      injection e with e _ _
      have := hb.lt
      omega
  have mv : ∀ b t cs, Blk w1 b t cs → t ≠ 73 → Blk _ b t cs := fun b t cs hb ht => only_ne hO hT0 ((hb.alloc _).of_below hB) ht
  refine ⟨w1.heap.size, w2.heap.size, LK, w.heap.size, MV, rfl, by omega, by omega, Nat.le_refl _, ⟨hTf, hCf, ⟨_, mv _ _ _ hOB (by decide)⟩, ⟨_, hL.moved (fun b t cs hb ht => only_ne hO hT0 hb (by rcases ht with rfl | rfl <;> decide)) hO.size⟩, hS1.moved (fun b t cs hb ht => mv _ _ _ hb (by rcases ht with rfl | rfl | rfl <;> decide)), hfar, by omega, by omega, hn⟩, ?_⟩
  exact only_then hOw ((((Below.refl _ w1).alloc (Nat.le_refl _) (.cells (taskA .nilFunc 0 none) 73)).trans ((hB.mono (by simp)).trans (hO.below (by simp) (by omega)))).mono (by omega))
end Go.Proofs.Ytecolbdnaipgdaa
