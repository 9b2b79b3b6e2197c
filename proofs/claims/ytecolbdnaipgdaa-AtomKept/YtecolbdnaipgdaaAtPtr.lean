/- The contracts of sync/atomic's pointers, in the run of one goroutine. -/
import Derived.Test.YtecolbdnaipgdaaAtLeaf
namespace Go.Proofs.Ytecolbdnaipgdaa
open Go.RowKit

theorem Blk.shape {w : World} {b : Nat} {t : TypeId} {cs : Array Value} (h : Blk w b t cs) : w.shape? b = some (t, cs.size) := by
  unfold World.shape?
  rw [show w.heap[b]? = _ from h]
theorem conv_from {src dst u : TypeId} (hs : Try.prog.underlying src = some .unsafePointer) (hd : Try.prog.underlying dst = some (.pointer u)) (hu : (Try.prog.info? u).isSome = true) {w : World} {b : Nat} {cs : Array Value} (hB : Blk w b u cs)
    (hlies : liesAt Try.prog Try.prog.depth u (cs.size / Try.prog.cellsOf u) 0 u 1 = true) : (convert src dst (.pointer (some ⟨b, 0, none⟩))).run Try.prog w = .ok (.pointer (some ⟨b, 0, none⟩)) w := by
  obtain ⟨i, hi⟩ := Option.isSome_iff_exists.1 hu
  have hsh := hB.shape
  simp [convert, run_underlying hs, run_underlying hd, Conv.unsafePointer, Conv.seenAt, viewAt, hsh, variablesAt, hlies, sizeOf, typeInfo, hi]
theorem conv_from_nil {src dst u : TypeId} (hs : Try.prog.underlying src = some .unsafePointer) (hd : Try.prog.underlying dst = some (.pointer u)) (w : World) : (convert src dst (.pointer none)).run Try.prog w = .ok (.pointer none) w := by
  simp [convert, run_underlying hs, run_underlying hd, Conv.unsafePointer]
theorem conv_to_nil {src dst u : TypeId} (hs : Try.prog.underlying src = some (.pointer u)) (hd : Try.prog.underlying dst = some .unsafePointer) (w : World) : (convert src dst (.pointer none)).run Try.prog w = .ok (.pointer none) w := by
  simp [convert, run_underlying hs, run_underlying hd, Conv.unsafePointer]
theorem lies_plate : liesAt Try.prog Try.prog.depth 94 (2 / Try.prog.cellsOf 94) 0 94 1 = true := by kernel_rfl
theorem lies_outcome : liesAt Try.prog Try.prog.depth 83 (3 / Try.prog.cellsOf 83) 0 83 1 = true := by kernel_rfl
/-- A pointer to a block of its type, or none. -/
def PtrTo (w : World) (t : TypeId) (n : Nat) (p : Option Addr) : Prop := p = none ∨ ∃ b cs, p = some ⟨b, 0, none⟩ ∧ Blk w b t cs ∧ cs.size = n
theorem infoPlate : (Try.prog.info? 94).map (fun i => i.size) = some 2 := by kernel_rfl
theorem infoOutcome : (Try.prog.info? 83).map (fun i => i.size) = some 3 := by kernel_rfl
theorem isSome_of_map {α β : Type} {o : Option α} {f : α → β} {b : β} (h : o.map f = some b) : o.isSome = true := by cases o with | none => cases h | some _ => rfl
theorem PtrTo.plate_from {w : World} {p : Option Addr} (h : PtrTo w 94 2 p) : (convert 59 85 (.pointer p)).run Try.prog w = .ok (.pointer p) w := by
  rcases h with rfl | ⟨b, cs, rfl, hB, hn⟩
  · exact conv_from_nil Try.underlying59 Try.underlying85 w
  · exact conv_from Try.underlying59 Try.underlying85 (isSome_of_map infoPlate) hB (by have h := lies_plate; rw [← hn] at h; exact h)
theorem PtrTo.plate_to {w : World} {p : Option Addr} (h : PtrTo w 94 2 p) : (convert 85 59 (.pointer p)).run Try.prog w = .ok (.pointer p) w := by
  rcases h with rfl | ⟨b, cs, rfl, hB, hn⟩
  · exact conv_to_nil Try.underlying85 Try.underlying59 w
  · exact run_convert_to_unsafe Try.underlying85 Try.underlying59 (by kernel_rfl) (hB.cell (j := 0) (Array.getElem?_eq_getElem (by omega)))
theorem PtrTo.out_from {w : World} {p : Option Addr} (h : PtrTo w 83 3 p) : (convert 59 57 (.pointer p)).run Try.prog w = .ok (.pointer p) w := by
  rcases h with rfl | ⟨b, cs, rfl, hB, hn⟩
  · exact conv_from_nil Try.underlying59 Try.underlying57 w
  · exact conv_from Try.underlying59 Try.underlying57 (isSome_of_map infoOutcome) hB (by have h := lies_outcome; rw [← hn] at h; exact h)
theorem PtrTo.out_to {w : World} {p : Option Addr} (h : PtrTo w 83 3 p) : (convert 57 59 (.pointer p)).run Try.prog w = .ok (.pointer p) w := by
  rcases h with rfl | ⟨b, cs, rfl, hB, hn⟩
  · exact conv_to_nil Try.underlying57 Try.underlying59 w
  · exact run_convert_to_unsafe Try.underlying57 Try.underlying59 (by kernel_rfl) (hB.cell (j := 0) (Array.getElem?_eq_getElem (by omega)))
theorem samePtr_run (p : Option Addr) (w : World) : (samePointer p p).run Try.prog w = .ok true w := by
  cases p with
  | none => rfl
  | some a => simp [samePointer, sameAddr]
theorem xCASPtr_run {a : Addr} {x y : Option Addr} {w : World} (hc : w.cell? a = some (.pointer x)) (hz : w.frozen? a = false) : (callFunc 39 #[.pointer (some a), .pointer x, .pointer y]).run Try.prog w = .ok (.value (.bool true)) (w.setCell a (.pointer y)) := by
  rw [run_callFunc_extern Try.func39 (by kernel_rfl) (by kernel_rfl) (by kernel_rfl) (e := Extern.Atomic.casT .ptr) (by kernel_rfl)]
  change (Sem.run Try.prog (do
    let a' ← asAddr (.pointer (some a))
    if ← Extern.Atomic.touchesFrozen a' then unsupported (.unsafePointer "a write to bytes that a string shares")
    let eq ← match Extern.Atomic.T.ptr, ← Extern.Atomic.read .ptr a', Value.pointer x with
      | _, .int _ x, .int _ y => pure (x == y)
      | .ptr, .pointer x, .pointer y => samePointer x y
      | .int _, .pointer (some _), .int _ 0 | .int _, .int _ 0, .pointer (some _) => pure false
      | .int _, .pointer (some _), _ | .int _, _, .pointer (some _) => unsupported .addressObserved
      | _, _, _ => stuck "atomic.CompareAndSwap: old is no T"
    if eq then store a' (.pointer y) .atomic
    pure (Value.bool eq)) w).andThen _ = _
  simp [Extern.Atomic.touchesFrozen, Extern.Atomic.read, asAddr, viewAt, World.shape?_isSome_of_cell? hc, hc, hz, samePtr_run, run_store Try.prog w a (.pointer y) .atomic rfl, Result.andThen]

set_option maxHeartbeats 400000 in
theorem plLoad_calls (b o : Nat) (p : Option Addr) (w : World) (hc : w.cell? ⟨b, o, none⟩ = some (.pointer p)) (hp : PtrTo w 94 2 p) :
    Calls Try.prog 66 #[.pointer (some ⟨b, o, none⟩)] w fun e w' => e = .returned (.pointer p) ∧ w' = w := by
  have h1 := xLoadPtr_run hc
  have h2 := hp.plate_from
  go_enter Try.func66, Try.ntmps66
  go_wp2_with fail
  go_ret
  exact ⟨rfl, rfl⟩
set_option maxHeartbeats 400000 in
theorem plCAS_calls (b o : Nat) (p q : Option Addr) (w : World) (hc : w.cell? ⟨b, o, none⟩ = some (.pointer p)) (hz : w.frozen? ⟨b, o, none⟩ = false) (hp : PtrTo w 94 2 p) (hq : PtrTo w 94 2 q) :
    Calls Try.prog 65 #[.pointer (some ⟨b, o, none⟩), .pointer p, .pointer q] w fun e w' => e = .returned (.bool true) ∧ w' = w.setCell ⟨b, o, none⟩ (.pointer q) := by
  have h1 := xCASPtr_run (y := q) hc hz
  have h2 := hp.plate_to
  have h3 := hq.plate_to
  go_enter Try.func65, Try.ntmps65
  go_wp2_with fail
  go_ret
  exact ⟨rfl, rfl⟩
set_option maxHeartbeats 400000 in
theorem outLoad_calls (b o : Nat) (p : Option Addr) (w : World) (hc : w.cell? ⟨b, o, none⟩ = some (.pointer p)) (hp : PtrTo w 83 3 p) :
    Calls Try.prog 27 #[.pointer (some ⟨b, o, none⟩)] w fun e w' => e = .returned (.pointer p) ∧ w' = w := by
  have h1 := xLoadPtr_run hc
  have h2 := hp.out_from
  go_enter Try.func27, Try.ntmps27
  go_wp2_with fail
  go_ret
  exact ⟨rfl, rfl⟩
set_option maxHeartbeats 400000 in
theorem outStore_calls (b o : Nat) (u : Value) (p : Option Addr) (w : World) (hc : w.cell? ⟨b, o, none⟩ = some u) (hz : w.frozen? ⟨b, o, none⟩ = false) (hp : PtrTo w 83 3 p) :
    Calls Try.prog 43 #[.pointer (some ⟨b, o, none⟩), .pointer p] w fun e w' => e = .returned (.tuple #[]) ∧ w' = w.setCell ⟨b, o, none⟩ (.pointer p) := by
  have h1 := xStorePtr_run (y := p) hc hz
  have h2 := hp.out_to
  go_enter Try.func43, Try.ntmps43
  go_wp2_with fail
  go_end0
  exact ⟨rfl, rfl⟩
set_option maxHeartbeats 400000 in
theorem i64Load_calls (b o : Nat) (x : Int) (w : World) (hc : w.cell? ⟨b, o, none⟩ = some (.int .i64 x)) :
    Calls Try.prog 29 #[.pointer (some ⟨b, o, none⟩)] w fun e w' => e = .returned (.int .i64 x) ∧ w' = w := by
  have h1 := xLoadI64_run hc
  go_enter Try.func29, Try.ntmps29
  go_wp2_with fail
  go_ret
  exact ⟨rfl, rfl⟩
set_option maxHeartbeats 400000 in
theorem i64Add_calls (b o : Nat) (x y s : Int) (w : World) (hc : w.cell? ⟨b, o, none⟩ = some (.int .i64 x)) (hz : w.frozen? ⟨b, o, none⟩ = false) (hs : IntKind.i64.wrap (x + y) = s) :
    Calls Try.prog 28 #[.pointer (some ⟨b, o, none⟩), .int .i64 y] w fun e w' => e = .returned (.int .i64 s) ∧ w' = w.setCell ⟨b, o, none⟩ (.int .i64 s) := by
  have h1 := xAddI64_run hc hz hs
  clear hs
  go_enter Try.func28, Try.ntmps28
  go_wp2_with fail
  go_ret
  exact ⟨rfl, rfl⟩
end Go.Proofs.Ytecolbdnaipgdaa
