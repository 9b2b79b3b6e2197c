/- The contracts of package sync/atomic's methods that the program calls, in the run of one goroutine. -/
import Derived.Test.YtecolbdnaipgdaaChecked
import Derived.Test.YtecolbdnaipgdaaMem
import Derived.WalkKit
import Derived.Laws.LoneSync
namespace Go.Proofs.Ytecolbdnaipgdaa
open Go.RowKit

abbrev pv (b : Nat) : Value := .pointer (some ⟨b, 0, none⟩)
theorem Blk.new2 (w : World) (o : Obj) (t : TypeId) (cs : Array Value) : Blk ((w.alloc o).alloc (.cells cs t)) (w.heap.size + 1) t cs := by
  have := Blk.new (w.alloc o) t cs
  simpa using this
theorem xLoadI64_run {a : Addr} {x : Int} {w : World} (hc : w.cell? a = some (.int .i64 x)) : (callFunc 38 #[.pointer (some a)]).run Try.prog w = .ok (.value (.int .i64 x)) w :=
  run_call_load Try.func38 (by kernel_rfl) (by kernel_rfl) (by kernel_rfl) .i64 (by kernel_rfl) hc
theorem xAddI64_run {a : Addr} {x y s : Int} {w : World} (hc : w.cell? a = some (.int .i64 x)) (hz : w.frozen? a = false) (hs : IntKind.i64.wrap (x + y) = s) : (callFunc 37 #[.pointer (some a), .int .i64 y]).run Try.prog w = .ok (.value (.int .i64 s)) (w.setCell a (.int .i64 s)) :=
  run_call_add Try.func37 (by kernel_rfl) (by kernel_rfl) (by kernel_rfl) .i64 (by kernel_rfl) hc hz (by subst hs; simp [go_sem])
theorem xLoadPtr_run {a : Addr} {x : Option Addr} {w : World} (hc : w.cell? a = some (.pointer x)) : (callFunc 36 #[.pointer (some a)]).run Try.prog w = .ok (.value (.pointer x)) w := by
  rw [run_callFunc_extern Try.func36 (by kernel_rfl) (by kernel_rfl) (by kernel_rfl) (e := Extern.Atomic.loadT .ptr) (by kernel_rfl)]
  change (Sem.run Try.prog (do Extern.Atomic.read .ptr (← asAddr (.pointer (some a)))) w).andThen _ = _
  simp [Extern.Atomic.read, asAddr, hc, Result.andThen]
theorem xStorePtr_run {a : Addr} {y : Option Addr} {u : Value} {w : World} (hc : w.cell? a = some u) (hz : w.frozen? a = false) : (callFunc 48 #[.pointer (some a), .pointer y]).run Try.prog w = .ok (.value (.tuple #[])) (w.setCell a (.pointer y)) := by
  rw [run_callFunc_extern Try.func48 (by kernel_rfl) (by kernel_rfl) (by kernel_rfl) (e := Extern.Atomic.storeT) (by kernel_rfl)]
  change (Sem.run Try.prog (do
    store (← asAddr (.pointer (some a))) (.pointer y) .atomic
    pure Extern.Atomic.none_) w).andThen _ = _
  simp [asAddr, hc, hz, run_store Try.prog w a (.pointer y) .atomic rfl, Result.andThen, Extern.Atomic.none_]

end Go.Proofs.Ytecolbdnaipgdaa
