/- The contracts of a Snap's registers and looks, in the run of one goroutine. -/
import Derived.Test.YtecolbdnaipgdaaAtAwake
import Derived.Deep.RegionHeldLaw
import Derived.Deep.AppendLies
namespace Go.Proofs.Ytecolbdnaipgdaa
open Go.RowKit

theorem lies_record : liesAt Try.prog Try.prog.depth 49 (2 / Try.prog.cellsOf 49) 0 49 1 = true := by kernel_rfl
theorem infoRecord : (Try.prog.info? 49).map (fun i => i.size) = some 2 := by kernel_rfl
theorem Try.infoprec : (Try.prog.info? 47).map (fun i => (i.zero, i.size, i.bytes)) = some (some (.pointer none), 1, 8) := by kernel_rfl
theorem PtrTo.rec_from {w : World} {p : Option Addr} (h : PtrTo w 49 2 p) : (convert 59 47 (.pointer p)).run Try.prog w = .ok (.pointer p) w := by
  rcases h with rfl | ⟨b, cs, rfl, hB, hn⟩
  · exact conv_from_nil Try.underlying59 Try.underlying47 w
  · exact conv_from Try.underlying59 Try.underlying47 (isSome_of_map infoRecord) hB (by have h := lies_record; rw [← hn] at h; exact h)
theorem PtrTo.rec_to {w : World} {p : Option Addr} (h : PtrTo w 49 2 p) : (convert 47 59 (.pointer p)).run Try.prog w = .ok (.pointer p) w := by
  rcases h with rfl | ⟨b, cs, rfl, hB, hn⟩
  · exact conv_to_nil Try.underlying47 Try.underlying59 w
  · exact run_convert_to_unsafe Try.underlying47 Try.underlying59 (by kernel_rfl) (hB.cell (j := 0) (Array.getElem?_eq_getElem (by omega)))
set_option maxHeartbeats 400000 in
theorem recLoad_calls (b o : Nat) (p : Option Addr) (w : World) (hc : w.cell? ⟨b, o, none⟩ = some (.pointer p)) (hp : PtrTo w 49 2 p) :
    Calls Try.prog 30 #[.pointer (some ⟨b, o, none⟩)] w fun e w' => e = .returned (.pointer p) ∧ w' = w := by
  have h1 := xLoadPtr_run hc
  have h2 := hp.rec_from
  go_enter Try.func30, Try.ntmps30
  go_wp2_with fail
  go_ret
  exact ⟨rfl, rfl⟩
set_option maxHeartbeats 400000 in
theorem recCAS_calls (b o : Nat) (p q : Option Addr) (w : World) (hc : w.cell? ⟨b, o, none⟩ = some (.pointer p)) (hz : w.frozen? ⟨b, o, none⟩ = false) (hp : PtrTo w 49 2 p) (hq : PtrTo w 49 2 q) :
    Calls Try.prog 31 #[.pointer (some ⟨b, o, none⟩), .pointer p, .pointer q] w fun e w' => e = .returned (.bool true) ∧ w' = w.setCell ⟨b, o, none⟩ (.pointer q) := by
  have h1 := xCASPtr_run (y := q) hc hz
  have h2 := hp.rec_to
  have h3 := hq.rec_to
  go_enter Try.func31, Try.ntmps31
  go_wp2_with fail
  go_ret
  exact ⟨rfl, rfl⟩
set_option maxHeartbeats 400000 in
theorem recStore_calls (b o : Nat) (u : Value) (p : Option Addr) (w : World) (hc : w.cell? ⟨b, o, none⟩ = some u) (hz : w.frozen? ⟨b, o, none⟩ = false) (hp : PtrTo w 49 2 p) :
    Calls Try.prog 41 #[.pointer (some ⟨b, o, none⟩), .pointer p] w fun e w' => e = .returned (.tuple #[]) ∧ w' = w.setCell ⟨b, o, none⟩ (.pointer p) := by
  have h1 := xStorePtr_run (y := p) hc hz
  have h2 := hp.rec_to
  go_enter Try.func41, Try.ntmps41
  go_wp2_with fail
  go_end0
  exact ⟨rfl, rfl⟩
end Go.Proofs.Ytecolbdnaipgdaa
