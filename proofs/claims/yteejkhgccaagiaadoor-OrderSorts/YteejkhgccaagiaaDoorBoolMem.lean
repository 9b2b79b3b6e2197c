/- Lists of truths in memory (ImageWalk has the same for stage 1's seat). -/
import Derived.Test.YteejkhgccaagiaaDoorOfArgs
import Derived.Test.YteejkhgccaagiaaDoorOrdMem
namespace Go.Proofs.YteejkhgccaagiaaDoor
open Go.RowKit Go.Shelf Sx

def arrB (l : List Bool) : Array Value := (l.map Value.bool).toArray
theorem arrB_set (l : List Bool) (q : Nat) (b : Bool) : (arrB l).setIfInBounds q (.bool b) = arrB (l.set q b) := by simp [arrB]
theorem Tryd.infobool : (Tryd.prog.info? 4).map (fun i => (i.zero, i.size, i.bytes)) = some (some (.bool false), 1, 1) := by kernel_rfl
theorem make_bools (n : Nat) (h : n ≤ 256) (w : World) : (Instr.makeSlice 91 (.int .i64 n) (.int .i64 n)).run Tryd.prog w = .ok (.slice (some ⟨w.heap.size, 0, none⟩) n n) (w.alloc (.cells (arrB (List.replicate n false)) 4)) := by
  obtain ⟨i, hx, hz, hs, hb⟩ := info_parts Tryd.infobool
  have := run_make (P := Tryd.prog) w 91 4 i _ Tryd.underlying91 hx hz .i64 .i64 n n (by omega) (by omega) (by rw [hb]; omega) (by omega)
  rw [this, hs]
  have e : madeCells (Value.bool false).cells ((n : Int).toNat * 1) = arrB (List.replicate n false) := by
    apply Array.toList_inj.1
    rw [Int.toNat_natCast, Nat.mul_one, show (Value.bool false).cells = #[.bool false] from rfl, toList_madeCells_one]
    simp [arrB]
  rw [e]
  rfl
end Go.Proofs.YteejkhgccaagiaaDoor
