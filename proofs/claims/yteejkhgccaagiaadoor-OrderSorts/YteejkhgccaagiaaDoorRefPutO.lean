/- The contract of the document's own Put. -/
import Derived.Test.YteejkhgccaagiaaDoorRefMkO
import Derived.Laws.ResultCell
namespace Go.Proofs.YteejkhgccaagiaaDoor
open Go.RowKit Go.Shelf Sx

theorem ret_ref2 {fn : Func} {p u : Tmp} {tmps : Array Value} {w : World} {g : Nat} {N M v : Value} (h : fn.results = #[.cell p 46, .tmp u]) (hp : tmps.getD p undef = .pointer (some ⟨g, 0, none⟩)) (hu : tmps.getD u undef = v) (hb : Blk w g 46 #[N, M]) :
    (results fn tmps).run Tryd.prog w = .ok (.tuple #[.agg #[N, M], v]) w := by
  have hl := run_loadVar_row (P := Tryd.prog) w g 46 46 #[N, M] (0, 0) _ hb Tryd.underlying46 rfl (by kernel_rfl)
  rw [results_cell_tmp h, hp, hu]
  simp [asAddr, hl]
def putF (n : Nat) (F : Nat → Nat → Bool) (a b : Int) (v : Bool) : Nat → Nat → Bool := if inR n a && inR n b then upd F a.toNat b.toNat v else F
def putcF (n : Nat) (F : Nat → Nat → Bool) (a b : Int) (v : Bool) : Bool := inR n a && (inR n b && (F a.toNat b.toNat != v))
theorem upd_same {F : Nat → Nat → Bool} {p q : Nat} {v : Bool} (h : F p q = v) (x y : Nat) : F x y = upd F p q v x y := by
  unfold upd
  split
  · rename_i e; rw [e.1, e.2, h]
  · rfl

end Go.Proofs.YteejkhgccaagiaaDoor
