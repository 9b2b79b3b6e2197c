/- slices.DeleteFunc at lists of lists, with order's own test. -/
import Derived.Test.YteejkhgccaagiaaDoorOrdCat
import Derived.Shelf.SlicesE.DeleteFunc
import Derived.Ground.SlgfProg
namespace Go.Proofs
open Go.Shelf
shelf_lay_g SlLaysH.n10 Slgf 10 at Tryd 82 as Tryd.laysDel
end Go.Proofs
namespace Go.Proofs.YteejkhgccaagiaaDoor
open Go.RowKit Go.Shelf Go.Lib Go.Sort Sx

/-- A slice's three parts. -/
abbrev SV := Option Addr × Nat × Nat
def encS (x : SV) : Value := .slice x.1 x.2.1 x.2.2
def emptyS (x : SV) : Bool := x.2.1 == 0
theorem glued2_gives (x : SV) (W : World) : FnGives Tryd.prog 83 #[] #[encS x] (.bool (emptyS x)) W := by
  obtain ⟨a, n, c⟩ := x
  show Calls Tryd.prog 83 #[.slice a n c] W _
  have e : emptyS (a, n, c) = ((n : Int) == 0) := by
    show (n == 0) = _
    rw [Bool.eq_iff_iff]; simp
  rw [e]
  go_enter Tryd.func83, Tryd.ntmps83
  go_wp2
  go_ret
  exact ⟨rfl, 0, rfl⟩
theorem zero_ints (w : World) : (zeroValue 29).run Tryd.prog w = .ok (encS (none, 0, 0)) w := by kernel_rfl
theorem slDel_calls (blk off cap : Nat) (d : Array SV) (w : World) (hH : Holds encS w blk off d) (hsz : d.size ≤ 9223372036854775807) (hcap : d.size ≤ cap) :
    Calls Tryd.prog 82 #[.slice (some ⟨blk, off, none⟩) d.size cap, .func (.func 83) #[] #[]] w fun e w' => e = .returned (.slice (some ⟨blk, off, none⟩) (d.toList.filter fun x => !emptyS x).length cap) ∧ ∃ q, w' = putRow encS (Sort.ahead w q) blk off ((d.toList.filter fun x => !emptyS x) ++ List.replicate (d.size - (d.toList.filter fun x => !emptyS x).length) (none, 0, 0)).toArray :=
  AnyE.slices_DeleteFunc Tryd.laysDel encS (fun _ => rfl) emptyS 83 #[] (enters_of Tryd.func83 (by kernel_rfl) rfl) (none, 0, 0) zero_ints blk off cap d w
    (fun W x _ => glued2_gives x W) (fun n os dk x _ => glued2_gives x _) hH hsz hcap
end Go.Proofs.YteejkhgccaagiaaDoor
