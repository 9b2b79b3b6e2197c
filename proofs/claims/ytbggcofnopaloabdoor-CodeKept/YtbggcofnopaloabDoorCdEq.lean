/- Two instructions are held against each other. -/
import Derived.Test.YtbggcofnopaloabDoorJ05
import Derived.Laws.StructEq
namespace Go.Proofs.YtbggcofnopaloabDoor
open Go.RowKit Sx
theorem int_eqIn (d : Nat) (t : TypeId) (h : Tryd.prog.underlying t = some (.int .i64)) (a b : Int) (W : World) : (Op.equalIn (d + 1) t (.int .i64 a) (.int .i64 b)).run Tryd.prog W = .ok (a == b) W := run_equalIn_int W d t .i64 .i64 a b h
theorem ins_parts (a b c d e f : Int) (W : World) : (part 3 #[.int .i64 a, .int .i64 b, .int .i64 c, .int .i64 d, .int .i64 e, .int .i64 f] 0).run Tryd.prog W = .ok (.int .i64 a) W ∧
    (part 3 #[.int .i64 a, .int .i64 b, .int .i64 c, .int .i64 d, .int .i64 e, .int .i64 f] 1).run Tryd.prog W = .ok (.int .i64 b) W ∧
    (part 3 #[.int .i64 a, .int .i64 b, .int .i64 c, .int .i64 d, .int .i64 e, .int .i64 f] 2).run Tryd.prog W = .ok (.int .i64 c) W ∧
    (part 3 #[.int .i64 a, .int .i64 b, .int .i64 c, .int .i64 d, .int .i64 e, .int .i64 f] 3).run Tryd.prog W = .ok (.int .i64 d) W ∧
    (part 2 #[.int .i64 a, .int .i64 b, .int .i64 c, .int .i64 d, .int .i64 e, .int .i64 f] 4).run Tryd.prog W = .ok (.int .i64 e) W ∧
    (part 3 #[.int .i64 a, .int .i64 b, .int .i64 c, .int .i64 d, .int .i64 e, .int .i64 f] 5).run Tryd.prog W = .ok (.int .i64 f) W :=
  ⟨by kernel_rfl, by kernel_rfl, by kernel_rfl, by kernel_rfl, by kernel_rfl, by kernel_rfl⟩
theorem ins_eqIn (W : World) (i j : Ins) : (Op.equalIn 10000 25 (.agg (insC i)) (.agg (insC j))).run Tryd.prog W = .ok (insEq i j) W := by
  have h2 := run_equalIn_agg (P := Tryd.prog) W 9999 25 (insC i) (insC j) (by kernel_rfl) (by kernel_rfl)
  rw [show (10000 : Nat) = 9999 + 1 from rfl, h2]
  obtain ⟨a, b, c, d, e, f⟩ := i
  obtain ⟨a', b', c', d', e', f'⟩ := j
  unfold insC insEq
  dsimp only
  have e3 := fun (x y : Int) (W : World) => int_eqIn 9998 3 (by kernel_rfl) x y W
  have e2 := fun (x y : Int) (W : World) => int_eqIn 9998 2 (by kernel_rfl) x y W
  obtain ⟨p0, p1, p2, p3, p4, p5⟩ := ins_parts a b c d e f W
  obtain ⟨q0, q1, q2, q3, q4, q5⟩ := ins_parts a' b' c' d' e' f' W
  clear h2
  simp [Op.eqFields, Program.fieldsOf, Tryd.underlying25, p0, p1, p2, p3, p4, p5, q0, q1, q2, q3, q4, q5, e3, e2]
  by_cases h0 : a = a' <;> by_cases h1 : b = b' <;> by_cases h2 : c = c' <;> by_cases h3 : d = d' <;> by_cases h4 : e = e' <;> by_cases h5 : f = f' <;> simp [h0, h1, h2, h3, h4, h5]
end Go.Proofs.YtbggcofnopaloabDoor
