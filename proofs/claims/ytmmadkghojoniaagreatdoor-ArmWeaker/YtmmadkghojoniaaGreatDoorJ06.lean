/- The contracts of package rel's rows: empty, meet, without, join. -/
import Derived.Test.YtmmadkghojoniaaGreatDoorRowWalks
import Derived.Test.YtmmadkghojoniaaGreatDoorJ05
import Derived.DeepKeys
import Derived.ChangeKeysEq
namespace Go.Proofs.YtmmadkghojoniaaGreatDoor
open Go.RowKit Sx
theorem Tryz.und102 : Tryz.prog.underlying 102 = some (.array 4 32) := by kernel_rfl
theorem Tryz.cells32 : Tryz.prog.cellsOf 32 = 1 := by kernel_rfl
theorem Tryz.plain32 : Tryz.prog.plainKey 32 = true := by kernel_rfl
theorem eql_rows (a b c d a' b' c' d' : Int) (w : World) :
    (Op.equalIn 10000 102 (.agg #[.int .u64 a, .int .u64 b, .int .u64 c, .int .u64 d]) (.agg #[.int .u64 a', .int .u64 b', .int .u64 c', .int .u64 d'])).run Tryz.prog w = .ok (a == a' && (b == b' && (c == c' && d == d'))) w := by
  have h : ∀ n, (Op.equalIn (n + 2) 102 (.agg #[.int .u64 a, .int .u64 b, .int .u64 c, .int .u64 d]) (.agg #[.int .u64 a', .int .u64 b', .int .u64 c', .int .u64 d'])).run Tryz.prog w = .ok (a == a' && (b == b' && (c == c' && d == d'))) w := by
    intro n
    have hi : (Tryz.prog.info? 32).isSome = true := by kernel_rfl
    obtain ⟨i, hi⟩ := Option.isSome_iff_exists.1 hi
    rw [run_equalIn_array (P := Tryz.prog) w (n + 1) _ _ Tryz.und102 hi, Tryz.cells32]
    have hp : ∀ (xs : Array Value) (o : Nat) (v : Value), xs[o]? = some v → (part 32 xs o).run Tryz.prog w = .ok v w :=
      fun xs o v h => run_part_plain w Tryz.plain32 h
    simp [Op.eqItems, List.range, List.range.loop, hp, run_equalIn_int]
    by_cases h1 : a = a' <;> by_cases h2 : b = b' <;> by_cases h3 : c = c' <;> by_cases h4 : d = d' <;> simp [h1, h2, h3, h4]
  exact h 9998
theorem empty_eq (R : Nat) (h : R < 2 ^ 256) : (((wd R 0 : Nat) : Int) == 0 && (((wd R 1 : Nat) : Int) == 0 && (((wd R 2 : Nat) : Int) == 0 && ((wd R 3 : Nat) : Int) == 0))) = (R == 0) := by
  rw [Bool.eq_iff_iff]
  simp only [Bool.and_eq_true, beq_iff_eq]
  constructor
  · rintro ⟨h0, h1, h2, h3⟩
    refine wd_ext h (by omega) (fun j hj => ?_)
    rw [wd_zero]
    have : j = 0 ∨ j = 1 ∨ j = 2 ∨ j = 3 := by omega
    rcases this with rfl | rfl | rfl | rfl <;> omega
  · rintro rfl
    simp [wd_zero]
set_option maxRecDepth 100000 in
set_option maxHeartbeats 400000 in
theorem empty_calls (R : Nat) (hR : Hid (R < 2 ^ 256)) (w : World) :
    Calls Tryz.prog 112 #[rv R] w fun e w' => e = .returned (.bool (R == 0)) ∧ Below w.heap.size w w' := by
  have H : Hid (_ = _) := empty_eq R hR
  have he := eql_rows
  rw [← H.out]
  go_enter Tryz.func112, Tryz.ntmps112
  go_wp2
  go_ret
  exact ⟨rfl, (Below.refl _ _).alloc (Nat.le_refl _) _⟩
def mixW (k : Nat) (f g : Nat → Nat) (j : Nat) : Value := .int .u64 ((if j < k then f j else g j : Nat) : Int)
def mix (k : Nat) (f g : Nat → Nat) : Array Value := #[mixW k f g 0, mixW k f g 1, mixW k f g 2, mixW k f g 3]
theorem mix_lt {k j : Nat} {f g : Nat → Nat} (hj : j < 4) (h : ¬ j < k) : (mix k f g)[j]? = some (.int .u64 ((g j : Nat) : Int)) := by
  have : j = 0 ∨ j = 1 ∨ j = 2 ∨ j = 3 := by omega
  rcases this with rfl | rfl | rfl | rfl <;> simp [mix, mixW, h]
theorem mix_set {k : Nat} {f g : Nat → Nat} (hk : k < 4) : (mix k f g).setIfInBounds k (.int .u64 ((f k : Nat) : Int)) = mix (k + 1) f g := by
  have : k = 0 ∨ k = 1 ∨ k = 2 ∨ k = 3 := by omega
  rcases this with rfl | rfl | rfl | rfl <;> simp [mix, mixW]
theorem mix_zero (f g : Nat → Nat) : mix 0 f g = #[.int .u64 ((g 0 : Nat) : Int), .int .u64 ((g 1 : Nat) : Int), .int .u64 ((g 2 : Nat) : Int), .int .u64 ((g 3 : Nat) : Int)] := by simp [mix, mixW]
theorem mix_four (f g : Nat → Nat) : mix 4 f g = #[.int .u64 ((f 0 : Nat) : Int), .int .u64 ((f 1 : Nat) : Int), .int .u64 ((f 2 : Nat) : Int), .int .u64 ((f 3 : Nat) : Int)] := by simp [mix, mixW]
def rcs (R : Nat) : Array Value := #[.int .u64 ((wd R 0 : Nat) : Int), .int .u64 ((wd R 1 : Nat) : Int), .int .u64 ((wd R 2 : Nat) : Int), .int .u64 ((wd R 3 : Nat) : Int)]
theorem rcs_at {R j : Nat} (h : j < 4) : (rcs R)[j]? = some (.int .u64 ((wd R j : Nat) : Int)) := by
  have : j = 0 ∨ j = 1 ∨ j = 2 ∨ j = 3 := by omega
  rcases this with rfl | rfl | rfl | rfl <;> simp [rcs]
theorem and_word (R S j : Nat) : bits BinOp.and IntKind.u64 ((wd R j : Nat) : Int) ((wd S j : Nat) : Int) = ((wd (R &&& S) j : Nat) : Int) := by
  rw [u64_and_nat _ _ (wd_lt R j) (wd_lt S j), wd_and]
theorem or_word (R S j : Nat) : bits BinOp.or IntKind.u64 ((wd R j : Nat) : Int) ((wd S j : Nat) : Int) = ((wd (R ||| S) j : Nat) : Int) := by
  rw [u64_or_nat _ _ (wd_lt R j) (wd_lt S j), wd_or]
theorem not_word (R S j : Nat) : bits BinOp.andNot IntKind.u64 ((wd R j : Nat) : Int) ((wd S j : Nat) : Int) = ((wd (ldiff R S) j : Nat) : Int) := by
  rw [u64_andNot_nat _ _ (wd_lt R j) (wd_lt S j), wd_ldiff]
theorem Blk.new2 (w : World) (o : Obj) (t : TypeId) (cs : Array Value) : Blk ((w.alloc o).alloc (.cells cs t)) (w.heap.size + 1) t cs := by
  have := Blk.new (w.alloc o) t cs
  rwa [World.size_alloc] at this
theorem Blk.new3 (w : World) (o o' : Obj) (t : TypeId) (cs : Array Value) : Blk (((w.alloc o).alloc o').alloc (.cells cs t)) (w.heap.size + 1 + 1) t cs := by
  have := Blk.new2 (w.alloc o) o' t cs
  rwa [World.size_alloc] at this
set_option maxHeartbeats 400000 in
theorem meet_calls (R S : Nat) (w : World) :
    Calls Tryz.prog 157 #[rv R, rv S] w fun e w' => e = .returned (rv (R &&& S)) ∧ Below w.heap.size w w' := by
  go_enter Tryz.func157, Tryz.ntmps157
  go_wp2
  go_loopw [6] (fun i wr => ∃ k : Nat, k ≤ 4 ∧ i = .int .i64 k ∧ Blk wr w.heap.size 102 (mix k (wd (R &&& S)) (wd R)) ∧ Blk wr (w.heap.size + 1) 102 (rcs S) ∧ Blk wr (w.heap.size + 1 + 1) 102 #[.int .u64 0, .int .u64 0, .int .u64 0, .int .u64 0] ∧ Below w.heap.size w wr) (fun i _ => 4 - (intOf i).toNat)
  case atStart =>
    refine ⟨0, by omega, rfl, ?_, ?_, ?_, ?_⟩
    · rw [mix_zero]; exact ((Blk.new w _ _).alloc _).alloc _
    · exact (Blk.new2 w _ _ _).alloc _
    · exact Blk.new3 w _ _ _ _
    · exact (((Below.refl _ w).alloc (Nat.le_refl _) _).alloc (by simp) _).alloc (by simp; omega) _
  case round =>
    obtain ⟨k, hk, rfl, hA, hB, hC, hW⟩ := hrel
    by_cases hlt : k < 4
    · have c1 := hA.cell (mix_lt hlt (Nat.lt_irrefl k))
      have c2 := hB.cell (rcs_at (R := S) hlt)
      have f1 := hA.frozen k
      have HW : Hid (_ = _) := and_word R S k
      go_wp2
      go_region
      all_goals go_wp2
      rw [HW.out]
      refine ⟨⟨k + 1, by omega, by go_num, ?_, (hB.setOther (by simp) _).drew, (hC.setOther (by simp; omega) _).drew, (hW.setCell (Nat.le_refl _) _).drew⟩, by simp [intOf]; omega⟩
      have := (hA.set k (.int .u64 ((wd (R &&& S) k : Nat) : Int))).drew
      rwa [mix_set hlt] at this
    · obtain rfl : k = 4 := by omega
      rw [mix_four] at hA
      have c0 := hA.cell (j := 0) rfl
      have c1 := hA.cell (j := 1) rfl
      have c2 := hA.cell (j := 2) rfl
      have c3 := hA.cell (j := 3) rfl
      have d0 := hC.cell (j := 0) rfl
      have d1 := hC.cell (j := 1) rfl
      have d2 := hC.cell (j := 2) rfl
      have d3 := hC.cell (j := 3) rfl
      have f0 := hC.frozen 0
      have f1 := hC.frozen 1
      have f2 := hC.frozen 2
      have f3 := hC.frozen 3
      go_wp2
      exact bodyPost_ret (v := rv (R &&& S)) (by simp [results, Tryz.results157, go_sem, d0, d1, d2, d3]) rfl ⟨rfl, by exact (((hW.setCell (by simp; omega) _).setCell (by simp; omega) _).setCell (by simp; omega) _).setCell (by simp; omega) _⟩
set_option maxHeartbeats 400000 in
theorem without_calls (R S : Nat) (w : World) :
    Calls Tryz.prog 156 #[rv R, rv S] w fun e w' => e = .returned (rv (ldiff R S)) ∧ Below w.heap.size w w' := by
  go_enter Tryz.func156, Tryz.ntmps156
  go_wp2
  go_loopw [6] (fun i wr => ∃ k : Nat, k ≤ 4 ∧ i = .int .i64 k ∧ Blk wr w.heap.size 102 (mix k (wd (ldiff R S)) (wd R)) ∧ Blk wr (w.heap.size + 1) 102 (rcs S) ∧ Blk wr (w.heap.size + 1 + 1) 102 #[.int .u64 0, .int .u64 0, .int .u64 0, .int .u64 0] ∧ Below w.heap.size w wr) (fun i _ => 4 - (intOf i).toNat)
  case atStart =>
    refine ⟨0, by omega, rfl, ?_, ?_, ?_, ?_⟩
    · rw [mix_zero]; exact ((Blk.new w _ _).alloc _).alloc _
    · exact (Blk.new2 w _ _ _).alloc _
    · exact Blk.new3 w _ _ _ _
    · exact (((Below.refl _ w).alloc (Nat.le_refl _) _).alloc (by simp) _).alloc (by simp; omega) _
  case round =>
    obtain ⟨k, hk, rfl, hA, hB, hC, hW⟩ := hrel
    by_cases hlt : k < 4
    · have c1 := hA.cell (mix_lt hlt (Nat.lt_irrefl k))
      have c2 := hB.cell (rcs_at (R := S) hlt)
      have f1 := hA.frozen k
      have HW : Hid (_ = _) := not_word R S k
      go_wp2
      go_region
      all_goals go_wp2
      rw [HW.out]
      refine ⟨⟨k + 1, by omega, by go_num, ?_, (hB.setOther (by simp) _).drew, (hC.setOther (by simp; omega) _).drew, (hW.setCell (Nat.le_refl _) _).drew⟩, by simp [intOf]; omega⟩
      have := (hA.set k (.int .u64 ((wd (ldiff R S) k : Nat) : Int))).drew
      rwa [mix_set hlt] at this
    · obtain rfl : k = 4 := by omega
      rw [mix_four] at hA
      have c0 := hA.cell (j := 0) rfl
      have c1 := hA.cell (j := 1) rfl
      have c2 := hA.cell (j := 2) rfl
      have c3 := hA.cell (j := 3) rfl
      have d0 := hC.cell (j := 0) rfl
      have d1 := hC.cell (j := 1) rfl
      have d2 := hC.cell (j := 2) rfl
      have d3 := hC.cell (j := 3) rfl
      have f0 := hC.frozen 0
      have f1 := hC.frozen 1
      have f2 := hC.frozen 2
      have f3 := hC.frozen 3
      go_wp2
      exact bodyPost_ret (v := rv (ldiff R S)) (by simp [results, Tryz.results156, go_sem, d0, d1, d2, d3]) rfl ⟨rfl, by exact (((hW.setCell (by simp; omega) _).setCell (by simp; omega) _).setCell (by simp; omega) _).setCell (by simp; omega) _⟩
end Go.Proofs.YtmmadkghojoniaaGreatDoor
namespace Go.Proofs.YtmmadkghojoniaaGreatDoor
open Go.RowKit Sx
def acc2 (R S k : Nat) : Nat := if k = 0 then 0 else if k = 1 then R else R ||| S
theorem rcs_zero : rcs 0 = #[.int .u64 0, .int .u64 0, .int .u64 0, .int .u64 0] := by simp [rcs, wd_zero]
theorem mix_zero' (f : Nat → Nat) (R : Nat) : mix 0 f (wd R) = rcs R := mix_zero _ _
theorem mix_four' (g : Nat → Nat) (R : Nat) : mix 4 (wd R) g = rcs R := mix_four _ _
theorem two_fst {R S j : Nat} (h : j < 4) : (rcs R ++ rcs S)[j]? = some (.int .u64 ((wd R j : Nat) : Int)) := by
  rw [Array.getElem?_append_left (by simp [rcs]; omega)]; exact rcs_at h
theorem two_snd {R S j : Nat} (h : j < 4) : (rcs R ++ rcs S)[4 + j]? = some (.int .u64 ((wd S j : Nat) : Int)) := by
  rw [Array.getElem?_append_right (by simp [rcs])]
  simp only [rcs, List.size_toArray, List.length_cons, List.length_nil, Nat.reduceAdd, Nat.add_sub_cancel_left]
  exact rcs_at h
set_option maxHeartbeats 1000000 in
theorem join_calls (R S b : Nat) (w : World) (hb : Blk w b 102 (rcs R ++ rcs S)) :
    Calls Tryz.prog 67 #[.slice (some ⟨b, 0, none⟩) 2 2] w fun e w' => e = .returned (rv (R ||| S)) ∧ Below w.heap.size w w' := by
  have hlt := hb.lt
  go_enter Tryz.func67, Tryz.ntmps67
  go_wp2
  go_loopw [9] (fun i wr => ∃ k : Nat, k ≤ 2 ∧ i = .int .i64 k ∧ Blk wr b 102 (rcs R ++ rcs S) ∧ Blk wr (w.heap.size) 102 #[.int .u64 0, .int .u64 0, .int .u64 0, .int .u64 0] ∧ Blk wr (w.heap.size + 1) 102 (rcs (acc2 R S k)) ∧ Below w.heap.size w wr) (fun i _ => 2 - (intOf i).toNat)
  case atStart =>
    refine ⟨0, by omega, rfl, (hb.alloc _).alloc _, (Blk.new w _ _).alloc _, ?_, ((Below.refl _ w).alloc (Nat.le_refl _) _).alloc (by simp) _⟩
    rw [show acc2 R S 0 = 0 from rfl, rcs_zero]
    exact Blk.new2 w _ _ _
  case round =>
    obtain ⟨k, hk, rfl, hB, hC, hA, hW⟩ := hrel
    have hs := hA.lt
    have hc : k = 0 ∨ k = 1 ∨ k = 2 := by omega
    rcases hc with rfl | rfl | rfl
    · have x0 := hB.cell (two_fst (R := R) (S := S) (j := 0) (by omega))
      have x1 := hB.cell (two_fst (R := R) (S := S) (j := 1) (by omega))
      have x2 := hB.cell (two_fst (R := R) (S := S) (j := 2) (by omega))
      have x3 := hB.cell (two_fst (R := R) (S := S) (j := 3) (by omega))
      go_wp2
      go_loopw [13] (fun i w2 => ∃ j : Nat, j ≤ 4 ∧ i = .int .i64 j ∧ Blk w2 b 102 (rcs R ++ rcs S) ∧ Blk w2 (w.heap.size) 102 #[.int .u64 0, .int .u64 0, .int .u64 0, .int .u64 0] ∧ Blk w2 (w.heap.size + 1) 102 (mix j (wd (acc2 R S 1)) (wd (acc2 R S 0))) ∧ Blk w2 wr.heap.size 102 (rcs R) ∧ Below w.heap.size w w2) (fun i _ => 4 - (intOf i).toNat)
      case atStart =>
        refine ⟨0, by omega, rfl, hB.alloc _, hC.alloc _, ?_, ?_, hW.alloc hW.size _⟩
        · rw [mix_zero']; exact hA.alloc _
        · exact Blk.new wr _ _
      case round =>
        obtain ⟨j, hj, rfl, hB2, hC2, hA2, hD2, hW2⟩ := hrel
        by_cases hj4 : j < 4
        · have c1 := hA2.cell (mix_lt hj4 (Nat.lt_irrefl j))
          have c2 := hD2.cell (rcs_at (R := R) hj4)
          have f1 := hA2.frozen j
          have HW : Hid (_ = _) := or_word (acc2 R S 0) R j
          have HE : Hid (acc2 R S 0 ||| R = acc2 R S 1) := by show _ = _; simp [acc2]
          go_wp2
          go_region
          all_goals go_wp2
          rw [HW.out, HE.out]
          refine ⟨⟨j + 1, by omega, by go_num, (hB2.setOther (by simp; omega) _).drew, (hC2.setOther (by simp) _).drew, ?_, (hD2.setOther (by simp; omega) _).drew, (hW2.setCell (by simp) _).drew⟩, by simp [intOf]; omega⟩
          have := (hA2.set j (.int .u64 ((wd (acc2 R S 1) j : Nat) : Int))).drew
          rwa [mix_set hj4] at this
        · obtain rfl : j = 4 := by omega
          rw [mix_four'] at hA2
          go_wp2
          refine ⟨⟨1, by omega, by go_num, hB2, hC2, hA2, hW2⟩, by simp [intOf]⟩
    · have x0 := hB.cell (two_snd (R := R) (S := S) (j := 0) (by omega))
      have x1 := hB.cell (two_snd (R := R) (S := S) (j := 1) (by omega))
      have x2 := hB.cell (two_snd (R := R) (S := S) (j := 2) (by omega))
      have x3 := hB.cell (two_snd (R := R) (S := S) (j := 3) (by omega))
      go_wp2
      go_loopw [13] (fun i w2 => ∃ j : Nat, j ≤ 4 ∧ i = .int .i64 j ∧ Blk w2 b 102 (rcs R ++ rcs S) ∧ Blk w2 (w.heap.size) 102 #[.int .u64 0, .int .u64 0, .int .u64 0, .int .u64 0] ∧ Blk w2 (w.heap.size + 1) 102 (mix j (wd (acc2 R S 2)) (wd (acc2 R S 1))) ∧ Blk w2 wr.heap.size 102 (rcs S) ∧ Below w.heap.size w w2) (fun i _ => 4 - (intOf i).toNat)
      case atStart =>
        refine ⟨0, by omega, rfl, hB.alloc _, hC.alloc _, ?_, ?_, hW.alloc hW.size _⟩
        · rw [mix_zero']; exact hA.alloc _
        · exact Blk.new wr _ _
      case round =>
        obtain ⟨j, hj, rfl, hB2, hC2, hA2, hD2, hW2⟩ := hrel
        by_cases hj4 : j < 4
        · have c1 := hA2.cell (mix_lt hj4 (Nat.lt_irrefl j))
          have c2 := hD2.cell (rcs_at (R := S) hj4)
          have f1 := hA2.frozen j
          have HW : Hid (_ = _) := or_word (acc2 R S 1) S j
          have HE : Hid (acc2 R S 1 ||| S = acc2 R S 2) := by show _ = _; simp [acc2]
          go_wp2
          go_region
          all_goals go_wp2
          rw [HW.out, HE.out]
          refine ⟨⟨j + 1, by omega, by go_num, (hB2.setOther (by simp; omega) _).drew, (hC2.setOther (by simp) _).drew, ?_, (hD2.setOther (by simp; omega) _).drew, (hW2.setCell (by simp) _).drew⟩, by simp [intOf]; omega⟩
          have := (hA2.set j (.int .u64 ((wd (acc2 R S 2) j : Nat) : Int))).drew
          rwa [mix_set hj4] at this
        · obtain rfl : j = 4 := by omega
          rw [mix_four'] at hA2
          go_wp2
          refine ⟨⟨2, by omega, by go_num, hB2, hC2, hA2, hW2⟩, by simp [intOf]⟩
    · rw [show acc2 R S 2 = R ||| S from rfl] at hA
      have c0 := hA.cell (rcs_at (j := 0) (by omega))
      have c1 := hA.cell (rcs_at (j := 1) (by omega))
      have c2 := hA.cell (rcs_at (j := 2) (by omega))
      have c3 := hA.cell (rcs_at (j := 3) (by omega))
      have d0 := hC.cell (j := 0) rfl
      have d1 := hC.cell (j := 1) rfl
      have d2 := hC.cell (j := 2) rfl
      have d3 := hC.cell (j := 3) rfl
      have f0 := hC.frozen 0
      have f1 := hC.frozen 1
      have f2 := hC.frozen 2
      have f3 := hC.frozen 3
      go_wp2
      exact bodyPost_ret (v := rv (R ||| S)) (by simp [results, Tryz.results67, go_sem, d0, d1, d2, d3]) rfl ⟨rfl, by exact (((hW.setCell (Nat.le_refl _) _).setCell (Nat.le_refl _) _).setCell (Nat.le_refl _) _).setCell (Nat.le_refl _) _⟩
end Go.Proofs.YtmmadkghojoniaaGreatDoor
