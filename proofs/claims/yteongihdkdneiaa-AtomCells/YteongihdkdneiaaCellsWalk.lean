/- Calls of a cell, one after the other: each tells what the document says. -/
import Derived.Test.YteongihdkdneiaaAtAwake
namespace Go.Proofs.Yteongihdkdneiaa
open Go.RowKit

/-- The list of calls that was handed in. -/
def OpsAt (W : World) (vs : Value) (N : Nat) : Prop := N ≤ 9223372036854775807 ∧ ∃ p cap, vs = .slice p N cap ∧ ∀ i, i < N → ∃ b o, p = some ⟨b, o, none⟩ ∧ b < W.heap.size ∧ ∃ kind n x : Int, W.cell? ⟨b, o + i * 3, none⟩ = some (.int .i64 kind) ∧ W.cell? ⟨b, o + i * 3 + 1, none⟩ = some (.int .i64 n) ∧ W.cell? ⟨b, o + i * 3 + 2, none⟩ = some (.int .u64 x)
structure CelAt (w wr : World) (b : Nat) (x : Int) : Prop where
  below : Below w.heap.size w wr
  cell : Blk wr b 48 #[.int .u64 x]
  lo : w.heap.size ≤ b
theorem CelAt.touch {w wr w' : World} {b : Nat} {x y : Int} (h : CelAt w wr b x) (hB : Blk w' b 48 #[.int .u64 y]) (ht : Touch b wr w') : CelAt w w' b y :=
  ⟨h.below.trans (ht.below h.lo h.below.size), hB, h.lo⟩
theorem CelAt.alloc {w wr : World} {b : Nat} {x : Int} (h : CelAt w wr b x) (o : Obj) : CelAt w (wr.alloc o) b x := ⟨h.below.alloc h.below.size _, h.cell.alloc _, h.lo⟩

set_option maxRecDepth 100000 in
set_option maxHeartbeats 8000000 in
theorem Cells_calls (v0 : Int) (vs : Value) (N : Nat) (w : World) (hS : OpsAt w vs N) :
    Calls Try.prog 3 #[.int .u64 v0, vs] w fun e w' => e = .returned (.bool true) ∧ Below w.heap.size w w' := by
  obtain ⟨hN, p, cap, rfl, hS⟩ := hS
  go_enter Try.func3, Try.ntmps3
  go_wp2_with fail
  refine (awake_calls _).mono ?_
  rintro e w1 ⟨rfl, hB1⟩
  go_wp2_with fail
  refine (NewCell_calls v0 _).mono ?_
  rintro e w2 ⟨b, rfl, hc, hb, hB2⟩
  have hA : CelAt w w2 b v0 := ⟨below_step hB1 hB1.size hB2, hc, Nat.le_trans hB1.size hb⟩
  clear hB1 hB2 hc hb
  go_wp2_with fail
  go_loopw [0, 6] (fun v i wr => ∃ (x : Int) (k : Nat), k ≤ N ∧ v = .int .u64 x ∧ i = .int .i64 ((k : Nat) : Int) ∧ CelAt w wr b x) (fun _ i _ => N - (intOf i).toNat)
  case atStart => exact ⟨v0, 0, by omega, rfl, rfl, hA⟩
  case round =>
    clear hA
    obtain ⟨x, k, hk, rfl, rfl, hA⟩ := hrel
    by_cases hlt : k < N
    · obtain ⟨sb, so, rfl, hsb, kind, n, y, q0, q1, q2⟩ := hS k hlt
      have o0 := (hA.below.cell (p := ⟨sb, so + k * 3, none⟩) hsb).trans q0
      have o1 := (hA.below.cell (p := ⟨sb, so + k * 3 + 1, none⟩) hsb).trans q1
      have o2 := (hA.below.cell (p := ⟨sb, so + k * 3 + 2, none⟩) hsb).trans q2
      clear q0 q1 q2
      by_cases e2 : kind = 2
      · subst e2
        clear hS
        go_wp2_with fail
        have hst := Blk.new wr 28 #[.int .i64 2, .int .i64 n, .int .u64 y]
        have hA1 := hA.alloc (.cells #[.int .i64 2, .int .i64 n, .int .u64 y] 28)
        generalize wr.alloc _ = W at *
        refine (CStore_calls b x y _ hA1.cell).mono ?_
        rintro e w3 ⟨rfl, hc2, ht⟩
        have hst2 := hst.touch ht (by have := hA.cell.lt; omega)
        have hA2 := hA1.touch hc2 ht
        have z0 := hst2.cell (j := 0) rfl
        have z1 := hst2.cell (j := 1) rfl
        have z2 := hst2.cell (j := 2) rfl
        go_wp2_with fail
        refine (CLoad_calls b y _ hA2.cell).mono ?_
        rintro e w5 ⟨rfl, h⟩
        subst h
        go_wp2_with fail
        exact ⟨⟨y, k + 1, by omega, rfl, by go_num, hA2⟩, by simp [intOf]; omega⟩
      by_cases e3 : kind = 3
      · subst e3
        clear hS
        go_wp2_with fail
        have hst := Blk.new wr 28 #[.int .i64 3, .int .i64 n, .int .u64 y]
        have hA1 := hA.alloc (.cells #[.int .i64 3, .int .i64 n, .int .u64 y] 28)
        generalize wr.alloc _ = W at *
        refine (CSwap_calls b x y y rfl _ hA1.cell).mono ?_
        rintro e w3 ⟨rfl, hc2, ht⟩
        have hst2 := hst.touch ht (by have := hA.cell.lt; omega)
        have hA2 := hA1.touch hc2 ht
        have z0 := hst2.cell (j := 0) rfl
        have z1 := hst2.cell (j := 1) rfl
        have z2 := hst2.cell (j := 2) rfl
        go_wp2_with fail
        refine (CLoad_calls b y _ hA2.cell).mono ?_
        rintro e w5 ⟨rfl, h⟩
        subst h
        go_wp2_with fail
        exact ⟨⟨y, k + 1, by omega, rfl, by go_num, hA2⟩, by simp [intOf]; omega⟩
      by_cases e4 : kind = 4
      · subst e4
        clear hS
        go_wp2_with fail
        have hst := Blk.new wr 28 #[.int .i64 4, .int .i64 n, .int .u64 y]
        have hA1 := hA.alloc (.cells #[.int .i64 4, .int .i64 n, .int .u64 y] 28)
        generalize wr.alloc _ = W at *
        refine (CAdd_calls b x y _ rfl _ hA1.cell).mono ?_
        rintro e w3 ⟨rfl, hc2, ht⟩
        have hst2 := hst.touch ht (by have := hA.cell.lt; omega)
        have hA2 := hA1.touch hc2 ht
        have z0 := hst2.cell (j := 0) rfl
        have z1 := hst2.cell (j := 1) rfl
        have z2 := hst2.cell (j := 2) rfl
        go_wp2_with fail
        refine (CLoad_calls b (IntKind.u64.wrap (x + y)) _ hA2.cell).mono ?_
        rintro e w5 ⟨rfl, h⟩
        subst h
        go_wp2_with fail
        exact ⟨⟨(IntKind.u64.wrap (x + y)), k + 1, by omega, rfl, by go_num, hA2⟩, by simp [intOf]; omega⟩
      by_cases e5 : kind = 5
      · subst e5
        clear hS
        obtain ⟨m, hm⟩ : ∃ m, IntKind.u64.wrap n = m := ⟨_, rfl⟩
        by_cases em : x = m
        · subst em
          go_wp2_with fail
          have hst := Blk.new wr 28 #[.int .i64 5, .int .i64 n, .int .u64 y]
          have hA1 := hA.alloc (.cells #[.int .i64 5, .int .i64 n, .int .u64 y] 28)
          generalize wr.alloc _ = W at *
          refine (CCAS_calls b x x y y (if_pos rfl) _ hA1.cell).mono ?_
          rintro e w3 ⟨rfl, hc2, ht⟩
          have hst2 := hst.touch ht (by have := hA.cell.lt; omega)
          have hA2 := hA1.touch hc2 ht
          have z0 := hst2.cell (j := 0) rfl
          have z1 := hst2.cell (j := 1) rfl
          have z2 := hst2.cell (j := 2) rfl
          go_wp2_with fail
          refine (CLoad_calls b y _ hA2.cell).mono ?_
          rintro e w5 ⟨rfl, h⟩
          subst h
          go_wp2_with fail
          exact ⟨⟨y, k + 1, by omega, rfl, by go_num, hA2⟩, by simp [intOf]; omega⟩
        · have em' : (x == m) = false := by rw [beq_eq_false_iff_ne]; exact em
          go_wp2_with fail
          have hst := Blk.new wr 28 #[.int .i64 5, .int .i64 n, .int .u64 y]
          have hA1 := hA.alloc (.cells #[.int .i64 5, .int .i64 n, .int .u64 y] 28)
          generalize wr.alloc _ = W at *
          refine (CCAS_calls b x m y x (if_neg em) _ hA1.cell).mono ?_
          rintro e w3 ⟨rfl, hc2, ht⟩
          have hst2 := hst.touch ht (by have := hA.cell.lt; omega)
          have hA2 := hA1.touch hc2 ht
          have z0 := hst2.cell (j := 0) rfl
          have z1 := hst2.cell (j := 1) rfl
          have z2 := hst2.cell (j := 2) rfl
          go_wp2_with fail
          refine (CLoad_calls b x _ hA2.cell).mono ?_
          rintro e w5 ⟨rfl, h⟩
          subst h
          go_wp2_with fail
          exact ⟨⟨x, k + 1, by omega, rfl, by go_num, hA2⟩, by simp [intOf]; omega⟩
      by_cases e6 : kind = 6
      · subst e6
        clear hS
        by_cases em : x < y
        · go_wp2_with fail
          have hst := Blk.new wr 28 #[.int .i64 6, .int .i64 n, .int .u64 y]
          have hA1 := hA.alloc (.cells #[.int .i64 6, .int .i64 n, .int .u64 y] 28)
          generalize wr.alloc _ = W at *
          refine (CRaise_calls b x y y (if_pos em) _ hA1.cell).mono ?_
          rintro e w3 ⟨rfl, hc2, ht⟩
          have hst2 := hst.touch ht (by have := hA.cell.lt; omega)
          have hA2 := hA1.touch hc2 ht
          have z0 := hst2.cell (j := 0) rfl
          have z1 := hst2.cell (j := 1) rfl
          have z2 := hst2.cell (j := 2) rfl
          go_wp2_with fail
          refine (CLoad_calls b y _ hA2.cell).mono ?_
          rintro e w5 ⟨rfl, h⟩
          subst h
          go_wp2_with fail
          exact ⟨⟨y, k + 1, by omega, rfl, by go_num, hA2⟩, by simp [intOf]; omega⟩
        · go_wp2_with fail
          have hst := Blk.new wr 28 #[.int .i64 6, .int .i64 n, .int .u64 y]
          have hA1 := hA.alloc (.cells #[.int .i64 6, .int .i64 n, .int .u64 y] 28)
          generalize wr.alloc _ = W at *
          refine (CRaise_calls b x y x (if_neg (by omega)) _ hA1.cell).mono ?_
          rintro e w3 ⟨rfl, hc2, ht⟩
          have hst2 := hst.touch ht (by have := hA.cell.lt; omega)
          have hA2 := hA1.touch hc2 ht
          have z0 := hst2.cell (j := 0) rfl
          have z1 := hst2.cell (j := 1) rfl
          have z2 := hst2.cell (j := 2) rfl
          go_wp2_with fail
          refine (CLoad_calls b x _ hA2.cell).mono ?_
          rintro e w5 ⟨rfl, h⟩
          subst h
          go_wp2_with fail
          exact ⟨⟨x, k + 1, by omega, rfl, by go_num, hA2⟩, by simp [intOf]; omega⟩
      clear hS
      have f2 : (kind == (2 : Int)) = false := by rw [beq_eq_false_iff_ne]; exact e2
      have f3 : (kind == (3 : Int)) = false := by rw [beq_eq_false_iff_ne]; exact e3
      have f4 : (kind == (4 : Int)) = false := by rw [beq_eq_false_iff_ne]; exact e4
      have f5 : (kind == (5 : Int)) = false := by rw [beq_eq_false_iff_ne]; exact e5
      have f6 : (kind == (6 : Int)) = false := by rw [beq_eq_false_iff_ne]; exact e6
      go_wp2_with fail
      have hA1 := hA.alloc (.cells #[.int .i64 kind, .int .i64 n, .int .u64 y] 28)
      refine (CLoad_calls b x _ hA1.cell).mono ?_
      rintro e w5 ⟨rfl, h⟩
      subst h
      go_wp2_with fail
      exact ⟨⟨x, k + 1, by omega, rfl, by go_num, hA1⟩, by simp [intOf]; omega⟩
    · go_wp2_with fail
      refine (CLoad_calls b x _ hA.cell).mono ?_
      rintro e w5 ⟨rfl, h⟩
      subst h
      go_wp2_with fail
      go_ret
      exact ⟨by simp, hA.below⟩
end Go.Proofs.Yteongihdkdneiaa
