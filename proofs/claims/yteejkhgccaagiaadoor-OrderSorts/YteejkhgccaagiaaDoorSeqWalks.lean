/- The contract of package rel's points, an iterator over the set bits of a row, over math/bits.TrailingZeros64's own text. -/
import Derived.Test.YteejkhgccaagiaaDoorRelWalks1
import Derived.Test.YteejkhgccaagiaaDoorBitMath
import Derived.RangeFuncNested
import Derived.RangeFuncBound
import Derived.RangeFuncCalls
import Derived.RangeFuncLeaves
import Derived.Shelf.Abstract
import Derived.Shelf.RegionOpen
import Derived.OwnWalkIn
import Derived.TacticsInMore
import Derived.LoopNIn
import Derived.LoopIn
import Derived.Laws.Bits64b
namespace Go.Proofs.YteejkhgccaagiaaDoor
open Go.RowKit Go.Shelf Sx
attribute [local go_sem] Oper.semAt_some

/-- The table of math/bits is as its initialiser lays it. -/
structure Tab (w : World) : Prop where
  pos : 0 < w.heap.size
  cell : ∀ j, j < 64 → w.cell? ⟨0, j, none⟩ = some (.int .u8 ((Lib.deBruijn64tab.getD j 0 : Nat) : Int))
theorem Tab.below {w w' : World} (h : Tab w) {n : Nat} (hb : Below n w w') (hn : 0 < n) : Tab w' :=
  ⟨Nat.lt_of_lt_of_le h.pos hb.size, fun j hj => (hb.cell (p := ⟨0, j, none⟩) hn).trans (h.cell j hj)⟩
theorem Tab.step {w w' : World} (h : Tab w) (hb : Below w.heap.size w w') : Tab w' := h.below hb h.pos
theorem Tab.alloc {w : World} (h : Tab w) (o : Obj) : Tab (w.alloc o) := h.step ((Below.refl _ _).alloc (Nat.le_refl _) _)
theorem Tab.drew {w : World} (h : Tab w) : Tab w.drew := ⟨h.pos, h.cell⟩
theorem Tab.drewN {w : World} (h : Tab w) (n : Nat) : Tab (w.drewN n) := ⟨h.pos, h.cell⟩
theorem Tab.touch {w w' : World} {c : Nat} (h : Tab w) (ht : Touch c w w') (hc : 0 < c) : Tab w' := h.below (ht.below (n := 1) hc h.pos) (by omega)
theorem Tab.set {w : World} (h : Tab w) {a : Addr} (ha : 0 < a.block) (v : Value) : Tab (w.setCell a v) := h.below (n := 1) ((Below.refl _ _).setCell ha v) (by omega)

set_option maxHeartbeats 1000000 in
theorem tz_core (x k idx : Nat) (w : World) (hx0 : ((x : Int) == 0) = false)
    (key : IntKind.u64.wrap (bits BinOp.and IntKind.u64 (x : Int) (IntKind.u64.wrap (-(x : Int))) * 285870213051353865) / 288230376151711744 = (idx : Int))
    (hi : idx < 64) (hk : k < 64) (hcell : w.cell? ⟨0, idx, none⟩ = some (.int .u8 k)) :
    Calls Tryd.prog 89 #[.int .u64 x] w fun e w' => e = .returned (.int .i64 k) ∧ w' = w := by
  go_enter Tryd.func89, Tryd.ntmps89
  go_wp2_with (simp only [key])
  go_ret
  exact ⟨rfl, rfl⟩
theorem tz_key (x a : Nat) (hx : x < 18446744073709551616) (hx0 : x ≠ 0) (hlow : x &&& (18446744073709551616 - x) = a) :
    IntKind.u64.wrap (bits BinOp.and IntKind.u64 (x : Int) (IntKind.u64.wrap (-(x : Int))) * 285870213051353865) / 288230376151711744 = ((a * 285870213051353865 % 18446744073709551616 / 288230376151711744 : Nat) : Int) := by
  have e1 : IntKind.u64.wrap (-(x : Int)) = ((18446744073709551616 - x : Nat) : Int) := by rw [IntKind.wrap_u64]; omega
  rw [e1, bits_and_u64_nat x _ hx (by omega), hlow, IntKind.wrap_u64]
  omega
theorem tz_calls (x : Nat) (hx : Hid (x < 2 ^ 64)) (hx0 : x ≠ 0) (w : World) (hT : Tab w) :
    Calls Tryd.prog 89 #[.int .u64 x] w fun e w' => e = .returned (.int .i64 (Lib.ctz 64 x)) ∧ w' = w := by
  obtain ⟨hlow, hk⟩ := Lib.lowest_bit 64 x hx0 hx.out
  obtain ⟨hi, htab⟩ := Lib.deBruijn64_at _ hk
  have hcell := hT.cell _ hi
  rw [htab] at hcell
  exact tz_core x _ _ w (by simp; omega) (tz_key x _ hx.out hx0 hlow) hi hk hcell

/-- A point of the row R. -/
abbrev Pt (R : Nat) := { p : Nat // p ∈ bitsOf R }
def vals {R : Nat} (l : List (Pt R)) : List Nat := l.map (·.1)
theorem vals_snoc {R : Nat} (l : List (Pt R)) (x : Pt R) : vals (l ++ [x]) = vals l ++ [x.1] := by simp [vals]

set_option maxHeartbeats 400000 in
/-- **points**: the receiver is boxed; the function value captures the box. -/
theorem points_in (F : Fence) (n : Nat) (hf : F.fn 62) (hro : F.round = none) (R : Nat) (w : World) :
    CallsIn F n Tryd.prog 62 #[rv R] w fun e w' => e = .returned (.func (.func 88) #[] #[.pointer (some ⟨w.heap.size, 0, none⟩)]) ∧ w' = w.alloc (.cells (rcs R) 83) := by
  refine callsIn_of_wp Tryd.func62 rfl hf ?_ hro
  simp only [Tryd.ntmps62, List.size_toArray, List.length_cons, List.length_nil, Nat.reduceAdd, Nat.reduceSub, Array.replicate_succ, Array.replicate_zero, List.push_toArray, List.append_toArray, List.nil_append, List.cons_append]
  gi_wp2
  go_ret
  exact ⟨rfl, rfl⟩

theorem index_row0 (a b c d : Int) (w : World) : (Instr.index 83 (.agg #[.int .u64 a, .int .u64 b, .int .u64 c, .int .u64 d]) (.int .i64 0)).run Tryd.prog w = .ok (.int .u64 a) w := by kernel_rfl
theorem index_row1 (a b c d : Int) (w : World) : (Instr.index 83 (.agg #[.int .u64 a, .int .u64 b, .int .u64 c, .int .u64 d]) (.int .i64 1)).run Tryd.prog w = .ok (.int .u64 b) w := by kernel_rfl
theorem index_row2 (a b c d : Int) (w : World) : (Instr.index 83 (.agg #[.int .u64 a, .int .u64 b, .int .u64 c, .int .u64 d]) (.int .i64 2)).run Tryd.prog w = .ok (.int .u64 c) w := by kernel_rfl
theorem index_row3 (a b c d : Int) (w : World) : (Instr.index 83 (.agg #[.int .u64 a, .int .u64 b, .int .u64 c, .int .u64 d]) (.int .i64 3)).run Tryd.prog w = .ok (.int .u64 d) w := by kernel_rfl
theorem index_row (R i : Nat) (h : i < 4) (w : World) : (Instr.index 83 (.agg #[.int .u64 ((wd R 0 : Nat) : Int), .int .u64 ((wd R 1 : Nat) : Int), .int .u64 ((wd R 2 : Nat) : Int), .int .u64 ((wd R 3 : Nat) : Int)]) (.int .i64 (i : Int))).run Tryd.prog w = .ok (.int .u64 ((wd R i : Nat) : Int)) w := by
  have : i = 0 ∨ i = 1 ∨ i = 2 ∨ i = 3 := by omega
  rcases this with rfl | rfl | rfl | rfl
  · exact index_row0 _ _ _ _ w
  · exact index_row1 _ _ _ _ w
  · exact index_row2 _ _ _ _ w
  · exact index_row3 _ _ _ _ w
theorem and_pred_word (x : Nat) (h : x < 2 ^ 64) (h0 : x ≠ 0) : bits BinOp.and IntKind.u64 (x : Int) (IntKind.u64.wrap ((x : Int) - 1)) = ((x &&& (x - 1) : Nat) : Int) := by
  rw [IntKind.wrap_u64, show ((x : Int) - 1) % 18446744073709551616 = (x : Int) - 1 from by omega]
  rw [show ((x : Int) - 1) = ((x - 1 : Nat) : Int) from by omega]
  exact u64_and_nat _ _ h (by omega)

set_option maxRecDepth 100000 in
set_option maxHeartbeats 1000000 in
theorem points1_in (R l Bn : Nat) (n : Nat) (hn : 1 ≤ n) (J Jx : List (Pt R) → World → Prop)
    (hY : ∀ pre x W, J pre W → pre.length < 257 → YieldAt Fence.wide (n - 1) Tryd.prog l #[.int .i64 ((x.1 : Nat) : Int)] W fun e W' =>
      (e = .returned (.bool true) ∧ J (pre ++ [x]) W' ∧ Below 1 W W') ∨ (e = .returned (.bool false) ∧ Jx (pre ++ [x]) W'))
    (W : World) (hBn : Blk W Bn 83 (rcs R)) (hT : Tab W) (h0 : J [] W) :
    CallsIn Fence.wide n Tryd.prog 88 #[.func (.yield l) #[] #[], .pointer (some ⟨Bn, 0, none⟩)] W fun e W' => (∃ v, e = .returned v) ∧
      ((∃ ys, vals ys = bitsOf R ∧ J ys W') ∨ (∃ pre, vals pre <+: bitsOf R ∧ Jx pre W')) := by
  have c0 := hBn.cell (rcs_at (j := 0) (by omega))
  have c1 := hBn.cell (rcs_at (j := 1) (by omega))
  have c2 := hBn.cell (rcs_at (j := 2) (by omega))
  have c3 := hBn.cell (rcs_at (j := 3) (by omega))
  refine callsIn_of_wp Tryd.func88 rfl trivial ?_ rfl
  simp only [Tryd.ntmps88, List.size_toArray, List.length_cons, List.length_nil, Nat.reduceAdd, Nat.reduceSub, Array.replicate_succ, Array.replicate_zero, List.push_toArray, List.append_toArray, List.nil_append, List.cons_append]
  gi_wp2
  clear c0 c1 c2 c3
  gi_loopw [6] (fun i wr => ∃ (k : Nat) (pre : List (Pt R)), k ≤ 4 ∧ i = .int .i64 k ∧ vals pre ++ tailW R k = bitsOf R ∧ J pre wr ∧ Tab wr)
    (fun i _ => 4 - (intOf i).toNat)
  case atStart => exact ⟨0, [], by omega, rfl, by rw [bitsOf_words]; rfl, h0, hT⟩
  case round =>
    obtain ⟨k, pre, hk, rfl, hx, hJ, hTr⟩ := hrel
    by_cases hlt : k < 4
    · have hidx := index_row R k hlt
      have HX : Hid (vals pre ++ tailW R k = bitsOf R) := hx
      clear hx
      have hd : decide ((k : Int) < 4) = true := decide_eq_true (by omega)
      gi_wp2
      gi_loopw [4] (fun v wr => ∃ (x : Nat) (pre : List (Pt R)), v = .int .u64 x ∧ Hid (x < 2 ^ 64) ∧ Hid (vals pre ++ ((bitsN 64 x).map (k * 64 + ·) ++ tailW R (k + 1)) = bitsOf R) ∧ J pre wr ∧ Tab wr) (fun v _ => (intOf v).toNat)
      case atStart => exact ⟨_, pre, rfl, wd_lt R k, (by rw [← HX.out, tailW_step R k hlt]; rfl), hJ, hTr⟩
      case round =>
        obtain ⟨x, pre2, rfl, hxl, hx2, hJ2, hT2⟩ := hrel
        by_cases hx0 : x = 0
        · subst hx0
          gi_wp2
          refine ⟨⟨k + 1, pre2, by omega, by go_num, ?_, hJ2, hT2⟩, by simp [intOf]; omega⟩
          have := hx2.out
          rwa [bitsN_zero, List.map_nil, List.nil_append] at this
        · obtain ⟨hb1, hb2, hb3⟩ := low_bit x hx0 hxl.out
          have hk64 : Lib.ctz 64 x < 64 := by obtain ⟨_, _, h⟩ := ctz_split x hx0 hxl.out; exact h
          have hpeel := bitsN_peel 64 x _ _ hk64 hb1 hb2 hb3
          have hcall : ∀ w0 : World, Tab w0 → Calls Tryd.prog 89 #[.int .u64 x] w0 fun e w' => e = .returned (.int .i64 (Lib.ctz 64 x)) ∧ w' = w0 := fun w0 ht => tz_calls x hxl hx0 w0 ht
          generalize Lib.ctz 64 x = t at *
          have hpl := congrArg List.length hx2.out
          have hbl := bitsOf_length R
          have hx3 : vals pre2 ++ ((k * 64 + t) :: ((bitsN 64 (x &&& (x - 1))).map (k * 64 + ·) ++ tailW R (k + 1))) = bitsOf R := by
            have := hx2.out; rw [hpeel] at this; exact this
          have hmem : k * 64 + t ∈ bitsOf R := by rw [← hx3]; simp
          obtain ⟨fn, tmps, assign, body, hy, hR⟩ := hY pre2 ⟨k * 64 + t, hmem⟩ wr hJ2 (by simp [vals] at hpl; omega)
          have Hand : Hid (_ = _) := and_pred_word x hxl.out hx0
          have HX3 : Hid (_ = _) := hx3
          have hlt2 := and_pred_lt x hx0
          have Hlt2 : Hid (x &&& (x - 1) < 2 ^ 64) := Nat.lt_trans hlt2 hxl.out
          have hxp : ((x : Int) != 0) = true := by simp; omega
          clear hpl hx3 hpeel hb1 hb2 hb3 hx2 hidx
          simp only [Int.natCast_add, Int.natCast_mul, Int.cast_ofNat_Int] at hy
          gi_wp2_with (refine ⟨trivial, ?_⟩; gi_at_call 89; refine (callsIn_wide.2 (hcall _ hT2)).mono ?_; rintro e w' ⟨rfl, rfl⟩)
          refine hR.mono ?_
          rintro e W3 (⟨rfl, hJ3, hk3⟩ | ⟨rfl, hJx3⟩)
          · gi_wp2
            rw [Hand.out]
            refine ⟨⟨x &&& (x - 1), pre2 ++ [⟨k * 64 + t, hmem⟩], rfl, Hlt2, ?_, hJ3, hT2.below hk3 (by omega)⟩, by simp [intOf]; omega⟩
            show _ = _
            rw [vals_snoc, List.append_assoc]
            exact HX3.out
          · gi_wp2
            refine bodyPost_ret (results_none rfl _ _ _) rfl ?_
            refine ⟨⟨_, rfl⟩, .inr ⟨pre2 ++ [⟨k * 64 + t, hmem⟩], ?_, hJx3⟩⟩
            refine ⟨(bitsN 64 (x &&& (x - 1))).map (k * 64 + ·) ++ tailW R (k + 1), ?_⟩
            rw [vals_snoc, List.append_assoc]
            exact HX3.out
    · obtain rfl : k = 4 := by omega
      gi_wp2
      go_end0
      exact ⟨⟨_, rfl⟩, .inl ⟨pre, by simpa [tailW] using hx, hJ⟩⟩

/-- **points' value keeps the word of an iterator**: all points of the row, rising, or a first part of them. -/
theorem points_stops (R Bn : Nat) (n : Nat) (hn : 1 ≤ n) (w : World) (hBn : Blk w Bn 83 (rcs R)) (hT : Tab w) :
    SeqStopsK Fence.wide n Tryd.prog 88 #[.pointer (some ⟨Bn, 0, none⟩)] (fun x : Pt R => #[Value.int .i64 ((x.1 : Nat) : Int)]) (Below 1) (fun ys => vals ys = bitsOf R) (fun pre => vals pre <+: bitsOf R) 257 w := fun l J Jx W hW _ _ hY h0 =>
  points1_in R l Bn n hn J Jx hY W (hBn.of_below hW) (hT.step hW) h0
end Go.Proofs.YteejkhgccaagiaaDoor
