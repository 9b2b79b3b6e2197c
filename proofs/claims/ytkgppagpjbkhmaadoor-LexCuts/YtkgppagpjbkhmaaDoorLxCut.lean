/- The cutter's small calls: pass, cut, refuse. -/
import Derived.Test.YtkgppagpjbkhmaaDoorLxSign
import Derived.Test.YtkgppagpjbkhmaaDoorLxDig
import Derived.Laws.Rows
namespace Go.Proofs.YtkgppagpjbkhmaaDoor
open Go.RowKit Go.Shelf

/-- All old blocks but c are as they were. -/
structure But (c : Nat) (w w' : World) : Prop where
  os : w'.os = w.os
  tape : w'.tape = w.tape
  output : w'.output = w.output
  size : w.heap.size ≤ w'.heap.size
  block : ∀ k, k < w.heap.size → k ≠ c → w'.heap[k]? = w.heap[k]?
theorem But.refl (c : Nat) (w : World) : But c w w := ⟨rfl, rfl, rfl, Nat.le_refl _, fun _ _ _ => rfl⟩
theorem But.trans {c : Nat} {w w' w'' : World} (h : But c w w') (k : But c w' w'') : But c w w'' :=
  ⟨k.os.trans h.os, k.tape.trans h.tape, k.output.trans h.output, Nat.le_trans h.size k.size, fun i hi hne => (k.block i (Nat.lt_of_lt_of_le hi h.size) hne).trans (h.block i hi hne)⟩
theorem But.of_below {c : Nat} {w w' : World} (h : Below w.heap.size w w') : But c w w' := ⟨h.os, h.tape, h.output, h.size, fun k hk _ => h.block k hk⟩
theorem But.set {c : Nat} {w w' : World} (h : But c w w') (j : Nat) (v : Value) : But c w (w'.setCell ⟨c, j, none⟩ v) :=
  ⟨h.os, h.tape, h.output, by simpa using h.size, fun k hk hne => (Below.heap_setCell w' _ v k (fun e => hne e)).trans (h.block k hk hne)⟩
theorem But.setNew {c : Nat} {w w' : World} (h : But c w w') {g : Nat} (hg : w.heap.size ≤ g) (j : Nat) (v : Value) : But c w (w'.setCell ⟨g, j, none⟩ v) :=
  ⟨h.os, h.tape, h.output, by simpa using h.size, fun k hk hne => (Below.heap_setCell w' _ v k (fun e => by have e : k = g := e; omega)).trans (h.block k hk hne)⟩
theorem But.alloc {c : Nat} {w w' : World} (h : But c w w') (o : Obj) : But c w (w'.alloc o) := h.trans (But.of_below ((Below.refl _ _).alloc (Nat.le_refl _) _))
theorem But.drew {c : Nat} {w w' : World} (h : But c w w') : But c w w'.drew := ⟨h.os, h.tape, h.output, h.size, h.block⟩
theorem But.drewN {c : Nat} {w w' : World} (h : But c w w') (n : Nat) : But c w (w'.drewN n) := ⟨h.os, h.tape, h.output, h.size, h.block⟩
theorem But.below {c n : Nat} {w w' : World} (h : But c w w') (hc : n ≤ c) (hn : n ≤ w.heap.size) : Below n w w' := ⟨h.os, h.tape, h.output, h.size, fun k hk => h.block k (by omega) (by omega)⟩
theorem Blk.but {c : Nat} {w w' : World} {b : Nat} {t : TypeId} {cs : Array Value} (h : Blk w b t cs) (ho : But c w w') (hn : b ≠ c) : Blk w' b t cs := (ho.block b h.lt hn).trans h
theorem SigTab.but {c : Nat} {w w' : World} (h : SigTab w) (hb : But c w w') (hc : c ≠ 0) : SigTab w' :=
  ⟨Nat.lt_of_lt_of_le h.1 hb.size, fun j hj => by
    have := hb.block 0 h.1 (fun e => hc e.symm)
    have h2 := h.2 j hj
    simp only [World.cell?] at h2 ⊢
    rw [this]
    exact h2⟩
theorem wrap_id {x : Int} (h0 : -9223372036854775808 ≤ x) (h1 : x ≤ 9223372036854775807) : IntKind.i64.wrap x = x := by
  simp [IntKind.wrap, IntKind.signed, IntKind.bits]
  omega
theorem Blk.row {w : World} {b : Nat} {t : TypeId} {cs : Array Value} (h : Blk w b t cs) (ds : Array Value) : Blk (w.setRow b ds) b t ds := setRow_heap w b cs ds t (0, 0) h
theorem Blk.rowOther {w : World} {b g : Nat} {t : TypeId} {cs : Array Value} (h : Blk w b t cs) (hne : b ≠ g) (ds : Array Value) : Blk (w.setRow g ds) b t cs := (setRow_other w g b ds hne).trans h
theorem But.row {c : Nat} {w w' : World} (h : But c w w') {g : Nat} (hg : w.heap.size ≤ g) (ds : Array Value) : But c w (w'.setRow g ds) :=
  ⟨h.os, h.tape, h.output, by rw [setRow_size]; exact h.size, fun k hk hne => (setRow_other w' g k ds (by omega)).trans (h.block k hk hne)⟩
abbrev pv (b : Nat) : Value := .pointer (some ⟨b, 0, none⟩)
abbrev cutA (s : ByteArray) (l k : Nat) : Array Value := #[.string s, .int .i64 ((l : Nat) : Int), .int .i64 ((k : Nat) : Int)]
def Cut (w : World) (c : Nat) (s : ByteArray) (l k : Nat) : Prop := Blk w c 54 (cutA s l k)
def dropB (s : ByteArray) (n : Nat) : ByteArray := s.extract n s.size
set_option maxHeartbeats 1000000 in
theorem pass_calls (c : Nat) (s : ByteArray) (l k n m : Nat) (w : World) (h : Cut w c s l k) (hn : n ≤ s.size) (hk : k ≤ 1000000) (hm : m ≤ 1000000) :
    Calls Tryd.prog 35 #[pv c, .int .i64 ((n : Nat) : Int), .int .i64 ((m : Nat) : Int)] w fun e w' => (∃ r, e = .returned r) ∧ Cut w' c (dropB s n) l (k + m) ∧ But c w w' := by
  have h' : Blk w c 54 (cutA s l k) := h
  have c0 : w.cell? ⟨c, 0, none⟩ = some (.string s) := h'.cell rfl
  have c2 : w.cell? ⟨c, 2, none⟩ = some (.int .i64 ((k : Nat) : Int)) := h'.cell rfl
  have f0 := h'.frozen 0
  have f2 := h'.frozen 2
  have n0 : (0 : Int) ≤ ((n : Nat) : Int) := by omega
  have n1 : ((n : Nat) : Int) ≤ ((s.size : Nat) : Int) := by omega
  go_enter Tryd.func35, Tryd.ntmps35
  go_wp2_with fail
  go_end0
  refine ⟨⟨_, rfl⟩, ?_, ((But.refl _ _).set _ _).set _ _⟩
  have := (h'.set 0 (.string (s.extract n s.size))).set 2 (.int .i64 (((k + m : Nat)) : Int))
  simp only [List.setIfInBounds_toArray, List.set_cons_zero, List.set_cons_succ, Int.natCast_add] at this
  unfold Cut cutA dropB
  rw [Int.natCast_add]
  exact this
abbrev tokA (kind : Nat) (t : ByteArray) (v l k : Nat) : Array Value := #[.int .i64 ((kind : Nat) : Int), .string t, .int .u64 ((v : Nat) : Int), .int .i64 ((l : Nat) : Int), .int .i64 ((k : Nat) : Int)]
abbrev fltA (code l k : Nat) : Array Value := #[.int .i64 ((code : Nat) : Int), .int .i64 ((l : Nat) : Int), .int .i64 ((k : Nat) : Int)]
set_option maxRecDepth 100000 in
set_option maxHeartbeats 1000000 in
theorem refuse_calls (c : Nat) (s : ByteArray) (l k m : Nat) (w : World) (h : Cut w c s l k) (hk : k ≤ 1000000) (hm : m ≤ 1000000) :
    Calls Tryd.prog 42 #[pv c, .int .i64 ((m : Nat) : Int)] w fun e w' => e = .returned (.agg (fltA 20 l (k + m))) ∧ Below w.heap.size w w' := by
  have h' : Blk (w.alloc (.cells #[.int .i64 0, .int .i64 0, .int .i64 0] 29)) c 54 (cutA s l k) := Blk.alloc h _
  have c1 : (w.alloc (.cells #[.int .i64 0, .int .i64 0, .int .i64 0] 29)).cell? ⟨c, 1, none⟩ = some (.int .i64 ((l : Nat) : Int)) := h'.cell rfl
  have c2 : (w.alloc (.cells #[.int .i64 0, .int .i64 0, .int .i64 0] 29)).cell? ⟨c, 2, none⟩ = some (.int .i64 ((k : Nat) : Int)) := h'.cell rfl
  have hcl : c < w.heap.size := Blk.lt h
  go_enter Tryd.func42, Tryd.ntmps42
  go_wp2_with fail
  go_region_held3 (fun w' => w'.cell? ⟨c, 1, none⟩ = some (.int .i64 ((l : Nat) : Int)) ∧ w'.cell? ⟨c, 2, none⟩ = some (.int .i64 ((k : Nat) : Int))) (first | assumption | exact ⟨c1, c2⟩ | exact ⟨(Blk.alloc h _).cell rfl, (Blk.alloc h _).cell rfl⟩) (fail)
  have hw : IntKind.i64.wrap (((k : Nat) : Int) + ((m : Nat) : Int)) = (((k + m : Nat)) : Int) := by rw [wrap_id (by omega) (by omega), Int.natCast_add]
  rw [hw]
  rename_i hHeld
  clear hHeld c1 c2
  go_wp2_with fail
  exact bodyPost_ret (results_cell_row rfl _ _ w.heap.size 29 (fltA 20 l (k + m)) (0, 0) _ rfl (Blk.drew (Blk.new w 29 _)) Tryd.underlying29 rfl (by kernel_rfl)) rfl ⟨rfl, ((Below.refl _ w).alloc (Nat.le_refl _) _).drew⟩
set_option maxRecDepth 100000 in
set_option maxHeartbeats 1000000 in
theorem cut_calls (c : Nat) (s : ByteArray) (l k kind n m : Nat) (w : World) (h : Cut w c s l k) (hn : n ≤ s.size) (hk : k ≤ 1000000) (hm : m ≤ 1000000) :
    Calls Tryd.prog 38 #[pv c, .int .i64 ((kind : Nat) : Int), .int .i64 ((n : Nat) : Int), .int .i64 ((m : Nat) : Int)] w fun e w' => e = .returned (.agg (tokA kind (s.extract 0 n) 0 l k)) ∧ Cut w' c (dropB s n) l (k + m) ∧ But c w w' := by
  have h' : Blk (w.alloc (.cells #[.int .i64 0, .string ⟨#[]⟩, .int .u64 0, .int .i64 0, .int .i64 0] 35)) c 54 (cutA s l k) := Blk.alloc h _
  have c0 : (w.alloc (.cells #[.int .i64 0, .string ⟨#[]⟩, .int .u64 0, .int .i64 0, .int .i64 0] 35)).cell? ⟨c, 0, none⟩ = some (.string s) := h'.cell rfl
  have c1 : (w.alloc (.cells #[.int .i64 0, .string ⟨#[]⟩, .int .u64 0, .int .i64 0, .int .i64 0] 35)).cell? ⟨c, 1, none⟩ = some (.int .i64 ((l : Nat) : Int)) := h'.cell rfl
  have c2 : (w.alloc (.cells #[.int .i64 0, .string ⟨#[]⟩, .int .u64 0, .int .i64 0, .int .i64 0] 35)).cell? ⟨c, 2, none⟩ = some (.int .i64 ((k : Nat) : Int)) := h'.cell rfl
  have hcl : c < w.heap.size := Blk.lt h
  have n0 : (0 : Int) ≤ ((n : Nat) : Int) := by omega
  have n1 : ((n : Nat) : Int) ≤ ((s.size : Nat) : Int) := by omega
  go_enter Tryd.func38, Tryd.ntmps38
  go_wp2_with fail
  go_region_held3 (fun w' => w'.cell? ⟨c, 0, none⟩ = some (.string s) ∧ w'.cell? ⟨c, 1, none⟩ = some (.int .i64 ((l : Nat) : Int)) ∧ w'.cell? ⟨c, 2, none⟩ = some (.int .i64 ((k : Nat) : Int))) (first | assumption | exact ⟨c0, c1, c2⟩ | exact ⟨(Blk.alloc h' _).cell rfl, (Blk.alloc h' _).cell rfl, (Blk.alloc h' _).cell rfl⟩) (fail)
  rename_i hHeld
  clear hHeld c0 c1 c2
  have hC : Cut (((w.alloc (.cells #[.int .i64 0, .string ⟨#[]⟩, .int .u64 0, .int .i64 0, .int .i64 0] 35)).alloc (.cells (tokA kind (s.extract 0 n) 0 l k) 35)).drew) c s l k := Blk.drew (Blk.alloc h' _)
  have hR : Blk (((w.alloc (.cells #[.int .i64 0, .string ⟨#[]⟩, .int .u64 0, .int .i64 0, .int .i64 0] 35)).alloc (.cells (tokA kind (s.extract 0 n) 0 l k) 35)).drew) w.heap.size 35 #[.int .i64 0, .string ⟨#[]⟩, .int .u64 0, .int .i64 0, .int .i64 0] := Blk.drew (Blk.alloc (Blk.new w _ _) _)
  have hN : Blk (((w.alloc (.cells #[.int .i64 0, .string ⟨#[]⟩, .int .u64 0, .int .i64 0, .int .i64 0] 35)).alloc (.cells (tokA kind (s.extract 0 n) 0 l k) 35)).drew) (w.heap.size + 1) 35 (tokA kind (s.extract 0 n) 0 l k) := by
    have := Blk.drew (Blk.new (w.alloc (.cells #[.int .i64 0, .string ⟨#[]⟩, .int .u64 0, .int .i64 0, .int .i64 0] 35)) 35 (tokA kind (s.extract 0 n) 0 l k))
    rwa [World.size_alloc] at this
  have hW : But c w (((w.alloc (.cells #[.int .i64 0, .string ⟨#[]⟩, .int .u64 0, .int .i64 0, .int .i64 0] 35)).alloc (.cells (tokA kind (s.extract 0 n) 0 l k) 35)).drew) := (((But.refl c w).alloc _).alloc _).drew
  generalize (((w.alloc (.cells #[.int .i64 0, .string ⟨#[]⟩, .int .u64 0, .int .i64 0, .int .i64 0] 35)).alloc (.cells (tokA kind (s.extract 0 n) 0 l k) 35)).drew) = W at *
  go_wp2_with fail
  refine (pass_calls c s l k n m W hC hn hk hm).mono ?_
  rintro e w1 ⟨⟨r, rfl⟩, hC1, hB1⟩
  have hR1 := hR.but hB1 (by omega)
  have hN1 := hN.but hB1 (by omega)
  go_wp2_with (first | refine wpList_load_row rfl 35 _ rfl (w.heap.size + 1) rfl 35 _ (0, 0) _ hN1 Tryd.underlying35 rfl (by kernel_rfl) ?_ | refine wpList_store_row rfl 35 _ _ rfl w.heap.size (tokA kind (s.extract 0 n) 0 l k) rfl rfl 35 _ hR1 (by kernel_rfl) rfl (by simp [Value.oneCell']) ?_)
  have hcn : c ≠ w.heap.size := by omega
  exact bodyPost_ret (results_cell_row rfl _ _ w.heap.size 35 (tokA kind (s.extract 0 n) 0 l k) (0, 0) _ rfl (hR1.row _) Tryd.underlying35 rfl (by kernel_rfl)) rfl ⟨rfl, Blk.rowOther hC1 hcn _, (hW.trans hB1).row (Nat.le_refl _) _⟩
end Go.Proofs.YtkgppagpjbkhmaaDoor
