import Derived.Test.YtdkogbfamdnheaaGreatDoorJ06
namespace Go.Proofs.YtdkogbfamdnheaaGreatDoor
open Go.RowKit Sx
set_option maxRecDepth 100000
set_option maxHeartbeats 16000000
set_option linter.unusedSimpArgs false
set_option linter.unusedVariables false
def gr (L : List Nat) (p : Nat) : Nat := L.getD p 0
theorem Qb7 {L : List Nat} {i : Nat} (h : i < L.length) : L[i]? = some (gr L i) := by simp [gr, List.getD, h]
theorem Qho {L : List Nat} {i R : Nat} (h : L[i]? = some R) : gr L i = R := by simp [gr, List.getD, h]
theorem Qle {L : List Nat} {i : Nat} (h : ¬ i < L.length) : gr L i = 0 := by simp [gr, List.getD, h]
def Qf9 (L : List Nat) : Array Value := (L.flatMap (fun R => (rcs R).toList)).toArray
theorem Qit (L : List Nat) : (Qf9 L).size = 4 * L.length := by
 unfold Qf9
 induction L with
 | nil => rfl
 | cons R L ih => simp [rcs] at ih ⊢; omega
theorem Qnd : ∀ (L : List Nat) (i j : Nat) (R : Nat), j < 4 → L[i]? = some R → (L.flatMap (fun R => (rcs R).toList))[4 * i + j]? = some (.int .u64 ((wd R j : Nat) : Int))
 | [], i, j, R, _, h => by simp at h
 | S :: L, 0, j, R, hj, h => by
  simp at h; subst h
  rw [List.flatMap_cons, List.getElem?_append_left (by simp [rcs]; omega)]
  have := Qch (R := S) hj
  simpa using this
 | S :: L, i + 1, j, R, hj, h => by
  rw [List.flatMap_cons, List.getElem?_append_right (by simp [rcs]; omega)]
  have hs : (rcs S).toList.length = 4 := by simp [rcs]
  rw [hs, show 4 * (i + 1) + j - 4 = 4 * i + j from by omega]
  exact Qnd L i j R hj (by simpa using h)
theorem Qgm {L : List Nat} {i j R : Nat} (hj : j < 4) (h : L[i]? = some R) : (Qf9 L)[4 * i + j]? = some (.int .u64 ((wd R j : Nat) : Int)) := by
 have := Qnd L i j R hj h
 simpa [Qf9] using this
theorem QB8 {L : List Nat} {i R : Nat} (h : i < L.length) :
  ((((Qf9 L).setIfInBounds (i * 4) (.int .u64 ((wd R 0 : Nat) : Int))).setIfInBounds (i * 4 + 1) (.int .u64 ((wd R 1 : Nat) : Int))).setIfInBounds (i * 4 + 2) (.int .u64 ((wd R 2 : Nat) : Int))).setIfInBounds (i * 4 + 3) (.int .u64 ((wd R 3 : Nat) : Int)) = Qf9 (L.set i R) := by
 rw [Nat.mul_comm i 4]
 apply Array.ext_getElem?
 intro k
 by_cases hk : k < 4 * L.length
 ·obtain ⟨q, r, hr, rfl⟩ : ∃ q r, r < 4 ∧ k = 4 * q + r := ⟨k / 4, k % 4, Nat.mod_lt _ oW, oW⟩
  have hq : q < L.length := by omega
  have e2 : (Qf9 (L.set i R))[4 * q + r]? = some (.int .u64 ((wd (if q = i then R else L[q]) r : Nat) : Int)) := by
   refine Qgm hr ?_
   rw [List.getElem?_set]
   by_cases hqi : i = q
   ·subst hqi; simp [hq]
   ·rw [if_neg hqi, if_neg (fun e => hqi e.symm), List.getElem?_eq_getElem hq]
  have e1 : (Qf9 L)[4 * q + r]? = some (.int .u64 ((wd L[q] r : Nat) : Int)) := Qgm hr (List.getElem?_eq_getElem hq)
  rw [e2]
  simp only [Array.getElem?_setIfInBounds, e1, Array.size_setIfInBounds, Qit]
  by_cases hqi : q = i
  ·subst hqi
   have : r = 0 ∨ r = 1 ∨ r = 2 ∨ r = 3 := by omega
   rcases this with rfl | rfl | rfl | rfl <;> simp <;> omega
  ·rw [if_neg oW, if_neg oW, if_neg oW, if_neg oW, if_neg hqi]
 ·rw [Array.getElem?_eq_none (by simp [Qit]; omega), Array.getElem?_eq_none (by simp [Qit]; omega)]
theorem Qzs (n : Nat) : madeCells #[.int .u64 0, .int .u64 0, .int .u64 0, .int .u64 0] (n * 4) = Qf9 (List.replicate n 0) := by
 apply Array.ext
 ·rw [size_madeCells, Qit, List.length_replicate]; omega
 ·intro k h1 h2
  rw [size_madeCells] at h1
  obtain ⟨q, r, hr, rfl⟩ : ∃ q r, r < 4 ∧ k = 4 * q + r := ⟨k / 4, k % 4, Nat.mod_lt _ oW, oW⟩
  have e := Qgm (L := List.replicate n 0) (i := q) (R := 0) hr (by rw [List.getElem?_replicate, if_pos oW])
  obtain ⟨_, e⟩ := Array.getElem?_eq_some_iff.1 e
  rw [e, Qhz]
  simp only [madeCells, Array.getElem_map, Array.getElem_range]
  have : r = 0 ∨ r = 1 ∨ r = 2 ∨ r = 3 := by omega
  rcases this with rfl | rfl | rfl | rfl <;> simp
structure IsRel (w : World) (b c : Nat) (L : List Nat) : Prop where
 ne : b ≠ c
 head : Blk w b 99 #[.slice (some ⟨c, 0, none⟩) L.length L.length]
 rows : Blk w c 102 (Qf9 L)
 len : L.length ≤ 256
 low : ∀ R ∈ L, R < 2 ^ L.length
structure Touch (c : Nat) (w w' : World) : Prop where
 os : w'.os = w.os
 tape : w'.tape = w.tape
 output : w'.output = w.output
 size : w.heap.size ≤ w'.heap.size
 block : ∀ k, k < w.heap.size → k ≠ c → w'.heap[k]? = w.heap[k]?
theorem Touch.below {c n : Nat} {w w' : World} (h : Touch c w w') (hc : n ≤ c) (hn : n ≤ w.heap.size) : Below n w w' :=
 ⟨h.os, h.tape, h.output, h.size, fun k hk => h.block k oW oW⟩
theorem Touch.of_below {c : Nat} {w w' : World} (h : Below w.heap.size w w') : Touch c w w' := ⟨h.os, h.tape, h.output, h.size, fun k hk _ => h.block k hk⟩
theorem Touch.set {c j : Nat} {a w : World} (h : Touch c a w) (v : Value) : Touch c a (w.setCell ⟨c, j, none⟩ v) :=
 ⟨h.os, h.tape, h.output, by simpa [World.setCell] using h.size, fun k hk hc => (Below.heap_setCell w ⟨c, j, none⟩ v k hc).trans (h.block k hk hc)⟩
theorem Blk.touch {c : Nat} {w w' : World} {b : Nat} {t : TypeId} {cs : Array Value} (h : Blk w b t cs) (ht : Touch c w w') (hc : b ≠ c) : Blk w' b t cs := (ht.block b h.lt hc).trans h
theorem IsRel.below {w w' : World} {b c : Nat} {L : List Nat} (h : IsRel w b c L) (hb : Below w.heap.size w w') : IsRel w' b c L :=
 ⟨h.ne, h.head.of_below hb, h.rows.of_below hb, h.len, h.low⟩
theorem IsRel.below' {w w' : World} {b c n : Nat} {L : List Nat} (h : IsRel w b c L) (hb : Below n w w') (h1 : b < n) (h2 : c < n) : IsRel w' b c L :=
 ⟨h.ne, h.head.below hb h1, h.rows.below hb h2, h.len, h.low⟩
theorem IsRel.alloc {w : World} {b c : Nat} {L : List Nat} (h : IsRel w b c L) (o : Obj) : IsRel (w.alloc o) b c L := ⟨h.ne, h.head.alloc o, h.rows.alloc o, h.len, h.low⟩
theorem IsRel.drew {w : World} {b c : Nat} {L : List Nat} (h : IsRel w b c L) : IsRel w.drew b c L := ⟨h.ne, h.head, h.rows, h.len, h.low⟩
theorem IsRel.other {w : World} {b c : Nat} {L : List Nat} (h : IsRel w b c L) {a : Addr} (h1 : b ≠ a.block) (h2 : c ≠ a.block) (v : Value) : IsRel (w.setCell a v) b c L :=
 ⟨h.ne, h.head.setOther h1 v, h.rows.setOther h2 v, h.len, h.low⟩
theorem IsRel.hcell {w : World} {b c : Nat} {L : List Nat} (h : IsRel w b c L) : w.cell? ⟨b, 0, none⟩ = some (.slice (some ⟨c, 0, none⟩) L.length L.length) := h.head.cell rfl
theorem IsRel.cells {w : World} {b c : Nat} {L : List Nat} (h : IsRel w b c L) {i R : Nat} (hi : L[i]? = some R) :
  w.cell? ⟨c, i * 4, none⟩ = some (.int .u64 ((wd R 0 : Nat) : Int)) ∧ w.cell? ⟨c, i * 4 + 1, none⟩ = some (.int .u64 ((wd R 1 : Nat) : Int)) ∧ w.cell? ⟨c, i * 4 + 2, none⟩ = some (.int .u64 ((wd R 2 : Nat) : Int)) ∧ w.cell? ⟨c, i * 4 + 3, none⟩ = some (.int .u64 ((wd R 3 : Nat) : Int)) := by
 rw [Nat.mul_comm i 4]
 exact ⟨h.rows.cell (Qgm (j := 0) oW hi), h.rows.cell (Qgm (j := 1) oW hi), h.rows.cell (Qgm (j := 2) oW hi), h.rows.cell (Qgm (j := 3) oW hi)⟩
theorem IsRel.put {w : World} {b c : Nat} {L : List Nat} (h : IsRel w b c L) {i R : Nat} (hi : i < L.length) (hR : R < 2 ^ L.length) :
  IsRel ((((w.setCell ⟨c, i * 4, none⟩ (.int .u64 ((wd R 0 : Nat) : Int))).setCell ⟨c, i * 4 + 1, none⟩ (.int .u64 ((wd R 1 : Nat) : Int))).setCell ⟨c, i * 4 + 2, none⟩ (.int .u64 ((wd R 2 : Nat) : Int))).setCell ⟨c, i * 4 + 3, none⟩ (.int .u64 ((wd R 3 : Nat) : Int))) b c (L.set i R) := by
 refine ⟨h.ne, ?_, ?_, by simpa using h.len, ?_⟩
 ·rw [List.length_set]
  exact (((h.head.setOther h.ne _).setOther h.ne _).setOther h.ne _).setOther h.ne _
 ·have := (((h.rows.set (i * 4) (.int .u64 ((wd R 0 : Nat) : Int))).set (i * 4 + 1) (.int .u64 ((wd R 1 : Nat) : Int))).set (i * 4 + 2) (.int .u64 ((wd R 2 : Nat) : Int))).set (i * 4 + 3) (.int .u64 ((wd R 3 : Nat) : Int))
  rwa [QB8 hi] at this
 ·intro S hS
  rw [List.length_set]
  rcases List.mem_or_eq_of_mem_set hS with h' | rfl
  ·exact h.low S h'
  ·exact hR
theorem IsRel.slots {w : World} {b c : Nat} {L : List Nat} (h : IsRel w b c L) {i R : Nat} (hi : L[i]? = some R) :
  w.cell? ⟨b, 0, none⟩ = some (.slice (some ⟨c, 0, none⟩) L.length L.length) ∧ (w.cell? ⟨c, i * 4, none⟩ = some (.int .u64 ((wd R 0 : Nat) : Int)) ∧ w.cell? ⟨c, i * 4 + 1, none⟩ = some (.int .u64 ((wd R 1 : Nat) : Int)) ∧ w.cell? ⟨c, i * 4 + 2, none⟩ = some (.int .u64 ((wd R 2 : Nat) : Int)) ∧ w.cell? ⟨c, i * 4 + 3, none⟩ = some (.int .u64 ((wd R 3 : Nat) : Int))) ∧
  (w.frozen? ⟨c, i * 4, none⟩ = false ∧ w.frozen? ⟨c, i * 4 + 1, none⟩ = false ∧ w.frozen? ⟨c, i * 4 + 2, none⟩ = false ∧ w.frozen? ⟨c, i * 4 + 3, none⟩ = false) ∧ b < w.heap.size ∧ c < w.heap.size :=
 ⟨h.hcell, h.cells hi, ⟨h.rows.frozen _, h.rows.frozen _, h.rows.frozen _, h.rows.frozen _⟩, h.head.lt, h.rows.lt⟩
abbrev pv (b : Nat) : Value := .pointer (some ⟨b, 0, none⟩)
def Qau (n : Int) : Nat := (max 0 (min n 256)).toNat
def inR (n : Nat) (p : Int) : Bool := decide (0 ≤ p ∧ p < n)
theorem Qdm {n : Nat} {p : Int} (h : inR n p = true) : ∃ i : Nat, p = i ∧ i < n := by
 have := of_decide_eq_true h
 exact ⟨p.toNat, oW, oW⟩
theorem Qeh {n i : Nat} (h : i < n) : inR n (i : Int) = true := decide_eq_true oW
theorem Qqn (b c : Nat) (L : List Nat) (w : World) (h : IsRel w b c L) :
  Calls Tryz.prog 21 #[pv b] w fun e w' => e = .returned (.int .i64 L.length) ∧ w' = w := by
 have hh := h.hcell
 go_enter Tryz.func21, Tryz.ntmps21
 go_wp2
 go_ret
 exact ⟨rfl, rfl⟩
theorem Qbx (b c : Nat) (L : List Nat) (p : Int) (w : World) (h : IsRel w b c L) :
  Calls Tryz.prog 58 #[pv b, .int .i64 p] w fun e w' => e = .returned (.bool (inR L.length p)) ∧ w' = w := by
 have hh := h.hcell
 by_cases h0 : 0 ≤ p
 ·by_cases h1 : p < L.length
  ·have e : inR L.length p = true := decide_eq_true ⟨h0, h1⟩
   rw [e]; clear e
   go_enter Tryz.func58, Tryz.ntmps58
   go_wp2
   go_ret
   exact ⟨by simp, rfl⟩
  ·have e : inR L.length p = false := decide_eq_false oW
   rw [e]; clear e
   go_enter Tryz.func58, Tryz.ntmps58
   go_wp2
   go_ret
   exact ⟨by simp, rfl⟩
 ·have e : inR L.length p = false := decide_eq_false oW
  rw [e]; clear e
  go_enter Tryz.func58, Tryz.ntmps58
  go_wp2
  go_ret
  exact ⟨by simp, rfl⟩
theorem Tryz.inforow : (Tryz.prog.info? 102).map (fun i => (i.zero, i.size, i.bytes)) = some (some (.agg #[.int .u64 0, .int .u64 0, .int .u64 0, .int .u64 0]), 4, 32) := by kernel_rfl
theorem Qzt (n : Nat) (h : n ≤ 256) (w : World) : (Instr.makeSlice 97 (.int .i64 n) (.int .i64 n)).run Tryz.prog w = .ok (.slice (some ⟨w.heap.size, 0, none⟩) n n) (w.alloc (.cells (Qf9 (List.replicate n 0)) 102)) := by
 have hi := Tryz.inforow
 cases hx : Tryz.prog.info? 102 with
 | none => rw [hx] at hi; cases hi
 | some i =>
  rw [hx] at hi
  simp only [Option.map_some, Option.some.injEq, Prod.mk.injEq] at hi
  obtain ⟨hz, hs, hb⟩ := hi
  have := run_make (P := Tryz.prog) w 97 102 i _ Tryz.underlying97 hx hz .i64 .i64 n n oW oW (by rw [hb]; omega) oW
  rw [this, hs, ← Qzs]
  rfl
theorem Qzu (w : World) (n : Nat) (h : n ≤ 256) : IsRel ((w.alloc (.cells (Qf9 (List.replicate n 0)) 102)).alloc (.cells #[.slice (some ⟨w.heap.size, 0, none⟩) n n] 99)) (w.heap.size + 1) w.heap.size (List.replicate n 0) := by
 refine ⟨oW, ?_, (Blk.new w _ _).alloc _, by simpa using h, ?_⟩
 ·have := Blk.new2 w (.cells (Qf9 (List.replicate n 0)) 102) 99 #[.slice (some ⟨w.heap.size, 0, none⟩) n n]
  simpa using this
 ·intro R hR
  rw [(List.mem_replicate.1 hR).2]
  exact Nat.two_pow_pos _
theorem QHr (n k : Int) (m : Nat) (C : Array Value) (w : World) (hmk : ∀ w : World, (Instr.makeSlice 97 (.int .i64 k) (.int .i64 k)).run Tryz.prog w = .ok (.slice (some ⟨w.heap.size, 0, none⟩) m m) (w.alloc (.cells C 102)))
  (h : (n ≤ 0 ∧ k = 0) ∨ (0 < n ∧ n ≤ 256 ∧ k = n) ∨ (256 < n ∧ k = 256)) :
  Calls Tryz.prog 66 #[.int .i64 n] w fun e w' => e = .returned (pv (w.heap.size + 1)) ∧ w' = (w.alloc (.cells C 102)).alloc (.cells #[.slice (some ⟨w.heap.size, 0, none⟩) m m] 99) := by
 rcases h with ⟨h, rfl⟩ | ⟨h, h', rfl⟩ | ⟨h, rfl⟩
 all_goals
  go_enter Tryz.func66, Tryz.ntmps66
  go_wp2
  go_ret
  exact ⟨rfl, rfl⟩
theorem Qg4 (n : Int) (w : World) :
  Calls Tryz.prog 66 #[.int .i64 n] w fun e w' => ∃ b c, e = .returned (pv b) ∧ IsRel w' b c (List.replicate (Qau n) 0) ∧ w.heap.size ≤ b ∧ w.heap.size ≤ c ∧ Below w.heap.size w w' := by
 have hc : Qau n ≤ 256 := by unfold Qau; omega
 refine (QHr n (Qau n) (Qau n) (Qf9 (List.replicate (Qau n) 0)) w (Qzt (Qau n) hc) (by unfold Qau; omega)).mono ?_
 rintro e w' ⟨rfl, rfl⟩
 exact ⟨_, _, rfl, Qzu w (Qau n) hc, oW, Nat.le_refl _, ((Below.refl _ w).alloc nW _).alloc sW _⟩
theorem Qfh (b c : Nat) (L : List Nat) (p : Nat) (w : World) (h : IsRel w b c L) :
  Calls Tryz.prog 170 #[pv b, .int .i64 p] w fun e w' => e = .returned (rv (gr L p)) ∧ Below w.heap.size w w' := by
 have hh := h.hcell
 have hb := h.head.lt
 have hc := h.rows.lt
 by_cases hp : p < L.length
 ·obtain ⟨x0, x1, x2, x3⟩ := h.cells (Qb7 hp)
  generalize gr L p = R at *
  go_enter Tryz.func170, Tryz.ntmps170
  go_wp2
  exact bodyPost_ret (v := rv R) (by simp [results, Tryz.results170, go_sem]) rfl ⟨rfl, bW.alloc nW _⟩
 ·have e : gr L p = 0 := Qle hp
  have H : Hid (rv 0 = .agg #[.int .u64 0, .int .u64 0, .int .u64 0, .int .u64 0]) := by show _ = _; simp [rv, Qhz]
  rw [e, H.out]; clear e
  go_enter Tryz.func170, Tryz.ntmps170
  go_wp2
  exact bodyPost_ret (v := .agg #[.int .u64 0, .int .u64 0, .int .u64 0, .int .u64 0]) (by simp [results, Tryz.results170, go_sem]) rfl ⟨rfl, bW.alloc nW _⟩
def Qcr (L : List Nat) (a b : Int) : Bool := inR L.length a && (inR L.length b && (gr L a.toNat).testBit b.toNat)
theorem Qzv (b c : Nat) (L : List Nat) (x y : Int) (w : World) (h : IsRel w b c L) :
  Calls Tryz.prog 23 #[pv b, .int .i64 x, .int .i64 y] w fun e w' => e = .returned (.bool (Qcr L x y)) ∧ Below w.heap.size w w' := by
 have hh := h.hcell
 have hb := h.head.lt
 have hc := h.rows.lt
 have hlen := h.len
 cases hx : inR L.length x
 ·have H : Hid (inR L.length x = false) := hx
  have e : Qcr L x y = false := by simp [Qcr, hx]
  rw [e]; clear e hx
  go_enter Tryz.func23, Tryz.ntmps23
  go_wp2_with (go_at_call 58; refine (Qbx b c L x _ h).mono ?_; rw [H.out]; rintro e w' ⟨rfl, rfl⟩)
  go_ret
  exact ⟨rfl, Below.refl _ _⟩
 ·cases hy : inR L.length y
  ·have Hx : Hid (inR L.length x = true) := hx
   have Hy : Hid (inR L.length y = false) := hy
   have e : Qcr L x y = false := by simp [Qcr, hy]
   rw [e]; clear e hx hy
   go_enter Tryz.func23, Tryz.ntmps23
   go_wp2_with fail
   refine (Qbx b c L _ _ h).mono ?_
   rw [Hx.out]
   rintro e w' ⟨rfl, rfl⟩
   go_wp2_with fail
   refine (Qbx b c L _ _ h).mono ?_
   rw [Hy.out]
   rintro e w' ⟨rfl, rfl⟩
   go_wp2_with fail
   go_ret
   exact ⟨rfl, Below.refl _ _⟩
  ·obtain ⟨i, rfl, hi⟩ := Qdm hx
   obtain ⟨j, rfl, hj⟩ := Qdm hy
   obtain ⟨x0, x1, x2, x3⟩ := h.cells (Qb7 hi)
   have e : Qcr L i j = (gr L i).testBit j := by simp [Qcr, hx, hy]
   have Hx : Hid (inR L.length (i : Int) = true) := hx
   have Hy : Hid (inR L.length (j : Int) = true) := hy
   rw [e]; clear e hx hy
   generalize gr L i = R at *
   go_enter Tryz.func23, Tryz.ntmps23
   go_wp2_with fail
   refine (Qbx b c L _ _ h).mono ?_
   rw [Hx.out]
   rintro e w' ⟨rfl, rfl⟩
   go_wp2_with fail
   refine (Qbx b c L _ _ h).mono ?_
   rw [Hy.out]
   rintro e w' ⟨rfl, rfl⟩
   go_wp2_with fail
   refine (Qiu R j oW _).mono ?_
   rintro e w' ⟨rfl, hB⟩
   go_wp2_with fail
   go_ret
   exact ⟨rfl, hB⟩
def Qb0 (L : List Nat) (a b : Int) (v : Bool) : List Nat := if inR L.length a && inR L.length b then L.set a.toNat (Qa5 (gr L a.toNat) b.toNat v) else L
def Qne (L : List Nat) (a b : Int) (v : Bool) : Bool := inR L.length a && (inR L.length b && (Qcr L a b != v))
theorem Qzw (b c : Nat) (L : List Nat) (x y : Int) (v : Bool) (w : World) (h : IsRel w b c L) (hn : inR L.length x = false ∨ (inR L.length x = true ∧ inR L.length y = false)) :
  Calls Tryz.prog 22 #[pv b, .int .i64 x, .int .i64 y, .bool v] w fun e w' => e = .returned (.bool false) ∧ w' = w := by
 have hh := h.hcell
 rcases hn with hx | ⟨hx, hy⟩
 ·have H : Hid (inR L.length x = false) := hx
  clear hx
  go_enter Tryz.func22, Tryz.ntmps22
  go_wp2_with fail
  refine (Qbx b c L _ _ h).mono ?_
  rw [H.out]
  rintro e w' ⟨rfl, rfl⟩
  go_wp2_with fail
  go_ret
  exact ⟨rfl, rfl⟩
 ·have Hx : Hid (inR L.length x = true) := hx
  have Hy : Hid (inR L.length y = false) := hy
  clear hx hy
  go_enter Tryz.func22, Tryz.ntmps22
  go_wp2_with fail
  refine (Qbx b c L _ _ h).mono ?_
  rw [Hx.out]
  rintro e w' ⟨rfl, rfl⟩
  go_wp2_with fail
  refine (Qbx b c L _ _ h).mono ?_
  rw [Hy.out]
  rintro e w' ⟨rfl, rfl⟩
  go_wp2_with fail
  go_ret
  exact ⟨rfl, rfl⟩
theorem List.set_getElem?_self_of {L : List Nat} {i R : Nat} (h : L[i]? = some R) : L.set i R = L := by
 apply List.ext_getElem?
 intro k
 rw [List.getElem?_set]
 by_cases hk : i = k
 ·subst hk
  obtain ⟨hi, h⟩ := List.getElem?_eq_some_iff.1 h
  simp [hi, h]
 ·rw [if_neg hk]
theorem QFl (b c : Nat) (L : List Nat) (i j R : Nat) (v : Bool) (w : World) (h : IsRel w b c L) (hi : i < L.length) (hj : j < L.length) (hR : L[i]? = some R) :
  Calls Tryz.prog 22 #[pv b, .int .i64 i, .int .i64 j, .bool v] w fun e w' => e = .returned (.bool (R.testBit j != v)) ∧ IsRel w' b c (L.set i (Qa5 R j v)) ∧ Touch c w w' := by
 have hh := h.hcell
 have hb := h.head.lt
 have hc := h.rows.lt
 have hlen := h.len
 obtain ⟨x0, x1, x2, x3⟩ := h.cells hR
 have Hx : Hid (inR L.length (i : Int) = true) := Qeh hi
 have Hy : Hid (inR L.length (j : Int) = true) := Qeh hj
 go_enter Tryz.func22, Tryz.ntmps22
 go_wp2_with fail
 refine (Qbx b c L _ _ h).mono ?_
 rw [Hx.out]
 rintro e w' ⟨rfl, rfl⟩
 go_wp2_with fail
 refine (Qbx b c L _ _ h).mono ?_
 rw [Hy.out]
 rintro e w' ⟨rfl, rfl⟩
 go_wp2_with fail
 refine (Qiu R j oW _).mono ?_
 rintro e w1 ⟨rfl, hB⟩
 have h1 := h.below hB
 clear hh x0 x1 x2 x3
 obtain ⟨hh1, ⟨x0, x1, x2, x3⟩, ⟨f0, f1, f2, f3⟩, hb1, hc1⟩ := h1.slots hR
 cases hv : (R.testBit j == v)
 ·go_wp2_with fail
  go_region_with (go_at_call 60; refine (Qhp R j v oW _).mono ?_; rintro e w2 ⟨rfl, hB2⟩; obtain ⟨hh2, ⟨y0, y1, y2, y3⟩, ⟨g0, g1, g2, g3⟩, hb2, hc2⟩ := (h1.drew.below hB2).slots hR)
  all_goals
   go_wp2_with fail
   go_ret
   refine ⟨?_, (h1.drew.below hB2).put hi (Qwh (h.low R (List.mem_of_getElem? hR)) hj), ?_⟩
   ·rw [show (R.testBit j != v) = true from by simp [bne, hv]]; rfl
   ·exact ((((Touch.of_below (hB.drew.trans (hB2.mono hB.size))).set _).set _).set _).set _
 ·go_wp2_with fail
  go_ret
  have e : Qa5 R j v = R := by
   apply Nat.eq_of_testBit_eq
   intro t
   rw [Qcb]
   by_cases ht : t = j
   ·rw [if_pos ht, ht]; exact (eq_of_beq hv).symm
   ·rw [if_neg ht]
  refine ⟨?_, ?_, Touch.of_below hB⟩
  ·rw [show (R.testBit j != v) = false from by simp [bne, hv]]; rfl
  ·rw [e, List.set_getElem?_self_of hR]; exact h1
theorem Qsy {L : List Nat} {i j R : Nat} {v : Bool} (hi : i < L.length) (hj : j < L.length) (hR : L[i]? = some R) : Qb0 L i j v = L.set i (Qa5 R j v) := by
 have e : gr L i = R := Qho hR
 simp only [Qb0, Qeh hi, Qeh hj, Bool.and_self, if_true, Int.toNat_natCast, e]
theorem QB9 {L : List Nat} {i j R : Nat} {v : Bool} (hi : i < L.length) (hj : j < L.length) (hR : L[i]? = some R) : Qne L i j v = (R.testBit j != v) := by
 have e : gr L i = R := Qho hR
 simp only [Qne, Qcr, Qeh hi, Qeh hj, Bool.true_and, Int.toNat_natCast, e]
theorem Qml (L : List Nat) (x y : Int) (v : Bool) : (Qb0 L x y v).length = L.length := by
 unfold Qb0; split <;> simp
theorem Qeu (b c : Nat) (L : List Nat) (x y : Int) (v : Bool) (w : World) (h : IsRel w b c L) :
  Calls Tryz.prog 22 #[pv b, .int .i64 x, .int .i64 y, .bool v] w fun e w' => e = .returned (.bool (Qne L x y v)) ∧ IsRel w' b c (Qb0 L x y v) ∧ Touch c w w' := by
 cases hx : inR L.length x
 ·refine (Qzw b c L x y v w h (.inl hx)).mono ?_
  rintro e w' ⟨rfl, rfl⟩
  rw [show Qne L x y v = false from by simp [Qne, hx], show Qb0 L x y v = L from by simp [Qb0, hx]]
  exact ⟨rfl, h, Touch.of_below bW⟩
 ·cases hy : inR L.length y
  ·refine (Qzw b c L x y v w h (.inr ⟨hx, hy⟩)).mono ?_
   rintro e w' ⟨rfl, rfl⟩
   rw [show Qne L x y v = false from by simp [Qne, hy], show Qb0 L x y v = L from by simp [Qb0, hy]]
   exact ⟨rfl, h, Touch.of_below bW⟩
  ·obtain ⟨i, rfl, hi⟩ := Qdm hx
   obtain ⟨j, rfl, hj⟩ := Qdm hy
   have hR := Qb7 hi
   refine (QFl b c L i j _ v w h hi hj hR).mono ?_
   rw [Qsy hi hj hR, QB9 hi hj hR]
   rintro e w' ⟨rfl, h', ht⟩
   exact ⟨rfl, h', ht⟩
end Go.Proofs.YtdkogbfamdnheaaGreatDoor
