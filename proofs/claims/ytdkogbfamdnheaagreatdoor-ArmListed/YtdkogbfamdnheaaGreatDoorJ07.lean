import Derived.Test.YtdkogbfamdnheaaGreatDoorJ06
namespace Go.Proofs.YtdkogbfamdnheaaGreatDoor
open Go.RowKit Sx
set_option maxRecDepth 100000
set_option maxHeartbeats 16000000
set_option linter.unusedSimpArgs false
set_option linter.unusedVariables false
def gr (L : List Nat) (p : Nat) : Nat := L.getD p 0
theorem Qbf {L : List Nat} {i : Nat} (h : i < L.length) : L[i]? = some (gr L i) := by simp [gr, List.getD, h]
theorem Qge {L : List Nat} {i R : Nat} (h : L[i]? = some R) : gr L i = R := by simp [gr, List.getD, h]
theorem Qqa {L : List Nat} {i : Nat} (h : ¬ i < L.length) : gr L i = 0 := by simp [gr, List.getD, h]
def Qe9 (L : List Nat) : Array Value := (L.flatMap (fun R => (rcs R).toList)).toArray
theorem Qhb (L : List Nat) : (Qe9 L).size = 4 * L.length := by
 unfold Qe9
 induction L with
 | nil => rfl
 | cons R L ih => simp [rcs] at ih ⊢; omega
theorem Qln : ∀ (L : List Nat) (i j : Nat) (R : Nat), j < 4 → L[i]? = some R → (L.flatMap (fun R => (rcs R).toList))[4 * i + j]? = some (.int .u64 ((wd R j : Nat) : Int))
 | [], i, j, R, _, h => by simp at h
 | S :: L, 0, j, R, hj, h => by
  simp at h; subst h
  rw [List.flatMap_cons, List.getElem?_append_left (by simp [rcs]; omega)]
  have := Qbs (R := S) hj
  simpa using this
 | S :: L, i + 1, j, R, hj, h => by
  rw [List.flatMap_cons, List.getElem?_append_right (by simp [rcs]; omega)]
  have hs : (rcs S).toList.length = 4 := by simp [rcs]
  rw [hs, show 4 * (i + 1) + j - 4 = 4 * i + j from by omega]
  exact Qln L i j R hj (by simpa using h)
theorem Qff {L : List Nat} {i j R : Nat} (hj : j < 4) (h : L[i]? = some R) : (Qe9 L)[4 * i + j]? = some (.int .u64 ((wd R j : Nat) : Int)) := by
 have := Qln L i j R hj h
 simpa [Qe9] using this
theorem Qya {L : List Nat} {i R : Nat} (h : i < L.length) :
  ((((Qe9 L).setIfInBounds (i * 4) (.int .u64 ((wd R 0 : Nat) : Int))).setIfInBounds (i * 4 + 1) (.int .u64 ((wd R 1 : Nat) : Int))).setIfInBounds (i * 4 + 2) (.int .u64 ((wd R 2 : Nat) : Int))).setIfInBounds (i * 4 + 3) (.int .u64 ((wd R 3 : Nat) : Int)) = Qe9 (L.set i R) := by
 rw [Nat.mul_comm i 4]
 apply Array.ext_getElem?
 intro k
 by_cases hk : k < 4 * L.length
 ·obtain ⟨q, r, hr, rfl⟩ : ∃ q r, r < 4 ∧ k = 4 * q + r := ⟨k / 4, k % 4, Nat.mod_lt _ oW, oW⟩
  have hq : q < L.length := by omega
  have e2 : (Qe9 (L.set i R))[4 * q + r]? = some (.int .u64 ((wd (if q = i then R else L[q]) r : Nat) : Int)) := by
   refine Qff hr ?_
   rw [List.getElem?_set]
   by_cases hqi : i = q
   ·subst hqi; simp [hq]
   ·rw [if_neg hqi, if_neg (fun e => hqi e.symm), List.getElem?_eq_getElem hq]
  have e1 : (Qe9 L)[4 * q + r]? = some (.int .u64 ((wd L[q] r : Nat) : Int)) := Qff hr (List.getElem?_eq_getElem hq)
  rw [e2]
  simp only [Array.getElem?_setIfInBounds, e1, Array.size_setIfInBounds, Qhb]
  by_cases hqi : q = i
  ·subst hqi
   have : r = 0 ∨ r = 1 ∨ r = 2 ∨ r = 3 := by omega
   rcases this with rfl | rfl | rfl | rfl <;> simp <;> omega
  ·rw [if_neg oW, if_neg oW, if_neg oW, if_neg oW, if_neg hqi]
 ·rw [Array.getElem?_eq_none (by simp [Qhb]; omega), Array.getElem?_eq_none (by simp [Qhb]; omega)]
theorem Qw (n : Nat) : madeCells #[.int .u64 0, .int .u64 0, .int .u64 0, .int .u64 0] (n * 4) = Qe9 (List.replicate n 0) := by
 apply Array.ext
 ·rw [size_madeCells, Qhb, List.length_replicate]; omega
 ·intro k h1 h2
  rw [size_madeCells] at h1
  obtain ⟨q, r, hr, rfl⟩ : ∃ q r, r < 4 ∧ k = 4 * q + r := ⟨k / 4, k % 4, Nat.mod_lt _ oW, oW⟩
  have e := Qff (L := List.replicate n 0) (i := q) (R := 0) hr (by rw [List.getElem?_replicate, if_pos oW])
  obtain ⟨_, e⟩ := Array.getElem?_eq_some_iff.1 e
  rw [e, Qgn]
  simp only [madeCells, Array.getElem_map, Array.getElem_range]
  have : r = 0 ∨ r = 1 ∨ r = 2 ∨ r = 3 := by omega
  rcases this with rfl | rfl | rfl | rfl <;> simp
structure IsRel (w : World) (b c : Nat) (L : List Nat) : Prop where
 ne : b ≠ c
 head : Blk w b 99 #[.slice (some ⟨c, 0, none⟩) L.length L.length]
 rows : Blk w c 102 (Qe9 L)
 len : L.length ≤ 256
 low : ∀ R ∈ L, R < 2 ^ L.length
structure Touch (c : Nat) (w w' : World) : Prop where
 os : w'.os = w.os
 tape : w'.tape = w.tape
 output : w'.output = w.output
 size : w.heap.size ≤ w'.heap.size
 block : ∀ k, k < w.heap.size → k ≠ c → w'.heap[k]? = w.heap[k]?
theorem Touch.below {c n : Nat} {w w' : World} (h : Touch c w w') (hc : n ≤ c) (hn : n ≤ w.heap.size) : Below n w w' :=
 ⟨h.os, h.tape, h.output, h.size, fun k hk => h.block k oW oW⟩
theorem Touch.of_below {c : Nat} {w w' : World} (h : Below w.heap.size w w') : Touch c w w' := ⟨h.os, h.tape, h.output, h.size, fun k hk _ => h.block k hk⟩
theorem Touch.set {c j : Nat} {a w : World} (h : Touch c a w) (v : Value) : Touch c a (w.setCell ⟨c, j, none⟩ v) :=
 ⟨h.os, h.tape, h.output, by simpa [World.setCell] using h.size, fun k hk hc => (Below.heap_setCell w ⟨c, j, none⟩ v k hc).trans (h.block k hk hc)⟩
theorem Blk.touch {c : Nat} {w w' : World} {b : Nat} {t : TypeId} {cs : Array Value} (h : Blk w b t cs) (ht : Touch c w w') (hc : b ≠ c) : Blk w' b t cs := (ht.block b h.lt hc).trans h
theorem IsRel.below {w w' : World} {b c : Nat} {L : List Nat} (h : IsRel w b c L) (hb : Below w.heap.size w w') : IsRel w' b c L :=
 ⟨h.ne, h.head.of_below hb, h.rows.of_below hb, h.len, h.low⟩
theorem IsRel.below' {w w' : World} {b c n : Nat} {L : List Nat} (h : IsRel w b c L) (hb : Below n w w') (h1 : b < n) (h2 : c < n) : IsRel w' b c L :=
 ⟨h.ne, h.head.below hb h1, h.rows.below hb h2, h.len, h.low⟩
theorem IsRel.alloc {w : World} {b c : Nat} {L : List Nat} (h : IsRel w b c L) (o : Obj) : IsRel (w.alloc o) b c L := ⟨h.ne, h.head.alloc o, h.rows.alloc o, h.len, h.low⟩
theorem IsRel.drew {w : World} {b c : Nat} {L : List Nat} (h : IsRel w b c L) : IsRel w.drew b c L := ⟨h.ne, h.head, h.rows, h.len, h.low⟩
theorem IsRel.other {w : World} {b c : Nat} {L : List Nat} (h : IsRel w b c L) {a : Addr} (h1 : b ≠ a.block) (h2 : c ≠ a.block) (v : Value) : IsRel (w.setCell a v) b c L :=
 ⟨h.ne, h.head.setOther h1 v, h.rows.setOther h2 v, h.len, h.low⟩
theorem IsRel.hcell {w : World} {b c : Nat} {L : List Nat} (h : IsRel w b c L) : w.cell? ⟨b, 0, none⟩ = some (.slice (some ⟨c, 0, none⟩) L.length L.length) := h.head.cell rfl
theorem IsRel.cells {w : World} {b c : Nat} {L : List Nat} (h : IsRel w b c L) {i R : Nat} (hi : L[i]? = some R) :
  w.cell? ⟨c, i * 4, none⟩ = some (.int .u64 ((wd R 0 : Nat) : Int)) ∧ w.cell? ⟨c, i * 4 + 1, none⟩ = some (.int .u64 ((wd R 1 : Nat) : Int)) ∧ w.cell? ⟨c, i * 4 + 2, none⟩ = some (.int .u64 ((wd R 2 : Nat) : Int)) ∧ w.cell? ⟨c, i * 4 + 3, none⟩ = some (.int .u64 ((wd R 3 : Nat) : Int)) := by
 rw [Nat.mul_comm i 4]
 exact ⟨h.rows.cell (Qff (j := 0) oW hi), h.rows.cell (Qff (j := 1) oW hi), h.rows.cell (Qff (j := 2) oW hi), h.rows.cell (Qff (j := 3) oW hi)⟩
theorem IsRel.put {w : World} {b c : Nat} {L : List Nat} (h : IsRel w b c L) {i R : Nat} (hi : i < L.length) (hR : R < 2 ^ L.length) :
  IsRel ((((w.setCell ⟨c, i * 4, none⟩ (.int .u64 ((wd R 0 : Nat) : Int))).setCell ⟨c, i * 4 + 1, none⟩ (.int .u64 ((wd R 1 : Nat) : Int))).setCell ⟨c, i * 4 + 2, none⟩ (.int .u64 ((wd R 2 : Nat) : Int))).setCell ⟨c, i * 4 + 3, none⟩ (.int .u64 ((wd R 3 : Nat) : Int))) b c (L.set i R) := by
 refine ⟨h.ne, ?_, ?_, by simpa using h.len, ?_⟩
 ·rw [List.length_set]
  exact (((h.head.setOther h.ne _).setOther h.ne _).setOther h.ne _).setOther h.ne _
 ·have := (((h.rows.set (i * 4) (.int .u64 ((wd R 0 : Nat) : Int))).set (i * 4 + 1) (.int .u64 ((wd R 1 : Nat) : Int))).set (i * 4 + 2) (.int .u64 ((wd R 2 : Nat) : Int))).set (i * 4 + 3) (.int .u64 ((wd R 3 : Nat) : Int))
  rwa [Qya hi] at this
 ·intro S hS
  rw [List.length_set]
  rcases List.mem_or_eq_of_mem_set hS with h' | rfl
  ·exact h.low S h'
  ·exact hR
theorem IsRel.slots {w : World} {b c : Nat} {L : List Nat} (h : IsRel w b c L) {i R : Nat} (hi : L[i]? = some R) :
  w.cell? ⟨b, 0, none⟩ = some (.slice (some ⟨c, 0, none⟩) L.length L.length) ∧ (w.cell? ⟨c, i * 4, none⟩ = some (.int .u64 ((wd R 0 : Nat) : Int)) ∧ w.cell? ⟨c, i * 4 + 1, none⟩ = some (.int .u64 ((wd R 1 : Nat) : Int)) ∧ w.cell? ⟨c, i * 4 + 2, none⟩ = some (.int .u64 ((wd R 2 : Nat) : Int)) ∧ w.cell? ⟨c, i * 4 + 3, none⟩ = some (.int .u64 ((wd R 3 : Nat) : Int))) ∧
  (w.frozen? ⟨c, i * 4, none⟩ = false ∧ w.frozen? ⟨c, i * 4 + 1, none⟩ = false ∧ w.frozen? ⟨c, i * 4 + 2, none⟩ = false ∧ w.frozen? ⟨c, i * 4 + 3, none⟩ = false) ∧ b < w.heap.size ∧ c < w.heap.size :=
 ⟨h.hcell, h.cells hi, ⟨h.rows.frozen _, h.rows.frozen _, h.rows.frozen _, h.rows.frozen _⟩, h.head.lt, h.rows.lt⟩
abbrev pv (b : Nat) : Value := .pointer (some ⟨b, 0, none⟩)
def Qbi (n : Int) : Nat := (max 0 (min n 256)).toNat
def inR (n : Nat) (p : Int) : Bool := decide (0 ≤ p ∧ p < n)
theorem Qfg {n : Nat} {p : Int} (h : inR n p = true) : ∃ i : Nat, p = i ∧ i < n := by
 have := of_decide_eq_true h
 exact ⟨p.toNat, oW, oW⟩
theorem Qdt {n i : Nat} (h : i < n) : inR n (i : Int) = true := decide_eq_true oW
theorem Qoa (b c : Nat) (L : List Nat) (w : World) (h : IsRel w b c L) :
  Calls Tryz.prog 21 #[pv b] w fun e w' => e = .returned (.int .i64 L.length) ∧ w' = w := by
 have hh := h.hcell
 go_enter Tryz.func21, Tryz.ntmps21
 go_wp2
 go_ret
 exact ⟨rfl, rfl⟩
theorem Qbb (b c : Nat) (L : List Nat) (p : Int) (w : World) (h : IsRel w b c L) :
  Calls Tryz.prog 58 #[pv b, .int .i64 p] w fun e w' => e = .returned (.bool (inR L.length p)) ∧ w' = w := by
 have hh := h.hcell
 by_cases h0 : 0 ≤ p
 ·by_cases h1 : p < L.length
  ·have e : inR L.length p = true := decide_eq_true ⟨h0, h1⟩
   rw [e]; clear e
   go_enter Tryz.func58, Tryz.ntmps58
   go_wp2
   go_ret
   exact ⟨by simp, rfl⟩
  ·have e : inR L.length p = false := decide_eq_false oW
   rw [e]; clear e
   go_enter Tryz.func58, Tryz.ntmps58
   go_wp2
   go_ret
   exact ⟨by simp, rfl⟩
 ·have e : inR L.length p = false := decide_eq_false oW
  rw [e]; clear e
  go_enter Tryz.func58, Tryz.ntmps58
  go_wp2
  go_ret
  exact ⟨by simp, rfl⟩
theorem Tryz.inforow : (Tryz.prog.info? 102).map (fun i => (i.zero, i.size, i.bytes)) = some (some (.agg #[.int .u64 0, .int .u64 0, .int .u64 0, .int .u64 0]), 4, 32) := by kernel_rfl
theorem Qwa (n : Nat) (h : n ≤ 256) (w : World) : (Instr.makeSlice 97 (.int .i64 n) (.int .i64 n)).run Tryz.prog w = .ok (.slice (some ⟨w.heap.size, 0, none⟩) n n) (w.alloc (.cells (Qe9 (List.replicate n 0)) 102)) := by
 have hi := Tryz.inforow
 cases hx : Tryz.prog.info? 102 with
 | none => rw [hx] at hi; cases hi
 | some i =>
  rw [hx] at hi
  simp only [Option.map_some, Option.some.injEq, Prod.mk.injEq] at hi
  obtain ⟨hz, hs, hb⟩ := hi
  have := run_make (P := Tryz.prog) w 97 102 i _ Tryz.underlying97 hx hz .i64 .i64 n n oW oW (by rw [hb]; omega) oW
  rw [this, hs, ← Qw]
  rfl
theorem Qwb (w : World) (n : Nat) (h : n ≤ 256) : IsRel ((w.alloc (.cells (Qe9 (List.replicate n 0)) 102)).alloc (.cells #[.slice (some ⟨w.heap.size, 0, none⟩) n n] 99)) (w.heap.size + 1) w.heap.size (List.replicate n 0) := by
 refine ⟨oW, ?_, (Blk.new w _ _).alloc _, by simpa using h, ?_⟩
 ·have := Blk.new2 w (.cells (Qe9 (List.replicate n 0)) 102) 99 #[.slice (some ⟨w.heap.size, 0, none⟩) n n]
  simpa using this
 ·intro R hR
  rw [(List.mem_replicate.1 hR).2]
  exact Nat.two_pow_pos _
theorem QBt (n k : Int) (m : Nat) (C : Array Value) (w : World) (hmk : ∀ w : World, (Instr.makeSlice 97 (.int .i64 k) (.int .i64 k)).run Tryz.prog w = .ok (.slice (some ⟨w.heap.size, 0, none⟩) m m) (w.alloc (.cells C 102)))
  (h : (n ≤ 0 ∧ k = 0) ∨ (0 < n ∧ n ≤ 256 ∧ k = n) ∨ (256 < n ∧ k = 256)) :
  Calls Tryz.prog 66 #[.int .i64 n] w fun e w' => e = .returned (pv (w.heap.size + 1)) ∧ w' = (w.alloc (.cells C 102)).alloc (.cells #[.slice (some ⟨w.heap.size, 0, none⟩) m m] 99) := by
 rcases h with ⟨h, rfl⟩ | ⟨h, h', rfl⟩ | ⟨h, rfl⟩
 all_goals
  go_enter Tryz.func66, Tryz.ntmps66
  go_wp2
  go_ret
  exact ⟨rfl, rfl⟩
theorem Qfw (n : Int) (w : World) :
  Calls Tryz.prog 66 #[.int .i64 n] w fun e w' => ∃ b c, e = .returned (pv b) ∧ IsRel w' b c (List.replicate (Qbi n) 0) ∧ w.heap.size ≤ b ∧ w.heap.size ≤ c ∧ Below w.heap.size w w' := by
 have hc : Qbi n ≤ 256 := by unfold Qbi; omega
 refine (QBt n (Qbi n) (Qbi n) (Qe9 (List.replicate (Qbi n) 0)) w (Qwa (Qbi n) hc) (by unfold Qbi; omega)).mono ?_
 rintro e w' ⟨rfl, rfl⟩
 exact ⟨_, _, rfl, Qwb w (Qbi n) hc, oW, Nat.le_refl _, ((Below.refl _ w).alloc nW _).alloc sW _⟩
theorem Qeo (b c : Nat) (L : List Nat) (p : Nat) (w : World) (h : IsRel w b c L) :
  Calls Tryz.prog 170 #[pv b, .int .i64 p] w fun e w' => e = .returned (rv (gr L p)) ∧ Below w.heap.size w w' := by
 have hh := h.hcell
 have hb := h.head.lt
 have hc := h.rows.lt
 by_cases hp : p < L.length
 ·obtain ⟨x0, x1, x2, x3⟩ := h.cells (Qbf hp)
  generalize gr L p = R at *
  go_enter Tryz.func170, Tryz.ntmps170
  go_wp2
  exact bodyPost_ret (v := rv R) (by simp [results, Tryz.results170, go_sem]) rfl ⟨rfl, bW.alloc nW _⟩
 ·have e : gr L p = 0 := Qqa hp
  have H : Hid (rv 0 = .agg #[.int .u64 0, .int .u64 0, .int .u64 0, .int .u64 0]) := by show _ = _; simp [rv, Qgn]
  rw [e, H.out]; clear e
  go_enter Tryz.func170, Tryz.ntmps170
  go_wp2
  exact bodyPost_ret (v := .agg #[.int .u64 0, .int .u64 0, .int .u64 0, .int .u64 0]) (by simp [results, Tryz.results170, go_sem]) rfl ⟨rfl, bW.alloc nW _⟩
def Qdj (L : List Nat) (a b : Int) : Bool := inR L.length a && (inR L.length b && (gr L a.toNat).testBit b.toNat)
theorem Qwc (b c : Nat) (L : List Nat) (x y : Int) (w : World) (h : IsRel w b c L) :
  Calls Tryz.prog 23 #[pv b, .int .i64 x, .int .i64 y] w fun e w' => e = .returned (.bool (Qdj L x y)) ∧ Below w.heap.size w w' := by
 have hh := h.hcell
 have hb := h.head.lt
 have hc := h.rows.lt
 have hlen := h.len
 cases hx : inR L.length x
 ·have H : Hid (inR L.length x = false) := hx
  have e : Qdj L x y = false := by simp [Qdj, hx]
  rw [e]; clear e hx
  go_enter Tryz.func23, Tryz.ntmps23
  go_wp2_with (go_at_call 58; refine (Qbb b c L x _ h).mono ?_; rw [H.out]; rintro e w' ⟨rfl, rfl⟩)
  go_ret
  exact ⟨rfl, Below.refl _ _⟩
 ·cases hy : inR L.length y
  ·have Hx : Hid (inR L.length x = true) := hx
   have Hy : Hid (inR L.length y = false) := hy
   have e : Qdj L x y = false := by simp [Qdj, hy]
   rw [e]; clear e hx hy
   go_enter Tryz.func23, Tryz.ntmps23
   go_wp2_with fail
   refine (Qbb b c L _ _ h).mono ?_
   rw [Hx.out]
   rintro e w' ⟨rfl, rfl⟩
   go_wp2_with fail
   refine (Qbb b c L _ _ h).mono ?_
   rw [Hy.out]
   rintro e w' ⟨rfl, rfl⟩
   go_wp2_with fail
   go_ret
   exact ⟨rfl, Below.refl _ _⟩
  ·obtain ⟨i, rfl, hi⟩ := Qfg hx
   obtain ⟨j, rfl, hj⟩ := Qfg hy
   obtain ⟨x0, x1, x2, x3⟩ := h.cells (Qbf hi)
   have e : Qdj L i j = (gr L i).testBit j := by simp [Qdj, hx, hy]
   have Hx : Hid (inR L.length (i : Int) = true) := hx
   have Hy : Hid (inR L.length (j : Int) = true) := hy
   rw [e]; clear e hx hy
   generalize gr L i = R at *
   go_enter Tryz.func23, Tryz.ntmps23
   go_wp2_with fail
   refine (Qbb b c L _ _ h).mono ?_
   rw [Hx.out]
   rintro e w' ⟨rfl, rfl⟩
   go_wp2_with fail
   refine (Qbb b c L _ _ h).mono ?_
   rw [Hy.out]
   rintro e w' ⟨rfl, rfl⟩
   go_wp2_with fail
   refine (Qhc R j oW _).mono ?_
   rintro e w' ⟨rfl, hB⟩
   go_wp2_with fail
   go_ret
   exact ⟨rfl, hB⟩
def Qbc (L : List Nat) (a b : Int) (v : Bool) : List Nat := if inR L.length a && inR L.length b then L.set a.toNat (Qat (gr L a.toNat) b.toNat v) else L
def Qlo (L : List Nat) (a b : Int) (v : Bool) : Bool := inR L.length a && (inR L.length b && (Qdj L a b != v))
theorem Qwd (b c : Nat) (L : List Nat) (x y : Int) (v : Bool) (w : World) (h : IsRel w b c L) (hn : inR L.length x = false ∨ (inR L.length x = true ∧ inR L.length y = false)) :
  Calls Tryz.prog 22 #[pv b, .int .i64 x, .int .i64 y, .bool v] w fun e w' => e = .returned (.bool false) ∧ w' = w := by
 have hh := h.hcell
 rcases hn with hx | ⟨hx, hy⟩
 ·have H : Hid (inR L.length x = false) := hx
  clear hx
  go_enter Tryz.func22, Tryz.ntmps22
  go_wp2_with fail
  refine (Qbb b c L _ _ h).mono ?_
  rw [H.out]
  rintro e w' ⟨rfl, rfl⟩
  go_wp2_with fail
  go_ret
  exact ⟨rfl, rfl⟩
 ·have Hx : Hid (inR L.length x = true) := hx
  have Hy : Hid (inR L.length y = false) := hy
  clear hx hy
  go_enter Tryz.func22, Tryz.ntmps22
  go_wp2_with fail
  refine (Qbb b c L _ _ h).mono ?_
  rw [Hx.out]
  rintro e w' ⟨rfl, rfl⟩
  go_wp2_with fail
  refine (Qbb b c L _ _ h).mono ?_
  rw [Hy.out]
  rintro e w' ⟨rfl, rfl⟩
  go_wp2_with fail
  go_ret
  exact ⟨rfl, rfl⟩
theorem List.set_getElem?_self_of {L : List Nat} {i R : Nat} (h : L[i]? = some R) : L.set i R = L := by
 apply List.ext_getElem?
 intro k
 rw [List.getElem?_set]
 by_cases hk : i = k
 ·subst hk
  obtain ⟨hi, h⟩ := List.getElem?_eq_some_iff.1 h
  simp [hi, h]
 ·rw [if_neg hk]
theorem Qz4 (b c : Nat) (L : List Nat) (i j R : Nat) (v : Bool) (w : World) (h : IsRel w b c L) (hi : i < L.length) (hj : j < L.length) (hR : L[i]? = some R) :
  Calls Tryz.prog 22 #[pv b, .int .i64 i, .int .i64 j, .bool v] w fun e w' => e = .returned (.bool (R.testBit j != v)) ∧ IsRel w' b c (L.set i (Qat R j v)) ∧ Touch c w w' := by
 have hh := h.hcell
 have hb := h.head.lt
 have hc := h.rows.lt
 have hlen := h.len
 obtain ⟨x0, x1, x2, x3⟩ := h.cells hR
 have Hx : Hid (inR L.length (i : Int) = true) := Qdt hi
 have Hy : Hid (inR L.length (j : Int) = true) := Qdt hj
 go_enter Tryz.func22, Tryz.ntmps22
 go_wp2_with fail
 refine (Qbb b c L _ _ h).mono ?_
 rw [Hx.out]
 rintro e w' ⟨rfl, rfl⟩
 go_wp2_with fail
 refine (Qbb b c L _ _ h).mono ?_
 rw [Hy.out]
 rintro e w' ⟨rfl, rfl⟩
 go_wp2_with fail
 refine (Qhc R j oW _).mono ?_
 rintro e w1 ⟨rfl, hB⟩
 have h1 := h.below hB
 clear hh x0 x1 x2 x3
 obtain ⟨hh1, ⟨x0, x1, x2, x3⟩, ⟨f0, f1, f2, f3⟩, hb1, hc1⟩ := h1.slots hR
 cases hv : (R.testBit j == v)
 ·go_wp2_with fail
  go_region_with (go_at_call 60; refine (Qgf R j v oW _).mono ?_; rintro e w2 ⟨rfl, hB2⟩; obtain ⟨hh2, ⟨y0, y1, y2, y3⟩, ⟨g0, g1, g2, g3⟩, hb2, hc2⟩ := (h1.drew.below hB2).slots hR)
  all_goals
   go_wp2_with fail
   go_ret
   refine ⟨?_, (h1.drew.below hB2).put hi (Qsx (h.low R (List.mem_of_getElem? hR)) hj), ?_⟩
   ·rw [show (R.testBit j != v) = true from by simp [bne, hv]]; rfl
   ·exact ((((Touch.of_below (hB.drew.trans (hB2.mono hB.size))).set _).set _).set _).set _
 ·go_wp2_with fail
  go_ret
  have e : Qat R j v = R := by
   apply Nat.eq_of_testBit_eq
   intro t
   rw [Qb2]
   by_cases ht : t = j
   ·rw [if_pos ht, ht]; exact (eq_of_beq hv).symm
   ·rw [if_neg ht]
  refine ⟨?_, ?_, Touch.of_below hB⟩
  ·rw [show (R.testBit j != v) = false from by simp [bne, hv]]; rfl
  ·rw [e, List.set_getElem?_self_of hR]; exact h1
theorem Qqb {L : List Nat} {i j R : Nat} {v : Bool} (hi : i < L.length) (hj : j < L.length) (hR : L[i]? = some R) : Qbc L i j v = L.set i (Qat R j v) := by
 have e : gr L i = R := Qge hR
 simp only [Qbc, Qdt hi, Qdt hj, Bool.and_self, if_true, Int.toNat_natCast, e]
theorem Qyb {L : List Nat} {i j R : Nat} {v : Bool} (hi : i < L.length) (hj : j < L.length) (hR : L[i]? = some R) : Qlo L i j v = (R.testBit j != v) := by
 have e : gr L i = R := Qge hR
 simp only [Qlo, Qdj, Qdt hi, Qdt hj, Bool.true_and, Int.toNat_natCast, e]
theorem Qks (L : List Nat) (x y : Int) (v : Bool) : (Qbc L x y v).length = L.length := by
 unfold Qbc; split <;> simp
theorem Qd6 (b c : Nat) (L : List Nat) (x y : Int) (v : Bool) (w : World) (h : IsRel w b c L) :
  Calls Tryz.prog 22 #[pv b, .int .i64 x, .int .i64 y, .bool v] w fun e w' => e = .returned (.bool (Qlo L x y v)) ∧ IsRel w' b c (Qbc L x y v) ∧ Touch c w w' := by
 cases hx : inR L.length x
 ·refine (Qwd b c L x y v w h (.inl hx)).mono ?_
  rintro e w' ⟨rfl, rfl⟩
  rw [show Qlo L x y v = false from by simp [Qlo, hx], show Qbc L x y v = L from by simp [Qbc, hx]]
  exact ⟨rfl, h, Touch.of_below bW⟩
 ·cases hy : inR L.length y
  ·refine (Qwd b c L x y v w h (.inr ⟨hx, hy⟩)).mono ?_
   rintro e w' ⟨rfl, rfl⟩
   rw [show Qlo L x y v = false from by simp [Qlo, hy], show Qbc L x y v = L from by simp [Qbc, hy]]
   exact ⟨rfl, h, Touch.of_below bW⟩
  ·obtain ⟨i, rfl, hi⟩ := Qfg hx
   obtain ⟨j, rfl, hj⟩ := Qfg hy
   have hR := Qbf hi
   refine (Qz4 b c L i j _ v w h hi hj hR).mono ?_
   rw [Qqb hi hj hR, Qyb hi hj hR]
   rintro e w' ⟨rfl, h', ht⟩
   exact ⟨rfl, h', ht⟩
end Go.Proofs.YtdkogbfamdnheaaGreatDoor
