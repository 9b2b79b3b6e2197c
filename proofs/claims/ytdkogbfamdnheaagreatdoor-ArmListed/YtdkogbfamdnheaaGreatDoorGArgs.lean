import Derived.Test.YtdkogbfamdnheaaGreatDoorJ13
import Derived.ProofKit
import Derived.OpenShut
namespace Go.Proofs.YtdkogbfamdnheaaGreatDoor
open Go.ChangeShapes Go.WideShapes Go.ChangeAt Go.RowKit Go.Shelf Sx
set_option maxRecDepth 100000
set_option maxHeartbeats 16000000
set_option linter.unusedSimpArgs false
set_option linter.unusedVariables false
theorem Qhf : Tryz.prog.cellsOf 3 = 1 := by kernel_rfl
theorem Qwn : Tryz.prog.cellsOf 32 = 1 := by kernel_rfl
theorem Quo : Tryz.prog.cellsOf 30 = 2 := by kernel_rfl
theorem Qrt : Tryz.prog.cellsOf 34 = 5 := by kernel_rfl
theorem Qup : Tryz.prog.cellsOf 36 = 1 := by kernel_rfl
theorem Qqr (b o k : Nat) : (⟨b, o, none⟩ : Addr).add k = ⟨b, o + k, none⟩ := by
 unfold Addr.add
 split
 ·rename_i e; subst e; rfl
 ·rfl
theorem Qof (a : Addr) : a.add 0 = a := by
 unfold Addr.add
 rw [if_pos rfl]
theorem Qnj {W : World} {b o k : Nat} {v : Value} (h : W.cell? ((⟨b, o, some k⟩ : Addr).add 0) = some v) : False := by
 rw [Qof] at h
 simp only [World.cell?] at h
 split at h <;> simp at h
section
variable {H : Type} {enc : TypeId × Value → H} {W : World}
theorem Qhg {t e : TypeId} {c n : Nat} {V : Value} {D : DataW H} {Ps : List MemPlace} (ht : Tryz.prog.underlying t = some (.slice e)) (hc : Tryz.prog.cellsOf e = c) (hc0 : 0 < c)
  (hf : DataW.trod enc Tryz.prog W 0 (fun _ => true) true n t [V] = some (D, Ps)) :
  ∃ p len cap, V = .slice p len cap ∧ len ≤ cap ∧ len ≤ maxLen ∧ (0 < len → ∃ b o, p = some ⟨b, o, none⟩ ∧ b < W.heap.size ∧ ∃ es sp, D = .slice es sp ∧ es.length = len ∧
   ∀ i, i < len → ∃ (cs : List Value) (x : DataW H × List MemPlace) (m : Nat), cs.length = c ∧ es[i]? = some x.1 ∧ DataW.trod enc Tryz.prog W 0 (fun _ => true) true m e cs = some x ∧ ∀ j, j < c → W.cell? ⟨b, o + i * c + j, none⟩ = cs[j]?) := by
 rcases DataW.trod_slice ht hf with ⟨h1, _⟩ | ⟨a, len, cap, elems, rest, m, _, h1, hx, _, hl, hm, he, hall, _, _⟩
 ·simp only [List.cons.injEq, and_true] at h1
  subst h1
  exact ⟨none, 0, 0, rfl, Nat.le_refl _, Nat.zero_le _, fun h => by omega⟩
 ·simp only [List.cons.injEq, and_true] at h1
  subst h1
  simp only [Prod.mk.injEq] at hx
  obtain ⟨rfl, _⟩ := hx
  refine ⟨some a, len, cap, rfl, hl, oW, fun h0 => ?_⟩
  have hel : ∀ i, i < len → ∃ cs x, cs.length = c ∧ elems[i]? = some x ∧ DataW.trod enc Tryz.prog W 0 (fun _ => true) true m e cs = some x ∧ ∀ j, j < c → W.cell? ((a.add (i * c)).add j) = cs[j]? := by
   intro i hi
   have h := hall i hi
   rw [hc, List.getElem?_eq_getElem oW, Option.bind_eq_some_iff] at h
   obtain ⟨cs, h1, h2⟩ := h
   obtain ⟨_, hcl, hcc⟩ := World.cells?_some h1
   exact ⟨cs, _, hcl, List.getElem?_eq_getElem oW, h2, hcc⟩
  obtain ⟨b, o, sp⟩ := a
  have hsp : sp = none := by
   cases sp with
   | none => rfl
   | some k =>
    obtain ⟨cs0, _, hcl0, _, _, hcc0⟩ := hel 0 h0
    have h3 := hcc0 0 hc0
    rw [List.getElem?_eq_getElem oW, Nat.zero_mul, Qof (⟨b, o, some k⟩ : Addr)] at h3
    exact (Qnj h3).elim
  subst hsp
  have hcc' : ∀ i, i < len → ∃ cs x, cs.length = c ∧ elems[i]? = some x ∧ DataW.trod enc Tryz.prog W 0 (fun _ => true) true m e cs = some x ∧ ∀ j, j < c → W.cell? ⟨b, o + i * c + j, none⟩ = cs[j]? := by
   intro i hi
   obtain ⟨cs, x, g1, g2, g3, g4⟩ := hel i hi
   refine ⟨cs, x, g1, g2, g3, fun j hj => ?_⟩
   have := g4 j hj
   rw [Qqr, Qqr] at this
   exact this
  have hb : b < W.heap.size := by
   obtain ⟨cs, x, g1, _, _, g4⟩ := hcc' 0 h0
   exact World.block_lt_of_cell? W _ ((g4 0 hc0).trans (List.getElem?_eq_getElem oW))
  refine ⟨b, o, rfl, hb, _, _, rfl, by rw [List.length_map]; exact he, fun i hi => ?_⟩
  obtain ⟨cs, x, g1, g2, g3, g4⟩ := hcc' i hi
  exact ⟨cs, x, m, g1, by rw [List.getElem?_map, g2]; rfl, g3, g4⟩
theorem Qwo : Tryz.prog.bytesOf 3 = 8 := by kernel_rfl
theorem Quq : Tryz.prog.bytesOf 30 = 16 := by kernel_rfl
theorem Qru : Tryz.prog.bytesOf 34 = 40 := by kernel_rfl
theorem Qur : Tryz.prog.bytesOf 36 = 24 := by kernel_rfl
theorem Qib {α : Type} {P : Nat → α → Prop} : ∀ (n : Nat), (∀ i, i < n → ∃ x, P i x) → ∃ l : List α, l.length = n ∧ ∀ (i : Nat) (x : α), l[i]? = some x → P i x
 | 0, _ => ⟨[], rfl, fun i x h => by simp at h⟩
 | n + 1, h => by
  obtain ⟨l, h1, h2⟩ := Qib n (fun i hi => h i oW)
  obtain ⟨x, hx⟩ := h n oW
  refine ⟨l ++ [x], by simp [h1], fun i y hy => ?_⟩
  by_cases hi : i < l.length
  ·rw [List.getElem?_append_left hi] at hy
   exact h2 i y hy
  ·have hi2 : i = l.length := by have := (List.getElem?_eq_some_iff.1 hy).1; simp at this; omega
   subst hi2
   rw [List.getElem?_append_right nW] at hy
   simp at hy
   subst hy
   rw [h1]
   exact hx
theorem Qhh {P : Program} {e : TypeId} : ∀ {l : List (DataW H)} {i : Nat} {d : DataW H}, l[i]? = some d → ∀ k ∈ d.weights P e, k ∈ DataW.weightsAll P e l
 | x :: l, 0, d, h, k, hk => by
  simp only [List.getElem?_cons_zero, Option.some.injEq] at h
  subst h
  simp only [DataW.weightsAll, List.mem_append]
  exact .inl hk
 | x :: l, i + 1, d, h, k, hk => by
  simp only [List.getElem?_cons_succ] at h
  simp only [DataW.weightsAll, List.mem_append]
  exact .inr (Qhh h k hk)
 | [], i, d, h, _, _ => by simp at h
theorem Qki {t e : TypeId} {b : Nat} {D : DataW H} {es sp : List (DataW H)} (ht : Tryz.prog.underlying t = some (.slice e)) (hb : Tryz.prog.bytesOf e = b) (hz : ∀ k ∈ D.weights Tryz.prog t, k ≤ reachBytes) (hD : D = .slice es sp) : es.length * b ≤ 140737488355328 := by
 have hw := hz ((es.length + sp.length) * b) (by rw [hD]; simp [DataW.weights, ht, hb])
 simp only [reachBytes] at hw
 have : es.length * b ≤ (es.length + sp.length) * b := Nat.mul_le_mul_right b oW
 omega
theorem QAk {n : Nat} {V : Value} {D : DataW H} {Ps : List MemPlace} (hf : DataW.trod enc Tryz.prog W 0 (fun _ => true) true n 23 [V] = some (D, Ps)) (hz : ∀ k ∈ D.weights Tryz.prog 23, k ≤ reachBytes) : ∃ l, EvArg W V l := by
 obtain ⟨p, len, cap, rfl, h1, h2, h3⟩ := Qhg Tryz.underlying23 Qrt oW hf
 by_cases h0 : 0 < len
 ·obtain ⟨b, o, rfl, hb, es, sp, hD, hel, hall⟩ := h3 h0
  obtain ⟨l, hl, hp⟩ := Qib (α := Ev) (P := fun i e => ∀ j, j < 5 → W.cell? ⟨b, o + i * 5 + j, none⟩ = Qgv e j) len (fun i hi => by
   obtain ⟨cs, x, m, hcl, _, ht, hcc⟩ := hall i hi
   obtain ⟨xs, m', _, rfl, _, hxl, hfs⟩ := DataW.trod_struct Tryz.underlying34 ht
   match cs, hcl, xs, hxl with
   | [v0, v1, v2, v3, v4], _, [y0, y1, y2, y3, y4], _ =>
    have g0 := hfs 0 _ rfl
    have g1 := hfs 1 _ rfl
    have g2 := hfs 2 _ rfl
    have g3 := hfs 3 _ rfl
    have g4 := hfs 4 _ rfl
    simp [Qhf, Qwn] at g0 g1 g2 g3 g4
    obtain ⟨a0, e0, _⟩ := DataW.trod_int Tryz.underlying3 g0
    obtain ⟨a1, e1, _⟩ := DataW.trod_int Tryz.underlying3 g1
    obtain ⟨a2, e2, _⟩ := DataW.trod_int Tryz.underlying3 g2
    obtain ⟨a3, e3, _⟩ := DataW.trod_int Tryz.underlying32 g3
    obtain ⟨a4, e4, _⟩ := DataW.trod_int Tryz.underlying3 g4
    simp only [List.cons.injEq, and_true] at e0 e1 e2 e3 e4
    subst e0; subst e1; subst e2; subst e3; subst e4
    refine ⟨⟨a0, a1, a2, a3, a4⟩, fun j hj => ?_⟩
    rw [hcc j hj]
    obtain rfl | rfl | rfl | rfl | rfl : j = 0 ∨ j = 1 ∨ j = 2 ∨ j = 3 ∨ j = 4 := by omega
    all_goals rfl)
  subst hl
  refine ⟨l, some ⟨b, o, none⟩, cap, rfl, fun _ => ⟨b, o, rfl, ⟨hb, fun i e he => hp i e he 0 oW, fun i e he => hp i e he 1 oW, fun i e he => hp i e he 2 oW, fun i e he => hp i e he 3 oW, fun i e he => hp i e he 4 oW⟩⟩, ?_, h1⟩
  rw [← hel]
  exact Qki Tryz.underlying23 Qru hz hD
 ·obtain rfl : len = 0 := by omega
  exact ⟨[], p, cap, rfl, fun h => by simp at h, by simp, Nat.zero_le _⟩
theorem Qic {n : Nat} {V : Value} {D : DataW H} {Ps : List MemPlace} (hf : DataW.trod enc Tryz.prog W 0 (fun _ => true) true n 24 [V] = some (D, Ps)) (hz : ∀ k ∈ D.weights Tryz.prog 24, k ≤ reachBytes) : ∃ l, PArg W V l ∧ l.length * 16 ≤ 140737488355328 := by
 obtain ⟨p, len, cap, rfl, h1, h2, h3⟩ := Qhg Tryz.underlying24 Quo oW hf
 by_cases h0 : 0 < len
 ·obtain ⟨b, o, rfl, hb, es, sp, hD, hel, hall⟩ := h3 h0
  obtain ⟨l, hl, hp⟩ := Qib (α := Int × Int) (P := fun i e => W.cell? ⟨b, o + i * 2, none⟩ = some (.int .i64 e.1) ∧ W.cell? ⟨b, o + i * 2 + 1, none⟩ = some (.int .i64 e.2)) len (fun i hi => by
   obtain ⟨cs, x, m, hcl, _, ht, hcc⟩ := hall i hi
   obtain ⟨xs, m', _, rfl, _, hxl, hfs⟩ := DataW.trod_struct Tryz.underlying30 ht
   match cs, hcl, xs, hxl with
   | [v0, v1], _, [y0, y1], _ =>
    have g0 := hfs 0 _ rfl
    have g1 := hfs 1 _ rfl
    simp [Qhf] at g0 g1
    obtain ⟨a0, e0, _⟩ := DataW.trod_int Tryz.underlying3 g0
    obtain ⟨a1, e1, _⟩ := DataW.trod_int Tryz.underlying3 g1
    simp only [List.cons.injEq, and_true] at e0 e1
    subst e0; subst e1
    exact ⟨(a0, a1), hcc 0 oW, hcc 1 oW⟩)
  subst hl
  have hr := Qki Tryz.underlying24 Quq hz hD
  rw [hel] at hr
  exact ⟨l, .inr ⟨b, o, cap, rfl, ⟨hb, fun i e he => (hp i e he).1, fun i e he => (hp i e he).2⟩, oW⟩, hr⟩
 ·obtain rfl : len = 0 := by omega
  exact ⟨[], .inl ⟨p, cap, rfl, rfl⟩, by simp⟩
theorem Qsv {n : Nat} {V : Value} {D : DataW H} {Ps : List MemPlace} (hf : DataW.trod enc Tryz.prog W 0 (fun _ => true) true n 36 [V] = some (D, Ps)) (hz : ∀ k ∈ D.weights Tryz.prog 36, k ≤ reachBytes) : ∃ l : List Int, IntsR W V l ∧ l.length * 8 ≤ 140737488355328 ∧ ∃ p c, V = .slice p l.length c ∧ l.length ≤ c := by
 obtain ⟨p, len, cap, rfl, h1, h2, h3⟩ := Qhg Tryz.underlying36 Qhf oW hf
 by_cases h0 : 0 < len
 ·obtain ⟨b, o, rfl, hb, es, sp, hD, hel, hall⟩ := h3 h0
  obtain ⟨l, hl, hp⟩ := Qib (α := Int) (P := fun i e => W.cell? ⟨b, o + i, none⟩ = some (.int .i64 e)) len (fun i hi => by
   obtain ⟨cs, x, m, hcl, _, ht, hcc⟩ := hall i hi
   obtain ⟨a0, rfl, _⟩ := DataW.trod_int Tryz.underlying3 ht
   have := hcc 0 oW
   rw [Nat.mul_one] at this
   exact ⟨a0, this⟩)
  subst hl
  have hr := Qki Tryz.underlying36 Qwo hz hD
  rw [hel] at hr
  exact ⟨l, .inr ⟨b, o, cap, rfl, hb, hp⟩, hr, _, _, rfl, h1⟩
 ·obtain rfl : len = 0 := by omega
  exact ⟨[], .inl ⟨p, cap, rfl, rfl⟩, by simp, _, _, rfl, h1⟩
theorem QC {n : Nat} {V : Value} {D : DataW H} {Ps : List MemPlace} (hf : DataW.trod enc Tryz.prog W 0 (fun _ => true) true n 25 [V] = some (D, Ps)) (hz : ∀ k ∈ D.weights Tryz.prog 25, k ≤ reachBytes) : ∃ ls, CoArg W V ls ∧ ls.length * 24 ≤ 140737488355328 ∧ ∀ l ∈ ls, l.length * 8 ≤ 140737488355328 := by
 obtain ⟨p, len, cap, rfl, h1, h2, h3⟩ := Qhg Tryz.underlying25 Qup oW hf
 by_cases h0 : 0 < len
 ·obtain ⟨b, o, rfl, hb, es, sp, hD, hel, hall⟩ := h3 h0
  obtain ⟨l, hl, hp⟩ := Qib (α := Value × List Int) (P := fun i e => W.cell? ⟨b, o + i, none⟩ = some e.1 ∧ IntsR W e.1 e.2 ∧ e.2.length * 8 ≤ 140737488355328 ∧ ∃ p c, e.1 = .slice p e.2.length c ∧ e.2.length ≤ c) len (fun i hi => by
   obtain ⟨cs, x, m, hcl, hx, ht, hcc⟩ := hall i hi
   match cs, hcl with
   | [v], _ =>
    obtain ⟨l, g1, g2, g3⟩ := Qsv (V := v) ht (fun k hk => hz k (by
     rw [hD]
     simp only [DataW.weights, Tryz.underlying25, List.mem_cons, List.mem_append]
     exact .inr (.inl (Qhh (i := i) hx k hk))))
    have := hcc 0 oW
    rw [Nat.mul_one] at this
    exact ⟨(v, l), this, g1, g2, g3⟩)
  subst hl
  have hr := Qki Tryz.underlying25 Qur hz hD
  rw [hel] at hr
  refine ⟨l.map Prod.snd, ⟨some ⟨b, o, none⟩, cap, by rw [List.length_map], by rw [List.length_map]; omega, l.map Prod.fst, by simp, fun _ => ⟨b, o, rfl, hb, fun i u hu => ?_⟩, fun i u m hu hm => ?_⟩, by rw [List.length_map]; exact hr, fun m hm => ?_⟩
  ·rw [List.getElem?_map, Option.map_eq_some_iff] at hu
   obtain ⟨y, hy, rfl⟩ := hu
   exact (hp i y hy).1
  ·rw [List.getElem?_map, Option.map_eq_some_iff] at hu hm
   obtain ⟨y, hy, rfl⟩ := hu
   obtain ⟨z, hz', rfl⟩ := hm
   rw [hy] at hz'
   cases hz'
   exact ⟨(hp i y hy).2.1, by have := (hp i y hy).2.2.1; omega, (hp i y hy).2.2.2⟩
  ·obtain ⟨y, hy, rfl⟩ := List.mem_map.1 hm
   obtain ⟨i, hi⟩ := List.getElem?_of_mem hy
   exact (hp i y hi).2.2.1
 ·obtain rfl : len = 0 := by omega
  exact ⟨[], ⟨p, cap, rfl, by simp, [], rfl, fun h => by simp at h, fun i u l hu => by simp at hu⟩, by simp, fun l h => by simp at h⟩
theorem Qqs : Tryz.prog.cellsOf 23 = 1 := by kernel_rfl
theorem Qrv : Tryz.prog.cellsOf 24 = 1 := by kernel_rfl
theorem Qrw : Tryz.prog.cellsOf 25 = 1 := by kernel_rfl
theorem Qrx : Tryz.prog.cellsOf 27 = 8 := by kernel_rfl
theorem Qwp {base : Nat} {v : Value} {d : DataW H} {ps : List MemPlace} (hval : Value.okWide Tryz.prog W .any base 27 v)
  (h : DataW.Trod enc Tryz.prog W 0 (fun _ => true) true 27 v d ps) (hz : ∀ k ∈ d.weights Tryz.prog 27, k ≤ reachBytes) : ∃ (V : GrV) (g : Gr), v = V.val g ∧ GrR W V g ∧ GrB g := by
 obtain ⟨cs, rfl, hcs⟩ := okWide_struct Tryz.underlying27 hval
 obtain ⟨fuel, hf⟩ := h
 obtain ⟨xs, m, _, hx, hcl, hxl, hfs⟩ := DataW.trod_struct Tryz.underlying27 hf
 simp only [Prod.mk.injEq] at hx
 obtain ⟨rfl, _⟩ := hx
 rw [Qrx] at hcs
 obtain ⟨cs⟩ := cs
 simp only [List.size_toArray] at hcs
 match cs, hcs, xs, hxl with
 | [v0, v1, v2, v3, v4, v5, v6, v7], _, [y0, y1, y2, y3, y4, y5, y6, y7], _ =>
  have g0 := hfs 0 _ rfl
  have g1 := hfs 1 _ rfl
  have g2 := hfs 2 _ rfl
  have g3 := hfs 3 _ rfl
  have g4 := hfs 4 _ rfl
  have g5 := hfs 5 _ rfl
  have g6 := hfs 6 _ rfl
  have g7 := hfs 7 _ rfl
  simp [Value.cells, Qhf, Qqs, Qrv, Qrw] at g0 g1 g2 g3 g4 g5 g6 g7
  have hw : ∀ (j : Nat) (t : TypeId) (D : DataW H), (Tryz.prog.underlying 27).isSome = true → True := fun _ _ _ _ => trivial
  clear hw
  have key : ∀ (j : Nat) (t : TypeId) (D : DataW H) (hD : ([y0, y1, y2, y3, y4, y5, y6, y7].map (·.1))[j]? = some D) (ht : ([3, 23, 24, 25, 24, 24, 24, 24] : List TypeId)[j]? = some t), ∀ k ∈ D.weights Tryz.prog t, k ≤ reachBytes := fun j t D hD ht k hk => hz k (by
   simp only [DataW.weights, Tryz.underlying27]
   exact DataW.weights_mem_each (j := j) (t := t) (d := D) ht hD k hk)
  obtain ⟨x0, e0, _⟩ := DataW.trod_int Tryz.underlying3 g0
  simp only [List.cons.injEq, and_true] at e0
  subst e0
  obtain ⟨l1, h1⟩ := QAk g1 (key 1 _ _ rfl rfl)
  obtain ⟨l2, h2, b2⟩ := Qic g2 (key 2 _ _ rfl rfl)
  obtain ⟨l3, h3, b3, c3⟩ := QC g3 (key 3 _ _ rfl rfl)
  obtain ⟨l4, h4, b4⟩ := Qic g4 (key 4 _ _ rfl rfl)
  obtain ⟨l5, h5, b5⟩ := Qic g5 (key 5 _ _ rfl rfl)
  obtain ⟨l6, h6, b6⟩ := Qic g6 (key 6 _ _ rfl rfl)
  obtain ⟨l7, h7, b7⟩ := Qic g7 (key 7 _ _ rfl rfl)
  exact ⟨⟨v1, v2, v3, v4, v5, v6, v7⟩, ⟨x0, l1, l2, l3, l4, l5, l6, l7⟩, rfl, ⟨h1, h2, h3, h4, h5, h6, h7⟩, b2, b4, b5, b6, b7, b3, c3⟩
end
end Go.Proofs.YtdkogbfamdnheaaGreatDoor
