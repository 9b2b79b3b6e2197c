/- The contracts of marked, left, fault, same. -/
import Derived.Test.YtkgppagpjbkhmaaDoorLxFirst
import Derived.Test.YtkgppagpjbkhmaaDoorLxRef6
import Derived.Test.YtkgppagpjbkhmaaDoorLxPlaces
namespace Go.Proofs.YtkgppagpjbkhmaaDoor
open Go.RowKit Go.Shelf

theorem store_row (W : World) (g o : Nat) (C : Array Value) (fr : Nat × Nat) (hg : W.heap[g]? = some (.cells C 5 fr)) (hf : C.size ≤ fr.1) (ho : o < C.size) (v : Value) (hv : v.oneCell' = true) : (store ⟨g, o, none⟩ v).run Tryd.prog W = .ok () (W.setRow g (C.setIfInBounds o v)) := by
  obtain ⟨lo, hi⟩ := fr
  have h1 : W.cell? ⟨g, o, none⟩ = some C[o] := by rw [cell_of_row W g o C _ _ hg, Array.getElem?_eq_getElem ho]
  have h2 : W.frozen? ⟨g, o, none⟩ = false := by
    simp only [] at hf
    simp only [World.frozen?, hg, Bool.and_eq_false_iff, decide_eq_false_iff_not]
    left
    omega
  rw [run_store _ _ _ _ _ hv, h1]
  simp [h2, setCell_eq_setRow W g o C _ _ v hg]
def mk4 : List Value := [.int .u8 1, .int .u8 2, .int .u8 3, .int .u8 4]
/-- What appending the four marks leaves. -/
structure Mk (W w' : World) (g n : Nat) (C : Array Value) (g' cap' : Nat) : Prop where
  cap : n + 4 ≤ cap'
  at_ : g' = g ∨ g' = W.heap.size
  keep : ∀ k, k < W.heap.size → k ≠ g → w'.heap[k]? = W.heap[k]?
  os : w'.os = W.os
  tape : w'.tape = W.tape
  out : w'.output = W.output
  size : W.heap.size ≤ w'.heap.size
  lt : g' < w'.heap.size
  old : ∀ j, j < n → w'.cell? ⟨g', j, none⟩ = C[j]?
  new : ∀ j, j < 4 → w'.cell? ⟨g', n + j, none⟩ = mk4[j]?
theorem run_marks (W : World) (ty : TypeId) (g n cap m : Nat) (C : Array Value) (fr : Nat × Nat) (hg : W.heap[g]? = some (.cells C 5 fr)) (hf : C.size ≤ fr.1) (hC : C.size = cap) (hn : n ≤ cap) (hm : ∀ j u, mk4[j]? = some u → W.cell? ((⟨m, 0, none⟩ : Addr).add j) = some u) (hb : n + 4 ≤ 140737488355328) :
    ∃ g' cap' w', (Builtin.append_ #[32, 32] ty #[.slice (some ⟨g, 0, none⟩) n cap, .slice (some ⟨m, 0, none⟩) 4 4]).run Tryd.prog W = .ok (.slice (some ⟨g', 0, none⟩) (n + 4) cap') w' ∧ Mk W w' g n C g' cap' := by
  obtain ⟨i0, hi, hz0, hz1, hz2⟩ := info_parts Tryd.infou8
  have hl : mk4.length = 4 * i0.size := by rw [hz1]; rfl
  have hgl : g < W.heap.size := (Array.getElem?_eq_some_iff.1 hg).1
  by_cases hroom : n + 4 ≤ cap
  · have hfc := run_firstCells_some (P := Tryd.prog) W i0.size 4 ⟨m, 0, none⟩ 4 4 mk4 hl hm
    have hs1 := store_row W g n C fr hg hf (by omega) (.int .u8 1) rfl
    have h1 := setRow_heap W g C (C.setIfInBounds n (.int .u8 1)) 5 fr hg
    have hs2 := store_row _ g (n + 1) _ fr h1 (by simpa using hf) (by simp; omega) (.int .u8 2) rfl
    have h2 := setRow_heap _ g _ ((C.setIfInBounds n (.int .u8 1)).setIfInBounds (n + 1) (.int .u8 2)) 5 fr h1
    have hs3 := store_row _ g (n + 2) _ fr h2 (by simpa using hf) (by simp; omega) (.int .u8 3) rfl
    have h3 := setRow_heap _ g _ (((C.setIfInBounds n (.int .u8 1)).setIfInBounds (n + 1) (.int .u8 2)).setIfInBounds (n + 2) (.int .u8 3)) 5 fr h2
    have hs4 := store_row _ g (n + 3) _ fr h3 (by simpa using hf) (by simp; omega) (.int .u8 4) rfl
    have h4 := setRow_heap _ g _ ((((C.setIfInBounds n (.int .u8 1)).setIfInBounds (n + 1) (.int .u8 2)).setIfInBounds (n + 2) (.int .u8 3)).setIfInBounds (n + 3) (.int .u8 4)) 5 fr h3
    have hst : (storeCells ⟨g, n, none⟩ mk4 0).run Tryd.prog W = .ok () ((((W.setRow g (C.setIfInBounds n (.int .u8 1))).setRow g ((C.setIfInBounds n (.int .u8 1)).setIfInBounds (n + 1) (.int .u8 2))).setRow g (((C.setIfInBounds n (.int .u8 1)).setIfInBounds (n + 1) (.int .u8 2)).setIfInBounds (n + 2) (.int .u8 3))).setRow g ((((C.setIfInBounds n (.int .u8 1)).setIfInBounds (n + 1) (.int .u8 2)).setIfInBounds (n + 2) (.int .u8 3)).setIfInBounds (n + 3) (.int .u8 4))) := by
      have e : ∀ k, (⟨g, n, none⟩ : Addr).add k = ⟨g, n + k, none⟩ := fun k => Addr.add_lit ..
      simp only [mk4, storeCells, Sem.run_bind, e, Nat.add_zero, Nat.zero_add, hs1, hs2, hs3, hs4, Result.andThen_ok]
      rfl
    obtain ⟨WF, hst, h4, hk, ho1, ho2, ho3, ho4⟩ : ∃ WF : World, (storeCells ⟨g, n, none⟩ mk4 0).run Tryd.prog W = .ok () WF ∧ WF.heap[g]? = some (.cells ((((C.setIfInBounds n (.int .u8 1)).setIfInBounds (n + 1) (.int .u8 2)).setIfInBounds (n + 2) (.int .u8 3)).setIfInBounds (n + 3) (.int .u8 4)) 5 fr) ∧ (∀ k, k ≠ g → WF.heap[k]? = W.heap[k]?) ∧ WF.os = W.os ∧ WF.tape = W.tape ∧ WF.output = W.output ∧ WF.heap.size = W.heap.size :=
      ⟨_, hst, h4, fun k hne => by rw [setRow_other _ g k _ hne, setRow_other _ g k _ hne, setRow_other _ g k _ hne, setRow_other _ g k _ hne], rfl, rfl, rfl, by rw [setRow_size, setRow_size, setRow_size, setRow_size]⟩
    have hrun : (Builtin.append_ #[32, 32] ty #[.slice (some ⟨g, 0, none⟩) n cap, .slice (some ⟨m, 0, none⟩) 4 4]).run Tryd.prog W = .ok (.slice (some ⟨g, 0, none⟩) (n + 4) cap) WF := by
      have e0 : (⟨g, 0, none⟩ : Addr).add (n * i0.size) = ⟨g, n, none⟩ := by rw [Addr.add_lit, hz1, Nat.mul_one, Nat.zero_add]
      simp [Builtin.append_, run_underlying Tryd.underlying32, sizeOf, typeInfo, hi, Builtin.lenOf, hroom, hfc, e0, hst]
    refine ⟨g, cap, WF, hrun, ?_⟩
    · have hcell := fun o => cell_of_row WF g o _ _ _ h4
      refine ⟨hroom, Or.inl rfl, fun k _ hne => hk k hne, ho1, ho2, ho3, by omega, by omega, ?_, ?_⟩
      · intro j hj
        rw [hcell]
        rw [Array.getElem?_setIfInBounds_ne (by omega), Array.getElem?_setIfInBounds_ne (by omega), Array.getElem?_setIfInBounds_ne (by omega), Array.getElem?_setIfInBounds_ne (by omega)]
      · intro j hj
        rw [hcell]
        have : j = 0 ∨ j = 1 ∨ j = 2 ∨ j = 3 := by omega
        rcases this with rfl | rfl | rfl | rfl
        · rw [Array.getElem?_setIfInBounds_ne (by omega), Array.getElem?_setIfInBounds_ne (by omega), Array.getElem?_setIfInBounds_ne (by omega)]
          show (C.setIfInBounds n (.int .u8 1))[n]? = _
          rw [Array.getElem?_setIfInBounds_self_of_lt (by omega)]
          rfl
        · rw [Array.getElem?_setIfInBounds_ne (by omega), Array.getElem?_setIfInBounds_ne (by omega), Array.getElem?_setIfInBounds_self_of_lt (by simp; omega)]
          rfl
        · rw [Array.getElem?_setIfInBounds_ne (by omega), Array.getElem?_setIfInBounds_self_of_lt (by simp; omega)]
          rfl
        · rw [Array.getElem?_setIfInBounds_self_of_lt (by simp; omega)]
          rfl
  · have holds : ∀ j v, (C.toList.take n)[j]? = some v → W.cell? ((⟨g, 0, none⟩ : Addr).add j) = some v := by
      intro j v hv
      rw [Addr.add_lit, Nat.zero_add, cell_of_row W g j C _ _ hg]
      rw [List.getElem?_take] at hv
      split at hv
      · simpa using hv
      · cases hv
    have hol : (C.toList.take n).length = n * i0.size := by rw [hz1, List.length_take, Array.length_toList]; omega
    have hr := run_append_grow (P := Tryd.prog) W 32 ty 5 i0 (.int .u8 0) Tryd.underlying32 hi hz0 ⟨g, 0, none⟩ n cap (C.toList.take n) hol holds ⟨m, 0, none⟩ 4 4 mk4 hl hm (by omega) (by omega) (by rw [hz2]; exact growslice_fits (by omega) (by omega))
    refine ⟨_, _, _, hr, grownCap_ge .., Or.inr rfl, fun k hk _ => heap_alloc_old W.drew _ hk, rfl, rfl, rfl, by simp, by simp, ?_, ?_⟩
    · intro j hj
      rw [cell_of_row _ W.heap.size j _ _ _ (heap_alloc_new W.drew _)]
      have hj2 : j < (C.toList.take n).toArray.size := by simp; omega
      rw [Array.append_assoc, Array.getElem?_append_left hj2]
      simp [hj]
    · intro j hj
      rw [cell_of_row _ W.heap.size (n + j) _ _ _ (heap_alloc_new W.drew _)]
      have hsz : (C.toList.take n).toArray.size = n := by simp; omega
      rw [Array.append_assoc, Array.getElem?_append_right (by omega), hsz, show n + j - n = j by omega, Array.getElem?_append_left (by show j < 4; omega)]
      simp
theorem wpList_marks {W : World} {ops : Array Oper} {rest : List Oper} {o : Oper} {a : Act} {Q : Exit → Act → World → Prop} (hgd : o.guard = none) (sl x : Operand)
    (ho : o.op = .call { callee := .builtin .append, args := #[sl, x], argTypes := #[32, 32] }) (g n cap m : Nat) (C : Array Value) (fr : Nat × Nat) (hs : a.eval sl = .slice (some ⟨g, 0, none⟩) n cap) (hx : a.eval x = .slice (some ⟨m, 0, none⟩) 4 4) (hg : W.heap[g]? = some (.cells C 5 fr)) (hf : C.size ≤ fr.1) (hC : C.size = cap) (hn : n ≤ cap) (hm : ∀ j u, mk4[j]? = some u → W.cell? ((⟨m, 0, none⟩ : Addr).add j) = some u) (hb : n + 4 ≤ 140737488355328)
    (h : ∀ g' cap' w', Mk W w' g n C g' cap' → wpList Tryd.prog ops Q rest (a.put o.dst (.slice (some ⟨g', 0, none⟩) (n + 4) cap')) w') : wpList Tryd.prog ops Q (o :: rest) a W := by
  refine wpList_plain hgd fun K hK => ?_
  obtain ⟨g', cap', w', hr, hM⟩ := run_marks W o.type g n cap m C fr hg hf hC hn hm hb
  unfold Oper.wp execOp
  simp only [ho, resolve, invoke, builtin, Sem.run_bind, Sem.run_pure, Result.andThen_ok, List.map_toArray, List.map_cons, List.map_nil, hs, hx, hr]
  exact hK _ _ (h g' cap' w' hM)
def markS (s : ByteArray) : ByteArray := ⟨(s.data.toList ++ [1, 2, 3, 4]).toArray⟩
theorem markS_size (s : ByteArray) : (markS s).size = s.size + 4 := by
  show (s.data.toList ++ [1, 2, 3, 4]).toArray.size = _
  rw [List.size_toArray, List.length_append, Array.length_toList]
  rfl
theorem mark_bytes {W w' : World} {g n : Nat} {C : Array Value} {g' cap' : Nat} (h : Mk W w' g n C g' cap') (s : ByteArray) (hn : n = s.size) (hC : ∀ j (hj : j < s.data.toList.length), C[j]? = some (.int .u8 ((s.data.toList[j].toNat : Nat) : Int))) : BytesR w' (.slice (some ⟨g', 0, none⟩) (markS s).size cap') (markS s) := by
  refine .inr ⟨g', 0, cap', rfl, h.lt, ?_⟩
  intro j hj
  have hl : s.data.toList.length = s.size := by rw [Array.length_toList]; rfl
  have hj' : j < s.size + 4 := by rw [← markS_size s]; rw [Array.length_toList] at hj; exact hj
  have e : (markS s).data.toList = s.data.toList ++ [1, 2, 3, 4] := by simp [markS]
  rw [Nat.zero_add]
  by_cases h1 : j < s.size
  · rw [h.old j (by omega), hC j (by omega)]
    congr 4
    have : (markS s).data.toList[j]? = s.data.toList[j]? := by rw [e, List.getElem?_append_left (by omega)]
    rw [List.getElem?_eq_getElem hj, List.getElem?_eq_getElem (by omega)] at this
    exact (Option.some.inj this).symm
  · have h2 := h.new (j - s.size) (by omega)
    rw [show n + (j - s.size) = j by omega] at h2
    rw [h2]
    have : (markS s).data.toList[j]? = ([1, 2, 3, 4] : List UInt8)[j - s.size]? := by rw [e, List.getElem?_append_right (by omega), hl]
    rw [List.getElem?_eq_getElem hj] at this
    have h4 : j - s.size = 0 ∨ j - s.size = 1 ∨ j - s.size = 2 ∨ j - s.size = 3 := by omega
    rcases h4 with h4 | h4 | h4 | h4 <;> rw [h4] at this ⊢ <;> rw [Option.some.inj this] <;> rfl
set_option maxRecDepth 100000 in
set_option maxHeartbeats 4000000 in
theorem marked_calls (x : Option Addr) (cap : Nat) (s : ByteArray) (w : World) (hv : BytesR w (.slice x s.size cap) s) (hs : s.size ≤ 140737488351232) :
    Calls Tryd.prog 14 #[.slice x s.size cap] w fun e w' => ∃ g cap', e = .returned (.slice (some ⟨g, 0, none⟩) (s.size + 4) cap') ∧ s.size + 4 ≤ cap' ∧ w.heap.size ≤ g ∧ BytesR w' (.slice (some ⟨g, 0, none⟩) (markS s).size cap') (markS s) ∧ Below w.heap.size w w' := by
  have hcv1 := conv_bytes hv
  have hcv := run_bytes_of_string (P := Tryd.prog) w 9 32 5 s Tryd.underlying9 Tryd.underlying32 Tryd.underlying5
  have hge := grownCap_ge w s.size 0 5
  generalize grownCap w s.size 0 5 = cap0 at *
  have hCs : (bytesRow s cap0).size = cap0 := by
    simp only [bytesRow, Array.size_append, Array.size_map, Array.size_replicate]
    have : s.data.size = s.size := rfl
    omega
  have HC : Hid (∀ j (hj : j < s.data.toList.length), (bytesRow s cap0)[j]? = some (.int .u8 ((s.data.toList[j].toNat : Nat) : Int))) := fun j hj => bytesRow_at s cap0 j hj
  generalize bytesRow s cap0 = C at *
  have hA : (((w.alloc (.cells C 5 (cap0, cap0 + 1))).alloc (.cells #[.int .u8 1, .int .u8 2, .int .u8 3, .int .u8 4] 5)).drew).heap[w.heap.size]? = some (.cells C 5 (cap0, cap0 + 1)) := (heap_alloc_old (w.alloc (.cells C 5 (cap0, cap0 + 1))) _ (by simp)).trans (heap_alloc_new w _)
  have hM4 : ∀ j u, mk4[j]? = some u → (((w.alloc (.cells C 5 (cap0, cap0 + 1))).alloc (.cells #[.int .u8 1, .int .u8 2, .int .u8 3, .int .u8 4] 5)).drew).cell? ((⟨w.heap.size + 1, 0, none⟩ : Addr).add j) = some u := by
    intro j u hj
    rw [Addr.add_lit, Nat.zero_add]
    have := Blk.new (w.alloc (.cells C 5 (cap0, cap0 + 1))) 5 #[.int .u8 1, .int .u8 2, .int .u8 3, .int .u8 4]
    rw [World.size_alloc] at this
    exact Blk.cell this (by simpa [mk4] using hj)
  have hB1 : Below w.heap.size w (((w.alloc (.cells C 5 (cap0, cap0 + 1))).alloc (.cells #[.int .u8 1, .int .u8 2, .int .u8 3, .int .u8 4] 5)).drew) := ((((Below.refl w.heap.size w)).alloc (Nat.le_refl _) _).alloc (by simp) _).drew
  clear hv
  go_enter Tryd.func14, Tryd.ntmps14
  go_wp2_with (at_builtin; refine wpList_marks rfl _ _ rfl w.heap.size s.size cap0 (w.heap.size + 1) C (cap0, cap0 + 1) rfl rfl hA (by rw [hCs]; exact Nat.le_refl _) hCs hge hM4 (by omega) ?_; intro g' cap' w' hM)
  go_ret
  have h1 := hM.size
  have h2 := hB1.size
  have hsz : (((w.alloc (.cells C 5 (cap0, cap0 + 1))).alloc (.cells #[.int .u8 1, .int .u8 2, .int .u8 3, .int .u8 4] 5)).drew).heap.size = w.heap.size + 2 := by
    show ((w.alloc (.cells C 5 (cap0, cap0 + 1))).alloc (.cells #[.int .u8 1, .int .u8 2, .int .u8 3, .int .u8 4] 5)).heap.size = _
    rw [World.size_alloc, World.size_alloc]
  refine ⟨g', cap', rfl, hM.cap, ?_, mark_bytes hM s rfl HC.out, hM.os.trans hB1.os, hM.tape.trans hB1.tape, hM.out.trans hB1.output, by omega, fun k hk => (hM.keep k (by omega) (by omega)).trans (hB1.block k hk)⟩
  rcases hM.at_ with e | e <;> omega
theorem slice_to (w : World) (x : Option Addr) (n cap hi : Nat) (h : hi ≤ cap) : (Instr.slice 32 (.slice x n cap) none (some (.int .i64 ((hi : Nat) : Int))) none).run Tryd.prog w = .ok (sliced x 0 hi cap 1) w := by
  rw [run_slice_h (P := Tryd.prog) (w := w) (t := 32) (a := x) (len := n) (cap := cap) Tryd.underlying32 (kh := .i64) _ (by omega) (by omega)]
  rfl
theorem slice_from (w : World) (x : Option Addr) (n cap lo : Nat) (h : lo ≤ n) : (Instr.slice 32 (.slice x n cap) (some (.int .i64 ((lo : Nat) : Int))) none none).run Tryd.prog w = .ok (sliced x lo n cap 1) w := by
  rw [run_slice_l (P := Tryd.prog) (w := w) (t := 32) (a := x) (len := n) (cap := cap) Tryd.underlying32 (kl := .i64) _ (by omega) (by omega)]
  rfl
theorem mark_head (s : ByteArray) : (markS s).extract 0 s.size = s := by
  apply ByteArray.ext
  rw [ByteArray.data_extract]
  apply Array.toList_inj.1
  simp only [markS, Array.toList_extract, List.extract_eq_take_drop, List.drop_zero, Nat.sub_zero]
  have hl : s.data.toList.length = s.size := by rw [Array.length_toList]; rfl
  rw [← hl]
  exact List.take_left
theorem mark_tail (s : ByteArray) : (markS s).extract s.size (s.size + 4) = ⟨#[1, 2, 3, 4]⟩ := by
  apply ByteArray.ext
  rw [ByteArray.data_extract]
  apply Array.toList_inj.1
  simp only [markS, Array.toList_extract, List.extract_eq_take_drop]
  have hl : s.data.toList.length = s.size := by rw [Array.length_toList]; rfl
  rw [← hl, List.drop_left, show s.data.toList.length + 4 - s.data.toList.length = 4 by omega]
  rfl
set_option maxRecDepth 100000 in
set_option maxHeartbeats 4000000 in
theorem left_calls (x : Option Addr) (cap g cap' : Nat) (s : ByteArray) (w : World) (hv : BytesR w (.slice x s.size cap) s) (ha : BytesR w (.slice (some ⟨g, 0, none⟩) (markS s).size cap') (markS s)) (hc : s.size + 4 ≤ cap') (hs : s.size ≤ 140737488351232) :
    Calls Tryd.prog 17 #[.slice (some ⟨g, 0, none⟩) (s.size + 4) cap', .slice x s.size cap] w fun e w' => e = .returned (.bool true) ∧ ∃ m, w' = w.drewN m := by
  have hms := markS_size s
  have hb1 := fun n => conv_bytes (sub_bytes (lo := 0) (m := s.size) (ha.below (below_drewN (Below.refl _ w) n)) (by omega) (by omega))
  have hb2 := fun n => conv_bytes (sub_bytes (lo := s.size) (m := 4) (ha.below (below_drewN (Below.refl _ w) n)) (by omega) (by omega))
  have hb3 := fun n => conv_bytes (hv.below (below_drewN (Below.refl _ w) n))
  rw [Nat.zero_add, mark_head] at hb1
  rw [mark_tail] at hb2
  have hs1 := fun W => slice_to W (some ⟨g, 0, none⟩) (s.size + 4) cap' s.size (by omega)
  have hs2 := fun W => slice_from W (some ⟨g, 0, none⟩) (s.size + 4) cap' s.size (by omega)
  generalize sliced (some ⟨g, 0, none⟩) 0 s.size cap' 1 = v1 at *
  generalize sliced (some ⟨g, 0, none⟩) s.size (s.size + 4) cap' 1 = v2 at *
  have w1 : IntKind.i64.wrap (((s.size : Nat) : Int) + 4) = ((s.size : Nat) : Int) + 4 := wrapI_sum s.size 4 (by omega)
  clear hv ha hms
  go_enter Tryd.func17, Tryd.ntmps17
  go_wp2_with fail
  go_quiet (fail)
  go_wp2_with fail
  go_ret
  exact ⟨rfl, _, rfl⟩
set_option maxHeartbeats 4000000 in
theorem faultF_calls (f : Flt) (w : World) : Calls Tryd.prog 15 #[.agg (fltC f), .agg (fltC f)] w fun e w' => e = .returned (.bool true) ∧ Below w.heap.size w w' := by
  have hB : Hid (∀ o o', Below w.heap.size w ((w.alloc o).alloc o')) := fun o o' => ((Below.refl w.heap.size w).alloc (Nat.le_refl _) o).alloc (by simp) o'
  obtain ⟨c, l, k⟩ := f
  simp only [fltC, fltA]
  have e0 : (((c : Nat) : Int) == ((c : Nat) : Int)) = true := by simp
  have e1 : (((l : Nat) : Int) == ((l : Nat) : Int)) = true := by simp
  have e2 : (((k : Nat) : Int) == ((k : Nat) : Int)) = true := by simp
  go_enter Tryd.func15, Tryd.ntmps15
  go_wp2_with fail
  go_ret
  exact ⟨rfl, hB.out _ _⟩
set_option maxHeartbeats 4000000 in
theorem same5_calls (t : Tok) (w : World) : Calls Tryd.prog 16 #[.agg (tokC t), .agg (tokC t)] w fun e w' => e = .returned (.bool true) ∧ Below w.heap.size w w' := by
  have hB : Hid (∀ o o', Below w.heap.size w ((w.alloc o).alloc o')) := fun o o' => ((Below.refl w.heap.size w).alloc (Nat.le_refl _) o).alloc (by simp) o'
  obtain ⟨kd, tx, vl, l, k⟩ := t
  simp only [tokC, tokA]
  have e0 : (((kd : Nat) : Int) == ((kd : Nat) : Int)) = true := by simp
  have e1 : (((l : Nat) : Int) == ((l : Nat) : Int)) = true := by simp
  have e2 : (((k : Nat) : Int) == ((k : Nat) : Int)) = true := by simp
  have e3 : (((vl : Nat) : Int) == ((vl : Nat) : Int)) = true := by simp
  go_enter Tryd.func16, Tryd.ntmps16
  go_wp2_with fail
  go_ret
  exact ⟨rfl, hB.out _ _⟩
end Go.Proofs.YtkgppagpjbkhmaaDoor
