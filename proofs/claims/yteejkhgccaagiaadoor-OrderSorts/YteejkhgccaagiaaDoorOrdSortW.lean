/- The contract of package order's Sort. -/
import Derived.Test.YteejkhgccaagiaaDoorOrdSort
namespace Go.Proofs.YteejkhgccaagiaaDoor
open Go.RowKit Go.Shelf Sx
attribute [local go_sem] Oper.semAt_some

theorem results_cc {fn : Func} {p q : Tmp} {ty u : TypeId} (h : fn.results = #[.cell p ty, .cell q u]) (tmps : Array Value) (P : Program) (w : World) :
    (results fn tmps).run P w =
      ((asAddr (tmps.getD p undef)).run P w).andThen fun a w₁ => ((loadVar ty a).run P w₁).andThen fun v w₂ => ((asAddr (tmps.getD q undef)).run P w₂).andThen fun a₂ w₃ => ((loadVar u a₂).run P w₃).andThen fun v₂ w₄ => .ok (.tuple #[v, v₂]) w₄ := by
  simp only [results, h]
  simp [Sem.run_bind, Result.andThen]
theorem ret_sort {tmps : Array Value} {w : World} {g k : Nat} {x : Option Addr} {y z : Nat} {e : Int} (hp : tmps.getD 2 undef = pv g) (hq : tmps.getD 3 undef = pv k) (hg : Blk w g 29 #[.slice x y z]) (hk : Blk w k 32 #[.int .i64 e]) :
    (results Tryd.f25 tmps).run Tryd.prog w = .ok (.tuple #[.slice x y z, .int .i64 e]) w := by
  have c1 := hg.cell (j := 0) rfl
  have c2 := hk.cell (j := 0) rfl
  rw [results_cc (p := 2) (q := 3) (ty := 29) (u := 32) rfl, hp, hq]
  simp [asAddr]
  go_simp
set_option maxHeartbeats 1000000 in
theorem oOrders_in (F : Fence) (n : Nat) (hf : F.fn 38) (hro : F.round = none) (b : Nat) (w : World) :
    CallsIn F n Tryd.prog 38 #[pv b] w fun e w' => e = .returned (.func (.func 63) #[] #[pv w.heap.size]) ∧ w' = w.alloc (.cells #[pv b] 22) := by
  refine callsIn_of_wp Tryd.func38 rfl hf ?_ hro
  simp only [Tryd.ntmps38, List.size_toArray, List.length_cons, List.length_nil, Nat.reduceAdd, Nat.reduceSub, Array.replicate_succ, Array.replicate_zero, List.push_toArray, List.append_toArray, List.nil_append, List.cons_append]
  gi_wp2
  go_ret
  exact ⟨rfl, rfl⟩
/-- What Sort answers. -/
def SortAns (w w' : World) (L : List Nat) (v : Value) (code : Int) : Prop :=
  ((sortOf L).length = L.length → code = 0 ∧ w'.ownsRow w.heap.size 3 1 v L.length (encN (sortOf L))) ∧ (¬ (sortOf L).length = L.length → code = 3 ∧ v = .slice none 0 0)
theorem owns_slice {w : World} {base : Nat} {e : TypeId} {size : Nat} {v : Value} {n : Nat} {xs : List Value} (h : w.ownsRow base e size v n xs) : ∃ x y z, v = .slice x y z := by
  obtain ⟨a, cap, e⟩ := owns_len h
  exact ⟨_, _, _, e⟩
set_option maxRecDepth 100000 in
set_option maxHeartbeats 4000000 in
theorem oSort_in (b c : Nat) (L : List Nat) (w : World) (h : IsRel w b c L) (hT : Tab w) :
    CallsIn Fence.wide 6 Tryd.prog 25 #[pv b] w fun e w' => ∃ v code, e = .returned (.tuple #[v, .int .i64 code]) ∧ SortAns w w' L v code ∧ Below w.heap.size w w' := by
  refine callsIn_of_wp_marks Tryd.func25 rfl trivial ?_ rfl
  simp only [Tryd.ntmps25, List.size_toArray, List.length_cons, List.length_nil, Nat.reduceAdd, Nat.reduceSub, Array.replicate_succ, Array.replicate_zero, List.push_toArray, List.append_toArray, List.nil_append, List.cons_append]
  gi_wp2_with (refine ⟨trivial, ?_⟩; gi_at_call 38; refine (oOrders_in Fence.wide _ trivial rfl b _).mono ?_; rintro e w' ⟨rfl, rfl⟩)
  have r2 : Blk (((w.alloc (.cells #[.slice none 0 0] 29)).alloc (.cells #[.int .i64 0] 32)).alloc (.cells #[pv b] 22)) w.heap.size 29 #[.slice none 0 0] := ((Blk.new w _ _).alloc _).alloc _
  have r3 : Blk (((w.alloc (.cells #[.slice none 0 0] 29)).alloc (.cells #[.int .i64 0] 32)).alloc (.cells #[pv b] 22)) (w.heap.size + 1) 32 #[.int .i64 0] := (Blk.new2 w _ _ _).alloc _
  have r4 : Blk (((w.alloc (.cells #[.slice none 0 0] 29)).alloc (.cells #[.int .i64 0] 32)).alloc (.cells #[pv b] 22)) (w.heap.size + 1 + 1) 22 #[pv b] := Blk.new3' w _ _ _ _
  have hBA : Below w.heap.size w (((w.alloc (.cells #[.slice none 0 0] 29)).alloc (.cells #[.int .i64 0] 32)).alloc (.cells #[pv b] 22)) := (((Below.refl _ w).alloc (Nat.le_refl _) _).alloc (by simp) _).alloc (by simp; omega) _
  have hzA : (((w.alloc (.cells #[.slice none 0 0] 29)).alloc (.cells #[.int .i64 0] 32)).alloc (.cells #[pv b] 22)).heap.size = w.heap.size + 3 := by simp
  generalize ((w.alloc (.cells #[.slice none 0 0] 29)).alloc (.cells #[.int .i64 0] 32)).alloc (.cells #[pv b] 22) = wA at *
  have hA := h.below hBA
  have hTA := hT.step hBA
  clear h hT
  refine rf_once (by omega) (gf := 63) (lb := #[pv (w.heap.size + 1 + 1)]) rfl (enters_of Tryd.func63 (by kernel_rfl) rfl) rfl ((sortOf L).length = L.length)
    (fun v W => W.ownsRow (w.heap.size + 3) 3 1 v L.length (encN (sortOf L)))
    (fun v W => W.ownsRow (w.heap.size + 3) 3 1 v L.length (encN (sortOf L)) ∧ Blk W w.heap.size 29 #[v] ∧ Blk W (w.heap.size + 1) 32 #[.int .i64 0] ∧ Below w.heap.size w W)
    (fun v W l o o' hG hl ho => ownsRow_putObj hG _ hl ho) ?hB ?hgen
    (fun v => { tmps := #[pv b, undef, .pointer (some ⟨w.heap.size, 0, none⟩), .pointer (some ⟨w.heap.size + 1, 0, none⟩), v, pv b, .func (.func 63) #[] #[pv (w.heap.size + 1 + 1)], v, undef], defers := [] }) ?assign ?body ?done ?stop
  case hB =>
    rintro v W l o o' hle ⟨h1, h2, h3, h4⟩ hl ho
    have hne : ∀ (k : Nat) (t : TypeId) (cs : Array Value), Blk W k t cs → k ≠ l := fun k t cs hk e => by
      subst e
      rw [show W.heap[k]? = _ from hk] at hl
      injection hl with hl
      subst hl
      cases ho
    refine ⟨ownsRow_putObj h1 _ hl ho, (World.putObj_heap_other (hne _ _ _ h2)).trans h2, (World.putObj_heap_other (hne _ _ _ h3)).trans h3, h4.os, h4.tape, h4.output, ?_, fun k hk => (World.putObj_heap_other (by omega)).trans (h4.block k hk)⟩
    have := h4.size
    simp [World.putObj]
    omega
  case hgen =>
    intro W1 l Jx hb1 hy
    have hz1 := hb1.size
    refine (ord1_in b c (w.heap.size + 1 + 1) l L (6 - 1) (by omega) W1 (hA.below hb1) (hTA.step hb1) (r4.of_below hb1) Jx ?_).mono ?_
    · intro v W' hX ho hb
      exact hy v W' hX (owns_lo ho (by omega)) hb
    · rintro e W' ⟨hr, ⟨h1, h2⟩ | ⟨h1, h2⟩⟩
      · exact ⟨hr, .inl ⟨by omega, h2⟩⟩
      · exact ⟨hr, .inr ⟨h1, h2⟩⟩
  case assign =>
    intro l v W K hK
    gi_wp2
    exact hK
  case body =>
    intro l v W hX hG hbW
    have q2 := r2.of_below hbW
    have q3 := r3.of_below hbW
    have c2 := q2.cell (j := 0) rfl
    have c3 := q3.cell (j := 0) rfl
    have f2 := q2.frozen 0
    have f3 := q3.frozen 0
    obtain ⟨x, y, z, rfl⟩ := owns_slice hG
    have HG := hid_of hG
    clear hG
    gi_wp2_with fail
    have e1 := owns_set (owns_set HG.out (a := ⟨w.heap.size, 0, none⟩) (by simp) (.slice x y z)) (a := ⟨w.heap.size + 1, 0, none⟩) (by simp) (.int .i64 0)
    have e2 := (q2.set 0 (.slice x y z)).setOther (a := ⟨w.heap.size + 1, 0, none⟩) (by simp) (.int .i64 0)
    have e3 := (q3.setOther (a := ⟨w.heap.size, 0, none⟩) (by simp) (.slice x y z)).set 0 (.int .i64 0)
    have hbw : Below w.heap.size w W := below_step hBA hBA.size hbW
    exact ⟨(KeepsOthers.setCell _ _ _).trans (KeepsOthers.setCell _ _ _), e1, by simpa using e2, by simpa using e3, (hbw.setCell (by simp) _).setCell (by simp) _⟩
  case done =>
    intro hX D W hD hbW hDD
    have q2 := r2.of_below hbW
    have q3 := r3.of_below hbW
    have c2 := q2.cell (j := 0) rfl
    have c3 := q3.cell (j := 0) rfl
    have f2 := q2.frozen 0
    have f3 := q3.frozen 0
    have hbw : Below w.heap.size w W := below_step hBA hBA.size hbW
    gi_wp2_with fail
    have e2 := (q2.set 0 (.slice none 0 0)).setOther (a := ⟨w.heap.size + 1, 0, none⟩) (by simp) (.int .i64 3)
    have e3 := (q3.setOther (a := ⟨w.heap.size, 0, none⟩) (by simp) (.slice none 0 0)).set 0 (.int .i64 3)
    have hb2 : Below w.heap.size w ((W.setCell ⟨w.heap.size, 0, none⟩ (.slice none 0 0)).setCell ⟨w.heap.size + 1, 0, none⟩ (.int .i64 3)) := (hbw.setCell (by simp) _).setCell (by simp) _
    have hmk : Marks w.heap.size ((W.setCell ⟨w.heap.size, 0, none⟩ (.slice none 0 0)).setCell ⟨w.heap.size + 1, 0, none⟩ (.int .i64 3)) [D] := (Marks.nil _ _).cons ((Below.heap_setCell _ _ _ _ (by simp; omega)).trans ((Below.heap_setCell _ _ _ _ (by simp; omega)).trans hDD)) (by omega) (by simp)
    refine leave_marks hmk ⟨_, ret_sort (e := 3) (x := none) (y := 0) (z := 0) rfl rfl (shut_blk hmk (by simpa using e2)) (shut_blk hmk (by simpa using e3)), _, _, rfl, ⟨fun e => absurd e hX, fun _ => ⟨rfl, rfl⟩⟩, hb2.trans (shut_below hmk)⟩
  case stop =>
    rintro hX D v W hD ⟨h1, h2, h3, h4⟩ hDD
    obtain ⟨x, y, z, rfl⟩ := owns_slice h1
    gi_wp2_with fail
    have hmk : Marks w.heap.size W [D] := (Marks.nil _ _).cons hDD (by omega) (by simp)
    exact leave_marks hmk ⟨_, ret_sort rfl rfl (shut_blk hmk h2) (shut_blk hmk h3), _, _, rfl, ⟨fun _ => ⟨rfl, owns_lo (shut_owns hmk h1) (by omega)⟩, fun e => absurd hX e⟩, h4.trans (shut_below hmk)⟩
theorem oSort_calls (b c : Nat) (L : List Nat) (w : World) (h : IsRel w b c L) (hT : Tab w) :
    Calls Tryd.prog 25 #[pv b] w fun e w' => ∃ v code, e = .returned (.tuple #[v, .int .i64 code]) ∧ SortAns w w' L v code ∧ Below w.heap.size w w' := callsIn_wide.1 (oSort_in b c L w h hT)
end Go.Proofs.YteejkhgccaagiaaDoor
