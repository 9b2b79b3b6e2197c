/- The contract of the document's own Put. -/
import Derived.Test.YtmmgdeoballhpaaDoorJ16
import Derived.Laws.ResultCell
import Derived.Test.YtmmgdeoballhpaaDoorJ08
namespace Go.Proofs.YtmmgdeoballhpaaDoor
open Go.RowKit Go.Shelf Sx

theorem ret_ref2 {fn : Func} {p u : Tmp} {tmps : Array Value} {w : World} {g : Nat} {N M v : Value} (h : fn.results = #[.cell p 46, .tmp u]) (hp : tmps.getD p undef = .pointer (some ⟨g, 0, none⟩)) (hu : tmps.getD u undef = v) (hb : Blk w g 46 #[N, M]) :
    (results fn tmps).run Tryd.prog w = .ok (.tuple #[.agg #[N, M], v]) w := by
  have hl := run_loadVar_row (P := Tryd.prog) w g 46 46 #[N, M] (0, 0) _ hb Tryd.underlying46 rfl (by kernel_rfl)
  rw [results_cell_tmp h, hp, hu]
  simp [asAddr, hl]
def putF (n : Nat) (F : Nat → Nat → Bool) (a b : Int) (v : Bool) : Nat → Nat → Bool := if inR n a && inR n b then upd F a.toNat b.toNat v else F
def putcF (n : Nat) (F : Nat → Nat → Bool) (a b : Int) (v : Bool) : Bool := inR n a && (inR n b && (F a.toNat b.toNat != v))
theorem upd_same {F : Nat → Nat → Bool} {p q : Nat} {v : Bool} (h : F p q = v) (x y : Nat) : F x y = upd F p q v x y := by
  unfold upd
  split
  · rename_i e; rw [e.1, e.2, h]
  · rfl

end Go.Proofs.YtmmgdeoballhpaaDoor
/- The contracts of the document's own makers: Of. -/
namespace Go.Proofs.YtmmgdeoballhpaaDoor
open Go.RowKit Go.Shelf Sx

def ofFn (N : Nat) (l : List (Int × Int)) : Nat → Nat → Bool := l.foldl (fun F x => putF N F x.1 x.2 true) (fun _ _ => false)
theorem ofFn_snoc (N : Nat) (l : List (Int × Int)) (x : Int × Int) : ofFn N (l ++ [x]) = putF N (ofFn N l) x.1 x.2 true := by simp [ofFn]
theorem ofFn_take {N : Nat} {l : List (Int × Int)} {k : Nat} {a b : Int} (h : l[k]? = some (a, b)) : putF N (ofFn N (l.take k)) a b true = ofFn N (l.take (k + 1)) := by
  rw [List.take_add_one, h]
  exact (ofFn_snoc N _ (a, b)).symm
theorem refOf_none (n : Int) (v : Option Addr) (cap : Nat) (w : World) (N : Nat) (HN : Hid (clampN n = N)) :
    Calls Tryd.prog 22 #[.int .i64 n, .slice v 0 cap] w fun e w' => ∃ M rb', e = .returned (.agg #[.int .i64 ((N : Nat) : Int), M]) ∧ RefM w.heap.size w' M N N rb' (ofFn N []) ∧ Below w.heap.size w w' := by
  go_enter Tryd.func22, Tryd.ntmps22
  go_wp2_with fail
  refine (refNew_calls n _).mono ?_
  rw [HN.out]
  rintro e w1 ⟨M, rbw, rfl, hRM, hB1⟩
  obtain ⟨x2, y2, z2, rfl⟩ := hRM.slice
  have hA : MkAt w (w1.alloc (.cells #[.int .i64 ((N : Nat) : Int), .slice x2 y2 z2] 46)) 1 [(0, #[.int .i64 0, .slice none 0 0])] w1.heap.size N (.slice x2 y2 z2) rbw (ofFn N []) := by
    refine MkAt.begin ((Below.refl _ w).alloc (Nat.le_refl _) _) (by simp) ?_ hRM hB1
    intro x hx
    simp only [List.mem_cons, List.not_mem_nil, or_false] at hx
    subst hx
    exact ⟨by omega, Blk.new w _ _⟩
  clear hRM hB1
  go_wp2_with fail
  generalize w1.heap.size = B at *
  go_loopw [6] (fun i wr => i = .int .i64 0 ∧ MkAt w wr 1 [(0, #[.int .i64 0, .slice none 0 0])] B N (.slice x2 y2 z2) rbw (ofFn N [])) (fun _ _ => 0)
  case atStart => exact ⟨rfl, hA⟩
  case round =>
    clear hA
    obtain ⟨rfl, hA⟩ := hrel
    have b0 := hA.box.cell (j := 0) rfl
    have b1 := hA.box.cell (j := 1) rfl
    have hr := hA.fst
    rw [Nat.add_zero] at hr
    have d0 := hr.cell (j := 0) rfl
    have d1 := hr.cell (j := 1) rfl
    have f0 := hr.frozen 0
    have f1 := hr.frozen 1
    go_wp2_with fail
    have hres := (hr.set 0 (.int .i64 ((N : Nat) : Int))).set 1 (.slice x2 y2 z2)
    simp only [List.setIfInBounds_toArray, List.set_cons_zero, List.set_cons_succ] at hres
    (try simp only [Exit.inBlock, Exit.then])
    refine bodyPost_ret (ret_ref rfl rfl hres) rfl ?_
    obtain ⟨hA1, hB1⟩ := hA.answer (r := 0) (by omega)
    rw [Nat.add_zero] at hA1 hB1
    first | exact ⟨_, rbw, rfl, hA1, hB1⟩ | exact ⟨_, rfl, ⟨rbw, hA1⟩, hB1⟩
set_option maxRecDepth 100000 in
set_option maxHeartbeats 8000000 in
theorem refOf_some (n : Int) (s o cap : Nat) (l : List (Int × Int)) (w : World) (hPA : PairsAt w s o l) (hm : l.length ≤ 9223372036854775807) (N : Nat) (HN : Hid (clampN n = N)) :
    Calls Tryd.prog 22 #[.int .i64 n, .slice (some ⟨s, o, none⟩) l.length cap] w fun e w' => ∃ M rb', e = .returned (.agg #[.int .i64 ((N : Nat) : Int), M]) ∧ RefM w.heap.size w' M N N rb' (ofFn N l) ∧ Below w.heap.size w w' := by
  go_enter Tryd.func22, Tryd.ntmps22
  go_wp2_with fail
  refine (refNew_calls n _).mono ?_
  rw [HN.out]
  rintro e w1 ⟨M, rbw, rfl, hRM, hB1⟩
  obtain ⟨x2, y2, z2, rfl⟩ := hRM.slice
  have hA : MkAt w (w1.alloc (.cells #[.int .i64 ((N : Nat) : Int), .slice x2 y2 z2] 46)) 1 [(0, #[.int .i64 0, .slice none 0 0])] w1.heap.size N (.slice x2 y2 z2) rbw (ofFn N (l.take 0)) := by
    refine MkAt.begin ((Below.refl _ w).alloc (Nat.le_refl _) _) (by simp) ?_ hRM hB1
    intro x hx
    simp only [List.mem_cons, List.not_mem_nil, or_false] at hx
    subst hx
    exact ⟨by omega, Blk.new w _ _⟩
  clear hRM hB1
  go_wp2_with fail
  generalize w1.heap.size = B at *
  go_loopw [6] (fun i wr => ∃ k, k ≤ l.length ∧ i = .int .i64 ((k : Nat) : Int) ∧ MkAt w wr 1 [(0, #[.int .i64 0, .slice none 0 0])] B N (.slice x2 y2 z2) rbw (ofFn N (l.take k))) (fun i _ => l.length - (intOf i).toNat)
  case atStart => exact ⟨0, by omega, rfl, hA⟩
  case round =>
    clear hA
    obtain ⟨k, hk, rfl, hA⟩ := hrel
    by_cases hlt : k < l.length
    · obtain ⟨⟨xa, xb⟩, hx⟩ : ∃ x, l[k]? = some x := ⟨_, List.getElem?_eq_getElem hlt⟩
      cases ha : inR N xa
      · have HE0 : Hid (ofFn N (l.take k) = ofFn N (l.take (k + 1))) := by
          show _ = _
          rw [← ofFn_take (N := N) hx]
          unfold putF
          rw [ha]
          rfl
        go_wp2_with fail
        generalize hA0 : Act.mk _ _ = a0
        have hsz : a0.tmps.size = 47 := by rw [← hA0]; rfl
        have b5 : Act.eval a0 (.tmp 5) = pv B := by rw [← hA0]; rfl
        have b6 : Act.eval a0 (.tmp 6) = .int .i64 ((k : Nat) : Int) := by rw [← hA0]; rfl
        have b1 : Act.eval a0 (.tmp 1) = .slice (some ⟨s, o, none⟩) l.length cap := by rw [← hA0]; rfl
        refine wp_region_held_drew (S := (fun W' => ∃ F', MkAt w W' 1 [(0, #[.int .i64 0, .slice none 0 0])] B N (.slice x2 y2 z2) rbw F')) (by kernel_rfl) ⟨_, hA.drew⟩ (fun hS => ?_)
        refine anyS_take (i := 0) (d := some 15) (v := .agg #[.int .i64 ((N : Nat) : Int), .slice x2 y2 z2]) hS rfl rfl (by kernel_rfl) (by kernel_rfl) (by kernel_rfl) (fun _ _ _ h => h) (by rfl) ?_ ?_
        · intro w9 hSw
          have e5 := b5
          have ec : ∀ v, Act.eval a0 (.const v) = v := fun _ => rfl
          have ef : ∀ f, Act.eval a0 (.func f) = .func (.func f) #[] #[] := fun _ => rfl
          generalize Act.eval a0 = ρ at *
          simp only [List.getElem_toArray, List.getElem_cons_zero]
          obtain ⟨F9, hA9⟩ := hSw
          have k0 := hA9.box.cell (j := 0) rfl
          have k1 := hA9.box.cell (j := 1) rfl
          go_simp
        refine anyS_take (i := 1) (d := some 16) (v := .slice (some ⟨s, o, none⟩) l.length cap) hS rfl rfl (by kernel_rfl) (by kernel_rfl) (by kernel_rfl) (fun _ _ _ h => h) (by rfl) ?_ ?_
        · intro w9 hSw
          have e1 : Act.eval (a0.put (some 15) (.agg #[.int .i64 ((N : Nat) : Int), .slice x2 y2 z2])) (.tmp 1) = .slice (some ⟨s, o, none⟩) l.length cap := by rw [Act.eval_put_ne _ _ _ _ (by decide), b1]
          have ec : ∀ v, Act.eval (a0.put (some 15) (.agg #[.int .i64 ((N : Nat) : Int), .slice x2 y2 z2])) (.const v) = v := fun _ => rfl
          have ef : ∀ f, Act.eval (a0.put (some 15) (.agg #[.int .i64 ((N : Nat) : Int), .slice x2 y2 z2])) (.func f) = .func (.func f) #[] #[] := fun _ => rfl
          generalize Act.eval (a0.put (some 15) (.agg #[.int .i64 ((N : Nat) : Int), .slice x2 y2 z2])) = ρ at *
          simp only [List.getElem_toArray, List.getElem_cons_zero, List.getElem_cons_succ]
          clear hSw
          go_simp
        refine anyS_take (i := 2) (d := some 17) (v := .int .i64 ((k : Nat) : Int)) hS rfl rfl (by kernel_rfl) (by kernel_rfl) (by kernel_rfl) (fun _ _ _ h => h) (by rfl) ?_ ?_
        · intro w9 hSw
          have e6 : Act.eval ((a0.put (some 15) (.agg #[.int .i64 ((N : Nat) : Int), .slice x2 y2 z2])).put (some 16) (.slice (some ⟨s, o, none⟩) l.length cap)) (.tmp 6) = .int .i64 ((k : Nat) : Int) := by rw [Act.eval_put_ne _ _ _ _ (by decide), Act.eval_put_ne _ _ _ _ (by decide), b6]
          have ec : ∀ v, Act.eval ((a0.put (some 15) (.agg #[.int .i64 ((N : Nat) : Int), .slice x2 y2 z2])).put (some 16) (.slice (some ⟨s, o, none⟩) l.length cap)) (.const v) = v := fun _ => rfl
          have ef : ∀ f, Act.eval ((a0.put (some 15) (.agg #[.int .i64 ((N : Nat) : Int), .slice x2 y2 z2])).put (some 16) (.slice (some ⟨s, o, none⟩) l.length cap)) (.func f) = .func (.func f) #[] #[] := fun _ => rfl
          generalize Act.eval ((a0.put (some 15) (.agg #[.int .i64 ((N : Nat) : Int), .slice x2 y2 z2])).put (some 16) (.slice (some ⟨s, o, none⟩) l.length cap)) = ρ at *
          simp only [List.getElem_toArray, List.getElem_cons_zero, List.getElem_cons_succ]
          clear hSw
          go_simp
        refine anyS_take (i := 3) (d := some 18) (v := .pointer (some ⟨s, o + k * 2, none⟩)) hS rfl rfl (by kernel_rfl) (by kernel_rfl) (by kernel_rfl) (fun _ _ _ h => h) (by rfl) ?_ ?_
        · intro w9 hSw
          have e16 : Act.eval (((a0.put (some 15) (.agg #[.int .i64 ((N : Nat) : Int), .slice x2 y2 z2])).put (some 16) (.slice (some ⟨s, o, none⟩) l.length cap)).put (some 17) (.int .i64 ((k : Nat) : Int))) (.tmp 16) = .slice (some ⟨s, o, none⟩) l.length cap := by rw [Act.eval_put_ne _ _ _ _ (by decide), Act.eval_put_same _ _ _ (by (repeat rw [Act.size_put]); omega)]
          have e17 : Act.eval (((a0.put (some 15) (.agg #[.int .i64 ((N : Nat) : Int), .slice x2 y2 z2])).put (some 16) (.slice (some ⟨s, o, none⟩) l.length cap)).put (some 17) (.int .i64 ((k : Nat) : Int))) (.tmp 17) = .int .i64 ((k : Nat) : Int) := by rw [Act.eval_put_same _ _ _ (by (repeat rw [Act.size_put]); omega)]
          have ec : ∀ v, Act.eval (((a0.put (some 15) (.agg #[.int .i64 ((N : Nat) : Int), .slice x2 y2 z2])).put (some 16) (.slice (some ⟨s, o, none⟩) l.length cap)).put (some 17) (.int .i64 ((k : Nat) : Int))) (.const v) = v := fun _ => rfl
          have ef : ∀ f, Act.eval (((a0.put (some 15) (.agg #[.int .i64 ((N : Nat) : Int), .slice x2 y2 z2])).put (some 16) (.slice (some ⟨s, o, none⟩) l.length cap)).put (some 17) (.int .i64 ((k : Nat) : Int))) (.func f) = .func (.func f) #[] #[] := fun _ => rfl
          generalize Act.eval (((a0.put (some 15) (.agg #[.int .i64 ((N : Nat) : Int), .slice x2 y2 z2])).put (some 16) (.slice (some ⟨s, o, none⟩) l.length cap)).put (some 17) (.int .i64 ((k : Nat) : Int))) = ρ at *
          simp only [List.getElem_toArray, List.getElem_cons_zero, List.getElem_cons_succ]
          clear hSw
          go_simp
        refine anyS_take (i := 4) (d := some 19) (v := .pointer (some ⟨s, o + k * 2, none⟩)) hS rfl rfl (by kernel_rfl) (by kernel_rfl) (by kernel_rfl) (fun _ _ _ h => h) (by rfl) ?_ ?_
        · intro w9 hSw
          have e18 : Act.eval ((((a0.put (some 15) (.agg #[.int .i64 ((N : Nat) : Int), .slice x2 y2 z2])).put (some 16) (.slice (some ⟨s, o, none⟩) l.length cap)).put (some 17) (.int .i64 ((k : Nat) : Int))).put (some 18) (.pointer (some ⟨s, o + k * 2, none⟩))) (.tmp 18) = .pointer (some ⟨s, o + k * 2, none⟩) := by rw [Act.eval_put_same _ _ _ (by (repeat rw [Act.size_put]); omega)]
          have ec : ∀ v, Act.eval ((((a0.put (some 15) (.agg #[.int .i64 ((N : Nat) : Int), .slice x2 y2 z2])).put (some 16) (.slice (some ⟨s, o, none⟩) l.length cap)).put (some 17) (.int .i64 ((k : Nat) : Int))).put (some 18) (.pointer (some ⟨s, o + k * 2, none⟩))) (.const v) = v := fun _ => rfl
          have ef : ∀ f, Act.eval ((((a0.put (some 15) (.agg #[.int .i64 ((N : Nat) : Int), .slice x2 y2 z2])).put (some 16) (.slice (some ⟨s, o, none⟩) l.length cap)).put (some 17) (.int .i64 ((k : Nat) : Int))).put (some 18) (.pointer (some ⟨s, o + k * 2, none⟩))) (.func f) = .func (.func f) #[] #[] := fun _ => rfl
          generalize Act.eval ((((a0.put (some 15) (.agg #[.int .i64 ((N : Nat) : Int), .slice x2 y2 z2])).put (some 16) (.slice (some ⟨s, o, none⟩) l.length cap)).put (some 17) (.int .i64 ((k : Nat) : Int))).put (some 18) (.pointer (some ⟨s, o + k * 2, none⟩))) = ρ at *
          simp only [List.getElem_toArray, List.getElem_cons_zero, List.getElem_cons_succ]
          clear hSw
          go_simp
        refine anyS_take (i := 5) (d := some 20) (v := .int .i64 xa) hS rfl rfl (by kernel_rfl) (by kernel_rfl) (by kernel_rfl) (fun _ _ _ h => h) (by rfl) ?_ ?_
        · intro w9 hSw
          have e19 : Act.eval (((((a0.put (some 15) (.agg #[.int .i64 ((N : Nat) : Int), .slice x2 y2 z2])).put (some 16) (.slice (some ⟨s, o, none⟩) l.length cap)).put (some 17) (.int .i64 ((k : Nat) : Int))).put (some 18) (.pointer (some ⟨s, o + k * 2, none⟩))).put (some 19) (.pointer (some ⟨s, o + k * 2, none⟩))) (.tmp 19) = .pointer (some ⟨s, o + k * 2, none⟩) := by rw [Act.eval_put_same _ _ _ (by (repeat rw [Act.size_put]); omega)]
          have ec : ∀ v, Act.eval (((((a0.put (some 15) (.agg #[.int .i64 ((N : Nat) : Int), .slice x2 y2 z2])).put (some 16) (.slice (some ⟨s, o, none⟩) l.length cap)).put (some 17) (.int .i64 ((k : Nat) : Int))).put (some 18) (.pointer (some ⟨s, o + k * 2, none⟩))).put (some 19) (.pointer (some ⟨s, o + k * 2, none⟩))) (.const v) = v := fun _ => rfl
          have ef : ∀ f, Act.eval (((((a0.put (some 15) (.agg #[.int .i64 ((N : Nat) : Int), .slice x2 y2 z2])).put (some 16) (.slice (some ⟨s, o, none⟩) l.length cap)).put (some 17) (.int .i64 ((k : Nat) : Int))).put (some 18) (.pointer (some ⟨s, o + k * 2, none⟩))).put (some 19) (.pointer (some ⟨s, o + k * 2, none⟩))) (.func f) = .func (.func f) #[] #[] := fun _ => rfl
          generalize Act.eval (((((a0.put (some 15) (.agg #[.int .i64 ((N : Nat) : Int), .slice x2 y2 z2])).put (some 16) (.slice (some ⟨s, o, none⟩) l.length cap)).put (some 17) (.int .i64 ((k : Nat) : Int))).put (some 18) (.pointer (some ⟨s, o + k * 2, none⟩))).put (some 19) (.pointer (some ⟨s, o + k * 2, none⟩))) = ρ at *
          simp only [List.getElem_toArray, List.getElem_cons_zero, List.getElem_cons_succ]
          obtain ⟨F9, hA9⟩ := hSw
          have k0 := (hPA.below hA9.below).fst k _ hx
          go_simp
        refine wpAnyH_ready (rs := [6]) (by kernel_rfl) (by simp) ?_
        refine anyS_enter (i := 6) (d := some 21) (f := 52) (args := #[.agg #[.int .i64 ((N : Nat) : Int), .slice x2 y2 z2], .int .i64 xa]) (w' := wr.drew) rfl rfl (by rfl) ?_ ?_ AllReadyH.nil
        · skip
          have e15 : Act.eval ((((((a0.put (some 15) (.agg #[.int .i64 ((N : Nat) : Int), .slice x2 y2 z2])).put (some 16) (.slice (some ⟨s, o, none⟩) l.length cap)).put (some 17) (.int .i64 ((k : Nat) : Int))).put (some 18) (.pointer (some ⟨s, o + k * 2, none⟩))).put (some 19) (.pointer (some ⟨s, o + k * 2, none⟩))).put (some 20) (.int .i64 xa)) (.tmp 15) = .agg #[.int .i64 ((N : Nat) : Int), .slice x2 y2 z2] := by rw [Act.eval_put_ne _ _ _ _ (by decide), Act.eval_put_ne _ _ _ _ (by decide), Act.eval_put_ne _ _ _ _ (by decide), Act.eval_put_ne _ _ _ _ (by decide), Act.eval_put_ne _ _ _ _ (by decide), Act.eval_put_same _ _ _ (by (repeat rw [Act.size_put]); omega)]
          have e20 : Act.eval ((((((a0.put (some 15) (.agg #[.int .i64 ((N : Nat) : Int), .slice x2 y2 z2])).put (some 16) (.slice (some ⟨s, o, none⟩) l.length cap)).put (some 17) (.int .i64 ((k : Nat) : Int))).put (some 18) (.pointer (some ⟨s, o + k * 2, none⟩))).put (some 19) (.pointer (some ⟨s, o + k * 2, none⟩))).put (some 20) (.int .i64 xa)) (.tmp 20) = .int .i64 xa := by rw [Act.eval_put_same _ _ _ (by (repeat rw [Act.size_put]); omega)]
          have ec : ∀ v, Act.eval ((((((a0.put (some 15) (.agg #[.int .i64 ((N : Nat) : Int), .slice x2 y2 z2])).put (some 16) (.slice (some ⟨s, o, none⟩) l.length cap)).put (some 17) (.int .i64 ((k : Nat) : Int))).put (some 18) (.pointer (some ⟨s, o + k * 2, none⟩))).put (some 19) (.pointer (some ⟨s, o + k * 2, none⟩))).put (some 20) (.int .i64 xa)) (.const v) = v := fun _ => rfl
          have ef : ∀ f, Act.eval ((((((a0.put (some 15) (.agg #[.int .i64 ((N : Nat) : Int), .slice x2 y2 z2])).put (some 16) (.slice (some ⟨s, o, none⟩) l.length cap)).put (some 17) (.int .i64 ((k : Nat) : Int))).put (some 18) (.pointer (some ⟨s, o + k * 2, none⟩))).put (some 19) (.pointer (some ⟨s, o + k * 2, none⟩))).put (some 20) (.int .i64 xa)) (.func f) = .func (.func f) #[] #[] := fun _ => rfl
          generalize Act.eval ((((((a0.put (some 15) (.agg #[.int .i64 ((N : Nat) : Int), .slice x2 y2 z2])).put (some 16) (.slice (some ⟨s, o, none⟩) l.length cap)).put (some 17) (.int .i64 ((k : Nat) : Int))).put (some 18) (.pointer (some ⟨s, o + k * 2, none⟩))).put (some 19) (.pointer (some ⟨s, o + k * 2, none⟩))).put (some 20) (.int .i64 xa)) = ρ at *
          simp only [List.getElem_toArray, List.getElem_cons_zero, List.getElem_cons_succ]
          go_simp
        refine (refinT false N x2 y2 z2 xa _ ha).mono ?_
        rintro e w5 ⟨rfl, hB5⟩
        have hA5 := hA.drew.step hB5
        refine ⟨_, rfl, ⟨_, hA5⟩, ?_⟩
        clear hS
        have hS : ∃ F', MkAt w w5 1 [(0, #[.int .i64 0, .slice none 0 0])] B N (.slice x2 y2 z2) rbw F' := ⟨_, hA5⟩
        refine anyS_take (i := 7) (d := some 22) (v := .bool false) hS rfl rfl (by kernel_rfl) (by kernel_rfl) (by kernel_rfl) (fun _ _ _ h => h) (by rfl) ?_ ?_
        · intro w9 hSw
          have e21 : Act.eval (((((((a0.put (some 15) (.agg #[.int .i64 ((N : Nat) : Int), .slice x2 y2 z2])).put (some 16) (.slice (some ⟨s, o, none⟩) l.length cap)).put (some 17) (.int .i64 ((k : Nat) : Int))).put (some 18) (.pointer (some ⟨s, o + k * 2, none⟩))).put (some 19) (.pointer (some ⟨s, o + k * 2, none⟩))).put (some 20) (.int .i64 xa)).put (some 21) (.bool false)) (.tmp 21) = .bool false := by rw [Act.eval_put_same _ _ _ (by (repeat rw [Act.size_put]); omega)]
          have ec : ∀ v, Act.eval (((((((a0.put (some 15) (.agg #[.int .i64 ((N : Nat) : Int), .slice x2 y2 z2])).put (some 16) (.slice (some ⟨s, o, none⟩) l.length cap)).put (some 17) (.int .i64 ((k : Nat) : Int))).put (some 18) (.pointer (some ⟨s, o + k * 2, none⟩))).put (some 19) (.pointer (some ⟨s, o + k * 2, none⟩))).put (some 20) (.int .i64 xa)).put (some 21) (.bool false)) (.const v) = v := fun _ => rfl
          have ef : ∀ f, Act.eval (((((((a0.put (some 15) (.agg #[.int .i64 ((N : Nat) : Int), .slice x2 y2 z2])).put (some 16) (.slice (some ⟨s, o, none⟩) l.length cap)).put (some 17) (.int .i64 ((k : Nat) : Int))).put (some 18) (.pointer (some ⟨s, o + k * 2, none⟩))).put (some 19) (.pointer (some ⟨s, o + k * 2, none⟩))).put (some 20) (.int .i64 xa)).put (some 21) (.bool false)) (.func f) = .func (.func f) #[] #[] := fun _ => rfl
          generalize Act.eval (((((((a0.put (some 15) (.agg #[.int .i64 ((N : Nat) : Int), .slice x2 y2 z2])).put (some 16) (.slice (some ⟨s, o, none⟩) l.length cap)).put (some 17) (.int .i64 ((k : Nat) : Int))).put (some 18) (.pointer (some ⟨s, o + k * 2, none⟩))).put (some 19) (.pointer (some ⟨s, o + k * 2, none⟩))).put (some 20) (.int .i64 xa)).put (some 21) (.bool false)) = ρ at *
          simp only [List.getElem_toArray, List.getElem_cons_zero, List.getElem_cons_succ]
          clear hSw
          go_simp
        refine anyS_off (i := 8) (d := some 23) hS rfl rfl (by kernel_rfl) (by kernel_rfl) (by kernel_rfl) (fun _ _ _ h => h) (wanted_off (j := 7) (d := 22) (want := true) rfl rfl (by rw [tmp_put_same _ _ _ (by (repeat rw [Act.size_put]); omega)]; rfl)) ?_
        refine anyS_off (i := 9) (d := some 24) hS rfl rfl (by kernel_rfl) (by kernel_rfl) (by kernel_rfl) (fun _ _ _ h => h) (wanted_off (j := 7) (d := 22) (want := true) rfl rfl (by rw [tmp_put_ne _ _ _ _ (by decide), tmp_put_same _ _ _ (by (repeat rw [Act.size_put]); omega)]; rfl)) ?_
        refine anyS_off (i := 10) (d := some 25) hS rfl rfl (by kernel_rfl) (by kernel_rfl) (by kernel_rfl) (fun _ _ _ h => h) (wanted_off (j := 7) (d := 22) (want := true) rfl rfl (by rw [tmp_put_ne _ _ _ _ (by decide), tmp_put_ne _ _ _ _ (by decide), tmp_put_same _ _ _ (by (repeat rw [Act.size_put]); omega)]; rfl)) ?_
        refine anyS_off (i := 11) (d := some 26) hS rfl rfl (by kernel_rfl) (by kernel_rfl) (by kernel_rfl) (fun _ _ _ h => h) (wanted_off (j := 7) (d := 22) (want := true) rfl rfl (by rw [tmp_put_ne _ _ _ _ (by decide), tmp_put_ne _ _ _ _ (by decide), tmp_put_ne _ _ _ _ (by decide), tmp_put_same _ _ _ (by (repeat rw [Act.size_put]); omega)]; rfl)) ?_
        refine anyS_off (i := 12) (d := some 27) hS rfl rfl (by kernel_rfl) (by kernel_rfl) (by kernel_rfl) (fun _ _ _ h => h) (wanted_off (j := 7) (d := 22) (want := true) rfl rfl (by rw [tmp_put_ne _ _ _ _ (by decide), tmp_put_ne _ _ _ _ (by decide), tmp_put_ne _ _ _ _ (by decide), tmp_put_ne _ _ _ _ (by decide), tmp_put_same _ _ _ (by (repeat rw [Act.size_put]); omega)]; rfl)) ?_
        refine anyS_off (i := 13) (d := some 28) hS rfl rfl (by kernel_rfl) (by kernel_rfl) (by kernel_rfl) (fun _ _ _ h => h) (wanted_off (j := 7) (d := 22) (want := true) rfl rfl (by rw [tmp_put_ne _ _ _ _ (by decide), tmp_put_ne _ _ _ _ (by decide), tmp_put_ne _ _ _ _ (by decide), tmp_put_ne _ _ _ _ (by decide), tmp_put_ne _ _ _ _ (by decide), tmp_put_same _ _ _ (by (repeat rw [Act.size_put]); omega)]; rfl)) ?_
        refine anyS_off (i := 14) (d := some 29) hS rfl rfl (by kernel_rfl) (by kernel_rfl) (by kernel_rfl) (fun _ _ _ h => h) (wanted_off (j := 7) (d := 22) (want := true) rfl rfl (by rw [tmp_put_ne _ _ _ _ (by decide), tmp_put_ne _ _ _ _ (by decide), tmp_put_ne _ _ _ _ (by decide), tmp_put_ne _ _ _ _ (by decide), tmp_put_ne _ _ _ _ (by decide), tmp_put_ne _ _ _ _ (by decide), tmp_put_same _ _ _ (by (repeat rw [Act.size_put]); omega)]; rfl)) ?_
        refine anyS_take (i := 15) (d := some 30) (v := .bool false) hS rfl rfl (by kernel_rfl) (by kernel_rfl) (by kernel_rfl) (fun _ _ _ h => h) (by rfl) ?_ ?_
        · intro w9 hSw
          have e22 : Act.eval (((((((((((((((a0.put (some 15) (.agg #[.int .i64 ((N : Nat) : Int), .slice x2 y2 z2])).put (some 16) (.slice (some ⟨s, o, none⟩) l.length cap)).put (some 17) (.int .i64 ((k : Nat) : Int))).put (some 18) (.pointer (some ⟨s, o + k * 2, none⟩))).put (some 19) (.pointer (some ⟨s, o + k * 2, none⟩))).put (some 20) (.int .i64 xa)).put (some 21) (.bool false)).put (some 22) (.bool false)).put (some 23) (undef)).put (some 24) (undef)).put (some 25) (undef)).put (some 26) (undef)).put (some 27) (undef)).put (some 28) (undef)).put (some 29) (undef)) (.tmp 22) = .bool false := by rw [Act.eval_put_ne _ _ _ _ (by decide), Act.eval_put_ne _ _ _ _ (by decide), Act.eval_put_ne _ _ _ _ (by decide), Act.eval_put_ne _ _ _ _ (by decide), Act.eval_put_ne _ _ _ _ (by decide), Act.eval_put_ne _ _ _ _ (by decide), Act.eval_put_ne _ _ _ _ (by decide), Act.eval_put_same _ _ _ (by (repeat rw [Act.size_put]); omega)]
          have e29 : Act.eval (((((((((((((((a0.put (some 15) (.agg #[.int .i64 ((N : Nat) : Int), .slice x2 y2 z2])).put (some 16) (.slice (some ⟨s, o, none⟩) l.length cap)).put (some 17) (.int .i64 ((k : Nat) : Int))).put (some 18) (.pointer (some ⟨s, o + k * 2, none⟩))).put (some 19) (.pointer (some ⟨s, o + k * 2, none⟩))).put (some 20) (.int .i64 xa)).put (some 21) (.bool false)).put (some 22) (.bool false)).put (some 23) (undef)).put (some 24) (undef)).put (some 25) (undef)).put (some 26) (undef)).put (some 27) (undef)).put (some 28) (undef)).put (some 29) (undef)) (.tmp 29) = undef := by rw [Act.eval_put_same _ _ _ (by (repeat rw [Act.size_put]); omega)]
          have ec : ∀ v, Act.eval (((((((((((((((a0.put (some 15) (.agg #[.int .i64 ((N : Nat) : Int), .slice x2 y2 z2])).put (some 16) (.slice (some ⟨s, o, none⟩) l.length cap)).put (some 17) (.int .i64 ((k : Nat) : Int))).put (some 18) (.pointer (some ⟨s, o + k * 2, none⟩))).put (some 19) (.pointer (some ⟨s, o + k * 2, none⟩))).put (some 20) (.int .i64 xa)).put (some 21) (.bool false)).put (some 22) (.bool false)).put (some 23) (undef)).put (some 24) (undef)).put (some 25) (undef)).put (some 26) (undef)).put (some 27) (undef)).put (some 28) (undef)).put (some 29) (undef)) (.const v) = v := fun _ => rfl
          have ef : ∀ f, Act.eval (((((((((((((((a0.put (some 15) (.agg #[.int .i64 ((N : Nat) : Int), .slice x2 y2 z2])).put (some 16) (.slice (some ⟨s, o, none⟩) l.length cap)).put (some 17) (.int .i64 ((k : Nat) : Int))).put (some 18) (.pointer (some ⟨s, o + k * 2, none⟩))).put (some 19) (.pointer (some ⟨s, o + k * 2, none⟩))).put (some 20) (.int .i64 xa)).put (some 21) (.bool false)).put (some 22) (.bool false)).put (some 23) (undef)).put (some 24) (undef)).put (some 25) (undef)).put (some 26) (undef)).put (some 27) (undef)).put (some 28) (undef)).put (some 29) (undef)) (.func f) = .func (.func f) #[] #[] := fun _ => rfl
          generalize Act.eval (((((((((((((((a0.put (some 15) (.agg #[.int .i64 ((N : Nat) : Int), .slice x2 y2 z2])).put (some 16) (.slice (some ⟨s, o, none⟩) l.length cap)).put (some 17) (.int .i64 ((k : Nat) : Int))).put (some 18) (.pointer (some ⟨s, o + k * 2, none⟩))).put (some 19) (.pointer (some ⟨s, o + k * 2, none⟩))).put (some 20) (.int .i64 xa)).put (some 21) (.bool false)).put (some 22) (.bool false)).put (some 23) (undef)).put (some 24) (undef)).put (some 25) (undef)).put (some 26) (undef)).put (some 27) (undef)).put (some 28) (undef)).put (some 29) (undef)) = ρ at *
          simp only [List.getElem_toArray, List.getElem_cons_zero, List.getElem_cons_succ]
          clear hSw
          go_simp
        refine wpAnyH_done (by kernel_rfl) ?_ _
        subst hA0
        simp only [Act.put, List.setIfInBounds_toArray, List.set_cons_zero, List.set_cons_succ]
        clear hS
        rw [HE0.out] at hA5
        go_wp2_with fail
        refine ⟨⟨k + 1, by omega, by go_num, hA5⟩, by simp [intOf]; omega⟩
      · cases hb : inR N xb
        · have HE1 : Hid (ofFn N (l.take k) = ofFn N (l.take (k + 1))) := by
            show _ = _
            rw [← ofFn_take (N := N) hx]
            unfold putF
            rw [ha, hb]
            rfl
          go_wp2_with fail
          generalize hA0 : Act.mk _ _ = a0
          have hsz : a0.tmps.size = 47 := by rw [← hA0]; rfl
          have b5 : Act.eval a0 (.tmp 5) = pv B := by rw [← hA0]; rfl
          have b6 : Act.eval a0 (.tmp 6) = .int .i64 ((k : Nat) : Int) := by rw [← hA0]; rfl
          have b1 : Act.eval a0 (.tmp 1) = .slice (some ⟨s, o, none⟩) l.length cap := by rw [← hA0]; rfl
          refine wp_region_held_drew (S := (fun W' => ∃ F', MkAt w W' 1 [(0, #[.int .i64 0, .slice none 0 0])] B N (.slice x2 y2 z2) rbw F')) (by kernel_rfl) ⟨_, hA.drew⟩ (fun hS => ?_)
          refine anyS_take (i := 0) (d := some 15) (v := .agg #[.int .i64 ((N : Nat) : Int), .slice x2 y2 z2]) hS rfl rfl (by kernel_rfl) (by kernel_rfl) (by kernel_rfl) (fun _ _ _ h => h) (by rfl) ?_ ?_
          · intro w9 hSw
            have e5 := b5
            have ec : ∀ v, Act.eval a0 (.const v) = v := fun _ => rfl
            have ef : ∀ f, Act.eval a0 (.func f) = .func (.func f) #[] #[] := fun _ => rfl
            generalize Act.eval a0 = ρ at *
            simp only [List.getElem_toArray, List.getElem_cons_zero]
            obtain ⟨F9, hA9⟩ := hSw
            have k0 := hA9.box.cell (j := 0) rfl
            have k1 := hA9.box.cell (j := 1) rfl
            go_simp
          refine anyS_take (i := 1) (d := some 16) (v := .slice (some ⟨s, o, none⟩) l.length cap) hS rfl rfl (by kernel_rfl) (by kernel_rfl) (by kernel_rfl) (fun _ _ _ h => h) (by rfl) ?_ ?_
          · intro w9 hSw
            have e1 : Act.eval (a0.put (some 15) (.agg #[.int .i64 ((N : Nat) : Int), .slice x2 y2 z2])) (.tmp 1) = .slice (some ⟨s, o, none⟩) l.length cap := by rw [Act.eval_put_ne _ _ _ _ (by decide), b1]
            have ec : ∀ v, Act.eval (a0.put (some 15) (.agg #[.int .i64 ((N : Nat) : Int), .slice x2 y2 z2])) (.const v) = v := fun _ => rfl
            have ef : ∀ f, Act.eval (a0.put (some 15) (.agg #[.int .i64 ((N : Nat) : Int), .slice x2 y2 z2])) (.func f) = .func (.func f) #[] #[] := fun _ => rfl
            generalize Act.eval (a0.put (some 15) (.agg #[.int .i64 ((N : Nat) : Int), .slice x2 y2 z2])) = ρ at *
            simp only [List.getElem_toArray, List.getElem_cons_zero, List.getElem_cons_succ]
            clear hSw
            go_simp
          refine anyS_take (i := 2) (d := some 17) (v := .int .i64 ((k : Nat) : Int)) hS rfl rfl (by kernel_rfl) (by kernel_rfl) (by kernel_rfl) (fun _ _ _ h => h) (by rfl) ?_ ?_
          · intro w9 hSw
            have e6 : Act.eval ((a0.put (some 15) (.agg #[.int .i64 ((N : Nat) : Int), .slice x2 y2 z2])).put (some 16) (.slice (some ⟨s, o, none⟩) l.length cap)) (.tmp 6) = .int .i64 ((k : Nat) : Int) := by rw [Act.eval_put_ne _ _ _ _ (by decide), Act.eval_put_ne _ _ _ _ (by decide), b6]
            have ec : ∀ v, Act.eval ((a0.put (some 15) (.agg #[.int .i64 ((N : Nat) : Int), .slice x2 y2 z2])).put (some 16) (.slice (some ⟨s, o, none⟩) l.length cap)) (.const v) = v := fun _ => rfl
            have ef : ∀ f, Act.eval ((a0.put (some 15) (.agg #[.int .i64 ((N : Nat) : Int), .slice x2 y2 z2])).put (some 16) (.slice (some ⟨s, o, none⟩) l.length cap)) (.func f) = .func (.func f) #[] #[] := fun _ => rfl
            generalize Act.eval ((a0.put (some 15) (.agg #[.int .i64 ((N : Nat) : Int), .slice x2 y2 z2])).put (some 16) (.slice (some ⟨s, o, none⟩) l.length cap)) = ρ at *
            simp only [List.getElem_toArray, List.getElem_cons_zero, List.getElem_cons_succ]
            clear hSw
            go_simp
          refine anyS_take (i := 3) (d := some 18) (v := .pointer (some ⟨s, o + k * 2, none⟩)) hS rfl rfl (by kernel_rfl) (by kernel_rfl) (by kernel_rfl) (fun _ _ _ h => h) (by rfl) ?_ ?_
          · intro w9 hSw
            have e16 : Act.eval (((a0.put (some 15) (.agg #[.int .i64 ((N : Nat) : Int), .slice x2 y2 z2])).put (some 16) (.slice (some ⟨s, o, none⟩) l.length cap)).put (some 17) (.int .i64 ((k : Nat) : Int))) (.tmp 16) = .slice (some ⟨s, o, none⟩) l.length cap := by rw [Act.eval_put_ne _ _ _ _ (by decide), Act.eval_put_same _ _ _ (by (repeat rw [Act.size_put]); omega)]
            have e17 : Act.eval (((a0.put (some 15) (.agg #[.int .i64 ((N : Nat) : Int), .slice x2 y2 z2])).put (some 16) (.slice (some ⟨s, o, none⟩) l.length cap)).put (some 17) (.int .i64 ((k : Nat) : Int))) (.tmp 17) = .int .i64 ((k : Nat) : Int) := by rw [Act.eval_put_same _ _ _ (by (repeat rw [Act.size_put]); omega)]
            have ec : ∀ v, Act.eval (((a0.put (some 15) (.agg #[.int .i64 ((N : Nat) : Int), .slice x2 y2 z2])).put (some 16) (.slice (some ⟨s, o, none⟩) l.length cap)).put (some 17) (.int .i64 ((k : Nat) : Int))) (.const v) = v := fun _ => rfl
            have ef : ∀ f, Act.eval (((a0.put (some 15) (.agg #[.int .i64 ((N : Nat) : Int), .slice x2 y2 z2])).put (some 16) (.slice (some ⟨s, o, none⟩) l.length cap)).put (some 17) (.int .i64 ((k : Nat) : Int))) (.func f) = .func (.func f) #[] #[] := fun _ => rfl
            generalize Act.eval (((a0.put (some 15) (.agg #[.int .i64 ((N : Nat) : Int), .slice x2 y2 z2])).put (some 16) (.slice (some ⟨s, o, none⟩) l.length cap)).put (some 17) (.int .i64 ((k : Nat) : Int))) = ρ at *
            simp only [List.getElem_toArray, List.getElem_cons_zero, List.getElem_cons_succ]
            clear hSw
            go_simp
          refine anyS_take (i := 4) (d := some 19) (v := .pointer (some ⟨s, o + k * 2, none⟩)) hS rfl rfl (by kernel_rfl) (by kernel_rfl) (by kernel_rfl) (fun _ _ _ h => h) (by rfl) ?_ ?_
          · intro w9 hSw
            have e18 : Act.eval ((((a0.put (some 15) (.agg #[.int .i64 ((N : Nat) : Int), .slice x2 y2 z2])).put (some 16) (.slice (some ⟨s, o, none⟩) l.length cap)).put (some 17) (.int .i64 ((k : Nat) : Int))).put (some 18) (.pointer (some ⟨s, o + k * 2, none⟩))) (.tmp 18) = .pointer (some ⟨s, o + k * 2, none⟩) := by rw [Act.eval_put_same _ _ _ (by (repeat rw [Act.size_put]); omega)]
            have ec : ∀ v, Act.eval ((((a0.put (some 15) (.agg #[.int .i64 ((N : Nat) : Int), .slice x2 y2 z2])).put (some 16) (.slice (some ⟨s, o, none⟩) l.length cap)).put (some 17) (.int .i64 ((k : Nat) : Int))).put (some 18) (.pointer (some ⟨s, o + k * 2, none⟩))) (.const v) = v := fun _ => rfl
            have ef : ∀ f, Act.eval ((((a0.put (some 15) (.agg #[.int .i64 ((N : Nat) : Int), .slice x2 y2 z2])).put (some 16) (.slice (some ⟨s, o, none⟩) l.length cap)).put (some 17) (.int .i64 ((k : Nat) : Int))).put (some 18) (.pointer (some ⟨s, o + k * 2, none⟩))) (.func f) = .func (.func f) #[] #[] := fun _ => rfl
            generalize Act.eval ((((a0.put (some 15) (.agg #[.int .i64 ((N : Nat) : Int), .slice x2 y2 z2])).put (some 16) (.slice (some ⟨s, o, none⟩) l.length cap)).put (some 17) (.int .i64 ((k : Nat) : Int))).put (some 18) (.pointer (some ⟨s, o + k * 2, none⟩))) = ρ at *
            simp only [List.getElem_toArray, List.getElem_cons_zero, List.getElem_cons_succ]
            clear hSw
            go_simp
          refine anyS_take (i := 5) (d := some 20) (v := .int .i64 xa) hS rfl rfl (by kernel_rfl) (by kernel_rfl) (by kernel_rfl) (fun _ _ _ h => h) (by rfl) ?_ ?_
          · intro w9 hSw
            have e19 : Act.eval (((((a0.put (some 15) (.agg #[.int .i64 ((N : Nat) : Int), .slice x2 y2 z2])).put (some 16) (.slice (some ⟨s, o, none⟩) l.length cap)).put (some 17) (.int .i64 ((k : Nat) : Int))).put (some 18) (.pointer (some ⟨s, o + k * 2, none⟩))).put (some 19) (.pointer (some ⟨s, o + k * 2, none⟩))) (.tmp 19) = .pointer (some ⟨s, o + k * 2, none⟩) := by rw [Act.eval_put_same _ _ _ (by (repeat rw [Act.size_put]); omega)]
            have ec : ∀ v, Act.eval (((((a0.put (some 15) (.agg #[.int .i64 ((N : Nat) : Int), .slice x2 y2 z2])).put (some 16) (.slice (some ⟨s, o, none⟩) l.length cap)).put (some 17) (.int .i64 ((k : Nat) : Int))).put (some 18) (.pointer (some ⟨s, o + k * 2, none⟩))).put (some 19) (.pointer (some ⟨s, o + k * 2, none⟩))) (.const v) = v := fun _ => rfl
            have ef : ∀ f, Act.eval (((((a0.put (some 15) (.agg #[.int .i64 ((N : Nat) : Int), .slice x2 y2 z2])).put (some 16) (.slice (some ⟨s, o, none⟩) l.length cap)).put (some 17) (.int .i64 ((k : Nat) : Int))).put (some 18) (.pointer (some ⟨s, o + k * 2, none⟩))).put (some 19) (.pointer (some ⟨s, o + k * 2, none⟩))) (.func f) = .func (.func f) #[] #[] := fun _ => rfl
            generalize Act.eval (((((a0.put (some 15) (.agg #[.int .i64 ((N : Nat) : Int), .slice x2 y2 z2])).put (some 16) (.slice (some ⟨s, o, none⟩) l.length cap)).put (some 17) (.int .i64 ((k : Nat) : Int))).put (some 18) (.pointer (some ⟨s, o + k * 2, none⟩))).put (some 19) (.pointer (some ⟨s, o + k * 2, none⟩))) = ρ at *
            simp only [List.getElem_toArray, List.getElem_cons_zero, List.getElem_cons_succ]
            obtain ⟨F9, hA9⟩ := hSw
            have k0 := (hPA.below hA9.below).fst k _ hx
            go_simp
          refine wpAnyH_ready (rs := [6]) (by kernel_rfl) (by simp) ?_
          refine anyS_enter (i := 6) (d := some 21) (f := 52) (args := #[.agg #[.int .i64 ((N : Nat) : Int), .slice x2 y2 z2], .int .i64 xa]) (w' := wr.drew) rfl rfl (by rfl) ?_ ?_ AllReadyH.nil
          · skip
            have e15 : Act.eval ((((((a0.put (some 15) (.agg #[.int .i64 ((N : Nat) : Int), .slice x2 y2 z2])).put (some 16) (.slice (some ⟨s, o, none⟩) l.length cap)).put (some 17) (.int .i64 ((k : Nat) : Int))).put (some 18) (.pointer (some ⟨s, o + k * 2, none⟩))).put (some 19) (.pointer (some ⟨s, o + k * 2, none⟩))).put (some 20) (.int .i64 xa)) (.tmp 15) = .agg #[.int .i64 ((N : Nat) : Int), .slice x2 y2 z2] := by rw [Act.eval_put_ne _ _ _ _ (by decide), Act.eval_put_ne _ _ _ _ (by decide), Act.eval_put_ne _ _ _ _ (by decide), Act.eval_put_ne _ _ _ _ (by decide), Act.eval_put_ne _ _ _ _ (by decide), Act.eval_put_same _ _ _ (by (repeat rw [Act.size_put]); omega)]
            have e20 : Act.eval ((((((a0.put (some 15) (.agg #[.int .i64 ((N : Nat) : Int), .slice x2 y2 z2])).put (some 16) (.slice (some ⟨s, o, none⟩) l.length cap)).put (some 17) (.int .i64 ((k : Nat) : Int))).put (some 18) (.pointer (some ⟨s, o + k * 2, none⟩))).put (some 19) (.pointer (some ⟨s, o + k * 2, none⟩))).put (some 20) (.int .i64 xa)) (.tmp 20) = .int .i64 xa := by rw [Act.eval_put_same _ _ _ (by (repeat rw [Act.size_put]); omega)]
            have ec : ∀ v, Act.eval ((((((a0.put (some 15) (.agg #[.int .i64 ((N : Nat) : Int), .slice x2 y2 z2])).put (some 16) (.slice (some ⟨s, o, none⟩) l.length cap)).put (some 17) (.int .i64 ((k : Nat) : Int))).put (some 18) (.pointer (some ⟨s, o + k * 2, none⟩))).put (some 19) (.pointer (some ⟨s, o + k * 2, none⟩))).put (some 20) (.int .i64 xa)) (.const v) = v := fun _ => rfl
            have ef : ∀ f, Act.eval ((((((a0.put (some 15) (.agg #[.int .i64 ((N : Nat) : Int), .slice x2 y2 z2])).put (some 16) (.slice (some ⟨s, o, none⟩) l.length cap)).put (some 17) (.int .i64 ((k : Nat) : Int))).put (some 18) (.pointer (some ⟨s, o + k * 2, none⟩))).put (some 19) (.pointer (some ⟨s, o + k * 2, none⟩))).put (some 20) (.int .i64 xa)) (.func f) = .func (.func f) #[] #[] := fun _ => rfl
            generalize Act.eval ((((((a0.put (some 15) (.agg #[.int .i64 ((N : Nat) : Int), .slice x2 y2 z2])).put (some 16) (.slice (some ⟨s, o, none⟩) l.length cap)).put (some 17) (.int .i64 ((k : Nat) : Int))).put (some 18) (.pointer (some ⟨s, o + k * 2, none⟩))).put (some 19) (.pointer (some ⟨s, o + k * 2, none⟩))).put (some 20) (.int .i64 xa)) = ρ at *
            simp only [List.getElem_toArray, List.getElem_cons_zero, List.getElem_cons_succ]
            go_simp
          refine (refinT true N x2 y2 z2 xa _ ha).mono ?_
          rintro e w5 ⟨rfl, hB5⟩
          have hA5 := hA.drew.step hB5
          refine ⟨_, rfl, ⟨_, hA5⟩, ?_⟩
          clear hS
          have hS : ∃ F', MkAt w w5 1 [(0, #[.int .i64 0, .slice none 0 0])] B N (.slice x2 y2 z2) rbw F' := ⟨_, hA5⟩
          refine anyS_take (i := 7) (d := some 22) (v := .bool true) hS rfl rfl (by kernel_rfl) (by kernel_rfl) (by kernel_rfl) (fun _ _ _ h => h) (by rfl) ?_ ?_
          · intro w9 hSw
            have e21 : Act.eval (((((((a0.put (some 15) (.agg #[.int .i64 ((N : Nat) : Int), .slice x2 y2 z2])).put (some 16) (.slice (some ⟨s, o, none⟩) l.length cap)).put (some 17) (.int .i64 ((k : Nat) : Int))).put (some 18) (.pointer (some ⟨s, o + k * 2, none⟩))).put (some 19) (.pointer (some ⟨s, o + k * 2, none⟩))).put (some 20) (.int .i64 xa)).put (some 21) (.bool true)) (.tmp 21) = .bool true := by rw [Act.eval_put_same _ _ _ (by (repeat rw [Act.size_put]); omega)]
            have ec : ∀ v, Act.eval (((((((a0.put (some 15) (.agg #[.int .i64 ((N : Nat) : Int), .slice x2 y2 z2])).put (some 16) (.slice (some ⟨s, o, none⟩) l.length cap)).put (some 17) (.int .i64 ((k : Nat) : Int))).put (some 18) (.pointer (some ⟨s, o + k * 2, none⟩))).put (some 19) (.pointer (some ⟨s, o + k * 2, none⟩))).put (some 20) (.int .i64 xa)).put (some 21) (.bool true)) (.const v) = v := fun _ => rfl
            have ef : ∀ f, Act.eval (((((((a0.put (some 15) (.agg #[.int .i64 ((N : Nat) : Int), .slice x2 y2 z2])).put (some 16) (.slice (some ⟨s, o, none⟩) l.length cap)).put (some 17) (.int .i64 ((k : Nat) : Int))).put (some 18) (.pointer (some ⟨s, o + k * 2, none⟩))).put (some 19) (.pointer (some ⟨s, o + k * 2, none⟩))).put (some 20) (.int .i64 xa)).put (some 21) (.bool true)) (.func f) = .func (.func f) #[] #[] := fun _ => rfl
            generalize Act.eval (((((((a0.put (some 15) (.agg #[.int .i64 ((N : Nat) : Int), .slice x2 y2 z2])).put (some 16) (.slice (some ⟨s, o, none⟩) l.length cap)).put (some 17) (.int .i64 ((k : Nat) : Int))).put (some 18) (.pointer (some ⟨s, o + k * 2, none⟩))).put (some 19) (.pointer (some ⟨s, o + k * 2, none⟩))).put (some 20) (.int .i64 xa)).put (some 21) (.bool true)) = ρ at *
            simp only [List.getElem_toArray, List.getElem_cons_zero, List.getElem_cons_succ]
            clear hSw
            go_simp
          refine anyS_take (i := 8) (d := some 23) (v := .agg #[.int .i64 ((N : Nat) : Int), .slice x2 y2 z2]) hS rfl rfl (by kernel_rfl) (by kernel_rfl) (by kernel_rfl) (fun _ _ _ h => h) (wanted_guard (j := 7) (d := 22) (want := true) rfl rfl (by rw [tmp_put_same _ _ _ (by (repeat rw [Act.size_put]); omega)])) ?_ ?_
          · intro w9 hSw
            have e5 : Act.eval ((((((((a0.put (some 15) (.agg #[.int .i64 ((N : Nat) : Int), .slice x2 y2 z2])).put (some 16) (.slice (some ⟨s, o, none⟩) l.length cap)).put (some 17) (.int .i64 ((k : Nat) : Int))).put (some 18) (.pointer (some ⟨s, o + k * 2, none⟩))).put (some 19) (.pointer (some ⟨s, o + k * 2, none⟩))).put (some 20) (.int .i64 xa)).put (some 21) (.bool true)).put (some 22) (.bool true)) (.tmp 5) = pv B := by rw [Act.eval_put_ne _ _ _ _ (by decide), Act.eval_put_ne _ _ _ _ (by decide), Act.eval_put_ne _ _ _ _ (by decide), Act.eval_put_ne _ _ _ _ (by decide), Act.eval_put_ne _ _ _ _ (by decide), Act.eval_put_ne _ _ _ _ (by decide), Act.eval_put_ne _ _ _ _ (by decide), Act.eval_put_ne _ _ _ _ (by decide), b5]
            have ec : ∀ v, Act.eval ((((((((a0.put (some 15) (.agg #[.int .i64 ((N : Nat) : Int), .slice x2 y2 z2])).put (some 16) (.slice (some ⟨s, o, none⟩) l.length cap)).put (some 17) (.int .i64 ((k : Nat) : Int))).put (some 18) (.pointer (some ⟨s, o + k * 2, none⟩))).put (some 19) (.pointer (some ⟨s, o + k * 2, none⟩))).put (some 20) (.int .i64 xa)).put (some 21) (.bool true)).put (some 22) (.bool true)) (.const v) = v := fun _ => rfl
            have ef : ∀ f, Act.eval ((((((((a0.put (some 15) (.agg #[.int .i64 ((N : Nat) : Int), .slice x2 y2 z2])).put (some 16) (.slice (some ⟨s, o, none⟩) l.length cap)).put (some 17) (.int .i64 ((k : Nat) : Int))).put (some 18) (.pointer (some ⟨s, o + k * 2, none⟩))).put (some 19) (.pointer (some ⟨s, o + k * 2, none⟩))).put (some 20) (.int .i64 xa)).put (some 21) (.bool true)).put (some 22) (.bool true)) (.func f) = .func (.func f) #[] #[] := fun _ => rfl
            generalize Act.eval ((((((((a0.put (some 15) (.agg #[.int .i64 ((N : Nat) : Int), .slice x2 y2 z2])).put (some 16) (.slice (some ⟨s, o, none⟩) l.length cap)).put (some 17) (.int .i64 ((k : Nat) : Int))).put (some 18) (.pointer (some ⟨s, o + k * 2, none⟩))).put (some 19) (.pointer (some ⟨s, o + k * 2, none⟩))).put (some 20) (.int .i64 xa)).put (some 21) (.bool true)).put (some 22) (.bool true)) = ρ at *
            simp only [List.getElem_toArray, List.getElem_cons_zero, List.getElem_cons_succ]
            obtain ⟨F9, hA9⟩ := hSw
            have k0 := hA9.box.cell (j := 0) rfl
            have k1 := hA9.box.cell (j := 1) rfl
            go_simp
          refine anyS_take (i := 9) (d := some 24) (v := .slice (some ⟨s, o, none⟩) l.length cap) hS rfl rfl (by kernel_rfl) (by kernel_rfl) (by kernel_rfl) (fun _ _ _ h => h) (wanted_guard (j := 7) (d := 22) (want := true) rfl rfl (by rw [tmp_put_ne _ _ _ _ (by decide), tmp_put_same _ _ _ (by (repeat rw [Act.size_put]); omega)])) ?_ ?_
          · intro w9 hSw
            have e1 : Act.eval (((((((((a0.put (some 15) (.agg #[.int .i64 ((N : Nat) : Int), .slice x2 y2 z2])).put (some 16) (.slice (some ⟨s, o, none⟩) l.length cap)).put (some 17) (.int .i64 ((k : Nat) : Int))).put (some 18) (.pointer (some ⟨s, o + k * 2, none⟩))).put (some 19) (.pointer (some ⟨s, o + k * 2, none⟩))).put (some 20) (.int .i64 xa)).put (some 21) (.bool true)).put (some 22) (.bool true)).put (some 23) (.agg #[.int .i64 ((N : Nat) : Int), .slice x2 y2 z2])) (.tmp 1) = .slice (some ⟨s, o, none⟩) l.length cap := by rw [Act.eval_put_ne _ _ _ _ (by decide), Act.eval_put_ne _ _ _ _ (by decide), Act.eval_put_ne _ _ _ _ (by decide), Act.eval_put_ne _ _ _ _ (by decide), Act.eval_put_ne _ _ _ _ (by decide), Act.eval_put_ne _ _ _ _ (by decide), Act.eval_put_ne _ _ _ _ (by decide), Act.eval_put_ne _ _ _ _ (by decide), Act.eval_put_ne _ _ _ _ (by decide), b1]
            have ec : ∀ v, Act.eval (((((((((a0.put (some 15) (.agg #[.int .i64 ((N : Nat) : Int), .slice x2 y2 z2])).put (some 16) (.slice (some ⟨s, o, none⟩) l.length cap)).put (some 17) (.int .i64 ((k : Nat) : Int))).put (some 18) (.pointer (some ⟨s, o + k * 2, none⟩))).put (some 19) (.pointer (some ⟨s, o + k * 2, none⟩))).put (some 20) (.int .i64 xa)).put (some 21) (.bool true)).put (some 22) (.bool true)).put (some 23) (.agg #[.int .i64 ((N : Nat) : Int), .slice x2 y2 z2])) (.const v) = v := fun _ => rfl
            have ef : ∀ f, Act.eval (((((((((a0.put (some 15) (.agg #[.int .i64 ((N : Nat) : Int), .slice x2 y2 z2])).put (some 16) (.slice (some ⟨s, o, none⟩) l.length cap)).put (some 17) (.int .i64 ((k : Nat) : Int))).put (some 18) (.pointer (some ⟨s, o + k * 2, none⟩))).put (some 19) (.pointer (some ⟨s, o + k * 2, none⟩))).put (some 20) (.int .i64 xa)).put (some 21) (.bool true)).put (some 22) (.bool true)).put (some 23) (.agg #[.int .i64 ((N : Nat) : Int), .slice x2 y2 z2])) (.func f) = .func (.func f) #[] #[] := fun _ => rfl
            generalize Act.eval (((((((((a0.put (some 15) (.agg #[.int .i64 ((N : Nat) : Int), .slice x2 y2 z2])).put (some 16) (.slice (some ⟨s, o, none⟩) l.length cap)).put (some 17) (.int .i64 ((k : Nat) : Int))).put (some 18) (.pointer (some ⟨s, o + k * 2, none⟩))).put (some 19) (.pointer (some ⟨s, o + k * 2, none⟩))).put (some 20) (.int .i64 xa)).put (some 21) (.bool true)).put (some 22) (.bool true)).put (some 23) (.agg #[.int .i64 ((N : Nat) : Int), .slice x2 y2 z2])) = ρ at *
            simp only [List.getElem_toArray, List.getElem_cons_zero, List.getElem_cons_succ]
            clear hSw
            go_simp
          refine anyS_take (i := 10) (d := some 25) (v := .int .i64 ((k : Nat) : Int)) hS rfl rfl (by kernel_rfl) (by kernel_rfl) (by kernel_rfl) (fun _ _ _ h => h) (wanted_guard (j := 7) (d := 22) (want := true) rfl rfl (by rw [tmp_put_ne _ _ _ _ (by decide), tmp_put_ne _ _ _ _ (by decide), tmp_put_same _ _ _ (by (repeat rw [Act.size_put]); omega)])) ?_ ?_
          · intro w9 hSw
            have e6 : Act.eval ((((((((((a0.put (some 15) (.agg #[.int .i64 ((N : Nat) : Int), .slice x2 y2 z2])).put (some 16) (.slice (some ⟨s, o, none⟩) l.length cap)).put (some 17) (.int .i64 ((k : Nat) : Int))).put (some 18) (.pointer (some ⟨s, o + k * 2, none⟩))).put (some 19) (.pointer (some ⟨s, o + k * 2, none⟩))).put (some 20) (.int .i64 xa)).put (some 21) (.bool true)).put (some 22) (.bool true)).put (some 23) (.agg #[.int .i64 ((N : Nat) : Int), .slice x2 y2 z2])).put (some 24) (.slice (some ⟨s, o, none⟩) l.length cap)) (.tmp 6) = .int .i64 ((k : Nat) : Int) := by rw [Act.eval_put_ne _ _ _ _ (by decide), Act.eval_put_ne _ _ _ _ (by decide), Act.eval_put_ne _ _ _ _ (by decide), Act.eval_put_ne _ _ _ _ (by decide), Act.eval_put_ne _ _ _ _ (by decide), Act.eval_put_ne _ _ _ _ (by decide), Act.eval_put_ne _ _ _ _ (by decide), Act.eval_put_ne _ _ _ _ (by decide), Act.eval_put_ne _ _ _ _ (by decide), Act.eval_put_ne _ _ _ _ (by decide), b6]
            have ec : ∀ v, Act.eval ((((((((((a0.put (some 15) (.agg #[.int .i64 ((N : Nat) : Int), .slice x2 y2 z2])).put (some 16) (.slice (some ⟨s, o, none⟩) l.length cap)).put (some 17) (.int .i64 ((k : Nat) : Int))).put (some 18) (.pointer (some ⟨s, o + k * 2, none⟩))).put (some 19) (.pointer (some ⟨s, o + k * 2, none⟩))).put (some 20) (.int .i64 xa)).put (some 21) (.bool true)).put (some 22) (.bool true)).put (some 23) (.agg #[.int .i64 ((N : Nat) : Int), .slice x2 y2 z2])).put (some 24) (.slice (some ⟨s, o, none⟩) l.length cap)) (.const v) = v := fun _ => rfl
            have ef : ∀ f, Act.eval ((((((((((a0.put (some 15) (.agg #[.int .i64 ((N : Nat) : Int), .slice x2 y2 z2])).put (some 16) (.slice (some ⟨s, o, none⟩) l.length cap)).put (some 17) (.int .i64 ((k : Nat) : Int))).put (some 18) (.pointer (some ⟨s, o + k * 2, none⟩))).put (some 19) (.pointer (some ⟨s, o + k * 2, none⟩))).put (some 20) (.int .i64 xa)).put (some 21) (.bool true)).put (some 22) (.bool true)).put (some 23) (.agg #[.int .i64 ((N : Nat) : Int), .slice x2 y2 z2])).put (some 24) (.slice (some ⟨s, o, none⟩) l.length cap)) (.func f) = .func (.func f) #[] #[] := fun _ => rfl
            generalize Act.eval ((((((((((a0.put (some 15) (.agg #[.int .i64 ((N : Nat) : Int), .slice x2 y2 z2])).put (some 16) (.slice (some ⟨s, o, none⟩) l.length cap)).put (some 17) (.int .i64 ((k : Nat) : Int))).put (some 18) (.pointer (some ⟨s, o + k * 2, none⟩))).put (some 19) (.pointer (some ⟨s, o + k * 2, none⟩))).put (some 20) (.int .i64 xa)).put (some 21) (.bool true)).put (some 22) (.bool true)).put (some 23) (.agg #[.int .i64 ((N : Nat) : Int), .slice x2 y2 z2])).put (some 24) (.slice (some ⟨s, o, none⟩) l.length cap)) = ρ at *
            simp only [List.getElem_toArray, List.getElem_cons_zero, List.getElem_cons_succ]
            clear hSw
            go_simp
          refine anyS_take (i := 11) (d := some 26) (v := .pointer (some ⟨s, o + k * 2, none⟩)) hS rfl rfl (by kernel_rfl) (by kernel_rfl) (by kernel_rfl) (fun _ _ _ h => h) (wanted_guard (j := 7) (d := 22) (want := true) rfl rfl (by rw [tmp_put_ne _ _ _ _ (by decide), tmp_put_ne _ _ _ _ (by decide), tmp_put_ne _ _ _ _ (by decide), tmp_put_same _ _ _ (by (repeat rw [Act.size_put]); omega)])) ?_ ?_
          · intro w9 hSw
            have e24 : Act.eval (((((((((((a0.put (some 15) (.agg #[.int .i64 ((N : Nat) : Int), .slice x2 y2 z2])).put (some 16) (.slice (some ⟨s, o, none⟩) l.length cap)).put (some 17) (.int .i64 ((k : Nat) : Int))).put (some 18) (.pointer (some ⟨s, o + k * 2, none⟩))).put (some 19) (.pointer (some ⟨s, o + k * 2, none⟩))).put (some 20) (.int .i64 xa)).put (some 21) (.bool true)).put (some 22) (.bool true)).put (some 23) (.agg #[.int .i64 ((N : Nat) : Int), .slice x2 y2 z2])).put (some 24) (.slice (some ⟨s, o, none⟩) l.length cap)).put (some 25) (.int .i64 ((k : Nat) : Int))) (.tmp 24) = .slice (some ⟨s, o, none⟩) l.length cap := by rw [Act.eval_put_ne _ _ _ _ (by decide), Act.eval_put_same _ _ _ (by (repeat rw [Act.size_put]); omega)]
            have e25 : Act.eval (((((((((((a0.put (some 15) (.agg #[.int .i64 ((N : Nat) : Int), .slice x2 y2 z2])).put (some 16) (.slice (some ⟨s, o, none⟩) l.length cap)).put (some 17) (.int .i64 ((k : Nat) : Int))).put (some 18) (.pointer (some ⟨s, o + k * 2, none⟩))).put (some 19) (.pointer (some ⟨s, o + k * 2, none⟩))).put (some 20) (.int .i64 xa)).put (some 21) (.bool true)).put (some 22) (.bool true)).put (some 23) (.agg #[.int .i64 ((N : Nat) : Int), .slice x2 y2 z2])).put (some 24) (.slice (some ⟨s, o, none⟩) l.length cap)).put (some 25) (.int .i64 ((k : Nat) : Int))) (.tmp 25) = .int .i64 ((k : Nat) : Int) := by rw [Act.eval_put_same _ _ _ (by (repeat rw [Act.size_put]); omega)]
            have ec : ∀ v, Act.eval (((((((((((a0.put (some 15) (.agg #[.int .i64 ((N : Nat) : Int), .slice x2 y2 z2])).put (some 16) (.slice (some ⟨s, o, none⟩) l.length cap)).put (some 17) (.int .i64 ((k : Nat) : Int))).put (some 18) (.pointer (some ⟨s, o + k * 2, none⟩))).put (some 19) (.pointer (some ⟨s, o + k * 2, none⟩))).put (some 20) (.int .i64 xa)).put (some 21) (.bool true)).put (some 22) (.bool true)).put (some 23) (.agg #[.int .i64 ((N : Nat) : Int), .slice x2 y2 z2])).put (some 24) (.slice (some ⟨s, o, none⟩) l.length cap)).put (some 25) (.int .i64 ((k : Nat) : Int))) (.const v) = v := fun _ => rfl
            have ef : ∀ f, Act.eval (((((((((((a0.put (some 15) (.agg #[.int .i64 ((N : Nat) : Int), .slice x2 y2 z2])).put (some 16) (.slice (some ⟨s, o, none⟩) l.length cap)).put (some 17) (.int .i64 ((k : Nat) : Int))).put (some 18) (.pointer (some ⟨s, o + k * 2, none⟩))).put (some 19) (.pointer (some ⟨s, o + k * 2, none⟩))).put (some 20) (.int .i64 xa)).put (some 21) (.bool true)).put (some 22) (.bool true)).put (some 23) (.agg #[.int .i64 ((N : Nat) : Int), .slice x2 y2 z2])).put (some 24) (.slice (some ⟨s, o, none⟩) l.length cap)).put (some 25) (.int .i64 ((k : Nat) : Int))) (.func f) = .func (.func f) #[] #[] := fun _ => rfl
            generalize Act.eval (((((((((((a0.put (some 15) (.agg #[.int .i64 ((N : Nat) : Int), .slice x2 y2 z2])).put (some 16) (.slice (some ⟨s, o, none⟩) l.length cap)).put (some 17) (.int .i64 ((k : Nat) : Int))).put (some 18) (.pointer (some ⟨s, o + k * 2, none⟩))).put (some 19) (.pointer (some ⟨s, o + k * 2, none⟩))).put (some 20) (.int .i64 xa)).put (some 21) (.bool true)).put (some 22) (.bool true)).put (some 23) (.agg #[.int .i64 ((N : Nat) : Int), .slice x2 y2 z2])).put (some 24) (.slice (some ⟨s, o, none⟩) l.length cap)).put (some 25) (.int .i64 ((k : Nat) : Int))) = ρ at *
            simp only [List.getElem_toArray, List.getElem_cons_zero, List.getElem_cons_succ]
            clear hSw
            go_simp
          refine anyS_take (i := 12) (d := some 27) (v := .pointer (some ⟨s, o + k * 2 + 1, none⟩)) hS rfl rfl (by kernel_rfl) (by kernel_rfl) (by kernel_rfl) (fun _ _ _ h => h) (wanted_guard (j := 7) (d := 22) (want := true) rfl rfl (by rw [tmp_put_ne _ _ _ _ (by decide), tmp_put_ne _ _ _ _ (by decide), tmp_put_ne _ _ _ _ (by decide), tmp_put_ne _ _ _ _ (by decide), tmp_put_same _ _ _ (by (repeat rw [Act.size_put]); omega)])) ?_ ?_
          · intro w9 hSw
            have e26 : Act.eval ((((((((((((a0.put (some 15) (.agg #[.int .i64 ((N : Nat) : Int), .slice x2 y2 z2])).put (some 16) (.slice (some ⟨s, o, none⟩) l.length cap)).put (some 17) (.int .i64 ((k : Nat) : Int))).put (some 18) (.pointer (some ⟨s, o + k * 2, none⟩))).put (some 19) (.pointer (some ⟨s, o + k * 2, none⟩))).put (some 20) (.int .i64 xa)).put (some 21) (.bool true)).put (some 22) (.bool true)).put (some 23) (.agg #[.int .i64 ((N : Nat) : Int), .slice x2 y2 z2])).put (some 24) (.slice (some ⟨s, o, none⟩) l.length cap)).put (some 25) (.int .i64 ((k : Nat) : Int))).put (some 26) (.pointer (some ⟨s, o + k * 2, none⟩))) (.tmp 26) = .pointer (some ⟨s, o + k * 2, none⟩) := by rw [Act.eval_put_same _ _ _ (by (repeat rw [Act.size_put]); omega)]
            have ec : ∀ v, Act.eval ((((((((((((a0.put (some 15) (.agg #[.int .i64 ((N : Nat) : Int), .slice x2 y2 z2])).put (some 16) (.slice (some ⟨s, o, none⟩) l.length cap)).put (some 17) (.int .i64 ((k : Nat) : Int))).put (some 18) (.pointer (some ⟨s, o + k * 2, none⟩))).put (some 19) (.pointer (some ⟨s, o + k * 2, none⟩))).put (some 20) (.int .i64 xa)).put (some 21) (.bool true)).put (some 22) (.bool true)).put (some 23) (.agg #[.int .i64 ((N : Nat) : Int), .slice x2 y2 z2])).put (some 24) (.slice (some ⟨s, o, none⟩) l.length cap)).put (some 25) (.int .i64 ((k : Nat) : Int))).put (some 26) (.pointer (some ⟨s, o + k * 2, none⟩))) (.const v) = v := fun _ => rfl
            have ef : ∀ f, Act.eval ((((((((((((a0.put (some 15) (.agg #[.int .i64 ((N : Nat) : Int), .slice x2 y2 z2])).put (some 16) (.slice (some ⟨s, o, none⟩) l.length cap)).put (some 17) (.int .i64 ((k : Nat) : Int))).put (some 18) (.pointer (some ⟨s, o + k * 2, none⟩))).put (some 19) (.pointer (some ⟨s, o + k * 2, none⟩))).put (some 20) (.int .i64 xa)).put (some 21) (.bool true)).put (some 22) (.bool true)).put (some 23) (.agg #[.int .i64 ((N : Nat) : Int), .slice x2 y2 z2])).put (some 24) (.slice (some ⟨s, o, none⟩) l.length cap)).put (some 25) (.int .i64 ((k : Nat) : Int))).put (some 26) (.pointer (some ⟨s, o + k * 2, none⟩))) (.func f) = .func (.func f) #[] #[] := fun _ => rfl
            generalize Act.eval ((((((((((((a0.put (some 15) (.agg #[.int .i64 ((N : Nat) : Int), .slice x2 y2 z2])).put (some 16) (.slice (some ⟨s, o, none⟩) l.length cap)).put (some 17) (.int .i64 ((k : Nat) : Int))).put (some 18) (.pointer (some ⟨s, o + k * 2, none⟩))).put (some 19) (.pointer (some ⟨s, o + k * 2, none⟩))).put (some 20) (.int .i64 xa)).put (some 21) (.bool true)).put (some 22) (.bool true)).put (some 23) (.agg #[.int .i64 ((N : Nat) : Int), .slice x2 y2 z2])).put (some 24) (.slice (some ⟨s, o, none⟩) l.length cap)).put (some 25) (.int .i64 ((k : Nat) : Int))).put (some 26) (.pointer (some ⟨s, o + k * 2, none⟩))) = ρ at *
            simp only [List.getElem_toArray, List.getElem_cons_zero, List.getElem_cons_succ]
            clear hSw
            go_simp
          refine anyS_take (i := 13) (d := some 28) (v := .int .i64 xb) hS rfl rfl (by kernel_rfl) (by kernel_rfl) (by kernel_rfl) (fun _ _ _ h => h) (wanted_guard (j := 7) (d := 22) (want := true) rfl rfl (by rw [tmp_put_ne _ _ _ _ (by decide), tmp_put_ne _ _ _ _ (by decide), tmp_put_ne _ _ _ _ (by decide), tmp_put_ne _ _ _ _ (by decide), tmp_put_ne _ _ _ _ (by decide), tmp_put_same _ _ _ (by (repeat rw [Act.size_put]); omega)])) ?_ ?_
          · intro w9 hSw
            have e27 : Act.eval (((((((((((((a0.put (some 15) (.agg #[.int .i64 ((N : Nat) : Int), .slice x2 y2 z2])).put (some 16) (.slice (some ⟨s, o, none⟩) l.length cap)).put (some 17) (.int .i64 ((k : Nat) : Int))).put (some 18) (.pointer (some ⟨s, o + k * 2, none⟩))).put (some 19) (.pointer (some ⟨s, o + k * 2, none⟩))).put (some 20) (.int .i64 xa)).put (some 21) (.bool true)).put (some 22) (.bool true)).put (some 23) (.agg #[.int .i64 ((N : Nat) : Int), .slice x2 y2 z2])).put (some 24) (.slice (some ⟨s, o, none⟩) l.length cap)).put (some 25) (.int .i64 ((k : Nat) : Int))).put (some 26) (.pointer (some ⟨s, o + k * 2, none⟩))).put (some 27) (.pointer (some ⟨s, o + k * 2 + 1, none⟩))) (.tmp 27) = .pointer (some ⟨s, o + k * 2 + 1, none⟩) := by rw [Act.eval_put_same _ _ _ (by (repeat rw [Act.size_put]); omega)]
            have ec : ∀ v, Act.eval (((((((((((((a0.put (some 15) (.agg #[.int .i64 ((N : Nat) : Int), .slice x2 y2 z2])).put (some 16) (.slice (some ⟨s, o, none⟩) l.length cap)).put (some 17) (.int .i64 ((k : Nat) : Int))).put (some 18) (.pointer (some ⟨s, o + k * 2, none⟩))).put (some 19) (.pointer (some ⟨s, o + k * 2, none⟩))).put (some 20) (.int .i64 xa)).put (some 21) (.bool true)).put (some 22) (.bool true)).put (some 23) (.agg #[.int .i64 ((N : Nat) : Int), .slice x2 y2 z2])).put (some 24) (.slice (some ⟨s, o, none⟩) l.length cap)).put (some 25) (.int .i64 ((k : Nat) : Int))).put (some 26) (.pointer (some ⟨s, o + k * 2, none⟩))).put (some 27) (.pointer (some ⟨s, o + k * 2 + 1, none⟩))) (.const v) = v := fun _ => rfl
            have ef : ∀ f, Act.eval (((((((((((((a0.put (some 15) (.agg #[.int .i64 ((N : Nat) : Int), .slice x2 y2 z2])).put (some 16) (.slice (some ⟨s, o, none⟩) l.length cap)).put (some 17) (.int .i64 ((k : Nat) : Int))).put (some 18) (.pointer (some ⟨s, o + k * 2, none⟩))).put (some 19) (.pointer (some ⟨s, o + k * 2, none⟩))).put (some 20) (.int .i64 xa)).put (some 21) (.bool true)).put (some 22) (.bool true)).put (some 23) (.agg #[.int .i64 ((N : Nat) : Int), .slice x2 y2 z2])).put (some 24) (.slice (some ⟨s, o, none⟩) l.length cap)).put (some 25) (.int .i64 ((k : Nat) : Int))).put (some 26) (.pointer (some ⟨s, o + k * 2, none⟩))).put (some 27) (.pointer (some ⟨s, o + k * 2 + 1, none⟩))) (.func f) = .func (.func f) #[] #[] := fun _ => rfl
            generalize Act.eval (((((((((((((a0.put (some 15) (.agg #[.int .i64 ((N : Nat) : Int), .slice x2 y2 z2])).put (some 16) (.slice (some ⟨s, o, none⟩) l.length cap)).put (some 17) (.int .i64 ((k : Nat) : Int))).put (some 18) (.pointer (some ⟨s, o + k * 2, none⟩))).put (some 19) (.pointer (some ⟨s, o + k * 2, none⟩))).put (some 20) (.int .i64 xa)).put (some 21) (.bool true)).put (some 22) (.bool true)).put (some 23) (.agg #[.int .i64 ((N : Nat) : Int), .slice x2 y2 z2])).put (some 24) (.slice (some ⟨s, o, none⟩) l.length cap)).put (some 25) (.int .i64 ((k : Nat) : Int))).put (some 26) (.pointer (some ⟨s, o + k * 2, none⟩))).put (some 27) (.pointer (some ⟨s, o + k * 2 + 1, none⟩))) = ρ at *
            simp only [List.getElem_toArray, List.getElem_cons_zero, List.getElem_cons_succ]
            obtain ⟨F9, hA9⟩ := hSw
            have k0 := (hPA.below hA9.below).snd k _ hx
            go_simp
          refine wpAnyH_ready (rs := [14]) (by kernel_rfl) (by simp) ?_
          refine anyS_enter (i := 14) (d := some 29) (f := 52) (args := #[.agg #[.int .i64 ((N : Nat) : Int), .slice x2 y2 z2], .int .i64 xb]) (w' := w5) rfl rfl (wanted_guard (j := 7) (d := 22) (want := true) rfl rfl (by rw [tmp_put_ne _ _ _ _ (by decide), tmp_put_ne _ _ _ _ (by decide), tmp_put_ne _ _ _ _ (by decide), tmp_put_ne _ _ _ _ (by decide), tmp_put_ne _ _ _ _ (by decide), tmp_put_ne _ _ _ _ (by decide), tmp_put_same _ _ _ (by (repeat rw [Act.size_put]); omega)])) ?_ ?_ AllReadyH.nil
          · skip
            have e23 : Act.eval ((((((((((((((a0.put (some 15) (.agg #[.int .i64 ((N : Nat) : Int), .slice x2 y2 z2])).put (some 16) (.slice (some ⟨s, o, none⟩) l.length cap)).put (some 17) (.int .i64 ((k : Nat) : Int))).put (some 18) (.pointer (some ⟨s, o + k * 2, none⟩))).put (some 19) (.pointer (some ⟨s, o + k * 2, none⟩))).put (some 20) (.int .i64 xa)).put (some 21) (.bool true)).put (some 22) (.bool true)).put (some 23) (.agg #[.int .i64 ((N : Nat) : Int), .slice x2 y2 z2])).put (some 24) (.slice (some ⟨s, o, none⟩) l.length cap)).put (some 25) (.int .i64 ((k : Nat) : Int))).put (some 26) (.pointer (some ⟨s, o + k * 2, none⟩))).put (some 27) (.pointer (some ⟨s, o + k * 2 + 1, none⟩))).put (some 28) (.int .i64 xb)) (.tmp 23) = .agg #[.int .i64 ((N : Nat) : Int), .slice x2 y2 z2] := by rw [Act.eval_put_ne _ _ _ _ (by decide), Act.eval_put_ne _ _ _ _ (by decide), Act.eval_put_ne _ _ _ _ (by decide), Act.eval_put_ne _ _ _ _ (by decide), Act.eval_put_ne _ _ _ _ (by decide), Act.eval_put_same _ _ _ (by (repeat rw [Act.size_put]); omega)]
            have e28 : Act.eval ((((((((((((((a0.put (some 15) (.agg #[.int .i64 ((N : Nat) : Int), .slice x2 y2 z2])).put (some 16) (.slice (some ⟨s, o, none⟩) l.length cap)).put (some 17) (.int .i64 ((k : Nat) : Int))).put (some 18) (.pointer (some ⟨s, o + k * 2, none⟩))).put (some 19) (.pointer (some ⟨s, o + k * 2, none⟩))).put (some 20) (.int .i64 xa)).put (some 21) (.bool true)).put (some 22) (.bool true)).put (some 23) (.agg #[.int .i64 ((N : Nat) : Int), .slice x2 y2 z2])).put (some 24) (.slice (some ⟨s, o, none⟩) l.length cap)).put (some 25) (.int .i64 ((k : Nat) : Int))).put (some 26) (.pointer (some ⟨s, o + k * 2, none⟩))).put (some 27) (.pointer (some ⟨s, o + k * 2 + 1, none⟩))).put (some 28) (.int .i64 xb)) (.tmp 28) = .int .i64 xb := by rw [Act.eval_put_same _ _ _ (by (repeat rw [Act.size_put]); omega)]
            have ec : ∀ v, Act.eval ((((((((((((((a0.put (some 15) (.agg #[.int .i64 ((N : Nat) : Int), .slice x2 y2 z2])).put (some 16) (.slice (some ⟨s, o, none⟩) l.length cap)).put (some 17) (.int .i64 ((k : Nat) : Int))).put (some 18) (.pointer (some ⟨s, o + k * 2, none⟩))).put (some 19) (.pointer (some ⟨s, o + k * 2, none⟩))).put (some 20) (.int .i64 xa)).put (some 21) (.bool true)).put (some 22) (.bool true)).put (some 23) (.agg #[.int .i64 ((N : Nat) : Int), .slice x2 y2 z2])).put (some 24) (.slice (some ⟨s, o, none⟩) l.length cap)).put (some 25) (.int .i64 ((k : Nat) : Int))).put (some 26) (.pointer (some ⟨s, o + k * 2, none⟩))).put (some 27) (.pointer (some ⟨s, o + k * 2 + 1, none⟩))).put (some 28) (.int .i64 xb)) (.const v) = v := fun _ => rfl
            have ef : ∀ f, Act.eval ((((((((((((((a0.put (some 15) (.agg #[.int .i64 ((N : Nat) : Int), .slice x2 y2 z2])).put (some 16) (.slice (some ⟨s, o, none⟩) l.length cap)).put (some 17) (.int .i64 ((k : Nat) : Int))).put (some 18) (.pointer (some ⟨s, o + k * 2, none⟩))).put (some 19) (.pointer (some ⟨s, o + k * 2, none⟩))).put (some 20) (.int .i64 xa)).put (some 21) (.bool true)).put (some 22) (.bool true)).put (some 23) (.agg #[.int .i64 ((N : Nat) : Int), .slice x2 y2 z2])).put (some 24) (.slice (some ⟨s, o, none⟩) l.length cap)).put (some 25) (.int .i64 ((k : Nat) : Int))).put (some 26) (.pointer (some ⟨s, o + k * 2, none⟩))).put (some 27) (.pointer (some ⟨s, o + k * 2 + 1, none⟩))).put (some 28) (.int .i64 xb)) (.func f) = .func (.func f) #[] #[] := fun _ => rfl
            generalize Act.eval ((((((((((((((a0.put (some 15) (.agg #[.int .i64 ((N : Nat) : Int), .slice x2 y2 z2])).put (some 16) (.slice (some ⟨s, o, none⟩) l.length cap)).put (some 17) (.int .i64 ((k : Nat) : Int))).put (some 18) (.pointer (some ⟨s, o + k * 2, none⟩))).put (some 19) (.pointer (some ⟨s, o + k * 2, none⟩))).put (some 20) (.int .i64 xa)).put (some 21) (.bool true)).put (some 22) (.bool true)).put (some 23) (.agg #[.int .i64 ((N : Nat) : Int), .slice x2 y2 z2])).put (some 24) (.slice (some ⟨s, o, none⟩) l.length cap)).put (some 25) (.int .i64 ((k : Nat) : Int))).put (some 26) (.pointer (some ⟨s, o + k * 2, none⟩))).put (some 27) (.pointer (some ⟨s, o + k * 2 + 1, none⟩))).put (some 28) (.int .i64 xb)) = ρ at *
            simp only [List.getElem_toArray, List.getElem_cons_zero, List.getElem_cons_succ]
            go_simp
          refine (refinT false N x2 y2 z2 xb _ hb).mono ?_
          rintro e w6 ⟨rfl, hB6⟩
          have hA6 := hA5.step hB6
          refine ⟨_, rfl, ⟨_, hA6⟩, ?_⟩
          clear hS
          have hS : ∃ F', MkAt w w6 1 [(0, #[.int .i64 0, .slice none 0 0])] B N (.slice x2 y2 z2) rbw F' := ⟨_, hA6⟩
          refine anyS_take (i := 15) (d := some 30) (v := .bool false) hS rfl rfl (by kernel_rfl) (by kernel_rfl) (by kernel_rfl) (fun _ _ _ h => h) (by rfl) ?_ ?_
          · intro w9 hSw
            have e22 : Act.eval (((((((((((((((a0.put (some 15) (.agg #[.int .i64 ((N : Nat) : Int), .slice x2 y2 z2])).put (some 16) (.slice (some ⟨s, o, none⟩) l.length cap)).put (some 17) (.int .i64 ((k : Nat) : Int))).put (some 18) (.pointer (some ⟨s, o + k * 2, none⟩))).put (some 19) (.pointer (some ⟨s, o + k * 2, none⟩))).put (some 20) (.int .i64 xa)).put (some 21) (.bool true)).put (some 22) (.bool true)).put (some 23) (.agg #[.int .i64 ((N : Nat) : Int), .slice x2 y2 z2])).put (some 24) (.slice (some ⟨s, o, none⟩) l.length cap)).put (some 25) (.int .i64 ((k : Nat) : Int))).put (some 26) (.pointer (some ⟨s, o + k * 2, none⟩))).put (some 27) (.pointer (some ⟨s, o + k * 2 + 1, none⟩))).put (some 28) (.int .i64 xb)).put (some 29) (.bool false)) (.tmp 22) = .bool true := by rw [Act.eval_put_ne _ _ _ _ (by decide), Act.eval_put_ne _ _ _ _ (by decide), Act.eval_put_ne _ _ _ _ (by decide), Act.eval_put_ne _ _ _ _ (by decide), Act.eval_put_ne _ _ _ _ (by decide), Act.eval_put_ne _ _ _ _ (by decide), Act.eval_put_ne _ _ _ _ (by decide), Act.eval_put_same _ _ _ (by (repeat rw [Act.size_put]); omega)]
            have e29 : Act.eval (((((((((((((((a0.put (some 15) (.agg #[.int .i64 ((N : Nat) : Int), .slice x2 y2 z2])).put (some 16) (.slice (some ⟨s, o, none⟩) l.length cap)).put (some 17) (.int .i64 ((k : Nat) : Int))).put (some 18) (.pointer (some ⟨s, o + k * 2, none⟩))).put (some 19) (.pointer (some ⟨s, o + k * 2, none⟩))).put (some 20) (.int .i64 xa)).put (some 21) (.bool true)).put (some 22) (.bool true)).put (some 23) (.agg #[.int .i64 ((N : Nat) : Int), .slice x2 y2 z2])).put (some 24) (.slice (some ⟨s, o, none⟩) l.length cap)).put (some 25) (.int .i64 ((k : Nat) : Int))).put (some 26) (.pointer (some ⟨s, o + k * 2, none⟩))).put (some 27) (.pointer (some ⟨s, o + k * 2 + 1, none⟩))).put (some 28) (.int .i64 xb)).put (some 29) (.bool false)) (.tmp 29) = .bool false := by rw [Act.eval_put_same _ _ _ (by (repeat rw [Act.size_put]); omega)]
            have ec : ∀ v, Act.eval (((((((((((((((a0.put (some 15) (.agg #[.int .i64 ((N : Nat) : Int), .slice x2 y2 z2])).put (some 16) (.slice (some ⟨s, o, none⟩) l.length cap)).put (some 17) (.int .i64 ((k : Nat) : Int))).put (some 18) (.pointer (some ⟨s, o + k * 2, none⟩))).put (some 19) (.pointer (some ⟨s, o + k * 2, none⟩))).put (some 20) (.int .i64 xa)).put (some 21) (.bool true)).put (some 22) (.bool true)).put (some 23) (.agg #[.int .i64 ((N : Nat) : Int), .slice x2 y2 z2])).put (some 24) (.slice (some ⟨s, o, none⟩) l.length cap)).put (some 25) (.int .i64 ((k : Nat) : Int))).put (some 26) (.pointer (some ⟨s, o + k * 2, none⟩))).put (some 27) (.pointer (some ⟨s, o + k * 2 + 1, none⟩))).put (some 28) (.int .i64 xb)).put (some 29) (.bool false)) (.const v) = v := fun _ => rfl
            have ef : ∀ f, Act.eval (((((((((((((((a0.put (some 15) (.agg #[.int .i64 ((N : Nat) : Int), .slice x2 y2 z2])).put (some 16) (.slice (some ⟨s, o, none⟩) l.length cap)).put (some 17) (.int .i64 ((k : Nat) : Int))).put (some 18) (.pointer (some ⟨s, o + k * 2, none⟩))).put (some 19) (.pointer (some ⟨s, o + k * 2, none⟩))).put (some 20) (.int .i64 xa)).put (some 21) (.bool true)).put (some 22) (.bool true)).put (some 23) (.agg #[.int .i64 ((N : Nat) : Int), .slice x2 y2 z2])).put (some 24) (.slice (some ⟨s, o, none⟩) l.length cap)).put (some 25) (.int .i64 ((k : Nat) : Int))).put (some 26) (.pointer (some ⟨s, o + k * 2, none⟩))).put (some 27) (.pointer (some ⟨s, o + k * 2 + 1, none⟩))).put (some 28) (.int .i64 xb)).put (some 29) (.bool false)) (.func f) = .func (.func f) #[] #[] := fun _ => rfl
            generalize Act.eval (((((((((((((((a0.put (some 15) (.agg #[.int .i64 ((N : Nat) : Int), .slice x2 y2 z2])).put (some 16) (.slice (some ⟨s, o, none⟩) l.length cap)).put (some 17) (.int .i64 ((k : Nat) : Int))).put (some 18) (.pointer (some ⟨s, o + k * 2, none⟩))).put (some 19) (.pointer (some ⟨s, o + k * 2, none⟩))).put (some 20) (.int .i64 xa)).put (some 21) (.bool true)).put (some 22) (.bool true)).put (some 23) (.agg #[.int .i64 ((N : Nat) : Int), .slice x2 y2 z2])).put (some 24) (.slice (some ⟨s, o, none⟩) l.length cap)).put (some 25) (.int .i64 ((k : Nat) : Int))).put (some 26) (.pointer (some ⟨s, o + k * 2, none⟩))).put (some 27) (.pointer (some ⟨s, o + k * 2 + 1, none⟩))).put (some 28) (.int .i64 xb)).put (some 29) (.bool false)) = ρ at *
            simp only [List.getElem_toArray, List.getElem_cons_zero, List.getElem_cons_succ]
            clear hSw
            go_simp
          refine wpAnyH_done (by kernel_rfl) ?_ _
          subst hA0
          simp only [Act.put, List.setIfInBounds_toArray, List.set_cons_zero, List.set_cons_succ]
          clear hS
          rw [HE1.out] at hA6
          go_wp2_with fail
          refine ⟨⟨k + 1, by omega, by go_num, hA6⟩, by simp [intOf]; omega⟩
        · have HE2 : Hid (upd (ofFn N (l.take k)) xa.toNat xb.toNat true = ofFn N (l.take (k + 1))) := by
            show _ = _
            rw [← ofFn_take (N := N) hx]
            unfold putF
            rw [ha, hb]
            rfl
          go_wp2_with fail
          generalize hA0 : Act.mk _ _ = a0
          have hsz : a0.tmps.size = 47 := by rw [← hA0]; rfl
          have b5 : Act.eval a0 (.tmp 5) = pv B := by rw [← hA0]; rfl
          have b6 : Act.eval a0 (.tmp 6) = .int .i64 ((k : Nat) : Int) := by rw [← hA0]; rfl
          have b1 : Act.eval a0 (.tmp 1) = .slice (some ⟨s, o, none⟩) l.length cap := by rw [← hA0]; rfl
          refine wp_region_held_drew (S := (fun W' => ∃ F', MkAt w W' 1 [(0, #[.int .i64 0, .slice none 0 0])] B N (.slice x2 y2 z2) rbw F')) (by kernel_rfl) ⟨_, hA.drew⟩ (fun hS => ?_)
          refine anyS_take (i := 0) (d := some 15) (v := .agg #[.int .i64 ((N : Nat) : Int), .slice x2 y2 z2]) hS rfl rfl (by kernel_rfl) (by kernel_rfl) (by kernel_rfl) (fun _ _ _ h => h) (by rfl) ?_ ?_
          · intro w9 hSw
            have e5 := b5
            have ec : ∀ v, Act.eval a0 (.const v) = v := fun _ => rfl
            have ef : ∀ f, Act.eval a0 (.func f) = .func (.func f) #[] #[] := fun _ => rfl
            generalize Act.eval a0 = ρ at *
            simp only [List.getElem_toArray, List.getElem_cons_zero]
            obtain ⟨F9, hA9⟩ := hSw
            have k0 := hA9.box.cell (j := 0) rfl
            have k1 := hA9.box.cell (j := 1) rfl
            go_simp
          refine anyS_take (i := 1) (d := some 16) (v := .slice (some ⟨s, o, none⟩) l.length cap) hS rfl rfl (by kernel_rfl) (by kernel_rfl) (by kernel_rfl) (fun _ _ _ h => h) (by rfl) ?_ ?_
          · intro w9 hSw
            have e1 : Act.eval (a0.put (some 15) (.agg #[.int .i64 ((N : Nat) : Int), .slice x2 y2 z2])) (.tmp 1) = .slice (some ⟨s, o, none⟩) l.length cap := by rw [Act.eval_put_ne _ _ _ _ (by decide), b1]
            have ec : ∀ v, Act.eval (a0.put (some 15) (.agg #[.int .i64 ((N : Nat) : Int), .slice x2 y2 z2])) (.const v) = v := fun _ => rfl
            have ef : ∀ f, Act.eval (a0.put (some 15) (.agg #[.int .i64 ((N : Nat) : Int), .slice x2 y2 z2])) (.func f) = .func (.func f) #[] #[] := fun _ => rfl
            generalize Act.eval (a0.put (some 15) (.agg #[.int .i64 ((N : Nat) : Int), .slice x2 y2 z2])) = ρ at *
            simp only [List.getElem_toArray, List.getElem_cons_zero, List.getElem_cons_succ]
            clear hSw
            go_simp
          refine anyS_take (i := 2) (d := some 17) (v := .int .i64 ((k : Nat) : Int)) hS rfl rfl (by kernel_rfl) (by kernel_rfl) (by kernel_rfl) (fun _ _ _ h => h) (by rfl) ?_ ?_
          · intro w9 hSw
            have e6 : Act.eval ((a0.put (some 15) (.agg #[.int .i64 ((N : Nat) : Int), .slice x2 y2 z2])).put (some 16) (.slice (some ⟨s, o, none⟩) l.length cap)) (.tmp 6) = .int .i64 ((k : Nat) : Int) := by rw [Act.eval_put_ne _ _ _ _ (by decide), Act.eval_put_ne _ _ _ _ (by decide), b6]
            have ec : ∀ v, Act.eval ((a0.put (some 15) (.agg #[.int .i64 ((N : Nat) : Int), .slice x2 y2 z2])).put (some 16) (.slice (some ⟨s, o, none⟩) l.length cap)) (.const v) = v := fun _ => rfl
            have ef : ∀ f, Act.eval ((a0.put (some 15) (.agg #[.int .i64 ((N : Nat) : Int), .slice x2 y2 z2])).put (some 16) (.slice (some ⟨s, o, none⟩) l.length cap)) (.func f) = .func (.func f) #[] #[] := fun _ => rfl
            generalize Act.eval ((a0.put (some 15) (.agg #[.int .i64 ((N : Nat) : Int), .slice x2 y2 z2])).put (some 16) (.slice (some ⟨s, o, none⟩) l.length cap)) = ρ at *
            simp only [List.getElem_toArray, List.getElem_cons_zero, List.getElem_cons_succ]
            clear hSw
            go_simp
          refine anyS_take (i := 3) (d := some 18) (v := .pointer (some ⟨s, o + k * 2, none⟩)) hS rfl rfl (by kernel_rfl) (by kernel_rfl) (by kernel_rfl) (fun _ _ _ h => h) (by rfl) ?_ ?_
          · intro w9 hSw
            have e16 : Act.eval (((a0.put (some 15) (.agg #[.int .i64 ((N : Nat) : Int), .slice x2 y2 z2])).put (some 16) (.slice (some ⟨s, o, none⟩) l.length cap)).put (some 17) (.int .i64 ((k : Nat) : Int))) (.tmp 16) = .slice (some ⟨s, o, none⟩) l.length cap := by rw [Act.eval_put_ne _ _ _ _ (by decide), Act.eval_put_same _ _ _ (by (repeat rw [Act.size_put]); omega)]
            have e17 : Act.eval (((a0.put (some 15) (.agg #[.int .i64 ((N : Nat) : Int), .slice x2 y2 z2])).put (some 16) (.slice (some ⟨s, o, none⟩) l.length cap)).put (some 17) (.int .i64 ((k : Nat) : Int))) (.tmp 17) = .int .i64 ((k : Nat) : Int) := by rw [Act.eval_put_same _ _ _ (by (repeat rw [Act.size_put]); omega)]
            have ec : ∀ v, Act.eval (((a0.put (some 15) (.agg #[.int .i64 ((N : Nat) : Int), .slice x2 y2 z2])).put (some 16) (.slice (some ⟨s, o, none⟩) l.length cap)).put (some 17) (.int .i64 ((k : Nat) : Int))) (.const v) = v := fun _ => rfl
            have ef : ∀ f, Act.eval (((a0.put (some 15) (.agg #[.int .i64 ((N : Nat) : Int), .slice x2 y2 z2])).put (some 16) (.slice (some ⟨s, o, none⟩) l.length cap)).put (some 17) (.int .i64 ((k : Nat) : Int))) (.func f) = .func (.func f) #[] #[] := fun _ => rfl
            generalize Act.eval (((a0.put (some 15) (.agg #[.int .i64 ((N : Nat) : Int), .slice x2 y2 z2])).put (some 16) (.slice (some ⟨s, o, none⟩) l.length cap)).put (some 17) (.int .i64 ((k : Nat) : Int))) = ρ at *
            simp only [List.getElem_toArray, List.getElem_cons_zero, List.getElem_cons_succ]
            clear hSw
            go_simp
          refine anyS_take (i := 4) (d := some 19) (v := .pointer (some ⟨s, o + k * 2, none⟩)) hS rfl rfl (by kernel_rfl) (by kernel_rfl) (by kernel_rfl) (fun _ _ _ h => h) (by rfl) ?_ ?_
          · intro w9 hSw
            have e18 : Act.eval ((((a0.put (some 15) (.agg #[.int .i64 ((N : Nat) : Int), .slice x2 y2 z2])).put (some 16) (.slice (some ⟨s, o, none⟩) l.length cap)).put (some 17) (.int .i64 ((k : Nat) : Int))).put (some 18) (.pointer (some ⟨s, o + k * 2, none⟩))) (.tmp 18) = .pointer (some ⟨s, o + k * 2, none⟩) := by rw [Act.eval_put_same _ _ _ (by (repeat rw [Act.size_put]); omega)]
            have ec : ∀ v, Act.eval ((((a0.put (some 15) (.agg #[.int .i64 ((N : Nat) : Int), .slice x2 y2 z2])).put (some 16) (.slice (some ⟨s, o, none⟩) l.length cap)).put (some 17) (.int .i64 ((k : Nat) : Int))).put (some 18) (.pointer (some ⟨s, o + k * 2, none⟩))) (.const v) = v := fun _ => rfl
            have ef : ∀ f, Act.eval ((((a0.put (some 15) (.agg #[.int .i64 ((N : Nat) : Int), .slice x2 y2 z2])).put (some 16) (.slice (some ⟨s, o, none⟩) l.length cap)).put (some 17) (.int .i64 ((k : Nat) : Int))).put (some 18) (.pointer (some ⟨s, o + k * 2, none⟩))) (.func f) = .func (.func f) #[] #[] := fun _ => rfl
            generalize Act.eval ((((a0.put (some 15) (.agg #[.int .i64 ((N : Nat) : Int), .slice x2 y2 z2])).put (some 16) (.slice (some ⟨s, o, none⟩) l.length cap)).put (some 17) (.int .i64 ((k : Nat) : Int))).put (some 18) (.pointer (some ⟨s, o + k * 2, none⟩))) = ρ at *
            simp only [List.getElem_toArray, List.getElem_cons_zero, List.getElem_cons_succ]
            clear hSw
            go_simp
          refine anyS_take (i := 5) (d := some 20) (v := .int .i64 xa) hS rfl rfl (by kernel_rfl) (by kernel_rfl) (by kernel_rfl) (fun _ _ _ h => h) (by rfl) ?_ ?_
          · intro w9 hSw
            have e19 : Act.eval (((((a0.put (some 15) (.agg #[.int .i64 ((N : Nat) : Int), .slice x2 y2 z2])).put (some 16) (.slice (some ⟨s, o, none⟩) l.length cap)).put (some 17) (.int .i64 ((k : Nat) : Int))).put (some 18) (.pointer (some ⟨s, o + k * 2, none⟩))).put (some 19) (.pointer (some ⟨s, o + k * 2, none⟩))) (.tmp 19) = .pointer (some ⟨s, o + k * 2, none⟩) := by rw [Act.eval_put_same _ _ _ (by (repeat rw [Act.size_put]); omega)]
            have ec : ∀ v, Act.eval (((((a0.put (some 15) (.agg #[.int .i64 ((N : Nat) : Int), .slice x2 y2 z2])).put (some 16) (.slice (some ⟨s, o, none⟩) l.length cap)).put (some 17) (.int .i64 ((k : Nat) : Int))).put (some 18) (.pointer (some ⟨s, o + k * 2, none⟩))).put (some 19) (.pointer (some ⟨s, o + k * 2, none⟩))) (.const v) = v := fun _ => rfl
            have ef : ∀ f, Act.eval (((((a0.put (some 15) (.agg #[.int .i64 ((N : Nat) : Int), .slice x2 y2 z2])).put (some 16) (.slice (some ⟨s, o, none⟩) l.length cap)).put (some 17) (.int .i64 ((k : Nat) : Int))).put (some 18) (.pointer (some ⟨s, o + k * 2, none⟩))).put (some 19) (.pointer (some ⟨s, o + k * 2, none⟩))) (.func f) = .func (.func f) #[] #[] := fun _ => rfl
            generalize Act.eval (((((a0.put (some 15) (.agg #[.int .i64 ((N : Nat) : Int), .slice x2 y2 z2])).put (some 16) (.slice (some ⟨s, o, none⟩) l.length cap)).put (some 17) (.int .i64 ((k : Nat) : Int))).put (some 18) (.pointer (some ⟨s, o + k * 2, none⟩))).put (some 19) (.pointer (some ⟨s, o + k * 2, none⟩))) = ρ at *
            simp only [List.getElem_toArray, List.getElem_cons_zero, List.getElem_cons_succ]
            obtain ⟨F9, hA9⟩ := hSw
            have k0 := (hPA.below hA9.below).fst k _ hx
            go_simp
          refine wpAnyH_ready (rs := [6]) (by kernel_rfl) (by simp) ?_
          refine anyS_enter (i := 6) (d := some 21) (f := 52) (args := #[.agg #[.int .i64 ((N : Nat) : Int), .slice x2 y2 z2], .int .i64 xa]) (w' := wr.drew) rfl rfl (by rfl) ?_ ?_ AllReadyH.nil
          · skip
            have e15 : Act.eval ((((((a0.put (some 15) (.agg #[.int .i64 ((N : Nat) : Int), .slice x2 y2 z2])).put (some 16) (.slice (some ⟨s, o, none⟩) l.length cap)).put (some 17) (.int .i64 ((k : Nat) : Int))).put (some 18) (.pointer (some ⟨s, o + k * 2, none⟩))).put (some 19) (.pointer (some ⟨s, o + k * 2, none⟩))).put (some 20) (.int .i64 xa)) (.tmp 15) = .agg #[.int .i64 ((N : Nat) : Int), .slice x2 y2 z2] := by rw [Act.eval_put_ne _ _ _ _ (by decide), Act.eval_put_ne _ _ _ _ (by decide), Act.eval_put_ne _ _ _ _ (by decide), Act.eval_put_ne _ _ _ _ (by decide), Act.eval_put_ne _ _ _ _ (by decide), Act.eval_put_same _ _ _ (by (repeat rw [Act.size_put]); omega)]
            have e20 : Act.eval ((((((a0.put (some 15) (.agg #[.int .i64 ((N : Nat) : Int), .slice x2 y2 z2])).put (some 16) (.slice (some ⟨s, o, none⟩) l.length cap)).put (some 17) (.int .i64 ((k : Nat) : Int))).put (some 18) (.pointer (some ⟨s, o + k * 2, none⟩))).put (some 19) (.pointer (some ⟨s, o + k * 2, none⟩))).put (some 20) (.int .i64 xa)) (.tmp 20) = .int .i64 xa := by rw [Act.eval_put_same _ _ _ (by (repeat rw [Act.size_put]); omega)]
            have ec : ∀ v, Act.eval ((((((a0.put (some 15) (.agg #[.int .i64 ((N : Nat) : Int), .slice x2 y2 z2])).put (some 16) (.slice (some ⟨s, o, none⟩) l.length cap)).put (some 17) (.int .i64 ((k : Nat) : Int))).put (some 18) (.pointer (some ⟨s, o + k * 2, none⟩))).put (some 19) (.pointer (some ⟨s, o + k * 2, none⟩))).put (some 20) (.int .i64 xa)) (.const v) = v := fun _ => rfl
            have ef : ∀ f, Act.eval ((((((a0.put (some 15) (.agg #[.int .i64 ((N : Nat) : Int), .slice x2 y2 z2])).put (some 16) (.slice (some ⟨s, o, none⟩) l.length cap)).put (some 17) (.int .i64 ((k : Nat) : Int))).put (some 18) (.pointer (some ⟨s, o + k * 2, none⟩))).put (some 19) (.pointer (some ⟨s, o + k * 2, none⟩))).put (some 20) (.int .i64 xa)) (.func f) = .func (.func f) #[] #[] := fun _ => rfl
            generalize Act.eval ((((((a0.put (some 15) (.agg #[.int .i64 ((N : Nat) : Int), .slice x2 y2 z2])).put (some 16) (.slice (some ⟨s, o, none⟩) l.length cap)).put (some 17) (.int .i64 ((k : Nat) : Int))).put (some 18) (.pointer (some ⟨s, o + k * 2, none⟩))).put (some 19) (.pointer (some ⟨s, o + k * 2, none⟩))).put (some 20) (.int .i64 xa)) = ρ at *
            simp only [List.getElem_toArray, List.getElem_cons_zero, List.getElem_cons_succ]
            go_simp
          refine (refinT true N x2 y2 z2 xa _ ha).mono ?_
          rintro e w5 ⟨rfl, hB5⟩
          have hA5 := hA.drew.step hB5
          refine ⟨_, rfl, ⟨_, hA5⟩, ?_⟩
          clear hS
          have hS : ∃ F', MkAt w w5 1 [(0, #[.int .i64 0, .slice none 0 0])] B N (.slice x2 y2 z2) rbw F' := ⟨_, hA5⟩
          refine anyS_take (i := 7) (d := some 22) (v := .bool true) hS rfl rfl (by kernel_rfl) (by kernel_rfl) (by kernel_rfl) (fun _ _ _ h => h) (by rfl) ?_ ?_
          · intro w9 hSw
            have e21 : Act.eval (((((((a0.put (some 15) (.agg #[.int .i64 ((N : Nat) : Int), .slice x2 y2 z2])).put (some 16) (.slice (some ⟨s, o, none⟩) l.length cap)).put (some 17) (.int .i64 ((k : Nat) : Int))).put (some 18) (.pointer (some ⟨s, o + k * 2, none⟩))).put (some 19) (.pointer (some ⟨s, o + k * 2, none⟩))).put (some 20) (.int .i64 xa)).put (some 21) (.bool true)) (.tmp 21) = .bool true := by rw [Act.eval_put_same _ _ _ (by (repeat rw [Act.size_put]); omega)]
            have ec : ∀ v, Act.eval (((((((a0.put (some 15) (.agg #[.int .i64 ((N : Nat) : Int), .slice x2 y2 z2])).put (some 16) (.slice (some ⟨s, o, none⟩) l.length cap)).put (some 17) (.int .i64 ((k : Nat) : Int))).put (some 18) (.pointer (some ⟨s, o + k * 2, none⟩))).put (some 19) (.pointer (some ⟨s, o + k * 2, none⟩))).put (some 20) (.int .i64 xa)).put (some 21) (.bool true)) (.const v) = v := fun _ => rfl
            have ef : ∀ f, Act.eval (((((((a0.put (some 15) (.agg #[.int .i64 ((N : Nat) : Int), .slice x2 y2 z2])).put (some 16) (.slice (some ⟨s, o, none⟩) l.length cap)).put (some 17) (.int .i64 ((k : Nat) : Int))).put (some 18) (.pointer (some ⟨s, o + k * 2, none⟩))).put (some 19) (.pointer (some ⟨s, o + k * 2, none⟩))).put (some 20) (.int .i64 xa)).put (some 21) (.bool true)) (.func f) = .func (.func f) #[] #[] := fun _ => rfl
            generalize Act.eval (((((((a0.put (some 15) (.agg #[.int .i64 ((N : Nat) : Int), .slice x2 y2 z2])).put (some 16) (.slice (some ⟨s, o, none⟩) l.length cap)).put (some 17) (.int .i64 ((k : Nat) : Int))).put (some 18) (.pointer (some ⟨s, o + k * 2, none⟩))).put (some 19) (.pointer (some ⟨s, o + k * 2, none⟩))).put (some 20) (.int .i64 xa)).put (some 21) (.bool true)) = ρ at *
            simp only [List.getElem_toArray, List.getElem_cons_zero, List.getElem_cons_succ]
            clear hSw
            go_simp
          refine anyS_take (i := 8) (d := some 23) (v := .agg #[.int .i64 ((N : Nat) : Int), .slice x2 y2 z2]) hS rfl rfl (by kernel_rfl) (by kernel_rfl) (by kernel_rfl) (fun _ _ _ h => h) (wanted_guard (j := 7) (d := 22) (want := true) rfl rfl (by rw [tmp_put_same _ _ _ (by (repeat rw [Act.size_put]); omega)])) ?_ ?_
          · intro w9 hSw
            have e5 : Act.eval ((((((((a0.put (some 15) (.agg #[.int .i64 ((N : Nat) : Int), .slice x2 y2 z2])).put (some 16) (.slice (some ⟨s, o, none⟩) l.length cap)).put (some 17) (.int .i64 ((k : Nat) : Int))).put (some 18) (.pointer (some ⟨s, o + k * 2, none⟩))).put (some 19) (.pointer (some ⟨s, o + k * 2, none⟩))).put (some 20) (.int .i64 xa)).put (some 21) (.bool true)).put (some 22) (.bool true)) (.tmp 5) = pv B := by rw [Act.eval_put_ne _ _ _ _ (by decide), Act.eval_put_ne _ _ _ _ (by decide), Act.eval_put_ne _ _ _ _ (by decide), Act.eval_put_ne _ _ _ _ (by decide), Act.eval_put_ne _ _ _ _ (by decide), Act.eval_put_ne _ _ _ _ (by decide), Act.eval_put_ne _ _ _ _ (by decide), Act.eval_put_ne _ _ _ _ (by decide), b5]
            have ec : ∀ v, Act.eval ((((((((a0.put (some 15) (.agg #[.int .i64 ((N : Nat) : Int), .slice x2 y2 z2])).put (some 16) (.slice (some ⟨s, o, none⟩) l.length cap)).put (some 17) (.int .i64 ((k : Nat) : Int))).put (some 18) (.pointer (some ⟨s, o + k * 2, none⟩))).put (some 19) (.pointer (some ⟨s, o + k * 2, none⟩))).put (some 20) (.int .i64 xa)).put (some 21) (.bool true)).put (some 22) (.bool true)) (.const v) = v := fun _ => rfl
            have ef : ∀ f, Act.eval ((((((((a0.put (some 15) (.agg #[.int .i64 ((N : Nat) : Int), .slice x2 y2 z2])).put (some 16) (.slice (some ⟨s, o, none⟩) l.length cap)).put (some 17) (.int .i64 ((k : Nat) : Int))).put (some 18) (.pointer (some ⟨s, o + k * 2, none⟩))).put (some 19) (.pointer (some ⟨s, o + k * 2, none⟩))).put (some 20) (.int .i64 xa)).put (some 21) (.bool true)).put (some 22) (.bool true)) (.func f) = .func (.func f) #[] #[] := fun _ => rfl
            generalize Act.eval ((((((((a0.put (some 15) (.agg #[.int .i64 ((N : Nat) : Int), .slice x2 y2 z2])).put (some 16) (.slice (some ⟨s, o, none⟩) l.length cap)).put (some 17) (.int .i64 ((k : Nat) : Int))).put (some 18) (.pointer (some ⟨s, o + k * 2, none⟩))).put (some 19) (.pointer (some ⟨s, o + k * 2, none⟩))).put (some 20) (.int .i64 xa)).put (some 21) (.bool true)).put (some 22) (.bool true)) = ρ at *
            simp only [List.getElem_toArray, List.getElem_cons_zero, List.getElem_cons_succ]
            obtain ⟨F9, hA9⟩ := hSw
            have k0 := hA9.box.cell (j := 0) rfl
            have k1 := hA9.box.cell (j := 1) rfl
            go_simp
          refine anyS_take (i := 9) (d := some 24) (v := .slice (some ⟨s, o, none⟩) l.length cap) hS rfl rfl (by kernel_rfl) (by kernel_rfl) (by kernel_rfl) (fun _ _ _ h => h) (wanted_guard (j := 7) (d := 22) (want := true) rfl rfl (by rw [tmp_put_ne _ _ _ _ (by decide), tmp_put_same _ _ _ (by (repeat rw [Act.size_put]); omega)])) ?_ ?_
          · intro w9 hSw
            have e1 : Act.eval (((((((((a0.put (some 15) (.agg #[.int .i64 ((N : Nat) : Int), .slice x2 y2 z2])).put (some 16) (.slice (some ⟨s, o, none⟩) l.length cap)).put (some 17) (.int .i64 ((k : Nat) : Int))).put (some 18) (.pointer (some ⟨s, o + k * 2, none⟩))).put (some 19) (.pointer (some ⟨s, o + k * 2, none⟩))).put (some 20) (.int .i64 xa)).put (some 21) (.bool true)).put (some 22) (.bool true)).put (some 23) (.agg #[.int .i64 ((N : Nat) : Int), .slice x2 y2 z2])) (.tmp 1) = .slice (some ⟨s, o, none⟩) l.length cap := by rw [Act.eval_put_ne _ _ _ _ (by decide), Act.eval_put_ne _ _ _ _ (by decide), Act.eval_put_ne _ _ _ _ (by decide), Act.eval_put_ne _ _ _ _ (by decide), Act.eval_put_ne _ _ _ _ (by decide), Act.eval_put_ne _ _ _ _ (by decide), Act.eval_put_ne _ _ _ _ (by decide), Act.eval_put_ne _ _ _ _ (by decide), Act.eval_put_ne _ _ _ _ (by decide), b1]
            have ec : ∀ v, Act.eval (((((((((a0.put (some 15) (.agg #[.int .i64 ((N : Nat) : Int), .slice x2 y2 z2])).put (some 16) (.slice (some ⟨s, o, none⟩) l.length cap)).put (some 17) (.int .i64 ((k : Nat) : Int))).put (some 18) (.pointer (some ⟨s, o + k * 2, none⟩))).put (some 19) (.pointer (some ⟨s, o + k * 2, none⟩))).put (some 20) (.int .i64 xa)).put (some 21) (.bool true)).put (some 22) (.bool true)).put (some 23) (.agg #[.int .i64 ((N : Nat) : Int), .slice x2 y2 z2])) (.const v) = v := fun _ => rfl
            have ef : ∀ f, Act.eval (((((((((a0.put (some 15) (.agg #[.int .i64 ((N : Nat) : Int), .slice x2 y2 z2])).put (some 16) (.slice (some ⟨s, o, none⟩) l.length cap)).put (some 17) (.int .i64 ((k : Nat) : Int))).put (some 18) (.pointer (some ⟨s, o + k * 2, none⟩))).put (some 19) (.pointer (some ⟨s, o + k * 2, none⟩))).put (some 20) (.int .i64 xa)).put (some 21) (.bool true)).put (some 22) (.bool true)).put (some 23) (.agg #[.int .i64 ((N : Nat) : Int), .slice x2 y2 z2])) (.func f) = .func (.func f) #[] #[] := fun _ => rfl
            generalize Act.eval (((((((((a0.put (some 15) (.agg #[.int .i64 ((N : Nat) : Int), .slice x2 y2 z2])).put (some 16) (.slice (some ⟨s, o, none⟩) l.length cap)).put (some 17) (.int .i64 ((k : Nat) : Int))).put (some 18) (.pointer (some ⟨s, o + k * 2, none⟩))).put (some 19) (.pointer (some ⟨s, o + k * 2, none⟩))).put (some 20) (.int .i64 xa)).put (some 21) (.bool true)).put (some 22) (.bool true)).put (some 23) (.agg #[.int .i64 ((N : Nat) : Int), .slice x2 y2 z2])) = ρ at *
            simp only [List.getElem_toArray, List.getElem_cons_zero, List.getElem_cons_succ]
            clear hSw
            go_simp
          refine anyS_take (i := 10) (d := some 25) (v := .int .i64 ((k : Nat) : Int)) hS rfl rfl (by kernel_rfl) (by kernel_rfl) (by kernel_rfl) (fun _ _ _ h => h) (wanted_guard (j := 7) (d := 22) (want := true) rfl rfl (by rw [tmp_put_ne _ _ _ _ (by decide), tmp_put_ne _ _ _ _ (by decide), tmp_put_same _ _ _ (by (repeat rw [Act.size_put]); omega)])) ?_ ?_
          · intro w9 hSw
            have e6 : Act.eval ((((((((((a0.put (some 15) (.agg #[.int .i64 ((N : Nat) : Int), .slice x2 y2 z2])).put (some 16) (.slice (some ⟨s, o, none⟩) l.length cap)).put (some 17) (.int .i64 ((k : Nat) : Int))).put (some 18) (.pointer (some ⟨s, o + k * 2, none⟩))).put (some 19) (.pointer (some ⟨s, o + k * 2, none⟩))).put (some 20) (.int .i64 xa)).put (some 21) (.bool true)).put (some 22) (.bool true)).put (some 23) (.agg #[.int .i64 ((N : Nat) : Int), .slice x2 y2 z2])).put (some 24) (.slice (some ⟨s, o, none⟩) l.length cap)) (.tmp 6) = .int .i64 ((k : Nat) : Int) := by rw [Act.eval_put_ne _ _ _ _ (by decide), Act.eval_put_ne _ _ _ _ (by decide), Act.eval_put_ne _ _ _ _ (by decide), Act.eval_put_ne _ _ _ _ (by decide), Act.eval_put_ne _ _ _ _ (by decide), Act.eval_put_ne _ _ _ _ (by decide), Act.eval_put_ne _ _ _ _ (by decide), Act.eval_put_ne _ _ _ _ (by decide), Act.eval_put_ne _ _ _ _ (by decide), Act.eval_put_ne _ _ _ _ (by decide), b6]
            have ec : ∀ v, Act.eval ((((((((((a0.put (some 15) (.agg #[.int .i64 ((N : Nat) : Int), .slice x2 y2 z2])).put (some 16) (.slice (some ⟨s, o, none⟩) l.length cap)).put (some 17) (.int .i64 ((k : Nat) : Int))).put (some 18) (.pointer (some ⟨s, o + k * 2, none⟩))).put (some 19) (.pointer (some ⟨s, o + k * 2, none⟩))).put (some 20) (.int .i64 xa)).put (some 21) (.bool true)).put (some 22) (.bool true)).put (some 23) (.agg #[.int .i64 ((N : Nat) : Int), .slice x2 y2 z2])).put (some 24) (.slice (some ⟨s, o, none⟩) l.length cap)) (.const v) = v := fun _ => rfl
            have ef : ∀ f, Act.eval ((((((((((a0.put (some 15) (.agg #[.int .i64 ((N : Nat) : Int), .slice x2 y2 z2])).put (some 16) (.slice (some ⟨s, o, none⟩) l.length cap)).put (some 17) (.int .i64 ((k : Nat) : Int))).put (some 18) (.pointer (some ⟨s, o + k * 2, none⟩))).put (some 19) (.pointer (some ⟨s, o + k * 2, none⟩))).put (some 20) (.int .i64 xa)).put (some 21) (.bool true)).put (some 22) (.bool true)).put (some 23) (.agg #[.int .i64 ((N : Nat) : Int), .slice x2 y2 z2])).put (some 24) (.slice (some ⟨s, o, none⟩) l.length cap)) (.func f) = .func (.func f) #[] #[] := fun _ => rfl
            generalize Act.eval ((((((((((a0.put (some 15) (.agg #[.int .i64 ((N : Nat) : Int), .slice x2 y2 z2])).put (some 16) (.slice (some ⟨s, o, none⟩) l.length cap)).put (some 17) (.int .i64 ((k : Nat) : Int))).put (some 18) (.pointer (some ⟨s, o + k * 2, none⟩))).put (some 19) (.pointer (some ⟨s, o + k * 2, none⟩))).put (some 20) (.int .i64 xa)).put (some 21) (.bool true)).put (some 22) (.bool true)).put (some 23) (.agg #[.int .i64 ((N : Nat) : Int), .slice x2 y2 z2])).put (some 24) (.slice (some ⟨s, o, none⟩) l.length cap)) = ρ at *
            simp only [List.getElem_toArray, List.getElem_cons_zero, List.getElem_cons_succ]
            clear hSw
            go_simp
          refine anyS_take (i := 11) (d := some 26) (v := .pointer (some ⟨s, o + k * 2, none⟩)) hS rfl rfl (by kernel_rfl) (by kernel_rfl) (by kernel_rfl) (fun _ _ _ h => h) (wanted_guard (j := 7) (d := 22) (want := true) rfl rfl (by rw [tmp_put_ne _ _ _ _ (by decide), tmp_put_ne _ _ _ _ (by decide), tmp_put_ne _ _ _ _ (by decide), tmp_put_same _ _ _ (by (repeat rw [Act.size_put]); omega)])) ?_ ?_
          · intro w9 hSw
            have e24 : Act.eval (((((((((((a0.put (some 15) (.agg #[.int .i64 ((N : Nat) : Int), .slice x2 y2 z2])).put (some 16) (.slice (some ⟨s, o, none⟩) l.length cap)).put (some 17) (.int .i64 ((k : Nat) : Int))).put (some 18) (.pointer (some ⟨s, o + k * 2, none⟩))).put (some 19) (.pointer (some ⟨s, o + k * 2, none⟩))).put (some 20) (.int .i64 xa)).put (some 21) (.bool true)).put (some 22) (.bool true)).put (some 23) (.agg #[.int .i64 ((N : Nat) : Int), .slice x2 y2 z2])).put (some 24) (.slice (some ⟨s, o, none⟩) l.length cap)).put (some 25) (.int .i64 ((k : Nat) : Int))) (.tmp 24) = .slice (some ⟨s, o, none⟩) l.length cap := by rw [Act.eval_put_ne _ _ _ _ (by decide), Act.eval_put_same _ _ _ (by (repeat rw [Act.size_put]); omega)]
            have e25 : Act.eval (((((((((((a0.put (some 15) (.agg #[.int .i64 ((N : Nat) : Int), .slice x2 y2 z2])).put (some 16) (.slice (some ⟨s, o, none⟩) l.length cap)).put (some 17) (.int .i64 ((k : Nat) : Int))).put (some 18) (.pointer (some ⟨s, o + k * 2, none⟩))).put (some 19) (.pointer (some ⟨s, o + k * 2, none⟩))).put (some 20) (.int .i64 xa)).put (some 21) (.bool true)).put (some 22) (.bool true)).put (some 23) (.agg #[.int .i64 ((N : Nat) : Int), .slice x2 y2 z2])).put (some 24) (.slice (some ⟨s, o, none⟩) l.length cap)).put (some 25) (.int .i64 ((k : Nat) : Int))) (.tmp 25) = .int .i64 ((k : Nat) : Int) := by rw [Act.eval_put_same _ _ _ (by (repeat rw [Act.size_put]); omega)]
            have ec : ∀ v, Act.eval (((((((((((a0.put (some 15) (.agg #[.int .i64 ((N : Nat) : Int), .slice x2 y2 z2])).put (some 16) (.slice (some ⟨s, o, none⟩) l.length cap)).put (some 17) (.int .i64 ((k : Nat) : Int))).put (some 18) (.pointer (some ⟨s, o + k * 2, none⟩))).put (some 19) (.pointer (some ⟨s, o + k * 2, none⟩))).put (some 20) (.int .i64 xa)).put (some 21) (.bool true)).put (some 22) (.bool true)).put (some 23) (.agg #[.int .i64 ((N : Nat) : Int), .slice x2 y2 z2])).put (some 24) (.slice (some ⟨s, o, none⟩) l.length cap)).put (some 25) (.int .i64 ((k : Nat) : Int))) (.const v) = v := fun _ => rfl
            have ef : ∀ f, Act.eval (((((((((((a0.put (some 15) (.agg #[.int .i64 ((N : Nat) : Int), .slice x2 y2 z2])).put (some 16) (.slice (some ⟨s, o, none⟩) l.length cap)).put (some 17) (.int .i64 ((k : Nat) : Int))).put (some 18) (.pointer (some ⟨s, o + k * 2, none⟩))).put (some 19) (.pointer (some ⟨s, o + k * 2, none⟩))).put (some 20) (.int .i64 xa)).put (some 21) (.bool true)).put (some 22) (.bool true)).put (some 23) (.agg #[.int .i64 ((N : Nat) : Int), .slice x2 y2 z2])).put (some 24) (.slice (some ⟨s, o, none⟩) l.length cap)).put (some 25) (.int .i64 ((k : Nat) : Int))) (.func f) = .func (.func f) #[] #[] := fun _ => rfl
            generalize Act.eval (((((((((((a0.put (some 15) (.agg #[.int .i64 ((N : Nat) : Int), .slice x2 y2 z2])).put (some 16) (.slice (some ⟨s, o, none⟩) l.length cap)).put (some 17) (.int .i64 ((k : Nat) : Int))).put (some 18) (.pointer (some ⟨s, o + k * 2, none⟩))).put (some 19) (.pointer (some ⟨s, o + k * 2, none⟩))).put (some 20) (.int .i64 xa)).put (some 21) (.bool true)).put (some 22) (.bool true)).put (some 23) (.agg #[.int .i64 ((N : Nat) : Int), .slice x2 y2 z2])).put (some 24) (.slice (some ⟨s, o, none⟩) l.length cap)).put (some 25) (.int .i64 ((k : Nat) : Int))) = ρ at *
            simp only [List.getElem_toArray, List.getElem_cons_zero, List.getElem_cons_succ]
            clear hSw
            go_simp
          refine anyS_take (i := 12) (d := some 27) (v := .pointer (some ⟨s, o + k * 2 + 1, none⟩)) hS rfl rfl (by kernel_rfl) (by kernel_rfl) (by kernel_rfl) (fun _ _ _ h => h) (wanted_guard (j := 7) (d := 22) (want := true) rfl rfl (by rw [tmp_put_ne _ _ _ _ (by decide), tmp_put_ne _ _ _ _ (by decide), tmp_put_ne _ _ _ _ (by decide), tmp_put_ne _ _ _ _ (by decide), tmp_put_same _ _ _ (by (repeat rw [Act.size_put]); omega)])) ?_ ?_
          · intro w9 hSw
            have e26 : Act.eval ((((((((((((a0.put (some 15) (.agg #[.int .i64 ((N : Nat) : Int), .slice x2 y2 z2])).put (some 16) (.slice (some ⟨s, o, none⟩) l.length cap)).put (some 17) (.int .i64 ((k : Nat) : Int))).put (some 18) (.pointer (some ⟨s, o + k * 2, none⟩))).put (some 19) (.pointer (some ⟨s, o + k * 2, none⟩))).put (some 20) (.int .i64 xa)).put (some 21) (.bool true)).put (some 22) (.bool true)).put (some 23) (.agg #[.int .i64 ((N : Nat) : Int), .slice x2 y2 z2])).put (some 24) (.slice (some ⟨s, o, none⟩) l.length cap)).put (some 25) (.int .i64 ((k : Nat) : Int))).put (some 26) (.pointer (some ⟨s, o + k * 2, none⟩))) (.tmp 26) = .pointer (some ⟨s, o + k * 2, none⟩) := by rw [Act.eval_put_same _ _ _ (by (repeat rw [Act.size_put]); omega)]
            have ec : ∀ v, Act.eval ((((((((((((a0.put (some 15) (.agg #[.int .i64 ((N : Nat) : Int), .slice x2 y2 z2])).put (some 16) (.slice (some ⟨s, o, none⟩) l.length cap)).put (some 17) (.int .i64 ((k : Nat) : Int))).put (some 18) (.pointer (some ⟨s, o + k * 2, none⟩))).put (some 19) (.pointer (some ⟨s, o + k * 2, none⟩))).put (some 20) (.int .i64 xa)).put (some 21) (.bool true)).put (some 22) (.bool true)).put (some 23) (.agg #[.int .i64 ((N : Nat) : Int), .slice x2 y2 z2])).put (some 24) (.slice (some ⟨s, o, none⟩) l.length cap)).put (some 25) (.int .i64 ((k : Nat) : Int))).put (some 26) (.pointer (some ⟨s, o + k * 2, none⟩))) (.const v) = v := fun _ => rfl
            have ef : ∀ f, Act.eval ((((((((((((a0.put (some 15) (.agg #[.int .i64 ((N : Nat) : Int), .slice x2 y2 z2])).put (some 16) (.slice (some ⟨s, o, none⟩) l.length cap)).put (some 17) (.int .i64 ((k : Nat) : Int))).put (some 18) (.pointer (some ⟨s, o + k * 2, none⟩))).put (some 19) (.pointer (some ⟨s, o + k * 2, none⟩))).put (some 20) (.int .i64 xa)).put (some 21) (.bool true)).put (some 22) (.bool true)).put (some 23) (.agg #[.int .i64 ((N : Nat) : Int), .slice x2 y2 z2])).put (some 24) (.slice (some ⟨s, o, none⟩) l.length cap)).put (some 25) (.int .i64 ((k : Nat) : Int))).put (some 26) (.pointer (some ⟨s, o + k * 2, none⟩))) (.func f) = .func (.func f) #[] #[] := fun _ => rfl
            generalize Act.eval ((((((((((((a0.put (some 15) (.agg #[.int .i64 ((N : Nat) : Int), .slice x2 y2 z2])).put (some 16) (.slice (some ⟨s, o, none⟩) l.length cap)).put (some 17) (.int .i64 ((k : Nat) : Int))).put (some 18) (.pointer (some ⟨s, o + k * 2, none⟩))).put (some 19) (.pointer (some ⟨s, o + k * 2, none⟩))).put (some 20) (.int .i64 xa)).put (some 21) (.bool true)).put (some 22) (.bool true)).put (some 23) (.agg #[.int .i64 ((N : Nat) : Int), .slice x2 y2 z2])).put (some 24) (.slice (some ⟨s, o, none⟩) l.length cap)).put (some 25) (.int .i64 ((k : Nat) : Int))).put (some 26) (.pointer (some ⟨s, o + k * 2, none⟩))) = ρ at *
            simp only [List.getElem_toArray, List.getElem_cons_zero, List.getElem_cons_succ]
            clear hSw
            go_simp
          refine anyS_take (i := 13) (d := some 28) (v := .int .i64 xb) hS rfl rfl (by kernel_rfl) (by kernel_rfl) (by kernel_rfl) (fun _ _ _ h => h) (wanted_guard (j := 7) (d := 22) (want := true) rfl rfl (by rw [tmp_put_ne _ _ _ _ (by decide), tmp_put_ne _ _ _ _ (by decide), tmp_put_ne _ _ _ _ (by decide), tmp_put_ne _ _ _ _ (by decide), tmp_put_ne _ _ _ _ (by decide), tmp_put_same _ _ _ (by (repeat rw [Act.size_put]); omega)])) ?_ ?_
          · intro w9 hSw
            have e27 : Act.eval (((((((((((((a0.put (some 15) (.agg #[.int .i64 ((N : Nat) : Int), .slice x2 y2 z2])).put (some 16) (.slice (some ⟨s, o, none⟩) l.length cap)).put (some 17) (.int .i64 ((k : Nat) : Int))).put (some 18) (.pointer (some ⟨s, o + k * 2, none⟩))).put (some 19) (.pointer (some ⟨s, o + k * 2, none⟩))).put (some 20) (.int .i64 xa)).put (some 21) (.bool true)).put (some 22) (.bool true)).put (some 23) (.agg #[.int .i64 ((N : Nat) : Int), .slice x2 y2 z2])).put (some 24) (.slice (some ⟨s, o, none⟩) l.length cap)).put (some 25) (.int .i64 ((k : Nat) : Int))).put (some 26) (.pointer (some ⟨s, o + k * 2, none⟩))).put (some 27) (.pointer (some ⟨s, o + k * 2 + 1, none⟩))) (.tmp 27) = .pointer (some ⟨s, o + k * 2 + 1, none⟩) := by rw [Act.eval_put_same _ _ _ (by (repeat rw [Act.size_put]); omega)]
            have ec : ∀ v, Act.eval (((((((((((((a0.put (some 15) (.agg #[.int .i64 ((N : Nat) : Int), .slice x2 y2 z2])).put (some 16) (.slice (some ⟨s, o, none⟩) l.length cap)).put (some 17) (.int .i64 ((k : Nat) : Int))).put (some 18) (.pointer (some ⟨s, o + k * 2, none⟩))).put (some 19) (.pointer (some ⟨s, o + k * 2, none⟩))).put (some 20) (.int .i64 xa)).put (some 21) (.bool true)).put (some 22) (.bool true)).put (some 23) (.agg #[.int .i64 ((N : Nat) : Int), .slice x2 y2 z2])).put (some 24) (.slice (some ⟨s, o, none⟩) l.length cap)).put (some 25) (.int .i64 ((k : Nat) : Int))).put (some 26) (.pointer (some ⟨s, o + k * 2, none⟩))).put (some 27) (.pointer (some ⟨s, o + k * 2 + 1, none⟩))) (.const v) = v := fun _ => rfl
            have ef : ∀ f, Act.eval (((((((((((((a0.put (some 15) (.agg #[.int .i64 ((N : Nat) : Int), .slice x2 y2 z2])).put (some 16) (.slice (some ⟨s, o, none⟩) l.length cap)).put (some 17) (.int .i64 ((k : Nat) : Int))).put (some 18) (.pointer (some ⟨s, o + k * 2, none⟩))).put (some 19) (.pointer (some ⟨s, o + k * 2, none⟩))).put (some 20) (.int .i64 xa)).put (some 21) (.bool true)).put (some 22) (.bool true)).put (some 23) (.agg #[.int .i64 ((N : Nat) : Int), .slice x2 y2 z2])).put (some 24) (.slice (some ⟨s, o, none⟩) l.length cap)).put (some 25) (.int .i64 ((k : Nat) : Int))).put (some 26) (.pointer (some ⟨s, o + k * 2, none⟩))).put (some 27) (.pointer (some ⟨s, o + k * 2 + 1, none⟩))) (.func f) = .func (.func f) #[] #[] := fun _ => rfl
            generalize Act.eval (((((((((((((a0.put (some 15) (.agg #[.int .i64 ((N : Nat) : Int), .slice x2 y2 z2])).put (some 16) (.slice (some ⟨s, o, none⟩) l.length cap)).put (some 17) (.int .i64 ((k : Nat) : Int))).put (some 18) (.pointer (some ⟨s, o + k * 2, none⟩))).put (some 19) (.pointer (some ⟨s, o + k * 2, none⟩))).put (some 20) (.int .i64 xa)).put (some 21) (.bool true)).put (some 22) (.bool true)).put (some 23) (.agg #[.int .i64 ((N : Nat) : Int), .slice x2 y2 z2])).put (some 24) (.slice (some ⟨s, o, none⟩) l.length cap)).put (some 25) (.int .i64 ((k : Nat) : Int))).put (some 26) (.pointer (some ⟨s, o + k * 2, none⟩))).put (some 27) (.pointer (some ⟨s, o + k * 2 + 1, none⟩))) = ρ at *
            simp only [List.getElem_toArray, List.getElem_cons_zero, List.getElem_cons_succ]
            obtain ⟨F9, hA9⟩ := hSw
            have k0 := (hPA.below hA9.below).snd k _ hx
            go_simp
          refine wpAnyH_ready (rs := [14]) (by kernel_rfl) (by simp) ?_
          refine anyS_enter (i := 14) (d := some 29) (f := 52) (args := #[.agg #[.int .i64 ((N : Nat) : Int), .slice x2 y2 z2], .int .i64 xb]) (w' := w5) rfl rfl (wanted_guard (j := 7) (d := 22) (want := true) rfl rfl (by rw [tmp_put_ne _ _ _ _ (by decide), tmp_put_ne _ _ _ _ (by decide), tmp_put_ne _ _ _ _ (by decide), tmp_put_ne _ _ _ _ (by decide), tmp_put_ne _ _ _ _ (by decide), tmp_put_ne _ _ _ _ (by decide), tmp_put_same _ _ _ (by (repeat rw [Act.size_put]); omega)])) ?_ ?_ AllReadyH.nil
          · skip
            have e23 : Act.eval ((((((((((((((a0.put (some 15) (.agg #[.int .i64 ((N : Nat) : Int), .slice x2 y2 z2])).put (some 16) (.slice (some ⟨s, o, none⟩) l.length cap)).put (some 17) (.int .i64 ((k : Nat) : Int))).put (some 18) (.pointer (some ⟨s, o + k * 2, none⟩))).put (some 19) (.pointer (some ⟨s, o + k * 2, none⟩))).put (some 20) (.int .i64 xa)).put (some 21) (.bool true)).put (some 22) (.bool true)).put (some 23) (.agg #[.int .i64 ((N : Nat) : Int), .slice x2 y2 z2])).put (some 24) (.slice (some ⟨s, o, none⟩) l.length cap)).put (some 25) (.int .i64 ((k : Nat) : Int))).put (some 26) (.pointer (some ⟨s, o + k * 2, none⟩))).put (some 27) (.pointer (some ⟨s, o + k * 2 + 1, none⟩))).put (some 28) (.int .i64 xb)) (.tmp 23) = .agg #[.int .i64 ((N : Nat) : Int), .slice x2 y2 z2] := by rw [Act.eval_put_ne _ _ _ _ (by decide), Act.eval_put_ne _ _ _ _ (by decide), Act.eval_put_ne _ _ _ _ (by decide), Act.eval_put_ne _ _ _ _ (by decide), Act.eval_put_ne _ _ _ _ (by decide), Act.eval_put_same _ _ _ (by (repeat rw [Act.size_put]); omega)]
            have e28 : Act.eval ((((((((((((((a0.put (some 15) (.agg #[.int .i64 ((N : Nat) : Int), .slice x2 y2 z2])).put (some 16) (.slice (some ⟨s, o, none⟩) l.length cap)).put (some 17) (.int .i64 ((k : Nat) : Int))).put (some 18) (.pointer (some ⟨s, o + k * 2, none⟩))).put (some 19) (.pointer (some ⟨s, o + k * 2, none⟩))).put (some 20) (.int .i64 xa)).put (some 21) (.bool true)).put (some 22) (.bool true)).put (some 23) (.agg #[.int .i64 ((N : Nat) : Int), .slice x2 y2 z2])).put (some 24) (.slice (some ⟨s, o, none⟩) l.length cap)).put (some 25) (.int .i64 ((k : Nat) : Int))).put (some 26) (.pointer (some ⟨s, o + k * 2, none⟩))).put (some 27) (.pointer (some ⟨s, o + k * 2 + 1, none⟩))).put (some 28) (.int .i64 xb)) (.tmp 28) = .int .i64 xb := by rw [Act.eval_put_same _ _ _ (by (repeat rw [Act.size_put]); omega)]
            have ec : ∀ v, Act.eval ((((((((((((((a0.put (some 15) (.agg #[.int .i64 ((N : Nat) : Int), .slice x2 y2 z2])).put (some 16) (.slice (some ⟨s, o, none⟩) l.length cap)).put (some 17) (.int .i64 ((k : Nat) : Int))).put (some 18) (.pointer (some ⟨s, o + k * 2, none⟩))).put (some 19) (.pointer (some ⟨s, o + k * 2, none⟩))).put (some 20) (.int .i64 xa)).put (some 21) (.bool true)).put (some 22) (.bool true)).put (some 23) (.agg #[.int .i64 ((N : Nat) : Int), .slice x2 y2 z2])).put (some 24) (.slice (some ⟨s, o, none⟩) l.length cap)).put (some 25) (.int .i64 ((k : Nat) : Int))).put (some 26) (.pointer (some ⟨s, o + k * 2, none⟩))).put (some 27) (.pointer (some ⟨s, o + k * 2 + 1, none⟩))).put (some 28) (.int .i64 xb)) (.const v) = v := fun _ => rfl
            have ef : ∀ f, Act.eval ((((((((((((((a0.put (some 15) (.agg #[.int .i64 ((N : Nat) : Int), .slice x2 y2 z2])).put (some 16) (.slice (some ⟨s, o, none⟩) l.length cap)).put (some 17) (.int .i64 ((k : Nat) : Int))).put (some 18) (.pointer (some ⟨s, o + k * 2, none⟩))).put (some 19) (.pointer (some ⟨s, o + k * 2, none⟩))).put (some 20) (.int .i64 xa)).put (some 21) (.bool true)).put (some 22) (.bool true)).put (some 23) (.agg #[.int .i64 ((N : Nat) : Int), .slice x2 y2 z2])).put (some 24) (.slice (some ⟨s, o, none⟩) l.length cap)).put (some 25) (.int .i64 ((k : Nat) : Int))).put (some 26) (.pointer (some ⟨s, o + k * 2, none⟩))).put (some 27) (.pointer (some ⟨s, o + k * 2 + 1, none⟩))).put (some 28) (.int .i64 xb)) (.func f) = .func (.func f) #[] #[] := fun _ => rfl
            generalize Act.eval ((((((((((((((a0.put (some 15) (.agg #[.int .i64 ((N : Nat) : Int), .slice x2 y2 z2])).put (some 16) (.slice (some ⟨s, o, none⟩) l.length cap)).put (some 17) (.int .i64 ((k : Nat) : Int))).put (some 18) (.pointer (some ⟨s, o + k * 2, none⟩))).put (some 19) (.pointer (some ⟨s, o + k * 2, none⟩))).put (some 20) (.int .i64 xa)).put (some 21) (.bool true)).put (some 22) (.bool true)).put (some 23) (.agg #[.int .i64 ((N : Nat) : Int), .slice x2 y2 z2])).put (some 24) (.slice (some ⟨s, o, none⟩) l.length cap)).put (some 25) (.int .i64 ((k : Nat) : Int))).put (some 26) (.pointer (some ⟨s, o + k * 2, none⟩))).put (some 27) (.pointer (some ⟨s, o + k * 2 + 1, none⟩))).put (some 28) (.int .i64 xb)) = ρ at *
            simp only [List.getElem_toArray, List.getElem_cons_zero, List.getElem_cons_succ]
            go_simp
          refine (refinT true N x2 y2 z2 xb _ hb).mono ?_
          rintro e w6 ⟨rfl, hB6⟩
          have hA6 := hA5.step hB6
          refine ⟨_, rfl, ⟨_, hA6⟩, ?_⟩
          clear hS
          have hS : ∃ F', MkAt w w6 1 [(0, #[.int .i64 0, .slice none 0 0])] B N (.slice x2 y2 z2) rbw F' := ⟨_, hA6⟩
          refine anyS_take (i := 15) (d := some 30) (v := .bool true) hS rfl rfl (by kernel_rfl) (by kernel_rfl) (by kernel_rfl) (fun _ _ _ h => h) (by rfl) ?_ ?_
          · intro w9 hSw
            have e22 : Act.eval (((((((((((((((a0.put (some 15) (.agg #[.int .i64 ((N : Nat) : Int), .slice x2 y2 z2])).put (some 16) (.slice (some ⟨s, o, none⟩) l.length cap)).put (some 17) (.int .i64 ((k : Nat) : Int))).put (some 18) (.pointer (some ⟨s, o + k * 2, none⟩))).put (some 19) (.pointer (some ⟨s, o + k * 2, none⟩))).put (some 20) (.int .i64 xa)).put (some 21) (.bool true)).put (some 22) (.bool true)).put (some 23) (.agg #[.int .i64 ((N : Nat) : Int), .slice x2 y2 z2])).put (some 24) (.slice (some ⟨s, o, none⟩) l.length cap)).put (some 25) (.int .i64 ((k : Nat) : Int))).put (some 26) (.pointer (some ⟨s, o + k * 2, none⟩))).put (some 27) (.pointer (some ⟨s, o + k * 2 + 1, none⟩))).put (some 28) (.int .i64 xb)).put (some 29) (.bool true)) (.tmp 22) = .bool true := by rw [Act.eval_put_ne _ _ _ _ (by decide), Act.eval_put_ne _ _ _ _ (by decide), Act.eval_put_ne _ _ _ _ (by decide), Act.eval_put_ne _ _ _ _ (by decide), Act.eval_put_ne _ _ _ _ (by decide), Act.eval_put_ne _ _ _ _ (by decide), Act.eval_put_ne _ _ _ _ (by decide), Act.eval_put_same _ _ _ (by (repeat rw [Act.size_put]); omega)]
            have e29 : Act.eval (((((((((((((((a0.put (some 15) (.agg #[.int .i64 ((N : Nat) : Int), .slice x2 y2 z2])).put (some 16) (.slice (some ⟨s, o, none⟩) l.length cap)).put (some 17) (.int .i64 ((k : Nat) : Int))).put (some 18) (.pointer (some ⟨s, o + k * 2, none⟩))).put (some 19) (.pointer (some ⟨s, o + k * 2, none⟩))).put (some 20) (.int .i64 xa)).put (some 21) (.bool true)).put (some 22) (.bool true)).put (some 23) (.agg #[.int .i64 ((N : Nat) : Int), .slice x2 y2 z2])).put (some 24) (.slice (some ⟨s, o, none⟩) l.length cap)).put (some 25) (.int .i64 ((k : Nat) : Int))).put (some 26) (.pointer (some ⟨s, o + k * 2, none⟩))).put (some 27) (.pointer (some ⟨s, o + k * 2 + 1, none⟩))).put (some 28) (.int .i64 xb)).put (some 29) (.bool true)) (.tmp 29) = .bool true := by rw [Act.eval_put_same _ _ _ (by (repeat rw [Act.size_put]); omega)]
            have ec : ∀ v, Act.eval (((((((((((((((a0.put (some 15) (.agg #[.int .i64 ((N : Nat) : Int), .slice x2 y2 z2])).put (some 16) (.slice (some ⟨s, o, none⟩) l.length cap)).put (some 17) (.int .i64 ((k : Nat) : Int))).put (some 18) (.pointer (some ⟨s, o + k * 2, none⟩))).put (some 19) (.pointer (some ⟨s, o + k * 2, none⟩))).put (some 20) (.int .i64 xa)).put (some 21) (.bool true)).put (some 22) (.bool true)).put (some 23) (.agg #[.int .i64 ((N : Nat) : Int), .slice x2 y2 z2])).put (some 24) (.slice (some ⟨s, o, none⟩) l.length cap)).put (some 25) (.int .i64 ((k : Nat) : Int))).put (some 26) (.pointer (some ⟨s, o + k * 2, none⟩))).put (some 27) (.pointer (some ⟨s, o + k * 2 + 1, none⟩))).put (some 28) (.int .i64 xb)).put (some 29) (.bool true)) (.const v) = v := fun _ => rfl
            have ef : ∀ f, Act.eval (((((((((((((((a0.put (some 15) (.agg #[.int .i64 ((N : Nat) : Int), .slice x2 y2 z2])).put (some 16) (.slice (some ⟨s, o, none⟩) l.length cap)).put (some 17) (.int .i64 ((k : Nat) : Int))).put (some 18) (.pointer (some ⟨s, o + k * 2, none⟩))).put (some 19) (.pointer (some ⟨s, o + k * 2, none⟩))).put (some 20) (.int .i64 xa)).put (some 21) (.bool true)).put (some 22) (.bool true)).put (some 23) (.agg #[.int .i64 ((N : Nat) : Int), .slice x2 y2 z2])).put (some 24) (.slice (some ⟨s, o, none⟩) l.length cap)).put (some 25) (.int .i64 ((k : Nat) : Int))).put (some 26) (.pointer (some ⟨s, o + k * 2, none⟩))).put (some 27) (.pointer (some ⟨s, o + k * 2 + 1, none⟩))).put (some 28) (.int .i64 xb)).put (some 29) (.bool true)) (.func f) = .func (.func f) #[] #[] := fun _ => rfl
            generalize Act.eval (((((((((((((((a0.put (some 15) (.agg #[.int .i64 ((N : Nat) : Int), .slice x2 y2 z2])).put (some 16) (.slice (some ⟨s, o, none⟩) l.length cap)).put (some 17) (.int .i64 ((k : Nat) : Int))).put (some 18) (.pointer (some ⟨s, o + k * 2, none⟩))).put (some 19) (.pointer (some ⟨s, o + k * 2, none⟩))).put (some 20) (.int .i64 xa)).put (some 21) (.bool true)).put (some 22) (.bool true)).put (some 23) (.agg #[.int .i64 ((N : Nat) : Int), .slice x2 y2 z2])).put (some 24) (.slice (some ⟨s, o, none⟩) l.length cap)).put (some 25) (.int .i64 ((k : Nat) : Int))).put (some 26) (.pointer (some ⟨s, o + k * 2, none⟩))).put (some 27) (.pointer (some ⟨s, o + k * 2 + 1, none⟩))).put (some 28) (.int .i64 xb)).put (some 29) (.bool true)) = ρ at *
            simp only [List.getElem_toArray, List.getElem_cons_zero, List.getElem_cons_succ]
            clear hSw
            go_simp
          refine wpAnyH_done (by kernel_rfl) ?_ _
          subst hA0
          simp only [Act.put, List.setIfInBounds_toArray, List.set_cons_zero, List.set_cons_succ]
          clear hS
          have hA7 := hA6
          clear hA5 hA6 hB5 hB6
          have hpa := (hPA.below hA7.below).fst k _ hx
          have hpb := (hPA.below hA7.below).snd k _ hx
          dsimp only at hpa hpb
          obtain ⟨pa, rfl⟩ : ∃ pa : Nat, xa = ((pa : Nat) : Int) := ⟨xa.toNat, by unfold inR at ha; simp at ha; omega⟩
          obtain ⟨pb, rfl⟩ : ∃ pb : Nat, xb = ((pb : Nat) : Int) := ⟨xb.toNat, by unfold inR at hb; simp at hb; omega⟩
          have hpaN : pa < N := by unfold inR at ha; simp at ha; omega
          have hpbN : pb < N := by unfold inR at hb; simp at hb; omega
          have d1 := hA7.box.cell (j := 1) rfl
          obtain ⟨g2, cap2, e2, _, _, n2, s0, s1, fz, q3⟩ := hA7.ref.at_ (p := pa) (q := pb) hpaN hpbN
          cases e2
          have hA8 := hA7.drew.put (p := pa) (q := pb) hpaN hpbN true
          rw [show upd (ofFn N (l.take k)) pa pb true = ofFn N (l.take (k + 1)) from HE2.out] at hA8
          clear hx ha hb
          go_wp2_with fail
          go_region
          all_goals
            go_wp2_with fail
            refine ⟨⟨k + 1, by omega, by go_num, hA8⟩, by simp [intOf]; omega⟩
    · have e : l.length = k := by omega
      rw [← e, List.take_length] at hA
      subst e
      clear hPA
      have b0 := hA.box.cell (j := 0) rfl
      have b1 := hA.box.cell (j := 1) rfl
      have hr := hA.fst
      rw [Nat.add_zero] at hr
      have d0 := hr.cell (j := 0) rfl
      have d1 := hr.cell (j := 1) rfl
      have f0 := hr.frozen 0
      have f1 := hr.frozen 1
      go_wp2_with fail
      have hres := (hr.set 0 (.int .i64 ((N : Nat) : Int))).set 1 (.slice x2 y2 z2)
      simp only [List.setIfInBounds_toArray, List.set_cons_zero, List.set_cons_succ] at hres
      (try simp only [Exit.inBlock, Exit.then])
      refine bodyPost_ret (ret_ref rfl rfl hres) rfl ?_
      obtain ⟨hA1, hB1⟩ := hA.answer (r := 0) (by omega)
      rw [Nat.add_zero] at hA1 hB1
      first | exact ⟨_, rbw, rfl, hA1, hB1⟩ | exact ⟨_, rfl, ⟨rbw, hA1⟩, hB1⟩
theorem refOf_calls (n : Int) (v : Value) (l : List (Int × Int)) (w : World) (h : PArg w v l) :
    Calls Tryd.prog 22 #[.int .i64 n, v] w fun e w' => ∃ M rb', e = .returned (.agg #[.int .i64 ((clampN n : Nat) : Int), M]) ∧ RefM w.heap.size w' M (clampN n) (clampN n) rb' (ofFn (clampN n) l) ∧ Below w.heap.size w w' := by
  rcases h with ⟨x, cap, rfl, rfl⟩ | ⟨s, o, cap, rfl, h2, h3⟩
  · exact refOf_none n x cap w _ rfl
  · exact refOf_some n s o cap l w h2 h3 _ rfl
end Go.Proofs.YtmmgdeoballhpaaDoor
/- Of RefInv, what this seat can build. -/
namespace Go.Proofs.YtmmgdeoballhpaaDoor
open Go.RowKit Go.Shelf Sx

theorem fillF_putT (G F0 : Nat → Nat → Bool) {m a b : Nat} : upd (fun x y => fillF G F0 m a b y x) b a (G a b) = fun x y => fillF G F0 m a (b + 1) y x := by
  funext x y
  have := congrFun (congrFun (fillF_put G F0 (m := m) (a := a) (b := b)) y) x
  rw [← this]
  unfold upd
  by_cases h : x = b ∧ y = a
  · rw [if_pos h, if_pos ⟨h.2, h.1⟩]
  · rw [if_neg h, if_neg (fun k => h ⟨k.2, k.1⟩)]
theorem fillF_full {G F0 : Nat → Nat → Bool} {m k x y : Nat} (hx : x < k) (hy : y < m) : fillF G F0 m k 0 x y = G x y := by
  unfold fillF
  rw [if_pos (Or.inl ⟨hx, hy⟩)]
end Go.Proofs.YtmmgdeoballhpaaDoor
/- Of RefUnion, what this seat can build. -/
namespace Go.Proofs.YtmmgdeoballhpaaDoor
open Go.RowKit Go.Shelf Sx

def extF (n : Nat) (F : Nat → Nat → Bool) : Nat → Nat → Bool := fun p q => decide (p < n) && (decide (q < n) && F p q)
theorem fill_ext (n : Nat) (F : Nat → Nat → Bool) (p q : Nat) : fillF F (fun _ _ => false) n n 0 p q = extF n F p q := by
  unfold fillF extF
  by_cases h1 : p < n
  · by_cases h2 : q < n
    · rw [if_pos (by omega)]; simp [h1, h2]
    · rw [if_neg (by omega)]; simp [h2]
  · rw [if_neg (by omega)]; simp [h1]
theorem fill_union (n m : Nat) (F G : Nat → Nat → Bool) (p q : Nat) : fillF (fun p q => extF n F p q || G p q) (extF n F) m m 0 p q = (extF n F p q || extF m G p q) := by
  unfold fillF
  by_cases h1 : p < m
  · by_cases h2 : q < m
    · rw [if_pos (by omega)]
      have : extF m G p q = G p q := by unfold extF; simp [h1, h2]
      rw [this]
    · rw [if_neg (by omega)]
      have : extF m G p q = false := by unfold extF; simp [h2]
      rw [this, Bool.or_false]
  · rw [if_neg (by omega)]
    have : extF m G p q = false := by unfold extF; simp [h1]
    rw [this, Bool.or_false]
end Go.Proofs.YtmmgdeoballhpaaDoor
