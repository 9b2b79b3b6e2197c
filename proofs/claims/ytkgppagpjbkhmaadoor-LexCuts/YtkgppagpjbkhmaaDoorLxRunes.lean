/- The contracts of the reference's Runes, letter, digit, words, IsWord. -/
import Derived.Test.YtkgppagpjbkhmaaDoorLxRune
namespace Go.Proofs.YtkgppagpjbkhmaaDoor
open Go.RowKit Go.Shelf

structure Rn where
  r : Int
  at_ : Nat
  n : Nat
  line : Nat
  col : Nat
def rnC (x : Rn) : Array Value := #[.int .i64 x.r, .int .i64 ((x.at_ : Nat) : Int), .int .i64 ((x.n : Nat) : Int), .int .i64 ((x.line : Nat) : Int), .int .i64 ((x.col : Nat) : Int)]
def encR (l : List Rn) : List Value := l.flatMap (fun x => (rnC x).toList)
theorem encR_snoc (l : List Rn) (x : Rn) : encR (l ++ [x]) = encR l ++ (rnC x).toList := by simp [encR]
def runesK (s : ByteArray) : Nat → Nat → Nat → Nat → List Rn
  | 0, _, l, k => [⟨0, s.size, 0, l, k⟩]
  | f + 1, pos, l, k => if pos < s.size then ⟨runeI s pos, pos, (Utf8.decode s pos).2, l, k⟩ :: runesK s f (pos + (Utf8.decode s pos).2) (if runeI s pos = 10 then l + 1 else l) (if runeI s pos = 10 then 1 else k + 1) else [⟨0, s.size, 0, l, k⟩]
def runesA (s : ByteArray) : List Rn := runesK s s.size 0 1 1
theorem runesK_end {s : ByteArray} {f pos l k : Nat} (h : ¬ pos < s.size) : runesK s f pos l k = [⟨0, s.size, 0, l, k⟩] := by
  cases f with
  | zero => rfl
  | succ f => simp [runesK, h]
theorem Tryd.inforune : (Tryd.prog.info? 52).map (fun i => (i.zero, i.size, i.bytes)) = some (some (.agg #[.int .i64 0, .int .i64 0, .int .i64 0, .int .i64 0, .int .i64 0]), 5, 40) := by kernel_rfl
theorem make_runes (w : World) : (Instr.makeSlice 49 (.int .i64 0) (.int .i64 0)).run Tryd.prog w = .ok (.slice (some ⟨w.heap.size, 0, none⟩) 0 0) (w.alloc (.cells #[] 52)) := by
  obtain ⟨i, hx, hz, hs, hb⟩ := info_parts Tryd.inforune
  have := run_make (P := Tryd.prog) w 49 52 i _ Tryd.underlying49 hx hz .i64 .i64 0 0 (by omega) (by omega) (by rw [hb]; omega) (by omega)
  rw [this, hs]
  have e : madeCells (Value.agg #[.int .i64 0, .int .i64 0, .int .i64 0, .int .i64 0, .int .i64 0]).cells ((0 : Int).toNat * 5) = #[] := Array.eq_empty_of_size_eq_zero (by rw [size_madeCells]; rfl)
  rw [e]
  rfl
structure RuAt (w W : World) (v : Value) (acc : List Rn) : Prop where
  own : W.ownsRow w.heap.size 52 5 v acc.length (encR acc)
  below : Below w.heap.size w W
theorem RuAt.more {w W W' : World} {v v' : Value} {acc : List Rn} {x : Rn} {o : Obj} (h : RuAt w W v acc) (hown : W'.ownsRow w.heap.size 52 5 v' (acc.length + 1) (encR acc ++ (rnC x).toList)) (hg : (W.alloc o).grownBy W' v.ownBlock) : RuAt w W' v' (acc ++ [x]) := by
  refine ⟨?_, (h.below.alloc h.below.size _).grown hg (by simp; have := h.below.size; omega) (fun k e => (h.own.lt k e).1)⟩
  rw [encR_snoc, List.length_append]
  exact hown
theorem news_rn (w : World) (x : Rn) : ∀ j u, (rnC x).toList[j]? = some u → (w.alloc (.cells (rnC x) 52)).cell? ((⟨w.heap.size, 0, none⟩ : Addr).add j) = some u := by
  intro j u hj
  rw [Addr.add_lit, Nat.zero_add]
  exact (Blk.new w 52 (rnC x)).cell (by simpa using hj)
theorem all_rn (x : Rn) : ∀ u ∈ (rnC x).toList, u.oneCell' = true := by simp [rnC, Value.oneCell']
set_option maxRecDepth 100000 in
set_option maxHeartbeats 8000000 in
theorem Runes_calls (v : Value) (s : ByteArray) (w : World) (hv : BytesR w v s) (hs : s.size ≤ 1099511627776) :
    Calls Tryd.prog 21 #[v] w fun e w' => ∃ v', e = .returned v' ∧ w'.ownsRow w.heap.size 52 5 v' (runesA s).length (encR (runesA s)) ∧ Below w.heap.size w w' := by
  obtain ⟨i0, hi, hz0, hz1, hz2⟩ := info_parts Tryd.inforune
  have hmk := make_runes w
  have hA : RuAt w (w.alloc (.cells #[] 52)) (.slice (some ⟨w.heap.size, 0, none⟩) 0 0) [] :=
    ⟨⟨rfl, .inr ⟨w.heap.size, 0, #[], rfl, Nat.le_refl _, Blk.new w _ _, Nat.le_refl _, by unfold maxLen; omega, rfl, rfl⟩⟩, (Below.refl _ _).alloc (Nat.le_refl _) _⟩
  obtain ⟨x, cap, rfl⟩ := hv.form
  have HA := hid_of hA
  clear hA
  go_enter Tryd.func21, Tryd.ntmps21
  go_wp2_with fail
  clear hmk
  go_loopw [3, 4, 5, 6] (fun vl ln cl i wr => ∃ (pos f l k : Nat) (acc : List Rn), pos ≤ s.size ∧ i = .int .i64 ((pos : Nat) : Int) ∧ ln = .int .i64 ((l : Nat) : Int) ∧ cl = .int .i64 ((k : Nat) : Int) ∧ RuAt w wr vl acc ∧ Hid (runesA s = acc ++ runesK s f pos l k) ∧ s.size ≤ pos + f ∧ l ≤ pos + 1 ∧ k ≤ pos + 1 ∧ acc.length ≤ pos) (fun _ _ _ i _ => s.size - (intOf i).toNat)
  case atStart => exact ⟨0, s.size, 1, 1, [], by omega, rfl, rfl, rfl, HA.out, rfl, by omega, by omega, by omega, by simp⟩
  case round =>
    clear HA
    obtain ⟨pos, f, l, k, acc, hps, rfl, rfl, rfl, hA, HR, hf, hl, hk, hacc⟩ := hrel
    by_cases hp : pos < s.size
    · have t1 : ((pos : Nat) : Int) < ((s.size : Nat) : Int) := by omega
      obtain ⟨f', rfl⟩ : ∃ f', f = f' + 1 := ⟨f - 1, by omega⟩
      have HR2 : Hid (runesK s (f' + 1) pos l k = _) := if_pos hp
      have hr0 := rune0_calls _ s pos wr (hv.below hA.below) hp (by omega)
      rw [refF_eq] at hr0
      have hwd := dec_pos s pos
      have hwl := dec_le s pos hp
      generalize runeI s pos = r at *
      generalize (Utf8.decode s pos).2 = n at *
      by_cases h10 : r = 10
      · rw [if_pos h10, if_pos h10] at HR2
        have t2 : (r == (10 : Int)) = true := by rw [beq_iff_eq]; exact h10
        have HE : Hid (runesA s = (acc ++ [⟨r, pos, n, l, k⟩]) ++ runesK s f' (pos + n) (l + 1) 1) := by rw [Hid, HR.out, HR2.out, List.append_assoc]; rfl
        clear h10 HR HR2
        go_wp2_with (first | (go_at_call 34; refine hr0.mono ?_; rintro e w' ⟨rfl, hw⟩; obtain rfl : wr = w' := hw.symm) | (at_builtin; refine wpList_append_own_at _ rfl _ _ 49 rfl w.heap.size 52 i0 (.agg #[.int .i64 0, .int .i64 0, .int .i64 0, .int .i64 0, .int .i64 0]) 5 40 Tryd.underlying49 hi hz0 hz1 hz2 rfl (by decide) _ acc.length (encR acc) rfl (hA.own.alloc _) ⟨_, 0, none⟩ 1 1 (rnC ⟨r, pos, n, l, k⟩).toList rfl rfl (news_rn wr ⟨r, pos, n, l, k⟩) (all_rn _) (by unfold maxLen; omega) (by omega) (by have := hA.below.size; simp; omega) ?_; intro v' w5 hown' hgrow _ _; have hA5 := hA.more (x := ⟨r, pos, n, l, k⟩) hown' hgrow))
        exact ⟨⟨pos + n, f', l + 1, 1, acc ++ [(⟨r, pos, n, l, k⟩ : Rn)], by omega, by go_num, by go_num, rfl, hA5, HE.out, by omega, by omega, by omega, by simp; omega⟩, by simp [intOf]; omega⟩
      · rw [if_neg h10, if_neg h10] at HR2
        have t2 : (r == (10 : Int)) = false := by rw [beq_eq_false_iff_ne]; exact h10
        have HE : Hid (runesA s = (acc ++ [⟨r, pos, n, l, k⟩]) ++ runesK s f' (pos + n) l (k + 1)) := by rw [Hid, HR.out, HR2.out, List.append_assoc]; rfl
        clear h10 HR HR2
        go_wp2_with (first | (go_at_call 34; refine hr0.mono ?_; rintro e w' ⟨rfl, hw⟩; obtain rfl : wr = w' := hw.symm) | (at_builtin; refine wpList_append_own_at _ rfl _ _ 49 rfl w.heap.size 52 i0 (.agg #[.int .i64 0, .int .i64 0, .int .i64 0, .int .i64 0, .int .i64 0]) 5 40 Tryd.underlying49 hi hz0 hz1 hz2 rfl (by decide) _ acc.length (encR acc) rfl (hA.own.alloc _) ⟨_, 0, none⟩ 1 1 (rnC ⟨r, pos, n, l, k⟩).toList rfl rfl (news_rn wr ⟨r, pos, n, l, k⟩) (all_rn _) (by unfold maxLen; omega) (by omega) (by have := hA.below.size; simp; omega) ?_; intro v' w5 hown' hgrow _ _; have hA5 := hA.more (x := ⟨r, pos, n, l, k⟩) hown' hgrow))
        exact ⟨⟨pos + n, f', l, k + 1, acc ++ [(⟨r, pos, n, l, k⟩ : Rn)], by omega, by go_num, rfl, by go_num, hA5, HE.out, by omega, by omega, by omega, by simp; omega⟩, by simp [intOf]; omega⟩
    · have t1 : ¬ ((pos : Nat) : Int) < ((s.size : Nat) : Int) := by omega
      have HE : Hid (runesA s = acc ++ [⟨0, s.size, 0, l, k⟩]) := by rw [Hid, HR.out, runesK_end hp]
      go_wp2_with (at_builtin; refine wpList_append_own_at _ rfl _ _ 49 rfl w.heap.size 52 i0 (.agg #[.int .i64 0, .int .i64 0, .int .i64 0, .int .i64 0, .int .i64 0]) 5 40 Tryd.underlying49 hi hz0 hz1 hz2 rfl (by decide) _ acc.length (encR acc) rfl (hA.own.alloc _) ⟨_, 0, none⟩ 1 1 (rnC ⟨0, s.size, 0, l, k⟩).toList rfl rfl (news_rn wr ⟨0, s.size, 0, l, k⟩) (all_rn _) (by unfold maxLen; omega) (by omega) (by have := hA.below.size; simp; omega) ?_; intro v' w5 hown' hgrow _ _; have hA5 := hA.more (x := ⟨0, s.size, 0, l, k⟩) hown' hgrow)
      go_ret
      refine ⟨_, rfl, ?_, hA5.below⟩
      rw [HE.out]
      exact hA5.own
def letterRB (x : Rn) : Bool := decide (0 < x.n) && ((decide (97 ≤ x.r) && decide (x.r ≤ 122)) || (decide (65 ≤ x.r) && decide (x.r ≤ 90)) || decide (x.r = 95) || (decide (945 ≤ x.r) && decide (x.r ≤ 969)))
def digitRB (x : Rn) : Bool := decide (0 < x.n) && (decide (48 ≤ x.r) && decide (x.r ≤ 57))
set_option maxHeartbeats 2000000 in
theorem rDigit_calls (x : Rn) (w : World) : Calls Tryd.prog 25 #[.agg (rnC x)] w fun e w' => e = .returned (.bool (digitRB x)) ∧ Below w.heap.size w w' := by
  have hB : Hid (∀ o, Below w.heap.size w (w.alloc o)) := fun o => (Below.refl w.heap.size w).alloc (Nat.le_refl _) o
  obtain ⟨r, a, n, l, k⟩ := x
  have HD : Hid (∀ r : Int, digitRB ⟨r, a, n, l, k⟩ = (decide (0 < n) && (decide (48 ≤ r) && decide (r ≤ 57)))) := fun _ => rfl
  unfold rnC
  simp only []
  go_enter Tryd.func25, Tryd.ntmps25
  go_wp2
  all_goals
    go_ret
    refine ⟨ret_bool ?_, hB.out _⟩
    rw [HD.out, Bool.eq_iff_iff]
    first | (simp; done) | (simp; omega)
set_option maxHeartbeats 4000000 in
theorem rLetter_calls (x : Rn) (w : World) : Calls Tryd.prog 27 #[.agg (rnC x)] w fun e w' => e = .returned (.bool (letterRB x)) ∧ Below w.heap.size w w' := by
  have hB : Hid (∀ o, Below w.heap.size w (w.alloc o)) := fun o => (Below.refl w.heap.size w).alloc (Nat.le_refl _) o
  obtain ⟨r, a, n, l, k⟩ := x
  have HD : Hid (∀ r : Int, letterRB ⟨r, a, n, l, k⟩ = (decide (0 < n) && ((decide (97 ≤ r) && decide (r ≤ 122)) || (decide (65 ≤ r) && decide (r ≤ 90)) || decide (r = 95) || (decide (945 ≤ r) && decide (r ≤ 969))))) := fun _ => rfl
  unfold rnC
  simp only []
  go_enter Tryd.func27, Tryd.ntmps27
  go_wp2
  all_goals
    go_ret
    refine ⟨ret_bool ?_, hB.out _⟩
    rw [HD.out, Bool.eq_iff_iff]
    first | (simp; done) | (simp; omega)
end Go.Proofs.YtkgppagpjbkhmaaDoor
