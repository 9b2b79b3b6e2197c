/- The contracts of what a look compares and tells, in the run of one goroutine. -/
import Derived.Test.YtecolbdnaipgdaaSnapLook
import Derived.Laws.MakeOwn
import Derived.Lib.Builder
namespace Go.Proofs.Ytecolbdnaipgdaa
open Go.RowKit

/-- A list of pointers in memory. -/
def PtrsAt (w : World) (v : Value) (l : List (Option Addr)) : Prop := (v = .slice none 0 0 ∧ l = []) ∨ ∃ g cap, v = .slice (some ⟨g, 0, none⟩) l.length cap ∧ g < w.heap.size ∧ ∀ (i : Nat) (p : Option Addr), l[i]? = some p → w.cell? ⟨g, i, none⟩ = some (.pointer p)
theorem PtrsAt.below {w w' : World} {v : Value} {l : List (Option Addr)} (h : PtrsAt w v l) (hb : Below w.heap.size w w') : PtrsAt w' v l := by
  rcases h with h | ⟨g, cap, h1, h2, h3⟩
  · exact .inl h
  · exact .inr ⟨g, cap, h1, Nat.lt_of_lt_of_le h2 hb.size, fun i p hp => (hb.cell (p := ⟨g, i, none⟩) h2).trans (h3 i p hp)⟩
theorem owns_ptrs {w : World} {base : Nat} {v : Value} {l : List (Option Addr)} (h : w.ownsRow base 47 1 v l.length (l.map Value.pointer)) : PtrsAt w v l := by
  rcases h.2 with ⟨e, e2⟩ | ⟨g, cap, cur, e, _, hb, _, _, _, ht⟩
  · exact .inl ⟨e, List.eq_nil_of_length_eq_zero e2⟩
  · have hb : Blk w g 47 cur := hb
    refine .inr ⟨g, cap, e, hb.lt, fun i p hp => hb.cell ?_⟩
    have h3 : (cur.toList.take (l.length * 1))[i]? = some (.pointer p) := by rw [ht]; simp [hp]
    rw [List.getElem?_take] at h3
    split at h3
    · rw [← Array.getElem?_toList]; exact h3
    · cases h3
theorem ptr_neq_same (q : Option Addr) (w : World) : (binOp .neq 47 (.pointer q) (.pointer q)).run Try.prog w = .ok (.bool false) w := by
  obtain ⟨j, hj, _⟩ := Option.map_eq_some_iff.1 infoRecord
  cases q with
  | none =>
    have h : ∀ d : Nat, (Op.equalIn (d + 1) 47 (.pointer none) (.pointer none)).run Try.prog w = .ok true w := fun d => by
      simp [Op.equalIn, run_underlying Try.underlying47]
    simp only [binOp]
    simp [Op.equal, Op.maxDepth, h 9999]
  | some a => exact Lib.run_neq_ptr_same w a Try.underlying47 hj
set_option maxRecDepth 100000 in
set_option maxHeartbeats 2000000 in
theorem slEqualRec_calls (v1 v2 : Value) (l : List (Option Addr)) (w : World) (h1 : PtrsAt w v1 l) (h2 : PtrsAt w v2 l) (hl : l.length ≤ 16) :
    Calls Try.prog 46 #[v1, v2] w fun e w' => e = .returned (.bool true) ∧ Below w.heap.size w w' := by
  have n1 : ∃ p1 c1, v1 = .slice p1 l.length c1 := by
    rcases h1 with ⟨rfl, rfl⟩ | ⟨g, cap, rfl, _⟩
    · exact ⟨_, _, rfl⟩
    · exact ⟨_, _, rfl⟩
  have n2 : ∃ p1 c1, v2 = .slice p1 l.length c1 := by
    rcases h2 with ⟨rfl, rfl⟩ | ⟨g, cap, rfl, _⟩
    · exact ⟨_, _, rfl⟩
    · exact ⟨_, _, rfl⟩
  obtain ⟨p1, c1, rfl⟩ := n1
  obtain ⟨p2, c2, rfl⟩ := n2
  go_enter Try.func46, Try.ntmps46
  go_wp2_with fail
  go_loopw [13] (fun i wr => ∃ k : Nat, k ≤ l.length ∧ i = .int .i64 ((k : Nat) : Int) ∧ Below w.heap.size w wr) (fun i _ => l.length - (intOf i).toNat)
  case atStart => exact ⟨0, by omega, rfl, Below.refl _ _⟩
  case round =>
    obtain ⟨k, hk, rfl, hB⟩ := hrel
    by_cases hlt : k < l.length
    · obtain ⟨q, hq⟩ : ∃ q, l[k]? = some q := ⟨_, List.getElem?_eq_getElem hlt⟩
      have k1 := h1.below hB
      have k2 := h2.below hB
      rcases k1 with ⟨_, e⟩ | ⟨g1, cq1, e1, _, k1⟩
      · rw [e] at hlt; simp at hlt
      rcases k2 with ⟨_, e⟩ | ⟨g2, cq2, e2, _, k2⟩
      · rw [e] at hlt; simp at hlt
      injection e1 with e1 _ d1
      injection e2 with e2 _ d2
      subst e1; subst e2; subst d1; subst d2
      have q1 := k1 k q hq
      have q2 := k2 k q hq
      have bk0 : (0 : Int) ≤ ((k : Nat) : Int) := by omega
      have bk1 : ((k : Nat) : Int) < ((l.length : Nat) : Int) := by omega
      have hnq := ptr_neq_same q
      clear k1 k2 h1 h2 hq
      go_wp2_with fail
      go_quiet (fail)
      go_wp2_with fail
      refine ⟨⟨k + 1, by omega, by go_num, below_drewN hB _⟩, by simp [intOf]; omega⟩
    · go_wp2_with fail
      go_ret
      exact ⟨rfl, hB⟩
def rowU (n : Nat) (f : Nat → Int) : Array Value := ((List.range n).map (fun i => Value.int .u64 (f i))).toArray
theorem rowU_at {n k : Nat} {f : Nat → Int} (h : k < n) : (rowU n f)[k]? = some (.int .u64 (f k)) := by simp [rowU, h]
theorem rowU_congr {n : Nat} {f g : Nat → Int} (h : ∀ i, i < n → f i = g i) : rowU n f = rowU n g := by
  unfold rowU
  congr 1
  exact List.map_congr_left fun i hi => by rw [h i (List.mem_range.1 hi)]
theorem rowU_set {n k : Nat} {f : Nat → Int} (v : Int) (h : k < n) : (rowU n f).setIfInBounds k (.int .u64 v) = rowU n (fun i => if i = k then v else f i) := by
  apply Array.ext_getElem?
  intro i
  rw [Array.getElem?_setIfInBounds]
  by_cases e : k = i
  · subst e
    rw [if_pos rfl, if_pos (by simp [rowU, h]), rowU_at h, if_pos rfl]
  · rw [if_neg e]
    by_cases hi : i < n
    · rw [rowU_at hi, rowU_at hi, if_neg (fun e' => e e'.symm)]
    · rw [Array.getElem?_eq_none (by simp [rowU]; omega), Array.getElem?_eq_none (by simp [rowU]; omega)]
theorem Try.infou64 : (Try.prog.info? 22).map (fun i => (i.zero, i.size, i.bytes)) = some (some (.int .u64 0), 1, 8) := by kernel_rfl
theorem info_parts' {o : Option TypeInfo} {z : Option Value} {s b : Nat} (h : o.map (fun i => (i.zero, i.size, i.bytes)) = some (z, s, b)) : ∃ i, o = some i ∧ i.zero = z ∧ i.size = s ∧ i.bytes = b := by
  cases o with
  | none => cases h
  | some i => simp at h; exact ⟨i, rfl, h.1, h.2.1, h.2.2⟩
theorem make_u64s (n : Nat) (h : n ≤ 256) (w : World) : (Instr.makeSlice 34 (.int .i64 n) (.int .i64 n)).run Try.prog w = .ok (.slice (some ⟨w.heap.size, 0, none⟩) n n) (w.alloc (.cells (rowU n (fun _ => 0)) 22)) := by
  obtain ⟨i, hx, hz, hs, hb⟩ := info_parts' Try.infou64
  have := run_make (P := Try.prog) w 34 22 i _ Try.underlying34 hx hz .i64 .i64 n n (by omega) (by omega) (by rw [hb]; omega) (by omega)
  rw [this, hs]
  have e : madeCells (Value.int .u64 0).cells ((n : Int).toNat * 1) = rowU n (fun _ => 0) := by
    apply Array.toList_inj.1
    rw [Int.toNat_natCast, Nat.mul_one, show (Value.int .u64 0).cells = #[.int .u64 0] from rfl, toList_madeCells_one]
    apply List.ext_getElem?
    intro k
    by_cases hk : k < n
    · simp [rowU, hk]
    · rw [List.getElem?_eq_none (by simp; omega), List.getElem?_eq_none (by simp [rowU]; omega)]
  rw [e]
  rfl
/-- What a pointer to a record tells. -/
def NumAt (w : World) (p : Option Addr) (n : Int) : Prop := (p = none ∧ n = 0) ∨ ∃ b s, p = some ⟨b, 0, none⟩ ∧ Blk w b 49 #[.int .u64 n, s]
theorem NumAt.below {w w' : World} {p : Option Addr} {n : Int} (h : NumAt w p n) (hb : Below w.heap.size w w') : NumAt w' p n := by
  rcases h with h | ⟨b, s, h1, h2⟩
  · exact .inl h
  · exact .inr ⟨b, s, h1, h2.of_below hb⟩
set_option maxRecDepth 100000 in
set_option maxHeartbeats 2000000 in
theorem numbers_calls (v : Value) (l : List (Option Addr)) (f : Nat → Int) (w : World) (h1 : PtrsAt w v l) (hl : l.length ≤ 16) (hn : ∀ i p, l[i]? = some p → NumAt w p (f i)) :
    Calls Try.prog 47 #[v] w fun e w' => ∃ g, e = .returned (.slice (some ⟨g, 0, none⟩) l.length l.length) ∧ w.heap.size ≤ g ∧ Blk w' g 22 (rowU l.length f) ∧ Below w.heap.size w w' := by
  have n1 : ∃ p1 c1, v = .slice p1 l.length c1 := by
    rcases h1 with ⟨rfl, rfl⟩ | ⟨g, cap, rfl, _⟩
    · exact ⟨_, _, rfl⟩
    · exact ⟨_, _, rfl⟩
  obtain ⟨p1, c1, rfl⟩ := n1
  have hmk := make_u64s l.length (by omega)
  go_enter Try.func47, Try.ntmps47
  go_wp2_with fail
  go_loopw [11] (fun i wr => ∃ k : Nat, k ≤ l.length ∧ i = .int .i64 ((k : Nat) : Int) ∧ Below w.heap.size w wr ∧ Blk wr w.heap.size 22 (rowU l.length (fun i => if i < k then f i else 0))) (fun i _ => l.length - (intOf i).toNat)
  case atStart => exact ⟨0, by omega, rfl, (Below.refl _ w).alloc (Nat.le_refl _) _, Blk.new w _ _⟩
  case round =>
    obtain ⟨k, hk, rfl, hB, hU⟩ := hrel
    by_cases hlt : k < l.length
    · obtain ⟨q, hq⟩ : ∃ q, l[k]? = some q := ⟨_, List.getElem?_eq_getElem hlt⟩
      have k1 := h1.below hB
      rcases k1 with ⟨_, e⟩ | ⟨g1, cq1, e1, _, k1⟩
      · rw [e] at hlt; simp at hlt
      injection e1 with e1 _ d1
      subst e1; subst d1
      have q1 := k1 k q hq
      have u0 := hU.cell (rowU_at hlt)
      have f0 := hU.frozen k
      rcases (hn k q hq).below hB with ⟨rfl, hf⟩ | ⟨rb, sv, rfl, hr⟩
      · clear k1 h1 hn hq
        go_wp2_with fail
        refine ⟨⟨k + 1, by omega, by go_num, hB, ?_⟩, by simp [intOf]; omega⟩
        rw [rowU_congr (g := fun i => if i < k then f i else 0) (fun i _ => ?_)]
        · exact hU
        · by_cases e : i = k
          · subst e; simp [hf]
          · by_cases e2 : i < k
            · rw [if_pos e2, if_pos (by omega)]
            · rw [if_neg e2, if_neg (by omega)]
      · have r0 := hr.cell (j := 0) rfl
        clear k1 h1 hn hq
        go_wp2_with fail
        refine ⟨⟨k + 1, by omega, by go_num, hB.setCell (by simp) _, ?_⟩, by simp [intOf]; omega⟩
        have h5 := hU.set k (.int .u64 (f k))
        rw [rowU_set _ hlt] at h5
        rw [rowU_congr (g := fun i => if i = k then f k else if i < k then f i else 0) (fun i _ => ?_)]
        · exact h5
        · by_cases e : i = k
          · subst e; simp
          · rw [if_neg e]
            by_cases e2 : i < k
            · rw [if_pos e2, if_pos (by omega)]
            · rw [if_neg e2, if_neg (by omega)]
    · obtain rfl : k = l.length := by omega
      go_wp2_with fail
      go_ret
      refine ⟨_, rfl, Nat.le_refl _, ?_, hB⟩
      rw [rowU_congr (g := fun i => if i < l.length then f i else 0) (fun i hi => by rw [if_pos hi])]
      exact hU
end Go.Proofs.Ytecolbdnaipgdaa
