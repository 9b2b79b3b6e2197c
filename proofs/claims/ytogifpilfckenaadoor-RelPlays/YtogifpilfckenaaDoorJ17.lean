/- The contract of the document's own far. -/
import Derived.Test.YtogifpilfckenaaDoorJ15
import Derived.Test.YtogifpilfckenaaDoorJ16
import Derived.Maps.AppendAt
import Derived.Test.YtogifpilfckenaaDoorJ13
import Derived.Test.YtogifpilfckenaaDoorJ08
import Derived.Test.YtogifpilfckenaaDoorImageWalk
namespace Go.Proofs.YtogifpilfckenaaDoor
open Go.RowKit Go.Shelf Sx

/-- What is told of each point behind n rounds. -/
def farFn (F : Nat → Nat → Bool) (N p : Nat) : Nat → Nat → Int
  | 0 => fun _ => -1
  | n + 1 => fun i => if farFn F N p n i < 0 then (if (List.range N).any (fun j => F i j && (if n = 0 then decide (j = p) else farFn F N p n j == ((n : Nat) : Int))) then ((n + 1 : Nat) : Int) else -1) else farFn F N p n i
def hit1 (F : Nat → Nat → Bool) (N p n j : Nat) : Bool := if n = 0 then decide (j = p) else farFn F N p n j == ((n : Nat) : Int)
def hitF (F : Nat → Nat → Bool) (N p n i : Nat) : Bool := (List.range N).any fun j => F i j && hit1 F N p n j
theorem farFn_succ (F : Nat → Nat → Bool) (N p n i : Nat) : farFn F N p (n + 1) i = if farFn F N p n i < 0 then (if hitF F N p n i then ((n + 1 : Nat) : Int) else -1) else farFn F N p n i := rfl
theorem farFn_le (F : Nat → Nat → Bool) (N p n i : Nat) : -1 ≤ farFn F N p n i ∧ farFn F N p n i ≤ ((n : Nat) : Int) := by
  induction n with
  | zero => exact ⟨by show (-1 : Int) ≤ -1; omega, by show (-1 : Int) ≤ 0; omega⟩
  | succ n ih =>
    rw [farFn_succ]
    split
    · split
      · exact ⟨by omega, by omega⟩
      · exact ⟨by omega, by omega⟩
    · exact ⟨ih.1, by omega⟩
theorem farFn_neg {F : Nat → Nat → Bool} {N p n i : Nat} (h : farFn F N p n i < 0) : farFn F N p n i = -1 := by
  have := (farFn_le F N p n i).1
  omega
/-- In the middle of round n + 1, ahead of point i. -/
def farMid (F : Nat → Nat → Bool) (N p n i : Nat) : Nat → Int := fun x => if x < i then farFn F N p (n + 1) x else farFn F N p n x
theorem farMid_hit (F : Nat → Nat → Bool) (N p n i j : Nat) (hn : 0 < n) : (farMid F N p n i j == ((n : Nat) : Int)) = (farFn F N p n j == ((n : Nat) : Int)) := by
  unfold farMid
  split
  · rw [farFn_succ]
    split
    · rename_i h
      have h1 := farFn_neg h
      split
      · rw [Bool.eq_iff_iff, beq_iff_eq, beq_iff_eq]; omega
      · rw [Bool.eq_iff_iff, beq_iff_eq, beq_iff_eq]; omega
    · rfl
  · rfl
theorem farMid_zero (F : Nat → Nat → Bool) (N p n x : Nat) : farFn F N p n x = farMid F N p n 0 x := by unfold farMid; rw [if_neg (by omega)]
theorem farMid_full (F : Nat → Nat → Bool) (N p n x : Nat) (hx : x < N) : farMid F N p n N x = farFn F N p (n + 1) x := by unfold farMid; rw [if_pos hx]
theorem farMid_keep {F : Nat → Nat → Bool} {N p n i : Nat} (h : farFn F N p (n + 1) i = farFn F N p n i) (x : Nat) : farMid F N p n i x = farMid F N p n (i + 1) x := by
  unfold farMid
  by_cases h1 : x < i
  · rw [if_pos h1, if_pos (by omega)]
  · rw [if_neg h1]
    by_cases h2 : x = i
    · subst h2; rw [if_pos (by omega), h]
    · rw [if_neg (by omega)]
theorem farMid_put {F : Nat → Nat → Bool} {N p n i : Nat} {v : Int} (h : farFn F N p (n + 1) i = v) (x : Nat) : (if x = i then v else farMid F N p n i x) = farMid F N p n (i + 1) x := by
  unfold farMid
  by_cases h2 : x = i
  · subst h2; rw [if_pos rfl, if_pos (by omega), h]
  · rw [if_neg h2]
    by_cases h1 : x < i
    · rw [if_pos h1, if_pos (by omega)]
    · rw [if_neg h1, if_neg (by omega)]

def encZ (N : Nat) (T : Nat → Int) : Array Value := ((List.range N).map fun i => Value.int .i64 (T i)).toArray
theorem encZ_at {N i : Nat} {T : Nat → Int} (h : i < N) : (encZ N T)[i]? = some (.int .i64 (T i)) := by simp [encZ, h]
theorem encZ_congr {N : Nat} {T T' : Nat → Int} (h : ∀ i, i < N → T i = T' i) : encZ N T = encZ N T' := by
  unfold encZ
  congr 1
  exact List.map_congr_left fun i hi => by rw [h i (List.mem_range.1 hi)]
theorem encZ_set {N i : Nat} {T : Nat → Int} (v : Int) : (encZ N T).setIfInBounds i (.int .i64 v) = encZ N (fun x => if x = i then v else T x) := by
  unfold encZ
  rw [List.setIfInBounds_toArray]
  congr 1
  apply List.ext_getElem?
  intro x
  rw [List.getElem?_set]
  by_cases e : i = x
  · subst e
    by_cases h : i < N
    · simp [h]
    · simp [h]
  · rw [if_neg e]
    by_cases hx : x < N
    · simp [hx]
      intro h2
      exact absurd h2.symm e
    · rw [List.getElem?_eq_none (by simp; omega), List.getElem?_eq_none (by simp; omega)]
theorem make_zeros (n : Nat) (h : n ≤ 256) (w : World) : (Instr.makeSlice 61 (.int .i64 n) (.int .i64 n)).run Tryd.prog w = .ok (.slice (some ⟨w.heap.size, 0, none⟩) n n) (w.alloc (.cells (encZ n (fun _ => 0)) 3)) := by
  obtain ⟨i, hx, hz, hs, hb⟩ := info_parts Tryd.infoint
  have := run_make (P := Tryd.prog) w 61 3 i _ Tryd.underlying61 hx hz .i64 .i64 n n (by omega) (by omega) (by rw [hb]; omega) (by omega)
  rw [this, hs]
  have e : madeCells (Value.int .i64 0).cells ((n : Int).toNat * 1) = encZ n (fun _ => 0) := by
    apply Array.toList_inj.1
    rw [Int.toNat_natCast, Nat.mul_one, show (Value.int .i64 0).cells = #[.int .i64 0] from rfl, toList_madeCells_one]
    unfold encZ
    apply List.ext_getElem?
    intro x
    by_cases hx : x < n
    · simp [hx]
    · rw [List.getElem?_eq_none (by simp; omega), List.getElem?_eq_none (by simp; omega)]
  rw [e]
  rfl

structure FarAt (w W : World) (N : Nat) (A : Value) (T : Nat → Int) : Prop where
  below : Below w.heap.size w W
  box : Blk W w.heap.size 46 #[.int .i64 ((N : Nat) : Int), A]
  row : Blk W (w.heap.size + 1) 3 (encZ N T)
theorem FarAt.congr {w W : World} {N : Nat} {A : Value} {T T' : Nat → Int} (h : FarAt w W N A T) (ht : ∀ y, y < N → T y = T' y) : FarAt w W N A T' :=
  ⟨h.below, h.box, by rw [← encZ_congr ht]; exact h.row⟩
theorem FarAt.put {w W : World} {N : Nat} {A : Value} {T : Nat → Int} (h : FarAt w W N A T) (q : Nat) (v : Int) : FarAt w (W.setCell ⟨w.heap.size + 1, q, none⟩ (.int .i64 v)) N A (fun y => if y = q then v else T y) := by
  refine ⟨h.below.setCell (by simp) _, h.box.setOther (by simp) _, ?_⟩
  have := h.row.set q (.int .i64 v)
  rwa [encZ_set] at this

/-- The look at the points j, for a point i that has no number yet. -/
def LookOK (F : Nat → Nat → Bool) (N p n i j : Nat) : Prop := ∀ x, x < j → (F i x && hit1 F N p n x) = false
theorem look_no {F : Nat → Nat → Bool} {N p n i : Nat} (h : LookOK F N p n i N) : hitF F N p n i = false := by
  unfold hitF
  rw [List.any_eq_false]
  intro x hx
  rw [h x (by simpa using hx)]
  simp
theorem look_yes {F : Nat → Nat → Bool} {N p n i j : Nat} (hj : j < N) (h : (F i j && hit1 F N p n j) = true) : hitF F N p n i = true := by
  unfold hitF
  rw [List.any_eq_true]
  exact ⟨j, by simpa using hj, h⟩
theorem look_on {F : Nat → Nat → Bool} {N p n i j : Nat} (h : LookOK F N p n i j) (hj : (F i j && hit1 F N p n j) = false) : LookOK F N p n i (j + 1) := by
  intro x hx
  by_cases e : x = j
  · rw [e]; exact hj
  · exact h x (by omega)

theorem hid_of2 {p : Prop} (h : p) : Hid p := h
set_option maxRecDepth 100000 in
set_option maxHeartbeats 8000000 in
theorem reffar_calls (lo N : Nat) (hN : N ≤ 256) (x : Option Addr) (y z : Nat) (rb : Nat → Nat) (F : Nat → Nat → Bool) (p : Nat) (_hp : p < 256) (w : World) (h : RefM lo w (.slice x y z) N N rb F) :
    Calls Tryd.prog 82 #[.agg #[.int .i64 ((N : Nat) : Int), .slice x y z], .int .i64 ((p : Nat) : Int)] w fun e w' => ∃ lb, e = .returned (.slice (some ⟨lb, 0, none⟩) N N) ∧ w.heap.size ≤ lb ∧ Blk w' lb 3 (encZ N (farFn F N p N)) ∧ Below w.heap.size w w' := by
  have hmk := make_zeros N hN
  have hA : FarAt w ((w.alloc (.cells #[.int .i64 ((N : Nat) : Int), .slice x y z] 46)).alloc (.cells (encZ N (fun _ => 0)) 3)) N (.slice x y z) (fun x => if x < 0 then -1 else 0) :=
    FarAt.congr (T := fun _ => 0) ⟨((Below.refl _ w).alloc (Nat.le_refl _) _).alloc (by simp) _, (Blk.new w _ _).alloc _, Blk.new2 w _ _ _⟩ (fun y _ => by rw [if_neg (by omega)])
  go_enter Tryd.func82, Tryd.ntmps82
  go_wp2_with fail
  clear hmk
  go_loopw [6] (fun i wr => ∃ k, k ≤ N ∧ i = .int .i64 ((k : Nat) : Int) ∧ FarAt w wr N (.slice x y z) (fun x => if x < k then -1 else 0)) (fun i _ => N - (intOf i).toNat)
  case atStart => exact ⟨0, by omega, rfl, hA⟩
  case round =>
    clear hA
    obtain ⟨k, hk, rfl, hA⟩ := hrel
    have c0 := hA.box.cell (j := 0) rfl
    by_cases hlt : k < N
    · have u1 := hA.row.cell (encZ_at hlt)
      rw [if_neg (by omega)] at u1
      have fz := hA.row.frozen k
      have hA2 := (hA.put k (-1)).congr (T' := fun x => if x < k + 1 then -1 else 0) (fun y _ => by
        by_cases e : y = k
        · rw [if_pos e, if_pos (by omega)]
        · rw [if_neg e]
          by_cases h1 : y < k
          · rw [if_pos h1, if_pos (by omega)]
          · rw [if_neg h1, if_neg (by omega)])
      go_wp2_with fail
      refine ⟨⟨k + 1, by omega, by go_num, hA2⟩, by simp [intOf]; omega⟩
    · have e : N = k := by omega
      subst e
      have hA := hA.congr (T' := farFn F N p 0) (fun y hy => by rw [if_pos hy]; rfl)
      go_wp2_with fail
      clear c0
      go_loopw [7] (fun i wr => ∃ n m, n ≤ N ∧ i = .int .i64 ((m : Nat) : Int) ∧ Hid (m = n + 1) ∧ FarAt w wr N (.slice x y z) (farFn F N p n)) (fun i _ => N + 1 - (intOf i).toNat)
      case atStart => exact ⟨0, 1, by omega, rfl, rfl, hA⟩
      case round =>
        clear hA
        obtain ⟨n, m, hn, rfl, Hm, hA⟩ := hrel
        have c0 := hA.box.cell (j := 0) rfl
        by_cases hlt : n < N
        · have hmN : m ≤ N := by have := Hm.out; omega
          have hm1 : 1 ≤ m := by have := Hm.out; omega
          go_wp2_with fail
          clear c0
          have hA := hA.congr (fun x _ => farMid_zero F N p n x)
          go_loopw [8] (fun i wr => ∃ k, k ≤ N ∧ i = .int .i64 ((k : Nat) : Int) ∧ FarAt w wr N (.slice x y z) (farMid F N p n k)) (fun i _ => N - (intOf i).toNat)
          case atStart => exact ⟨0, by omega, rfl, hA⟩
          case round =>
            clear hA
            obtain ⟨k, hk, rfl, hA⟩ := hrel
            have c0 := hA.box.cell (j := 0) rfl
            by_cases hltk : k < N
            · have hTk : farMid F N p n k k = farFn F N p n k := by unfold farMid; rw [if_neg (by omega)]
              by_cases hneg : farFn F N p n k < 0
              · have Hneg : Hid (farFn F N p n k = -1) := farFn_neg hneg
                have Hlt : Hid (farFn F N p n k < 0) := hneg
                have HTk : Hid (farMid F N p n k k = farFn F N p n k) := hTk
                clear hneg hTk
                go_wp2_with fail
                clear c0
                go_loopw [9] (fun i wr => ∃ j, j ≤ N ∧ i = .int .i64 ((j : Nat) : Int) ∧ ((FarAt w wr N (.slice x y z) (farMid F N p n k) ∧ LookOK F N p n k j) ∨ (FarAt w wr N (.slice x y z) (farMid F N p n (k + 1)) ∧ Hid (farFn F N p (n + 1) k = ((m : Nat) : Int))))) (fun i _ => N - (intOf i).toNat)
                case atStart => exact ⟨0, by omega, rfl, .inl ⟨hA, fun x hx => by omega⟩⟩
                case round =>
                  clear hA
                  obtain ⟨j, hj, rfl, hor⟩ := hrel
                  rcases hor with ⟨hA, hL⟩ | ⟨hA, HV⟩
                  · have HL := hid_of2 hL
                    clear hL
                    have c0 := hA.box.cell (j := 0) rfl
                    have u1 := hA.row.cell (encZ_at hltk)
                    rw [HTk.out, Hneg.out] at u1
                    by_cases hltj : j < N
                    · skip
                      have c1 := hA.box.cell (j := 1) rfl
                      obtain ⟨g, cap, e, _, _, _, d0, d1, _, _⟩ := (h.below hA.below).at_ hltk hltj
                      cases e
                      have fz := hA.row.frozen k
                      cases hf : F k j
                      · rw [hf] at d1
                        have HL2 := look_on HL.out (by rw [hf]; rfl)
                        clear hf
                        go_wp2_with fail
                        refine ⟨⟨j + 1, by omega, by go_num, .inl ⟨hA, HL2⟩⟩, by simp [intOf]; omega⟩
                      · rw [hf] at d1
                        by_cases hn0 : n = 0
                        · have e1 : (((m : Nat) : Int) == 1) = true := by have := Hm.out; rw [beq_iff_eq]; omega
                          by_cases hjp : j = p
                          · have HV : Hid (farFn F N p (n + 1) k = ((m : Nat) : Int)) := by
                              show _ = _
                              rw [farFn_succ, if_pos Hlt.out, look_yes hltj (by rw [hf]; unfold hit1; rw [if_pos hn0]; simp [hjp]), if_pos rfl, Hm.out]
                            have hA2 := (hA.put k ((m : Nat) : Int)).congr (fun x _ => farMid_put HV.out x)
                            have e2 : (((j : Nat) : Int) == ((p : Nat) : Int)) = true := by rw [hjp]; simp
                            clear hf hn0 hjp
                            go_wp2_with fail
                            refine ⟨⟨j + 1, by omega, by go_num, .inr ⟨hA2, HV⟩⟩, by simp [intOf]; omega⟩
                          · have HL2 := look_on HL.out (by rw [hf]; unfold hit1; rw [if_pos hn0]; simp [hjp])
                            have e2 : (((j : Nat) : Int) == ((p : Nat) : Int)) = false := by rw [beq_eq_false_iff_ne]; omega
                            have e3 : ¬ (1 : Int) < ((m : Nat) : Int) := by have := Hm.out; omega
                            have e4 : decide ((1 : Int) < ((m : Nat) : Int)) = false := decide_eq_false e3
                            clear hf hn0 hjp
                            go_wp2_with fail
                            refine ⟨⟨j + 1, by omega, by go_num, .inl ⟨hA, HL2⟩⟩, by simp [intOf]; omega⟩
                        · have e1 : (((m : Nat) : Int) == 1) = false := by have := Hm.out; rw [beq_eq_false_iff_ne]; omega
                          have e3 : (1 : Int) < ((m : Nat) : Int) := by have := Hm.out; omega
                          have uj := hA.row.cell (encZ_at hltj)
                          have hmn : ((m : Nat) : Int) - 1 = ((n : Nat) : Int) := by have := Hm.out; omega
                          have hmh := farMid_hit F N p n k j (by omega)
                          cases hjn : (farFn F N p n j == ((n : Nat) : Int))
                          · have HL2 := look_on HL.out (by rw [hf]; unfold hit1; rw [if_neg hn0, hjn]; rfl)
                            rw [hjn, ← hmn] at hmh
                            clear hf hn0 hjn hmn
                            generalize farMid F N p n k j = tv at uj hmh
                            go_wp2_with fail
                            refine ⟨⟨j + 1, by omega, by go_num, .inl ⟨hA, HL2⟩⟩, by simp [intOf]; omega⟩
                          · have HV : Hid (farFn F N p (n + 1) k = ((m : Nat) : Int)) := by
                              show _ = _
                              rw [farFn_succ, if_pos Hlt.out, look_yes hltj (by rw [hf]; unfold hit1; rw [if_neg hn0, hjn]; rfl), if_pos rfl, Hm.out]
                            have hA2 := (hA.put k ((m : Nat) : Int)).congr (fun x _ => farMid_put HV.out x)
                            rw [hjn, ← hmn] at hmh
                            clear hf hn0 hjn hmn
                            generalize farMid F N p n k j = tv at uj hmh
                            go_wp2_with fail
                            refine ⟨⟨j + 1, by omega, by go_num, .inr ⟨hA2, HV⟩⟩, by simp [intOf]; omega⟩
                    · have e : N = j := by omega
                      subst e
                      have hA2 := hA.congr (fun x _ => farMid_keep (by rw [farFn_succ, if_pos Hlt.out, look_no HL.out, Hneg.out]; rfl) x)
                      go_wp2_with fail
                      refine ⟨⟨k + 1, by omega, by go_num, hA2⟩, by simp [intOf]; omega⟩
                  · have u1 := hA.row.cell (encZ_at hltk)
                    rw [show farMid F N p n (k + 1) k = ((m : Nat) : Int) by unfold farMid; rw [if_pos (by omega)]; exact HV.out] at u1
                    go_wp2_with fail
                    refine ⟨⟨k + 1, by omega, by go_num, hA⟩, by simp [intOf]; omega⟩
              · have hkeep : farFn F N p (n + 1) k = farFn F N p n k := by rw [farFn_succ, if_neg hneg]
                have hA2 := hA.congr (fun x _ => farMid_keep hkeep x)
                have Hge : Hid (farMid F N p n (k + 1) k = farFn F N p n k) := by show _ = _; unfold farMid; rw [if_pos (by omega), hkeep]
                have hge0 : ¬ farFn F N p n k < 0 := hneg
                clear hA hkeep hTk hneg
                generalize farFn F N p n k = fv at *
                go_wp2_with fail
                clear c0
                go_loopw [9] (fun i wr => i = .int .i64 0 ∧ FarAt w wr N (.slice x y z) (farMid F N p n (k + 1))) (fun _ _ => 0)
                case atStart => exact ⟨rfl, hA2⟩
                case round =>
                  clear hA2
                  obtain ⟨rfl, hA⟩ := hrel
                  have u1 := hA.row.cell (encZ_at hltk)
                  rw [Hge.out] at u1
                  go_wp2_with fail
                  refine ⟨⟨k + 1, by omega, by go_num, hA⟩, by simp [intOf]; omega⟩
            · have e : N = k := by omega
              subst e
              have hA2 := hA.congr (fun x hx => farMid_full F N p n x hx)
              have hm2 : m + 1 = (n + 1) + 1 := by have := Hm.out; omega
              go_wp2_with fail
              refine ⟨⟨n + 1, m + 1, by omega, by go_num, hm2, hA2⟩, by simp [intOf]; omega⟩
        · have e : N = n := by omega
          subst e
          have hm2 : ¬ ((m : Nat) : Int) ≤ ((N : Nat) : Int) := by have := Hm.out; omega
          go_wp2_with fail
          go_ret
          exact ⟨_, rfl, by omega, hA.row, hA.below⟩
end Go.Proofs.YtogifpilfckenaaDoor
/- The contract of the document's own Cycle. -/
namespace Go.Proofs.YtogifpilfckenaaDoor
open Go.RowKit Go.Shelf Sx

theorem owns_lower' {w : World} {base base' : Nat} {e : TypeId} {size : Nat} {v : Value} {n : Nat} {xs : List Value} (h : w.ownsRow base e size v n xs) (hb : base' ≤ base) : w.ownsRow base' e size v n xs := by
  refine ⟨h.1, ?_⟩
  rcases h.2 with h2 | ⟨g, cap, cur, e1, e2, e3⟩
  · exact .inl h2
  · exact .inr ⟨g, cap, cur, e1, Nat.le_trans hb e2, e3⟩
theorem far_hit {F : Nat → Nat → Bool} {N p r i n : Nat} (h : farFn F N p r i = ((n + 1 : Nat) : Int)) : n + 1 ≤ r ∧ hitF F N p n i = true := by
  induction r with
  | zero =>
    have : (-1 : Int) = ((n + 1 : Nat) : Int) := h
    omega
  | succ r ih =>
    rw [farFn_succ] at h
    split at h
    · split at h
      · rename_i h1 h2
        obtain rfl : r = n := by omega
        exact ⟨Nat.le_refl _, h2⟩
      · omega
    · have := ih h
      exact ⟨by omega, this.2⟩
theorem far_pos {F : Nat → Nat → Bool} {N p r i : Nat} (h : ¬ farFn F N p r i < 0) : 1 ≤ farFn F N p r i := by
  induction r with
  | zero => exact absurd (show (-1 : Int) < 0 by omega) h
  | succ r ih =>
    rw [farFn_succ] at h ⊢
    split
    · rename_i h1
      rw [if_pos h1] at h
      split
      · omega
      · rename_i h2
        rw [if_neg h2] at h
        omega
    · rename_i h1
      exact ih h1
theorem far_stays {F : Nat → Nat → Bool} {N p n r i : Nat} (hr : n ≤ r) (h : farFn F N p n i = ((n : Nat) : Int)) : farFn F N p r i = ((n : Nat) : Int) := by
  induction r with
  | zero =>
    obtain rfl : n = 0 := by omega
    exact h
  | succ r ih =>
    by_cases e : n = r + 1
    · rw [← e]; exact h
    · have := ih (by omega)
      rw [farFn_succ, this, if_neg (by omega)]
/-- From a point n + 1 steps away there is one that is n steps away. -/
theorem far_down {F : Nat → Nat → Bool} {N p i n : Nat} (hn : 0 < n) (h : farFn F N p N i = ((n + 1 : Nat) : Int)) : ∃ q, q < N ∧ F i q = true ∧ farFn F N p N q = ((n : Nat) : Int) := by
  obtain ⟨h1, h2⟩ := far_hit h
  unfold hitF at h2
  rw [List.any_eq_true] at h2
  obtain ⟨q, hq, h3⟩ := h2
  rw [Bool.and_eq_true] at h3
  unfold hit1 at h3
  rw [if_neg (by omega), beq_iff_eq] at h3
  exact ⟨q, by simpa using hq, h3.1, far_stays (by omega) h3.2⟩
/-- The way that is told: at each place the least point one step nearer. -/
def ChainR (F : Nat → Nat → Bool) (N p : Nat) : Nat → Nat → List Nat → Prop
  | _, 0, l => l = []
  | at_, n + 1, l => ∃ q l', l = q :: l' ∧ q < N ∧ F at_ q = true ∧ farFn F N p N q = ((n + 1 : Nat) : Int) ∧ (∀ x, x < q → ¬ (F at_ x = true ∧ farFn F N p N x = ((n + 1 : Nat) : Int))) ∧ ChainR F N p q n l'
/-- A part of that way: from at_ with n steps left, behind pre, to the whole. -/
def RCyc (F : Nat → Nat → Bool) (N : Nat) (out : List Nat) : Prop :=
  ((∀ p, p < N → plusFn F N p p = false) ∧ out = []) ∨ ∃ p l, p < N ∧ plusFn F N p p = true ∧ (∀ x, x < p → plusFn F N x x = false) ∧ out = p :: l ∧ ChainR F N p p (farFn F N p N p - 1).toNat l

structure CyAt (w W : World) (N : Nat) (A P : Value) (rp : Nat → Nat) (F : Nat → Nat → Bool) (bp : Nat) : Prop where
  below : Below w.heap.size w W
  box : Blk W w.heap.size 46 #[.int .i64 ((N : Nat) : Int), A]
  pbx : Blk W bp 46 #[.int .i64 ((N : Nat) : Int), P]
  plus : RefM 0 W P N N rp (plusFn F N)
theorem CyAt.step {w W W' : World} {N : Nat} {A P : Value} {rp : Nat → Nat} {F : Nat → Nat → Bool} {bp : Nat} (h : CyAt w W N A P rp F bp) (hB : Below W.heap.size W W') : CyAt w W' N A P rp F bp :=
  ⟨below_step h.below h.below.size hB, h.box.of_below hB, h.pbx.of_below hB, h.plus.below hB⟩
/-- Beside it: the numbers of far, and the list that grows. -/
structure CyL (w W : World) (W0 : World) (N : Nat) (A : Value) (T : Nat → Int) (lb : Nat) (v : Value) (out : List Nat) : Prop where
  below : Below w.heap.size w W
  box : Blk W w.heap.size 46 #[.int .i64 ((N : Nat) : Int), A]
  row : Blk W lb 3 (encZ N T)
  own : W.ownsRow W0.heap.size 3 1 v out.length (encI out)
  hlb : lb < W0.heap.size
  hw : w.heap.size < W0.heap.size
  hsz : W0.heap.size ≤ W.heap.size
theorem CyL.more {w W W' W0 : World} {N : Nat} {A : Value} {T : Nat → Int} {lb : Nat} {v v' : Value} {out : List Nat} {q : Nat} (h : CyL w W W0 N A T lb v out)
    (hown : W'.ownsRow W0.heap.size 3 1 v' (out.length + 1) (encI out ++ [.int .i64 ((q : Nat) : Int)])) (hg : (W.alloc (.cells #[.int .i64 ((q : Nat) : Int)] 3)).grownBy W' v.ownBlock) : CyL w W' W0 N A T lb v' (out ++ [q]) := by
  have hlt := h.box.lt
  have hl2 := h.row.lt
  have hlb := h.hlb
  have hw := h.hw
  have hge : ∀ k, v.ownBlock = some k → W0.heap.size ≤ k := fun k e => (h.own.lt k e).1
  have hs1 := hg.size
  have hs2 := h.hsz
  refine ⟨(h.below.alloc h.below.size _).grown hg (by simp; omega) (fun k e => by have := hge k e; omega), ?_, ?_, ?_, hlb, hw, by simp at hs1; omega⟩
  · exact (hg.block _ (by simp; omega) (fun e => by have := hge _ e.symm; omega)).trans (h.box.alloc _)
  · exact (hg.block _ (by simp; omega) (fun e => by have := hge _ e.symm; omega)).trans (h.row.alloc _)
  · rw [encI_snoc, List.length_append]
    exact hown
/-- The chain is told in the end, whatever stood ahead of it. -/
def Tells (F : Nat → Nat → Bool) (N p : Nat) (out : List Nat) (at_ n : Nat) : Prop := ∀ l, ChainR F N p at_ n l → RCyc F N (out ++ l)
theorem Tells.next {F : Nat → Nat → Bool} {N p : Nat} {out : List Nat} {at_ n q : Nat} (h : Tells F N p out at_ (n + 1)) (hq : q < N) (h1 : F at_ q = true) (h2 : farFn F N p N q = ((n + 1 : Nat) : Int)) (h3 : ∀ x, x < q → ¬ (F at_ x = true ∧ farFn F N p N x = ((n + 1 : Nat) : Int))) : Tells F N p (out ++ [q]) q n := by
  intro l hl
  rw [List.append_assoc]
  exact h (q :: l) ⟨q, l, rfl, hq, h1, h2, h3, hl⟩
/-- The least hit from k on. -/
def NextOK (F : Nat → Nat → Bool) (T : Nat → Int) (N at_ n k : Nat) (v : Int) : Prop :=
  (v = -1 ∧ ∀ q, k ≤ q → q < N → ¬ (F at_ q = true ∧ T q = ((n : Nat) : Int))) ∨ ∃ q, v = ((q : Nat) : Int) ∧ k ≤ q ∧ q < N ∧ (F at_ q = true ∧ T q = ((n : Nat) : Int)) ∧ ∀ x, k ≤ x → x < q → ¬ (F at_ x = true ∧ T x = ((n : Nat) : Int))
theorem next_start (F : Nat → Nat → Bool) (T : Nat → Int) (N at_ n : Nat) : NextOK F T N at_ n N (-1) := .inl ⟨rfl, fun q h1 h2 => by omega⟩
theorem next_hit {F : Nat → Nat → Bool} {T : Nat → Int} {N at_ n k : Nat} (hk : k < N) (h : F at_ k = true ∧ T k = ((n : Nat) : Int)) : NextOK F T N at_ n k ((k : Nat) : Int) :=
  .inr ⟨k, rfl, Nat.le_refl _, hk, h, fun x h1 h2 => by omega⟩
theorem next_miss {F : Nat → Nat → Bool} {T : Nat → Int} {N at_ n k : Nat} {v : Int} (h : NextOK F T N at_ n (k + 1) v) (hm : ¬ (F at_ k = true ∧ T k = ((n : Nat) : Int))) : NextOK F T N at_ n k v := by
  rcases h with ⟨rfl, h⟩ | ⟨q, rfl, h1, h2, h3, h4⟩
  · refine .inl ⟨rfl, fun q hq1 hq2 => ?_⟩
    by_cases e : q = k
    · rw [e]; exact hm
    · exact h q (by omega) hq2
  · refine .inr ⟨q, rfl, by omega, h2, h3, fun x hx1 hx2 => ?_⟩
    by_cases e : x = k
    · rw [e]; exact hm
    · exact h4 x (by omega) hx2
theorem next_end {F : Nat → Nat → Bool} {T : Nat → Int} {N at_ n : Nat} {v : Int} (h : NextOK F T N at_ n 0 v) (he : ∃ q, q < N ∧ F at_ q = true ∧ T q = ((n : Nat) : Int)) : ∃ q, v = ((q : Nat) : Int) ∧ q < N ∧ F at_ q = true ∧ T q = ((n : Nat) : Int) ∧ ∀ x, x < q → ¬ (F at_ x = true ∧ T x = ((n : Nat) : Int)) := by
  rcases h with ⟨_, h⟩ | ⟨q, h0, _, h2, h3, h4⟩
  · obtain ⟨q, h1, h2, h3⟩ := he
    exact absurd ⟨h2, h3⟩ (h q (by omega) h1)
  · exact ⟨q, h0, h2, h3.1, h3.2, fun x hx => h4 x (by omega) hx⟩

set_option maxRecDepth 100000 in
set_option maxHeartbeats 8000000 in
theorem refCycle_calls (lo N : Nat) (hN : N ≤ 256) (x : Option Addr) (y z : Nat) (rb : Nat → Nat) (F : Nat → Nat → Bool) (w : World) (h : RefM lo w (.slice x y z) N N rb F) :
    Calls Tryd.prog 70 #[.agg #[.int .i64 ((N : Nat) : Int), .slice x y z]] w fun e w' => ∃ v out, e = .returned v ∧ RCyc F N out ∧ w'.ownsRow w.heap.size 3 1 v out.length (encI out) ∧ Below w.heap.size w w' := by
  obtain ⟨i0, hi, hz0, hz1, hz2⟩ := info_parts Tryd.infoint
  go_enter Tryd.func70, Tryd.ntmps70
  go_wp2_with fail
  refine (refPlus_calls lo N hN x y z rb F _ (h.alloc _)).mono ?_
  rintro e w1 ⟨M, rp, rfl, hRM, hB1⟩
  obtain ⟨x2, y2, z2, rfl⟩ := hRM.slice
  have hW0 : Below w.heap.size w (w.alloc (.cells #[.int .i64 ((N : Nat) : Int), .slice x y z] 46)) := (Below.refl _ w).alloc (Nat.le_refl _) _
  have hW1 := below_step hW0 hW0.size hB1
  have hA : CyAt w (w1.alloc (.cells #[.int .i64 ((N : Nat) : Int), .slice x2 y2 z2] 46)) N (.slice x y z) (.slice x2 y2 z2) rp F w1.heap.size :=
    ⟨hW1.alloc hW1.size _, ((Blk.new w _ _).of_below hB1).alloc _, Blk.new _ _ _, (hRM.mono (Nat.zero_le _)).alloc _⟩
  clear hRM hB1 hW0 hW1
  go_wp2_with fail
  generalize w1.heap.size = bp at *
  go_loopw [4] (fun i wr => ∃ p, p ≤ N ∧ i = .int .i64 ((p : Nat) : Int) ∧ CyAt w wr N (.slice x y z) (.slice x2 y2 z2) rp F bp ∧ Hid (∀ x, x < p → plusFn F N x x = false)) (fun i _ => N - (intOf i).toNat)
  case atStart => exact ⟨0, by omega, rfl, hA, fun x hx => by omega⟩
  case round =>
    clear hA
    obtain ⟨p, hp, rfl, hA, HN⟩ := hrel
    have c0 := hA.box.cell (j := 0) rfl
    by_cases hlt : p < N
    · have k1 := hA.pbx.cell (j := 1) rfl
      obtain ⟨g, cap, e, _, _, _, d0, d1, _, _⟩ := hA.plus.at_ hlt hlt
      cases e
      cases hv : plusFn F N p p
      · rw [hv] at d1
        have HN2 : Hid (∀ x, x < p + 1 → plusFn F N x x = false) := by
          intro x hx
          by_cases e : x = p
          · rw [e]; exact hv
          · exact HN.out x (by omega)
        clear hv
        go_wp2_with fail
        refine ⟨⟨p + 1, by omega, by go_num, hA, HN2⟩, by simp [intOf]; omega⟩
      · rw [hv] at d1
        have HT : Hid (∀ l, ChainR F N p p (farFn F N p N p - 1).toNat l → RCyc F N ([p] ++ l)) := fun l hl => .inr ⟨p, l, hlt, hv, HN.out, rfl, hl⟩
        clear hv
        have c1 := hA.box.cell (j := 1) rfl
        go_wp2_with fail
        refine (reffar_calls lo N hN x y z rb F p (by omega) _ (h.below hA.below)).mono ?_
        rintro e w3 ⟨lb, rfl, hlb, hrow, hB3⟩
        have hA3 := hA.step hB3
        have hL : CyL w (w3.alloc (.cells #[.int .i64 ((p : Nat) : Int)] 3)) w3 N (.slice x y z) (farFn F N p N) lb (.slice (some ⟨w3.heap.size, 0, none⟩) 1 1) [p] :=
          ⟨hA3.below.alloc hA3.below.size _, hA3.box.alloc _, hrow.alloc _, World.ownsRow_lit w3 #[.int .i64 ((p : Nat) : Int)] 1 (Nat.le_refl _) (by unfold maxLen; omega) rfl, hrow.lt, hA3.box.lt, by simp⟩
        clear c0 c1 k1 d0 d1 hA hrow hB3 HN
        have hb := hA3.below
        have u1 := hL.row.cell (encZ_at hlt)
        have hle := farFn_le F N p N p
        clear hA3
        by_cases hneg : farFn F N p N p < 0
        · have e1 := farFn_neg hneg
          have HR : Hid (RCyc F N [p]) := by
            have := HT.out [] (by rw [e1]; rfl)
            exact this
          rw [e1] at u1
          clear hneg e1 hle
          go_wp2_with fail
          go_loopw [6, 8] (fun v i wr => v = .slice (some ⟨w3.heap.size, 0, none⟩) 1 1 ∧ i = .int .i64 (-2) ∧ CyL w wr w3 N (.slice x y z) (farFn F N p N) lb (.slice (some ⟨w3.heap.size, 0, none⟩) 1 1) [p]) (fun _ _ _ => 0)
          case atStart => exact ⟨rfl, rfl, hL⟩
          case round =>
            clear hL u1
            obtain ⟨rfl, rfl, hL⟩ := hrel
            go_wp2_with fail
            go_ret
            exact ⟨_, [p], rfl, HR.out, owns_lower' hL.own (by have := hb.size; omega), hL.below⟩
        · have hp1 := far_pos hneg
          obtain ⟨d, hd⟩ : ∃ d : Nat, farFn F N p N p = ((d + 1 : Nat) : Int) := ⟨(farFn F N p N p - 1).toNat, by omega⟩
          have HTell : Hid (Tells F N p [p] p d) := by
            intro l hl
            refine HT.out l ?_
            rw [hd]
            rw [show (((d + 1 : Nat) : Int) - 1).toNat = d by omega]
            exact hl
          have Hd : Hid (d = 0 ∨ farFn F N p N p = ((d + 1 : Nat) : Int)) := .inr hd
          have hdN : d + 1 ≤ N := by omega
          rw [hd] at u1
          clear hneg hp1 hd hle HT
          go_wp2_with fail
          clear u1
          go_loopw [6, 7, 8] (fun v a i wr => ∃ at_ n out, n + 1 ≤ N ∧ a = .int .i64 ((at_ : Nat) : Int) ∧ i = .int .i64 ((n : Nat) : Int) ∧ at_ < N ∧ CyL w wr w3 N (.slice x y z) (farFn F N p N) lb v out ∧ Hid (Tells F N p out at_ n) ∧ Hid (n = 0 ∨ farFn F N p N at_ = ((n + 1 : Nat) : Int)) ∧ out.length + n ≤ 256) (fun _ _ i _ => (intOf i).toNat)
          case atStart => exact ⟨p, d, [p], hdN, rfl, by go_num, hlt, hL, HTell, Hd, by simp; omega⟩
          case round =>
            clear hL HTell Hd hdN
            obtain ⟨at_, n, out, hn, rfl, rfl, hat, hL, HTell, Hd, hlen⟩ := hrel
            by_cases hn0 : 0 < n
            · have he : ∃ q, q < N ∧ F at_ q = true ∧ farFn F N p N q = ((n : Nat) : Int) := far_down hn0 (Hd.out.elim (fun e => absurd e (by omega)) id)
              have He := hid_of2 he
              clear he Hd
              have c0 := hL.box.cell (j := 0) rfl
              go_wp2_with fail
              clear c0
              go_loopw [9, 10] (fun nx i wr => ∃ (k : Nat) (v : Int), k ≤ N ∧ nx = .int .i64 v ∧ i = .int .i64 (((k : Nat) : Int) - 1) ∧ CyL w wr w3 N (.slice x y z) (farFn F N p N) lb u6 out ∧ Hid (NextOK F (farFn F N p N) N at_ n k v)) (fun _ i _ => (intOf i + 1).toNat)
              case atStart => exact ⟨N, -1, Nat.le_refl _, rfl, by go_num, hL, next_start F _ N at_ n⟩
              case round =>
                clear hL
                obtain ⟨k, v, hk, rfl, rfl, hL, HX⟩ := hrel
                by_cases hk0 : 0 < k
                · obtain ⟨j, rfl⟩ : ∃ j, k = j + 1 := ⟨k - 1, by omega⟩
                  have ej : ((j + 1 : Nat) : Int) - 1 = ((j : Nat) : Int) := by omega
                  rw [ej]
                  have hj : j < N := by omega
                  have c1 := hL.box.cell (j := 1) rfl
                  obtain ⟨g, cap, e, _, _, _, d0, d1, _, _⟩ := (h.below hL.below).at_ hat hj
                  cases e
                  have u1 := hL.row.cell (encZ_at hj)
                  clear ej hk0
                  cases hf : F at_ j
                  · rw [hf] at d1
                    have HX2 := next_miss HX.out (by rw [hf]; simp)
                    clear hf
                    go_wp2_with fail
                    refine ⟨⟨j, v, by omega, rfl, by go_num, hL, HX2⟩, by simp [intOf]⟩
                  · rw [hf] at d1
                    by_cases ht : farFn F N p N j = ((n : Nat) : Int)
                    · have HX2 := next_hit hj ⟨hf, ht⟩
                      rw [ht] at u1
                      clear hf ht
                      go_wp2_with fail
                      refine ⟨⟨j, ((j : Nat) : Int), by omega, rfl, by go_num, hL, HX2⟩, by simp [intOf]⟩
                    · have HX2 := next_miss HX.out (fun e => ht e.2)
                      have e1 : (farFn F N p N j == ((n : Nat) : Int)) = false := beq_eq_false_iff_ne.2 ht
                      clear hf ht
                      generalize farFn F N p N j = tv at u1 e1
                      go_wp2_with fail
                      refine ⟨⟨j, v, by omega, rfl, by go_num, hL, HX2⟩, by simp [intOf]⟩
                · obtain rfl : k = 0 := by omega
                  obtain ⟨q, rfl, hq, h1, h2, h3⟩ := next_end HX.out He.out
                  obtain ⟨n', rfl⟩ : ∃ n', n = n' + 1 := ⟨n - 1, by omega⟩
                  have HT2 : Hid (Tells F N p (out ++ [q]) q n') := Tells.next HTell.out hq h1 h2 h3
                  have Hd2 : Hid (n' = 0 ∨ farFn F N p N q = ((n' + 1 : Nat) : Int)) := .inr h2
                  have hsz := hL.hsz
                  clear h1 h2 h3 hk0 HX He HTell
                  go_wp2_with (at_builtin; refine wpList_append_own_at _ rfl _ _ 61 rfl w3.heap.size 3 i0 (.int .i64 0) 1 8 Tryd.underlying61 hi hz0 hz1 hz2 rfl (by decide) _ _ _ rfl (hL.own.alloc _) ⟨_, 0, none⟩ 1 1 [.int .i64 ((q : Nat) : Int)] rfl rfl (cell_one_new _ _ _) (by simp [Value.oneCell']) (by unfold maxLen; omega) (by omega) (by simp; omega) ?_; intro v' w4 hown' hgrow _ hat')
                  have hL2 := hL.more hown' hgrow
                  refine ⟨⟨q, n', out ++ [q], by omega, rfl, by go_num, hq, hL2, HT2, Hd2, by simp; omega⟩, by simp [intOf]⟩
            · have e : n = 0 := by omega
              subst e
              have HR : Hid (RCyc F N out) := by
                have := HTell.out [] rfl
                rwa [List.append_nil] at this
              go_wp2_with fail
              go_ret
              have ho := owns_lower' hL.own (show w.heap.size ≤ w3.heap.size by have := hb.size; omega)
              first | exact ⟨_, out, rfl, HR.out, ho, hL.below⟩ | exact ⟨_, rfl, out, HR.out, ho, hL.below⟩ | exact ⟨_, rfl, ⟨out, HR.out, ho⟩, hL.below⟩
    · have e : N = p := by omega
      subst e
      have HR : Hid (RCyc F N []) := .inl ⟨HN.out, rfl⟩
      go_wp2_with fail
      go_ret
      exact ⟨_, [], rfl, HR.out, World.ownsRow_nil _ _ _ _, hA.below⟩
end Go.Proofs.YtogifpilfckenaaDoor
/- The contracts of package rel's Cycle, Irreflexive, Acyclic and Star. -/
namespace Go.Proofs.YtogifpilfckenaaDoor
open Go.RowKit Go.Shelf Sx
attribute [local go_sem] Oper.semAt_some

theorem testBit_loopsK (L : List Nat) (k p : Nat) : (loopsK L k).testBit p = (decide (p < k) && (gr L p).testBit p) := by
  induction k with
  | zero => simp [loopsK]
  | succ k ih =>
    rw [loopsK_succ, testBit_setB, ih]
    by_cases h : p = k
    · subst h; simp
    · rw [if_neg h]
      by_cases h2 : p < k
      · rw [decide_eq_true h2, decide_eq_true (show p < k + 1 by omega)]
      · rw [decide_eq_false h2, decide_eq_false (show ¬ p < k + 1 by omega)]
theorem loopsL_lt (L : List Nat) : loopsL L < 2 ^ L.length := lt_pow_of_testBit fun i hi => by rw [loopsL, testBit_loopsK, decide_eq_false (by omega), Bool.false_and]
theorem plusL_length (L : List Nat) : (plusL L).length = L.length := plusN_length L L.length

/-- What Cycle tells. -/
def CycOK (L out : List Nat) : Prop :=
  (bitsOf (loopsL (plusL L)) = [] ∧ out = []) ∨ ∃ s tl ly, bitsOf (loopsL (plusL L)) = s :: tl ∧ LayOK L (invL L) s 0 (setB 0 s true) ly ∧ out = s :: cycF L s (remL ly (ly.length - 1))

set_option maxRecDepth 100000 in
set_option maxHeartbeats 4000000 in
theorem Cycle_in (b c : Nat) (L : List Nat) (w : World) (h : IsRel w b c L) (hT : Tab w) :
    CallsIn Fence.wide 6 Tryd.prog 37 #[pv b] w fun e w' => ∃ v out, e = .returned v ∧ CycOK L out ∧ w'.ownsRow w.heap.size 3 1 v out.length (encI out) ∧ Below w.heap.size w w' := by
  have hl := h.len
  have hT2 := (hT.alloc (.cells #[pv b] 22)).alloc (.cells #[.slice none 0 0] 61)
  have h2 := (h.alloc (.cells #[pv b] 22)).alloc (.cells #[.slice none 0 0] 61)
  refine callsIn_of_wp_marks Tryd.func37 rfl trivial ?_ rfl
  simp only [Tryd.ntmps37, List.size_toArray, List.length_cons, List.length_nil, Nat.reduceAdd, Nat.reduceSub, Array.replicate_succ, Array.replicate_zero, List.push_toArray, List.append_toArray, List.nil_append, List.cons_append]
  gi_wp2_with fail
  refine ⟨trivial, ?_⟩
  refine (callsIn_wide.2 (Plus_calls b c L _ h2)).mono ?_
  rintro e w1 ⟨b2, c2, rfl, hM⟩
  have hB1 : Below w.heap.size w w1 := (((Below.refl _ w).alloc (Nat.le_refl _) _).alloc (by simp) _).trans (hM.below.mono (by simp; omega))
  have hbx1 : Blk w1 w.heap.size 22 #[pv b] := ((Blk.new w _ _).alloc _).of_below hM.below
  have hrs1 : Boxed w1 (w.heap.size + 1) 61 (.slice none 0 0) := (Blk.new2 w _ _ _).of_below hM.below
  gi_wp2_with fail
  refine ⟨trivial, ?_⟩
  refine (callsIn_wide.2 (loops_calls b2 c2 (plusL L) _ hM.rel)).mono ?_
  rintro e w2 ⟨rfl, hB2⟩
  have hBw2 : Below w.heap.size w w2 := below_step hB1 hB1.size hB2
  have hbx2 := hbx1.of_below hB2
  have hrs2 : Boxed w2 (w.heap.size + 1) 61 (.slice none 0 0) := Blk.of_below hrs1 hB2
  have hTw2 := hT.step hBw2
  have HL : Hid (∀ p, p ∈ bitsOf (loopsL (plusL L)) → p < L.length) := by
    intro p hp
    have h1 := (mem_bitsOf.1 hp).2
    apply Nat.lt_of_not_le
    intro hle
    have := loopsL_lt (plusL L)
    rw [plusL_length] at this
    rw [testBit_of_lt this hle] at h1
    cases h1
  have HC : Hid (∀ out, ((bitsOf (loopsL (plusL L)) = [] ∧ out = []) ∨ ∃ s tl ly, bitsOf (loopsL (plusL L)) = s :: tl ∧ LayOK L (invL L) s 0 (setB 0 s true) ly ∧ out = s :: cycF L s (remL ly (ly.length - 1))) → CycOK L out) := fun _ h => h
  generalize loopsL (plusL L) = M at *
  clear hB2 hB1 hM hbx1 hrs1 h2 hT2
  have hs2 := hBw2.size
  have hp := hT.pos
  have hs3 := hbx2.lt
  have hs4 := hrs2.lt
  gi_wp2_with (refine ⟨trivial, ?_⟩; gi_at_call 42; refine (points_in Fence.wide _ trivial rfl M _).mono ?_; rintro e w' ⟨rfl, rfl⟩)
  refine wpIn_rangeFunc_ownF rfl (by omega) (gf := 77) (lb := #[.pointer (some ⟨w2.heap.size, 0, none⟩)]) rfl trivial (enters_of Tryd.func77 (by kernel_rfl) rfl)
    (points_stops M w2.heap.size (6 - 1) (by omega) _ ?hB ?hT) belowK_t (belowK_b (by simp)) (Below.refl _ _) (fun _ => rfl)
    (fun pre W => w2.heap.size + 1 ≤ W.heap.size ∧ pre = [] ∧ Blk W w.heap.size 22 #[pv b] ∧ Boxed W (w.heap.size + 1) 61 (.slice none 0 0) ∧ Tab W ∧ Below w.heap.size w W)
    (fun cd pre W => w2.heap.size + 1 ≤ W.heap.size ∧ cd = .ret ∧ ∃ q v ly, vals pre = [q] ∧ LayOK L (invL L) q 0 (setB 0 q true) ly ∧ Boxed W (w.heap.size + 1) 61 v ∧ W.ownsRow w.heap.size 3 1 v (q :: cycF L q (remL ly (ly.length - 1))).length (encI (q :: cycF L q (remL ly (ly.length - 1)))) ∧ Tab W ∧ Below w.heap.size w W)
    ?hI ?hIx ?h0
    (fun x => { tmps := #[pv b, pv w.heap.size, pv (w.heap.size + 1), .int .i64 ((x.1 : Nat) : Int), pv b, pv b2, rv M, .func (.func 77) #[] #[.pointer (some ⟨w2.heap.size, 0, none⟩)], .int .i64 ((x.1 : Nat) : Int), undef, undef, undef], defers := [] }) ?assign ?body ?done ?stop
  case hB => exact Blk.new _ _ _
  case hT => exact hTw2.alloc _
  case hI =>
    refine ownFrom_rows (fun s W hi => by simpa using hi.1) ?_
    rintro s W W' ⟨h1, h2, h3, h4, h5, h6⟩ hb' ho
    have hb' : Below (w2.heap.size + 1) W W' := by simpa using hb'
    exact ⟨Nat.le_trans h1 hb'.size, h2, h3.below hb' (by omega), (hb'.block _ (by omega)).trans h4, h5.below hb' (by omega), h6.trans (hb'.mono (by omega))⟩
  case hIx =>
    intro cd
    refine ownFrom_rows (fun s W hi => by simpa using hi.1) ?_
    rintro s W W' ⟨h1, h2, q, v, ly, h9, h10, h3, h4, h5, h6⟩ hb' ho
    have hb' : Below (w2.heap.size + 1) W W' := by simpa using hb'
    exact ⟨Nat.le_trans h1 hb'.size, h2, q, v, ly, h9, h10, (hb'.block _ (by omega)).trans h3, ho _ _ _ _ _ _ h4, h5.below hb' (by omega), h6.trans (hb'.mono (by omega))⟩
  case h0 =>
    exact ⟨by simp, rfl, hbx2.alloc _, hrs2.alloc _, hTw2.alloc _, hBw2.alloc hs2 _⟩
  case assign =>
    intro l x W K hK
    gi_wp2
    exact hK
  case body =>
    rintro l pre x W ⟨h1, rfl, h3, h4, h5, h6⟩ _
    have k0 : W.cell? ⟨w.heap.size, 0, none⟩ = some (pv b) := h3.cell rfl
    have hq := HL.out x.1 x.2
    gi_wp2_with (refine ⟨trivial, ?_⟩; gi_at_call 76; refine (CallsIn.inRound l (callsIn_wide.2 (cycleFrom_calls b c L x.1 _ (h.below h6) h5 hq))).mono ?_; rintro e w3 ⟨v, ly, rfl, hly, hown, hB3⟩; have h4b : Boxed w3 (w.heap.size + 1) 61 (.slice none 0 0) := Blk.of_below h4 hB3; have hc1 := h4b.cell; have hf1 := h4b.frozen; have HO := hid_of hown; rw [List.length_cons] at hown; obtain ⟨g', cap', rfl⟩ := ownsRow_succ hown; clear hown)
    have hs6 := h6.size
    refine ⟨(keeps_of_below hB3).trans (KeepsOthers.setCell _ _ _), Nat.le_trans h1 (Nat.le_trans hB3.size (by simp [World.setCell])), rfl, x.1, _, ly, rfl, hly, h4b.set _, ?_, (h5.step hB3).set (by simp) _, (h6.trans (hB3.mono hs6)).setCell (by simp) _⟩
    refine owns_set (ownsRow_le HO.out hs6) ?_ _
    exact h4b.not_row (by decide) HO.out
  case done =>
    rintro D ys W hDD hys ⟨h1, rfl, h3, h4, h5, h6⟩ hK
    have hc := h4.cell
    have hf := h4.frozen
    have hnil : bitsOf M = [] := hys.symm
    gi_wp2
    have hK' := (KeepsOthers.setCell W ⟨w.heap.size + 1, 0, none⟩ (.slice none 0 0)).same D _ hK rfl
    refine ⟨by simp, .inl ⟨_, _, rfl, run_takeDeferred hK', ?_⟩⟩
    have h7 := Blk.putObj (h4.set (.slice none 0 0)) hK' rfl (.deferred none)
    have hc7 : (World.putObj _ D (.deferred none)).cell? ⟨w.heap.size + 1, 0, none⟩ = some (.slice none 0 0) := h7.cell rfl
    refine ⟨.slice none 0 0, ?_, .slice none 0 0, [], rfl, HC.out [] (.inl ⟨hnil, rfl⟩), World.ownsRow_nil _ _ _ _, (h6.setCell (by simp) _).trans (belowK_b (w := w) (Nat.le_refl _) _ D _ _ (by simp at hDD; omega) hK' rfl rfl)⟩
    simp [results, Tryd.f37, go_sem, hc7]
  case stop =>
    rintro D cd pre W hDD hpre ⟨h1, rfl, q, v, ly, hq, hly, h3, h4, h5, h6⟩ hK
    rw [hq] at hpre
    obtain ⟨tl, htl⟩ := hpre
    gi_wp2
    refine ⟨by simp, .inl ⟨_, _, rfl, run_takeDeferred hK, ?_⟩⟩
    have h7 := Blk.putObj h3 hK rfl (.deferred none)
    have hc7 : (W.putObj D (.deferred none)).cell? ⟨w.heap.size + 1, 0, none⟩ = some v := h7.cell rfl
    refine ⟨v, ?_, v, _, rfl, HC.out _ (.inr ⟨q, tl, ly, htl.symm, hly, rfl⟩), ownsRow_putObj h4 _ hK rfl, h6.trans (belowK_b (w := w) (Nat.le_refl _) _ D _ _ (by simp at hDD; omega) hK rfl rfl)⟩
    simp [results, Tryd.f37, go_sem, hc7]
theorem Cycle_calls (b c : Nat) (L : List Nat) (w : World) (h : IsRel w b c L) (hT : Tab w) :
    Calls Tryd.prog 37 #[pv b] w fun e w' => ∃ v out, e = .returned v ∧ CycOK L out ∧ w'.ownsRow w.heap.size 3 1 v out.length (encI out) ∧ Below w.heap.size w w' := callsIn_wide.1 (Cycle_in b c L w h hT)

set_option maxHeartbeats 400000 in
theorem Irr_calls (b c : Nat) (L : List Nat) (w : World) (h : IsRel w b c L) :
    Calls Tryd.prog 36 #[pv b] w fun e w' => e = .returned (.bool (loopsL L == 0)) ∧ Below w.heap.size w w' := by
  have HL : Hid (loopsL L < 2 ^ 256) := Nat.lt_of_lt_of_le (loopsL_lt L) (Nat.pow_le_pow_right (by omega) h.len)
  go_enter Tryd.func36, Tryd.ntmps36
  go_wp2_with fail
  refine (loops_calls b c L _ h).mono ?_
  rintro e w1 ⟨rfl, hB1⟩
  go_wp2_with fail
  refine (empty_calls (loopsL L) HL _).mono ?_
  rintro e w2 ⟨rfl, hB2⟩
  go_wp2_with fail
  go_ret
  exact ⟨rfl, below_step hB1 hB1.size hB2⟩
set_option maxHeartbeats 400000 in
theorem Acyclic_calls (b c : Nat) (L : List Nat) (w : World) (h : IsRel w b c L) :
    Calls Tryd.prog 35 #[pv b] w fun e w' => e = .returned (.bool (loopsL (plusL L) == 0)) ∧ Below w.heap.size w w' := by
  go_enter Tryd.func35, Tryd.ntmps35
  go_wp2_with fail
  refine (Plus_calls b c L _ h).mono ?_
  rintro e w1 ⟨b2, c2, rfl, hM⟩
  go_wp2_with fail
  refine (Irr_calls b2 c2 (plusL L) _ hM.rel).mono ?_
  rintro e w2 ⟨rfl, hB2⟩
  go_wp2_with fail
  go_ret
  exact ⟨rfl, below_step hM.below hM.below.size hB2⟩
set_option maxHeartbeats 400000 in
theorem Star_calls (b c : Nat) (L : List Nat) (w : World) (h : IsRel w b c L) :
    Calls Tryd.prog 12 #[pv b] w fun e w' => ∃ b' c', e = .returned (pv b') ∧ Made w w' b' c' (optL (plusL L)) := by
  go_enter Tryd.func12, Tryd.ntmps12
  go_wp2_with fail
  refine (Plus_calls b c L _ h).mono ?_
  rintro e w1 ⟨b2, c2, rfl, hM⟩
  go_wp2_with fail
  refine (Opt_calls b2 c2 (plusL L) _ hM.rel).mono ?_
  rintro e w2 ⟨b3, c3, rfl, hM2⟩
  go_wp2_with fail
  go_ret
  have hs := hM.below.size
  exact ⟨b3, c3, rfl, hM2.rel, Nat.le_trans hs hM2.hb, Nat.le_trans hs hM2.hc, below_step hM.below hs hM2.below⟩
end Go.Proofs.YtogifpilfckenaaDoor
/- The contracts of the statements' own helpers: ints, truths, pairs. -/
namespace Go.Proofs.YtogifpilfckenaaDoor
open Go.RowKit Go.Shelf Sx

/-- A slice of numbers, or nil, read as a list. -/
def IntsAt (w : World) (v : Value) (l : List Int) : Prop := (v = .slice none 0 0 ∧ l = []) ∨ ∃ s o cap, v = .slice (some ⟨s, o, none⟩) l.length cap ∧ s < w.heap.size ∧ ∀ (i : Nat) (x : Int), l[i]? = some x → w.cell? ⟨s, o + i, none⟩ = some (.int .i64 x)
theorem owns_ints {w : World} {base : Nat} {v : Value} {l : List Nat} (h : w.ownsRow base 3 1 v l.length (encI l)) : IntsAt w v (l.map (fun x => ((x : Nat) : Int))) := by
  rcases h.2 with ⟨e, e2⟩ | ⟨g, cap, cur, e, _, hb, _, _, _, ht⟩
  · left
    refine ⟨e, ?_⟩
    rw [List.eq_nil_of_length_eq_zero e2]; rfl
  · right
    refine ⟨g, 0, cap, by rw [List.length_map]; exact e, (Array.getElem?_eq_some_iff.1 hb).1, ?_⟩
    intro i x hx
    have hk : Blk w g 3 cur := hb
    rw [Nat.zero_add]
    apply hk.cell
    rw [List.getElem?_map] at hx
    cases hl : l[i]? with
    | none => rw [hl] at hx; cases hx
    | some y =>
      rw [hl] at hx
      simp at hx
      have hi : i < l.length := (List.getElem?_eq_some_iff.1 hl).1
      have : (encI l)[i]? = some (.int .i64 x) := by simp [encI, hl, hx]
      rw [← ht, List.getElem?_take_of_lt (by omega)] at this
      simpa using this
theorem IntsAt.below {w w' : World} {v : Value} {l : List Int} (h : IntsAt w v l) (hb : Below w.heap.size w w') : IntsAt w' v l := by
  rcases h with h | ⟨s, o, cap, h1, h2, h3⟩
  · exact .inl h
  · exact .inr ⟨s, o, cap, h1, Nat.lt_of_lt_of_le h2 hb.size, fun i x hx => (hb.cell (p := ⟨s, o + i, none⟩) h2).trans (h3 i x hx)⟩
theorem getElem?_all_eq {α : Type} [DecidableEq α] {a b : List α} (hl : a.length = b.length) (h : ∀ i, i < a.length → a[i]? = b[i]?) : a = b := by
  apply List.ext_getElem?
  intro i
  by_cases hi : i < a.length
  · exact h i hi
  · rw [List.getElem?_eq_none (by omega), List.getElem?_eq_none (by omega)]

set_option maxHeartbeats 2000000 in
theorem ints_calls (v1 v2 : Value) (a b : List Int) (w : World) (h1 : IntsAt w v1 a) (h2 : IntsAt w v2 b) (hm : a.length ≤ 100000) (hm2 : b.length ≤ 100000) :
    Calls Tryd.prog 41 #[v1, v2] w fun e w' => e = .returned (.bool (a == b)) ∧ Below w.heap.size w w' := by
  have n1 : ∃ p1 c1, v1 = .slice p1 a.length c1 := by
    rcases h1 with ⟨rfl, rfl⟩ | ⟨s, o, cap, rfl, _⟩
    · exact ⟨_, _, rfl⟩
    · exact ⟨_, _, rfl⟩
  have n2 : ∃ p1 c1, v2 = .slice p1 b.length c1 := by
    rcases h2 with ⟨rfl, rfl⟩ | ⟨s, o, cap, rfl, _⟩
    · exact ⟨_, _, rfl⟩
    · exact ⟨_, _, rfl⟩
  by_cases hl : a.length = b.length
  · by_cases h0 : a.length = 0
    · have ea : a = [] := List.eq_nil_of_length_eq_zero h0
      have eb : b = [] := List.eq_nil_of_length_eq_zero (by omega)
      subst ea; subst eb
      obtain ⟨p1, c1, rfl⟩ := n1
      obtain ⟨p2, c2, rfl⟩ := n2
      clear h1 h2
      go_enter Tryd.func41, Tryd.ntmps41
      go_wp2_with fail
      go_loopw [5] (fun i wr => i = .int .i64 0 ∧ w = wr) (fun _ _ => 0)
      case atStart => exact ⟨rfl, rfl⟩
      case round =>
        obtain ⟨rfl, rfl⟩ := hrel
        go_wp2_with fail
        go_ret
        exact ⟨rfl, Below.refl _ _⟩
    · obtain ⟨s1, o1, c1, rfl, l1, k1⟩ : ∃ s o cap, v1 = .slice (some ⟨s, o, none⟩) a.length cap ∧ s < w.heap.size ∧ ∀ (i : Nat) (x : Int), a[i]? = some x → w.cell? ⟨s, o + i, none⟩ = some (.int .i64 x) := by
        rcases h1 with ⟨_, e⟩ | h
        · rw [e] at h0; exact absurd rfl h0
        · exact h
      obtain ⟨s2, o2, c2, rfl, l2, k2⟩ : ∃ s o cap, v2 = .slice (some ⟨s, o, none⟩) b.length cap ∧ s < w.heap.size ∧ ∀ (i : Nat) (x : Int), b[i]? = some x → w.cell? ⟨s, o + i, none⟩ = some (.int .i64 x) := by
        rcases h2 with ⟨_, e⟩ | h
        · rw [e] at hl; exact absurd hl h0
        · exact h
      have HL : Hid (a.length = b.length) := hl
      have hn : ((a.length : Int) != (b.length : Int)) = false := by rw [hl]; simp
      clear hl h0 h1 h2 n1 n2
      go_enter Tryd.func41, Tryd.ntmps41
      go_wp2_with fail
      go_loopw [5] (fun i wr => ∃ k : Nat, k ≤ a.length ∧ i = .int .i64 k ∧ Hid (∀ i, i < k → a[i]? = b[i]?) ∧ Below w.heap.size w wr) (fun i _ => a.length - (intOf i).toNat)
      case atStart => exact ⟨0, by omega, rfl, fun i h => by omega, Below.refl _ _⟩
      case round =>
        obtain ⟨k, hk, rfl, HC, hB⟩ := hrel
        by_cases hlt : k < a.length
        · have hltB : k < b.length := by rw [← HL.out]; exact hlt
          obtain ⟨x, hx⟩ : ∃ x, a[k]? = some x := ⟨_, List.getElem?_eq_getElem hlt⟩
          obtain ⟨y, hy⟩ : ∃ y, b[k]? = some y := ⟨_, List.getElem?_eq_getElem hltB⟩
          have x0 := (hB.cell (p := ⟨s1, o1 + k, none⟩) l1).trans (k1 k x hx)
          have y0 := (hB.cell (p := ⟨s2, o2 + k, none⟩) l2).trans (k2 k y hy)
          have HX := hid_of hx
          have HY := hid_of hy
          clear hx hy
          cases hq : (x != y)
          · have Hq : Hid (x = y) := by show x = y; simpa using hq
            go_wp2_with fail
            go_region
            all_goals
              go_wp2_with fail
              refine ⟨⟨k + 1, by omega, by go_num, ?_, hB.drew⟩, by simp [intOf]; omega⟩
              intro i hi
              by_cases e : i = k
              · rw [e, HX.out, HY.out, Hq.out]
              · exact HC.out i (by omega)
          · have Hq : Hid (¬ x = y) := by show ¬ x = y; simpa using hq
            go_wp2_with fail
            go_region
            all_goals
              go_wp2_with fail
              go_ret
              refine ⟨?_, hB.drew⟩
              have : (a == b) = false := by
                apply Bool.eq_false_iff.2
                intro e
                have e := eq_of_beq e
                have h3 := HX.out
                rw [e, HY.out] at h3
                exact Hq.out (Option.some.inj h3).symm
              rw [this]; rfl
        · obtain rfl : k = a.length := by omega
          go_wp2_with fail
          go_ret
          refine ⟨?_, hB⟩
          rw [getElem?_all_eq HL.out HC.out]; simp
  · obtain ⟨p1, c1, rfl⟩ := n1
    obtain ⟨p2, c2, rfl⟩ := n2
    have HL : Hid (¬ a.length = b.length) := hl
    have hn : ((a.length : Int) != (b.length : Int)) = true := by rw [bne_iff_ne]; omega
    clear hl h1 h2
    go_enter Tryd.func41, Tryd.ntmps41
    go_wp2_with fail
    go_ret
    refine ⟨?_, Below.refl _ _⟩
    have : (a == b) = false := by
      apply Bool.eq_false_iff.2
      intro e
      rw [eq_of_beq e] at HL
      exact HL.out rfl
    rw [this]; rfl
/-- A slice of truths, or nil, read as a list. -/
def SetAt2 (w : World) (v : Value) (l : List Bool) : Prop := (v = .slice none 0 0 ∧ l = []) ∨ ∃ s o cap, v = .slice (some ⟨s, o, none⟩) l.length cap ∧ s < w.heap.size ∧ ∀ (i : Nat) (x : Bool), l[i]? = some x → w.cell? ⟨s, o + i, none⟩ = some (.bool x)
theorem owns_bools {w : World} {base : Nat} {v : Value} {l : List Bool} (h : w.ownsRow base 4 1 v l.length (l.map Value.bool)) : SetAt2 w v l := by
  rcases h.2 with ⟨e, e2⟩ | ⟨g, cap, cur, e, _, hb, _, _, _, ht⟩
  · left
    exact ⟨e, List.eq_nil_of_length_eq_zero e2⟩
  · right
    refine ⟨g, 0, cap, e, (Array.getElem?_eq_some_iff.1 hb).1, ?_⟩
    intro i x hx
    have hk : Blk w g 4 cur := hb
    rw [Nat.zero_add]
    apply hk.cell
    have hi : i < l.length := (List.getElem?_eq_some_iff.1 hx).1
    have : (l.map Value.bool)[i]? = some (.bool x) := by simp [hx]
    rw [← ht, List.getElem?_take_of_lt (by omega)] at this
    simpa using this
set_option maxHeartbeats 2000000 in
theorem truths_calls (v1 v2 : Value) (a b : List Bool) (w : World) (h1 : SetAt2 w v1 a) (h2 : SetAt2 w v2 b) (hm : a.length ≤ 100000) (hm2 : b.length ≤ 100000) :
    Calls Tryd.prog 19 #[v1, v2] w fun e w' => e = .returned (.bool (a == b)) ∧ Below w.heap.size w w' := by
  have n1 : ∃ p1 c1, v1 = .slice p1 a.length c1 := by
    rcases h1 with ⟨rfl, rfl⟩ | ⟨s, o, cap, rfl, _⟩
    · exact ⟨_, _, rfl⟩
    · exact ⟨_, _, rfl⟩
  have n2 : ∃ p1 c1, v2 = .slice p1 b.length c1 := by
    rcases h2 with ⟨rfl, rfl⟩ | ⟨s, o, cap, rfl, _⟩
    · exact ⟨_, _, rfl⟩
    · exact ⟨_, _, rfl⟩
  by_cases hl : a.length = b.length
  · by_cases h0 : a.length = 0
    · have ea : a = [] := List.eq_nil_of_length_eq_zero h0
      have eb : b = [] := List.eq_nil_of_length_eq_zero (by omega)
      subst ea; subst eb
      obtain ⟨p1, c1, rfl⟩ := n1
      obtain ⟨p2, c2, rfl⟩ := n2
      clear h1 h2
      go_enter Tryd.func19, Tryd.ntmps19
      go_wp2_with fail
      go_loopw [5] (fun i wr => i = .int .i64 0 ∧ w = wr) (fun _ _ => 0)
      case atStart => exact ⟨rfl, rfl⟩
      case round =>
        obtain ⟨rfl, rfl⟩ := hrel
        go_wp2_with fail
        go_ret
        exact ⟨rfl, Below.refl _ _⟩
    · obtain ⟨s1, o1, c1, rfl, l1, k1⟩ : ∃ s o cap, v1 = .slice (some ⟨s, o, none⟩) a.length cap ∧ s < w.heap.size ∧ ∀ (i : Nat) (x : Bool), a[i]? = some x → w.cell? ⟨s, o + i, none⟩ = some (.bool x) := by
        rcases h1 with ⟨_, e⟩ | h
        · rw [e] at h0; exact absurd rfl h0
        · exact h
      obtain ⟨s2, o2, c2, rfl, l2, k2⟩ : ∃ s o cap, v2 = .slice (some ⟨s, o, none⟩) b.length cap ∧ s < w.heap.size ∧ ∀ (i : Nat) (x : Bool), b[i]? = some x → w.cell? ⟨s, o + i, none⟩ = some (.bool x) := by
        rcases h2 with ⟨_, e⟩ | h
        · rw [e] at hl; exact absurd hl h0
        · exact h
      have HL : Hid (a.length = b.length) := hl
      have hn : ((a.length : Int) != (b.length : Int)) = false := by rw [hl]; simp
      clear hl h0 h1 h2 n1 n2
      go_enter Tryd.func19, Tryd.ntmps19
      go_wp2_with fail
      go_loopw [5] (fun i wr => ∃ k : Nat, k ≤ a.length ∧ i = .int .i64 k ∧ Hid (∀ i, i < k → a[i]? = b[i]?) ∧ Below w.heap.size w wr) (fun i _ => a.length - (intOf i).toNat)
      case atStart => exact ⟨0, by omega, rfl, fun i h => by omega, Below.refl _ _⟩
      case round =>
        obtain ⟨k, hk, rfl, HC, hB⟩ := hrel
        by_cases hlt : k < a.length
        · have hltB : k < b.length := by rw [← HL.out]; exact hlt
          obtain ⟨x, hx⟩ : ∃ x, a[k]? = some x := ⟨_, List.getElem?_eq_getElem hlt⟩
          obtain ⟨y, hy⟩ : ∃ y, b[k]? = some y := ⟨_, List.getElem?_eq_getElem hltB⟩
          have x0 := (hB.cell (p := ⟨s1, o1 + k, none⟩) l1).trans (k1 k x hx)
          have y0 := (hB.cell (p := ⟨s2, o2 + k, none⟩) l2).trans (k2 k y hy)
          have HX := hid_of hx
          have HY := hid_of hy
          clear hx hy
          cases hq : (!x == y)
          · have Hq : Hid (x = y) := by show x = y; simpa using hq
            go_wp2_with fail
            go_region
            all_goals
              go_wp2_with fail
              refine ⟨⟨k + 1, by omega, by go_num, ?_, hB.drew⟩, by simp [intOf]; omega⟩
              intro i hi
              by_cases e : i = k
              · rw [e, HX.out, HY.out, Hq.out]
              · exact HC.out i (by omega)
          · have Hq : Hid (¬ x = y) := by show ¬ x = y; simpa using hq
            go_wp2_with fail
            go_region
            all_goals
              go_wp2_with fail
              go_ret
              refine ⟨?_, hB.drew⟩
              have : (a == b) = false := by
                apply Bool.eq_false_iff.2
                intro e
                have e := eq_of_beq e
                have h3 := HX.out
                rw [e, HY.out] at h3
                exact Hq.out (Option.some.inj h3).symm
              rw [this]; rfl
        · obtain rfl : k = a.length := by omega
          go_wp2_with fail
          go_ret
          refine ⟨?_, hB⟩
          rw [getElem?_all_eq HL.out HC.out]; simp
  · obtain ⟨p1, c1, rfl⟩ := n1
    obtain ⟨p2, c2, rfl⟩ := n2
    have HL : Hid (¬ a.length = b.length) := hl
    have hn : ((a.length : Int) != (b.length : Int)) = true := by rw [bne_iff_ne]; omega
    clear hl h1 h2
    go_enter Tryd.func19, Tryd.ntmps19
    go_wp2_with fail
    go_ret
    refine ⟨?_, Below.refl _ _⟩
    have : (a == b) = false := by
      apply Bool.eq_false_iff.2
      intro e
      rw [eq_of_beq e] at HL
      exact HL.out rfl
    rw [this]; rfl
/-- A slice of pairs, or nil, read as a list. -/
def PrsAt (w : World) (v : Value) (l : List (Int × Int)) : Prop := (v = .slice none 0 0 ∧ l = []) ∨ ∃ s o cap, v = .slice (some ⟨s, o, none⟩) l.length cap ∧ s < w.heap.size ∧ ∀ (i : Nat) (x : Int × Int), l[i]? = some x → w.cell? ⟨s, o + i * 2, none⟩ = some (.int .i64 x.1) ∧ w.cell? ⟨s, o + i * 2 + 1, none⟩ = some (.int .i64 x.2)
set_option maxHeartbeats 2000000 in
theorem pairs_calls (v1 v2 : Value) (a b : List (Int × Int)) (w : World) (h1 : PrsAt w v1 a) (h2 : PrsAt w v2 b) (hm : a.length ≤ 100000) (hm2 : b.length ≤ 100000) :
    Calls Tryd.prog 9 #[v1, v2] w fun e w' => e = .returned (.bool (a == b)) ∧ Below w.heap.size w w' := by
  have n1 : ∃ p1 c1, v1 = .slice p1 a.length c1 := by
    rcases h1 with ⟨rfl, rfl⟩ | ⟨s, o, cap, rfl, _⟩
    · exact ⟨_, _, rfl⟩
    · exact ⟨_, _, rfl⟩
  have n2 : ∃ p1 c1, v2 = .slice p1 b.length c1 := by
    rcases h2 with ⟨rfl, rfl⟩ | ⟨s, o, cap, rfl, _⟩
    · exact ⟨_, _, rfl⟩
    · exact ⟨_, _, rfl⟩
  by_cases hl : a.length = b.length
  · by_cases h0 : a.length = 0
    · have ea : a = [] := List.eq_nil_of_length_eq_zero h0
      have eb : b = [] := List.eq_nil_of_length_eq_zero (by omega)
      subst ea; subst eb
      obtain ⟨p1, c1, rfl⟩ := n1
      obtain ⟨p2, c2, rfl⟩ := n2
      clear h1 h2
      go_enter Tryd.func9, Tryd.ntmps9
      go_wp2_with fail
      go_loopw [5] (fun i wr => i = .int .i64 0 ∧ w = wr) (fun _ _ => 0)
      case atStart => exact ⟨rfl, rfl⟩
      case round =>
        obtain ⟨rfl, rfl⟩ := hrel
        go_wp2_with fail
        go_ret
        exact ⟨rfl, Below.refl _ _⟩
    · obtain ⟨s1, o1, c1, rfl, l1, k1⟩ : ∃ s o cap, v1 = .slice (some ⟨s, o, none⟩) a.length cap ∧ s < w.heap.size ∧ ∀ (i : Nat) (x : Int × Int), a[i]? = some x → w.cell? ⟨s, o + i * 2, none⟩ = some (.int .i64 x.1) ∧ w.cell? ⟨s, o + i * 2 + 1, none⟩ = some (.int .i64 x.2) := by
        rcases h1 with ⟨_, e⟩ | h
        · rw [e] at h0; exact absurd rfl h0
        · exact h
      obtain ⟨s2, o2, c2, rfl, l2, k2⟩ : ∃ s o cap, v2 = .slice (some ⟨s, o, none⟩) b.length cap ∧ s < w.heap.size ∧ ∀ (i : Nat) (x : Int × Int), b[i]? = some x → w.cell? ⟨s, o + i * 2, none⟩ = some (.int .i64 x.1) ∧ w.cell? ⟨s, o + i * 2 + 1, none⟩ = some (.int .i64 x.2) := by
        rcases h2 with ⟨_, e⟩ | h
        · rw [e] at hl; exact absurd hl h0
        · exact h
      have HL : Hid (a.length = b.length) := hl
      have hn : ((a.length : Int) != (b.length : Int)) = false := by rw [hl]; simp
      clear hl h0 h1 h2 n1 n2
      go_enter Tryd.func9, Tryd.ntmps9
      go_wp2_with fail
      go_loopw [5] (fun i wr => ∃ k : Nat, k ≤ a.length ∧ i = .int .i64 k ∧ Hid (∀ i, i < k → a[i]? = b[i]?) ∧ Below w.heap.size w wr) (fun i _ => a.length - (intOf i).toNat)
      case atStart => exact ⟨0, by omega, rfl, fun i h => by omega, Below.refl _ _⟩
      case round =>
        obtain ⟨k, hk, rfl, HC, hB⟩ := hrel
        by_cases hlt : k < a.length
        · have hltB : k < b.length := by rw [← HL.out]; exact hlt
          obtain ⟨⟨xa, xb⟩, hx⟩ : ∃ x, a[k]? = some x := ⟨_, List.getElem?_eq_getElem hlt⟩
          obtain ⟨⟨ya, yb⟩, hy⟩ : ∃ y, b[k]? = some y := ⟨_, List.getElem?_eq_getElem hltB⟩
          have x0 := (hB.cell (p := ⟨s1, o1 + k * 2, none⟩) l1).trans (k1 k _ hx).1
          have x1 := (hB.cell (p := ⟨s1, o1 + k * 2 + 1, none⟩) l1).trans (k1 k _ hx).2
          have y0 := (hB.cell (p := ⟨s2, o2 + k * 2, none⟩) l2).trans (k2 k _ hy).1
          have y1 := (hB.cell (p := ⟨s2, o2 + k * 2 + 1, none⟩) l2).trans (k2 k _ hy).2
          have HX := hid_of hx
          have HY := hid_of hy
          clear hx hy
          have hcase : (xa = ya ∧ xb = yb) ∨ (xa = ya ∧ ¬ xb = yb) ∨ ¬ xa = ya := by omega
          rcases hcase with ⟨rfl, rfl⟩ | ⟨rfl, e2⟩ | e1
          · go_wp2_with fail
            go_region
            all_goals
              go_wp2_with fail
              refine ⟨⟨k + 1, by omega, by go_num, ?_, hB.drew⟩, by simp [intOf]; omega⟩
              intro i hi
              by_cases e : i = k
              · rw [e, HX.out, HY.out]
              · exact HC.out i (by omega)
          · have Hq : Hid (¬ xb = yb) := e2
            go_wp2_with fail
            go_region
            all_goals
              go_wp2_with fail
              go_ret
              refine ⟨?_, hB.drew⟩
              have : (a == b) = false := by
                apply Bool.eq_false_iff.2
                intro e
                have e := eq_of_beq e
                have h3 := HX.out
                rw [e, HY.out] at h3
                injection h3 with h4
                injection h4 with _ h6
                exact Hq.out h6.symm
              rw [this]; rfl
          · have Hq : Hid (¬ (xa = ya ∧ xb = yb)) := fun h => e1 h.1
            go_wp2_with fail
            go_region
            all_goals
              go_wp2_with fail
              go_ret
              refine ⟨?_, hB.drew⟩
              have : (a == b) = false := by
                apply Bool.eq_false_iff.2
                intro e
                have e := eq_of_beq e
                have h3 := HX.out
                rw [e, HY.out] at h3
                injection h3 with h4
                injection h4 with h5 h6
                exact Hq.out ⟨h5.symm, h6.symm⟩
              rw [this]; rfl
        · obtain rfl : k = a.length := by omega
          go_wp2_with fail
          go_ret
          refine ⟨?_, hB⟩
          rw [getElem?_all_eq HL.out HC.out]; simp
  · obtain ⟨p1, c1, rfl⟩ := n1
    obtain ⟨p2, c2, rfl⟩ := n2
    have HL : Hid (¬ a.length = b.length) := hl
    have hn : ((a.length : Int) != (b.length : Int)) = true := by rw [bne_iff_ne]; omega
    clear hl h1 h2
    go_enter Tryd.func9, Tryd.ntmps9
    go_wp2_with fail
    go_ret
    refine ⟨?_, Below.refl _ _⟩
    have : (a == b) = false := by
      apply Bool.eq_false_iff.2
      intro e
      rw [eq_of_beq e] at HL
      exact HL.out rfl
    rw [this]; rfl
theorem owns_pairs {w : World} {base : Nat} {v : Value} {l : List (Nat × Nat)} (h : w.ownsRow base 29 2 v l.length (encPs l)) : PrsAt w v (l.map (fun x => (((x.1 : Nat) : Int), ((x.2 : Nat) : Int)))) := by
  rcases h.2 with ⟨e, e2⟩ | ⟨g, cap, cur, e, _, hb, _, _, _, ht⟩
  · left
    refine ⟨e, ?_⟩
    rw [List.eq_nil_of_length_eq_zero e2]; rfl
  · right
    refine ⟨g, 0, cap, by rw [List.length_map]; exact e, (Array.getElem?_eq_some_iff.1 hb).1, ?_⟩
    intro i x hx
    have hk : Blk w g 29 cur := hb
    rw [List.getElem?_map] at hx
    cases hl : l[i]? with
    | none => rw [hl] at hx; cases hx
    | some y =>
      rw [hl] at hx
      simp at hx
      subst hx
      have hi : i < l.length := (List.getElem?_eq_some_iff.1 hl).1
      have key : ∀ (l : List (Nat × Nat)) (i : Nat) (y : Nat × Nat), l[i]? = some y → (encPs l)[i * 2]? = some (.int .i64 ((y.1 : Nat) : Int)) ∧ (encPs l)[i * 2 + 1]? = some (.int .i64 ((y.2 : Nat) : Int)) := by
        intro l
        induction l with
        | nil => intro i y h; simp at h
        | cons z l ih =>
          intro i y h
          match i with
          | 0 => simp at h; subst h; exact ⟨rfl, rfl⟩
          | i + 1 =>
            have := ih i y (by simpa using h)
            rw [show (i + 1) * 2 = i * 2 + 1 + 1 from by omega]
            exact this
      obtain ⟨k1, k2⟩ := key l i y hl
      rw [← ht, List.getElem?_take_of_lt (by omega)] at k1 k2
      rw [Nat.zero_add]
      exact ⟨hk.cell (by simpa using k1), hk.cell (by simpa using k2)⟩
end Go.Proofs.YtogifpilfckenaaDoor
