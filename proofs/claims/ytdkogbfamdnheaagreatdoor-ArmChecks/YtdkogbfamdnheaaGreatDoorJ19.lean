import Derived.Test.YtdkogbfamdnheaaGreatDoorJ18
import Derived.Test.YtdkogbfamdnheaaGreatDoorJ16
namespace Go.Proofs.YtdkogbfamdnheaaGreatDoor
open Go.RowKit Go.Shelf Sx Relation
set_option maxRecDepth 100000
set_option maxHeartbeats 16000000
set_option linter.unusedSimpArgs false
set_option linter.unusedVariables false
section
variable {N : Nat} {F : Nat → Nat → Bool} {L : List Nat}
theorem Qyc (h : Qkt N F L) (hl : L.length = N) (k : Nat) (hk : k ≤ N) : Qkt N (Qan F k) (Qc9 L k) := by
 induction k with
 | zero => exact h
 | succ k ih =>
  intro p q hp hq
  have ih := ih oW
  rw [Qfe, Bool.or_eq_true, Bool.and_eq_true, Qhu hl, ih p q hp hq, ih p k hp oW, ih k q oW hq]
theorem Qz6 (h : Qkt N F L) (hl : L.length = N) : Qkt N (Qan F N) (Qci L) := by
 have := Qyc h hl N nW
 unfold Qci
 rw [hl]
 exact this
end
section
variable {n m N : Nat} {F G : Nat → Nat → Bool} {A B : List Nat}
theorem Twin.ext (h : Twin n F A) (p q : Nat) : Qad n F p q = true ↔ hs A p q := by
 unfold Qad
 rw [Bool.and_eq_true, Bool.and_eq_true, decide_eq_true_eq, decide_eq_true_eq]
 constructor
 ·rintro ⟨h1, h2, h3⟩
  exact (h.same p q h1 h2).1 h3
 ·intro h1
  have h2 := Qbb h1
  rw [h.wf.len] at h2
  exact ⟨h2, h.wf.low _ _ h1, (h.same p q h2 (h.wf.low _ _ h1)).2 h1⟩
theorem Qyd (ha : Twin n F A) (hb : Twin m G B) (HN : N = max n m) : Twin N (fun p q => Qad n F p q && !Qad m G p q) (Qcn A B) := by
 have hl : max A.length B.length = N := by rw [ha.wf.len, hb.wf.len, HN]
 have key : ∀ p q, hs (Qcn A B) p q ↔ hs A p q ∧ ¬ hs B p q := fun p q => by
  unfold Qcn
  rw [hl, Qh0 nW, Qby, Bool.and_eq_true, Bool.not_eq_true']
  unfold hs
  rw [Bool.not_eq_true]
  exact ⟨fun h => h.2, fun h => ⟨by have := ha.low (show hs A p q from h.1); omega, h⟩⟩
 refine Twin.mk' (by unfold Qcn; rw [Qaz, hl]) ?_ ?_
 ·intro p q h
  have := ha.low ((key p q).1 h).1; omega
 ·intro p q _ _
  rw [Bool.and_eq_true, ha.ext, Bool.not_eq_true', ← Bool.not_eq_true, hb.ext, key]
theorem Qtc (X Y : Nat → Nat → Bool) (k p q : Nat) : Qdt X Y k p q = true ↔ ∃ r, r < k ∧ X p r = true ∧ Y r q = true := by
 induction k with
 | zero => simp [Qdt]
 | succ k ih =>
  rw [Qk6, Bool.or_eq_true, ih, Bool.and_eq_true]
  constructor
  ·rintro (⟨r, h1, h2⟩ | h)
   ·exact ⟨r, oW, h2⟩
   ·exact ⟨k, oW, h⟩
  ·rintro ⟨r, h1, h2⟩
   by_cases e : r = k
   ·subst e; exact Or.inr h2
   ·exact Or.inl ⟨r, oW, h2⟩
theorem Qz7 (hn : n ≤ 256) (ha : Twin n F A) (hb : Twin m G B) (HN : N = max n m) : Twin N (Qdt (Qad n F) (Qad m G) N) (Qaw A B) := by
 have hl : max A.length B.length = N := by rw [ha.wf.len, hb.wf.len, HN]
 have key : ∀ p q, hs (Qaw A B) p q ↔ ∃ r, hs A p r ∧ hs B r q := fun p q => by
  unfold Qaw
  rw [hl]
  have e : Qbc N (fun p => Qal B (Qae (gr A p))) A.length = Qbc N (fun p => Qal B (Qae (gr A p))) N := by
   unfold Qbc
   apply List.map_congr_left
   intro p hp
   have hp : p < N := by simpa using hp
   rw [if_pos hp]
   by_cases h : p < A.length
   ·rw [if_pos h]
   ·rw [if_neg h]
    show 0 = Qal B (Qae (gr A p))
    rw [Qle h]
    have : Qae 0 = [] := by
     cases e : Qae 0 with
     | nil => rfl
     | cons x l =>
      have : x ∈ Qae 0 := by rw [e]; simp
      have := (Qa1.1 this).2
      simp at this
    rw [this]
    rfl
  rw [e, Qh0 nW]
  unfold Qal
  rw [Qh]
  constructor
  ·rintro ⟨_, h | ⟨r, hr, h⟩⟩
   ·simp at h
   ·exact ⟨r, (Qa1.1 hr).2, h⟩
  ·rintro ⟨r, h1, h2⟩
   have := ha.low h1
   exact ⟨oW, Or.inr ⟨r, Qa1.2 ⟨oW, h1⟩, h2⟩⟩
 refine Twin.mk' (by unfold Qaw; rw [Qaz, hl]) ?_ ?_
 ·intro p q h
  obtain ⟨r, _, h⟩ := (key p q).1 h
  have := hb.low h; omega
 ·intro p q _ _
  rw [Qtc, key]
  constructor
  ·rintro ⟨r, _, h1, h2⟩
   exact ⟨r, (ha.ext p r).1 h1, (hb.ext r q).1 h2⟩
  ·rintro ⟨r, h1, h2⟩
   have := hb.low h2
   exact ⟨r, oW, (ha.ext p r).2 h1, (hb.ext r q).2 h2⟩
end
end Go.Proofs.YtdkogbfamdnheaaGreatDoor
namespace Go.Proofs.YtdkogbfamdnheaaGreatDoor
open Go.RowKit Go.Shelf Sx
set_option maxRecDepth 100000
set_option maxHeartbeats 16000000
set_option linter.unusedSimpArgs false
set_option linter.unusedVariables false
def Qaf (F : Nat → Nat → Bool) (N p : Nat) : Nat → Nat → Int
 | 0 => fun _ => -1
 | n + 1 => fun i => if Qaf F N p n i < 0 then (if (List.range N).any (fun j => F i j && (if n = 0 then decide (j = p) else Qaf F N p n j == ((n : Nat) : Int))) then ((n + 1 : Nat) : Int) else -1) else Qaf F N p n i
def Qew (F : Nat → Nat → Bool) (N p n j : Nat) : Bool := if n = 0 then decide (j = p) else Qaf F N p n j == ((n : Nat) : Int)
def Qfx (F : Nat → Nat → Bool) (N p n i : Nat) : Bool := (List.range N).any fun j => F i j && Qew F N p n j
theorem Qb1 (F : Nat → Nat → Bool) (N p n i : Nat) : Qaf F N p (n + 1) i = if Qaf F N p n i < 0 then (if Qfx F N p n i then ((n + 1 : Nat) : Int) else -1) else Qaf F N p n i := rfl
theorem Qnj (F : Nat → Nat → Bool) (N p n i : Nat) : -1 ≤ Qaf F N p n i ∧ Qaf F N p n i ≤ ((n : Nat) : Int) := by
 induction n with
 | zero => exact ⟨by show (-1 : Int) ≤ -1; omega, by show (-1 : Int) ≤ 0; omega⟩
 | succ n ih =>
  rw [Qb1]
  split
  ·split
   ·exact ⟨oW, oW⟩
   ·exact ⟨oW, oW⟩
  ·exact ⟨ih.1, oW⟩
theorem Qlg {F : Nat → Nat → Bool} {N p n i : Nat} (h : Qaf F N p n i < 0) : Qaf F N p n i = -1 := by
 have := (Qnj F N p n i).1
 omega
def Qbs (F : Nat → Nat → Bool) (N p n i : Nat) : Nat → Int := fun x => if x < i then Qaf F N p (n + 1) x else Qaf F N p n x
theorem Qye (F : Nat → Nat → Bool) (N p n i j : Nat) (hn : 0 < n) : (Qbs F N p n i j == ((n : Nat) : Int)) = (Qaf F N p n j == ((n : Nat) : Int)) := by
 unfold Qbs
 split
 ·rw [Qb1]
  split
  ·rename_i h
   have h1 := Qlg h
   split
   ·rw [Bool.eq_iff_iff, beq_iff_eq, beq_iff_eq]; omega
   ·rw [Bool.eq_iff_iff, beq_iff_eq, beq_iff_eq]; omega
  ·rfl
 ·rfl
theorem Qv (F : Nat → Nat → Bool) (N p n x : Nat) : Qaf F N p n x = Qbs F N p n 0 x := by unfold Qbs; rw [if_neg oW]
theorem Qva (F : Nat → Nat → Bool) (N p n x : Nat) (hx : x < N) : Qbs F N p n N x = Qaf F N p (n + 1) x := by unfold Qbs; rw [if_pos hx]
theorem Qmr {F : Nat → Nat → Bool} {N p n i : Nat} (h : Qaf F N p (n + 1) i = Qaf F N p n i) (x : Nat) : Qbs F N p n i x = Qbs F N p n (i + 1) x := by
 unfold Qbs
 by_cases h1 : x < i
 ·rw [if_pos h1, if_pos oW]
 ·rw [if_neg h1]
  by_cases h2 : x = i
  ·subst h2; rw [if_pos oW, h]
  ·rw [if_neg oW]
theorem Qoq {F : Nat → Nat → Bool} {N p n i : Nat} {v : Int} (h : Qaf F N p (n + 1) i = v) (x : Nat) : (if x = i then v else Qbs F N p n i x) = Qbs F N p n (i + 1) x := by
 unfold Qbs
 by_cases h2 : x = i
 ·subst h2; rw [if_pos rfl, if_pos oW, h]
 ·rw [if_neg h2]
  by_cases h1 : x < i
  ·rw [if_pos h1, if_pos oW]
  ·rw [if_neg h1, if_neg oW]
def Qfy (N : Nat) (T : Nat → Int) : Array Value := ((List.range N).map fun i => Value.int .i64 (T i)).toArray
theorem Qgo {N i : Nat} {T : Nat → Int} (h : i < N) : (Qfy N T)[i]? = some (.int .i64 (T i)) := by simp [Qfy, h]
theorem Qyf {N : Nat} {T T' : Nat → Int} (h : ∀ i, i < N → T i = T' i) : Qfy N T = Qfy N T' := by
 unfold Qfy
 congr 1
 exact List.map_congr_left fun i hi => by rw [h i (List.mem_range.1 hi)]
theorem QCq {N i : Nat} {T : Nat → Int} (v : Int) : (Qfy N T).setIfInBounds i (.int .i64 v) = Qfy N (fun x => if x = i then v else T x) := by
 unfold Qfy
 rw [List.setIfInBounds_toArray]
 congr 1
 apply List.ext_getElem?
 intro x
 rw [List.getElem?_set]
 by_cases e : i = x
 ·subst e
  by_cases h : i < N
  ·simp [h]
  ·simp [h]
 ·rw [if_neg e]
  by_cases hx : x < N
  ·simp [hx]
   intro h2
   exact absurd h2.symm e
  ·rw [List.getElem?_eq_none (by simp; omega), List.getElem?_eq_none (by simp; omega)]
theorem Qyg (n : Nat) (h : n ≤ 256) (w : World) : (Instr.makeSlice 36 (.int .i64 n) (.int .i64 n)).run Tryz.prog w = .ok (.slice (some ⟨w.heap.size, 0, none⟩) n n) (w.alloc (.cells (Qfy n (fun _ => 0)) 3)) := by
 obtain ⟨i, hx, hz, hs, hb⟩ := info_parts Tryz.infoint
 have := run_make (P := Tryz.prog) w 36 3 i _ Tryz.underlying36 hx hz .i64 .i64 n n oW oW (by rw [hb]; omega) oW
 rw [this, hs]
 have e : madeCells (Value.int .i64 0).cells ((n : Int).toNat * 1) = Qfy n (fun _ => 0) := by
  apply Array.toList_inj.1
  rw [Int.toNat_natCast, Nat.mul_one, show (Value.int .i64 0).cells = #[.int .i64 0] from rfl, toList_madeCells_one]
  unfold Qfy
  apply List.ext_getElem?
  intro x
  by_cases hx : x < n
  ·simp [hx]
  ·rw [List.getElem?_eq_none (by simp; omega), List.getElem?_eq_none (by simp; omega)]
 rw [e]
 rfl
structure FarAt (w W : World) (N : Nat) (A : Value) (T : Nat → Int) : Prop where
 below : Below w.heap.size w W
 box : Blk W w.heap.size 51 #[.int .i64 ((N : Nat) : Int), A]
 row : Blk W (w.heap.size + 1) 3 (Qfy N T)
theorem FarAt.congr {w W : World} {N : Nat} {A : Value} {T T' : Nat → Int} (h : FarAt w W N A T) (ht : ∀ y, y < N → T y = T' y) : FarAt w W N A T' :=
 ⟨h.below, h.box, by rw [← Qyf ht]; exact h.row⟩
theorem FarAt.put {w W : World} {N : Nat} {A : Value} {T : Nat → Int} (h : FarAt w W N A T) (q : Nat) (v : Int) : FarAt w (W.setCell ⟨w.heap.size + 1, q, none⟩ (.int .i64 v)) N A (fun y => if y = q then v else T y) := by
 refine ⟨h.below.setCell sW _, h.box.setOther sW _, ?_⟩
 have := h.row.set q (.int .i64 v)
 rwa [QCq] at this
def Qor (F : Nat → Nat → Bool) (N p n i j : Nat) : Prop := ∀ x, x < j → (F i x && Qew F N p n x) = false
theorem QF5 {F : Nat → Nat → Bool} {N p n i : Nat} (h : Qor F N p n i N) : Qfx F N p n i = false := by
 unfold Qfx
 rw [List.any_eq_false]
 intro x hx
 rw [h x (by simpa using hx)]
 simp
theorem Qtd {F : Nat → Nat → Bool} {N p n i j : Nat} (hj : j < N) (h : (F i j && Qew F N p n j) = true) : Qfx F N p n i = true := by
 unfold Qfx
 rw [List.any_eq_true]
 exact ⟨j, by simpa using hj, h⟩
theorem Qpt {F : Nat → Nat → Bool} {N p n i j : Nat} (h : Qor F N p n i j) (hj : (F i j && Qew F N p n j) = false) : Qor F N p n i (j + 1) := by
 intro x hx
 by_cases e : x = j
 ·rw [e]; exact hj
 ·exact h x oW
theorem Qwc {p : Prop} (h : p) : Hid p := h
theorem Qte (lo N : Nat) (hN : N ≤ 256) (x : Option Addr) (y z : Nat) (rb : Nat → Nat) (F : Nat → Nat → Bool) (p : Nat) (_hp : p < 256) (w : World) (h : RefM lo w (.slice x y z) N N rb F) :
  Calls Tryz.prog 110 #[.agg #[.int .i64 ((N : Nat) : Int), .slice x y z], .int .i64 ((p : Nat) : Int)] w fun e w' => ∃ lb, e = .returned (.slice (some ⟨lb, 0, none⟩) N N) ∧ w.heap.size ≤ lb ∧ Blk w' lb 3 (Qfy N (Qaf F N p N)) ∧ Below w.heap.size w w' := by
 have hmk := Qyg N hN
 have hA : FarAt w ((w.alloc (.cells #[.int .i64 ((N : Nat) : Int), .slice x y z] 51)).alloc (.cells (Qfy N (fun _ => 0)) 3)) N (.slice x y z) (fun x => if x < 0 then -1 else 0) :=
  FarAt.congr (T := fun _ => 0) ⟨((Below.refl _ w).alloc nW _).alloc sW _, (Blk.new w _ _).alloc _, Blk.new2 w _ _ _⟩ (fun y _ => by rw [if_neg oW])
 go_enter Tryz.func110, Tryz.ntmps110
 go_wp2_with fail
 clear hmk
 go_loopw [6] (fun i wr => ∃ k, k ≤ N ∧ i = .int .i64 ((k : Nat) : Int) ∧ FarAt w wr N (.slice x y z) (fun x => if x < k then -1 else 0)) (fun i _ => N - (intOf i).toNat)
 case atStart => exact ⟨0, oW, rfl, hA⟩
 case round =>
  clear hA
  obtain ⟨k, hk, rfl, hA⟩ := hrel
  have c0 := hA.box.cell (j := 0) rfl
  by_cases hlt : k < N
  ·have u1 := hA.row.cell (Qgo hlt)
   rw [if_neg oW] at u1
   have fz := hA.row.frozen k
   have hA2 := (hA.put k (-1)).congr (T' := fun x => if x < k + 1 then -1 else 0) (fun y _ => by
    by_cases e : y = k
    ·rw [if_pos e, if_pos oW]
    ·rw [if_neg e]
     by_cases h1 : y < k
     ·rw [if_pos h1, if_pos oW]
     ·rw [if_neg h1, if_neg oW])
   go_wp2_with fail
   refine ⟨⟨k + 1, oW, by go_num, hA2⟩, by simp [intOf]; omega⟩
  ·have e : N = k := by omega
   subst e
   have hA := hA.congr (T' := Qaf F N p 0) (fun y hy => by rw [if_pos hy]; rfl)
   go_wp2_with fail
   clear c0
   go_loopw [7] (fun i wr => ∃ n m, n ≤ N ∧ i = .int .i64 ((m : Nat) : Int) ∧ Hid (m = n + 1) ∧ FarAt w wr N (.slice x y z) (Qaf F N p n)) (fun i _ => N + 1 - (intOf i).toNat)
   case atStart => exact ⟨0, 1, oW, rfl, rfl, hA⟩
   case round =>
    clear hA
    obtain ⟨n, m, hn, rfl, Hm, hA⟩ := hrel
    have c0 := hA.box.cell (j := 0) rfl
    by_cases hlt : n < N
    ·have hmN : m ≤ N := by have := Hm.out; omega
     have hm1 : 1 ≤ m := by have := Hm.out; omega
     go_wp2_with fail
     clear c0
     have hA := hA.congr (fun x _ => Qv F N p n x)
     go_loopw [8] (fun i wr => ∃ k, k ≤ N ∧ i = .int .i64 ((k : Nat) : Int) ∧ FarAt w wr N (.slice x y z) (Qbs F N p n k)) (fun i _ => N - (intOf i).toNat)
     case atStart => exact ⟨0, oW, rfl, hA⟩
     case round =>
      clear hA
      obtain ⟨k, hk, rfl, hA⟩ := hrel
      have c0 := hA.box.cell (j := 0) rfl
      by_cases hltk : k < N
      ·have hTk : Qbs F N p n k k = Qaf F N p n k := by unfold Qbs; rw [if_neg oW]
       by_cases hneg : Qaf F N p n k < 0
       ·have Hneg : Hid (Qaf F N p n k = -1) := Qlg hneg
        have Hlt : Hid (Qaf F N p n k < 0) := hneg
        have HTk : Hid (Qbs F N p n k k = Qaf F N p n k) := hTk
        clear hneg hTk
        go_wp2_with fail
        clear c0
        go_loopw [9] (fun i wr => ∃ j, j ≤ N ∧ i = .int .i64 ((j : Nat) : Int) ∧ ((FarAt w wr N (.slice x y z) (Qbs F N p n k) ∧ Qor F N p n k j) ∨ (FarAt w wr N (.slice x y z) (Qbs F N p n (k + 1)) ∧ Hid (Qaf F N p (n + 1) k = ((m : Nat) : Int))))) (fun i _ => N - (intOf i).toNat)
        case atStart => exact ⟨0, oW, rfl, .inl ⟨hA, fun x hx => by omega⟩⟩
        case round =>
         clear hA
         obtain ⟨j, hj, rfl, hor⟩ := hrel
         rcases hor with ⟨hA, hL⟩ | ⟨hA, HV⟩
         ·have HL := Qwc hL
          clear hL
          have c0 := hA.box.cell (j := 0) rfl
          have u1 := hA.row.cell (Qgo hltk)
          rw [HTk.out, Hneg.out] at u1
          by_cases hltj : j < N
          ·skip
           have c1 := hA.box.cell (j := 1) rfl
           obtain ⟨g, cap, e, _, _, _, d0, d1, _, _⟩ := (h.below hA.below).at_ hltk hltj
           cases e
           have fz := hA.row.frozen k
           cases hf : F k j
           ·rw [hf] at d1
            have HL2 := Qpt HL.out (by rw [hf]; rfl)
            clear hf
            go_wp2_with fail
            refine ⟨⟨j + 1, oW, by go_num, .inl ⟨hA, HL2⟩⟩, by simp [intOf]; omega⟩
           ·rw [hf] at d1
            by_cases hn0 : n = 0
            ·have e1 : ((m : Int) == 1) = true := by have := Hm.out; rw [beq_iff_eq]; omega
             by_cases hjp : j = p
             ·have HV : Hid (Qaf F N p (n + 1) k = (m : Int)) := by
               show _ = _
               rw [Qb1, if_pos Hlt.out, Qtd hltj (by rw [hf]; unfold Qew; rw [if_pos hn0]; simp [hjp]), if_pos rfl, Hm.out]
              have hA2 := (hA.put k ((m : Nat) : Int)).congr (fun x _ => Qoq HV.out x)
              have e2 : ((j : Int) == (p : Int)) = true := by rw [hjp]; simp
              clear hf hn0 hjp
              go_wp2_with fail
              refine ⟨⟨j + 1, oW, by go_num, .inr ⟨hA2, HV⟩⟩, by simp [intOf]; omega⟩
             ·have HL2 := Qpt HL.out (by rw [hf]; unfold Qew; rw [if_pos hn0]; simp [hjp])
              have e2 : ((j : Int) == (p : Int)) = false := by rw [beq_eq_false_iff_ne]; omega
              have e3 : ¬ (1 : Int) < (m : Int) := by have := Hm.out; omega
              have e4 : decide ((1 : Int) < (m : Int)) = false := decide_eq_false e3
              clear hf hn0 hjp
              go_wp2_with fail
              refine ⟨⟨j + 1, oW, by go_num, .inl ⟨hA, HL2⟩⟩, by simp [intOf]; omega⟩
            ·have e1 : ((m : Int) == 1) = false := by have := Hm.out; rw [beq_eq_false_iff_ne]; omega
             have e3 : (1 : Int) < (m : Int) := by have := Hm.out; omega
             have uj := hA.row.cell (Qgo hltj)
             have hmn : (m : Int) - 1 = (n : Int) := by have := Hm.out; omega
             have hmh := Qye F N p n k j oW
             cases hjn : (Qaf F N p n j == ((n : Nat) : Int))
             ·have HL2 := Qpt HL.out (by rw [hf]; unfold Qew; rw [if_neg hn0, hjn]; rfl)
              rw [hjn, ← hmn] at hmh
              clear hf hn0 hjn hmn
              generalize Qbs F N p n k j = tv at uj hmh
              go_wp2_with fail
              refine ⟨⟨j + 1, oW, by go_num, .inl ⟨hA, HL2⟩⟩, by simp [intOf]; omega⟩
             ·have HV : Hid (Qaf F N p (n + 1) k = (m : Int)) := by
               show _ = _
               rw [Qb1, if_pos Hlt.out, Qtd hltj (by rw [hf]; unfold Qew; rw [if_neg hn0, hjn]; rfl), if_pos rfl, Hm.out]
              have hA2 := (hA.put k ((m : Nat) : Int)).congr (fun x _ => Qoq HV.out x)
              rw [hjn, ← hmn] at hmh
              clear hf hn0 hjn hmn
              generalize Qbs F N p n k j = tv at uj hmh
              go_wp2_with fail
              refine ⟨⟨j + 1, oW, by go_num, .inr ⟨hA2, HV⟩⟩, by simp [intOf]; omega⟩
          ·have e : N = j := by omega
           subst e
           have hA2 := hA.congr (fun x _ => Qmr (by rw [Qb1, if_pos Hlt.out, QF5 HL.out, Hneg.out]; rfl) x)
           go_wp2_with fail
           refine ⟨⟨k + 1, oW, by go_num, hA2⟩, by simp [intOf]; omega⟩
         ·have u1 := hA.row.cell (Qgo hltk)
          rw [show Qbs F N p n (k + 1) k = (m : Int) by unfold Qbs; rw [if_pos oW]; exact HV.out] at u1
          go_wp2_with fail
          refine ⟨⟨k + 1, oW, by go_num, hA⟩, by simp [intOf]; omega⟩
       ·have hkeep : Qaf F N p (n + 1) k = Qaf F N p n k := by rw [Qb1, if_neg hneg]
        have hA2 := hA.congr (fun x _ => Qmr hkeep x)
        have Hge : Hid (Qbs F N p n (k + 1) k = Qaf F N p n k) := by show _ = _; unfold Qbs; rw [if_pos oW, hkeep]
        have hge0 : ¬ Qaf F N p n k < 0 := hneg
        clear hA hkeep hTk hneg
        generalize Qaf F N p n k = fv at *
        go_wp2_with fail
        clear c0
        go_loopw [9] (fun i wr => i = .int .i64 0 ∧ FarAt w wr N (.slice x y z) (Qbs F N p n (k + 1))) (fun _ _ => 0)
        case atStart => exact ⟨rfl, hA2⟩
        case round =>
         clear hA2
         obtain ⟨rfl, hA⟩ := hrel
         have u1 := hA.row.cell (Qgo hltk)
         rw [Hge.out] at u1
         go_wp2_with fail
         refine ⟨⟨k + 1, oW, by go_num, hA⟩, by simp [intOf]; omega⟩
      ·have e : N = k := by omega
       subst e
       have hA2 := hA.congr (fun x hx => Qva F N p n x hx)
       have hm2 : m + 1 = (n + 1) + 1 := by have := Hm.out; omega
       go_wp2_with fail
       refine ⟨⟨n + 1, m + 1, oW, by go_num, hm2, hA2⟩, by simp [intOf]; omega⟩
    ·have e : N = n := by omega
     subst e
     have hm2 : ¬ (m : Int) ≤ (N : Int) := by have := Hm.out; omega
     go_wp2_with fail
     go_ret
     exact ⟨_, rfl, oW, hA.row, hA.below⟩
theorem Qms {w : World} {base base' : Nat} {e : TypeId} {size : Nat} {v : Value} {n : Nat} {xs : List Value} (h : w.ownsRow base e size v n xs) (hb : base' ≤ base) : w.ownsRow base' e size v n xs := by
 refine ⟨h.1, ?_⟩
 rcases h.2 with h2 | ⟨g, cap, cur, e1, e2, e3⟩
 ·exact .inl h2
 ·exact .inr ⟨g, cap, cur, e1, Nat.le_trans hb e2, e3⟩
theorem QF6 {F : Nat → Nat → Bool} {N p r i n : Nat} (h : Qaf F N p r i = ((n + 1 : Nat) : Int)) : n + 1 ≤ r ∧ Qfx F N p n i = true := by
 induction r with
 | zero =>
  have : (-1 : Int) = ((n + 1 : Nat) : Int) := h
  omega
 | succ r ih =>
  rw [Qb1] at h
  split at h
  ·split at h
   ·rename_i h1 h2
    obtain rfl : r = n := by omega
    exact ⟨Nat.le_refl _, h2⟩
   ·omega
  ·have := ih h
   exact ⟨oW, this.2⟩
theorem QF7 {F : Nat → Nat → Bool} {N p r i : Nat} (h : ¬ Qaf F N p r i < 0) : 1 ≤ Qaf F N p r i := by
 induction r with
 | zero => exact absurd (show (-1 : Int) < 0 by omega) h
 | succ r ih =>
  rw [Qb1] at h ⊢
  split
  ·rename_i h1
   rw [if_pos h1] at h
   split
   ·omega
   ·rename_i h2
    rw [if_neg h2] at h
    omega
  ·rename_i h1
   exact ih h1
theorem Qqr {F : Nat → Nat → Bool} {N p n r i : Nat} (hr : n ≤ r) (h : Qaf F N p n i = ((n : Nat) : Int)) : Qaf F N p r i = ((n : Nat) : Int) := by
 induction r with
 | zero =>
  obtain rfl : n = 0 := by omega
  exact h
 | succ r ih =>
  by_cases e : n = r + 1
  ·rw [← e]; exact h
  ·have := ih oW
   rw [Qb1, this, if_neg oW]
theorem QCr {F : Nat → Nat → Bool} {N p i n : Nat} (hn : 0 < n) (h : Qaf F N p N i = ((n + 1 : Nat) : Int)) : ∃ q, q < N ∧ F i q = true ∧ Qaf F N p N q = ((n : Nat) : Int) := by
 obtain ⟨h1, h2⟩ := QF6 h
 unfold Qfx at h2
 rw [List.any_eq_true] at h2
 obtain ⟨q, hq, h3⟩ := h2
 rw [Bool.and_eq_true] at h3
 unfold Qew at h3
 rw [if_neg oW, beq_iff_eq] at h3
 exact ⟨q, by simpa using hq, h3.1, Qqr oW h3.2⟩
def Qgc (F : Nat → Nat → Bool) (N p : Nat) : Nat → Nat → List Nat → Prop
 | _, 0, l => l = []
 | at_, n + 1, l => ∃ q l', l = q :: l' ∧ q < N ∧ F at_ q = true ∧ Qaf F N p N q = ((n + 1 : Nat) : Int) ∧ (∀ x, x < q → ¬ (F at_ x = true ∧ Qaf F N p N x = ((n + 1 : Nat) : Int))) ∧ Qgc F N p q n l'
def Qnk (F : Nat → Nat → Bool) (N : Nat) (out : List Nat) : Prop :=
 ((∀ p, p < N → Qan F N p p = false) ∧ out = []) ∨ ∃ p l, p < N ∧ Qan F N p p = true ∧ (∀ x, x < p → Qan F N x x = false) ∧ out = p :: l ∧ Qgc F N p p (Qaf F N p N p - 1).toNat l
structure CyAt (w W : World) (N : Nat) (A P : Value) (rp : Nat → Nat) (F : Nat → Nat → Bool) (bp : Nat) : Prop where
 below : Below w.heap.size w W
 box : Blk W w.heap.size 51 #[.int .i64 ((N : Nat) : Int), A]
 pbx : Blk W bp 51 #[.int .i64 ((N : Nat) : Int), P]
 plus : RefM 0 W P N N rp (Qan F N)
theorem CyAt.step {w W W' : World} {N : Nat} {A P : Value} {rp : Nat → Nat} {F : Nat → Nat → Bool} {bp : Nat} (h : CyAt w W N A P rp F bp) (hB : Below W.heap.size W W') : CyAt w W' N A P rp F bp :=
 ⟨Qaa h.below h.below.size hB, h.box.of_below hB, h.pbx.of_below hB, h.plus.below hB⟩
structure CyL (w W : World) (W0 : World) (N : Nat) (A : Value) (T : Nat → Int) (lb : Nat) (v : Value) (out : List Nat) : Prop where
 below : Below w.heap.size w W
 box : Blk W w.heap.size 51 #[.int .i64 ((N : Nat) : Int), A]
 row : Blk W lb 3 (Qfy N T)
 own : W.ownsRow W0.heap.size 3 1 v out.length (Qcl out)
 hlb : lb < W0.heap.size
 hw : w.heap.size < W0.heap.size
 hsz : W0.heap.size ≤ W.heap.size
theorem CyL.more {w W W' W0 : World} {N : Nat} {A : Value} {T : Nat → Int} {lb : Nat} {v v' : Value} {out : List Nat} {q : Nat} (h : CyL w W W0 N A T lb v out)
  (hown : W'.ownsRow W0.heap.size 3 1 v' (out.length + 1) (Qcl out ++ [.int .i64 ((q : Nat) : Int)])) (hg : (W.alloc (.cells #[.int .i64 ((q : Nat) : Int)] 3)).grownBy W' v.ownBlock) : CyL w W' W0 N A T lb v' (out ++ [q]) := by
 have hlt := h.box.lt
 have hl2 := h.row.lt
 have hlb := h.hlb
 have hw := h.hw
 have hge : ∀ k, v.ownBlock = some k → W0.heap.size ≤ k := fun k e => (h.own.lt k e).1
 have hs1 := hg.size
 have hs2 := h.hsz
 refine ⟨(h.below.alloc h.below.size _).grown hg (by simp; omega) (fun k e => by have := hge k e; omega), ?_, ?_, ?_, hlb, hw, by simp at hs1; omega⟩
 ·exact (hg.block _ (by simp; omega) (fun e => by have := hge _ e.symm; omega)).trans (h.box.alloc _)
 ·exact (hg.block _ (by simp; omega) (fun e => by have := hge _ e.symm; omega)).trans (h.row.alloc _)
 ·rw [Qqc, List.length_append]
  exact hown
def Tells (F : Nat → Nat → Bool) (N p : Nat) (out : List Nat) (at_ n : Nat) : Prop := ∀ l, Qgc F N p at_ n l → Qnk F N (out ++ l)
theorem Tells.next {F : Nat → Nat → Bool} {N p : Nat} {out : List Nat} {at_ n q : Nat} (h : Tells F N p out at_ (n + 1)) (hq : q < N) (h1 : F at_ q = true) (h2 : Qaf F N p N q = ((n + 1 : Nat) : Int)) (h3 : ∀ x, x < q → ¬ (F at_ x = true ∧ Qaf F N p N x = ((n + 1 : Nat) : Int))) : Tells F N p (out ++ [q]) q n := by
 intro l hl
 rw [List.append_assoc]
 exact h (q :: l) ⟨q, l, rfl, hq, h1, h2, h3, hl⟩
def Qjr (F : Nat → Nat → Bool) (T : Nat → Int) (N at_ n k : Nat) (v : Int) : Prop :=
 (v = -1 ∧ ∀ q, k ≤ q → q < N → ¬ (F at_ q = true ∧ T q = ((n : Nat) : Int))) ∨ ∃ q, v = ((q : Nat) : Int) ∧ k ≤ q ∧ q < N ∧ (F at_ q = true ∧ T q = ((n : Nat) : Int)) ∧ ∀ x, k ≤ x → x < q → ¬ (F at_ x = true ∧ T x = ((n : Nat) : Int))
theorem Qyh (F : Nat → Nat → Bool) (T : Nat → Int) (N at_ n : Nat) : Qjr F T N at_ n N (-1) := .inl ⟨rfl, fun q h1 h2 => by omega⟩
theorem QCs {F : Nat → Nat → Bool} {T : Nat → Int} {N at_ n k : Nat} (hk : k < N) (h : F at_ k = true ∧ T k = ((n : Nat) : Int)) : Qjr F T N at_ n k ((k : Nat) : Int) :=
 .inr ⟨k, rfl, Nat.le_refl _, hk, h, fun x h1 h2 => by omega⟩
theorem Qqs {F : Nat → Nat → Bool} {T : Nat → Int} {N at_ n k : Nat} {v : Int} (h : Qjr F T N at_ n (k + 1) v) (hm : ¬ (F at_ k = true ∧ T k = ((n : Nat) : Int))) : Qjr F T N at_ n k v := by
 rcases h with ⟨rfl, h⟩ | ⟨q, rfl, h1, h2, h3, h4⟩
 ·refine .inl ⟨rfl, fun q hq1 hq2 => ?_⟩
  by_cases e : q = k
  ·rw [e]; exact hm
  ·exact h q oW hq2
 ·refine .inr ⟨q, rfl, oW, h2, h3, fun x hx1 hx2 => ?_⟩
  by_cases e : x = k
  ·rw [e]; exact hm
  ·exact h4 x oW hx2
theorem QCt {F : Nat → Nat → Bool} {T : Nat → Int} {N at_ n : Nat} {v : Int} (h : Qjr F T N at_ n 0 v) (he : ∃ q, q < N ∧ F at_ q = true ∧ T q = ((n : Nat) : Int)) : ∃ q, v = ((q : Nat) : Int) ∧ q < N ∧ F at_ q = true ∧ T q = ((n : Nat) : Int) ∧ ∀ x, x < q → ¬ (F at_ x = true ∧ T x = ((n : Nat) : Int)) := by
 rcases h with ⟨_, h⟩ | ⟨q, h0, _, h2, h3, h4⟩
 ·obtain ⟨q, h1, h2, h3⟩ := he
  exact absurd ⟨h2, h3⟩ (h q oW h1)
 ·exact ⟨q, h0, h2, h3.1, h3.2, fun x hx => h4 x oW hx⟩
theorem Qpu (lo N : Nat) (hN : N ≤ 256) (x : Option Addr) (y z : Nat) (rb : Nat → Nat) (F : Nat → Nat → Bool) (w : World) (h : RefM lo w (.slice x y z) N N rb F) :
  Calls Tryz.prog 62 #[.agg #[.int .i64 ((N : Nat) : Int), .slice x y z]] w fun e w' => ∃ v out, e = .returned v ∧ Qnk F N out ∧ w'.ownsRow w.heap.size 3 1 v out.length (Qcl out) ∧ Below w.heap.size w w' := by
 obtain ⟨i0, hi, hz0, hz1, hz2⟩ := info_parts Tryz.infoint
 go_enter Tryz.func62, Tryz.ntmps62
 go_wp2_with fail
 refine (Qq7 lo N hN x y z rb F _ (h.alloc _)).mono ?_
 rintro e w1 ⟨M, rp, rfl, hRM, hB1⟩
 obtain ⟨x2, y2, z2, rfl⟩ := hRM.slice
 have hW0 : Below w.heap.size w (w.alloc (.cells #[.int .i64 (N : Int), .slice x y z] 51)) := (Below.refl _ w).alloc nW _
 have hW1 := Qaa hW0 hW0.size hB1
 have hA : CyAt w (w1.alloc (.cells #[.int .i64 (N : Int), .slice x2 y2 z2] 51)) N (.slice x y z) (.slice x2 y2 z2) rp F w1.heap.size :=
  ⟨hW1.alloc hW1.size _, ((Blk.new w _ _).of_below hB1).alloc _, Blk.new _ _ _, (hRM.mono (Nat.zero_le _)).alloc _⟩
 clear hRM hB1 hW0 hW1
 go_wp2_with fail
 generalize w1.heap.size = bp at *
 go_loopw [4] (fun i wr => ∃ p, p ≤ N ∧ i = .int .i64 ((p : Nat) : Int) ∧ CyAt w wr N (.slice x y z) (.slice x2 y2 z2) rp F bp ∧ Hid (∀ x, x < p → Qan F N x x = false)) (fun i _ => N - (intOf i).toNat)
 case atStart => exact ⟨0, oW, rfl, hA, fun x hx => by omega⟩
 case round =>
  clear hA
  obtain ⟨p, hp, rfl, hA, HN⟩ := hrel
  have c0 := hA.box.cell (j := 0) rfl
  by_cases hlt : p < N
  ·have k1 := hA.pbx.cell (j := 1) rfl
   obtain ⟨g, cap, e, _, _, _, d0, d1, _, _⟩ := hA.plus.at_ hlt hlt
   cases e
   cases hv : Qan F N p p
   ·rw [hv] at d1
    have HN2 : Hid (∀ x, x < p + 1 → Qan F N x x = false) := by
     intro x hx
     by_cases e : x = p
     ·rw [e]; exact hv
     ·exact HN.out x oW
    clear hv
    go_wp2_with fail
    refine ⟨⟨p + 1, oW, by go_num, hA, HN2⟩, by simp [intOf]; omega⟩
   ·rw [hv] at d1
    have HT : Hid (∀ l, Qgc F N p p (Qaf F N p N p - 1).toNat l → Qnk F N ([p] ++ l)) := fun l hl => .inr ⟨p, l, hlt, hv, HN.out, rfl, hl⟩
    clear hv
    have c1 := hA.box.cell (j := 1) rfl
    go_wp2_with fail
    refine (Qte lo N hN x y z rb F p oW _ (h.below hA.below)).mono ?_
    rintro e w3 ⟨lb, rfl, hlb, hrow, hB3⟩
    have hA3 := hA.step hB3
    have hL : CyL w (w3.alloc (.cells #[.int .i64 (p : Int)] 3)) w3 N (.slice x y z) (Qaf F N p N) lb (.slice (some ⟨w3.heap.size, 0, none⟩) 1 1) [p] :=
     ⟨hA3.below.alloc hA3.below.size _, hA3.box.alloc _, hrow.alloc _, World.ownsRow_lit w3 #[.int .i64 ((p : Nat) : Int)] 1 nW (by unfold maxLen; omega) rfl, hrow.lt, hA3.box.lt, by simp⟩
    clear c0 c1 k1 d0 d1 hA hrow hB3 HN
    have hb := hA3.below
    have u1 := hL.row.cell (Qgo hlt)
    have hle := Qnj F N p N p
    clear hA3
    by_cases hneg : Qaf F N p N p < 0
    ·have e1 := Qlg hneg
     have HR : Hid (Qnk F N [p]) := by
      have := HT.out [] (by rw [e1]; rfl)
      exact this
     rw [e1] at u1
     clear hneg e1 hle
     go_wp2_with fail
     go_loopw [6, 8] (fun v i wr => v = .slice (some ⟨w3.heap.size, 0, none⟩) 1 1 ∧ i = .int .i64 (-2) ∧ CyL w wr w3 N (.slice x y z) (Qaf F N p N) lb (.slice (some ⟨w3.heap.size, 0, none⟩) 1 1) [p]) (fun _ _ _ => 0)
     case atStart => exact ⟨rfl, rfl, hL⟩
     case round =>
      clear hL u1
      obtain ⟨rfl, rfl, hL⟩ := hrel
      go_wp2_with fail
      go_ret
      exact ⟨_, [p], rfl, HR.out, Qms hL.own (by have := hb.size; omega), hL.below⟩
    ·have hp1 := QF7 hneg
     obtain ⟨d, hd⟩ : ∃ d : Nat, Qaf F N p N p = ((d + 1 : Nat) : Int) := ⟨(Qaf F N p N p - 1).toNat, oW⟩
     have HTell : Hid (Tells F N p [p] p d) := by
      intro l hl
      refine HT.out l ?_
      rw [hd]
      rw [show (((d + 1 : Nat) : Int) - 1).toNat = d by omega]
      exact hl
     have Hd : Hid (d = 0 ∨ Qaf F N p N p = ((d + 1 : Nat) : Int)) := .inr hd
     have hdN : d + 1 ≤ N := by omega
     rw [hd] at u1
     clear hneg hp1 hd hle HT
     go_wp2_with fail
     clear u1
     go_loopw [6, 7, 8] (fun v a i wr => ∃ at_ n out, n + 1 ≤ N ∧ a = .int .i64 ((at_ : Nat) : Int) ∧ i = .int .i64 ((n : Nat) : Int) ∧ at_ < N ∧ CyL w wr w3 N (.slice x y z) (Qaf F N p N) lb v out ∧ Hid (Tells F N p out at_ n) ∧ Hid (n = 0 ∨ Qaf F N p N at_ = ((n + 1 : Nat) : Int)) ∧ out.length + n ≤ 256) (fun _ _ i _ => (intOf i).toNat)
     case atStart => exact ⟨p, d, [p], hdN, rfl, by go_num, hlt, hL, HTell, Hd, by simp; omega⟩
     case round =>
      clear hL HTell Hd hdN
      obtain ⟨at_, n, out, hn, rfl, rfl, hat, hL, HTell, Hd, hlen⟩ := hrel
      by_cases hn0 : 0 < n
      ·have he : ∃ q, q < N ∧ F at_ q = true ∧ Qaf F N p N q = ((n : Nat) : Int) := QCr hn0 (Hd.out.elim (fun e => absurd e oW) id)
       have He := Qwc he
       clear he Hd
       have c0 := hL.box.cell (j := 0) rfl
       go_wp2_with fail
       clear c0
       go_loopw [9, 10] (fun nx i wr => ∃ (k : Nat) (v : Int), k ≤ N ∧ nx = .int .i64 v ∧ i = .int .i64 (((k : Nat) : Int) - 1) ∧ CyL w wr w3 N (.slice x y z) (Qaf F N p N) lb u6 out ∧ Hid (Qjr F (Qaf F N p N) N at_ n k v)) (fun _ i _ => (intOf i + 1).toNat)
       case atStart => exact ⟨N, -1, Nat.le_refl _, rfl, by go_num, hL, Qyh F _ N at_ n⟩
       case round =>
        clear hL
        obtain ⟨k, v, hk, rfl, rfl, hL, HX⟩ := hrel
        by_cases hk0 : 0 < k
        ·obtain ⟨j, rfl⟩ : ∃ j, k = j + 1 := ⟨k - 1, oW⟩
         have ej : ((j + 1 : Nat) : Int) - 1 = (j : Int) := by omega
         rw [ej]
         have hj : j < N := by omega
         have c1 := hL.box.cell (j := 1) rfl
         obtain ⟨g, cap, e, _, _, _, d0, d1, _, _⟩ := (h.below hL.below).at_ hat hj
         cases e
         have u1 := hL.row.cell (Qgo hj)
         clear ej hk0
         cases hf : F at_ j
         ·rw [hf] at d1
          have HX2 := Qqs HX.out (by rw [hf]; simp)
          clear hf
          go_wp2_with fail
          refine ⟨⟨j, v, oW, rfl, by go_num, hL, HX2⟩, by simp [intOf]⟩
         ·rw [hf] at d1
          by_cases ht : Qaf F N p N j = (n : Int)
          ·have HX2 := QCs hj ⟨hf, ht⟩
           rw [ht] at u1
           clear hf ht
           go_wp2_with fail
           refine ⟨⟨j, ((j : Nat) : Int), oW, rfl, by go_num, hL, HX2⟩, by simp [intOf]⟩
          ·have HX2 := Qqs HX.out (fun e => ht e.2)
           have e1 : (Qaf F N p N j == (n : Int)) = false := beq_eq_false_iff_ne.2 ht
           clear hf ht
           generalize Qaf F N p N j = tv at u1 e1
           go_wp2_with fail
           refine ⟨⟨j, v, oW, rfl, by go_num, hL, HX2⟩, by simp [intOf]⟩
        ·obtain rfl : k = 0 := by omega
         obtain ⟨q, rfl, hq, h1, h2, h3⟩ := QCt HX.out He.out
         obtain ⟨n', rfl⟩ : ∃ n', n = n' + 1 := ⟨n - 1, oW⟩
         have HT2 : Hid (Tells F N p (out ++ [q]) q n') := Tells.next HTell.out hq h1 h2 h3
         have Hd2 : Hid (n' = 0 ∨ Qaf F N p N q = ((n' + 1 : Nat) : Int)) := .inr h2
         have hsz := hL.hsz
         clear h1 h2 h3 hk0 HX He HTell
         go_wp2_with (at_builtin; refine wpList_append_own_at _ rfl _ _ 36 rfl w3.heap.size 3 i0 (.int .i64 0) 1 8 Tryz.underlying36 hi hz0 hz1 hz2 rfl dW _ _ _ rfl (hL.own.alloc _) ⟨_, 0, none⟩ 1 1 [.int .i64 ((q : Nat) : Int)] rfl rfl (cell_one_new _ _ _) (by simp [Value.oneCell']) (by unfold maxLen; omega) oW (by simp; omega) ?_; intro v' w4 hown' hgrow _ hat')
         have hL2 := hL.more hown' hgrow
         refine ⟨⟨q, n', out ++ [q], oW, rfl, by go_num, hq, hL2, HT2, Hd2, by simp; omega⟩, by simp [intOf]⟩
      ·have e : n = 0 := by omega
       subst e
       have HR : Hid (Qnk F N out) := by
        have := HTell.out [] rfl
        rwa [List.append_nil] at this
       go_wp2_with fail
       go_ret
       have ho := Qms hL.own (show w.heap.size ≤ w3.heap.size by have := hb.size; omega)
       first | exact ⟨_, out, rfl, HR.out, ho, hL.below⟩ | exact ⟨_, rfl, out, HR.out, ho, hL.below⟩ | exact ⟨_, rfl, ⟨out, HR.out, ho⟩, hL.below⟩
  ·have e : N = p := by omega
   subst e
   have HR : Hid (Qnk F N []) := .inl ⟨HN.out, rfl⟩
   go_wp2_with fail
   go_ret
   exact ⟨_, [], rfl, HR.out, World.ownsRow_nil _ _ _ _, hA.below⟩
open Relation
section
variable {N : Nat} {F : Nat → Nat → Bool} {L : List Nat}
theorem Qnl (h : Qkt N F L) (hw : WF N L) {s i near x : Nat} (hx : x < N) (_hb : ∀ y, near.testBit y = true → y < N) (hn : ∀ y, y < N → (near.testBit y = true ↔ Qew F N s i y = true)) : Qfx F N s i x = true ↔ ∃ r, near.testBit r = true ∧ hs L x r := by
 unfold Qfx
 rw [List.any_eq_true]
 constructor
 ·rintro ⟨j, hj, h1⟩
  have hj : j < N := by simpa using hj
  rw [Bool.and_eq_true] at h1
  exact ⟨j, (hn j hj).2 h1.2, (h x j hx hj).1 h1.1⟩
 ·rintro ⟨r, h1, h2⟩
  have hr := hw.low _ _ h2
  refine ⟨r, by simpa using hr, ?_⟩
  rw [Bool.and_eq_true]
  exact ⟨(h x r hx hr).2 h2, (hn r hr).1 h1⟩
theorem Qkj {s i x : Nat} (h1 : Qaf F N s i x < 0) (h2 : Qfx F N s i x = true) : Qaf F N s (i + 1) x = ((i + 1 : Nat) : Int) := by
 rw [Qb1, if_pos h1, if_pos h2]
theorem Qji {s i x : Nat} (h1 : Qaf F N s i x < 0) (h2 : Qfx F N s i x = false) : Qaf F N s (i + 1) x < 0 := by
 rw [Qb1, if_pos h1, h2, if_neg sW]
 omega
theorem Qos {s i x : Nat} (h1 : ¬ Qaf F N s i x < 0) : Qaf F N s (i + 1) x = Qaf F N s i x := by
 rw [Qb1, if_neg h1]
theorem Qwd (hn : N ≤ 256) (h : Qkt N F L) (hw : WF N L) {s : Nat} (hsN : s < N) : ∀ (ly : List Nat) (i seen near : Nat), Qc6 L (Qbm L) s seen near ly → (∀ y, near.testBit y = true → y < N) →
  (∀ x, x < N → (near.testBit x = true ↔ Qew F N s i x = true)) → (∀ x, x < N → ((seen ||| near).testBit x = true ↔ (x = s ∨ ¬ Qaf F N s i x < 0))) → Qaf F N s i s < 0 →
  ∀ j, j < ly.length → (∀ x, x < N → ((gr ly j).testBit x = true ↔ Qew F N s (i + j) x = true)) ∧ Qaf F N s (i + j) s < 0 ∧ (gr L s &&& gr ly j ≠ 0 → Qaf F N s (i + j + 1) s = ((i + j + 1 : Nat) : Int))
 | [], _, _, _, _, _, _, _, _, j, hj => by simp at hj
 | x :: rest, i, seen, near, hl, hb, h1, h2, h3, j, hj => by
  obtain ⟨hne, rfl, hgo, hstop⟩ : near ≠ 0 ∧ x = near ∧ (gr L s &&& near = 0 → Qc6 L (Qbm L) s (seen ||| near) (Qcd (Qal (Qbm L) (Qae near)) (seen ||| near)) rest) ∧ (gr L s &&& near ≠ 0 → rest = []) := hl
  have hmeet : gr L s &&& x ≠ 0 → Qfx F N s i s = true := by
   intro hm
   obtain ⟨q, q1, q2⟩ := Qtx hm
   exact (Qnl h hw hsN hb h1).2 ⟨q, q2, q1⟩
  cases j with
  | zero => exact ⟨h1, h3, fun hm => Qkj h3 (hmeet hm)⟩
  | succ j =>
   by_cases hm : gr L s &&& x = 0
   ·have hmiss : Qfx F N s i s = false := by
     rw [Bool.eq_false_iff]
     intro hh
     obtain ⟨r, r1, r2⟩ := (Qnl h hw hsN hb h1).1 hh
     exact Qii hm r2 r1
    have hnear : ∀ y, (Qcd (Qal (Qbm L) (Qae x)) (seen ||| x)).testBit y = true ↔ (∃ r, x.testBit r = true ∧ hs L y r) ∧ ¬ (seen ||| x).testBit y = true := by
     intro y
     rw [Qby, Bool.and_eq_true, Bool.not_eq_true', Qlr hn hw, Bool.not_eq_true]
    have hh1 : ∀ y, Qew F N s (i + 1) y = true ↔ Qaf F N s (i + 1) y = ((i + 1 : Nat) : Int) := by
     intro y
     unfold Qew
     rw [if_neg oW, beq_iff_eq]
    have hb' : ∀ y, (Qcd (Qal (Qbm L) (Qae x)) (seen ||| x)).testBit y = true → y < N := by
     intro y hy
     obtain ⟨⟨r, _, r2⟩, _⟩ := (hnear y).1 hy
     have := Qbb r2
     rw [hw.len] at this
     exact this
    have h1' : ∀ y, y < N → ((Qcd (Qal (Qbm L) (Qae x)) (seen ||| x)).testBit y = true ↔ Qew F N s (i + 1) y = true) := by
     intro y hy
     rw [hnear, ← Qnl h hw hy hb h1, h2 y hy, hh1]
     constructor
     ·rintro ⟨a1, a2⟩
      have a3 : Qaf F N s i y < 0 := Classical.byContradiction fun hc => a2 (Or.inr hc)
      exact Qkj a3 a1
     ·intro a1
      by_cases a2 : Qaf F N s i y < 0
      ·cases a3 : Qfx F N s i y
       ·have := Qji a2 a3
        omega
       ·refine ⟨rfl, ?_⟩
        rintro (rfl | a4)
        ·rw [hmiss] at a3; cases a3
        ·exact a4 a2
      ·rw [Qos a2] at a1
       have := (Qnj F N s i y).2
       omega
    have h2' : ∀ y, y < N → (((seen ||| x) ||| Qcd (Qal (Qbm L) (Qae x)) (seen ||| x)).testBit y = true ↔ (y = s ∨ ¬ Qaf F N s (i + 1) y < 0)) := by
     intro y hy
     rw [Qez, h1' y hy, hh1, h2 y hy]
     constructor
     ·rintro ((rfl | a1) | a1)
      ·exact Or.inl rfl
      ·exact Or.inr (by rw [Qos a1]; exact a1)
      ·exact Or.inr oW
     ·rintro (rfl | a1)
      ·exact Or.inl (Or.inl rfl)
      ·by_cases a2 : Qaf F N s i y < 0
       ·cases a3 : Qfx F N s i y
        ·exact absurd (Qji a2 a3) a1
        ·exact Or.inr (Qkj a2 a3)
       ·exact Or.inl (Or.inr a2)
    have := Qwd hn h hw hsN rest (i + 1) _ _ (hgo hm) hb' h1' h2' (Qji h3 hmiss) j (by simpa using hj)
    rw [show i + 1 + j = i + (j + 1) by omega] at this
    exact this
   ·have e := hstop hm
    subst e
    simp at hj
end
section
variable {N : Nat} {F : Nat → Nat → Bool} {L : List Nat}
theorem Qqt {p : Nat} : ∀ (n a : Nat) (l l' : List Nat), Qgc F N p a n l → Qgc F N p a n l' → l = l'
 | 0, _, l, l', h, h' => by
  have e : l = [] := h
  have e' : l' = [] := h'
  rw [e, e']
 | n + 1, a, l, l', h, h' => by
  obtain ⟨q, m, e, h1, h2, h3, h4, h5⟩ : ∃ q l', l = q :: l' ∧ q < N ∧ F a q = true ∧ Qaf F N p N q = ((n + 1 : Nat) : Int) ∧ (∀ x, x < q → ¬ (F a x = true ∧ Qaf F N p N x = ((n + 1 : Nat) : Int))) ∧ Qgc F N p q n l' := h
  obtain ⟨q', m', e', h1', h2', h3', h4', h5'⟩ : ∃ q l2, l' = q :: l2 ∧ q < N ∧ F a q = true ∧ Qaf F N p N q = ((n + 1 : Nat) : Int) ∧ (∀ x, x < q → ¬ (F a x = true ∧ Qaf F N p N x = ((n + 1 : Nat) : Int))) ∧ Qgc F N p q n l2 := h'
  have eq : q = q' := by
   rcases Nat.lt_trichotomy q q' with hl | hl | hl
   ·exact absurd ⟨h2, h3⟩ (h4' q hl)
   ·exact hl
   ·exact absurd ⟨h2', h3'⟩ (h4 q' hl)
  subst eq
  rw [e, e', Qqt n q m m' h5 h5']
theorem Qtf {last X q : Nat} {tl rest : List Nat} (hb : Qae (gr L last &&& X) = q :: tl) : Qbu L last (X :: rest) = q :: Qbu L q rest := by
 show (match Qae (gr L last &&& X) with
  | [] => Qbu L last rest
  | q :: _ => q :: Qbu L q rest) = _
 rw [hb]
theorem Qqu {last X : Nat} (hw : WF N L) (hN : N ≤ 256) (h : ∃ q, hs L last q ∧ X.testBit q = true) : ∃ q tl, Qae (gr L last &&& X) = q :: tl ∧ hs L last q ∧ X.testBit q = true ∧ ∀ x, x < q → ¬ (hs L last x ∧ X.testBit x = true) := by
 obtain ⟨q0, h1, h2⟩ := h
 have hmem : ∀ x, hs L last x → X.testBit x = true → x ∈ Qae (gr L last &&& X) := fun x a1 a2 => Qa1.2 ⟨by have := hw.low _ _ a1; omega, by rw [Nat.testBit_and, Bool.and_eq_true]; exact ⟨a1, a2⟩⟩
 have hm0 := hmem q0 h1 h2
 have hs := Qhd (gr L last &&& X)
 cases hb : Qae (gr L last &&& X) with
 | nil => rw [hb] at hm0; cases hm0
 | cons q tl =>
  rw [hb] at hs
  have hq : q ∈ Qae (gr L last &&& X) := by rw [hb]; simp
  have hq2 := (Qa1.1 hq).2
  rw [Nat.testBit_and, Bool.and_eq_true] at hq2
  refine ⟨q, tl, rfl, hq2.1, hq2.2, ?_⟩
  rintro x hx ⟨a1, a2⟩
  have := hmem x a1 a2
  rw [hb] at this
  rcases List.mem_cons.1 this with rfl | h5
  ·omega
  ·have := (List.pairwise_cons.1 hs).1 x h5
   omega
theorem QF8 (hw : WF N L) (hN : N ≤ 256) {seen near : Nat} {ly : List Nat} (hp : LayP L seen near ly) : ∀ i, i < ly.length → ∀ last, (∃ q, hs L last q ∧ (gr ly i).testBit q = true) → (Qbu L last (Qbz ly i)).length = i := by
 intro i
 induction i with
 | zero => intro _ last _; rw [Qip]; rfl
 | succ i ih =>
  intro hi last h
  obtain ⟨q, tl, hb, h1, h2, _⟩ := Qqu hw hN h
  rw [Qiq hi, Qtf hb, List.length_cons, ih oW q (hp.down i hi q h2)]
theorem Qz8 (hS : Qkt N F L) (hw : WF N L) (hN : N ≤ 256) {s seen near : Nat} {ly : List Nat} (hp : LayP L seen near ly)
  (hT : ∀ m, 1 ≤ m → m < ly.length → ∀ x, x < N → ((gr ly m).testBit x = true ↔ Qaf F N s N x = ((m : Nat) : Int))) :
  ∀ i, i < ly.length → ∀ last, last < N → (∃ q, hs L last q ∧ (gr ly i).testBit q = true) → Qgc F N s last i (Qbu L last (Qbz ly i)) := by
 intro i
 induction i with
 | zero => intro _ last _ _; rw [Qip]; rfl
 | succ i ih =>
  intro hi last hl h
  obtain ⟨q, tl, hb, h1, h2, h3⟩ := Qqu hw hN h
  have hq := hw.low _ _ h1
  rw [Qiq hi, Qtf hb]
  refine ⟨q, _, rfl, hq, (hS last q hl hq).2 h1, (hT (i + 1) oW hi q hq).1 h2, ?_, ih oW q hq (hp.down i hi q h2)⟩
  rintro x hx ⟨a1, a2⟩
  exact h3 x hx ⟨(hS last x hl oW).1 a1, (hT (i + 1) oW hi x oW).2 a2⟩
theorem Qwe {s i x : Nat} (h1 : 1 ≤ i) (h2 : i ≤ N) : Qaf F N s N x = ((i : Nat) : Int) ↔ Qaf F N s i x = ((i : Nat) : Int) := by
 constructor
 ·intro h
  have key : ∀ r, i ≤ r → Qaf F N s r x = ((i : Nat) : Int) → Qaf F N s i x = ((i : Nat) : Int) := by
   intro r
   induction r with
   | zero => intro h3; omega
   | succ r ih =>
    intro h3 h4
    by_cases e : i = r + 1
    ·subst e; exact h4
    ·rw [Qb1] at h4
     split at h4
     ·split at h4 <;> omega
     ·exact ih oW h4
  exact key N h2 h
 ·exact Qqr h2
theorem QCu (hN : N ≤ 256) (hS : Qkt N F L) (hw : WF N L) {out out' : List Nat} (h : Qb8 L out) (h' : Qnk F N out') : out' = out := by
 have hP := Qz6 hS hw.len
 have hloop : ∀ p, p < N → (Qan F N p p = true ↔ p ∈ Qae (Qcf (Qci L))) := by
  intro p hp
  rw [hP p p hp hp, Qha hN hw, Qma hw]
 rcases h with ⟨h1, h2⟩ | ⟨s, tl, ly, h1, h2, h3⟩
 ·rcases h' with ⟨_, h'⟩ | ⟨p, l, a1, a2, _⟩
  ·rw [h', h2]
  ·have := (hloop p a1).1 a2
   rw [h1] at this
   cases this
 ·have hmem : s ∈ Qae (Qcf (Qci L)) := by rw [h1]; simp
  have hc := (Qha hN hw s).1 hmem
  have hsN := Qi3 hw hc
  have hout := QAw hN hw (out := out) (.inr ⟨s, tl, ly, h1, h2, h3⟩)
  have hleast : ∀ q, q ∈ Qae (Qcf (Qci L)) → s ≤ q := by
   intro q h5
   have h6 := Qhd (Qcf (Qci L))
   rw [h1] at h5 h6
   rcases List.mem_cons.1 h5 with rfl | h5
   ·exact Nat.le_refl _
   ·exact Nat.le_of_lt ((List.pairwise_cons.1 h6).1 q h5)
  have hbit : ∀ q, (Qa5 0 s true).testBit q = true ↔ q = s := by
   intro q
   rw [Qcb]
   by_cases e : q = s
   ·simp [e]
   ·simp [e]
  obtain ⟨k, hk1, hk2⟩ := Qls hN hw hc ly 0 _ h2 (Qez.2 (Or.inr ((hbit s).2 rfl))) (fun x y hx => by simp at hx) sW
  have hp := Qlt hN hw s ly 0 _ h2 (fun q _ h => by simp at h)
  obtain ⟨q0, hq1, hq2⟩ := Qtx hk2
  have hk : ly.length - 1 = k := by omega
  rw [hk] at h3
  have hlen : k + 1 ≤ N := by
   have e := QF8 hw hN hp k oW s ⟨q0, hq1, hq2⟩
   rcases hout with ⟨e2, _⟩ | ⟨s2, l2, e2, _, e3, e4, _⟩
   ·rw [h3] at e2; cases e2
   ·have := Qt0 N _ e3 (fun x hx => (e4 x hx).2)
    rw [← e2, h3, List.length_cons, e] at this
    exact this
  have hfar := Qwd hN hS hw hsN ly 0 0 _ h2 (fun y hy => by rw [hbit] at hy; omega) (fun x hx => by rw [hbit]; unfold Qew; simp) (fun x hx => by rw [Nat.zero_or, hbit]; unfold Qaf; simp) (by unfold Qaf; decide)
  have hT : ∀ m, 1 ≤ m → m < ly.length → ∀ x, x < N → ((gr ly m).testBit x = true ↔ Qaf F N s N x = ((m : Nat) : Int)) := by
   intro m a1 a2 x hx
   rw [(hfar m a2).1 x hx, Qwe a1 oW]
   unfold Qew
   rw [Nat.zero_add, if_neg oW, beq_iff_eq]
  have hTs : Qaf F N s N s = ((k + 1 : Nat) : Int) := by
   have := (hfar k oW).2.2 hk2
   rw [Nat.zero_add] at this
   exact (Qwe oW hlen).2 this
  have hch := Qz8 hS hw hN hp hT k oW s hsN ⟨q0, hq1, hq2⟩
  rcases h' with ⟨a1, _⟩ | ⟨p, l, a1, a2, a3, a4, a5⟩
  ·have := (hloop s hsN).2 hmem
   rw [a1 s hsN] at this
   cases this
  ·have e : p = s := by
    have b1 := hleast p ((hloop p a1).1 a2)
    by_cases hlt : s < p
    ·have := (hloop s hsN).2 hmem
     rw [a3 s hlt] at this
     cases this
    ·omega
   subst e
   rw [hTs, show (((k + 1 : Nat) : Int) - 1).toNat = k by omega] at a5
   rw [a4, h3, Qqt k p _ _ a5 hch]
end
end Go.Proofs.YtdkogbfamdnheaaGreatDoor
