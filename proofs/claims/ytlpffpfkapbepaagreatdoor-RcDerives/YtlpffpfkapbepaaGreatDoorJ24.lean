/- Of RefSame, what this seat can build. -/
import Derived.Test.YtlpffpfkapbepaaGreatDoorJ23
import Derived.Test.YtlpffpfkapbepaaGreatDoorJ15
import Derived.Maps.AppendAt
namespace Go.Proofs.YtlpffpfkapbepaaGreatDoor
open Go.RowKit Go.Shelf Sx Relation
set_option maxRecDepth 100000
set_option maxHeartbeats 16000000
set_option linter.unusedSimpArgs false
set_option linter.unusedVariables false
section
variable {N : Nat} {F : Nat → Nat → Bool} {L : List Nat}
theorem Qwt (h : Qq0 N F L) (hl : L.length = N) (k : Nat) (hk : k ≤ N) : Qq0 N (Qah F k) (Qcn L k) := by
 induction k with
 | zero => exact h
 | succ k ih =>
  intro p q hp hq
  have ih := ih (by omega)
  rw [Qev, Bool.or_eq_true, Bool.and_eq_true, Qgw hl, ih p q hp hq, ih p k hp (by omega), ih k q (by omega) hq]
theorem Qzb (h : Qq0 N F L) (hl : L.length = N) : Qq0 N (Qah F N) (Qa9 L) := by
 have := Qwt h hl N (Nat.le_refl _)
 unfold Qa9
 rw [hl]
 exact this
end
section
variable {n m N : Nat} {F G : Nat → Nat → Bool} {A B : List Nat}
theorem Twin.ext (h : Twin n F A) (p q : Nat) : Qad n F p q = true ↔ hs A p q := by
 unfold Qad
 rw [Bool.and_eq_true, Bool.and_eq_true, decide_eq_true_eq, decide_eq_true_eq]
 constructor
 ·rintro ⟨h1, h2, h3⟩
  exact (h.same p q h1 h2).1 h3
 ·intro h1
  have h2 := Qbf h1
  rw [h.wf.len] at h2
  exact ⟨h2, h.wf.low _ _ h1, (h.same p q h2 (h.wf.low _ _ h1)).2 h1⟩
theorem Qwu (ha : Twin n F A) (hb : Twin m G B) (HN : N = max n m) : Twin N (fun p q => Qad n F p q && !Qad m G p q) (Qcj A B) := by
 have hl : max A.length B.length = N := by rw [ha.wf.len, hb.wf.len, HN]
 have key : ∀ p q, hs (Qcj A B) p q ↔ hs A p q ∧ ¬ hs B p q := fun p q => by
  unfold Qcj
  rw [hl, Qg4 (Nat.le_refl _), Qc0, Bool.and_eq_true, Bool.not_eq_true']
  unfold hs
  rw [Bool.not_eq_true]
  exact ⟨fun h => h.2, fun h => ⟨by have := ha.low (show hs A p q from h.1); omega, h⟩⟩
 refine Twin.mk' (by unfold Qcj; rw [Qam, hl]) ?_ ?_
 ·intro p q h
  have := ha.low ((key p q).1 h).1; omega
 ·intro p q _ _
  rw [Bool.and_eq_true, ha.ext, Bool.not_eq_true', ← Bool.not_eq_true, hb.ext, key]
theorem Qsu (X Y : Nat → Nat → Bool) (k p q : Nat) : Qde X Y k p q = true ↔ ∃ r, r < k ∧ X p r = true ∧ Y r q = true := by
 induction k with
 | zero => simp [Qde]
 | succ k ih =>
  rw [Qj6, Bool.or_eq_true, ih, Bool.and_eq_true]
  constructor
  ·rintro (⟨r, h1, h2⟩ | h)
   ·exact ⟨r, by omega, h2⟩
   ·exact ⟨k, by omega, h⟩
  ·rintro ⟨r, h1, h2⟩
   by_cases e : r = k
   ·subst e; exact Or.inr h2
   ·exact Or.inl ⟨r, by omega, h2⟩
theorem Qzc (hn : n ≤ 256) (ha : Twin n F A) (hb : Twin m G B) (HN : N = max n m) : Twin N (Qde (Qad n F) (Qad m G) N) (Qbd A B) := by
 have hl : max A.length B.length = N := by rw [ha.wf.len, hb.wf.len, HN]
 have key : ∀ p q, hs (Qbd A B) p q ↔ ∃ r, hs A p r ∧ hs B r q := fun p q => by
  unfold Qbd
  rw [hl]
  have e : Qa4 N (fun p => Qaq B (Qag (gr A p))) A.length = Qa4 N (fun p => Qaq B (Qag (gr A p))) N := by
   unfold Qa4
   apply List.map_congr_left
   intro p hp
   have hp : p < N := by simpa using hp
   rw [if_pos hp]
   by_cases h : p < A.length
   ·rw [if_pos h]
   ·rw [if_neg h]
    show 0 = Qaq B (Qag (gr A p))
    rw [Qko h]
    have : Qag 0 = [] := by
     cases e : Qag 0 with
     | nil => rfl
     | cons x l =>
      have : x ∈ Qag 0 := by rw [e]; simp
      have := (Qbx.1 this).2
      simp at this
    rw [this]
    rfl
  rw [e, Qg4 (Nat.le_refl _)]
  unfold Qaq
  rw [Qj3]
  constructor
  ·rintro ⟨_, h | ⟨r, hr, h⟩⟩
   ·simp at h
   ·exact ⟨r, (Qbx.1 hr).2, h⟩
  ·rintro ⟨r, h1, h2⟩
   have := ha.low h1
   exact ⟨by omega, Or.inr ⟨r, Qbx.2 ⟨by omega, h1⟩, h2⟩⟩
 refine Twin.mk' (by unfold Qbd; rw [Qam, hl]) ?_ ?_
 ·intro p q h
  obtain ⟨r, _, h⟩ := (key p q).1 h
  have := hb.low h; omega
 ·intro p q _ _
  rw [Qsu, key]
  constructor
  ·rintro ⟨r, _, h1, h2⟩
   exact ⟨r, (ha.ext p r).1 h1, (hb.ext r q).1 h2⟩
  ·rintro ⟨r, h1, h2⟩
   have := hb.low h2
   exact ⟨r, by omega, (ha.ext p r).2 h1, (hb.ext r q).2 h2⟩
theorem Qpj (ha : Twin n F A) : Twin n (Qah F n) (Qa9 A) := ⟨Qn1 ha.wf, Qzb ha.same ha.wf.len⟩
end
end Go.Proofs.YtlpffpfkapbepaaGreatDoor
namespace Go.Proofs.YtlpffpfkapbepaaGreatDoor
open Go.RowKit Go.Shelf Sx
set_option maxRecDepth 100000
set_option maxHeartbeats 16000000
set_option linter.unusedSimpArgs false
set_option linter.unusedVariables false
def Qh4 (F : Nat → Nat → Bool) (N p : Nat) : Nat → Nat → Int
 | 0 => fun _ => -1
 | n + 1 => fun i => if Qh4 F N p n i < 0 then (if (List.range N).any (fun j => F i j && (if n = 0 then decide (j = p) else Qh4 F N p n j == ((n : Nat) : Int))) then ((n + 1 : Nat) : Int) else -1) else Qh4 F N p n i
def Qkp (N : Nat) (T : Nat → Int) : Array Value := ((List.range N).map fun i => Value.int .i64 (T i)).toArray
theorem Qwv {N : Nat} {T T' : Nat → Int} (h : ∀ i, i < N → T i = T' i) : Qkp N T = Qkp N T' := by
 unfold Qkp
 congr 1
 exact List.map_congr_left fun i hi => by rw [h i (List.mem_range.1 hi)]
theorem QBz {N i : Nat} {T : Nat → Int} (v : Int) : (Qkp N T).setIfInBounds i (.int .i64 v) = Qkp N (fun x => if x = i then v else T x) := by
 unfold Qkp
 rw [List.setIfInBounds_toArray]
 congr 1
 apply List.ext_getElem?
 intro x
 rw [List.getElem?_set]
 by_cases e : i = x
 ·subst e
  by_cases h : i < N
  ·simp [h]
  ·simp [h]
 ·rw [if_neg e]
  by_cases hx : x < N
  ·simp [hx]
   intro h2
   exact absurd h2.symm e
  ·rw [List.getElem?_eq_none (by simp; omega), List.getElem?_eq_none (by simp; omega)]
structure FarAt (w W : World) (N : Nat) (A : Value) (T : Nat → Int) : Prop where
 below : Below w.heap.size w W
 box : Blk W w.heap.size 52 #[.int .i64 ((N : Nat) : Int), A]
 row : Blk W (w.heap.size + 1) 3 (Qkp N T)
theorem FarAt.congr {w W : World} {N : Nat} {A : Value} {T T' : Nat → Int} (h : FarAt w W N A T) (ht : ∀ y, y < N → T y = T' y) : FarAt w W N A T' :=
 ⟨h.below, h.box, by rw [← Qwv ht]; exact h.row⟩
theorem FarAt.put {w W : World} {N : Nat} {A : Value} {T : Nat → Int} (h : FarAt w W N A T) (q : Nat) (v : Int) : FarAt w (W.setCell ⟨w.heap.size + 1, q, none⟩ (.int .i64 v)) N A (fun y => if y = q then v else T y) := by
 refine ⟨h.below.setCell (by simp) _, h.box.setOther (by simp) _, ?_⟩
 have := h.row.set q (.int .i64 v)
 rwa [QBz] at this
def Qsv (F : Nat → Nat → Bool) (N p : Nat) : Nat → Nat → List Nat → Prop
 | _, 0, l => l = []
 | at_, n + 1, l => ∃ q l', l = q :: l' ∧ q < N ∧ F at_ q = true ∧ Qh4 F N p N q = ((n + 1 : Nat) : Int) ∧ (∀ x, x < q → ¬ (F at_ x = true ∧ Qh4 F N p N x = ((n + 1 : Nat) : Int))) ∧ Qsv F N p q n l'
def QHl (F : Nat → Nat → Bool) (N : Nat) (out : List Nat) : Prop :=
 ((∀ p, p < N → Qah F N p p = false) ∧ out = []) ∨ ∃ p l, p < N ∧ Qah F N p p = true ∧ (∀ x, x < p → Qah F N x x = false) ∧ out = p :: l ∧ Qsv F N p p (Qh4 F N p N p - 1).toNat l
structure CyAt (w W : World) (N : Nat) (A P : Value) (rp : Nat → Nat) (F : Nat → Nat → Bool) (bp : Nat) : Prop where
 below : Below w.heap.size w W
 box : Blk W w.heap.size 52 #[.int .i64 ((N : Nat) : Int), A]
 pbx : Blk W bp 52 #[.int .i64 ((N : Nat) : Int), P]
 plus : RefM 0 W P N N rp (Qah F N)
theorem CyAt.step {w W W' : World} {N : Nat} {A P : Value} {rp : Nat → Nat} {F : Nat → Nat → Bool} {bp : Nat} (h : CyAt w W N A P rp F bp) (hB : Below W.heap.size W W') : CyAt w W' N A P rp F bp :=
 ⟨Qaa h.below h.below.size hB, h.box.of_below hB, h.pbx.of_below hB, h.plus.below hB⟩
structure CyL (w W : World) (W0 : World) (N : Nat) (A : Value) (T : Nat → Int) (lb : Nat) (v : Value) (out : List Nat) : Prop where
 below : Below w.heap.size w W
 box : Blk W w.heap.size 52 #[.int .i64 ((N : Nat) : Int), A]
 row : Blk W lb 3 (Qkp N T)
 own : W.ownsRow W0.heap.size 3 1 v out.length (Qcz out)
 hlb : lb < W0.heap.size
 hw : w.heap.size < W0.heap.size
 hsz : W0.heap.size ≤ W.heap.size
theorem CyL.more {w W W' W0 : World} {N : Nat} {A : Value} {T : Nat → Int} {lb : Nat} {v v' : Value} {out : List Nat} {q : Nat} (h : CyL w W W0 N A T lb v out)
  (hown : W'.ownsRow W0.heap.size 3 1 v' (out.length + 1) (Qcz out ++ [.int .i64 ((q : Nat) : Int)])) (hg : (W.alloc (.cells #[.int .i64 ((q : Nat) : Int)] 3)).grownBy W' v.ownBlock) : CyL w W' W0 N A T lb v' (out ++ [q]) := by
 have hlt := h.box.lt
 have hl2 := h.row.lt
 have hlb := h.hlb
 have hw := h.hw
 have hge : ∀ k, v.ownBlock = some k → W0.heap.size ≤ k := fun k e => (h.own.lt k e).1
 have hs1 := hg.size
 have hs2 := h.hsz
 refine ⟨(h.below.alloc h.below.size _).grown hg (by simp; omega) (fun k e => by have := hge k e; omega), ?_, ?_, ?_, hlb, hw, by simp at hs1; omega⟩
 ·exact (hg.block _ (by simp; omega) (fun e => by have := hge _ e.symm; omega)).trans (h.box.alloc _)
 ·exact (hg.block _ (by simp; omega) (fun e => by have := hge _ e.symm; omega)).trans (h.row.alloc _)
 ·rw [Qo1, List.length_append]
  exact hown
def Tells (F : Nat → Nat → Bool) (N p : Nat) (out : List Nat) (at_ n : Nat) : Prop := ∀ l, Qsv F N p at_ n l → QHl F N (out ++ l)
theorem Tells.next {F : Nat → Nat → Bool} {N p : Nat} {out : List Nat} {at_ n q : Nat} (h : Tells F N p out at_ (n + 1)) (hq : q < N) (h1 : F at_ q = true) (h2 : Qh4 F N p N q = ((n + 1 : Nat) : Int)) (h3 : ∀ x, x < q → ¬ (F at_ x = true ∧ Qh4 F N p N x = ((n + 1 : Nat) : Int))) : Tells F N p (out ++ [q]) q n := by
 intro l hl
 rw [List.append_assoc]
 exact h (q :: l) ⟨q, l, rfl, hq, h1, h2, h3, hl⟩
open Relation
section
variable {N : Nat} {F : Nat → Nat → Bool} {L : List Nat}
end
section
variable {N : Nat} {F : Nat → Nat → Bool} {L : List Nat}
end
section
variable {n m N : Nat} {F G : Nat → Nat → Bool} {A B : List Nat}
theorem QB0 (hn : n ≤ 256) (ha : Twin n F A) {p : Nat} (hp : p < n) : Qag (gr A p) = (List.range n).filter (F p) := by
 unfold Qag Qck
 obtain ⟨d, hd⟩ : ∃ d, 256 = n + d := ⟨256 - n, by omega⟩
 have hz : (List.map (fun x => n + x) (List.range d)).filter (gr A p).testBit = [] := by
  rw [List.filter_eq_nil_iff]
  intro q hq h
  obtain ⟨r, _, rfl⟩ := List.mem_map.1 hq
  have := (ha.low (show hs A p (n + r) from h)).2
  omega
 rw [hd, List.range_add, List.filter_append, hz, List.append_nil]
 apply List.filter_congr
 intro q hq
 have hq : q < n := by simpa using hq
 rw [Bool.eq_iff_iff]
 exact (ha.same p q hp hq).symm
theorem Qww (hn : n ≤ 256) (ha : Twin n F A) : Qeu A = Qc7 n F n 0 := by
 unfold Qeu Qb8 Qc7
 rw [ha.wf.len, show Qgd F n 0 = [] from rfl, List.append_nil]
 rw [List.flatMap_def, List.flatMap_def]
 congr 1
 apply List.map_congr_left
 intro p hp
 have hp : p < n := by simpa using hp
 unfold Qgd
 rw [QB0 hn ha hp]
end
end Go.Proofs.YtlpffpfkapbepaaGreatDoor
