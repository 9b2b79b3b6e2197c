/- Code over the document's own relations of stage 11 is reckoned: gE and more. (Printed by mkxe.py.) -/
import Derived.Test.YtdkogbfamdnheaaGreatDoorJ29
import Derived.Test.YtdkogbfamdnheaaGreatDoorR8Q
import Derived.Test.YtdkogbfamdnheaaGreatDoorJ21
import Derived.Test.YtdkogbfamdnheaaGreatDoorJ34
import Derived.Test.YtdkogbfamdnheaaGreatDoorArLE
import Derived.Test.YtdkogbfamdnheaaGreatDoorJ38
import Derived.Test.YtdkogbfamdnheaaGreatDoorGLawM
import Derived.Test.YtdkogbfamdnheaaGreatDoorJ26
import Derived.Test.YtdkogbfamdnheaaGreatDoorJ35
import Derived.Test.YtdkogbfamdnheaaGreatDoorJ24
import Derived.Test.YtdkogbfamdnheaaGreatDoorJ23
import Derived.Test.YtdkogbfamdnheaaGreatDoorJ36
namespace Go.Proofs.YtdkogbfamdnheaaGreatDoor
open Go.RowKit Go.Shelf Sx
set_option maxRecDepth 100000
set_option maxHeartbeats 16000000
set_option linter.unusedSimpArgs false
set_option linter.unusedVariables false
def FcA (w : World) (n : Nat) (v : Value) (l : List (List Nat)) : Prop := ∃ qs : List (Option Addr × Nat × Nat × List Nat), v = .agg (qs.flatMap (fun q => [Value.int .i64 ((n : Nat) : Int), .slice q.1 q.2.1 q.2.2.1])).toArray ∧ qs.map (fun q => q.2.2.2) = l ∧ ∀ q ∈ qs, RT w n (.agg #[.int .i64 ((n : Nat) : Int), .slice q.1 q.2.1 q.2.2.1]) q.2.2.2
theorem FcA.below {w w' : World} {n : Nat} {v : Value} {l : List (List Nat)} (h : FcA w n v l) (hb : Below w.heap.size w w') : FcA w' n v l := by
 obtain ⟨qs, h1, h2, h3⟩ := h
 exact ⟨qs, h1, h2, fun q hq => (h3 q hq).below hb⟩
structure QV where
 g : GV
 s : Nat
 k : Nat
 b : List Bool
 r : List Nat
 l : List (List Nat)
 i : List Int
def QV.b_ (x : GV) : QV := ⟨x, 0, 0, [], [], [], []⟩
def QV.x (s k : Nat) : QV := ⟨GV.at 0 0, s, k, [], [], [], []⟩
def QV.st (s : Nat) (b : List Bool) : QV := ⟨GV.at 0 0, s, 0, b, [], [], []⟩
def QV.is (i : List Int) : QV := ⟨GV.at 0 0, 5, 0, [], [], [], i⟩
def QV.rl (s : Nat) (r : List Nat) : QV := ⟨GV.at 0 0, s, 0, [], r, [], []⟩
def QV.rs (s : Nat) (l : List (List Nat)) : QV := ⟨GV.at 0 0, s, 0, [], [], l, []⟩
def QV.nu (k : Int) : QV := .b_ (.nu k)
def QV.bo (q : Bool) : QV := .b_ (.bo q)
structure Qm where
 m : Gm
 fb : Nat
 base : Nat
 w1 : World
 ph : Bool
 blk : Nat
 lst : List Bool
 ov : Value
 ol : List Nat
abbrev Qm.n (M : Qm) : Nat := M.m.g.evs.length
def QI0 (M : Qm) (N : Nat) (w : World) (s : Nat) (x : QV) (v : Value) : Prop :=
 match s with
 | 1 => v = .int .i64 ((M.n : Nat) : Int)
 | 4 => SetArg w v x.b ∧ x.b.length = M.n
 | 5 => IntsR w v x.i ∧ x.i.length ≤ 64
 | 6 => RT w M.n v x.r
 | 7 => RsA w M.n v x.l
 | 8 => ∃ b a y z, v = pv b ∧ Blk w b 51 #[.int .i64 ((M.n : Nat) : Int), .slice a y z] ∧ RT w M.n (.agg #[.int .i64 ((M.n : Nat) : Int), .slice a y z]) x.r
 | 9 => ∃ b, v = pv b ∧ N ≤ b ∧ Blk w b 51 #[.int .i64 0, .slice none 0 0]
 | 10 => FcA w M.n v x.l
 | 11 => v = pv M.fb
 | 14 => ∃ b, v = .slice (some ⟨b, 0, none⟩) M.n M.n ∧ N ≤ b ∧ Blk w b 4 (Qaj x.b) ∧ x.b.length = M.n
 | 15 => v = .slice (some ⟨M.blk, 0, none⟩) M.n M.n
 | 16 => v = .pointer (some ⟨M.blk, x.k, none⟩) ∧ x.k < M.n
 | _ => True
theorem QI0.mono {M : Qm} {N s : Nat} {w w' : World} {x : QV} {v : Value} (h : QI0 M N w s x v) (hb : Below w.heap.size w w') : QI0 M N w' s x v := by
 unfold QI0 at h ⊢
 split at h
 ·exact h
 ·exact ⟨h.1.below hb, h.2⟩
 ·exact ⟨h.1.below hb, h.2⟩
 ·exact h.below hb
 ·exact h.below hb
 ·obtain ⟨b, a, y, z, k1, k2, k3⟩ := h; exact ⟨b, a, y, z, k1, k2.of_below hb, k3.below hb⟩
 ·obtain ⟨b, k1, k2, k3⟩ := h; exact ⟨b, k1, k2, k3.of_below hb⟩
 ·exact h.below hb
 ·exact h
 ·obtain ⟨b, k1, k2, k3, k4⟩ := h; exact ⟨b, k1, k2, k3.of_below hb, k4⟩
 ·exact h
 ·exact h
 ·trivial
def QIs (M : Qm) (N : Nat) (w : World) (x : QV) (v : Value) : Prop := GIs M.m N w x.g v ∧ (if x.s < 100 then QI0 M N w x.s x v else QI0 M 0 M.w1 (x.s - 100) x v)
structure QG (M : Qm) (w : World) : Prop where
 g : GG M.m w
 hB : M.base ≤ w.heap.size
 p : M.ph = true → Below M.w1.heap.size M.w1 w ∧ M.w1.heap.size ≤ M.blk ∧ Blk w M.blk 4 (Qaj M.lst) ∧ M.lst.length = M.n
 o : w.ownsRow M.base 3 1 M.ov M.ol.length (Qc0 M.ol)
theorem QG.mono {M : Qm} {w w' : World} (h : QG M w) (hb : Below w.heap.size w w') : QG M w' :=
 ⟨h.g.mono hb, Nat.le_trans h.hB hb.size, fun e => ⟨Qaa (h.p e).1 (h.p e).1.size hb, (h.p e).2.1, (h.p e).2.2.1.of_below hb, (h.p e).2.2.2⟩, Qai h.o hb⟩
def qvA (σ : Nat → QV) : Operand → QV
 | .tmp d => σ d
 | x => .b_ (Qox x)
def Qnf (M : Qm) (f : Nat) (l : List QV) : Option QV :=
 match l with
 | [x] => if x.g.t = 10 then (if f = 42 then some (.rl 6 (LG M.m.g 0)) else if f = 43 then some (.rl 6 (LG M.m.g 1)) else if f = 44 then some (.rl 6 (LG M.m.g 2)) else if f = 45 then some (.rl 6 (LG M.m.g 3)) else if f = 56 then some (.rl 6 (LG M.m.g 4)) else if f = 46 then some (.rl 6 (LG M.m.g 6)) else none)
   else if x.s = 7 then (match x.l with
    | [] => none
    | A :: Ls => if 64 < Ls.length then none else if f = 55 then some (.rl 6 (Ls.foldl Qav A)) else if f = 54 then some (.rl 6 (Ls.foldl (fun A B => Qan [A, B]) A)) else none)
   else none
 | [x, y] => if x.g.t = 10 then (if y.g.t = 1 ∧ f = 48 then some (.st 4 (Qaw M.m.g y.g.k)) else if y.s = 5 ∧ f = 51 then some (.st 4 (mdL M.m.g y.i)) else if y.g.t = 5 ∧ Qiq y.g.f = true ∧ f = 47 then some (.rl 6 (Qcq M.n (Qbh (M.m.pl y.g.f)))) else none)
   else if x.s = 4 ∧ y.s = 4 then (if f = 50 then some (.st 4 (List.zipWith (fun a b => a && b) x.b y.b)) else none)
   else if x.s = 1 ∧ y.s = 4 then (if f = 49 then some (.rl 6 (Qa4 ((M.n : Nat) : Int) y.b)) else none)
   else if x.s = 6 ∧ y.s = 6 then (if f = 52 then some (.rl 6 (Qbr x.r y.r)) else if f = 53 then some (.rl 6 (Qc x.r y.r)) else if f = 64 then some (.rl 6 (Qav x.r y.r)) else none)
   else none
 | _ => none
def Qru (M : Qm) (σ : Nat → QV) : Op → Option QV
 | .load t x => if t = 51 ∧ (qvA σ x).s = 8 then some (.rl 6 (qvA σ x).r) else none
 | .indexAddr t x i => if t = 65 ∧ (qvA σ x).s = 15 ∧ (qvA σ i).g.t = 1 then some (.x 16 (qvA σ i).g.k.toNat) else none
 | .alloc t => if t = 51 then some (.x 9 0) else none
 | .makeSlice t x y => if t = 65 ∧ (qvA σ x).s = 1 ∧ (qvA σ y).s = 1 then some (.st 14 (List.replicate M.n false)) else none
 | .buildSlice t n ps => if ps.toList.map (·.1) = List.range n ∧ 0 < n ∧ n ≤ 7 then
    (if t = 131 ∧ ps.toList.all (fun p => (qvA σ p.2).s == 6) = true then some (.rs 7 (ps.toList.map (fun p => (qvA σ p.2).r)))
     else if t = 36 ∧ ps.toList.all (fun p => isK p.2) = true ∧ n ≤ 6 then some (.is (Qfn ps.toList)) else none) else none
 | .build t ps => if t = 53 ∧ ps.toList.map (·.1) = List.range 5 ∧ ps.toList.all (fun p => (qvA σ p.2).s == 6) = true then some (.rs 10 (ps.toList.map (fun p => (qvA σ p.2).r))) else none
 | .call ⟨.builtin .len, args, tys⟩ => match args.toList with
   | [x] => if tys = #[23] ∧ (qvA σ x).g.t = 5 ∧ (qvA σ x).g.f = 1 then some ⟨.nu ((M.n : Nat) : Int), 1, 0, [], [], [], []⟩ else none
   | _ => none
 | .call ⟨.value (.func f), args, _⟩ => Qnf M f (args.toList.map (qvA σ))
 | _ => none
def QFj (M : Qm) (σ : Nat → QV) : Op → Option Prop
 | .indexAddr _ _ i => some (0 ≤ (qvA σ i).g.k ∧ (qvA σ i).g.k < ((M.n : Nat) : Int))
 | _ => none
def QAv (M : Qm) (σ : Nat → QV) (o : Op) : Option QV :=
 match Qru M σ o with
 | some av => some av
 | none => match Qsi M.m (fun d => (σ d).g) o with
  | some av => some (.b_ av)
  | none => none
def QAw (M : Qm) (σ : Nat → QV) (o : Op) : Option Prop :=
 match Qru M σ o with
 | some _ => QFj M σ o
 | none => Qoy M.m (fun d => (σ d).g) o
theorem QC9 {g : Gr} {q : Bool} (h : Wf g q) {i : Nat} (hi : i < g.evs.length) : (g.ev i).t = -1 ∨ 0 ≤ (g.ev i).t := by
 by_cases hc : ((i : Nat) : Int) < g.cells
 ·rw [Qiz (h 1 (by omega)) hc]
  exact .inl rfl
 ·have := Qkc (h 2 (by omega)) (by omega) hi
  unfold Qbx at this
  simp at this
  omega
theorem QD {g : Gr} {q : Bool} (h : Wf g q) {a b : Nat} (ha : a < g.evs.length) (hb : b < g.evs.length) : Qcs g.evs ((a : Nat) : Int) ((b : Nat) : Int) = poB g.evs a b := by
 have h0 := QC9 h ha
 unfold Qcs poB
 rw [Int.toNat_natCast, Int.toNat_natCast]
 have e0 : (g.evs.getD a Ev.zero).t = (g.ev a).t := rfl
 have e1 : (g.evs.getD b Ev.zero).t = (g.ev b).t := rfl
 rw [e0, e1, Bool.eq_iff_iff]
 simp only [Bool.and_eq_true, decide_eq_true_eq]
 omega
theorem Qhp {n : Nat} {F G : Nat → Nat → Bool} (h : ∀ p q, p < n → q < n → F p q = G p q) : Twin n F (Qcq n G) :=
 ⟨Qc2 n G, fun p q hp hq => by rw [h p q hp hq, (Qqv n G).same p q hp hq]; exact Iff.rfl⟩
abbrev rvA (m : Int) (q : Option Addr × Nat × Nat × List Nat) : Value := .agg #[.int .i64 m, .slice q.1 q.2.1 q.2.2.1]
abbrev rvC (m : Int) (l : List (Option Addr × Nat × Nat × List Nat)) : List Value := l.flatMap (fun q => [Value.int .i64 m, .slice q.1 q.2.1 q.2.2.1])
theorem QAx (m : Int) (l : List (Option Addr × Nat × Nat × List Nat)) (h : l.length ≤ 7) (h0 : 0 < l.length) (w : World) : (Instr.buildSlice 131 l.length (List.zip (List.range l.length) (l.map (rvA m))).toArray).run Tryz.prog w = .ok (.slice (some ⟨w.heap.size, 0, none⟩) l.length l.length) (w.alloc (.cells (rvC m l).toArray 51)) := by
 match l, h, h0 with
 | [a], _, _ => exact (show _ = _ by kernel_rfl)
 | [a, b], _, _ => exact (show _ = _ by kernel_rfl)
 | [a, b, c], _, _ => exact (show _ = _ by kernel_rfl)
 | [a, b, c, d], _, _ => exact (show _ = _ by kernel_rfl)
 | [a, b, c, d, e], _, _ => exact (show _ = _ by kernel_rfl)
 | [a, b, c, d, e, f], _, _ => exact (show _ = _ by kernel_rfl)
 | [a, b, c, d, e, f, i], _, _ => exact (show _ = _ by kernel_rfl)
 | a :: b :: c :: d :: e :: f :: i :: j :: l, h, _ => simp at h
theorem Qyt (m : Int) (l : List (Option Addr × Nat × Nat × List Nat)) (h : l.length = 5) (w : World) : (Instr.build 53 (List.zip (List.range 5) (l.map (rvA m))).toArray).run Tryz.prog w = .ok (.agg (rvC m l).toArray) w := by
 match l, h with
 | [a, b, c, d, e], _ => exact (show _ = _ by kernel_rfl)
set_option maxRecDepth 100000
section
variable {M : Qm} {N : Nat} {w : World} {a : Act} {σ : Nat → QV} {Q : Exit → Act → World → Prop} {dst : Option Tmp} {ty : TypeId} {pos : String} {af : Array Edge} {gd : Option (Nat × Bool)} {x y : Operand} {tys : Array TypeId}
def Qjv (M : Qm) (N : Nat) (a : Act) (w : World) (d : Option Tmp) (av : QV) : Act → World → Prop := fun a' w' => ∃ v, a' = a.put d v ∧ QIs M N w' av v ∧ Below w.heap.size w w'
theorem Qed (h : ∀ d, x = .tmp d → QIs M N w (σ d) (a.eval (.tmp d))) : QIs M N w (qvA σ x) (a.eval x) := by
 unfold qvA
 split
 ·exact h _ rfl
 ·rename_i y hy
  exact ⟨Qle hy, trivial⟩
theorem QIs.t {z : QV} {v : Value} {k : Nat} (h : QIs M N w z v) (ht : z.s = k) (hk : k < 100) : QI0 M N w k z v := by
 have := h.2
 rw [ht, if_pos hk] at this
 exact this
theorem Qg {v : Value} {z : QV} (hg : z.g = GV.at 0 0) (hs : z.s < 100) (h : QI0 M N w z.s z v) : QIs M N w z v := ⟨by unfold GIs; rw [hg]; exact trivial, by rw [if_pos hs]; exact h⟩
theorem QFk {b y z : Nat} {m : Int} {s : Option Addr} (hv : a.eval x = pv b) (hb : Blk w b 51 #[.int .i64 m, .slice s y z]) : (execOp a.eval ⟨dst, .load 51 x, ty, pos, af, gd⟩).run Tryz.prog w = .ok (.value (.agg #[.int .i64 m, .slice s y z])) w := by
 have c0 : w.cell? ⟨b, 0, none⟩ = some (.int .i64 m) := hb.cell rfl
 have c1 : w.cell? ⟨b, 1, none⟩ = some (.slice s y z) := hb.cell rfl
 clear hb
 generalize a.eval = ρ at *
 go_simp
theorem QFl : (execOp a.eval ⟨dst, .alloc 51, ty, pos, af, gd⟩).run Tryz.prog w = .ok (.value (pv w.heap.size)) (w.alloc (.cells #[.int .i64 0, .slice none 0 0] 51)) := by kernel_rfl
theorem Qwp {m : Int} : ∀ (l : List (Option Addr × Nat × Nat × List Nat)) (i : Nat) (q : Option Addr × Nat × Nat × List Nat), l[i]? = some q → (l.flatMap (fun q => [Value.int .i64 m, .slice q.1 q.2.1 q.2.2.1]))[i * 2]? = some (.int .i64 m) ∧ (l.flatMap (fun q => [Value.int .i64 m, .slice q.1 q.2.1 q.2.2.1]))[i * 2 + 1]? = some (.slice q.1 q.2.1 q.2.2.1)
 | [], i, q, h => by simp at h
 | p :: l, 0, q, h => by
  have : p = q := by simpa using h
  subst this
  exact ⟨rfl, rfl⟩
 | p :: l, i + 1, q, h => by
  have ih := Qwp (m := m) l i q (by simpa using h)
  have e : (i + 1) * 2 = i * 2 + 1 + 1 := by omega
  rw [e]
  exact ih
theorem QFm {n s c : Nat} (l : List (Option Addr × Nat × Nat × List Nat)) (h : Blk w s 51 (l.flatMap (fun q => [Value.int .i64 ((n : Nat) : Int), .slice q.1 q.2.1 q.2.2.1])).toArray) (hr : ∀ q ∈ l, RT w n (.agg #[.int .i64 ((n : Nat) : Int), .slice q.1 q.2.1 q.2.2.1]) q.2.2.2) : RsA w n (.slice (some ⟨s, 0, none⟩) l.length c) (l.map (fun q => q.2.2.2)) := by
 refine ⟨s, c, by rw [List.length_map], h.lt, fun i L hL => ?_⟩
 rw [List.getElem?_map] at hL
 cases hq : l[i]? with
 | none => rw [hq] at hL; cases hL
 | some q =>
  rw [hq] at hL
  cases hL
  obtain ⟨h1, h2⟩ := Qwp (m := ((n : Nat) : Int)) l i q hq
  exact ⟨q.1, q.2.1, q.2.2.1, h.cell (by simpa using h1), h.cell (by simpa using h2), hr q (List.mem_of_getElem? hq)⟩
theorem Qom : ∀ (l : List (Nat × Operand)), (∀ p ∈ l, RT w M.n (a.eval p.2) (qvA σ p.2).r) → ∃ qs : List (Option Addr × Nat × Nat × List Nat), l.map (fun p => a.eval p.2) = qs.map (rvA ((M.n : Nat) : Int)) ∧ qs.map (·.2.2.2) = l.map (fun p => (qvA σ p.2).r) ∧ ∀ q ∈ qs, RT w M.n (rvA ((M.n : Nat) : Int) q) q.2.2.2
 | [], _ => ⟨[], rfl, rfl, fun q hq => by cases hq⟩
 | p :: l, h => by
  obtain ⟨qs, h1, h2, h3⟩ := Qom l (fun q hq => h q (List.mem_cons_of_mem _ hq))
  have hp := h p List.mem_cons_self
  obtain ⟨x, y, z, e⟩ := hp.form
  rw [e] at hp
  refine ⟨(x, y, z, (qvA σ p.2).r) :: qs, by simp only [List.map_cons, h1, e], by simp only [List.map_cons, h2], fun q hq => ?_⟩
  rcases List.mem_cons.1 hq with rfl | hq
  ·exact hp
  ·exact h3 q hq
theorem Qhg {L : List Nat} {f : Nat} {args : Array Value} (h : Calls Tryz.prog f args w (Qgs M.n w L)) : Calls Tryz.prog f args w (fun e w'' => ∃ v, e = .returned v ∧ Qjv M N a w dst (.rl 6 L) (a.put dst v) w'') := by
 refine h.mono ?_
 rintro e w'' ⟨r, rfl, h1, h2⟩
 exact ⟨r, rfl, r, rfl, Qg rfl (by show (6 : Nat) < 100; decide) h1, h2⟩
theorem Qfd {L : List Nat} {f : Nat} {args : Array Value} {F : Nat → Nat → Bool} (ht : Twin M.n F L) (h : Calls Tryz.prog f args w (fun e w' => ∃ M' rb, e = .returned (.agg #[.int .i64 ((M.n : Nat) : Int), M']) ∧ RefM w.heap.size w' M' M.n M.n rb F ∧ Below w.heap.size w w')) : Calls Tryz.prog f args w (fun e w'' => ∃ v, e = .returned v ∧ Qjv M N a w dst (.rl 6 L) (a.put dst v) w'') := by
 refine h.mono ?_
 rintro e w'' ⟨M', rb, rfl, h1, h2⟩
 exact ⟨_, rfl, _, rfl, Qg rfl (by show (6 : Nat) < 100; decide) (RT.of h1 ht), h2⟩
theorem Qmr {s : List Bool} {f : Nat} {args : Array Value} (hs : s.length = M.n) (h : Calls Tryz.prog f args w (fun e w' => ∃ x, e = .returned x ∧ SetArg w' x s ∧ Below w.heap.size w w')) : Calls Tryz.prog f args w (fun e w'' => ∃ v, e = .returned v ∧ Qjv M N a w dst (.st 4 s) (a.put dst v) w'') := by
 refine h.mono ?_
 rintro e w'' ⟨x, rfl, h1, h2⟩
 exact ⟨_, rfl, _, rfl, Qg rfl (by show (4 : Nat) < 100; decide) ⟨h1, hs⟩, h2⟩
theorem e8 (f : Nat) (hf : f = 42 ∨ f = 43 ∨ f = 44 ∨ f = 45 ∨ f = 56 ∨ f = 63 ∨ f = 46 ∨ f = 62 ∨ f = 55 ∨ f = 54) (u : Value) (w : World) : (callFunc f #[u]).run Tryz.prog w = .ok (.enter f #[u]) w := by
 rcases hf with rfl | rfl | rfl | rfl | rfl | rfl | rfl | rfl | rfl | rfl <;> exact (show _ = _ by kernel_rfl)
theorem e9 (f : Nat) (hf : f = 48 ∨ f = 51 ∨ f = 47 ∨ f = 50 ∨ f = 49 ∨ f = 52 ∨ f = 53 ∨ f = 64) (u v : Value) (w : World) : (callFunc f #[u, v]).run Tryz.prog w = .ok (.enter f #[u, v]) w := by
 rcases hf with rfl | rfl | rfl | rfl | rfl | rfl | rfl | rfl <;> exact (show _ = _ by kernel_rfl)
theorem QAy (hn : M.n ≤ 256) (hw : Wf M.m.g true) (hG : QG M w) {f : Nat} {av : QV} (h : Qnf M f [qvA σ x] = some av) (hx : QIs M N w (qvA σ x) (a.eval x)) :
  Oper.wp Tryz.prog ⟨dst, .call ⟨.value (.func f), #[x], tys⟩, ty, pos, af, gd⟩ a w (Qjv M N a w dst av) Q := by
 unfold Qnf at h
 dsimp only at h
 by_cases t1 : (qvA σ x).g.t = 10
 ·rw [if_pos t1] at h
  have hv : a.eval x = M.m.V.val M.m.g := hx.1.t t1
  by_cases e : f = 42
  ·subst e; rw [if_pos rfl] at h; cases h
   exact Qal (Qb6 hv (e8 _ (by decide))) (Qfd (Qhp fun p q hp hq => QD hw hp hq) (Qxh M.m.V M.m.g w hG.g.gr hn))
  rw [if_neg e] at h
  by_cases e : f = 43
  ·subst e; rw [if_pos rfl] at h; cases h
   exact Qal (Qb6 hv (e8 _ (by decide))) (Qfd (Qhp fun _ _ _ _ => rfl) (Qno M.m.V M.m.g w hG.g.gr hn))
  rw [if_neg e] at h
  by_cases e : f = 44
  ·subst e; rw [if_pos rfl] at h; cases h
   exact Qal (Qb6 hv (e8 _ (by decide))) (Qfd (Qhp fun _ _ _ _ => rfl) (Qnp M.m.V M.m.g true w hG.g.gr hn hw))
  rw [if_neg e] at h
  by_cases e : f = 45
  ·subst e; rw [if_pos rfl] at h; cases h
   exact Qal (Qb6 hv (e8 _ (by decide))) (Qfd (Qhp fun _ _ _ _ => rfl) (Qwy M.m.V M.m.g true w hG.g.gr hn hw))
  rw [if_neg e] at h
  by_cases e : f = 56
  ·subst e; rw [if_pos rfl] at h; cases h
   exact Qal (Qb6 hv (e8 _ (by decide))) (Qfd (Qhp fun _ _ _ _ => rfl) (Qts M.m.V M.m.g w hG.g.gr hn))
  rw [if_neg e] at h
  by_cases e : f = 46
  ·subst e; rw [if_pos rfl] at h; cases h
   exact Qal (Qb6 hv (e8 _ (by decide))) (Qfd (Qhp fun _ _ _ _ => rfl) (Qu M.m.V M.m.g w hG.g.gr hn))
  rw [if_neg e] at h
  cases h
 rw [if_neg t1] at h
 by_cases t7 : (qvA σ x).s = 7
 ·rw [if_pos t7] at h
  have hr : RsA w M.n (a.eval x) (qvA σ x).l := hx.t t7 (by decide)
  cases hl : (qvA σ x).l with
  | nil => rw [hl] at h; cases h
  | cons A Ls =>
   rw [hl] at h hr
   dsimp only at h
   by_cases c : 64 < Ls.length
   ·rw [if_pos c] at h; cases h
   rw [if_neg c] at h
   by_cases e : f = 55
   ·subst e; rw [if_pos rfl] at h; cases h
    exact Qal (Qb6 rfl (e8 _ (by decide))) (Qhg (Qs3 M.n hn A Ls (by omega) _ w hr))
   rw [if_neg e] at h
   by_cases e : f = 54
   ·subst e; rw [if_pos rfl] at h; cases h
    exact Qal (Qb6 rfl (e8 _ (by decide))) (Qhg (Qs4 M.n hn A Ls (by omega) _ w hr))
   rw [if_neg e] at h; cases h
 rw [if_neg t7] at h; cases h
theorem QAz (hn : M.n ≤ 256) (hG : QG M w) {f : Nat} {av : QV} (h : Qnf M f [qvA σ x, qvA σ y] = some av) (hx : QIs M N w (qvA σ x) (a.eval x)) (hy : QIs M N w (qvA σ y) (a.eval y)) :
  Oper.wp Tryz.prog ⟨dst, .call ⟨.value (.func f), #[x, y], tys⟩, ty, pos, af, gd⟩ a w (Qjv M N a w dst av) Q := by
 unfold Qnf at h
 dsimp only at h
 by_cases t1 : (qvA σ x).g.t = 10
 ·rw [if_pos t1] at h
  have hv : a.eval x = M.m.V.val M.m.g := hx.1.t t1
  by_cases e : (qvA σ y).g.t = 1 ∧ f = 48
  ·rw [if_pos e] at h; cases h
   obtain ⟨e1, rfl⟩ := e
   refine Qal (Qbc hv (hy.1.t e1) (e9 _ (by decide))) (Qmr (Qge _ _) ((Qqe M.m.V M.m.g _ w hG.g.gr).mono ?_))
   rintro e w' ⟨u, rfl, h1, h2⟩
   exact ⟨u, rfl, Qiw h1, h2⟩
  rw [if_neg e] at h
  by_cases e : (qvA σ y).s = 5 ∧ f = 51
  ·rw [if_pos e] at h; cases h
   obtain ⟨e1, rfl⟩ := e
   have hi : IntsR w (a.eval y) (qvA σ y).i ∧ (qvA σ y).i.length ≤ 64 := hy.t e1 (by decide)
   refine Qal (Qbc hv rfl (e9 _ (by decide))) (Qmr (by simp [mdL, Qbb]) ((Qq5 M.m.V M.m.g _ _ w hG.g.gr hi.1 (by omega)).mono ?_))
   rintro e w' ⟨u, rfl, h1, h2⟩
   exact ⟨u, rfl, Qiw h1, h2⟩
  rw [if_neg e] at h
  by_cases e : (qvA σ y).g.t = 5 ∧ Qiq (qvA σ y).g.f = true ∧ f = 47
  ·rw [if_pos e] at h; cases h
   obtain ⟨e1, e2, rfl⟩ := e
   have hv2 : a.eval y = M.m.lv (qvA σ y).g.f := hy.1.t e1
   exact Qal (Qbc hv hv2 (e9 _ (by decide))) (Qfd (Qhp fun _ _ _ _ => rfl) (Qjw M.m.V M.m.g _ _ w hG.g.gr (hG.g.pls e2) hn))
  rw [if_neg e] at h; cases h
 rw [if_neg t1] at h
 by_cases t4 : (qvA σ x).s = 4 ∧ (qvA σ y).s = 4
 ·rw [if_pos t4] at h
  have h1 : SetArg w (a.eval x) (qvA σ x).b ∧ (qvA σ x).b.length = M.n := hx.t t4.1 (by decide)
  have h2 : SetArg w (a.eval y) (qvA σ y).b ∧ (qvA σ y).b.length = M.n := hy.t t4.2 (by decide)
  by_cases e : f = 50
  ·subst e; rw [if_pos rfl] at h; cases h
   exact Qal (Qbc rfl rfl (e9 _ (by decide))) (Qmr (by rw [List.length_zipWith, h1.2, h2.2, Nat.min_self]) (Qs5 _ _ (by rw [h1.2, h2.2]) (by rw [h1.2]; exact hn) _ _ w h1.1 h2.1))
  rw [if_neg e] at h; cases h
 rw [if_neg t4] at h
 by_cases t5 : (qvA σ x).s = 1 ∧ (qvA σ y).s = 4
 ·rw [if_pos t5] at h
  have h2 : SetArg w (a.eval y) (qvA σ y).b ∧ (qvA σ y).b.length = M.n := hy.t t5.2 (by decide)
  have hv : a.eval x = .int .i64 ((M.n : Nat) : Int) := hx.t t5.1 (by decide)
  by_cases e : f = 49
  ·subst e; rw [if_pos rfl] at h; cases h
   exact Qal (Qbc hv rfl (e9 _ (by decide))) (Qhg (QD2 hn h2.1))
  rw [if_neg e] at h; cases h
 rw [if_neg t5] at h
 by_cases t6 : (qvA σ x).s = 6 ∧ (qvA σ y).s = 6
 ·rw [if_pos t6] at h
  have h1 : RT w M.n (a.eval x) (qvA σ x).r := hx.t t6.1 (by decide)
  have h2 : RT w M.n (a.eval y) (qvA σ y).r := hy.t t6.2 (by decide)
  by_cases e : f = 52
  ·subst e; rw [if_pos rfl] at h; cases h
   exact Qal (Qbc rfl rfl (e9 _ (by decide))) (Qhg (QD0 hn h1 h2))
  rw [if_neg e] at h
  by_cases e : f = 53
  ·subst e; rw [if_pos rfl] at h; cases h
   exact Qal (Qbc rfl rfl (e9 _ (by decide))) (Qhg (QD1 hn h1 h2))
  rw [if_neg e] at h
  by_cases e : f = 64
  ·subst e; rw [if_pos rfl] at h; cases h
   exact Qal (Qbc rfl rfl (e9 _ (by decide))) (Qhg (Qy1 hn h1 h2))
  rw [if_neg e] at h; cases h
 rw [if_neg t6] at h; cases h
end
set_option maxRecDepth 100000
section
variable {M : Qm} {N : Nat} {w : World} {a : Act} {σ : Nat → QV} {Q : Exit → Act → World → Prop} {dst : Option Tmp} {ty : TypeId} {pos : String} {af : Array Edge} {gd : Option (Nat × Bool)} {x y : Operand} {tys : Array TypeId}
theorem QGr (s o n c : Nat) (k : Int) (w : World) (h0 : 0 ≤ k) (h1 : k < ((n : Nat) : Int)) : (Instr.indexAt 65 (.slice (some ⟨s, o, none⟩) n c) (.int .i64 k)).run Tryz.prog w = .ok (.pointer (some ⟨s, o + k.toNat, none⟩)) w := by
 go_simp
theorem QFn (n : Nat) (h : n ≤ 256) (hx : a.eval x = .int .i64 ((n : Nat) : Int)) (hy : a.eval y = .int .i64 ((n : Nat) : Int)) : (execOp a.eval ⟨dst, .makeSlice 65 x y, ty, pos, af, gd⟩).run Tryz.prog w = .ok (.value (.slice (some ⟨w.heap.size, 0, none⟩) n n)) (w.alloc (.cells (Qaj (List.replicate n false)) 4)) := by
 have e : (execOp a.eval ⟨dst, .makeSlice 65 x y, ty, pos, af, gd⟩).run Tryz.prog w = (do pure (Next.value (← Instr.makeSlice 65 (a.eval x) (a.eval y))) : Sem Next).run Tryz.prog w := by kernel_rfl
 rw [e, hx, hy, Sem.run_bind, Qjz n h w]
 rfl
theorem QA0 {t : TypeId} {p : Option Addr} {n c : Nat} (ht : t = 36 ∨ t = 23) (hx : a.eval x = .slice p n c) : (execOp a.eval ⟨dst, .call ⟨.builtin .len, #[x], #[t]⟩, ty, pos, af, gd⟩).run Tryz.prog w = .ok (.value (.int .i64 ((n : Nat) : Int))) w := by
 rcases ht with rfl | rfl
 ·exact QAm (.inr rfl) hx
 ·exact Qo0 (.inl rfl) hx
theorem QFo (hn : M.n ≤ 256) (hw : Wf M.m.g true) (hG : QG M w) (hN : N ≤ w.heap.size) {o : Oper} {av : QV} (h : Qru M σ o.op = some av) (hp : ∀ p, QFj M σ o.op = some p → p) (hx : ∀ d ∈ Qb9 o.op.operands.toList, QIs M N w (σ d) (a.eval (.tmp d))) : o.wp Tryz.prog a w (Qjv M N a w o.dst av) Q := by
 obtain ⟨dst, op, ty, pos, af, gd⟩ := o
 dsimp only at h hp hx ⊢
 have hB := Below.refl w.heap.size w
 unfold Qru at h
 split at h
 ·rename_i t x
  have hl := Qed (x := x) (fun d e => hx d (Qae.2 (by simp [Op.operands, e])))
  by_cases c1_ : t = 51 ∧ (qvA σ x).s = 8
  ·rw [if_pos c1_] at h; cases h
   obtain ⟨rfl, c⟩ := c1_
   obtain ⟨b, s, y, z, e1, e2, e3⟩ : ∃ b s y z, a.eval x = pv b ∧ Blk w b 51 #[.int .i64 ((M.n : Nat) : Int), .slice s y z] ∧ RT w M.n (.agg #[.int .i64 ((M.n : Nat) : Int), .slice s y z]) (qvA σ x).r := hl.t c (by decide)
   exact Qaz (QFk e1 e2) ⟨_, rfl, Qg rfl (by show (6 : Nat) < 100; decide) e3, hB⟩
  rw [if_neg c1_] at h
  cases h
 ·rename_i t x i
  have hl := Qed (x := x) (fun d e => hx d (Qae.2 (by simp [Op.operands, e])))
  have hj := (Qed (x := i) (fun d e => hx d (Qae.2 (by simp [Op.operands, e])))).1
  obtain ⟨q0, q1⟩ : 0 ≤ (qvA σ i).g.k ∧ (qvA σ i).g.k < ((M.n : Nat) : Int) := hp _ rfl
  by_cases c8_ : t = 65 ∧ (qvA σ x).s = 15 ∧ (qvA σ i).g.t = 1
  ·rw [if_pos c8_] at h; cases h
   obtain ⟨rfl, c, d⟩ := c8_
   have e1 : a.eval x = .slice (some ⟨M.blk, 0, none⟩) M.n M.n := hl.t c (by decide)
   have e2 : a.eval i = .int .i64 (qvA σ i).g.k := hj.t d
   refine Qb5 (s := Instr.indexAt 65 (a.eval x) (a.eval i)) rfl (by rw [e1, e2]; exact QGr _ _ _ _ _ _ q0 q1) ⟨_, rfl, Qg rfl (by show (16 : Nat) < 100; decide) ⟨by rw [Nat.zero_add]; rfl, by show (qvA σ i).g.k.toNat < M.n; omega⟩, hB⟩
  rw [if_neg c8_] at h; cases h
 ·rename_i t
  by_cases c9_ : t = 51
  ·subst c9_
   rw [if_pos rfl] at h; cases h
   exact Qaz QFl ⟨_, rfl, Qg rfl (by show (9 : Nat) < 100; decide) ⟨_, rfl, hN, Blk.new w _ _⟩, hB.alloc (Nat.le_refl _) _⟩
  rw [if_neg c9_] at h; cases h
 ·rename_i t x y
  have hl := Qed (x := x) (fun d e => hx d (Qae.2 (by simp [Op.operands, e])))
  have hm := Qed (x := y) (fun d e => hx d (Qae.2 (by simp [Op.operands, e])))
  by_cases c10_ : t = 65 ∧ (qvA σ x).s = 1 ∧ (qvA σ y).s = 1
  ·rw [if_pos c10_] at h; cases h
   obtain ⟨rfl, c1, c2⟩ := c10_
   exact Qaz (QFn M.n hn (hl.t c1 (by decide)) (hm.t c2 (by decide))) ⟨_, rfl, Qg rfl (by show (14 : Nat) < 100; decide) ⟨_, rfl, hN, Blk.new w _ _, by show (List.replicate M.n false).length = _; simp⟩, hB.alloc (Nat.le_refl _) _⟩
  rw [if_neg c10_] at h; cases h
 ·rename_i t n ps
  by_cases c13_ : ps.toList.map (·.1) = List.range n ∧ 0 < n ∧ n ≤ 7
  ·rw [if_pos c13_] at h
   obtain ⟨c1, c2, c3⟩ := c13_
   have hln : ps.toList.length = n := by have := congrArg List.length c1; rw [List.length_map, List.length_range] at this; exact this
   by_cases d1 : t = 131 ∧ ps.toList.all (fun p => (qvA σ p.2).s == 6) = true
   ·rw [if_pos d1] at h; cases h
    obtain ⟨rfl, d1⟩ := d1
    obtain ⟨qs, h1, h2, h3⟩ := Qom (M := M) (w := w) (a := a) (σ := σ) ps.toList (fun p hp => by
     have h6 : (qvA σ p.2).s = 6 := by simpa using List.all_eq_true.1 d1 p hp
     exact (Qed (M := M) (N := N) (x := p.2) (fun d e => hx d (Qae.2 (by simp [Op.operands]; exact ⟨p.1, by rw [← e]; exact Array.mem_toList_iff.1 hp⟩)))).t h6 (by decide))
    have hl : qs.length = n := by have := congrArg List.length h2; rw [List.length_map, List.length_map] at this; omega
    subst hl
    have hB2 : Below w.heap.size w (w.alloc (.cells (rvC ((M.n : Nat) : Int) qs).toArray 51)) := hB.alloc (Nat.le_refl _) _
    refine Qkl c1 h1 (QAx _ qs c3 c2 w) ⟨_, rfl, Qg rfl (by show (7 : Nat) < 100; decide) ?_, hB2⟩
    show RsA _ _ _ (ps.toList.map (fun p => (qvA σ p.2).r))
    rw [← h2]
    exact QFm (c := qs.length) qs (Blk.new w _ _) (fun q hq => (h3 q hq).below hB2)
   rw [if_neg d1] at h
   by_cases d2 : t = 36 ∧ ps.toList.all (fun p => isK p.2) = true ∧ n ≤ 6
   ·rw [if_pos d2] at h; cases h
    obtain ⟨rfl, d2, d3⟩ := d2
    have h1 : ps.toList.map (fun p => a.eval p.2) = (Qfn ps.toList).map (Value.int .i64) := by
     unfold Qfn
     rw [List.map_map]
     exact List.map_congr_left (fun p hp => Qqs (List.all_eq_true.1 d2 p hp))
    have hl : (Qfn ps.toList).length = n := by unfold Qfn; rw [List.length_map]; exact hln
    subst hl
    exact Qkl c1 h1 (Qxj _ d3 c2 w) ⟨_, rfl, Qg rfl (by show (5 : Nat) < 100; decide) ⟨Quy w _, by show (Qfn ps.toList).length ≤ 64; omega⟩, hB.alloc (Nat.le_refl _) _⟩
   ·rw [if_neg d2] at h; cases h
  ·rw [if_neg c13_] at h; cases h
 ·rename_i t ps
  by_cases c14_ : t = 53 ∧ ps.toList.map (·.1) = List.range 5 ∧ ps.toList.all (fun p => (qvA σ p.2).s == 6) = true
  ·rw [if_pos c14_] at h; cases h
   obtain ⟨rfl, c1, d1⟩ := c14_
   obtain ⟨qs, h1, h2, h3⟩ := Qom (M := M) (w := w) (a := a) (σ := σ) ps.toList (fun p hp => by
    have h6 : (qvA σ p.2).s = 6 := by simpa using List.all_eq_true.1 d1 p hp
    exact (Qed (M := M) (N := N) (x := p.2) (fun d e => hx d (Qae.2 (by simp [Op.operands]; exact ⟨p.1, by rw [← e]; exact Array.mem_toList_iff.1 hp⟩)))).t h6 (by decide))
   have hl : qs.length = 5 := by have := congrArg List.length h2; have h4 := congrArg List.length c1; rw [List.length_map, List.length_map] at this; rw [List.length_map, List.length_range] at h4; omega
   refine Qb5 (o := ⟨dst, .build 53 ps, ty, pos, af, gd⟩) (s := Instr.build 53 (ps.map fun (i, x) => (i, a.eval x))) (by kernel_rfl) (by rw [Qrl c1 h1]; exact Qyt _ qs hl w) ⟨_, rfl, Qg rfl (by show (10 : Nat) < 100; decide) ⟨qs, rfl, h2, h3⟩, hB⟩
  ·rw [if_neg c14_] at h; cases h
 ·rename_i args tys
  obtain ⟨l⟩ := args
  match l, h, hx with
  | [], h, _ => cases h
  | [x], h, hx =>
   have hl := Qed (x := x) (fun d e => hx d (Qae.2 (by simp [Op.operands, Call.operands, e])))
   dsimp only at h
   by_cases c1 : tys = #[23] ∧ (qvA σ x).g.t = 5 ∧ (qvA σ x).g.f = 1
   ·rw [if_pos c1] at h; cases h
    obtain ⟨rfl, c1⟩ := c1
    have e : a.eval x = M.m.lv (qvA σ x).g.f := hl.1.t c1.1
    rw [c1.2] at e
    obtain ⟨p, cap, e3, -, -, -⟩ := hG.g.gr.ev
    exact Qaz (QA0 (.inr rfl) (e.trans e3)) ⟨_, rfl, ⟨rfl, rfl⟩, hB⟩
   rw [if_neg c1] at h; cases h
  | x :: y :: l, h, _ => cases h
 ·rename_i f args tys
  obtain ⟨l⟩ := args
  match l, h, hx with
  | [], h, _ => cases h
  | [x], h, hx => exact QAy hn hw hG h (Qed (fun d e => hx d (Qae.2 (by simp [Op.operands, Call.operands, e]))))
  | [x, y], h, hx => exact QAz hn hG h (Qed (fun d e => hx d (Qae.2 (by simp [Op.operands, Call.operands, e])))) (Qed (fun d e => hx d (Qae.2 (by simp [Op.operands, Call.operands, e]))))
  | x :: y :: z :: l, h, _ => cases h
 ·cases h
theorem QFp (hn : M.n ≤ 256) (hw : Wf M.m.g true) (hG : QG M w) (hN : N ≤ w.heap.size) {o : Oper} {av : QV} (h : QAv M σ o.op = some av) (hp : ∀ p, QAw M σ o.op = some p → p) (hx : ∀ d ∈ Qb9 o.op.operands.toList, QIs M N w (σ d) (a.eval (.tmp d))) : o.wp Tryz.prog a w (Qjv M N a w o.dst av) Q := by
 unfold QAv at h
 unfold QAw at hp
 cases hz : Qru M σ o.op with
 | some az =>
  rw [hz] at h hp
  cases h
  exact QFo hn hw hG hN hz hp hx
 | none =>
  rw [hz] at h hp
  dsimp only at h hp
  cases hg : Qsi M.m (fun d => (σ d).g) o.op with
  | some ag =>
   rw [hg] at h
   cases h
   refine Oper.wp_mono (fun a' w' h => ?_) (Qy8 hG.g hN hg hp (fun d hd => (hx d hd).1))
   obtain ⟨v, h1, h2, h3⟩ := h
   exact ⟨v, h1, ⟨h2, trivial⟩, h3⟩
  | none => rw [hg] at h; cases h
end
def qE (M : Qm) (hn : M.n ≤ 256) (hw : Wf M.m.g true) : Eng Tryz.prog QV where
 Is := QIs M
 G := QG M
 isNo x := x.g.t == 0 && x.s == 0
 nw x := x.g.t == 12 || (x.s == 9 || x.s == 14)
 isB x := x.g.t == 2
 bv x := x.g.b
 con x := .b_ (Qox x)
 pk b x y := if x.g.t = 2 ∧ y.g.t = 2 then some (.bo (if b then x.g.b else y.g.b)) else none
 opR := QAv M
 pre := QAw M
 mono := fun {N w w' x v} h hb => ⟨GIs.mono h.1 hb, by
  have h2 := h.2
  by_cases e : x.s < 100
  ·rw [if_pos e] at h2 ⊢; exact h2.mono hb
  ·rw [if_neg e] at h2 ⊢; exact h2⟩
 gmono := QG.mono
 any := fun {_ _ x _} h => by
  rw [Bool.and_eq_true, beq_iff_eq, beq_iff_eq] at h
  refine ⟨by unfold GIs; rw [h.1]; trivial, ?_⟩
  rw [h.2]
  exact trivial
 chg := fun {_ _ _ x _} h hi => by
  rw [Bool.or_eq_false_iff, Bool.or_eq_false_iff] at h
  obtain ⟨h1, h2, h3⟩ := h
  refine ⟨?_, ?_⟩
  ·obtain ⟨⟨t, k, b, f, p, e⟩, s, n, q1, q2, q3, q4⟩ := x
   have hi := hi.1
   unfold GIs at hi ⊢
   dsimp only at hi ⊢
   split at hi
   case h_11 => simp at h1
   all_goals exact hi
  ·have hi := hi.2
   by_cases e : x.s < 100
   ·rw [if_pos e] at hi ⊢
    generalize x.s = s at *
    unfold QI0 at hi ⊢
    split at hi
    case h_7 => simp at h2
    case h_10 => simp at h3
    all_goals exact hi
   ·rw [if_neg e] at hi ⊢; exact hi
 bool := fun {N w x v} h hi => hi.1.t (k := 2) (by simpa using h)
 conOk := fun h => ⟨Qle h, trivial⟩
 pkOk := fun {N w b x y z v} h hi => by
  by_cases c15_ : x.g.t = 2 ∧ y.g.t = 2
  ·rw [if_pos c15_] at h; cases h
   refine ⟨?_, trivial⟩
   cases b
   ·exact (show GIs M.m N w y.g v from hi.1).t c15_.2
   ·exact (show GIs M.m N w x.g v from hi.1).t c15_.1
  ·rw [if_neg c15_] at h; cases h
 ok := fun hG hN h hp hx => QFp hn hw hG hN h hp hx
section
variable {w : World} {a : Act} {x y : Operand} {dst : Option Tmp} {ty : TypeId} {pos : String} {af : Array Edge} {gd : Option (Nat × Bool)}
theorem QDa {b p q : Nat} {m : Int} {s : Option Addr} (hv : a.eval x = pv b) (hu : a.eval y = .agg #[.int .i64 m, .slice s p q]) (hb : Blk w b 51 #[.int .i64 0, .slice none 0 0]) : (execOp a.eval ⟨dst, .store 51 x y, ty, pos, af, gd⟩).run Tryz.prog w = .ok .skip ((w.setCell ⟨b, 0, none⟩ (.int .i64 m)).setCell ⟨b, 1, none⟩ (.slice s p q)) := by
 have c0 : w.cell? ⟨b, 0, none⟩ = some (.int .i64 0) := hb.cell rfl
 have c1 : w.cell? ⟨b, 1, none⟩ = some (.slice none 0 0) := hb.cell rfl
 have f0 := hb.frozen 0
 have f1 := hb.frozen 1
 clear hb
 generalize a.eval = ρ at *
 go_simp
theorem QA1 {b k : Nat} {u : Value} (hv : a.eval x = .pointer (some ⟨b, k, none⟩)) (h : w.cell? ⟨b, k, none⟩ = some u) (hf : w.frozen? ⟨b, k, none⟩ = false) : (execOp a.eval ⟨dst, .store 4 x (.const (.bool true)), ty, pos, af, gd⟩).run Tryz.prog w = .ok .skip (w.setCell ⟨b, k, none⟩ (.bool true)) := by
 have e : a.eval (.const (.bool true)) = .bool true := rfl
 generalize a.eval = ρ at *
 go_simp
end
theorem Touch.rowQ (w : World) (m : Nat) (cs : Array Value) : Touch m w (w.setRow m cs) := ⟨rfl, rfl, rfl, by rw [size_setRow]; exact Nat.le_refl _, fun k _ hk => setRow_other w m k cs hk⟩
theorem RefM.touchF {lo m : Nat} {w w' : World} {M : Value} {k n : Nat} {rb : Nat → Nat} {F : Nat → Nat → Bool} {cs : Array Value} (h : RefM lo w M k n rb F) (hb : Blk w m 53 cs) (ht : Touch m w w') : RefM lo w' M k n rb F := by
 refine ⟨?_, fun p hp => ⟨(h.row p hp).1, (h.row p hp).2.touch ht (Qaq (h.row p hp).2 hb (by decide))⟩, h.apart, h.inj⟩
 obtain ⟨h1, h2⟩ := h.own
 refine ⟨h1, ?_⟩
 rcases h2 with h2 | ⟨g, cap, cur, e1, e2, e3, e4⟩
 ·exact .inl h2
 ·have hk : Blk w g 65 cur := e3
  exact .inr ⟨g, cap, cur, e1, e2, hk.touch ht (Qaq hk hb (by decide)), e4⟩
theorem Qlc {m : Int} : ∀ qs : List (Option Addr × Nat × Nat × List Nat), (qs.flatMap (fun q => [Value.int .i64 m, .slice q.1 q.2.1 q.2.2.1])).length = 2 * qs.length
 | [] => rfl
 | q :: qs => by
  rw [List.flatMap_cons, List.length_append, Qlc qs]
  show 2 + 2 * qs.length = 2 * (qs.length + 1)
  omega
theorem Qon {m : Int} : ∀ qs : List (Option Addr × Nat × Nat × List Nat), (qs.flatMap (fun q => [Value.int .i64 m, .slice q.1 q.2.1 q.2.2.1])).all (fun v => v.oneCell') = true
 | [] => rfl
 | q :: qs => by
  rw [List.flatMap_cons, List.all_append, Qon qs]
  rfl
def fz (x : QV) : QV := if x.s ≤ 1 ∨ x.s = 11 then x else { x with s := x.s + 100 }
def uz (l : List Bool) (x : QV) : QV := if x.s = 15 then .st 4 l else if 100 ≤ x.s then { x with s := x.s - 100 } else x
def okF (x : QV) : Bool := (decide (x.s ≤ 8) || x.s == 11) && (x.g.t == 0 || (x.g.t == 1 || (x.g.t == 2 || x.g.t == 3)))
def okZ (x : QV) : Bool := (x.s == 0 || (x.s == 1 || (x.s == 15 || (x.s == 11 || (decide (102 ≤ x.s) && decide (x.s ≤ 108)))))) && (x.g.t == 0 || (x.g.t == 1 || (x.g.t == 2 || x.g.t == 3)))
def Qm.wr (M : Qm) (w1 : World) (b : Nat) (l : List Bool) : Qm := ⟨M.m, M.fb, M.base, w1, true, b, l, M.ov, M.ol⟩
theorem Qrv {M : Gm} {N N' : Nat} {w w' : World} {x : GV} {v : Value} (hk : (x.t == 0 || (x.t == 1 || (x.t == 2 || x.t == 3))) = true) (h : GIs M N w x v) : GIs M N' w' x v := by
 obtain ⟨t, k, b, f, p, e⟩ := x
 simp only [Bool.or_eq_true, beq_iff_eq] at hk
 rcases hk with e | e | e | e <;> subst e
 ·show True
  exact trivial
 ·have h2 : v = .int .i64 k := h
  show v = .int .i64 k
  exact h2
 ·have h2 : v = .bool b := h
  show v = .bool b
  exact h2
 ·have h2 : v = pv M.gb := h
  show v = pv M.gb
  exact h2
theorem QFq {M : Qm} {N s b : Nat} {w : World} {l : List Bool} {x : QV} {v : Value} (hs : s ≤ 8) (h : QI0 M N w s x v) : QI0 (M.wr w b l) 0 w s x v := by
 have : s = 0 ∨ s = 1 ∨ s = 2 ∨ s = 3 ∨ s = 4 ∨ s = 5 ∨ s = 6 ∨ s = 7 ∨ s = 8 := by omega
 rcases this with e | e | e | e | e | e | e | e | e <;> subst e <;> exact h
theorem QGs {M : Qm} {N N' b : Nat} {w w' : World} {l : List Bool} {x : QV} {v : Value} (hk : okF x = true) (h : QIs M N w x v) : QIs (M.wr w b l) N' w' (fz x) v := by
 unfold okF at hk
 rw [Bool.and_eq_true, Bool.or_eq_true, decide_eq_true_eq, beq_iff_eq] at hk
 obtain ⟨h1, h2⟩ := h
 unfold fz
 by_cases c : x.s ≤ 1 ∨ x.s = 11
 ·rw [if_pos c]
  refine ⟨Qrv hk.2 h1, ?_⟩
  rw [if_pos (by omega)] at h2 ⊢
  have : x.s = 0 ∨ x.s = 1 ∨ x.s = 11 := by omega
  rcases this with e | e | e
  ·rw [e]; trivial
  ·rw [e] at h2 ⊢; exact h2
  ·rw [e] at h2 ⊢; exact h2
 ·rw [if_neg c]
  refine ⟨Qrv hk.2 h1, ?_⟩
  rw [if_pos (by omega)] at h2
  show if x.s + 100 < 100 then _ else _
  rw [if_neg (by omega)]
  have hk8 : x.s ≤ 8 := by omega
  have := QFq (b := b) (l := l) hk8 h2
  show QI0 (M.wr w b l) 0 w (x.s + 100 - 100) _ v
  rw [Nat.add_sub_cancel]
  have e8 := hk8
  have : x.s = 2 ∨ x.s = 3 ∨ x.s = 4 ∨ x.s = 5 ∨ x.s = 6 ∨ x.s = 7 ∨ x.s = 8 := by omega
  rename_i hh
  generalize hs : x.s = s at *
  rcases this with e | e | e | e | e | e | e <;> subst e <;> exact hh
theorem QDb {M M' : Qm} {N N' : Nat} {w w' : World} {x : QV} {v : Value} (hm : M.m = M'.m) (hw1 : M.w1 = M'.w1) (hb : M.blk = M'.blk) (hf : M.fb = M'.fb) (hk : okZ x = true) (h : QIs M N w x v) : QIs M' N' w' x v := by
 obtain ⟨m, fb, base, w1, ph, blk, lst, ov, ol⟩ := M
 obtain ⟨m', fb', base', w1', ph', blk', lst', ov', ol'⟩ := M'
 dsimp only at hm hw1 hb hf
 subst hm hw1 hb hf
 unfold okZ at hk
 rw [Bool.and_eq_true] at hk
 obtain ⟨h1, h2⟩ := h
 refine ⟨Qrv hk.2 h1, ?_⟩
 have k := hk.1
 simp only [Bool.or_eq_true, Bool.and_eq_true, beq_iff_eq, decide_eq_true_eq] at k
 obtain ⟨g, s, n, q1, q2, q3, q4⟩ := x
 dsimp only at k h2 ⊢
 have : s = 0 ∨ s = 1 ∨ s = 15 ∨ s = 11 ∨ s = 102 ∨ s = 103 ∨ s = 104 ∨ s = 105 ∨ s = 106 ∨ s = 107 ∨ s = 108 := by omega
 rcases this with e | e | e | e | e | e | e | e | e | e | e <;> subst e <;> exact h2
theorem QGt {M : Qm} {w : World} {x : QV} {v : Value} (hG : QG M w) (hp : M.ph = true) (hk : okZ x = true) (h : QIs M 0 w x v) : QIs M 0 w (uz M.lst x) v := by
 unfold okZ at hk
 rw [Bool.and_eq_true] at hk
 obtain ⟨h1, h2⟩ := h
 obtain ⟨p1, p2, p3, p4⟩ := hG.p hp
 have k := hk.1
 simp only [Bool.or_eq_true, Bool.and_eq_true, beq_iff_eq, decide_eq_true_eq] at k
 unfold uz
 by_cases c : x.s = 15
 ·rw [if_pos c]
  rw [c, if_pos (by decide)] at h2
  have h2 : v = .slice (some ⟨M.blk, 0, none⟩) M.n M.n := h2
  refine Qg rfl (by show (4 : Nat) < 100; decide) ⟨.inr ⟨M.blk, 0, M.n, by show v = .slice _ M.lst.length _; rw [p4]; exact h2, p3.lt, fun i y hy => ?_⟩, p4⟩
  have hy : M.lst[i]? = some y := hy
  exact p3.cell (by rw [Nat.zero_add]; unfold Qaj; simp [hy])
 ·rw [if_neg c]
  by_cases c2 : 100 ≤ x.s
  ·rw [if_pos c2]
   refine ⟨h1, ?_⟩
   rw [if_neg (by omega)] at h2
   show if x.s - 100 < 100 then _ else _
   rw [if_pos (by omega)]
   have h2 := h2.mono p1
   obtain ⟨g, s, n, q1, q2, q3, q4⟩ := x
   dsimp only at k h2 ⊢
   dsimp only at c c2
   have : s = 102 ∨ s = 103 ∨ s = 104 ∨ s = 105 ∨ s = 106 ∨ s = 107 ∨ s = 108 := by omega
   rcases this with e | e | e | e | e | e | e <;> subst e <;> exact h2
  ·rw [if_neg c2]
   exact ⟨h1, h2⟩
theorem Qhq {f : QV → QV} (hf : f (QV.x 0 0) = QV.x 0 0) : ∀ {kk : List (Nat × QV)} {x : Nat}, Qas (fun _ => QV.x 0 0) (kk.map (fun p => (p.1, f p.2))) x = f (Qas (fun _ => QV.x 0 0) kk x)
 | [], x => hf.symm
 | p :: kk, x => by
  show (if x = p.1 then f p.2 else Qas (fun _ => QV.x 0 0) (kk.map (fun p => (p.1, f p.2))) x) = f (if x = p.1 then p.2 else Qas (fun _ => QV.x 0 0) kk x)
  by_cases e : x = p.1
  ·rw [if_pos e, if_pos e]
  ·rw [if_neg e, if_neg e]
   exact Qhq hf
theorem QGu {x : QV} (hk : okF x = true) : (((fz x).g.t == 12) || ((fz x).s == 9 || (fz x).s == 14)) = false := by
 unfold okF at hk
 simp only [Bool.or_eq_true, Bool.and_eq_true, beq_iff_eq, decide_eq_true_eq] at hk
 have e : (fz x).g = x.g := by unfold fz; split <;> rfl
 have e2 : (fz x).s = x.s ∨ (fz x).s = x.s + 100 := by unfold fz; split; exact .inl rfl; exact .inr rfl
 simp only [Bool.or_eq_false_iff, beq_eq_false_iff_ne, e]
 omega
theorem QGv {l : List Bool} {x : QV} (hk : okZ x = true) : (((uz l x).g.t == 12) || ((uz l x).s == 9 || (uz l x).s == 14)) = false := by
 unfold okZ at hk
 simp only [Bool.or_eq_true, Bool.and_eq_true, beq_iff_eq, decide_eq_true_eq] at hk
 unfold uz
 split
 ·rfl
 ·split
  ·simp only [Bool.or_eq_false_iff, beq_eq_false_iff_ne]
   omega
  ·simp only [Bool.or_eq_false_iff, beq_eq_false_iff_ne]
   omega
section
variable {M : Qm} {hn : M.n ≤ 256} {hw : Wf M.m.g true} {T : Nat} {w0 : World} {σ : Nat → QV} {ops : Array Oper} {Q : Exit → Act → World → Prop} {id : Nat} {b : Bool} {c2 : Code}
theorem QDc (n d k : Nat) (L : List Nat) (hs : ops.size = n + 1) (hok : okR ops n (n + 1) T = true) (hC : (qE M hn hw).sucT ops (ops.toList.take n) σ = true) (hV : (qE M hn hw).vcT ops ((qE M hn hw).goT (ops.toList.take n) σ) (ops.toList.take n) (gds ops) σ)
  (hL : ∃ ol, ops[n]? = some ol ∧ ol.guard = none ∧ ol.dst = none ∧ ol.op = .store 51 (.tmp d) (.tmp k)) (hW : Qh1 ops n = true)
  (hd : (qE M hn hw).goT (ops.toList.take n) σ d = .x 9 0) (hk : (qE M hn hw).goT (ops.toList.take n) σ k = .rl 6 L) (hσ : Qh2 (qE M hn hw).isNo ops n [(d, .rl 8 L)] σ = true)
  (fin : ∀ a w, (qE M hn hw).Ga T w0 (Qas σ [(d, .rl 8 L)]) a w → c2.wp Tryz.prog Q a w) : ∀ a w, (qE M hn hw).Ga T w0 σ a w → ((Code.region id ops b).seq c2).wp Tryz.prog Q a w := by
 intro a1 w1 h1
 obtain ⟨ol, k1, k2, k3, k4⟩ := hL
 refine wp_seq (Eng.reg_last (by kernel_rfl) n hs hok hC hV k1 k2 hW (fun c x y e => by rw [k4] at e; cases e) h1 (fun L' a w hM _ hops => ?_))
 have vd : QIs M w1.heap.size w ((qE M hn hw).goT (ops.toList.take n) σ d) (a.eval (.tmp d)) := hops d (Qae.2 (by rw [k4]; simp [Op.operands]))
 have vk : QIs M w1.heap.size w ((qE M hn hw).goT (ops.toList.take n) σ k) (a.eval (.tmp k)) := hops k (Qae.2 (by rw [k4]; simp [Op.operands]))
 rw [hd] at vd
 rw [hk] at vk
 obtain ⟨m, vd, hN, hB⟩ : ∃ b, a.eval (.tmp d) = pv b ∧ w1.heap.size ≤ b ∧ Blk w b 51 #[.int .i64 0, .slice none 0 0] := vd.2
 have vk : RT w M.n (a.eval (.tmp k)) L := vk.2
 obtain ⟨s, p, q, hu⟩ := vk.form
 rw [hu] at vk
 obtain ⟨dst, op, ty, pos, af, gd⟩ := ol
 dsimp only at k3 k4
 subst k3 k4
 have hb : Below w1.heap.size w1 ((w.setCell ⟨m, 0, none⟩ (.int .i64 ((M.n : Nat) : Int))).setCell ⟨m, 1, none⟩ (.slice s p q)) := (hM.low.setCell (p := ⟨m, 0, none⟩) hN _).setCell (p := ⟨m, 1, none⟩) hN _
 have ht : Touch m w ((w.setCell ⟨m, 0, none⟩ (.int .i64 ((M.n : Nat) : Int))).setCell ⟨m, 1, none⟩ (.slice s p q)) := ((Touch.of_below (Below.refl _ w)).set _).set _
 have hz := (hB.set 0 (.int .i64 ((M.n : Nat) : Int))).set 1 (.slice s p q)
 simp only [List.setIfInBounds_toArray, List.set_cons_zero, List.set_cons_succ] at hz
 refine wp_skip (QDa vd hu hB) (fin _ _ ⟨h1.low.trans (hb.mono h1.low.size), QG.mono h1.g hb, fun x => ?_, fun x => ?_, hM.sz, hM.df⟩)
 ·show QIs M 0 _ (Qas σ [(d, .rl 8 L)] x) (a.eval (.tmp x))
  rcases Qbm (σ := σ) (ks := [(d, QV.rl 8 L)]) (x := x) with ⟨q, h2, rfl, h4⟩ | ⟨h2, h3⟩
  ·obtain rfl := List.mem_singleton.1 h2
   rw [h4, vd]
   exact Qg rfl (by show (8 : Nat) < 100; decide) ⟨m, s, p, _, rfl, hz, vk.touch hB ht⟩
  ·rw [h3]
   by_cases hw2 : ∃ j, j < n ∧ Qbi ops j = some x
   ·obtain ⟨i, hi, hd⟩ := hw2
    exact (qE M hn hw).any (Qhn hσ hi hd h2)
   ·rw [hM.rest x (fun i hi _ hd => hw2 ⟨i, hi, hd⟩)]
    exact (qE M hn hw).mono (h1.is x) hb
 ·rcases Qbm (σ := σ) (ks := [(d, QV.rl 8 L)]) (x := x) with ⟨q, h2, rfl, h4⟩ | ⟨h2, h3⟩
  ·obtain rfl := List.mem_singleton.1 h2
   rw [h4]
   rfl
  ·rw [h3]
   exact h1.nw x
theorem Qa9 (n d k : Nat) (L : List Nat) (fin : ∀ a w, (qE M hn hw).Ga T w0 (Qas σ [(d, .rl 8 L)]) a w → c2.wp Tryz.prog Q a w) (a : Act) (w : World) (h : (qE M hn hw).Ga T w0 σ a w) (hs : ops.size = n + 1 := by rfl) (hok : okR ops n (n + 1) T = true := by as_aux_lemma => kernel_rfl) (hC : (qE M hn hw).sucT ops (ops.toList.take n) σ = true := by as_aux_lemma => kernel_rfl) (hV : True = (qE M hn hw).vcT ops ((qE M hn hw).goT (ops.toList.take n) σ) (ops.toList.take n) (gds ops) σ := by as_aux_lemma => kernel_rfl)
  (hL : ∃ ol, ops[n]? = some ol ∧ ol.guard = none ∧ ol.dst = none ∧ ol.op = .store 51 (.tmp d) (.tmp k) := by exact ⟨_, rfl, rfl, rfl, rfl⟩) (hW : Qh1 ops n = true := by as_aux_lemma => kernel_rfl)
  (hd : (qE M hn hw).goT (ops.toList.take n) σ d = .x 9 0 := by as_aux_lemma => kernel_rfl) (hk : (qE M hn hw).goT (ops.toList.take n) σ k = .rl 6 L := by as_aux_lemma => kernel_rfl) (hσ : Qh2 (qE M hn hw).isNo ops n [(d, .rl 8 L)] σ = true := by as_aux_lemma => kernel_rfl) :
  ((Code.region id ops b).seq c2).wp Tryz.prog Q a w := QDc n d k L hs hok hC (hV ▸ trivial) hL hW hd hk hσ fin a w h
theorem QFr (d j : Nat) (kk : List (Nat × QV)) (hok : okR ops ops.size ops.size T = true) (hC : (qE M hn hw).sucT ops ops.toList (Qas (fun _ => QV.x 0 0) kk) = true) (hV : (qE M hn hw).vcT ops ((qE M hn hw).goT ops.toList (Qas (fun _ => QV.x 0 0) kk)) ops.toList (gds ops) (Qas (fun _ => QV.x 0 0) kk))
  (hd : (qE M hn hw).goT ops.toList (Qas (fun _ => QV.x 0 0) kk) d = .st 14 (List.replicate M.n false)) (hj : j < ops.size) (hj2 : Qbi ops j = some d) (hj3 : (gds ops).getD j [] = []) (hkk : kk.all (fun p => okF p.2 && (List.range ops.size).all (fun j => Qbi ops j != some p.1)) = true)
  (fin : ∀ w1 b a w, QG M w1 → w0.heap.size ≤ w1.heap.size → (qE (M.wr w1 b (List.replicate M.n false)) hn hw).Ga T w0 (Qas (fun _ => QV.x 0 0) ((d, .x 15 0) :: kk.map (fun p => (p.1, fz p.2)))) a w → Q .normal a w) : ∀ a w, (qE M hn hw).Ga T w0 (Qas (fun _ => QV.x 0 0) kk) a w → (Code.region id ops b).wp Tryz.prog Q a w := by
 intro a1 w1 h1
 refine Eng.reg_all (by kernel_rfl) hok hC hV h1 (fun L a w hl hM => ?_)
 have vd : QIs M w1.heap.size w _ (a.eval (.tmp d)) := (hM.done j d hj (hl j hj) hj2).1 (by rw [hj3]; rfl)
 rw [hd] at vd
 obtain ⟨m, e1, e2, e3, e4⟩ : ∃ b, a.eval (.tmp d) = .slice (some ⟨b, 0, none⟩) M.n M.n ∧ w1.heap.size ≤ b ∧ Blk w b 4 (Qaj (List.replicate M.n false)) ∧ (List.replicate M.n false).length = M.n := vd.2
 have hG : QG M w := h1.g.mono hM.low
 refine fin w1 m a w h1.g h1.low.size ⟨h1.low.trans (hM.low.mono h1.low.size), ⟨hG.g, hG.hB, fun _ => ⟨hM.low, e2, e3, e4⟩, hG.o⟩, fun x => ?_, fun x => ?_, hM.sz, hM.df⟩
 ·show QIs (M.wr w1 m _) 0 w _ _
  by_cases e : x = d
  ·rw [show Qas (fun _ => QV.x 0 0) ((d, QV.x 15 0) :: kk.map (fun p => (p.1, fz p.2))) x = QV.x 15 0 from if_pos e, e]
   exact Qg rfl (by show (15 : Nat) < 100; decide) e1
  ·rw [show Qas (fun _ => QV.x 0 0) ((d, QV.x 15 0) :: kk.map (fun p => (p.1, fz p.2))) x = Qas (fun _ => QV.x 0 0) (kk.map (fun p => (p.1, fz p.2))) x from if_neg e, Qhq rfl]
   rcases Qbm (σ := fun _ => QV.x 0 0) (ks := kk) (x := x) with ⟨p, h2, rfl, h4⟩ | ⟨_, h3⟩
   ·have k := List.all_eq_true.1 hkk p h2
    rw [Bool.and_eq_true] at k
    have e5 : a.eval (.tmp p.1) = a1.eval (.tmp p.1) := hM.rest p.1 (fun j hj _ hd => by
     have := List.all_eq_true.1 k.2 j (List.mem_range.2 hj)
     rw [hd] at this
     simp at this)
    have h5 : QIs M 0 w1 (Qas (fun _ => QV.x 0 0) kk p.1) (a1.eval (.tmp p.1)) := h1.is p.1
    rw [h4] at h5
    rw [h4, e5]
    exact QGs k.1 h5
   ·rw [h3]
    exact (qE (M.wr w1 m (List.replicate M.n false)) hn hw).any rfl
 ·by_cases e : x = d
  ·rw [show Qas (fun _ => QV.x 0 0) ((d, QV.x 15 0) :: kk.map (fun p => (p.1, fz p.2))) x = QV.x 15 0 from if_pos e]
   rfl
  ·rw [show Qas (fun _ => QV.x 0 0) ((d, QV.x 15 0) :: kk.map (fun p => (p.1, fz p.2))) x = Qas (fun _ => QV.x 0 0) (kk.map (fun p => (p.1, fz p.2))) x from if_neg e, Qhq rfl]
   rcases Qbm (σ := fun _ => QV.x 0 0) (ks := kk) (x := x) with ⟨p, h2, rfl, h4⟩ | ⟨_, h3⟩
   ·have k := List.all_eq_true.1 hkk p h2
    rw [Bool.and_eq_true] at k
    rw [h4]
    exact QGu k.1
   ·rw [h3]
    rfl
theorem QDd (n d i : Nat) (kk : List (Nat × QV)) (hp : M.ph = true) (hG1 : GG M.m M.w1) (hO1 : M.w1.ownsRow M.base 3 1 M.ov M.ol.length (Qc0 M.ol)) (hb1 : M.base ≤ M.w1.heap.size) (hlow1 : w0.heap.size ≤ M.w1.heap.size) (hs : ops.size = n + 1) (hok : okR ops n (n + 1) T = true)
  (hC : (qE M hn hw).sucT ops (ops.toList.take n) (Qas (fun _ => QV.x 0 0) kk) = true) (hV : (qE M hn hw).vcT ops ((qE M hn hw).goT (ops.toList.take n) (Qas (fun _ => QV.x 0 0) kk)) (ops.toList.take n) (gds ops) (Qas (fun _ => QV.x 0 0) kk))
  (hL : ∃ ol, ops[n]? = some ol ∧ ol.guard = none ∧ ol.dst = none ∧ ol.op = .store 4 (.tmp d) (.const (.bool true))) (hW : Qh1 ops n = true)
  (hd : (qE M hn hw).goT (ops.toList.take n) (Qas (fun _ => QV.x 0 0) kk) d = .x 16 i) (hkk : kk.all (fun p => okZ p.2 && (List.range n).all (fun j => Qbi ops j != some p.1)) = true)
  (fin : ∀ a w, (qE (M.wr M.w1 M.blk (M.lst.set i true)) hn hw).Ga T w0 (Qas (fun _ => QV.x 0 0) kk) a w → Q .normal a w) : ∀ a w, (qE M hn hw).Ga T w0 (Qas (fun _ => QV.x 0 0) kk) a w → (Code.region id ops b).wp Tryz.prog Q a w := by
 intro a1 w1 h1
 obtain ⟨ol, k1, k2, k3, k4⟩ := hL
 refine Eng.reg_last (by kernel_rfl) n hs hok hC hV k1 k2 hW (fun c x y e => by rw [k4] at e; cases e) h1 (fun L' a w hM _ hops => ?_)
 have vd : QIs M w1.heap.size w ((qE M hn hw).goT (ops.toList.take n) (Qas (fun _ => QV.x 0 0) kk) d) (a.eval (.tmp d)) := hops d (Qae.2 (by rw [k4]; simp [Op.operands]))
 rw [hd] at vd
 obtain ⟨vd, hi⟩ : a.eval (.tmp d) = .pointer (some ⟨M.blk, i, none⟩) ∧ i < M.n := vd.2
 have hG : QG M w := h1.g.mono hM.low
 obtain ⟨p1, p2, p3, p4⟩ := hG.p hp
 have hlow : Below w0.heap.size w0 w := h1.low.trans (hM.low.mono h1.low.size)
 have hc : w.cell? ⟨M.blk, i, none⟩ = some (.bool (M.lst.getD i false)) := p3.cell (by unfold Qaj; simp [List.getD_eq_getElem?_getD, List.getElem?_eq_getElem (show i < M.lst.length by omega)])
 obtain ⟨dst, op, ty, pos, af, gd⟩ := ol
 dsimp only at k3 k4
 subst k3 k4
 have q1 : Below M.w1.heap.size M.w1 (w.setCell ⟨M.blk, i, none⟩ (.bool true)) := p1.setCell (p := ⟨M.blk, i, none⟩) p2 _
 have q2 : Below w0.heap.size w0 (w.setCell ⟨M.blk, i, none⟩ (.bool true)) := hlow.setCell (p := ⟨M.blk, i, none⟩) (Nat.le_trans hlow1 p2) _
 have q3 := p3.set i (.bool true)
 rw [show (Qaj M.lst).setIfInBounds i (.bool true) = Qaj (M.lst.set i true) by unfold Qaj; simp [List.map_set]] at q3
 refine wp_skip (QA1 vd hc (p3.frozen i)) (fin _ _ ⟨q2, ⟨hG1.mono q1, Nat.le_trans hb1 q1.size, fun _ => ⟨q1, p2, q3, by show (M.lst.set i true).length = M.n; rw [List.length_set]; exact p4⟩, Qai hO1 q1⟩, fun x => ?_, fun x => ?_, hM.sz, hM.df⟩)
 ·show QIs (M.wr M.w1 M.blk _) 0 _ _ _
  rcases Qbm (σ := fun _ => QV.x 0 0) (ks := kk) (x := x) with ⟨p, h2, rfl, h4⟩ | ⟨_, h3⟩
  ·have k := List.all_eq_true.1 hkk p h2
   rw [Bool.and_eq_true] at k
   have e5 : a.eval (.tmp p.1) = a1.eval (.tmp p.1) := hM.rest p.1 (fun j hj _ hd => by
    have := List.all_eq_true.1 k.2 j (List.mem_range.2 hj)
    rw [hd] at this
    simp at this)
   have h5 : QIs M 0 w1 (Qas (fun _ => QV.x 0 0) kk p.1) (a1.eval (.tmp p.1)) := h1.is p.1
   rw [h4] at h5
   rw [h4]
   show QIs _ 0 _ p.2 (a.eval (.tmp p.1))
   rw [e5]
   exact QDb (M := M) (M' := M.wr M.w1 M.blk (M.lst.set i true)) rfl rfl rfl rfl k.1 h5
  ·rw [h3]
   exact (qE (M.wr M.w1 M.blk (M.lst.set i true)) hn hw).any rfl
 ·exact h1.nw x
theorem QGw {kk : List (Nat × QV)} {a : Act} {w : World} (hp : M.ph = true) (hkk : kk.all (fun p => okZ p.2) = true) (h : (qE M hn hw).Ga T w0 (Qas (fun _ => QV.x 0 0) kk) a w) : (qE M hn hw).Ga T w0 (Qas (fun _ => QV.x 0 0) (kk.map (fun p => (p.1, uz M.lst p.2)))) a w := by
 refine ⟨h.low, h.g, fun x => ?_, fun x => ?_, h.sz, h.df⟩
 ·show QIs M 0 w _ _
  rw [Qhq rfl]
  rcases Qbm (σ := fun _ => QV.x 0 0) (ks := kk) (x := x) with ⟨p, h2, rfl, h4⟩ | ⟨_, h3⟩
  ·have h5 : QIs M 0 w (Qas (fun _ => QV.x 0 0) kk p.1) (a.eval (.tmp p.1)) := h.is p.1
   rw [h4] at h5 ⊢
   exact QGt h.g hp (List.all_eq_true.1 hkk p h2) h5
  ·rw [h3]
   exact (qE M hn hw).any rfl
 ·rw [Qhq rfl]
  rcases Qbm (σ := fun _ => QV.x 0 0) (ks := kk) (x := x) with ⟨p, h2, rfl, h4⟩ | ⟨_, h3⟩
  ·rw [h4]
   exact QGv (List.all_eq_true.1 hkk p h2)
  ·rw [h3]
   rfl
theorem QDe (n k : Nat) (l : List (List Nat)) (hl : l.length = 5) (hs : ops.size = n + 1) (hok : okR ops n (n + 1) T = true) (hC : (qE M hn hw).sucT ops (ops.toList.take n) σ = true) (hV : (qE M hn hw).vcT ops ((qE M hn hw).goT (ops.toList.take n) σ) (ops.toList.take n) (gds ops) σ)
  (hL : ∃ ol, ops[n]? = some ol ∧ ol.guard = none ∧ ol.dst = none ∧ ol.op = .store 53 (.tmp 2) (.tmp k)) (hW : Qh1 ops n = true)
  (h2 : (qE M hn hw).goT (ops.toList.take n) σ 2 = .x 11 0) (hk : (qE M hn hw).goT (ops.toList.take n) σ k = .rs 10 l)
  {old : Array Value} (hX : Blk w0 M.fb 53 old) (ho : old.size = 10) {fn : Func} {R : Ending → World → Prop} (hfn : fn.results = #[.cell 2 53])
  (hR : ∀ v w1 w', Below w0.heap.size w0 w1 → Touch M.fb w1 w' → FcA w' M.n v l → R (.returned v) w') : ∀ a w, (qE M hn hw).Ga T w0 σ a w → ((Code.region id ops b).seq Code.ret).wp Tryz.prog (bodyPost Tryz.prog fn R) a w := by
 intro a1 w1 h1
 obtain ⟨ol, k1, k2, k3, k4⟩ := hL
 refine wp_seq (Eng.reg_last (by kernel_rfl) n hs hok hC hV k1 k2 hW (fun c x y e => by rw [k4] at e; cases e) h1 (fun L' a w hM _ hops => ?_))
 have vd : QIs M w1.heap.size w ((qE M hn hw).goT (ops.toList.take n) σ 2) (a.eval (.tmp 2)) := hops 2 (Qae.2 (by rw [k4]; simp [Op.operands]))
 have vk : QIs M w1.heap.size w ((qE M hn hw).goT (ops.toList.take n) σ k) (a.eval (.tmp k)) := hops k (Qae.2 (by rw [k4]; simp [Op.operands]))
 rw [h2] at vd
 rw [hk] at vk
 have vd : a.eval (.tmp 2) = .pointer (some ⟨M.fb, 0, none⟩) := vd.2
 have vk : FcA w M.n (a.eval (.tmp k)) l := vk.2
 obtain ⟨qs, he, hq1, hq2⟩ := vk
 have hqs : qs.length = 5 := by rw [← hl, ← hq1, List.length_map]
 have hlow : Below w0.heap.size w0 w := h1.low.trans (hM.low.mono h1.low.size)
 have hB : Blk w M.fb 53 old := hX.of_below hlow
 have hsz : (qs.flatMap (fun q => [Value.int .i64 ((M.n : Nat) : Int), .slice q.1 q.2.1 q.2.2.1])).toArray.size = 10 := by
  rw [List.size_toArray, Qlc, hqs]
 have hinf : (Tryz.prog.info? 53).map (·.size) = some 10 := by kernel_rfl
 have ht := Touch.rowQ w M.fb (qs.flatMap (fun q => [Value.int .i64 ((M.n : Nat) : Int), .slice q.1 q.2.1 q.2.2.1])).toArray
 refine wp_store_row 53 (.tmp 2) (.tmp k) k4 M.fb _ vd he 53 old hB (by rw [hsz]; exact hinf) (by rw [ho, hsz]) (by rw [List.all_toArray]; exact Qon qs) ?_
 rw [k3]
 refine wp_ret ⟨hM.df, _, results_cell_row hfn a.tmps _ M.fb _ _ (0, 0) _ vd (setRow_heap w M.fb old _ _ _ hB) Tryz.underlying53 rfl (by rw [hsz]; exact hinf), ?_⟩
 refine hR _ w _ hlow ht ⟨qs, rfl, hq1, fun q hq => ?_⟩
 obtain ⟨x, y, z, rb, F, e, k1, k2⟩ := hq2 q hq
 exact ⟨x, y, z, rb, F, e, k1.touchF hB ht, k2⟩
end
section
variable (g : Gr)
def idn (l : List Bool) : List Nat := Qa4 ((g.evs.length : Nat) : Int) l
def Qfv (a b : List Bool) : List Bool := List.zipWith (fun a b => a && b) a b
def Qbg (A : List Nat) (l : List (List Nat)) : List Nat := l.foldl Qav A
def Qdb (A : List Nat) (l : List (List Nat)) : List Nat := l.foldl (fun A B => Qan [A, B]) A
def LsT (k : Nat) : List Bool := (g.rmw.take k).foldl (fun l p => l.set p.2.toNat true) (List.replicate g.evs.length false)
def wQ : List Nat := idn g (Qaw g 2)
def rQ : List Nat := idn g (Qaw g 1)
def aQ : List Nat := idn g (Qfv (Qaw g 1) (mdL g [12]))
def qQ : List Nat := idn g (Qfv (Qaw g 1) (mdL g [12, 16]))
def lQ : List Nat := idn g (Qfv (Qaw g 2) (mdL g [13]))
def dQ : List Nat := idn g (mdL g [14])
def yQ : List Nat := idn g (mdL g [15])
def adQ : List Nat := Qcq g.evs.length (Qbh g.addr)
def daQ : List Nat := Qcq g.evs.length (Qbh g.dat)
def ctQ : List Nat := Qcq g.evs.length (Qbh g.ctrl)
def rfE : List Nat := Qbr (LG g 1) (LG g 6)
def rfI : List Nat := Qc (LG g 1) (LG g 6)
def coI : List Nat := Qc (LG g 2) (LG g 6)
def Qrw : List Nat := Qdb (rfE g) [Qbr (LG g 2) (LG g 6), Qbr (LG g 3) (LG g 6)]
def Qrx : List Nat := Qdb (adQ g) [daQ g, Qbg (ctQ g) [wQ g], Qbg (adQ g) [LG g 0, wQ g], Qbg (Qdb (ctQ g) [daQ g]) [coI g], Qbg (Qdb (adQ g) [daQ g]) [rfI g]]
def Qry : List Nat := Qdb (LG g 4) [Qbg (idn g (LsT g g.rmw.length)) [rfI g, qQ g]]
def Qrz : List Nat := Qdb (Qbg (LG g 0) [yQ g, LG g 0]) [Qbg (rQ g) [LG g 0, dQ g, LG g 0], Qbg (lQ g) [LG g 0, aQ g], Qbg (qQ g) [LG g 0], Qbg (LG g 0) [lQ g], Qbg (LG g 0) [lQ g, coI g]]
def fcQ : List (List Nat) := [Qrw g, Qrx g, Qry g, Qrz g, Qdb (Qrw g) [Qrx g, Qry g, Qrz g]]
theorem QA2 {k : Nat} (hk : k < g.rmw.length) : LsT g (k + 1) = (LsT g k).set (g.rmw.getD k (0, 0)).2.toNat true := by
 unfold LsT
 rw [List.take_succ_eq_append_getElem hk, List.foldl_append, List.getD_eq_getElem?_getD, List.getElem?_eq_getElem hk]
 rfl
end
theorem QDf {g : Gr} {q : Bool} (h : Wf g q) {k : Nat} (hk : k < g.rmw.length) : ∃ a b : Nat, g.rmw[k]? = some (((a : Nat) : Int), ((b : Nat) : Int)) ∧ a < g.evs.length ∧ b < g.evs.length := by
 have h6 : Qeu g = -1 := h 5 (by omega)
 have h7 := Quf h6 k (Nat.zero_le _) (by omega)
 have e : g.rmw.getD k (0, 0) = g.rmw[k] := by rw [List.getD_eq_getElem?_getD, List.getElem?_eq_getElem hk]; rfl
 rw [Bool.not_eq_false', Bool.and_eq_true, e] at h7
 have h8 := h7.2
 unfold okU Qgc at h8
 simp only [Bool.and_eq_true] at h8
 obtain ⟨a, ha, ha2⟩ := Qb1 h8.1.1.1
 obtain ⟨b, hb, hb2⟩ := Qb1 h8.1.1.2
 refine ⟨a, b, ?_, ha2, hb2⟩
 rw [List.getElem?_eq_getElem hk, ← ha, ← hb]
theorem QGx {g : Gr} {q : Bool} (h : Wf g q) {k : Nat} (hk : k < g.rmw.length) : 0 ≤ (g.rmw.getD k (0, 0)).2 ∧ (g.rmw.getD k (0, 0)).2 < ((g.evs.length : Nat) : Int) := by
 obtain ⟨a, b, e, _, hb⟩ := QDf h hk
 rw [List.getD_eq_getElem?_getD, e]
 exact ⟨Int.natCast_nonneg _, Int.ofNat_lt.2 hb⟩
theorem QGy {M : Qm} {hn : M.n ≤ 256} {hw : Wf M.m.g true} {T : Nat} {w0 w : World} {σ : Nat → QV} {a : Act} (h : (qE M hn hw).Ga T w0 σ a w) (d : Nat) (q : Bool) (e : σ d = QV.bo q) : a.eval (.tmp d) = .bool q := by
 have h1 : QIs M 0 w (σ d) (a.eval (.tmp d)) := h.is d
 rw [e] at h1
 exact h1.1
def qm (w : World) (V : GrV) (g : Gr) : Qm := ⟨⟨w.heap.size, V, g, V.rf, g.rf⟩, w.heap.size + 1, 0, w, false, 0, [], .slice none 0 0, []⟩
def kk0 (g : Gr) : List (Nat × QV) := [(1, .b_ (.at 3 0)), (2, .x 11 0), (3, ⟨.nu ((g.evs.length : Nat) : Int), 1, 0, [], [], [], []⟩), (4, .rl 8 (LG g 0)), (5, .rl 8 (LG g 1)), (6, .rl 8 (LG g 2)), (7, .rl 8 (LG g 3)), (8, .rl 8 (LG g 6)), (9, .rl 8 (adQ g)), (10, .rl 8 (daQ g)), (11, .rl 8 (ctQ g)), (14, .rl 8 (wQ g)), (15, .rl 8 (rQ g)), (16, .rl 8 (aQ g)), (17, .rl 8 (qQ g)), (18, .rl 8 (lQ g)), (19, .rl 8 (dQ g)), (20, .rl 8 (yQ g))]
def kk1 (g : Gr) : List (Nat × QV) := (21, QV.x 15 0) :: (kk0 g).map (fun p => (p.1, fz p.2))
def kk2 (g : Gr) (k : Nat) : List (Nat × QV) := (22, QV.nu ((k : Nat) : Int)) :: kk1 g
def kk3 (g : Gr) (l : List Bool) : List (Nat × QV) := (21, QV.st 4 l) :: kk0 g
theorem Qng (V : GrV) (g : Gr) (w : World) (h : GrR w V g) (hn : g.evs.length ≤ 256) (hw : Wf g true) : Calls Tryz.prog 19 #[V.val g] w fun e w' => ∃ v, e = .returned v ∧ FcA w' g.evs.length v (fcQ g) ∧ Below w.heap.size w w' := by
 have H := Qa h
 obtain ⟨-, -, -, -, hr4⟩ := Qab h.rmw
 have HR := Qa hr4
 clear hr4
 unfold GrV.val
 clear h
 go_enter Tryz.func19, Tryz.ntmps19
 go_upto_region 1 with fail
 have hB0 : Below w.heap.size w ((w.alloc (.cells #[.int .i64 g.cells, V.ev, V.rf, V.co, V.rmw, V.addr, V.dat, V.ctrl] 27)).alloc (.cells #[.int .i64 0, .slice none 0 0, .int .i64 0, .slice none 0 0, .int .i64 0, .slice none 0 0, .int .i64 0, .slice none 0 0, .int .i64 0, .slice none 0 0] 53)) := ((Below.refl _ w).alloc (Nat.le_refl _) _).alloc (by simp) _
 generalize hW : (w.alloc (.cells #[.int .i64 g.cells, V.ev, V.rf, V.co, V.rmw, V.addr, V.dat, V.ctrl] 27)).alloc (.cells #[.int .i64 0, .slice none 0 0, .int .i64 0, .slice none 0 0, .int .i64 0, .slice none 0 0, .int .i64 0, .slice none 0 0, .int .i64 0, .slice none 0 0] 53) = W0
 have hgx : Blk W0 w.heap.size 27 #[.int .i64 g.cells, V.ev, V.rf, V.co, V.rmw, V.addr, V.dat, V.ctrl] := by rw [← hW]; exact (Blk.new w _ _).alloc _
 have hrx : Blk W0 (w.heap.size + 1) 53 #[.int .i64 0, .slice none 0 0, .int .i64 0, .slice none 0 0, .int .i64 0, .slice none 0 0, .int .i64 0, .slice none 0 0, .int .i64 0, .slice none 0 0] := by rw [← hW]; exact Blk.new2 w _ _ _
 rw [hW] at hB0
 clear hW
 have HB := Qa hB0
 have HX := Qa hrx
 rename_i hK
 refine Eng.reg_keep (E := qE (qm w V g) hn hw) (T := 211) (w0 := W0) (σ := Qas (fun _ => QV.x 0 0) [(1, .b_ (.at 3 0)), (2, .x 11 0)]) [(3, ⟨.nu ((g.evs.length : Nat) : Int), 1, 0, [], [], [], []⟩)] byK byK byK byT byK byK byK (fun a w1 h => hK a w1 ?_) _ _
  (Qlf (E := qE (qm w V g) hn hw) (QV.x 0 0) [(1, .b_ (.at 3 0)), (2, .x 11 0)] rfl rfl (Below.refl _ _) ⟨⟨H.out.below HB.out, hgx, H.out.rf.below HB.out, hn⟩, Nat.zero_le _, (fun e => by cases e), ⟨rfl, .inl ⟨rfl, rfl⟩⟩⟩ (by intro p hp; simp only [List.mem_cons, List.not_mem_nil, or_false] at hp; rcases hp with rfl | rfl <;> first | exact ⟨⟨rfl, trivial⟩, rfl⟩ | exact ⟨⟨trivial, rfl⟩, rfl⟩) rfl rfl)
 clear hB0 hgx hrx
 revert a w1 h
 refine fun a w1 h => Qa9 (M := qm w V g) (hn := hn) (hw := hw) 3 4 34 (LG g 0) ?_ a w1 h; clear h a w1
 refine fun a w1 h => Qa9 (M := qm w V g) (hn := hn) (hw := hw) 3 5 36 (LG g 1) ?_ a w1 h; clear h a w1
 refine fun a w1 h => Qa9 (M := qm w V g) (hn := hn) (hw := hw) 3 6 38 (LG g 2) ?_ a w1 h; clear h a w1
 refine fun a w1 h => Qa9 (M := qm w V g) (hn := hn) (hw := hw) 3 7 40 (LG g 3) ?_ a w1 h; clear h a w1
 refine fun a w1 h => Qa9 (M := qm w V g) (hn := hn) (hw := hw) 3 8 42 (LG g 6) ?_ a w1 h; clear h a w1
 refine fun a w1 h => Qa9 (M := qm w V g) (hn := hn) (hw := hw) 5 9 46 (adQ g) ?_ a w1 h; clear h a w1
 refine fun a w1 h => Qa9 (M := qm w V g) (hn := hn) (hw := hw) 5 10 50 (daQ g) ?_ a w1 h; clear h a w1
 refine fun a w1 h => Qa9 (M := qm w V g) (hn := hn) (hw := hw) 5 11 54 (ctQ g) ?_ a w1 h; clear h a w1
 refine Eng.reg_seq (E := qE (qm w V g) hn hw) [(12, .st 4 (Qaw g 1))] byK byK byK byT byK byK byK ?_
 refine Eng.reg_seq (E := qE (qm w V g) hn hw) [(13, .st 4 (Qaw g 2))] byK byK byK byT byK byK byK ?_
 refine fun a w1 h => Qa9 (M := qm w V g) (hn := hn) (hw := hw) 4 14 61 (wQ g) ?_ a w1 h; clear h a w1
 refine fun a w1 h => Qa9 (M := qm w V g) (hn := hn) (hw := hw) 4 15 64 (rQ g) ?_ a w1 h; clear h a w1
 refine fun a w1 h => Qa9 (M := qm w V g) (hn := hn) (hw := hw) 8 16 71 (aQ g) ?_ a w1 h; clear h a w1
 refine fun a w1 h => Qa9 (M := qm w V g) (hn := hn) (hw := hw) 8 17 78 (qQ g) ?_ a w1 h; clear h a w1
 refine fun a w1 h => Qa9 (M := qm w V g) (hn := hn) (hw := hw) 8 18 85 (lQ g) ?_ a w1 h; clear h a w1
 refine fun a w1 h => Qa9 (M := qm w V g) (hn := hn) (hw := hw) 6 19 90 (dQ g) ?_ a w1 h; clear h a w1
 refine fun a w1 h => Qa9 (M := qm w V g) (hn := hn) (hw := hw) 6 20 95 (yQ g) ?_ a w1 h; clear h a w1
 refine fun a w1 h => wp_seq (QFr (M := (qm w V g)) (hn := hn) (hw := hw) 21 2 (kk0 g) byK byK byT byK (by decide) rfl byK byK (fun W1 b a2 w2 hG1 hL1 h2 => ?_) a w1 (h.to (QV.x 0 0) (kk0 g) rfl rfl byK))
 clear h a w1
 refine wp_seq (Eng.reg_seq (E := qE ((qm w V g).wr W1 b (List.replicate g.evs.length false)) hn hw) [(22, .nu ((0 : Nat) : Int))] byK byK byK byT byK byK byK (fun a w3 h => ?_) a2 w2 h2)
 clear h2 a2 w2
 refine Qki g.rmw.length (fun k a w3 => (qE ((qm w V g).wr W1 b (LsT g k)) hn hw).Ga 211 W0 (Qas (fun _ => QV.x 0 0) (kk2 g k)) a w3) (h.to (QV.x 0 0) (kk2 g 0) rfl rfl byK) ?_
 clear h a w3
 intro k a w3 hk hga
 refine Eng.reg_keep (E := qE ((qm w V g).wr W1 b (LsT g k)) hn hw) [(102, QV.bo (decide (((k : Nat) : Int) < ((g.rmw.length : Nat) : Int))))] byK byK byK byT byK byK byK (fun a w3 hga => ?_) a w3 hga
 refine ⟨_, QGy hga 102 (decide (((k : Nat) : Int) < ((g.rmw.length : Nat) : Int))) byK, fun hq => ?_, fun hq => ?_⟩
 case refine_2 =>
  have hkn : k < g.rmw.length := by simpa using hq
  have hr2 := QGx hw hkn
  have hR := HR.out
  refine ⟨hkn, ?_⟩
  replace hga := hga.to (QV.x 0 0) (kk2 g k) rfl rfl byK
  refine QDd (M := ((qm w V g).wr W1 b (LsT g k))) (hn := hn) (hw := hw) 8 112 (g.rmw.getD k (0, 0)).2.toNat (kk2 g k) rfl hG1.g hG1.o (Nat.zero_le _) hL1 rfl byK byK (QFh (p := (true = true → (0 ≤ ((k : Nat) : Int) ∧ ((k : Nat) : Int) < ((g.rmw.length : Nat) : Int))) ∧ (true = true → (0 ≤ (g.rmw.getD k (0, 0)).2 ∧ (g.rmw.getD k (0, 0)).2 < ((g.evs.length : Nat) : Int))) ∧ True) byK ⟨fun _ => ⟨by omega, by omega⟩, fun _ => hr2, trivial⟩) ⟨_, rfl, rfl, rfl, rfl⟩ byK byK byK (fun a w3 hga => ?_) a w3 hga
  have hga : (qE ((qm w V g).wr W1 b (LsT g (k + 1))) hn hw).Ga 211 W0 (Qas (fun _ => QV.x 0 0) (kk2 g k)) a w3 := by rw [QA2 g hkn]; exact hga
  refine Eng.reg_keep (E := qE ((qm w V g).wr W1 b (LsT g (k + 1))) hn hw) [(22, QV.nu (((k + 1 : Nat)) : Int))] byK byK byK (QFh (p := (true = true → ((-9223372036854775808 : Int) ≤ ((k : Nat) : Int) + 1 ∧ ((k : Nat) : Int) + 1 < 9223372036854775808)) ∧ True) byK ⟨fun _ => ⟨by omega, by omega⟩, trivial⟩) byK byK byK (fun a w3 hga => ?_) a w3 hga
  exact hga.to (QV.x 0 0) (kk2 g (k + 1)) rfl rfl byK
 case refine_1 =>
  obtain rfl : k = g.rmw.length := by have : ¬ k < g.rmw.length := (by simpa using hq); omega
  have h := (QGw (M := ((qm w V g).wr W1 b (LsT g g.rmw.length))) (hn := hn) (hw := hw) (kk := kk1 g) rfl byK (hga.to (QV.x 0 0) (kk1 g) rfl rfl byK)).to (QV.x 0 0) (kk3 g (LsT g g.rmw.length)) rfl rfl byK
  clear hga hq hk
  revert a w3 h
  refine fun a w3 h => Qa9 (M := (qm w V g).wr W1 b (LsT g g.rmw.length)) (hn := hn) (hw := hw) 4 23 115 (rfE g) ?_ a w3 h; clear h a w3
  refine fun a w3 h => Qa9 (M := (qm w V g).wr W1 b (LsT g g.rmw.length)) (hn := hn) (hw := hw) 4 24 118 (rfI g) ?_ a w3 h; clear h a w3
  refine fun a w3 h => Qa9 (M := (qm w V g).wr W1 b (LsT g g.rmw.length)) (hn := hn) (hw := hw) 4 25 121 (coI g) ?_ a w3 h; clear h a w3
  refine fun a w3 h => Qa9 (M := (qm w V g).wr W1 b (LsT g g.rmw.length)) (hn := hn) (hw := hw) 10 26 130 (Qrw g) ?_ a w3 h; clear h a w3
  refine fun a w3 h => Qa9 (M := (qm w V g).wr W1 b (LsT g g.rmw.length)) (hn := hn) (hw := hw) 28 27 157 (Qrx g) ?_ a w3 h; clear h a w3
  refine fun a w3 h => Qa9 (M := (qm w V g).wr W1 b (LsT g g.rmw.length)) (hn := hn) (hw := hw) 12 28 168 (Qry g) ?_ a w3 h; clear h a w3
  refine fun a w3 h => Qa9 (M := (qm w V g).wr W1 b (LsT g g.rmw.length)) (hn := hn) (hw := hw) 32 29 199 (Qrz g) ?_ a w3 h; clear h a w3
  refine QDe (M := ((qm w V g).wr W1 b (LsT g g.rmw.length))) (hn := hn) (hw := hw) 11 210 (fcQ g) rfl rfl byK byK byT ⟨_, rfl, rfl, rfl, rfl⟩ byK byK byK HX.out rfl rfl ?_
  intro v w1 w' h1 ht hv
  have h2 := Qaa HB.out HB.out.size h1
  exact ⟨v, rfl, hv, h2.trans (ht.below (by show w.heap.size ≤ w.heap.size + 1; omega) h2.size)⟩
open Relation
theorem QFs {n : Nat} {F : Nat → Nat → Bool} {p q : Nat} (h : hs (Qcq n F) p q) : p < n ∧ q < n ∧ F p q = true := by
 have hp := Qbo h
 rw [Qev] at hp
 have h2 := h
 unfold hs at h2
 rw [Qk5 n F hp, Qfo, Bool.and_eq_true, decide_eq_true_iff] at h2
 exact ⟨hp, h2.1, h2.2⟩
theorem Qnh {n : Nat} (hn : n ≤ 256) {l : List Bool} {p q : Nat} (h : hs (Qa4 ((n : Nat) : Int) l) p q) : p = q ∧ l.getD p false = true := by
 unfold Qa4 at h
 rw [Qd0 hn] at h
 rw [Qhc _ _ (fun q hq => by rw [List.length_replicate]; exact ((Qfl hn l q).1 hq).1), Qfl hn] at h
 rcases h with h | h
 ·exact absurd h (Qf4 _ _ _)
 ·exact ⟨h.1, h.2.2⟩
theorem Qr0 {n : Nat} (hn : n ≤ 256) (l : List Bool) : WF n (Qa4 ((n : Nat) : Int) l) := by
 refine ⟨by unfold Qa4; rw [Qgj, List.length_replicate, Qd0 hn], fun p q h => ?_⟩
 have hp := Qbo h
 have := Qnh hn h
 unfold Qa4 at hp
 rw [Qgj, List.length_replicate, Qd0 hn] at hp
 omega
theorem Qni {P : Ev → Bool} {evs : List Ev} {p : Nat} (h : (Qbb P evs).getD p false = true) : p < evs.length ∧ P (evs.getD p Ev.zero) = true := by
 unfold Qbb at h
 rw [List.getD_eq_getElem?_getD, List.getElem?_map] at h
 cases he : evs[p]? with
 | none => rw [he] at h; simp at h
 | some e =>
  rw [he] at h
  simp at h
  refine ⟨(List.getElem?_eq_some_iff.1 he).1, ?_⟩
  rw [List.getD_eq_getElem?_getD, he]
  exact h
section
variable {g : Gr} {p q : Nat}
theorem Qko (hn : g.evs.length ≤ 256) {x : Int} (h : hs (Qa4 ((g.evs.length : Nat) : Int) (Qaw g x)) p q) : p = q ∧ p < g.evs.length ∧ (g.ev p).k = x := by
 obtain ⟨h1, h2⟩ := Qnh hn h
 have h3 := Qni h2
 exact ⟨h1, h3.1, by have := h3.2; exact beq_iff_eq.1 this⟩
theorem Qgi (hn : g.evs.length ≤ 256) {ms : List Int} (h : hs (Qa4 ((g.evs.length : Nat) : Int) (mdL g ms)) p q) : p = q ∧ p < g.evs.length ∧ (g.ev p).m ∈ ms := by
 obtain ⟨h1, h2⟩ := Qnh hn h
 have h3 := Qni h2
 exact ⟨h1, h3.1, by have := h3.2; exact List.contains_iff_mem.1 this⟩
theorem Qak (g : Gr) (i : Nat) : WF g.evs.length (LG g i) := by
 match i with
 | 0 => exact Qc2 _ _
 | 1 => exact Qc2 _ _
 | 2 => exact Qc2 _ _
 | 3 => exact Qc2 _ _
 | 4 => exact Qc2 _ _
 | 5 => exact Qc2 _ _
 | 6 => exact Qc2 _ _
 | 7 => exact Qc2 _ _
 | 8 => exact Qc2 _ _
 | n + 9 => exact Qc2 _ _
end
theorem Qdr {n : Nat} (hn : n ≤ 256) {l : List Bool} {p q : Nat} : hs (Qa4 ((n : Nat) : Int) l) p q ↔ p = q ∧ p < n ∧ l.getD p false = true := by
 unfold Qa4
 rw [Qd0 hn, Qhc _ _ (fun q hq => by rw [List.length_replicate]; exact ((Qfl hn l q).1 hq).1), Qfl hn]
 constructor
 ·rintro (h | h)
  ·exact absurd h (Qf4 _ _ _)
  ·exact h
 ·exact .inr
theorem Qr1 : ∀ (l : List Nat) (X : List Bool) (q : Nat), q < X.length → (Qeo X l)[q]? = some (decide (q ∈ l) || X.getD q false)
 | [], X, q, hq => by simp [Qeo, hq]
 | x :: l, X, q, hq => by
  show (Qeo (X.set x true) l)[q]? = _
  rw [Qr1 l _ q (by rw [List.length_set]; exact hq)]
  congr 1
  rw [List.getD_eq_getElem?_getD, List.getElem?_set]
  by_cases e : x = q
  ·subst e; simp [hq]
  ·rw [if_neg e]
   have e' : ¬ q = x := fun h => e h.symm
   simp [e', hq]
theorem Quj {n : Nat} {L : List Nat} (hn : n ≤ 256) (hL : WF n L) {l : List Bool} {q : Nat} : (Qgy L l).getD q false = true ↔ q < n ∧ ∃ m, l.getD m false = true ∧ hs L m q := by
 unfold Qgy
 have key : ∀ q, q ∈ Qag (Qao L (Qag (Qcp L.length l))) ↔ ∃ m, l.getD m false = true ∧ hs L m q := fun q => by
  rw [Qbt]
  unfold Qao
  rw [Qh0]
  constructor
  ·rintro ⟨_, h | ⟨p, hp, h⟩⟩
   ·simp at h
   ·rw [hL.len, Qfl hn] at hp
    exact ⟨p, hp.2, h⟩
  ·rintro ⟨m, hm, h⟩
   refine ⟨Nat.lt_of_lt_of_le (hL.low _ _ h) hn, .inr ⟨m, ?_, h⟩⟩
   rw [hL.len, Qfl hn]
   exact ⟨by have := Qbo h; rw [hL.len] at this; exact this, hm⟩
 by_cases hq : q < n
 ·rw [List.getD_eq_getElem?_getD, Qr1 _ _ q (by rw [List.length_replicate, hL.len]; exact hq), Option.getD_some, Bool.or_eq_true, decide_eq_true_iff, key]
  constructor
  ·rintro (h | h)
   ·exact ⟨hq, h⟩
   ·simp [List.getD_eq_getElem?_getD, hL.len, hq] at h
  ·exact fun h => .inl h.2
 ·constructor
  ·intro h
   rw [List.getD_eq_getElem?_getD, List.getElem?_eq_none (by rw [Qhs, List.length_replicate, hL.len]; omega)] at h
   cases h
  ·exact fun h => absurd h.1 hq
theorem Qr2 : ∀ (Ls : List (List Nat)) (X : List Nat), (Ls.foldl (fun A L => Qcf A L L.length) X).length = X.length
 | [], _ => rfl
 | L :: Ls, X => by rw [List.foldl_cons, Qr2 Ls, Qa6]
theorem Quk {n : Nat} (p q : Nat) : ∀ (Ls : List (List Nat)) (X : List Nat), X.length = n → (∀ L ∈ Ls, WF n L) → (hs (Ls.foldl (fun A L => Qcf A L L.length) X) p q ↔ hs X p q ∨ ∃ L ∈ Ls, hs L p q)
 | [], X, _, _ => by simp
 | L :: Ls, X, hX, h => by
  rw [List.foldl_cons, Quk p q Ls _ (by rw [Qa6, hX]) (fun M hM => h M (List.mem_cons_of_mem _ hM)), Qrf hX (h L List.mem_cons_self)]
  simp [or_assoc]
theorem QA3 {n : Nat} : ∀ (Ls : List (List Nat)) (k : Nat), k ≤ n → (∀ L ∈ Ls, WF n L) → Ls ≠ [] → Ls.foldl (fun n L => max n L.length) k = n
 | [], _, _, _, h => absurd rfl h
 | [L], k, hk, h, _ => by rw [List.foldl_cons, (h L List.mem_cons_self).len]; simp only [List.foldl]; omega
 | L :: M :: Ls, k, hk, h, _ => by
  rw [List.foldl_cons]
  exact QA3 (M :: Ls) _ (by rw [(h L List.mem_cons_self).len]; omega) (fun A hA => h A (List.mem_cons_of_mem _ hA)) (by simp)
theorem Qi4 {n : Nat} {Ls : List (List Nat)} (h : ∀ L ∈ Ls, WF n L) (hne : Ls ≠ []) (p q : Nat) : hs (Qan Ls) p q ↔ ∃ L ∈ Ls, hs L p q := by
 unfold Qan
 rw [Quk (n := n) p q Ls _ (by rw [List.length_replicate]; exact QA3 Ls 0 (Nat.zero_le _) h hne) h]
 constructor
 ·rintro (h | h)
  ·exact absurd h (Qf4 _ _ _)
  ·exact h
 ·exact .inr
theorem Qhr {n : Nat} {Ls : List (List Nat)} (h : ∀ L ∈ Ls, WF n L) (hne : Ls ≠ []) : WF n (Qan Ls) := by
 refine ⟨by unfold Qan; rw [Qr2, List.length_replicate]; exact QA3 Ls 0 (Nat.zero_le _) h hne, fun p q k => ?_⟩
 obtain ⟨L, hL, k⟩ := (Qi4 h hne p q).1 k
 exact (h L hL).low _ _ k
section
variable (g : Gr)
abbrev Rg (k p q : Nat) : Prop := hs (LG g k) p q
def ClP : Nat → Nat → Nat → Prop
 | 0, p, q => Rg g 1 p q ∧ Rg g 6 p q
 | 1, p, q => Rg g 2 p q ∧ Rg g 6 p q
 | 2, p, q => Rg g 3 p q ∧ Rg g 6 p q
 | 3, p, q => Rg g 7 p q
 | 4, p, q => Rg g 8 p q
 | 5, p, q => Rg g 9 p q ∧ (g.ev q).k = 2
 | 6, p, q => ∃ m, Rg g 7 p m ∧ Rg g 0 m q ∧ (g.ev q).k = 2
 | 7, p, q => ∃ m, (Rg g 9 p m ∨ Rg g 8 p m) ∧ Rg g 2 m q ∧ ¬ Rg g 6 m q
 | 8, p, q => ∃ m, (Rg g 7 p m ∨ Rg g 8 p m) ∧ Rg g 1 m q ∧ ¬ Rg g 6 m q
 | 9, p, q => Rg g 4 p q
 | 10, p, q => (∃ m, (g.ev m).k = 1 ∧ Rg g 4 m p) ∧ (Rg g 1 p q ∧ ¬ Rg g 6 p q) ∧ (g.ev q).m ∈ ([12, 16] : List Int)
 | 11, p, q => ∃ m, Rg g 0 p m ∧ (g.ev m).m ∈ ([15] : List Int) ∧ Rg g 0 m q
 | 12, p, q => (g.ev p).k = 1 ∧ ∃ m, Rg g 0 p m ∧ (g.ev m).m ∈ ([14] : List Int) ∧ Rg g 0 m q
 | 13, p, q => (g.ev p).m ∈ ([13] : List Int) ∧ Rg g 0 p q ∧ (g.ev q).m ∈ ([12] : List Int)
 | 14, p, q => (g.ev p).m ∈ ([12, 16] : List Int) ∧ Rg g 0 p q
 | 15, p, q => Rg g 0 p q ∧ (g.ev q).m ∈ ([13] : List Int)
 | _, p, q => ∃ m, (Rg g 0 p m ∧ (g.ev m).m ∈ ([13] : List Int)) ∧ Rg g 2 m q ∧ ¬ Rg g 6 m q
variable {g} {p q : Nat}
theorem Qoo (hn : g.evs.length ≤ 256) {x : Int} (hp : p < g.evs.length) : hs (Qa4 ((g.evs.length : Nat) : Int) (Qaw g x)) p q ↔ p = q ∧ (g.ev p).k = x := by
 constructor
 ·exact fun h => ⟨(Qko hn h).1, (Qko hn h).2.2⟩
 ·rintro ⟨rfl, h⟩
  refine (Qdr hn).2 ⟨rfl, hp, ?_⟩
  unfold Qaw Qbb
  rw [List.getD_eq_getElem?_getD, List.getElem?_map, Gr.ev_at hp]
  simpa using h
theorem Qgq (hn : g.evs.length ≤ 256) {ms : List Int} (hp : p < g.evs.length) : hs (Qa4 ((g.evs.length : Nat) : Int) (mdL g ms)) p q ↔ p = q ∧ (g.ev p).m ∈ ms := by
 constructor
 ·exact fun h => ⟨(Qgi hn h).1, (Qgi hn h).2.2⟩
 ·rintro ⟨rfl, h⟩
  refine (Qdr hn).2 ⟨rfl, hp, ?_⟩
  unfold mdL Qbb
  rw [List.getD_eq_getElem?_getD, List.getElem?_map, Gr.ev_at hp]
  simpa using h
theorem Rg.l {k : Nat} (h : Rg g k p q) : p < g.evs.length := by have := Qbo h; rw [(Qak g k).len] at this; exact this
theorem Rg.r {k : Nat} (h : Rg g k p q) : q < g.evs.length := (Qak g k).low _ _ h
theorem QFt (g : Gr) : clL g (LG g) 12 = Qav (Qav (Qav (Qa4 ((g.evs.length : Nat) : Int) (Qaw g 1)) (LG g 0)) (Qa4 ((g.evs.length : Nat) : Int) (mdL g [14]))) (LG g 0) := by
 simp only [clL, Qbv, List.foldl, rdI, mdI]
theorem Qh7 (hn : g.evs.length ≤ 256) (i : Nat) (hi : i < 17) : WF g.evs.length (clL g (LG g) i) := by
 have L := Qak g
 have I : ∀ l, WF g.evs.length (Qa4 ((g.evs.length : Nat) : Int) l) := fun l => Qr0 hn l
 match i, hi with
 | 0, _ => exact Qf3 (L 1) (L 6)
 | 1, _ => exact Qf3 (L 2) (L 6)
 | 2, _ => exact Qf3 (L 3) (L 6)
 | 3, _ => exact L 7
 | 4, _ => exact L 8
 | 5, _ => exact Qah hn (L 9) (I _)
 | 6, _ => exact Qah hn (Qah hn (L 7) (L 0)) (I _)
 | 7, _ => exact Qah hn (Qjq (L 9) (L 8)) (Qd (L 2) (L 6))
 | 8, _ => exact Qah hn (Qjq (L 7) (L 8)) (Qd (L 1) (L 6))
 | 9, _ => exact L 4
 | 10, _ => exact Qah hn (Qah hn (I _) (Qd (L 1) (L 6))) (I _)
 | 11, _ => exact Qah hn (Qah hn (L 0) (I _)) (L 0)
 | 12, _ => rw [QFt]; exact Qah hn (Qah hn (Qah hn (I _) (L 0)) (I _)) (L 0)
 | 13, _ => exact Qah hn (Qah hn (I _) (L 0)) (I _)
 | 14, _ => exact Qah hn (I _) (L 0)
 | 15, _ => exact Qah hn (L 0) (I _)
 | 16, _ => exact Qah hn (Qah hn (L 0) (I _)) (Qd (L 2) (L 6))
 | n + 17, h => omega
theorem Qcg (hn : g.evs.length ≤ 256) {i : Nat} (hi : i < 17) (p q : Nat) : hs (clL g (LG g) i) p q ↔ ClP g i p q := by
 have L := Qak g
 have I : ∀ l, WF g.evs.length (Qa4 ((g.evs.length : Nat) : Int) l) := fun l => Qr0 hn l
 match i, hi with
 | 0, _ => exact Qhl (L 1) (L 6) p q
 | 1, _ => exact Qhl (L 2) (L 6) p q
 | 2, _ => exact Qhl (L 3) (L 6) p q
 | 3, _ => exact Iff.rfl
 | 4, _ => exact Iff.rfl
 | 5, _ =>
  refine (Qat hn (L 9) (I _) p q).trans ⟨fun ⟨m, h1, h2⟩ => ?_, fun ⟨h1, h2⟩ => ⟨q, h1, (Qoo hn (Rg.r h1)).2 ⟨rfl, h2⟩⟩⟩
  obtain ⟨rfl, _, h3⟩ := Qko hn h2
  exact ⟨h1, h3⟩
 | 6, _ =>
  refine (Qat hn (Qah hn (L 7) (L 0)) (I _) p q).trans ⟨fun ⟨m, h1, h2⟩ => ?_, fun ⟨m, h1, h2, h3⟩ => ⟨q, (Qat hn (L 7) (L 0) p q).2 ⟨m, h1, h2⟩, (Qoo hn (Rg.r h2)).2 ⟨rfl, h3⟩⟩⟩
  obtain ⟨rfl, _, h3⟩ := Qko hn h2
  obtain ⟨x, h4, h5⟩ := (Qat hn (L 7) (L 0) p m).1 h1
  exact ⟨x, h4, h5, h3⟩
 | 7, _ =>
  refine (Qat hn (Qjq (L 9) (L 8)) (Qd (L 2) (L 6)) p q).trans ⟨fun ⟨m, h1, h2⟩ => ⟨m, (Qhm (L 9) (L 8) p m).1 h1, (Qcv (L 2) (L 6) m q).1 h2⟩, fun ⟨m, h1, h2⟩ => ⟨m, (Qhm (L 9) (L 8) p m).2 h1, (Qcv (L 2) (L 6) m q).2 h2⟩⟩
 | 8, _ =>
  refine (Qat hn (Qjq (L 7) (L 8)) (Qd (L 1) (L 6)) p q).trans ⟨fun ⟨m, h1, h2⟩ => ⟨m, (Qhm (L 7) (L 8) p m).1 h1, (Qcv (L 1) (L 6) m q).1 h2⟩, fun ⟨m, h1, h2⟩ => ⟨m, (Qhm (L 7) (L 8) p m).2 h1, (Qcv (L 1) (L 6) m q).2 h2⟩⟩
 | 9, _ => exact Iff.rfl
 | 10, _ =>
  have W1 := Qd (L 1) (L 6)
  refine (Qat hn (Qah hn (I _) W1) (I _) p q).trans ⟨fun ⟨m, h1, h2⟩ => ?_, fun ⟨⟨x, h0, h1⟩, h2, h3⟩ => ⟨q, (Qat hn (I _) W1 p q).2 ⟨p, (Qdr hn).2 ⟨rfl, Rg.l h2.1, (Quj hn (L 4)).2 ⟨Rg.r h1, x, ?_, h1⟩⟩, (Qcv (L 1) (L 6) p q).2 h2⟩, (Qgq hn (Rg.r h2.1)).2 ⟨rfl, h3⟩⟩⟩
  ·obtain ⟨rfl, _, h3⟩ := Qgi hn h2
   obtain ⟨x, h4, h5⟩ := (Qat hn (I _) W1 p m).1 h1
   obtain ⟨rfl, h6⟩ := Qnh hn h4
   obtain ⟨_, y, h7, h8⟩ := (Quj hn (L 4)).1 h6
   exact ⟨⟨y, beq_iff_eq.1 (Qni h7).2, h8⟩, (Qcv (L 1) (L 6) p m).1 h5, h3⟩
  ·unfold Qaw Qbb
   rw [List.getD_eq_getElem?_getD, List.getElem?_map, Gr.ev_at (Rg.l h1)]
   simpa using h0
 | 11, _ =>
  refine (Qat hn (Qah hn (L 0) (I _)) (L 0) p q).trans ⟨fun ⟨m, h1, h2⟩ => ?_, fun ⟨m, h1, h2, h3⟩ => ⟨m, (Qat hn (L 0) (I _) p m).2 ⟨m, h1, (Qgq hn (Rg.r h1)).2 ⟨rfl, h2⟩⟩, h3⟩⟩
  obtain ⟨x, h4, h5⟩ := (Qat hn (L 0) (I _) p m).1 h1
  obtain ⟨rfl, _, h6⟩ := Qgi hn h5
  exact ⟨x, h4, h6, h2⟩
 | 12, _ =>
  have W1 := Qah hn (I (Qaw g 1)) (L 0)
  rw [QFt]
  refine (Qat hn (Qah hn W1 (I _)) (L 0) p q).trans ⟨fun ⟨m, h1, h2⟩ => ?_, fun ⟨h0, m, h1, h2, h3⟩ => ⟨m, (Qat hn W1 (I _) p m).2 ⟨m, (Qat hn (I _) (L 0) p m).2 ⟨p, (Qoo hn (Rg.l h1)).2 ⟨rfl, h0⟩, h1⟩, (Qgq hn (Rg.r h1)).2 ⟨rfl, h2⟩⟩, h3⟩⟩
  obtain ⟨x, h4, h5⟩ := (Qat hn W1 (I _) p m).1 h1
  obtain ⟨rfl, _, h6⟩ := Qgi hn h5
  obtain ⟨y, h7, h8⟩ := (Qat hn (I _) (L 0) p x).1 h4
  obtain ⟨rfl, _, h9⟩ := Qko hn h7
  exact ⟨h9, x, h8, h6, h2⟩
 | 13, _ =>
  refine (Qat hn (Qah hn (I _) (L 0)) (I _) p q).trans ⟨fun ⟨m, h1, h2⟩ => ?_, fun ⟨h1, h2, h3⟩ => ⟨q, (Qat hn (I _) (L 0) p q).2 ⟨p, (Qgq hn (Rg.l h2)).2 ⟨rfl, h1⟩, h2⟩, (Qgq hn (Rg.r h2)).2 ⟨rfl, h3⟩⟩⟩
  obtain ⟨rfl, _, h3⟩ := Qgi hn h2
  obtain ⟨x, h4, h5⟩ := (Qat hn (I _) (L 0) p m).1 h1
  obtain ⟨rfl, _, h6⟩ := Qgi hn h4
  exact ⟨h6, h5, h3⟩
 | 14, _ =>
  refine (Qat hn (I _) (L 0) p q).trans ⟨fun ⟨m, h1, h2⟩ => ?_, fun ⟨h1, h2⟩ => ⟨p, (Qgq hn (Rg.l h2)).2 ⟨rfl, h1⟩, h2⟩⟩
  obtain ⟨rfl, _, h3⟩ := Qgi hn h1
  exact ⟨h3, h2⟩
 | 15, _ =>
  refine (Qat hn (L 0) (I _) p q).trans ⟨fun ⟨m, h1, h2⟩ => ?_, fun ⟨h1, h2⟩ => ⟨q, h1, (Qgq hn (Rg.r h1)).2 ⟨rfl, h2⟩⟩⟩
  obtain ⟨rfl, _, h3⟩ := Qgi hn h2
  exact ⟨h1, h3⟩
 | 16, _ =>
  refine (Qat hn (Qah hn (L 0) (I _)) (Qd (L 2) (L 6)) p q).trans ⟨fun ⟨m, h1, h2⟩ => ?_, fun ⟨m, ⟨h1, h2⟩, h3⟩ => ⟨m, (Qat hn (L 0) (I _) p m).2 ⟨m, h1, (Qgq hn (Rg.r h1)).2 ⟨rfl, h2⟩⟩, (Qcv (L 2) (L 6) m q).2 h3⟩⟩
  obtain ⟨x, h4, h5⟩ := (Qat hn (L 0) (I _) p m).1 h1
  obtain ⟨rfl, _, h6⟩ := Qgi hn h5
  exact ⟨x, ⟨h4, h6⟩, (Qcv (L 2) (L 6) x q).1 h2⟩
 | n + 17, h => omega
theorem QDg (hn : g.evs.length ≤ 256) : hs (Qer g (LG g)) p q ↔ ∃ i, 0 ≤ i ∧ i < 3 ∧ ClP g i p q := by
 unfold Qer
 rw [Qi4 (n := g.evs.length) (by intro L h; simp only [List.mem_cons, List.not_mem_nil, or_false] at h; rcases h with rfl | rfl | rfl <;> exact Qh7 hn _ (by decide)) (List.cons_ne_nil _ _)]
 simp only [List.mem_cons, List.not_mem_nil, or_false, exists_eq_or_imp, exists_eq_left]
 rw [Qcg hn (show (0 : Nat) < 17 by decide), Qcg hn (show (1 : Nat) < 17 by decide), Qcg hn (show (2 : Nat) < 17 by decide)]
 constructor
 ·rintro (h | h | h)
  ·exact ⟨0, by decide, by decide, h⟩
  ·exact ⟨1, by decide, by decide, h⟩
  ·exact ⟨2, by decide, by decide, h⟩
 ·rintro ⟨i, h1, h2, h⟩
  have e : i = 0 ∨ i = 1 ∨ i = 2 := by omega
  rcases e with rfl | rfl | rfl
  ·exact .inl h
  ·exact .inr (.inl h)
  ·exact .inr (.inr (h))
theorem Qkp (hn : g.evs.length ≤ 256) : WF g.evs.length (Qer g (LG g)) := Qhr (by intro L h; simp only [List.mem_cons, List.not_mem_nil, or_false] at h; rcases h with rfl | rfl | rfl <;> exact Qh7 hn _ (by decide)) (List.cons_ne_nil _ _)
theorem QDh (hn : g.evs.length ≤ 256) : hs (Qe9 g (LG g)) p q ↔ ∃ i, 3 ≤ i ∧ i < 9 ∧ ClP g i p q := by
 unfold Qe9
 rw [Qi4 (n := g.evs.length) (by intro L h; simp only [List.mem_cons, List.not_mem_nil, or_false] at h; rcases h with rfl | rfl | rfl | rfl | rfl | rfl <;> exact Qh7 hn _ (by decide)) (List.cons_ne_nil _ _)]
 simp only [List.mem_cons, List.not_mem_nil, or_false, exists_eq_or_imp, exists_eq_left]
 rw [Qcg hn (show (3 : Nat) < 17 by decide), Qcg hn (show (4 : Nat) < 17 by decide), Qcg hn (show (5 : Nat) < 17 by decide), Qcg hn (show (6 : Nat) < 17 by decide), Qcg hn (show (7 : Nat) < 17 by decide), Qcg hn (show (8 : Nat) < 17 by decide)]
 constructor
 ·rintro (h | h | h | h | h | h)
  ·exact ⟨3, by decide, by decide, h⟩
  ·exact ⟨4, by decide, by decide, h⟩
  ·exact ⟨5, by decide, by decide, h⟩
  ·exact ⟨6, by decide, by decide, h⟩
  ·exact ⟨7, by decide, by decide, h⟩
  ·exact ⟨8, by decide, by decide, h⟩
 ·rintro ⟨i, h1, h2, h⟩
  have e : i = 3 ∨ i = 4 ∨ i = 5 ∨ i = 6 ∨ i = 7 ∨ i = 8 := by omega
  rcases e with rfl | rfl | rfl | rfl | rfl | rfl
  ·exact .inl h
  ·exact .inr (.inl h)
  ·exact .inr (.inr (.inl h))
  ·exact .inr (.inr (.inr (.inl h)))
  ·exact .inr (.inr (.inr (.inr (.inl h))))
  ·exact .inr (.inr (.inr (.inr (.inr (h)))))
theorem Qnj (hn : g.evs.length ≤ 256) : WF g.evs.length (Qe9 g (LG g)) := Qhr (by intro L h; simp only [List.mem_cons, List.not_mem_nil, or_false] at h; rcases h with rfl | rfl | rfl | rfl | rfl | rfl <;> exact Qh7 hn _ (by decide)) (List.cons_ne_nil _ _)
theorem QDi (hn : g.evs.length ≤ 256) : hs (Qf g (LG g)) p q ↔ ∃ i, 9 ≤ i ∧ i < 11 ∧ ClP g i p q := by
 unfold Qf
 rw [Qi4 (n := g.evs.length) (by intro L h; simp only [List.mem_cons, List.not_mem_nil, or_false] at h; rcases h with rfl | rfl <;> exact Qh7 hn _ (by decide)) (List.cons_ne_nil _ _)]
 simp only [List.mem_cons, List.not_mem_nil, or_false, exists_eq_or_imp, exists_eq_left]
 rw [Qcg hn (show (9 : Nat) < 17 by decide), Qcg hn (show (10 : Nat) < 17 by decide)]
 constructor
 ·rintro (h | h)
  ·exact ⟨9, by decide, by decide, h⟩
  ·exact ⟨10, by decide, by decide, h⟩
 ·rintro ⟨i, h1, h2, h⟩
  have e : i = 9 ∨ i = 10 := by omega
  rcases e with rfl | rfl
  ·exact .inl h
  ·exact .inr (h)
theorem Qnk (hn : g.evs.length ≤ 256) : WF g.evs.length (Qf g (LG g)) := Qhr (by intro L h; simp only [List.mem_cons, List.not_mem_nil, or_false] at h; rcases h with rfl | rfl <;> exact Qh7 hn _ (by decide)) (List.cons_ne_nil _ _)
theorem QDj (hn : g.evs.length ≤ 256) : hs (Qfa g (LG g)) p q ↔ ∃ i, 11 ≤ i ∧ i < 17 ∧ ClP g i p q := by
 unfold Qfa
 rw [Qi4 (n := g.evs.length) (by intro L h; simp only [List.mem_cons, List.not_mem_nil, or_false] at h; rcases h with rfl | rfl | rfl | rfl | rfl | rfl <;> exact Qh7 hn _ (by decide)) (List.cons_ne_nil _ _)]
 simp only [List.mem_cons, List.not_mem_nil, or_false, exists_eq_or_imp, exists_eq_left]
 rw [Qcg hn (show (11 : Nat) < 17 by decide), Qcg hn (show (12 : Nat) < 17 by decide), Qcg hn (show (13 : Nat) < 17 by decide), Qcg hn (show (14 : Nat) < 17 by decide), Qcg hn (show (15 : Nat) < 17 by decide), Qcg hn (show (16 : Nat) < 17 by decide)]
 constructor
 ·rintro (h | h | h | h | h | h)
  ·exact ⟨11, by decide, by decide, h⟩
  ·exact ⟨12, by decide, by decide, h⟩
  ·exact ⟨13, by decide, by decide, h⟩
  ·exact ⟨14, by decide, by decide, h⟩
  ·exact ⟨15, by decide, by decide, h⟩
  ·exact ⟨16, by decide, by decide, h⟩
 ·rintro ⟨i, h1, h2, h⟩
  have e : i = 11 ∨ i = 12 ∨ i = 13 ∨ i = 14 ∨ i = 15 ∨ i = 16 := by omega
  rcases e with rfl | rfl | rfl | rfl | rfl | rfl
  ·exact .inl h
  ·exact .inr (.inl h)
  ·exact .inr (.inr (.inl h))
  ·exact .inr (.inr (.inr (.inl h)))
  ·exact .inr (.inr (.inr (.inr (.inl h))))
  ·exact .inr (.inr (.inr (.inr (.inr (h)))))
theorem Qnl (hn : g.evs.length ≤ 256) : WF g.evs.length (Qfa g (LG g)) := Qhr (by intro L h; simp only [List.mem_cons, List.not_mem_nil, or_false] at h; rcases h with rfl | rfl | rfl | rfl | rfl | rfl <;> exact Qh7 hn _ (by decide)) (List.cons_ne_nil _ _)
theorem Qc3 (n : Nat) : ∀ L ∈ ([] : List (List Nat)), WF n L := fun L h => by cases h
theorem Qax {n : Nat} {A : List Nat} {Ls : List (List Nat)} (h : WF n A) (k : ∀ L ∈ Ls, WF n L) : ∀ L ∈ A :: Ls, WF n L := fun L hL => by
 rcases List.mem_cons.1 hL with e | hL
 ·rw [e]; exact h
 ·exact k L hL
theorem QFu (hn : g.evs.length ≤ 256) : ∀ L ∈ [Qer g (LG g), Qe9 g (LG g), Qf g (LG g), Qfa g (LG g)], WF g.evs.length L := Qax (Qkp hn) (Qax (Qnj hn) (Qax (Qnk hn) (Qax (Qnl hn) (Qc3 _))))
theorem QB5 (hn : g.evs.length ≤ 256) : WF g.evs.length (obL g (LG g)) := Qhr (QFu hn) (List.cons_ne_nil _ _)
end
section
variable {g : Gr} {p q : Nat}
theorem QGz {k : Nat} {F : Nat → Nat → Bool} (e : LG g k = Qcq g.evs.length F) : Rg g k p q ↔ p < g.evs.length ∧ q < g.evs.length ∧ F p q = true := by
 unfold Rg
 rw [e]
 constructor
 ·exact QFs
 ·rintro ⟨hp, hq, h⟩
  unfold hs
  rw [Qk5 _ _ hp, Qfo, decide_eq_true hq, h]
  rfl
theorem rg4 : Rg g 4 p q ↔ p < g.evs.length ∧ q < g.evs.length ∧ Qbh g.rmw p q = true := QGz rfl
end
end Go.Proofs.YtdkogbfamdnheaaGreatDoor
namespace Go.Proofs.YtdkogbfamdnheaaGreatDoor
open Go.RowKit Go.Shelf Sx
set_option maxRecDepth 100000
set_option maxHeartbeats 16000000
set_option linter.unusedSimpArgs false
set_option linter.unusedVariables false
section
variable {n : Nat} {A B : List Nat}
theorem Qi5 (ha : WF n A) (hb : WF n B) (h : ∀ p q, hs A p q ↔ hs B p q) : A = B := by
 refine Qxk (n := n) (F := fun p q => (gr A p).testBit q) ⟨ha.len, fun p q _ _ => rfl⟩ ⟨hb.len, fun p q _ _ => ?_⟩ (by rw [ha.len]; exact ha) (by rw [hb.len]; exact hb)
 rw [Bool.eq_iff_iff]
 exact h p q
theorem Qgr : ∀ (Ls : List (List Nat)) (A : List Nat), WF n A → (∀ L ∈ Ls, WF n L) → WF n (Qdb A Ls)
 | [], _, ha, _ => ha
 | B :: Ls, A, ha, h => Qgr Ls (Qan [A, B]) (Qhr (Qax ha (Qax (h B List.mem_cons_self) (Qc3 n))) (List.cons_ne_nil _ _)) (fun L hL => h L (List.mem_cons_of_mem _ hL))
theorem Qfk (p q : Nat) : ∀ (Ls : List (List Nat)) (A : List Nat), WF n A → (∀ L ∈ Ls, WF n L) → (hs (Qdb A Ls) p q ↔ hs A p q ∨ ∃ L ∈ Ls, hs L p q)
 | [], a, _, _ => by
  show hs a p q ↔ _
  simp
 | B :: Ls, A, ha, h => by
  have hw := Qax ha (Qax (h B List.mem_cons_self) (Qc3 n))
  have := Qfk p q Ls (Qan [A, B]) (Qhr hw (List.cons_ne_nil _ _)) (fun L hL => h L (List.mem_cons_of_mem _ hL))
  show hs (Qdb (Qan [A, B]) Ls) p q ↔ _
  rw [this, Qi4 hw (List.cons_ne_nil _ _)]
  simp only [List.mem_cons, List.not_mem_nil, or_false, exists_eq_or_imp, exists_eq_left, or_assoc]
end
theorem Qop {P : List Nat → Prop} {A : List Nat} {Ls : List (List Nat)} : (∃ L ∈ A :: Ls, P L) ↔ P A ∨ ∃ L ∈ Ls, P L := by
 simp only [List.mem_cons, exists_eq_or_imp]
theorem Qr3 {P : List Nat → Prop} : (∃ L ∈ ([] : List (List Nat)), P L) ↔ False := by simp
theorem Qr4 {α β : Type} (f : α → α → β) : ∀ l : List α, List.zipWith f l l = l.map (fun x => f x x)
 | [] => rfl
 | x :: l => by rw [List.zipWith_cons_cons, Qr4 f l]; rfl
section
variable {g : Gr} {p q : Nat}
theorem Qoq {P : Ev → Bool} : (Qbb P g.evs).getD p false = true ↔ p < g.evs.length ∧ P (g.ev p) = true := by
 constructor
 ·exact Qni
 ·rintro ⟨h1, h2⟩
  unfold Gr.ev at h2
  rw [List.getD_eq_getElem?_getD, List.getElem?_eq_getElem h1] at h2
  unfold Qbb
  rw [List.getD_eq_getElem?_getD, List.getElem?_map, List.getElem?_eq_getElem h1]
  exact h2
theorem Qck (hn : g.evs.length ≤ 256) (l : List Bool) : WF g.evs.length (idn g l) := Qr0 hn l
theorem Qwq (hn : g.evs.length ≤ 256) {l : List Bool} {B : List Nat} (hb : WF g.evs.length B) : hs (Qav (idn g l) B) p q ↔ (p < g.evs.length ∧ l.getD p false = true) ∧ hs B p q := by
 rw [Qat hn (Qck hn l) hb]
 constructor
 ·rintro ⟨m, h1, h2⟩
  obtain ⟨rfl, h3, h4⟩ := (Qdr hn).1 h1
  exact ⟨⟨h3, h4⟩, h2⟩
 ·rintro ⟨⟨h3, h4⟩, h2⟩
  exact ⟨p, (Qdr hn).2 ⟨rfl, h3, h4⟩, h2⟩
theorem Qms (hn : g.evs.length ≤ 256) {l : List Bool} {A : List Nat} (ha : WF g.evs.length A) : hs (Qav A (idn g l)) p q ↔ hs A p q ∧ (q < g.evs.length ∧ l.getD q false = true) := by
 rw [Qat hn ha (Qck hn l)]
 constructor
 ·rintro ⟨m, h1, h2⟩
  obtain ⟨rfl, h3, h4⟩ := (Qdr hn).1 h2
  exact ⟨h1, h3, h4⟩
 ·rintro ⟨h1, h3, h4⟩
  exact ⟨q, h1, (Qdr hn).2 ⟨rfl, h3, h4⟩⟩
theorem Qor {P Q : Ev → Bool} : (Qfv (Qbb P g.evs) (Qbb Q g.evs)).getD p false = true ↔ p < g.evs.length ∧ P (g.ev p) = true ∧ Q (g.ev p) = true := by
 have e : Qfv (Qbb P g.evs) (Qbb Q g.evs) = Qbb (fun e => P e && Q e) g.evs := by
  unfold Qfv Qbb
  rw [List.zipWith_map, Qr4]
 rw [e, Qoq, Bool.and_eq_true]
theorem Qul (h : Wf g true) (hp : p < g.evs.length) : (g.ev p).m = 11 ∨ ((g.ev p).k = 1 ∨ (g.ev p).k = 2 ∨ (g.ev p).k = 3) ∧ Qf2 (g.ev p).k (g.ev p).m true = true := by
 have r1 : Qc1 g true = -1 := h 1 (by omega)
 have r2 : Qd5 g true = -1 := h 2 (by omega)
 by_cases c : ((p : Nat) : Int) < g.cells
 ·rw [Qiz r1 c]
  exact .inl rfl
 ·have e := Qkc r2 (i := p) (by omega) hp
  unfold Qbx at e
  simp only [Bool.and_eq_true, decide_eq_true_eq] at e
  exact .inr ⟨by omega, e.2⟩
theorem QFv (h : Wf g true) (hp : p < g.evs.length) (hm : (g.ev p).m ∈ ([12, 16] : List Int)) : (g.ev p).k = 1 := by
 simp only [List.mem_cons, List.not_mem_nil, or_false] at hm
 rcases Qul h hp with e | ⟨hk, hb⟩
 ·omega
 ·rcases hk with e | e | e
  ·exact e
  ·rw [e] at hb
   rcases hm with e2 | e2 <;> rw [e2] at hb <;> exact absurd hb (by decide)
  ·rw [e] at hb
   rcases hm with e2 | e2 <;> rw [e2] at hb <;> exact absurd hb (by decide)
theorem QHp (h : Wf g true) (hp : p < g.evs.length) (hm : (g.ev p).m ∈ ([13] : List Int)) : (g.ev p).k = 2 := by
 simp only [List.mem_cons, List.not_mem_nil, or_false] at hm
 rcases Qul h hp with e | ⟨hk, hb⟩
 ·omega
 ·rcases hk with e | e | e
  ·rw [e, hm] at hb
   exact absurd hb (by decide)
  ·exact e
  ·rw [e, hm] at hb
   exact absurd hb (by decide)
theorem QB6 (h : Wf g true) : (Qfv (Qaw g 1) (mdL g [12, 16])).getD p false = true ↔ p < g.evs.length ∧ (g.ev p).m ∈ ([12, 16] : List Int) := by
 unfold Qaw mdL
 rw [Qor, beq_iff_eq, List.contains_iff_mem]
 exact ⟨fun ⟨a, _, c⟩ => ⟨a, c⟩, fun ⟨a, c⟩ => ⟨a, QFv h a c, c⟩⟩
theorem QG0 (h : Wf g true) : (Qfv (Qaw g 1) (mdL g [12])).getD p false = true ↔ p < g.evs.length ∧ (g.ev p).m ∈ ([12] : List Int) := by
 unfold Qaw mdL
 rw [Qor, beq_iff_eq, List.contains_iff_mem]
 exact ⟨fun ⟨a, _, c⟩ => ⟨a, c⟩, fun ⟨a, c⟩ => ⟨a, QFv h a (by simp at c ⊢; exact .inl c), c⟩⟩
theorem QB7 (h : Wf g true) : (Qfv (Qaw g 2) (mdL g [13])).getD p false = true ↔ p < g.evs.length ∧ (g.ev p).m ∈ ([13] : List Int) := by
 unfold Qaw mdL
 rw [Qor, beq_iff_eq, List.contains_iff_mem]
 exact ⟨fun ⟨a, _, c⟩ => ⟨a, c⟩, fun ⟨a, c⟩ => ⟨a, QHp h a c, c⟩⟩
theorem Qwr {x : Int} : (Qaw g x).getD p false = true ↔ p < g.evs.length ∧ (g.ev p).k = x := by
 unfold Qaw
 rw [Qoq, beq_iff_eq]
theorem QB8 {ms : List Int} : (mdL g ms).getD p false = true ↔ p < g.evs.length ∧ (g.ev p).m ∈ ms := by
 unfold mdL
 rw [Qoq, List.contains_iff_mem]
theorem QFw : ∀ (l : List (Int × Int)) (X : List Bool), (l.foldl (fun l p => l.set p.2.toNat true) X).length = X.length
 | [], X => rfl
 | x :: l, X => by rw [List.foldl_cons, QFw l, List.length_set]
theorem QB9 : ∀ (l : List (Int × Int)) (X : List Bool), (l.foldl (fun l p => l.set p.2.toNat true) X).getD p false = true ↔ X.getD p false = true ∨ (p < X.length ∧ ∃ x ∈ l, x.2.toNat = p)
 | [], X => by simp
 | x :: l, X => by
  rw [List.foldl_cons, QB9 l, List.length_set]
  have : (X.set x.2.toNat true).getD p false = true ↔ X.getD p false = true ∨ (p < X.length ∧ x.2.toNat = p) := by
   rw [List.getD_eq_getElem?_getD, List.getElem?_set]
   by_cases e : x.2.toNat = p
   ·rw [if_pos e]
    subst e
    by_cases c : x.2.toNat < X.length
    ·rw [if_pos c]; simp [c]
    ·rw [if_neg c]; simp [c]
   ·rw [if_neg e, List.getD_eq_getElem?_getD]; simp [e]
  rw [this]
  simp only [List.mem_cons, exists_eq_or_imp]
  constructor
  ·rintro ((h | ⟨h1, h2⟩) | ⟨h1, h2⟩)
   ·exact .inl h
   ·exact .inr ⟨h1, .inl h2⟩
   ·exact .inr ⟨h1, .inr h2⟩
  ·rintro (h | ⟨h1, h2 | h2⟩)
   ·exact .inl (.inl h)
   ·exact .inl (.inr ⟨h1, h2⟩)
   ·exact .inr ⟨h1, h2⟩
theorem QA4 (h : Wf g true) : (LsT g g.rmw.length).getD p false = true ↔ p < g.evs.length ∧ ∃ m, (g.ev m).k = 1 ∧ hs (LG g 4) m p := by
 unfold LsT
 rw [List.take_length, QB9, List.length_replicate]
 constructor
 ·rintro (h1 | ⟨h1, x, hx, e⟩)
  ·rw [List.getD_eq_getElem?_getD, List.getElem?_replicate] at h1
   split at h1 <;> simp at h1
  ·obtain ⟨k, hk, rfl⟩ := List.mem_iff_getElem.1 hx
   have h6 : Qeu g = -1 := h 5 (by omega)
   have h7 := Quf h6 k (Nat.zero_le _) (by omega)
   have e1 : g.rmw.getD k (0, 0) = g.rmw[k] := by rw [List.getD_eq_getElem?_getD, List.getElem?_eq_getElem hk]; rfl
   rw [Bool.not_eq_false', Bool.and_eq_true, e1] at h7
   have h8 := h7.2
   unfold okU Qgc at h8
   simp only [Bool.and_eq_true] at h8
   obtain ⟨a, ha, ha2⟩ := Qb1 h8.1.1.1
   obtain ⟨b, hb, hb2⟩ := Qb1 h8.1.1.2
   have hka := h8.1.1.1
   unfold isB at hka
   rw [Bool.and_eq_true, ha, List.contains_iff_mem] at hka
   have hb3 : b = p := by rw [← e, hb]; rfl
   subst hb3
   refine ⟨h1, a, by unfold Gr.ev; simpa using hka.2, rg4.2 ⟨ha2, h1, ?_⟩⟩
   unfold Qbh
   rw [decide_eq_true_eq, ← ha, ← hb]
   exact hx
 ·rintro ⟨h1, m, _, h2⟩
  have h3 := (rg4.1 h2).2.2
  unfold Qbh at h3
  exact .inr ⟨h1, _, of_decide_eq_true h3, rfl⟩
theorem Qum : hs (rfI g) p q ↔ hs (LG g 1) p q ∧ ¬ hs (LG g 6) p q := Qcv (Qak g 1) (Qak g 6) p q
theorem Qun : hs (coI g) p q ↔ hs (LG g 2) p q ∧ ¬ hs (LG g 6) p q := Qcv (Qak g 2) (Qak g 6) p q
theorem Qkq (g : Gr) : WF g.evs.length (rfI g) := Qd (Qak g 1) (Qak g 6)
theorem Qnm (g : Gr) : WF g.evs.length (coI g) := Qd (Qak g 2) (Qak g 6)
theorem Quo (g : Gr) : ∀ L ∈ [Qbr (LG g 2) (LG g 6), Qbr (LG g 3) (LG g 6)], WF g.evs.length L := Qax (Qf3 (Qak g 2) (Qak g 6)) (Qax (Qf3 (Qak g 3) (Qak g 6)) (Qc3 _))
theorem Qyu (g : Gr) : WF g.evs.length (rfE g) := Qf3 (Qak g 1) (Qak g 6)
theorem QDk (hn : g.evs.length ≤ 256) : Qrw g = RL g 0 := by
 refine Qi5 (Qgr _ _ (Qyu g) (Quo g)) (Qkp hn) (fun p q => ?_)
 show _ ↔ hs (Qer g (LG g)) p q
 rw [QDg hn]
 unfold Qrw
 rw [Qfk p q _ _ (Qyu g) (Quo g)]
 unfold rfE
 simp only [List.mem_cons, List.not_mem_nil, or_false, exists_eq_or_imp, exists_eq_left, Qhl (Qak g _) (Qak g _)]
 constructor
 ·rintro (h | h | h)
  ·exact ⟨0, by omega, by omega, h⟩
  ·exact ⟨1, by omega, by omega, h⟩
  ·exact ⟨2, by omega, by omega, h⟩
 ·rintro ⟨i, h1, h2, h⟩
  obtain rfl | rfl | rfl : i = 0 ∨ i = 1 ∨ i = 2 := by omega
  ·exact .inl h
  ·exact .inr (.inl h)
  ·exact .inr (.inr h)
theorem Qyv (g : Gr) : WF g.evs.length (Qdb (ctQ g) [daQ g]) := Qgr _ _ (Qak g 9) (Qax (Qak g 8) (Qc3 _))
theorem Qyw (g : Gr) : WF g.evs.length (Qdb (adQ g) [daQ g]) := Qgr _ _ (Qak g 7) (Qax (Qak g 8) (Qc3 _))
theorem QDl : hs (Qdb (ctQ g) [daQ g]) p q ↔ hs (LG g 9) p q ∨ hs (LG g 8) p q := by
 have := Qfk (n := g.evs.length) p q [daQ g] (ctQ g) (Qak g 9) (Qax (Qak g 8) (Qc3 _))
 rw [this]
 simp only [List.mem_cons, List.not_mem_nil, or_false, exists_eq_left]
 exact Iff.rfl
theorem QDm : hs (Qdb (adQ g) [daQ g]) p q ↔ hs (LG g 7) p q ∨ hs (LG g 8) p q := by
 have := Qfk (n := g.evs.length) p q [daQ g] (adQ g) (Qak g 7) (Qax (Qak g 8) (Qc3 _))
 rw [this]
 simp only [List.mem_cons, List.not_mem_nil, or_false, exists_eq_left]
 exact Iff.rfl
theorem Qup (hn : g.evs.length ≤ 256) : ∀ L ∈ [daQ g, Qbg (ctQ g) [wQ g], Qbg (adQ g) [LG g 0, wQ g], Qbg (Qdb (ctQ g) [daQ g]) [coI g], Qbg (Qdb (adQ g) [daQ g]) [rfI g]], WF g.evs.length L :=
 Qax (Qak g 8) (Qax (Qah hn (Qak g 9) (Qck hn _)) (Qax (Qah hn (Qah hn (Qak g 7) (Qak g 0)) (Qck hn _)) (Qax (Qah hn (Qyv g) (Qnm g)) (Qax (Qah hn (Qyw g) (Qkq g)) (Qc3 _)))))
theorem QDn (hn : g.evs.length ≤ 256) : Qrx g = RL g 1 := by
 refine Qi5 (Qgr _ _ (Qak g 7) (Qup hn)) (Qnj hn) (fun p q => ?_)
 show _ ↔ hs (Qe9 g (LG g)) p q
 rw [QDh hn]
 unfold Qrx
 rw [Qfk p q _ (adQ g) (Qak g 7) (Qup hn)]
 have e1 : hs (Qbg (ctQ g) [wQ g]) p q ↔ hs (LG g 9) p q ∧ (q < g.evs.length ∧ (g.ev q).k = 2) := by
  show hs (Qav (LG g 9) (idn g (Qaw g 2))) p q ↔ _
  rw [Qms hn (Qak g 9), Qwr]
  exact ⟨fun ⟨a, _, c⟩ => ⟨a, c⟩, fun ⟨a, c⟩ => ⟨a, c.1, c⟩⟩
 have e2 : hs (Qbg (adQ g) [LG g 0, wQ g]) p q ↔ (∃ m, hs (LG g 7) p m ∧ hs (LG g 0) m q) ∧ (q < g.evs.length ∧ (g.ev q).k = 2) := by
  show hs (Qav (Qav (LG g 7) (LG g 0)) (idn g (Qaw g 2))) p q ↔ _
  rw [Qms hn (Qah hn (Qak g 7) (Qak g 0)), Qat hn (Qak g 7) (Qak g 0), Qwr]
  exact ⟨fun ⟨a, _, c⟩ => ⟨a, c⟩, fun ⟨a, c⟩ => ⟨a, c.1, c⟩⟩
 have e3 : hs (Qbg (Qdb (ctQ g) [daQ g]) [coI g]) p q ↔ ∃ m, (hs (LG g 9) p m ∨ hs (LG g 8) p m) ∧ hs (LG g 2) m q ∧ ¬ hs (LG g 6) m q := by
  show hs (Qav (Qdb (ctQ g) [daQ g]) (coI g)) p q ↔ _
  rw [Qat hn (Qyv g) (Qnm g)]
  simp only [QDl, Qun]
 have e4 : hs (Qbg (Qdb (adQ g) [daQ g]) [rfI g]) p q ↔ ∃ m, (hs (LG g 7) p m ∨ hs (LG g 8) p m) ∧ hs (LG g 1) m q ∧ ¬ hs (LG g 6) m q := by
  show hs (Qav (Qdb (adQ g) [daQ g]) (rfI g)) p q ↔ _
  rw [Qat hn (Qyw g) (Qkq g)]
  simp only [QDm, Qum]
 simp only [Qop, Qr3, or_false, e1, e2, e3, e4]
 constructor
 ·rintro (h | h | ⟨h, _, k⟩ | ⟨⟨m, h, k⟩, _, l⟩ | h | h)
  ·exact ⟨3, by omega, by omega, h⟩
  ·exact ⟨4, by omega, by omega, h⟩
  ·exact ⟨5, by omega, by omega, h, k⟩
  ·exact ⟨6, by omega, by omega, m, h, k, l⟩
  ·exact ⟨7, by omega, by omega, h⟩
  ·exact ⟨8, by omega, by omega, h⟩
 ·rintro ⟨i, h1, h2, h⟩
  obtain rfl | rfl | rfl | rfl | rfl | rfl : i = 3 ∨ i = 4 ∨ i = 5 ∨ i = 6 ∨ i = 7 ∨ i = 8 := by omega
  ·exact .inl h
  ·exact .inr (.inl h)
  ·have h : hs (LG g 9) p q ∧ (g.ev q).k = 2 := h
   exact .inr (.inr (.inl ⟨h.1, Rg.r h.1, h.2⟩))
  ·obtain ⟨m, a, b, c⟩ : ∃ m, hs (LG g 7) p m ∧ hs (LG g 0) m q ∧ (g.ev q).k = 2 := h
   exact .inr (.inr (.inr (.inl ⟨⟨m, a, b⟩, Rg.r b, c⟩)))
  ·exact .inr (.inr (.inr (.inr (.inl h))))
  ·exact .inr (.inr (.inr (.inr (.inr h))))
theorem Quq (hn : g.evs.length ≤ 256) : ∀ L ∈ [Qbg (idn g (LsT g g.rmw.length)) [rfI g, qQ g]], WF g.evs.length L := Qax (Qah hn (Qah hn (Qck hn _) (Qkq g)) (Qck hn _)) (Qc3 _)
theorem QDo (hn : g.evs.length ≤ 256) (h : Wf g true) : Qry g = RL g 2 := by
 refine Qi5 (Qgr _ _ (Qak g 4) (Quq hn)) (Qnk hn) (fun p q => ?_)
 show _ ↔ hs (Qf g (LG g)) p q
 rw [QDi hn]
 unfold Qry
 rw [Qfk p q _ _ (Qak g 4) (Quq hn)]
 have e1 : hs (Qbg (idn g (LsT g g.rmw.length)) [rfI g, qQ g]) p q ↔ (∃ m, (g.ev m).k = 1 ∧ hs (LG g 4) m p) ∧ (hs (LG g 1) p q ∧ ¬ hs (LG g 6) p q) ∧ (g.ev q).m ∈ ([12, 16] : List Int) := by
  show hs (Qav (Qav (idn g (LsT g g.rmw.length)) (rfI g)) (idn g (Qfv (Qaw g 1) (mdL g [12, 16])))) p q ↔ _
  rw [Qms hn (Qah hn (Qck hn _) (Qkq g)), Qwq hn (Qkq g), QA4 h, QB6 h, Qum]
  constructor
  ·rintro ⟨⟨⟨_, _, a⟩, b⟩, _, _, c⟩
   exact ⟨a, b, c⟩
  ·rintro ⟨a, b, c⟩
   exact ⟨⟨⟨Rg.l b.1, Rg.l b.1, a⟩, b⟩, Rg.r b.1, Rg.r b.1, c⟩
 simp only [Qop, Qr3, or_false, e1]
 constructor
 ·rintro (h | h)
  ·exact ⟨9, by omega, by omega, h⟩
  ·exact ⟨10, by omega, by omega, h⟩
 ·rintro ⟨i, h1, h2, h⟩
  obtain rfl | rfl : i = 9 ∨ i = 10 := by omega
  ·exact .inl h
  ·exact .inr h
theorem Qr5 (A B : List Nat) : Qbg A [B] = Qav A B := rfl
theorem Qr6 (A B C : List Nat) : Qbg A [B, C] = Qav (Qav A B) C := rfl
theorem QFx (A B C D : List Nat) : Qbg A [B, C, D] = Qav (Qav (Qav A B) C) D := rfl
theorem QHq (hn : g.evs.length ≤ 256) : WF g.evs.length (Qbg (rQ g) [LG g 0, dQ g, LG g 0]) := by
 rw [QFx]
 exact Qah hn (Qah hn (Qah hn (Qck hn _) (Qak g 0)) (Qck hn _)) (Qak g 0)
theorem QHr (hn : g.evs.length ≤ 256) : WF g.evs.length (Qbg (lQ g) [LG g 0, aQ g]) := by
 rw [Qr6]
 exact Qah hn (Qah hn (Qck hn _) (Qak g 0)) (Qck hn _)
theorem QHs (hn : g.evs.length ≤ 256) : WF g.evs.length (Qbg (qQ g) [LG g 0]) := by
 rw [Qr5]
 exact Qah hn (Qck hn _) (Qak g 0)
theorem QFy (hn : g.evs.length ≤ 256) : WF g.evs.length (Qbg (LG g 0) [lQ g]) := by
 rw [Qr5]
 exact Qah hn (Qak g 0) (Qck hn _)
theorem QHt (hn : g.evs.length ≤ 256) : WF g.evs.length (Qbg (LG g 0) [lQ g, coI g]) := by
 rw [Qr6]
 exact Qah hn (Qah hn (Qak g 0) (Qck hn _)) (Qnm g)
theorem Qur (hn : g.evs.length ≤ 256) : ∀ L ∈ [Qbg (rQ g) [LG g 0, dQ g, LG g 0], Qbg (lQ g) [LG g 0, aQ g], Qbg (qQ g) [LG g 0], Qbg (LG g 0) [lQ g], Qbg (LG g 0) [lQ g, coI g]], WF g.evs.length L :=
 Qax (QHq hn) (Qax (QHr hn) (Qax (QHs hn) (Qax (QFy hn) (Qax (QHt hn) (Qc3 _)))))
theorem QC (hn : g.evs.length ≤ 256) : WF g.evs.length (Qbg (LG g 0) [yQ g, LG g 0]) := Qah hn (Qah hn (Qak g 0) (Qck hn _)) (Qak g 0)
theorem QDp (hn : g.evs.length ≤ 256) (h : Wf g true) : Qrz g = RL g 3 := by
 refine Qi5 (Qgr _ _ (QC hn) (Qur hn)) (Qnl hn) (fun p q => ?_)
 show _ ↔ hs (Qfa g (LG g)) p q
 rw [QDj hn]
 unfold Qrz
 rw [Qfk p q _ _ (QC hn) (Qur hn)]
 have e0 : hs (Qbg (LG g 0) [yQ g, LG g 0]) p q ↔ ∃ m, hs (LG g 0) p m ∧ (g.ev m).m ∈ ([15] : List Int) ∧ hs (LG g 0) m q := by
  rw [Qr6]
  show hs (Qav (Qav (LG g 0) (idn g (mdL g [15]))) (LG g 0)) p q ↔ _
  rw [Qat hn (Qah hn (Qak g 0) (Qck hn _)) (Qak g 0)]
  simp only [Qms hn (Qak g 0), QB8]
  exact ⟨fun ⟨m, ⟨a, _, _, b⟩, c⟩ => ⟨m, a, b, c⟩, fun ⟨m, a, b, c⟩ => ⟨m, ⟨a, Rg.r a, Rg.r a, b⟩, c⟩⟩
 have e1 : hs (Qbg (rQ g) [LG g 0, dQ g, LG g 0]) p q ↔ (g.ev p).k = 1 ∧ ∃ m, hs (LG g 0) p m ∧ (g.ev m).m ∈ ([14] : List Int) ∧ hs (LG g 0) m q := by
  rw [QFx]
  show hs (Qav (Qav (Qav (idn g (Qaw g 1)) (LG g 0)) (idn g (mdL g [14]))) (LG g 0)) p q ↔ _
  rw [Qat hn (Qah hn (Qah hn (Qck hn _) (Qak g 0)) (Qck hn _)) (Qak g 0)]
  simp only [Qms hn (Qah hn (Qck hn _) (Qak g 0)), Qwq hn (Qak g 0), QB8, Qwr]
  exact ⟨fun ⟨m, ⟨⟨⟨_, _, k⟩, a⟩, _, _, b⟩, c⟩ => ⟨k, m, a, b, c⟩, fun ⟨k, m, a, b, c⟩ => ⟨m, ⟨⟨⟨Rg.l a, Rg.l a, k⟩, a⟩, Rg.r a, Rg.r a, b⟩, c⟩⟩
 have e2 : hs (Qbg (lQ g) [LG g 0, aQ g]) p q ↔ (g.ev p).m ∈ ([13] : List Int) ∧ hs (LG g 0) p q ∧ (g.ev q).m ∈ ([12] : List Int) := by
  rw [Qr6]
  show hs (Qav (Qav (idn g (Qfv (Qaw g 2) (mdL g [13]))) (LG g 0)) (idn g (Qfv (Qaw g 1) (mdL g [12])))) p q ↔ _
  rw [Qms hn (Qah hn (Qck hn _) (Qak g 0)), Qwq hn (Qak g 0), QB7 h, QG0 h]
  exact ⟨fun ⟨⟨⟨_, _, k⟩, a⟩, _, _, b⟩ => ⟨k, a, b⟩, fun ⟨k, a, b⟩ => ⟨⟨⟨Rg.l a, Rg.l a, k⟩, a⟩, Rg.r a, Rg.r a, b⟩⟩
 have e3 : hs (Qbg (qQ g) [LG g 0]) p q ↔ (g.ev p).m ∈ ([12, 16] : List Int) ∧ hs (LG g 0) p q := by
  rw [Qr5]
  show hs (Qav (idn g (Qfv (Qaw g 1) (mdL g [12, 16]))) (LG g 0)) p q ↔ _
  rw [Qwq hn (Qak g 0), QB6 h]
  exact ⟨fun ⟨⟨_, _, k⟩, a⟩ => ⟨k, a⟩, fun ⟨k, a⟩ => ⟨⟨Rg.l a, Rg.l a, k⟩, a⟩⟩
 have e4 : ∀ r, hs (Qbg (LG g 0) [lQ g]) p r ↔ hs (LG g 0) p r ∧ (g.ev r).m ∈ ([13] : List Int) := fun r => by
  rw [Qr5]
  show hs (Qav (LG g 0) (idn g (Qfv (Qaw g 2) (mdL g [13])))) p r ↔ _
  rw [Qms hn (Qak g 0), QB7 h]
  exact ⟨fun ⟨a, _, _, k⟩ => ⟨a, k⟩, fun ⟨a, k⟩ => ⟨a, Rg.r a, Rg.r a, k⟩⟩
 have e5 : hs (Qbg (LG g 0) [lQ g, coI g]) p q ↔ ∃ m, (hs (LG g 0) p m ∧ (g.ev m).m ∈ ([13] : List Int)) ∧ hs (LG g 2) m q ∧ ¬ hs (LG g 6) m q := by
  rw [Qr6, ← Qr5 (LG g 0) (lQ g)]
  rw [Qat hn (QFy hn) (Qnm g)]
  simp only [Qun]
  exact ⟨fun ⟨m, a, b⟩ => ⟨m, (e4 m).1 a, b⟩, fun ⟨m, a, b⟩ => ⟨m, (e4 m).2 a, b⟩⟩
 simp only [Qop, Qr3, or_false, e0, e1, e2, e3, e4, e5]
 constructor
 ·rintro (h | h | h | h | h | h)
  ·exact ⟨11, by omega, by omega, h⟩
  ·exact ⟨12, by omega, by omega, h⟩
  ·exact ⟨13, by omega, by omega, h⟩
  ·exact ⟨14, by omega, by omega, h⟩
  ·exact ⟨15, by omega, by omega, h⟩
  ·exact ⟨16, by omega, by omega, h⟩
 ·rintro ⟨i, h1, h2, h⟩
  obtain rfl | rfl | rfl | rfl | rfl | rfl : i = 11 ∨ i = 12 ∨ i = 13 ∨ i = 14 ∨ i = 15 ∨ i = 16 := by omega
  ·exact .inl h
  ·exact .inr (.inl h)
  ·exact .inr (.inr (.inl h))
  ·exact .inr (.inr (.inr (.inl h)))
  ·exact .inr (.inr (.inr (.inr (.inl h))))
  ·exact .inr (.inr (.inr (.inr (.inr h))))
theorem QFz (hn : g.evs.length ≤ 256) : Qdb (RL g 0) [RL g 1, RL g 2, RL g 3] = RL g 4 := by
 have hw : ∀ L ∈ [RL g 1, RL g 2, RL g 3], WF g.evs.length L := Qax (Qnj hn) (Qax (Qnk hn) (Qax (Qnl hn) (Qc3 _)))
 refine Qi5 (Qgr _ _ (Qkp hn) hw) (QB5 hn) (fun p q => ?_)
 rw [Qfk p q _ (RL g 0) (Qkp hn) hw]
 show _ ↔ hs (Qan [Qer g (LG g), Qe9 g (LG g), Qf g (LG g), Qfa g (LG g)]) p q
 rw [Qpt]
 simp only [List.mem_cons, List.not_mem_nil, or_false, exists_eq_or_imp, exists_eq_left]
 exact Iff.rfl
theorem QF0 (hn : g.evs.length ≤ 256) (h : Wf g true) : fcQ g = [RL g 0, RL g 1, RL g 2, RL g 3, RL g 4] := by
 unfold fcQ
 rw [QDk hn, QDn hn, QDo hn h, QDp hn h, QFz hn]
end
theorem Qpr {w : World} {base : Nat} {v : Value} {l : List (Nat × Nat)} (h : w.ownsRow base 30 2 v l.length (Qcy l)) (hl : l.length ≤ 9223372036854775807) : PArg w v (l.map (fun x => (((x.1 : Nat) : Int), ((x.2 : Nat) : Int)))) := by
 rcases Qsb h with ⟨rfl, rfl⟩ | ⟨s, cap, rfl, _, hp⟩
 ·exact .inl ⟨_, _, rfl, rfl⟩
 ·refine .inr ⟨s, 0, cap, by simp, ?_, by simpa using hl⟩
  refine ⟨hp.lt, fun i x hx => ?_, fun i x hx => ?_⟩
  ·rw [List.getElem?_map] at hx
   obtain ⟨y, hy, rfl⟩ := Option.map_eq_some_iff.1 hx
   have := hp.fst i y hy
   simpa using this
  ·rw [List.getElem?_map] at hx
   obtain ⟨y, hy, rfl⟩ := Option.map_eq_some_iff.1 hx
   have := hp.snd i y hy
   simpa using this
theorem Qqd (u v : Value) (l : List (Int × Int)) (w : World) (h1 : PArg w u l) (h2 : PArg w v l) : Calls Tryz.prog 32 #[u, v] w fun r w' => r = .returned (.bool true) ∧ Below w.heap.size w w' :=
 (Qi2 u v l l w h1 h2).mono fun e w' h => ⟨by rw [h.1]; simp, h.2⟩
theorem Qtr {n : Nat} {F F' : Nat → Nat → Bool} {L : List Nat} {b c lo : Nat} {M : Value} {rb : Nat → Nat} (w : World) (hr : IsRel w b c L) (ht : TwR n F L) (hn : n ≤ 256) (hM : RefM lo w M n n rb F') (hFF : ∀ p q, p < n → q < n → F' p q = F p q) (hT : Tab w) :
  Calls Tryz.prog 57 #[pv b, .agg #[.int .i64 ((n : Nat) : Int), M]] w fun e w' => e = .returned (.bool true) ∧ Below w.heap.size w w' := by
 obtain ⟨x, y, z, rfl⟩ := hM.slice
 have HL : Hid (L.length = n) := ht.len
 have HP : Hid (Qe2 L = Qda n F n 0) := Qwd hn (Qmd ht hr)
 have HM : Hid (RefM lo w (.slice x y z) n n rb F) := hM.congr hFF
 have HPL : Hid ((Qda n F n 0).length ≤ 9223372036854775807) := by rw [← HP.out]; unfold Qe2; have := Qk L L.length; have := HL.out; rw [Hid]; omega
 have HR := Qa hr
 have HT := Qa hT
 have hB0 : Below w.heap.size w (w.alloc (.cells #[.int .i64 ((n : Nat) : Int), .slice x y z] 51)) := (Below.refl _ _).alloc (Nat.le_refl _) _
 have hb0 := Blk.new w 51 #[.int .i64 ((n : Nat) : Int), .slice x y z]
 clear hr ht hM hFF hT
 go_enter Tryz.func57, Tryz.ntmps57
 go_upto_region 1 with fail
 have HB0 := Qa hB0
 have HG0 := Qa hb0
 generalize w.alloc (.cells #[.int .i64 ((n : Nat) : Int), .slice x y z] 51) = W0 at *
 clear hB0 hb0
 have HZ : Hid (∀ W, Below W0.heap.size W0 W → W.cell? ⟨w.heap.size, 0, none⟩ = some (.int .i64 ((n : Nat) : Int)) ∧ W.cell? ⟨w.heap.size, 1, none⟩ = some (.slice x y z)) := fun W hW => ⟨(HG0.out.of_below hW).cell rfl, (HG0.out.of_below hW).cell rfl⟩
 have HBX : Hid (∀ W, Below W0.heap.size W0 W → Below w.heap.size w W) := fun W hW => Qaa HB0.out HB0.out.size hW
 have hXd : Below W0.heap.size W0 W0.drew := (Below.refl _ _).drew
 refine wp_region_held_drew (S := fun W => W.cell? ⟨w.heap.size, 0, none⟩ = some (.int .i64 ((n : Nat) : Int)) ∧ W.cell? ⟨w.heap.size, 1, none⟩ = some (.slice x y z)) (by kernel_rfl) (HZ.out _ hXd) (fun hHeld => ?_)
 refine tk 0 rfl ?_; simp only [zz]
 refine tk 1 rfl ?_; simp only [zz]
 refine tk 2 rfl ?_; simp only [zz]
 refine tk 3 rfl ?_; simp only [zz]
 refine tk 5 rfl ?_; simp only [zz]
 refine tk 6 rfl ?_; simp only [zz]
 refine wpAnyH_ready (rs := [4]) (by kernel_rfl) (by simp) ?_
 refine AllReadyH.cons rfl (fun K hK => ?_) AllReadyH.nil
 simp only [z1, z2, z3]
 go_simp
 have D := Qh5 b c L _ (HR.out.below (HBX.out _ hXd))
 rw [HL.out] at D
 refine D.mono ?_
 rintro e a1 ⟨rfl, rfl⟩
 clear D
 refine hK.out _ _ (HZ.out _ hXd) (fun hHeld => ?_)
 clear hK K
 try simp only [zz]
 refine tk 7 rfl ?_; simp only [zz]
 refine tk 8 rfl ?_; simp only [zz]
 refine tk 9 rfl ?_; simp only [zz]
 refine tk 10 rfl ?_; simp only [zz]
 refine tk 12 rfl ?_; simp only [zz]
 refine wpAnyH_ready (rs := [11]) (by kernel_rfl) (by simp) ?_
 refine AllReadyH.cons rfl (fun K hK => ?_) AllReadyH.nil
 simp only [z1, z2, z3]
 go_simp
 have D := Ql1 b c L _ (HR.out.below (HBX.out _ hXd)) (HT.out.step' (HBX.out _ hXd))
 rw [HP.out] at D
 refine D.mono ?_
 rintro e a2 ⟨u1, rfl, hu1, hBa2⟩
 have hXa2 : Below W0.heap.size W0 a2 := Qaa hXd hXd.size hBa2
 have HU1 := Qa (Qpr hu1 HPL.out)
 clear D hu1
 refine hK.out _ _ (HZ.out _ hXa2) (fun hHeld => ?_)
 clear hK K
 try simp only [zz]
 refine wpAnyH_ready (rs := [13]) (by kernel_rfl) (by simp) ?_
 refine AllReadyH.cons rfl (fun K hK => ?_) AllReadyH.nil
 simp only [z1, z2, z3]
 go_simp
 have D := Qoj lo n hn x y z rb F _ (HM.out.below (HBX.out _ hXa2))
 refine D.mono ?_
 rintro e a3 ⟨u2, rfl, hu2, hBa3⟩
 have hXa3 : Below W0.heap.size W0 a3 := Qaa hXa2 hXa2.size hBa3
 have HU2 := Qa (Qpr hu2 HPL.out)
 have HU3 := Qa (HU1.out.below hBa3)
 clear D hu2
 refine hK.out _ _ (HZ.out _ hXa3) (fun hHeld => ?_)
 clear hK K
 try simp only [zz]
 refine wpAnyH_ready (rs := [14]) (by kernel_rfl) (by simp) ?_
 refine AllReadyH.cons rfl (fun K hK => ?_) AllReadyH.nil
 simp only [z1, z2, z3]
 go_simp
 have D := Qqd u1 u2 ((Qda n F n 0).map (fun x => (((x.1 : Nat) : Int), ((x.2 : Nat) : Int)))) _ HU3.out HU2.out
 refine D.mono ?_
 rintro e a4 ⟨rfl, hBa4⟩
 have hXa4 : Below W0.heap.size W0 a4 := Qaa hXa3 hXa3.size hBa4
 clear D
 refine hK.out _ _ (HZ.out _ hXa4) (fun hHeld => ?_)
 clear hK K
 try simp only [zz]
 refine tk 15 rfl ?_; simp only [zz]
 refine tk 16 rfl ?_; simp only [zz]
 refine wpAnyH_done (by kernel_rfl) ?_ _
 go_wp2_with fail
 go_ret
 exact ⟨rfl, HBX.out _ hXa4⟩
set_option maxRecDepth 100000
structure WV where
 t : Nat
 k : Nat
 b : Bool
structure Wm where
 fb : Nat
 db : Nat
 n : Nat
 ks : Nat → Nat
 qs : List (Option Addr × Nat × Nat × List Nat)
def WIs (M : Wm) (x : WV) (v : Value) : Prop :=
 match x.t with
 | 2 => v = .bool x.b
 | 3 => v = pv M.fb
 | 4 => v = pv M.db
 | 5 => v = .pointer (some ⟨M.fb, x.k, none⟩)
 | 6 => v = .pointer (some ⟨M.db, 2 * x.k, none⟩)
 | 7 => v = pv (M.ks x.k)
 | 8 => ∃ q, M.qs[x.k]? = some q ∧ v = rvA ((M.n : Nat) : Int) q
 | _ => True
structure WG (M : Wm) (w : World) : Prop where
 tab : Tab w
 hn : M.n ≤ 256
 hf : Blk w M.fb 44 (fcC M.ks)
 hd : Blk w M.db 53 (rvC ((M.n : Nat) : Int) M.qs).toArray
 hl : M.qs.length = 5
 rel : ∀ i q, i < 5 → M.qs[i]? = some q → ∃ c, IsRel w (M.ks i) c q.2.2.2 ∧ RT w M.n (rvA ((M.n : Nat) : Int) q) q.2.2.2
theorem WG.mono {M : Wm} {w w' : World} (h : WG M w) (hb : Below w.heap.size w w') : WG M w' :=
 ⟨h.tab.step' hb, h.hn, h.hf.of_below hb, h.hd.of_below hb, h.hl, fun i q hi hq => by obtain ⟨c, h1, h2⟩ := h.rel i q hi hq; exact ⟨c, h1.below hb, h2.below hb⟩⟩
def Qws : Operand → WV
 | .const (.bool b) => ⟨2, 0, b⟩
 | _ => ⟨0, 0, false⟩
def wvA (σ : Nat → WV) : Operand → WV
 | .tmp d => σ d
 | x => Qws x
def QA5 (σ : Nat → WV) : Op → Option WV
 | .fieldAddr ty x f => if ty = 44 ∧ (wvA σ x).t = 3 ∧ f < 5 then some ⟨5, f, false⟩ else if ty = 53 ∧ (wvA σ x).t = 4 ∧ f < 5 then some ⟨6, f, false⟩ else none
 | .load ty x => if ty = 42 ∧ (wvA σ x).t = 5 ∧ (wvA σ x).k < 5 then some ⟨7, (wvA σ x).k, false⟩ else if ty = 51 ∧ (wvA σ x).t = 6 ∧ (wvA σ x).k < 5 then some ⟨8, (wvA σ x).k, false⟩ else none
 | .call ⟨.value (.func f), args, _⟩ => match args.toList with
   | [x, y] => if f = 57 ∧ (wvA σ x).t = 7 ∧ (wvA σ y).t = 8 ∧ (wvA σ x).k = (wvA σ y).k ∧ (wvA σ x).k < 5 then some ⟨2, 0, true⟩ else none
   | _ => none
 | _ => none
section
variable {M : Wm} {w : World} {a : Act} {σ : Nat → WV} {Q : Exit → Act → World → Prop} {x : Operand}
theorem Qus (h : ∀ d, x ≠ .tmp d) : WIs M (Qws x) (a.eval x) := by
 unfold Qws
 split
 ·exact rfl
 ·exact trivial
theorem Qnn (h : ∀ d, x = .tmp d → WIs M (σ d) (a.eval (.tmp d))) : WIs M (wvA σ x) (a.eval x) := by
 unfold wvA
 split
 ·exact h _ rfl
 ·rename_i y hy
  exact Qus hy
theorem WIs.t {z : WV} {v : Value} {k : Nat} (h : WIs M z v) (ht : z.t = k) : WIs M ⟨k, z.k, z.b⟩ v := by
 rw [← ht]
 exact h
theorem Qyx (b : Nat) (w : World) {f : Nat} (hf : f < 5) : (Instr.fieldAt 44 (pv b) f).run Tryz.prog w = .ok (.pointer (some ⟨b, f, none⟩)) w := by
 match f, hf with
 | 0, _ => exact (show _ = _ by kernel_rfl)
 | 1, _ => exact (show _ = _ by kernel_rfl)
 | 2, _ => exact (show _ = _ by kernel_rfl)
 | 3, _ => exact (show _ = _ by kernel_rfl)
 | 4, _ => exact (show _ = _ by kernel_rfl)
 | n + 5, h => omega
theorem QF1 (b : Nat) (w : World) {f : Nat} (hf : f < 5) : (Instr.fieldAt 53 (pv b) f).run Tryz.prog w = .ok (.pointer (some ⟨b, 2 * f, none⟩)) w := by
 match f, hf with
 | 0, _ => exact (show _ = _ by kernel_rfl)
 | 1, _ => exact (show _ = _ by kernel_rfl)
 | 2, _ => exact (show _ = _ by kernel_rfl)
 | 3, _ => exact (show _ = _ by kernel_rfl)
 | 4, _ => exact (show _ = _ by kernel_rfl)
 | n + 5, h => omega
theorem QG1 {b o y z : Nat} {m : Int} {s : Option Addr} (w : World) (c0 : w.cell? ⟨b, o, none⟩ = some (.int .i64 m)) (c1 : w.cell? ⟨b, o + 1, none⟩ = some (.slice s y z)) : (Instr.loadAt 51 (.pointer (some ⟨b, o, none⟩))).run Tryz.prog w = .ok (.agg #[.int .i64 m, .slice s y z]) w := by
 go_simp
theorem Qr7 (ks : Nat → Nat) {k : Nat} (hk : k < 5) : (fcC ks)[k]? = some (pv (ks k)) := by
 match k, hk with
 | 0, _ => rfl
 | 1, _ => rfl
 | 2, _ => rfl
 | 3, _ => rfl
 | 4, _ => rfl
 | n + 5, h => omega
theorem QDq (u v : Value) (w : World) : (callFunc 57 #[u, v]).run Tryz.prog w = .ok (.enter 57 #[u, v]) w := by kernel_rfl
theorem Qwt {n b c : Nat} {L : List Nat} {v : Value} (w : World) (hn : n ≤ 256) (hr : IsRel w b c L) (hv : RT w n v L) (hT : Tab w) : Calls Tryz.prog 57 #[pv b, v] w fun e w' => e = .returned (.bool true) ∧ Below w.heap.size w w' := by
 obtain ⟨x, y, z, rb, F, rfl, hM, ht⟩ := hv
 exact Qtr (F := fun p q => (gr L p).testBit q) w hr ⟨ht.wf.len, fun p q _ _ => rfl⟩ hn hM (fun p q hp hq => by rw [Bool.eq_iff_iff]; exact ht.same p q hp hq) hT
theorem QF2 (hG : WG M w) {o : Oper} {av : WV} (h : QA5 σ o.op = some av) (hx : ∀ d ∈ Qb9 o.op.operands.toList, WIs M (σ d) (a.eval (.tmp d))) : o.wp Tryz.prog a w (fun a' w' => ∃ v, a' = a.put o.dst v ∧ WIs M av v ∧ Below w.heap.size w w') Q := by
 obtain ⟨dst, op, ty, pos, af, gd⟩ := o
 dsimp only at h hx ⊢
 have hB := Below.refl w.heap.size w
 unfold QA5 at h
 split at h
 ·rename_i t x f
  have hi := Qnn (x := x) (fun d e => hx d (Qae.2 (by simp [Op.operands, e])))
  by_cases c1 : t = 44 ∧ (wvA σ x).t = 3 ∧ f < 5
  ·rw [if_pos c1] at h; cases h
   obtain ⟨rfl, c, hf⟩ := c1
   have e : a.eval x = pv M.fb := hi.t c
   exact Qb5 (s := Instr.fieldAt 44 (a.eval x) f) rfl (by rw [e]; exact Qyx _ _ hf) ⟨_, rfl, rfl, hB⟩
  rw [if_neg c1] at h
  by_cases c2 : t = 53 ∧ (wvA σ x).t = 4 ∧ f < 5
  ·rw [if_pos c2] at h; cases h
   obtain ⟨rfl, c, hf⟩ := c2
   have e : a.eval x = pv M.db := hi.t c
   exact Qb5 (s := Instr.fieldAt 53 (a.eval x) f) rfl (by rw [e]; exact QF1 _ _ hf) ⟨_, rfl, rfl, hB⟩
  rw [if_neg c2] at h; cases h
 ·rename_i t x
  have hi := Qnn (x := x) (fun d e => hx d (Qae.2 (by simp [Op.operands, e])))
  by_cases c1 : t = 42 ∧ (wvA σ x).t = 5 ∧ (wvA σ x).k < 5
  ·rw [if_pos c1] at h; cases h
   obtain ⟨rfl, c, hk⟩ := c1
   have e : a.eval x = .pointer (some ⟨M.fb, (wvA σ x).k, none⟩) := hi.t c
   exact Qb5 (s := Instr.loadAt 42 (a.eval x)) rfl (by rw [e]; exact Qhi _ _ _ _ (hG.hf.cell (Qr7 _ hk))) ⟨_, rfl, rfl, hB⟩
  rw [if_neg c1] at h
  by_cases c2 : t = 51 ∧ (wvA σ x).t = 6 ∧ (wvA σ x).k < 5
  ·rw [if_pos c2] at h; cases h
   obtain ⟨rfl, c, hk⟩ := c2
   have e : a.eval x = .pointer (some ⟨M.db, 2 * (wvA σ x).k, none⟩) := hi.t c
   obtain ⟨q, hq⟩ : ∃ q, M.qs[(wvA σ x).k]? = some q := ⟨_, List.getElem?_eq_getElem (by rw [hG.hl]; omega)⟩
   obtain ⟨h1, h2⟩ := Qwp (m := ((M.n : Nat) : Int)) M.qs (wvA σ x).k q hq
   rw [Nat.mul_comm] at h1 h2
   exact Qb5 (v := rvA ((M.n : Nat) : Int) q) (s := Instr.loadAt 51 (a.eval x)) rfl (by rw [e]; exact QG1 _ (hG.hd.cell (by simpa using h1)) (hG.hd.cell (by simpa using h2))) ⟨_, rfl, ⟨q, hq, rfl⟩, hB⟩
  rw [if_neg c2] at h; cases h
 ·rename_i f args tys
  obtain ⟨l⟩ := args
  match l, h, hx with
  | [], h, _ => cases h
  | [x], h, _ => cases h
  | [x, y], h, hx =>
   have h1 := Qnn (x := x) (fun d e => hx d (Qae.2 (by simp [Op.operands, Call.operands, e])))
   have h2 := Qnn (x := y) (fun d e => hx d (Qae.2 (by simp [Op.operands, Call.operands, e])))
   dsimp only at h
   by_cases c : f = 57 ∧ (wvA σ x).t = 7 ∧ (wvA σ y).t = 8 ∧ (wvA σ x).k = (wvA σ y).k ∧ (wvA σ x).k < 5
   ·rw [if_pos c] at h; cases h
    obtain ⟨rfl, c1, c2, c3, c4⟩ := c
    have e1 : a.eval x = pv (M.ks (wvA σ x).k) := h1.t c1
    obtain ⟨q, hq, e2⟩ : ∃ q, M.qs[(wvA σ y).k]? = some q ∧ a.eval y = rvA ((M.n : Nat) : Int) q := h2.t c2
    rw [← c3] at hq
    obtain ⟨cc, r1, r2⟩ := hG.rel _ q c4 hq
    refine Qal (Qbc e1 e2 QDq) ((Qwt w hG.hn r1 r2 hG.tab).mono ?_)
    rintro e w' ⟨rfl, hb⟩
    exact ⟨_, rfl, _, rfl, rfl, hb⟩
   ·rw [if_neg c] at h; cases h
  | x :: y :: z :: l, h, _ => cases h
 ·cases h
end
def wE (M : Wm) : Eng Tryz.prog WV where
 Is _ _ := WIs M
 G := WG M
 isNo x := x.t == 0
 nw _ := false
 isB x := x.t == 2
 bv x := x.b
 con := Qws
 pk b x y := if x.t = 2 ∧ y.t = 2 then some ⟨2, 0, if b then x.b else y.b⟩ else none
 opR := QA5
 pre _ _ := none
 mono h _ := h
 gmono := WG.mono
 any := fun {_ _ x _} h => by
  obtain ⟨t, k, b⟩ := x
  have : t = 0 := by simpa using h
  subst this
  exact trivial
 chg _ h := h
 bool := fun {_ _ x v} h hi => (show WIs M x v from hi).t (k := 2) (by simpa using h)
 conOk := Qus
 pkOk := fun {_ _ b x y z v} h hi => by
  by_cases c : x.t = 2 ∧ y.t = 2
  ·rw [if_pos c] at h; cases h
   cases b
   ·exact (show WIs M y v from hi).t c.2
   ·exact (show WIs M x v from hi).t c.1
  ·rw [if_neg c] at h; cases h
 ok := fun hG _ h _ hx => QF2 hG h hx
theorem Qos (n : Nat) (ks : Nat → Nat) (qs : List (Option Addr × Nat × Nat × List Nat)) (w : World) (hn : n ≤ 256) (hl : qs.length = 5) (hT : Tab w) (hr : ∀ i q, i < 5 → qs[i]? = some q → ∃ c, IsRel w (ks i) c q.2.2.2 ∧ RT w n (rvA ((n : Nat) : Int) q) q.2.2.2) :
  Calls Tryz.prog 20 #[.agg (fcC ks), .agg (rvC ((n : Nat) : Int) qs).toArray] w fun e w' => e = .returned (.bool true) ∧ Below w.heap.size w w' := by
 match qs, hl, hr with
 | [a, b, c, d, e], hl, hr =>
  have HT := Qa hT
  have HR := Qa hr
  have hB : Below w.heap.size w ((w.alloc (.cells (fcC ks) 44)).alloc (.cells (rvC ((n : Nat) : Int) [a, b, c, d, e]).toArray 53)) := ((Below.refl _ w).alloc (Nat.le_refl _) _).alloc (by simp) _
  have HB := Qa hB
  clear hT hr hl hB
  unfold fcC rvC
  simp only [List.flatMap_cons, List.flatMap_nil, List.cons_append, List.nil_append]
  go_enter Tryz.func20, Tryz.ntmps20
  go_upto_region 1 with fail
  rename_i hK
  refine Eng.reg_ret (E := wE ⟨w.heap.size, w.heap.size + 1, n, ks, [a, b, c, d, e]⟩) (T := 38) (w0 := w) (σ := Qas (fun _ => ⟨0, 0, false⟩) [(2, ⟨3, 0, false⟩), (3, ⟨4, 0, false⟩)]) (fn := Tryz.f20) (R := fun e w' => e = .returned (.bool true) ∧ Below w.heap.size w w') 4 ⟨2, 0, true⟩ byK byK byK (Qbn (fun _ _ => rfl) _ _ _) byK byK rfl (fun a w h => hK a w (wp_ret h)) ?_ _ _
   (Qlf (E := wE ⟨w.heap.size, w.heap.size + 1, n, ks, [a, b, c, d, e]⟩) ⟨0, 0, false⟩ [(2, ⟨3, 0, false⟩), (3, ⟨4, 0, false⟩)] rfl rfl HB.out ⟨HT.out.step' HB.out, hn, (Blk.new w _ _).alloc _, Blk.new2 w _ _ _, rfl, fun i q hi hq => by obtain ⟨c, h1, h2⟩ := HR.out i q hi hq; exact ⟨c, h1.below HB.out, h2.below HB.out⟩⟩ (by
    intro p hp
    rcases List.mem_cons.1 hp with rfl | hp
    ·exact ⟨rfl, rfl⟩
    obtain rfl := List.mem_singleton.1 hp
    exact ⟨rfl, rfl⟩) rfl rfl)
  intro N w' v hl hG hv
  have hv : v = .bool true := hv
  exact ⟨by rw [hv], hl⟩
set_option maxRecDepth 100000
structure DLV where
 t : Nat
 k : Int
 b : Bool
structure DLm where
 gb : Nat
 nb : Nat
 fa : Nat
 fb : Nat
 V : GrV
 U : GrV
 g : Gr
 ka : Nat → Nat
 la : Nat → Nat
 kb : Nat → Nat
 lb : Nat → Nat
 m : Nat
 W : World
 nil : Bool
 ex : Bool
def DLm.ca (M : DLm) : Array Value := if M.nil then Qgw else fcC M.ka
def DLm.cb (M : DLm) : Array Value := if M.nil then Qgw else fcC M.kb
abbrev DLm.n (M : DLm) : Nat := M.g.evs.length
def Qqp : Array Value := #[.int .i64 0, .slice none 0 0, .int .i64 0, .slice none 0 0, .int .i64 0, .slice none 0 0, .int .i64 0, .slice none 0 0, .int .i64 0, .slice none 0 0]
def DLIs (M : DLm) (N : Nat) (w : World) (x : DLV) (v : Value) : Prop :=
 match x.t with
 | 1 => v = .int .i64 x.k
 | 2 => v = .bool x.b
 | 3 => v = pv M.gb
 | 4 => v = pv M.nb
 | 5 => v = pv M.fa
 | 6 => v = pv M.fb
 | 7 => ∃ b cs, v = pv b ∧ Blk w b 53 cs ∧ FcA w M.n (.agg cs) (fcQ M.g)
 | 8 => v = .pointer (some ⟨M.fa, x.k.toNat, none⟩)
 | 9 => v = pv (M.ka x.k.toNat) ∧ x.k.toNat < 5
 | 10 => v = M.V.val M.g
 | 11 => v = M.U.val M.g
 | 12 => v = .agg M.ca
 | 13 => v = .agg M.cb
 | 14 => FcA w M.n v (fcQ M.g)
 | 15 => ∃ s, v = .slice (some ⟨s, 0, none⟩) 5 5 ∧ Blk w s 42 (fcC M.ka)
 | 16 => ∃ b, v = pv b ∧ N ≤ b ∧ Blk w b 53 Qqp
 | 17 => x.k.toNat < 5 ∧ ∃ s, v = .pointer (some ⟨s, x.k.toNat, none⟩) ∧ Blk w s 42 (fcC M.ka)
 | 18 => ∃ b, v = .bool b
 | 19 => v = .pointer none
 | _ => True
theorem DLIs.mono {M : DLm} {N : Nat} {w w' : World} {x : DLV} {v : Value} (h : DLIs M N w x v) (hb : Below w.heap.size w w') : DLIs M N w' x v := by
 obtain ⟨t, k, b⟩ := x
 unfold DLIs at h ⊢
 dsimp only at h ⊢
 split at h
 case h_7 => obtain ⟨b, cs, h1, h2, h3⟩ := h; exact ⟨b, cs, h1, h2.of_below hb, h3.below hb⟩
 case h_14 => exact FcA.below h hb
 case h_15 => obtain ⟨s, h1, h2⟩ := h; exact ⟨s, h1, h2.of_below hb⟩
 case h_16 => obtain ⟨b, h1, h2, h3⟩ := h; exact ⟨b, h1, h2, h3.of_below hb⟩
 case h_17 => obtain ⟨h0, s, h1, h2⟩ := h; exact ⟨h0, s, h1, h2.of_below hb⟩
 all_goals exact h
structure LGG (M : DLm) (w : World) : Prop where
 low : Below M.W.heap.size M.W w
 gr : GrR M.W M.V M.g
 gu : GrR M.W M.U M.g
 tab : Tab M.W
 frm : Frm M.W
 hn : M.nil = false → M.n ≤ 256
 wf : M.nil = false → Wf M.g true
 bx : Blk M.W M.gb 27 (M.V.gs M.g)
 bu : Blk M.W M.nb 27 (M.U.gs M.g)
 fa : Blk w M.fa 44 M.ca
 fb : Blk w M.fb 44 M.cb
 ra : M.nil = false → ∀ i, i < 5 → (∃ L, IsRel w (M.ka i) (M.la i) L ∧ L.length = M.n ∧ (M.ex = true → L = RL M.g i)) ∧ M.W.heap.size ≤ M.la i ∧ M.la i < M.m
 rb : M.nil = false → ∀ i, i < 5 → IsRel w (M.kb i) (M.lb i) (RL M.g i) ∧ M.m ≤ M.kb i ∧ M.m ≤ M.lb i
theorem LGG.mono {M : DLm} {w w' : World} (h : LGG M w) (hb : Below w.heap.size w w') : LGG M w' :=
 { h with
  low := Qaa h.low h.low.size hb
  fa := h.fa.of_below hb
  fb := h.fb.of_below hb
  ra := fun e i hi => by obtain ⟨⟨L, h1, h2⟩, h3⟩ := h.ra e i hi; exact ⟨⟨L, h1.below hb, h2⟩, h3⟩
  rb := fun e i hi => ⟨(h.rb e i hi).1.below hb, (h.rb e i hi).2⟩ }
def Qwu : Operand → DLV
 | .const (.int .i64 k) => ⟨1, k, false⟩
 | .const (.bool b) => ⟨2, 0, b⟩
 | .const (.pointer none) => ⟨19, 0, false⟩
 | _ => ⟨0, 0, false⟩
def Qaf (σ : Nat → DLV) : Operand → DLV
 | .tmp d => σ d
 | x => Qwu x
def Qwv (M : DLm) (σ : Nat → DLV) : Op → Option DLV
 | .fieldAddr ty x f => if ty = 44 ∧ (Qaf σ x).t = 5 ∧ f < 5 then some ⟨8, (f : Nat), false⟩ else none
 | .load ty x => if ty = 42 ∧ (Qaf σ x).t = 8 ∧ (Qaf σ x).k.toNat < 5 then (if M.nil then some ⟨19, 0, false⟩ else some ⟨9, (Qaf σ x).k, false⟩)
   else if ty = 42 ∧ (Qaf σ x).t = 17 then some ⟨9, (Qaf σ x).k, false⟩
   else if ty = 27 ∧ (Qaf σ x).t = 3 then some ⟨10, 0, false⟩ else if ty = 27 ∧ (Qaf σ x).t = 4 then some ⟨11, 0, false⟩
   else if ty = 44 ∧ (Qaf σ x).t = 5 then some ⟨12, 0, false⟩ else if ty = 44 ∧ (Qaf σ x).t = 6 then some ⟨13, 0, false⟩
   else if ty = 53 ∧ (Qaf σ x).t = 7 then some ⟨14, 0, false⟩ else none
 | .alloc ty => if ty = 53 then some ⟨16, 0, false⟩ else none
 | .indexAddr ty x i => if ty = 56 ∧ (Qaf σ x).t = 15 ∧ (Qaf σ i).t = 1 then some ⟨17, (Qaf σ i).k, false⟩ else none
 | .binOp op ty x y _ => if (ty = 3 ∨ ty = 38) ∧ (Qaf σ x).t = 1 ∧ (Qaf σ y).t = 1 then (match Qkt op (Qaf σ x).k (Qaf σ y).k, Qku op (Qaf σ x).k (Qaf σ y).k with
   | some b, _ => some ⟨2, 0, b⟩
   | none, some k => if ty = 3 then some ⟨1, k, false⟩ else none
   | none, none => none)
   else if ty = 42 ∧ op = .eql ∧ (Qaf σ x).t = 19 ∧ (Qaf σ y).t = 19 then some ⟨2, 0, true⟩ else none
 | .unOp op _ x => if op = .not ∧ (Qaf σ x).t = 2 then some ⟨2, 0, !(Qaf σ x).b⟩ else if op = .not ∧ (Qaf σ x).t = 18 then some ⟨18, 0, false⟩ else none
 | .call ⟨.builtin .len, args, tys⟩ => match args.toList with
   | [x] => if tys = #[56] ∧ (Qaf σ x).t = 15 then some ⟨1, 5, false⟩ else none
   | _ => none
 | .buildSlice ty n ps => if ty = 56 ∧ n = 5 ∧ ps.toList.map (·.1) = List.range 5 ∧ ps.toList.map (fun p => ((Qaf σ p.2).t, (Qaf σ p.2).k)) = (List.range 5).map (fun i => (9, ((i : Nat) : Int))) then some ⟨15, 0, false⟩ else none
 | .call ⟨.value (.func f), args, _⟩ => match args.toList with
   | [] => if f = 9 then some ⟨2, 0, true⟩ else none
   | [x] => if f = 19 ∧ (Qaf σ x).t = 10 ∧ M.nil = false then some ⟨14, 0, false⟩ else if f = 21 ∧ (Qaf σ x).t = 9 ∧ M.nil = false then some ⟨1, ((M.n : Nat) : Int), false⟩ else none
   | [x, y] => if f = 20 ∧ (Qaf σ x).t = 12 ∧ (Qaf σ y).t = 14 ∧ M.ex = true ∧ M.nil = false then some ⟨2, 0, true⟩ else if f = 20 ∧ (Qaf σ x).t = 13 ∧ (Qaf σ y).t = 14 ∧ M.nil = false then some ⟨2, 0, true⟩
     else if f = 24 ∧ (Qaf σ x).t = 11 ∧ (Qaf σ y).t = 10 then some ⟨2, 0, true⟩ else none
   | [x, y, z] => if f = 23 ∧ (Qaf σ x).t = 9 ∧ (Qaf σ y).t = 1 ∧ (Qaf σ z).t = 1 ∧ M.nil = false then some ⟨18, 0, false⟩ else none
   | _ => none
 | _ => none
def Qww (σ : Nat → DLV) : Op → Option Prop
 | .indexAddr _ _ i => some (0 ≤ (Qaf σ i).k ∧ (Qaf σ i).k < 5)
 | .binOp op _ x y _ => match Qku op (Qaf σ x).k (Qaf σ y).k with
   | some k => some (-9223372036854775808 ≤ k ∧ k < 9223372036854775808)
   | none => none
 | _ => none
section
variable {M : DLm} {N : Nat} {w : World} {a : Act} {σ : Nat → DLV} {Q : Exit → Act → World → Prop} {dst : Option Tmp} {ty : TypeId} {pos : String} {af : Array Edge} {gd : Option (Nat × Bool)} {x y : Operand}
theorem Qut (h : ∀ d, x ≠ .tmp d) : DLIs M N w (Qwu x) (a.eval x) := by
 unfold Qwu
 split
 ·exact rfl
 ·exact rfl
 ·exact rfl
 ·exact trivial
theorem Qcc (h : ∀ d, x = .tmp d → DLIs M N w (σ d) (a.eval (.tmp d))) : DLIs M N w (Qaf σ x) (a.eval x) := by
 unfold Qaf
 split
 ·exact h _ rfl
 ·rename_i y hy
  exact Qut hy
theorem DLIs.t {z : DLV} {v : Value} {k : Nat} (h : DLIs M N w z v) (ht : z.t = k) : DLIs M N w ⟨k, z.k, z.b⟩ v := by
 rw [← ht]
 exact h
theorem QA6 {op : BinOp} {k l : Int} {b : Bool} (h : Qkt op k l = some b) (yt : TypeId) (hx : a.eval x = .int .i64 k) (hy : a.eval y = .int .i64 l) : (execOp a.eval ⟨dst, .binOp op 38 x y yt, ty, pos, af, gd⟩).run Tryz.prog w = .ok (.value (.bool b)) w := by
 have e : (execOp a.eval ⟨dst, .binOp op 38 x y yt, ty, pos, af, gd⟩).run Tryz.prog w = (do pure (Next.value (← (do eqGuard op 38 x y (a.eval x) (a.eval y); binOp op 38 (a.eval x) (a.eval y)))) : Sem Next).run Tryz.prog w := by kernel_rfl
 rw [e, hx, hy]
 cases op <;> simp only [Qkt, Option.some.injEq, reduceCtorEq] at h <;> subst h <;> exact (show _ = _ by kernel_rfl)
theorem QA7 (yt : TypeId) (hx : a.eval x = .pointer none) (hy : a.eval y = .pointer none) : (execOp a.eval ⟨dst, .binOp .eql 42 x y yt, ty, pos, af, gd⟩).run Tryz.prog w = .ok (.value (.bool true)) w := by
 have e : (execOp a.eval ⟨dst, .binOp .eql 42 x y yt, ty, pos, af, gd⟩).run Tryz.prog w = (do pure (Next.value (← (do eqGuard .eql 42 x y (a.eval x) (a.eval y); binOp .eql 42 (a.eval x) (a.eval y)))) : Sem Next).run Tryz.prog w := by kernel_rfl
 rw [e, hx, hy]
 exact (show _ = _ by kernel_rfl)
theorem QA8 {p : Option Addr} {n c : Nat} (hx : a.eval x = .slice p n c) : (execOp a.eval ⟨dst, .call ⟨.builtin .len, #[x], #[56]⟩, ty, pos, af, gd⟩).run Tryz.prog w = .ok (.value (.int .i64 ((n : Nat) : Int))) w := by
 generalize a.eval = q at *
 go_simp
theorem QG2 : (execOp a.eval ⟨dst, .alloc 53, ty, pos, af, gd⟩).run Tryz.prog w = .ok (.value (pv w.heap.size)) (w.alloc (.cells Qqp 53)) := by kernel_rfl
theorem QG3 (s n c : Nat) (k : Int) (w : World) (h0 : 0 ≤ k) (h1 : k < ((n : Nat) : Int)) : (Instr.indexAt 56 (.slice (some ⟨s, 0, none⟩) n c) (.int .i64 k)).run Tryz.prog w = .ok (.pointer (some ⟨s, k.toNat, none⟩)) w := by
 go_simp
theorem QF3 (ks : Nat → Nat) (W : World) : (Instr.buildSlice 56 5 (List.zip (List.range 5) ((List.range 5).map (fun i => pv (ks i)))).toArray).run Tryz.prog W = .ok (.slice (some ⟨W.heap.size, 0, none⟩) 5 5) (W.alloc (.cells (fcC ks) 42)) := by kernel_rfl
theorem Qwx {f : Nat} {tys : Array TypeId} (h : ∀ w, (callFunc f #[]).run Tryz.prog w = .ok (.enter f #[]) w) : (execOp a.eval ⟨dst, .call ⟨.value (.func f), #[], tys⟩, ty, pos, af, gd⟩).run Tryz.prog w = .ok (.enter f #[]) w := by
 have e : (execOp a.eval ⟨dst, .call ⟨.value (.func f), #[], tys⟩, ty, pos, af, gd⟩).run Tryz.prog w = (callFunc f #[]).run Tryz.prog w := by kernel_rfl
 rw [e]
 exact h w
theorem Qyy {f : Nat} {z s : Operand} {tys : Array TypeId} {u1 u2 u3 u4 : Value} (h1 : a.eval x = u1) (h2 : a.eval y = u2) (h3 : a.eval z = u3) (h4 : a.eval s = u4) (h : ∀ w, (callFunc f #[u1, u2, u3, u4]).run Tryz.prog w = .ok (.enter f #[u1, u2, u3, u4]) w) : (execOp a.eval ⟨dst, .call ⟨.value (.func f), #[x, y, z, s], tys⟩, ty, pos, af, gd⟩).run Tryz.prog w = .ok (.enter f #[u1, u2, u3, u4]) w := by
 have e : (execOp a.eval ⟨dst, .call ⟨.value (.func f), #[x, y, z, s], tys⟩, ty, pos, af, gd⟩).run Tryz.prog w = (callFunc f #[a.eval x, a.eval y, a.eval z, a.eval s]).run Tryz.prog w := by kernel_rfl
 rw [e, h1, h2, h3, h4]
 exact h w
theorem QDr (w : World) : (callFunc 9 #[]).run Tryz.prog w = .ok (.enter 9 #[]) w := by kernel_rfl
theorem QG4 (u : Value) (w : World) : (callFunc 19 #[u]).run Tryz.prog w = .ok (.enter 19 #[u]) w := by kernel_rfl
theorem QG5 (u : Value) (w : World) : (callFunc 21 #[u]).run Tryz.prog w = .ok (.enter 21 #[u]) w := by kernel_rfl
theorem Quu (u v : Value) (w : World) : (callFunc 20 #[u, v]).run Tryz.prog w = .ok (.enter 20 #[u, v]) w := by kernel_rfl
theorem QDs (u v : Value) (w : World) : (callFunc 24 #[u, v]).run Tryz.prog w = .ok (.enter 24 #[u, v]) w := by kernel_rfl
theorem QG6 (u v s : Value) (w : World) : (callFunc 23 #[u, v, s]).run Tryz.prog w = .ok (.enter 23 #[u, v, s]) w := by kernel_rfl
theorem QG7 (u v s r : Value) (w : World) : (callFunc 22 #[u, v, s, r]).run Tryz.prog w = .ok (.enter 22 #[u, v, s, r]) w := by kernel_rfl
theorem QG8 {g : Gr} (i : Nat) (hi : i < 5) : [RL g 0, RL g 1, RL g 2, RL g 3, RL g 4][i]? = some (RL g i) := by
 match i, hi with
 | 0, _ => rfl
 | 1, _ => rfl
 | 2, _ => rfl
 | 3, _ => rfl
 | 4, _ => rfl
 | n + 5, h => omega
theorem Qr8 (ks ls : Nat → Nat) {v : Value} (hn : M.n ≤ 256) (hw : Wf M.g true) (hT : Tab w) (hr : ∀ i, i < 5 → IsRel w (ks i) (ls i) (RL M.g i)) (hv : FcA w M.n v (fcQ M.g)) : Calls Tryz.prog 20 #[.agg (fcC ks), v] w fun e w' => e = .returned (.bool true) ∧ Below w.heap.size w w' := by
 obtain ⟨qs, rfl, h2, h3⟩ := hv
 have hl : qs.length = 5 := by have := congrArg List.length h2; rw [List.length_map] at this; rw [this]; rfl
 refine Qos M.n ks qs w hn hl hT (fun i q hi hq => ⟨ls i, ?_, h3 q (List.mem_of_getElem? hq)⟩)
 have e : (fcQ M.g)[i]? = some q.2.2.2 := by rw [← h2, List.getElem?_map, hq]; rfl
 have e2 : (fcQ M.g)[i]? = some (RL M.g i) := by rw [QF0 hn hw]; exact QG8 i hi
 rw [e] at e2
 rw [Option.some.inj e2]
 exact hr i hi
def Qyz (M : DLm) (N : Nat) (a : Act) (w : World) (d : Option Tmp) (av : DLV) : Act → World → Prop := fun a' w' => ∃ v, a' = a.put d v ∧ DLIs M N w' av v ∧ Below w.heap.size w w'
theorem Qh8 {f : FuncId} {args : Array Value} (D : Calls Tryz.prog f args w fun r w' => r = .returned (.bool true) ∧ Below w.heap.size w w') : Calls Tryz.prog f args w (fun e w'' => ∃ v, e = .returned v ∧ Qyz M N a w dst ⟨2, 0, true⟩ (a.put dst v) w'') :=
 D.mono fun _ _ ⟨h1, h2⟩ => ⟨_, h1, _, rfl, rfl, h2⟩
theorem QDt (hG : LGG M w) (hN : N ≤ w.heap.size) {o : Oper} {av : DLV} (h : Qwv M σ o.op = some av) (hp : ∀ p, Qww σ o.op = some p → p) (hx : ∀ d ∈ Qb9 o.op.operands.toList, DLIs M N w (σ d) (a.eval (.tmp d))) : o.wp Tryz.prog a w (Qyz M N a w o.dst av) Q := by
 obtain ⟨dst, op, ty, pos, af, gd⟩ := o
 dsimp only at h hp hx ⊢
 have hB := Below.refl w.heap.size w
 have hT := hG.tab.step' hG.low
 unfold Qwv at h
 split at h
 ·rename_i t x f
  have hi := Qcc (x := x) (fun d e => hx d (Qae.2 (by simp [Op.operands, e])))
  by_cases c1 : t = 44 ∧ (Qaf σ x).t = 5 ∧ f < 5
  ·rw [if_pos c1] at h; cases h
   obtain ⟨rfl, c, hf⟩ := c1
   have e : a.eval x = pv M.fa := hi.t c
   exact Qb5 (s := Instr.fieldAt 44 (a.eval x) f) rfl (by rw [e]; exact Qyx _ _ hf) ⟨_, rfl, rfl, hB⟩
  rw [if_neg c1] at h; cases h
 ·rename_i t x
  have hi := Qcc (x := x) (fun d e => hx d (Qae.2 (by simp [Op.operands, e])))
  by_cases c1 : t = 42 ∧ (Qaf σ x).t = 8 ∧ (Qaf σ x).k.toNat < 5
  ·rw [if_pos c1] at h
   obtain ⟨rfl, c, hk⟩ := c1
   have e : a.eval x = .pointer (some ⟨M.fa, (Qaf σ x).k.toNat, none⟩) := hi.t c
   cases hnl : M.nil
   ·rw [hnl] at h; cases h
    have hc : M.ca[(Qaf σ x).k.toNat]? = some (pv (M.ka (Qaf σ x).k.toNat)) := by unfold DLm.ca; rw [hnl]; exact Qr7 _ hk
    exact Qb5 (s := Instr.loadAt 42 (a.eval x)) rfl (by rw [e]; exact Qhi _ _ _ _ (hG.fa.cell hc)) ⟨_, rfl, ⟨rfl, hk⟩, hB⟩
   ·rw [hnl] at h; cases h
    have hc : M.ca[(Qaf σ x).k.toNat]? = some (.pointer none) := by
     unfold DLm.ca
     rw [hnl]
     generalize (Qaf σ x).k.toNat = k at *
     match k, hk with
     | 0, _ => rfl
     | 1, _ => rfl
     | 2, _ => rfl
     | 3, _ => rfl
     | 4, _ => rfl
     | n + 5, h => omega
    exact Qb5 (s := Instr.loadAt 42 (a.eval x)) rfl (by rw [e]; exact Qhi _ _ _ _ (hG.fa.cell hc)) ⟨_, rfl, rfl, hB⟩
  rw [if_neg c1] at h
  by_cases c2 : t = 42 ∧ (Qaf σ x).t = 17
  ·rw [if_pos c2] at h; cases h
   obtain ⟨rfl, c⟩ := c2
   obtain ⟨hk, s, e, hs⟩ : (Qaf σ x).k.toNat < 5 ∧ ∃ s, a.eval x = .pointer (some ⟨s, (Qaf σ x).k.toNat, none⟩) ∧ Blk w s 42 (fcC M.ka) := hi.t c
   exact Qb5 (s := Instr.loadAt 42 (a.eval x)) rfl (by rw [e]; exact Qhi _ _ _ _ (hs.cell (Qr7 _ hk))) ⟨_, rfl, ⟨rfl, hk⟩, hB⟩
  rw [if_neg c2] at h
  by_cases c3 : t = 27 ∧ (Qaf σ x).t = 3
  ·rw [if_pos c3] at h; cases h
   obtain ⟨rfl, c⟩ := c3
   have e : a.eval x = pv M.gb := hi.t c
   exact Qaz (Qsj e (hG.bx.of_below hG.low)) ⟨_, rfl, rfl, hB⟩
  rw [if_neg c3] at h
  by_cases c4 : t = 27 ∧ (Qaf σ x).t = 4
  ·rw [if_pos c4] at h; cases h
   obtain ⟨rfl, c⟩ := c4
   have e : a.eval x = pv M.nb := hi.t c
   exact Qaz (Qsj e (hG.bu.of_below hG.low)) ⟨_, rfl, rfl, hB⟩
  rw [if_neg c4] at h
  by_cases c5 : t = 44 ∧ (Qaf σ x).t = 5
  ·rw [if_pos c5] at h; cases h
   obtain ⟨rfl, c⟩ := c5
   have e : a.eval x = pv M.fa := hi.t c
   have hs : (Tryz.prog.info? 44).map (·.size) = some M.ca.size := by unfold DLm.ca; cases M.nil <;> exact (show _ = _ by kernel_rfl)
   exact wp_load_row (o := ⟨dst, .load 44 x, ty, pos, af, gd⟩) 44 x rfl M.fa e 44 M.ca (0, 0) _ hG.fa Tryz.underlying44 rfl hs ⟨_, rfl, rfl, hB⟩
  rw [if_neg c5] at h
  by_cases c6 : t = 44 ∧ (Qaf σ x).t = 6
  ·rw [if_pos c6] at h; cases h
   obtain ⟨rfl, c⟩ := c6
   have e : a.eval x = pv M.fb := hi.t c
   have hs : (Tryz.prog.info? 44).map (·.size) = some M.cb.size := by unfold DLm.cb; cases M.nil <;> exact (show _ = _ by kernel_rfl)
   exact wp_load_row (o := ⟨dst, .load 44 x, ty, pos, af, gd⟩) 44 x rfl M.fb e 44 M.cb (0, 0) _ hG.fb Tryz.underlying44 rfl hs ⟨_, rfl, rfl, hB⟩
  rw [if_neg c6] at h
  by_cases c7 : t = 53 ∧ (Qaf σ x).t = 7
  ·rw [if_pos c7] at h; cases h
   obtain ⟨rfl, c⟩ := c7
   obtain ⟨b, cs, e, hb, hf⟩ : ∃ b cs, a.eval x = pv b ∧ Blk w b 53 cs ∧ FcA w M.n (.agg cs) (fcQ M.g) := hi.t c
   have hf' := hf
   obtain ⟨qs, e2, h2, -⟩ := hf'
   have hs : cs.size = 10 := by
    have hl : qs.length = 5 := by have := congrArg List.length h2; rw [List.length_map] at this; rw [this]; rfl
    cases e2
    rw [List.size_toArray, Qlc, hl]
   exact wp_load_row (o := ⟨dst, .load 53 x, ty, pos, af, gd⟩) 53 x rfl b e 53 cs (0, 0) _ hb Tryz.underlying53 rfl (by rw [hs]; kernel_rfl) ⟨_, rfl, hf, hB⟩
  rw [if_neg c7] at h; cases h
 ·rename_i t
  by_cases c : t = 53
  ·subst c
   rw [if_pos rfl] at h; cases h
   exact Qaz QG2 ⟨_, rfl, ⟨_, rfl, hN, Blk.new w _ _⟩, hB.alloc (Nat.le_refl _) _⟩
  rw [if_neg c] at h; cases h
 ·rename_i t x i
  have hi := Qcc (x := x) (fun d e => hx d (Qae.2 (by simp [Op.operands, e])))
  have hj := Qcc (x := i) (fun d e => hx d (Qae.2 (by simp [Op.operands, e])))
  by_cases c1 : t = 56 ∧ (Qaf σ x).t = 15 ∧ (Qaf σ i).t = 1
  ·rw [if_pos c1] at h; cases h
   obtain ⟨rfl, c, d⟩ := c1
   obtain ⟨s, e, hs⟩ : ∃ s, a.eval x = .slice (some ⟨s, 0, none⟩) 5 5 ∧ Blk w s 42 (fcC M.ka) := hi.t c
   have e2 : a.eval i = .int .i64 (Qaf σ i).k := hj.t d
   obtain ⟨q0, q1⟩ : 0 ≤ (Qaf σ i).k ∧ (Qaf σ i).k < 5 := hp _ rfl
   exact Qb5 (s := Instr.indexAt 56 (a.eval x) (a.eval i)) rfl (by rw [e, e2]; exact QG3 _ _ _ _ _ q0 q1) ⟨_, rfl, ⟨by show (Qaf σ i).k.toNat < 5; omega, s, rfl, hs⟩, hB⟩
  rw [if_neg c1] at h; cases h
 ·rename_i op t x y yt
  have hi := Qcc (x := x) (fun d e => hx d (Qae.2 (by simp [Op.operands, e])))
  have hj := Qcc (x := y) (fun d e => hx d (Qae.2 (by simp [Op.operands, e])))
  by_cases c : (t = 3 ∨ t = 38) ∧ (Qaf σ x).t = 1 ∧ (Qaf σ y).t = 1
  ·rw [if_pos c] at h
   obtain ⟨ct, c1, c2⟩ := c
   have e : a.eval x = .int .i64 (Qaf σ x).k := hi.t c1
   have e2 : a.eval y = .int .i64 (Qaf σ y).k := hj.t c2
   cases hc : Qkt op (Qaf σ x).k (Qaf σ y).k with
   | some b =>
    rw [hc] at h; cases h
    rcases ct with rfl | rfl
    ·exact Qaz (Qu0 hc yt e e2) ⟨_, rfl, rfl, hB⟩
    ·exact Qaz (QA6 hc yt e e2) ⟨_, rfl, rfl, hB⟩
   | none =>
    rw [hc] at h
    cases ha : Qku op (Qaf σ x).k (Qaf σ y).k with
    | none => rw [ha] at h; cases h
    | some k =>
     rw [ha] at h
     dsimp only at h
     by_cases ct2 : t = 3
     ·rw [if_pos ct2] at h; cases h
      subst ct2
      exact Qaz (Qu1 ha yt (hp _ (by unfold Qww; dsimp only; rw [ha])) e e2) ⟨_, rfl, rfl, hB⟩
     ·rw [if_neg ct2] at h; cases h
  rw [if_neg c] at h
  by_cases c2 : t = 42 ∧ op = .eql ∧ (Qaf σ x).t = 19 ∧ (Qaf σ y).t = 19
  ·rw [if_pos c2] at h; cases h
   obtain ⟨rfl, rfl, c3, c4⟩ := c2
   have e : a.eval x = .pointer none := hi.t c3
   have e2 : a.eval y = .pointer none := hj.t c4
   exact Qaz (QA7 yt e e2) ⟨_, rfl, rfl, hB⟩
  ·rw [if_neg c2] at h; cases h
 ·rename_i op t x
  have hi := Qcc (x := x) (fun d e => hx d (Qae.2 (by simp [Op.operands, e])))
  by_cases c : op = .not ∧ (Qaf σ x).t = 2
  ·rw [if_pos c] at h; cases h
   obtain ⟨rfl, c⟩ := c
   have e : a.eval x = .bool (Qaf σ x).b := hi.t c
   exact Qaz (Qoz t e) ⟨_, rfl, rfl, hB⟩
  rw [if_neg c] at h
  by_cases c2 : op = .not ∧ (Qaf σ x).t = 18
  ·rw [if_pos c2] at h; cases h
   obtain ⟨rfl, c2⟩ := c2
   obtain ⟨b, e⟩ : ∃ b, a.eval x = .bool b := hi.t c2
   exact Qaz (Qoz t e) ⟨_, rfl, ⟨_, rfl⟩, hB⟩
  ·rw [if_neg c2] at h; cases h
 ·rename_i args tys
  obtain ⟨l⟩ := args
  match l, h, hx with
  | [], h, _ => cases h
  | [x], h, hx =>
   have hi := Qcc (x := x) (fun d e => hx d (Qae.2 (by simp [Op.operands, Call.operands, e])))
   dsimp only at h
   by_cases c1 : tys = #[56] ∧ (Qaf σ x).t = 15
   ·rw [if_pos c1] at h; cases h
    obtain ⟨rfl, c1⟩ := c1
    obtain ⟨s, e, -⟩ : ∃ s, a.eval x = .slice (some ⟨s, 0, none⟩) 5 5 ∧ Blk w s 42 (fcC M.ka) := hi.t c1
    exact Qaz (QA8 e) ⟨_, rfl, rfl, hB⟩
   rw [if_neg c1] at h; cases h
  | x :: y :: l, h, _ => cases h
 ·rename_i t n ps
  by_cases c : t = 56 ∧ n = 5 ∧ ps.toList.map (·.1) = List.range 5 ∧ ps.toList.map (fun p => ((Qaf σ p.2).t, (Qaf σ p.2).k)) = (List.range 5).map (fun i => (9, ((i : Nat) : Int)))
  ·rw [if_pos c] at h; cases h
   obtain ⟨rfl, rfl, c1, c2⟩ := c
   have h1 : ps.toList.map (fun p => a.eval p.2) = (List.range 5).map (fun i => pv (M.ka i)) := by
    have key : ∀ p ∈ ps.toList, a.eval p.2 = pv (M.ka (Qaf σ p.2).k.toNat) := fun p hp => by
     have hm : ((Qaf σ p.2).t, (Qaf σ p.2).k) ∈ (List.range 5).map (fun i => (9, ((i : Nat) : Int))) := by rw [← c2]; exact List.mem_map.2 ⟨p, hp, rfl⟩
     obtain ⟨i, -, e⟩ := List.mem_map.1 hm
     have ht : (Qaf σ p.2).t = 9 := (congrArg Prod.fst e).symm
     exact ((Qcc (M := M) (N := N) (x := p.2) (fun d e => hx d (Qae.2 (by simp [Op.operands]; exact ⟨p.1, by rw [← e]; exact Array.mem_toList_iff.1 hp⟩)))).t ht).1
    rw [List.map_congr_left key]
    have := congrArg (List.map (fun q : Nat × Int => pv (M.ka q.2.toNat))) c2
    rw [List.map_map, List.map_map] at this
    exact this
   exact Qkl c1 h1 (QF3 M.ka w) ⟨_, rfl, ⟨w.heap.size, rfl, Blk.new w _ _⟩, hB.alloc (Nat.le_refl _) _⟩
  ·rw [if_neg c] at h; cases h
 ·rename_i f args tys
  obtain ⟨l⟩ := args
  match l, h, hx with
  | [], h, _ =>
   dsimp only at h
   by_cases c : f = 9
   ·subst c; rw [if_pos rfl] at h; cases h
    exact Qal (Qwx QDr) (Qh8 (Qo3 w (hG.frm.step hG.low) hT))
   ·rw [if_neg c] at h; cases h
  | [x], h, hx =>
   have h1 := Qcc (x := x) (fun d e => hx d (Qae.2 (by simp [Op.operands, Call.operands, e])))
   dsimp only at h
   by_cases c : f = 19 ∧ (Qaf σ x).t = 10 ∧ M.nil = false
   ·rw [if_pos c] at h; cases h
    obtain ⟨rfl, c1, c2⟩ := c
    have e1 : a.eval x = M.V.val M.g := h1.t c1
    refine Qal (Qb6 e1 QG4) ((Qng M.V M.g w (hG.gr.below hG.low) (hG.hn c2) (hG.wf c2)).mono ?_)
    rintro e w' ⟨v, rfl, hv, hb⟩
    exact ⟨v, rfl, v, rfl, hv, hb⟩
   rw [if_neg c] at h
   by_cases c : f = 21 ∧ (Qaf σ x).t = 9 ∧ M.nil = false
   ·rw [if_pos c] at h; cases h
    obtain ⟨rfl, c1, c2⟩ := c
    obtain ⟨e1, hk⟩ : a.eval x = pv (M.ka (Qaf σ x).k.toNat) ∧ (Qaf σ x).k.toNat < 5 := h1.t c1
    obtain ⟨⟨L, hr, hl, -⟩, -⟩ := hG.ra c2 _ hk
    refine Qal (Qb6 e1 QG5) ((Qh5 _ _ L w hr).mono ?_)
    rintro e w' ⟨rfl, rfl⟩
    exact ⟨_, rfl, _, rfl, by rw [hl]; rfl, hB⟩
   rw [if_neg c] at h; cases h
  | [x, y], h, hx =>
   have h1 := Qcc (x := x) (fun d e => hx d (Qae.2 (by simp [Op.operands, Call.operands, e])))
   have h2 := Qcc (x := y) (fun d e => hx d (Qae.2 (by simp [Op.operands, Call.operands, e])))
   dsimp only at h
   by_cases c : f = 20 ∧ (Qaf σ x).t = 12 ∧ (Qaf σ y).t = 14 ∧ M.ex = true ∧ M.nil = false
   ·rw [if_pos c] at h; cases h
    obtain ⟨rfl, c1, c2, c3, c4⟩ := c
    have e1 : a.eval x = .agg M.ca := h1.t c1
    rw [DLm.ca, c4] at e1
    have e2 : FcA w M.n (a.eval y) (fcQ M.g) := h2.t c2
    refine Qal (Qbc e1 rfl Quu) (Qh8 (Qr8 M.ka M.la (hG.hn c4) (hG.wf c4) hT (fun i hi => ?_) e2))
    obtain ⟨⟨L, hr, -, hl⟩, -⟩ := hG.ra c4 i hi
    rw [hl c3] at hr
    exact hr
   rw [if_neg c] at h
   by_cases c : f = 20 ∧ (Qaf σ x).t = 13 ∧ (Qaf σ y).t = 14 ∧ M.nil = false
   ·rw [if_pos c] at h; cases h
    obtain ⟨rfl, c1, c2, c4⟩ := c
    have e1 : a.eval x = .agg M.cb := h1.t c1
    rw [DLm.cb, c4] at e1
    have e2 : FcA w M.n (a.eval y) (fcQ M.g) := h2.t c2
    exact Qal (Qbc e1 rfl Quu) (Qh8 (Qr8 M.kb M.lb (hG.hn c4) (hG.wf c4) hT (fun i hi => (hG.rb c4 i hi).1) e2))
   rw [if_neg c] at h
   by_cases c : f = 24 ∧ (Qaf σ x).t = 11 ∧ (Qaf σ y).t = 10
   ·rw [if_pos c] at h; cases h
    obtain ⟨rfl, c1, c2⟩ := c
    have e1 : a.eval x = M.U.val M.g := h1.t c1
    have e2 : a.eval y = M.V.val M.g := h2.t c2
    exact Qal (Qbc e1 e2 QDs) (Qh8 (Qqg M.U M.V M.g w (hG.gu.below hG.low) (hG.gr.below hG.low)))
   rw [if_neg c] at h; cases h
  | [x, y, z], h, hx =>
   have h1 := Qcc (x := x) (fun d e => hx d (Qae.2 (by simp [Op.operands, Call.operands, e])))
   have h2 := Qcc (x := y) (fun d e => hx d (Qae.2 (by simp [Op.operands, Call.operands, e])))
   have h3 := Qcc (x := z) (fun d e => hx d (Qae.2 (by simp [Op.operands, Call.operands, e])))
   dsimp only at h
   by_cases c : f = 23 ∧ (Qaf σ x).t = 9 ∧ (Qaf σ y).t = 1 ∧ (Qaf σ z).t = 1 ∧ M.nil = false
   ·rw [if_pos c] at h; cases h
    obtain ⟨rfl, c1, c2, c3, c4⟩ := c
    obtain ⟨e1, hk⟩ : a.eval x = pv (M.ka (Qaf σ x).k.toNat) ∧ (Qaf σ x).k.toNat < 5 := h1.t c1
    have e2 : a.eval y = .int .i64 (Qaf σ y).k := h2.t c2
    have e3 : a.eval z = .int .i64 (Qaf σ z).k := h3.t c3
    obtain ⟨⟨L, hr, -, -⟩, -⟩ := hG.ra c4 _ hk
    refine Qal (Qid e1 e2 e3 QG6) ((Qpp _ _ L _ _ w hr).mono ?_)
    rintro e w' ⟨rfl, hb⟩
    exact ⟨_, rfl, _, rfl, ⟨_, rfl⟩, hb⟩
   ·rw [if_neg c] at h; cases h
  | x :: y :: z :: s :: l, h, _ => cases h
 ·cases h
end
def DlE (M : DLm) : Eng Tryz.prog DLV where
 Is := DLIs M
 G := LGG M
 isNo x := x.t == 0
 nw x := x.t == 16
 isB x := x.t == 2
 bv x := x.b
 con := Qwu
 pk b x y := if x.t = 2 ∧ y.t = 2 then some ⟨2, 0, if b then x.b else y.b⟩ else none
 opR := Qwv M
 pre := Qww
 mono := DLIs.mono
 gmono := LGG.mono
 any := fun {_ _ x _} h => by
  obtain ⟨t, k, b⟩ := x
  have : t = 0 := by simpa using h
  subst this
  exact trivial
 chg := fun {_ _ _ x _} h hi => by
  obtain ⟨t, k, b⟩ := x
  unfold DLIs at hi ⊢
  dsimp only at hi ⊢
  split at hi
  case h_16 => simp at h
  all_goals exact hi
 bool := fun {N w x v} h hi => (show DLIs M N w x v from hi).t (k := 2) (by simpa using h)
 conOk := Qut
 pkOk := fun {N w b x y z v} h hi => by
  by_cases c : x.t = 2 ∧ y.t = 2
  ·rw [if_pos c] at h; cases h
   cases b
   ·exact (show DLIs M N w y v from hi).t c.2
   ·exact (show DLIs M N w x v from hi).t c.1
  ·rw [if_neg c] at h; cases h
 ok := fun hG hN h hp hx => QDt hG hN h hp hx
set_option maxRecDepth 100000
section
variable {M : DLm} {T : Nat} {w0 w w' : World} {σ : Nat → DLV} {ops : Array Oper} {Q : Exit → Act → World → Prop} {id : Nat} {b : Bool}
theorem RefM.touchT {lo m n : Nat} {M : Value} {k : Nat} {rb : Nat → Nat} {F : Nat → Nat → Bool} {t : TypeId} {cs : Array Value} (h : RefM lo w M k n rb F) (hb : Blk w m t cs) (h1 : 4 ≠ t) (h2 : 65 ≠ t) (ht : Touch m w w') : RefM lo w' M k n rb F := by
 refine ⟨?_, fun p hp => ⟨(h.row p hp).1, (h.row p hp).2.touch ht (Qaq (h.row p hp).2 hb h1)⟩, h.apart, h.inj⟩
 obtain ⟨h3, h4⟩ := h.own
 refine ⟨h3, ?_⟩
 rcases h4 with h4 | ⟨g, cap, cur, e1, e2, e3, e4⟩
 ·exact .inl h4
 ·have hk : Blk w g 65 cur := e3
  exact .inr ⟨g, cap, cur, e1, e2, hk.touch ht (Qaq hk hb h2), e4⟩
theorem FcA.touchT {m n : Nat} {v : Value} {l : List (List Nat)} {t : TypeId} {cs : Array Value} (h : FcA w n v l) (hb : Blk w m t cs) (h1 : 4 ≠ t) (h2 : 65 ≠ t) (ht : Touch m w w') : FcA w' n v l := by
 obtain ⟨qs, e, h3, h4⟩ := h
 refine ⟨qs, e, h3, fun q hq => ?_⟩
 obtain ⟨x, y, z, rb, F, e, k1, k2⟩ := h4 q hq
 exact ⟨x, y, z, rb, F, e, k1.touchT hb h1 h2 ht, k2⟩
theorem QF4 (n d k : Nat) (hs : ops.size = n + 1) (hok : okR ops n (n + 1) T = true) (hC : (DlE M).sucT ops (ops.toList.take n) σ = true) (hV : (DlE M).vcT ops ((DlE M).goT (ops.toList.take n) σ) (ops.toList.take n) (gds ops) σ)
  (hL : ∃ ol, ops[n]? = some ol ∧ ol.guard = none ∧ ol.dst = none ∧ ol.op = .store 53 (.tmp d) (.tmp k)) (hW : Qh1 ops n = true)
  (hd : (DlE M).goT (ops.toList.take n) σ d = ⟨16, 0, false⟩) (hk : (DlE M).goT (ops.toList.take n) σ k = ⟨14, 0, false⟩) (hσ : Qh2 (DlE M).isNo ops n [(d, ⟨7, 0, false⟩)] σ = true)
  (fin : ∀ a w, (DlE M).Ga T w0 (Qas σ [(d, ⟨7, 0, false⟩)]) a w → Q .normal a w) : ∀ a w, (DlE M).Ga T w0 σ a w → (Code.region id ops b).wp Tryz.prog Q a w := by
 intro a1 w1 h1
 obtain ⟨ol, k1, k2, k3, k4⟩ := hL
 refine Eng.reg_last (by kernel_rfl) n hs hok hC hV k1 k2 hW (fun c x y e => by rw [k4] at e; cases e) h1 (fun L' a w hM _ hops => ?_)
 have vd : DLIs M w1.heap.size w ((DlE M).goT (ops.toList.take n) σ d) (a.eval (.tmp d)) := hops d (Qae.2 (by rw [k4]; simp [Op.operands]))
 have vk : DLIs M w1.heap.size w ((DlE M).goT (ops.toList.take n) σ k) (a.eval (.tmp k)) := hops k (Qae.2 (by rw [k4]; simp [Op.operands]))
 rw [hd] at vd
 rw [hk] at vk
 obtain ⟨m, vd, hN, hB⟩ : ∃ b, a.eval (.tmp d) = pv b ∧ w1.heap.size ≤ b ∧ Blk w b 53 Qqp := vd
 have vk : FcA w M.n (a.eval (.tmp k)) (fcQ M.g) := vk
 have vk' := vk
 obtain ⟨qs, he, hq1, hq2⟩ := vk'
 have hl : qs.length = 5 := by have := congrArg List.length hq1; rw [List.length_map] at this; rw [this]; rfl
 have hsz : (rvC ((M.n : Nat) : Int) qs).toArray.size = 10 := by rw [List.size_toArray, Qlc, hl]
 have hinf : (Tryz.prog.info? 53).map (·.size) = some 10 := by kernel_rfl
 have ht := Touch.rowQ w m (rvC ((M.n : Nat) : Int) qs).toArray
 have hb : Below w1.heap.size w1 (w.setRow m (rvC ((M.n : Nat) : Int) qs).toArray) := hM.low.trans (ht.below hN hM.low.size)
 have hz := hB.setRow' (rvC ((M.n : Nat) : Int) qs).toArray
 refine wp_store_row 53 (.tmp d) (.tmp k) k4 m _ vd he 53 Qqp hB (by rw [hsz]; exact hinf) (by rw [hsz]; rfl) (by rw [List.all_toArray]; exact Qon qs) ?_
 rw [k3]
 refine fin _ _ ⟨h1.low.trans (hb.mono h1.low.size), LGG.mono h1.g hb, fun x => ?_, fun x => ?_, hM.sz, hM.df⟩
 ·show DLIs M 0 _ (Qas σ [(d, ⟨7, 0, false⟩)] x) (a.eval (.tmp x))
  rcases Qbm (σ := σ) (ks := [(d, ⟨7, 0, false⟩)]) (x := x) with ⟨q, h2, rfl, h4⟩ | ⟨h2, h3⟩
  ·obtain rfl := List.mem_singleton.1 h2
   rw [h4, vd]
   refine ⟨m, _, rfl, hz, ?_⟩
   rw [← he]
   exact vk.touchT hB (by decide) (by decide) ht
  ·rw [h3]
   by_cases hw : ∃ j, j < n ∧ Qbi ops j = some x
   ·obtain ⟨i, hi, hd⟩ := hw
    exact (DlE M).any (Qhn hσ hi hd h2)
   ·rw [hM.rest x (fun i hi _ hd => hw ⟨i, hi, hd⟩)]
    exact DLIs.mono (h1.is x) hb
 ·rcases Qbm (σ := σ) (ks := [(d, ⟨7, 0, false⟩)]) (x := x) with ⟨q, h2, rfl, h4⟩ | ⟨h2, h3⟩
  ·obtain rfl := List.mem_singleton.1 h2
   rw [h4]
   rfl
  ·rw [h3]
   exact h1.nw x
theorem DLIs.touch {x : DLV} {v : Value} {c : Nat} {rows : Array Value} (h : DLIs M 0 w x v) (hx : (x.t == 16) = false) (hr : Blk w c 102 rows) (ht : Touch c w w') : DLIs M 0 w' x v := by
 obtain ⟨t, k, b⟩ := x
 unfold DLIs at h ⊢
 dsimp only at h ⊢
 split at h
 case h_7 => obtain ⟨b, cs, h1, h2, h3⟩ := h; exact ⟨b, cs, h1, h2.touch ht (Qaq h2 hr (by decide)), h3.touchT hr (by decide) (by decide) ht⟩
 case h_14 => exact FcA.touchT h hr (by decide) (by decide) ht
 case h_15 => obtain ⟨s, h1, h2⟩ := h; exact ⟨s, h1, h2.touch ht (Qaq h2 hr (by decide))⟩
 case h_16 => simp at hx
 case h_17 => obtain ⟨h0, s, h1, h2⟩ := h; exact ⟨h0, s, h1, h2.touch ht (Qaq h2 hr (by decide))⟩
 all_goals exact h
theorem LGG.put (h : LGG M w) (hnl : M.nil = false) (hex : M.ex = false) {k : Nat} (hk : k < 5) {L : List Nat} (hr : IsRel w (M.ka k) (M.la k) L) {L' : List Nat} (hr' : IsRel w' (M.ka k) (M.la k) L') (hl : L'.length = M.n) (ht : Touch (M.la k) w w') : LGG M w' := by
 obtain ⟨-, hW, hm⟩ := h.ra hnl k hk
 refine { h with low := h.low.trans (ht.below hW h.low.size), fa := h.fa.touch ht (Qaq h.fa hr.rows (by decide)), fb := h.fb.touch ht (Qaq h.fb hr.rows (by decide)), ra := fun e i hi => ?_, rb := fun e i hi => ?_ }
 ·obtain ⟨⟨Li, h1, h2, h3⟩, h4⟩ := h.ra e i hi
  refine ⟨?_, h4⟩
  by_cases el : M.la i = M.la k
  ·refine ⟨L', ⟨h1.ne, ?_, ?_, hr'.len, hr'.low⟩, hl, fun e => by rw [hex] at e; cases e⟩
   ·have := h1.head.touch ht (Qaq h1.head hr.rows (by decide))
    rw [h2, ← hl] at this
    exact this
   ·rw [el]
    exact hr'.rows
  ·exact ⟨Li, h1.touch ht (Qaq h1.head hr.rows (by decide)) el, h2, fun e => by rw [hex] at e; cases e⟩
 ·obtain ⟨h1, h2, h3⟩ := h.rb e i hi
  exact ⟨h1.touch ht (by omega) (by omega), h2, h3⟩
theorem Qy0 (n p1 p2 p3 p4 : Nat) (k p : Int) (hnl : M.nil = false) (hex : M.ex = false) (hw0 : w0.heap.size ≤ M.W.heap.size) (hs : ops.size = n + 1) (hok : okR ops n (n + 1) T = true) (hC : (DlE M).sucT ops (ops.toList.take n) σ = true) (hV : (DlE M).vcT ops ((DlE M).goT (ops.toList.take n) σ) (ops.toList.take n) (gds ops) σ)
  (hL : ∃ ol d tys, ops[n]? = some ol ∧ ol.guard = none ∧ ol.dst = some d ∧ (σ d).t = 0 ∧ d < T ∧ ol.op = .call ⟨.value (.func 22), #[.tmp p1, .tmp p2, .tmp p3, .tmp p4], tys⟩) (hW : Qh1 ops n = true)
  (h1 : (DlE M).goT (ops.toList.take n) σ p1 = ⟨9, k, false⟩) (h2 : (DlE M).goT (ops.toList.take n) σ p2 = ⟨1, p, false⟩) (h3 : (DlE M).goT (ops.toList.take n) σ p3 = ⟨1, p, false⟩) (h4 : (DlE M).goT (ops.toList.take n) σ p4 = ⟨18, 0, false⟩) (hσ : Qh2 (DlE M).isNo ops n [] σ = true)
  (fin : ∀ a w, (DlE M).Ga T w0 σ a w → Q .normal a w) : ∀ a w, (DlE M).Ga T w0 σ a w → (Code.region id ops b).wp Tryz.prog Q a w := by
 intro a1 w1 g1
 obtain ⟨ol, dd, tys, k1, k2, k3, kd, kT, k4⟩ := hL
 refine Eng.reg_last (by kernel_rfl) n hs hok hC hV k1 k2 hW (fun c x y e => by rw [k4] at e; cases e) g1 (fun L' a w hM _ hops => ?_)
 have hop : ∀ d, d ∈ [p1, p2, p3, p4] → DLIs M w1.heap.size w ((DlE M).goT (ops.toList.take n) σ d) (a.eval (.tmp d)) := fun d hd => hops d (Qae.2 (by rw [k4]; simp [Op.operands, Call.operands] at hd ⊢; rcases hd with rfl | rfl | rfl | rfl <;> simp))
 have v1 := hop p1 (by simp)
 have v2 := hop p2 (by simp)
 have v3 := hop p3 (by simp)
 have v4 := hop p4 (by simp)
 rw [h1] at v1
 rw [h2] at v2
 rw [h3] at v3
 rw [h4] at v4
 obtain ⟨v1, hk⟩ : a.eval (.tmp p1) = pv (M.ka k.toNat) ∧ k.toNat < 5 := v1
 have v2 : a.eval (.tmp p2) = .int .i64 p := v2
 have v3 : a.eval (.tmp p3) = .int .i64 p := v3
 obtain ⟨q, v4⟩ : ∃ b, a.eval (.tmp p4) = .bool b := v4
 have hG : LGG M w := LGG.mono g1.g hM.low
 obtain ⟨⟨L, hr, hl, -⟩, hWl, -⟩ := hG.ra hnl _ hk
 obtain ⟨dst, op, ty, pos, af, gd⟩ := ol
 dsimp only at k2 k3 k4
 subst k2 k3 k4
 refine Qal (Qyy v1 v2 v3 v4 (QG7 _ _ _ _)) ((Qdo _ _ L p p q w hr).mono ?_)
 rintro e w' ⟨rfl, hr', ht⟩
 have hlow := g1.low.trans (hM.low.mono g1.low.size)
 refine ⟨_, rfl, fin _ _ ⟨hlow.trans (ht.below (Nat.le_trans hw0 hWl) hlow.size), hG.put hnl hex hk hr hr' (by rw [Qf5]; exact hl) ht, fun x => ?_, g1.nw, by rw [Act.size_put]; exact hM.sz, by rw [Act.defers_put']; exact hM.df⟩⟩
 show DLIs M 0 w' (σ x) _
 by_cases e : x = dd
 ·subst e
  exact (DlE M).any (show ((σ x).t == 0) = true by rw [kd]; rfl)
 ·rw [Act.eval_put_ne a dd x _ (Ne.symm e)]
  by_cases hw : ∃ j, j < n ∧ Qbi ops j = some x
  ·obtain ⟨i, hi, hd⟩ := hw
   exact (DlE M).any (Qhn hσ hi hd (fun p hp => by cases hp))
  ·rw [hM.rest x (fun i hi _ hd => hw ⟨i, hi, hd⟩)]
   exact (DLIs.mono (g1.is x) hM.low).touch (g1.nw x) hr.rows ht
end
end Go.Proofs.YtdkogbfamdnheaaGreatDoor
