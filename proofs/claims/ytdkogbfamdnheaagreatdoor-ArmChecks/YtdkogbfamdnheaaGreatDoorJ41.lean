import Derived.Test.YtdkogbfamdnheaaGreatDoorR8Q
import Derived.Test.YtdkogbfamdnheaaGreatDoorArLE
namespace Go.Proofs.YtdkogbfamdnheaaGreatDoor
open Go.RowKit Go.Shelf Sx
set_option maxRecDepth 100000
set_option maxHeartbeats 16000000
set_option linter.unusedSimpArgs false
set_option linter.unusedVariables false
def FcA (w : World) (n : Nat) (v : Value) (l : List (List Nat)) : Prop := ∃ qs : List (Option Addr × Nat × Nat × List Nat), v = .agg (qs.flatMap (fun q => [Value.int .i64 ((n : Nat) : Int), .slice q.1 q.2.1 q.2.2.1])).toArray ∧ qs.map (fun q => q.2.2.2) = l ∧ ∀ q ∈ qs, RT w n (.agg #[.int .i64 ((n : Nat) : Int), .slice q.1 q.2.1 q.2.2.1]) q.2.2.2
theorem FcA.below {w w' : World} {n : Nat} {v : Value} {l : List (List Nat)} (h : FcA w n v l) (hb : Below w.heap.size w w') : FcA w' n v l := by
 obtain ⟨qs, h1, h2, h3⟩ := h
 exact ⟨qs, h1, h2, fun q hq => (h3 q hq).below hb⟩
structure QV where
 g : GV
 s : Nat
 k : Nat
 b : List Bool
 r : List Nat
 l : List (List Nat)
 i : List Int
def QV.b_ (x : GV) : QV := ⟨x, 0, 0, [], [], [], []⟩
def QV.x (s k : Nat) : QV := ⟨GV.at 0 0, s, k, [], [], [], []⟩
def QV.st (s : Nat) (b : List Bool) : QV := ⟨GV.at 0 0, s, 0, b, [], [], []⟩
def QV.is (i : List Int) : QV := ⟨GV.at 0 0, 5, 0, [], [], [], i⟩
def QV.rl (s : Nat) (r : List Nat) : QV := ⟨GV.at 0 0, s, 0, [], r, [], []⟩
def QV.rs (s : Nat) (l : List (List Nat)) : QV := ⟨GV.at 0 0, s, 0, [], [], l, []⟩
def QV.nu (k : Int) : QV := .b_ (.nu k)
def QV.bo (q : Bool) : QV := .b_ (.bo q)
structure Qm where
 m : Gm
 fb : Nat
 base : Nat
 w1 : World
 ph : Bool
 blk : Nat
 lst : List Bool
 ov : Value
 ol : List Nat
abbrev Qm.n (M : Qm) : Nat := M.m.g.evs.length
def QI0 (M : Qm) (N : Nat) (w : World) (s : Nat) (x : QV) (v : Value) : Prop :=
 match s with
 | 1 => v = .int .i64 (M.n : Int)
 | 4 => SetArg w v x.b ∧ x.b.length = M.n
 | 5 => IntsR w v x.i ∧ x.i.length ≤ 64
 | 6 => RT w M.n v x.r
 | 7 => RsA w M.n v x.l
 | 8 => ∃ b a y z, v = pv b ∧ Blk w b 51 #[.int .i64 (M.n : Int), .slice a y z] ∧ RT w M.n (.agg #[.int .i64 (M.n : Int), .slice a y z]) x.r
 | 9 => ∃ b, v = pv b ∧ N ≤ b ∧ Blk w b 51 #[.int .i64 0, .slice none 0 0]
 | 10 => FcA w M.n v x.l
 | 11 => v = pv M.fb
 | 14 => ∃ b, v = .slice (some ⟨b, 0, none⟩) M.n M.n ∧ N ≤ b ∧ Blk w b 4 (Qap x.b) ∧ x.b.length = M.n
 | 15 => v = .slice (some ⟨M.blk, 0, none⟩) M.n M.n
 | 16 => v = .pointer (some ⟨M.blk, x.k, none⟩) ∧ x.k < M.n
 | 17 => v = .tuple #[.int .i64 (chk M.m.g true).1, .int .i64 (chk M.m.g true).2]
 | 18 => ∃ out, (∀ out2, Qb8 x.r out2 → out = out2) ∧ w.ownsRow M.base 3 1 v out.length (Qcl out)
 | 19 => v = M.ov
 | 20 => ∃ b a y z, v = .pointer (some ⟨b, 1, none⟩) ∧ Blk w b 51 #[.int .i64 (M.n : Int), .slice a y z] ∧ RT w M.n (.agg #[.int .i64 (M.n : Int), .slice a y z]) x.r
 | 21 => ∃ a y z, v = .slice a y z ∧ RT w M.n (.agg #[.int .i64 (M.n : Int), .slice a y z]) x.r
 | 22 => ∃ b o a, v = .pointer (some ⟨b, o, none⟩) ∧ b < w.heap.size ∧ w.cell? ⟨b, o, none⟩ = some (.slice (some ⟨a, 0, none⟩) M.n M.n) ∧ a < w.heap.size ∧ ∀ q, q < M.n → w.cell? ⟨a, q, none⟩ = some (.bool (Qcr x.r (x.k : Int) ((q : Nat) : Int)))
 | 23 => ∃ a, v = .slice (some ⟨a, 0, none⟩) M.n M.n ∧ a < w.heap.size ∧ ∀ q, q < M.n → w.cell? ⟨a, q, none⟩ = some (.bool (Qcr x.r (x.k : Int) ((q : Nat) : Int)))
 | 24 => ∃ b o, v = .pointer (some ⟨b, o, none⟩) ∧ b < w.heap.size ∧ w.cell? ⟨b, o, none⟩ = some (.bool (x.k == 1))
 | 25 => v = .slice none 0 0
 | 26 => w.ownsRow M.base 3 1 v x.i.length (Qam x.i)
 | _ => True
theorem QI0.mono {M : Qm} {N s : Nat} {w w' : World} {x : QV} {v : Value} (h : QI0 M N w s x v) (hb : Below w.heap.size w w') : QI0 M N w' s x v := by
 unfold QI0 at h ⊢
 split at h
 ·exact h
 ·exact ⟨h.1.below hb, h.2⟩
 ·exact ⟨h.1.below hb, h.2⟩
 ·exact h.below hb
 ·exact h.below hb
 ·obtain ⟨b, a, y, z, k1, k2, k3⟩ := h; exact ⟨b, a, y, z, k1, k2.of_below hb, k3.below hb⟩
 ·obtain ⟨b, k1, k2, k3⟩ := h; exact ⟨b, k1, k2, k3.of_below hb⟩
 ·exact h.below hb
 ·exact h
 ·obtain ⟨b, k1, k2, k3, k4⟩ := h; exact ⟨b, k1, k2, k3.of_below hb, k4⟩
 ·exact h
 ·exact h
 ·exact h
 ·obtain ⟨o, k1, k2⟩ := h; exact ⟨o, k1, Qah k2 hb⟩
 ·exact h
 ·obtain ⟨b, a, y, z, k1, k2, k3⟩ := h; exact ⟨b, a, y, z, k1, k2.of_below hb, k3.below hb⟩
 ·obtain ⟨a, y, z, k1, k2⟩ := h; exact ⟨a, y, z, k1, k2.below hb⟩
 ·obtain ⟨b, o, a, k1, k2, k3, k4, k5⟩ := h; exact ⟨b, o, a, k1, Nat.lt_of_lt_of_le k2 hb.size, (hb.cell (p := ⟨b, o, none⟩) k2).trans k3, Nat.lt_of_lt_of_le k4 hb.size, fun q hq => (hb.cell (p := ⟨a, q, none⟩) k4).trans (k5 q hq)⟩
 ·obtain ⟨a, k1, k2, k3⟩ := h; exact ⟨a, k1, Nat.lt_of_lt_of_le k2 hb.size, fun q hq => (hb.cell (p := ⟨a, q, none⟩) k2).trans (k3 q hq)⟩
 ·obtain ⟨b, o, k1, k2, k3⟩ := h; exact ⟨b, o, k1, Nat.lt_of_lt_of_le k2 hb.size, (hb.cell (p := ⟨b, o, none⟩) k2).trans k3⟩
 ·exact h
 ·exact Qah h hb
 ·trivial
def QIs (M : Qm) (N : Nat) (w : World) (x : QV) (v : Value) : Prop := GIs M.m N w x.g v ∧ (if x.s < 100 then QI0 M N w x.s x v else QI0 M 0 M.w1 (x.s - 100) x v)
structure QG (M : Qm) (w : World) : Prop where
 g : GG M.m w
 hB : M.base ≤ w.heap.size
 p : M.ph = true → Below M.w1.heap.size M.w1 w ∧ M.w1.heap.size ≤ M.blk ∧ Blk w M.blk 4 (Qap M.lst) ∧ M.lst.length = M.n
 o : w.ownsRow M.base 3 1 M.ov M.ol.length (Qcl M.ol)
theorem QG.mono {M : Qm} {w w' : World} (h : QG M w) (hb : Below w.heap.size w w') : QG M w' :=
 ⟨h.g.mono hb, Nat.le_trans h.hB hb.size, fun e => ⟨Qaa (h.p e).1 (h.p e).1.size hb, (h.p e).2.1, (h.p e).2.2.1.of_below hb, (h.p e).2.2.2⟩, Qah h.o hb⟩
def qvA (σ : Nat → QV) : Operand → QV
 | .tmp d => σ d
 | x => .b_ (Qny x)
def Qn2 (M : Qm) (f : Nat) (l : List QV) : Option QV :=
 match l with
 | [x] => if x.g.t = 10 then (if f = 42 then some (.rl 6 (LG M.m.g 0)) else if f = 43 then some (.rl 6 (LG M.m.g 1)) else if f = 44 then some (.rl 6 (LG M.m.g 2)) else if f = 45 then some (.rl 6 (LG M.m.g 3)) else if f = 56 then some (.rl 6 (LG M.m.g 4)) else if f = 63 then some (.rl 6 (LG M.m.g 5)) else if f = 46 then some (.rl 6 (LG M.m.g 6)) else none)
   else if x.s = 6 then (if f = 62 then some (.rl 18 x.r) else none)
   else if x.s = 7 then (match x.l with
    | [] => none
    | A :: Ls => if 64 < Ls.length then none else if f = 55 then some (.rl 6 (Ls.foldl Qaw A)) else if f = 54 then some (.rl 6 (Ls.foldl (fun A B => Qar [A, B]) A)) else none)
   else none
 | [x, y] => if x.g.t = 10 then (if y.g.t = 1 ∧ f = 48 then some (.st 4 (Qay M.m.g y.g.k)) else if y.s = 5 ∧ f = 51 then some (.st 4 (mdL M.m.g y.i)) else if y.g.t = 5 ∧ Qjk y.g.f = true ∧ f = 47 then some (.rl 6 (Qc8 M.n (Qbn (M.m.pl y.g.f)))) else none)
   else if x.s = 4 ∧ y.s = 4 then (if f = 50 then some (.st 4 (List.zipWith (fun a b => a && b) x.b y.b)) else none)
   else if x.s = 1 ∧ y.s = 4 then (if f = 49 then some (.rl 6 (Qa6 (M.n : Int) y.b)) else none)
   else if x.s = 6 ∧ y.s = 6 then (if f = 52 then some (.rl 6 (Qbk x.r y.r)) else if f = 53 then some (.rl 6 (Qcn x.r y.r)) else if f = 64 then some (.rl 6 (Qaw x.r y.r)) else none)
   else none
 | _ => none
def Qr1 (M : Qm) (σ : Nat → QV) : Op → Option QV
 | .load t x => if t = 51 ∧ (qvA σ x).s = 8 then some (.rl 6 (qvA σ x).r) else if t = 49 ∧ (qvA σ x).s = 20 then some (.rl 21 (qvA σ x).r)
   else if t = 65 ∧ (qvA σ x).s = 22 then some ⟨GV.at 0 0, 23, (qvA σ x).k, [], (qvA σ x).r, [], []⟩ else if t = 4 ∧ (qvA σ x).s = 24 then some (.bo ((qvA σ x).k == 1)) else none
 | .fieldAddr t x f => if t = 51 ∧ (qvA σ x).s = 8 ∧ f = 1 then some (.rl 20 (qvA σ x).r) else none
 | .indexAddr t x i => if t = 49 ∧ (qvA σ x).s = 21 ∧ (qvA σ i).g.t = 1 then some ⟨GV.at 0 0, 22, (qvA σ i).g.k.toNat, [], (qvA σ x).r, [], []⟩
   else if t = 65 ∧ (qvA σ x).s = 23 ∧ (qvA σ i).g.t = 1 then some (.x 24 (if Qcr (qvA σ x).r (((qvA σ x).k : Nat) : Int) (((qvA σ i).g.k.toNat : Nat) : Int) then 1 else 0))
   else if t = 65 ∧ (qvA σ x).s = 15 ∧ (qvA σ i).g.t = 1 then some (.x 16 (qvA σ i).g.k.toNat) else none
 | .alloc t => if t = 51 then some (.x 9 0) else none
 | .makeSlice t x y => if t = 65 ∧ (qvA σ x).s = 1 ∧ (qvA σ y).s = 1 then some (.st 14 (List.replicate M.n false)) else none
 | .extract x k => if (qvA σ x).s = 17 then (if k = 0 then some (.nu (chk M.m.g true).1) else if k = 1 then some (.nu (chk M.m.g true).2) else none) else none
 | .field t x k => if t = 53 ∧ (qvA σ x).s = 10 ∧ k = 4 ∧ (qvA σ x).l.length = 5 then some (.rl 6 ((qvA σ x).l.getD 4 [])) else none
 | .buildSlice t n ps => if ps.toList.map (·.1) = List.range n ∧ 0 < n ∧ n ≤ 7 then
    (if t = 131 ∧ ps.toList.all (fun p => (qvA σ p.2).s == 6) = true then some (.rs 7 (ps.toList.map (fun p => (qvA σ p.2).r)))
     else if t = 36 ∧ ps.toList.all (fun p => isK p.2) = true ∧ n ≤ 6 then some (.is (Qg ps.toList)) else none) else none
 | .build t ps => if t = 53 ∧ ps.toList.map (·.1) = List.range 5 ∧ ps.toList.all (fun p => (qvA σ p.2).s == 6) = true then some (.rs 10 (ps.toList.map (fun p => (qvA σ p.2).r))) else none
 | .call ⟨.builtin .len, args, tys⟩ => match args.toList with
   | [x] => if tys = #[36] ∧ (qvA σ x).s = 19 then some (.nu (M.ol.length : Int)) else if tys = #[23] ∧ (qvA σ x).g.t = 5 ∧ (qvA σ x).g.f = 1 then some ⟨.nu (M.n : Int), 1, 0, [], [], [], []⟩ else none
   | _ => none
 | .call ⟨.value (.func f), args, _⟩ => Qn2 M f (args.toList.map (qvA σ))
 | _ => none
def QGv (M : Qm) (σ : Nat → QV) : Op → Option Prop
 | .indexAddr _ _ i => some (0 ≤ (qvA σ i).g.k ∧ (qvA σ i).g.k < (M.n : Int))
 | _ => none
def Qo3 (M : Qm) (σ : Nat → QV) (o : Op) : Option QV :=
 match Qr1 M σ o with
 | some av => some av
 | none => match Qt3 M.m (fun d => (σ d).g) o with
  | some av => some (.b_ av)
  | none => none
def Qws (M : Qm) (σ : Nat → QV) (o : Op) : Option Prop :=
 match Qr1 M σ o with
 | some _ => QGv M σ o
 | none => Qlv M.m (fun d => (σ d).g) o
theorem QEc {g : Gr} {q : Bool} (h : Wf g q) {i : Nat} (hi : i < g.evs.length) : (g.ev i).t = -1 ∨ 0 ≤ (g.ev i).t := by
 by_cases hc : (i : Int) < g.cells
 ·rw [Qju (h 1 oW) hc]
  exact .inl rfl
 ·have := Qlh (h 2 oW) oW hi
  unfold Qb4 at this
  simp at this
  omega
theorem QEd {g : Gr} {q : Bool} (h : Wf g q) {a b : Nat} (ha : a < g.evs.length) (hb : b < g.evs.length) : Qde g.evs ((a : Nat) : Int) ((b : Nat) : Int) = poB g.evs a b := by
 have h0 := QEc h ha
 unfold Qde poB
 rw [Int.toNat_natCast, Int.toNat_natCast]
 have e0 : (g.evs.getD a Ev.zero).t = (g.ev a).t := rfl
 have e1 : (g.evs.getD b Ev.zero).t = (g.ev b).t := rfl
 rw [e0, e1, Bool.eq_iff_iff]
 simp only [Bool.and_eq_true, decide_eq_true_eq]
 omega
theorem Qgz {n : Nat} {F G : Nat → Nat → Bool} (h : ∀ p q, p < n → q < n → F p q = G p q) : Twin n F (Qc8 n G) :=
 ⟨Qdk n G, fun p q hp hq => by rw [h p q hp hq, (Qs8 n G).same p q hp hq]; exact Iff.rfl⟩
abbrev rvA (m : Int) (q : Option Addr × Nat × Nat × List Nat) : Value := .agg #[.int .i64 m, .slice q.1 q.2.1 q.2.2.1]
abbrev rvC (m : Int) (l : List (Option Addr × Nat × Nat × List Nat)) : List Value := l.flatMap (fun q => [Value.int .i64 m, .slice q.1 q.2.1 q.2.2.1])
theorem QB (m : Int) (l : List (Option Addr × Nat × Nat × List Nat)) (h : l.length ≤ 7) (h0 : 0 < l.length) (w : World) : (Instr.buildSlice 131 l.length (List.zip (List.range l.length) (l.map (rvA m))).toArray).run Tryz.prog w = .ok (.slice (some ⟨w.heap.size, 0, none⟩) l.length l.length) (w.alloc (.cells (rvC m l).toArray 51)) := by
 match l, h, h0 with
 | [a], _, _ => exact (show _ = _ by kernel_rfl)
 | [a, b], _, _ => exact (show _ = _ by kernel_rfl)
 | [a, b, c], _, _ => exact (show _ = _ by kernel_rfl)
 | [a, b, c, d], _, _ => exact (show _ = _ by kernel_rfl)
 | [a, b, c, d, e], _, _ => exact (show _ = _ by kernel_rfl)
 | [a, b, c, d, e, f], _, _ => exact (show _ = _ by kernel_rfl)
 | [a, b, c, d, e, f, i], _, _ => exact (show _ = _ by kernel_rfl)
 | a :: b :: c :: d :: e :: f :: i :: j :: l, h, _ => simp at h
theorem Qy5 (m : Int) (l : List (Option Addr × Nat × Nat × List Nat)) (h : l.length = 5) (w : World) : (Instr.build 53 (List.zip (List.range 5) (l.map (rvA m))).toArray).run Tryz.prog w = .ok (.agg (rvC m l).toArray) w := by
 match l, h with
 | [a, b, c, d, e], _ => exact (show _ = _ by kernel_rfl)
set_option maxRecDepth 100000
section
variable {M : Qm} {N : Nat} {w : World} {a : Act} {σ : Nat → QV} {Q : Exit → Act → World → Prop} {dst : Option Tmp} {ty : TypeId} {pos : String} {af : Array Edge} {gd : Option (Nat × Bool)} {x y : Operand} {tys : Array TypeId}
def Qil (M : Qm) (N : Nat) (a : Act) (w : World) (d : Option Tmp) (av : QV) : Act → World → Prop := fun a' w' => ∃ v, a' = a.put d v ∧ QIs M N w' av v ∧ Below w.heap.size w w'
theorem Qc3 (h : ∀ d, x = .tmp d → QIs M N w (σ d) (a.eval (.tmp d))) : QIs M N w (qvA σ x) (a.eval x) := by
 unfold qvA
 split
 ·exact h _ rfl
 ·rename_i y hy
  exact ⟨Qj0 hy, trivial⟩
theorem QIs.t {z : QV} {v : Value} {k : Nat} (h : QIs M N w z v) (ht : z.s = k) (hk : k < 100) : QI0 M N w k z v := by
 have := h.2
 rw [ht, if_pos hk] at this
 exact this
theorem Qc0 {v : Value} {z : QV} (hg : z.g = GV.at 0 0) (hs : z.s < 100) (h : QI0 M N w z.s z v) : QIs M N w z v := ⟨by unfold GIs; rw [hg]; exact trivial, by rw [if_pos hs]; exact h⟩
theorem QBa {k : Int} : QIs M N w (.nu k) (.int .i64 k) := ⟨rfl, trivial⟩
theorem QJw {q : Bool} : QIs M N w (.bo q) (.bool q) := ⟨rfl, trivial⟩
theorem QGw {b y z : Nat} {m : Int} {s : Option Addr} (hv : a.eval x = pv b) (hb : Blk w b 51 #[.int .i64 m, .slice s y z]) : (execOp a.eval ⟨dst, .load 51 x, ty, pos, af, gd⟩).run Tryz.prog w = .ok (.value (.agg #[.int .i64 m, .slice s y z])) w := by
 have c0 : w.cell? ⟨b, 0, none⟩ = some (.int .i64 m) := hb.cell rfl
 have c1 : w.cell? ⟨b, 1, none⟩ = some (.slice s y z) := hb.cell rfl
 clear hb
 generalize a.eval = ρ at *
 go_simp
theorem QGx : (execOp a.eval ⟨dst, .alloc 51, ty, pos, af, gd⟩).run Tryz.prog w = .ok (.value (pv w.heap.size)) (w.alloc (.cells #[.int .i64 0, .slice none 0 0] 51)) := by kernel_rfl
theorem QDw {m : Int} : ∀ (l : List (Option Addr × Nat × Nat × List Nat)) (i : Nat) (q : Option Addr × Nat × Nat × List Nat), l[i]? = some q → (l.flatMap (fun q => [Value.int .i64 m, .slice q.1 q.2.1 q.2.2.1]))[i * 2]? = some (.int .i64 m) ∧ (l.flatMap (fun q => [Value.int .i64 m, .slice q.1 q.2.1 q.2.2.1]))[i * 2 + 1]? = some (.slice q.1 q.2.1 q.2.2.1)
 | [], i, q, h => by simp at h
 | p :: l, 0, q, h => by
  have : p = q := by simpa using h
  subst this
  exact ⟨rfl, rfl⟩
 | p :: l, i + 1, q, h => by
  have ih := QDw (m := m) l i q (by simpa using h)
  have e : (i + 1) * 2 = i * 2 + 1 + 1 := by omega
  rw [e]
  exact ih
theorem QGy {n s c : Nat} (l : List (Option Addr × Nat × Nat × List Nat)) (h : Blk w s 51 (l.flatMap (fun q => [Value.int .i64 ((n : Nat) : Int), .slice q.1 q.2.1 q.2.2.1])).toArray) (hr : ∀ q ∈ l, RT w n (.agg #[.int .i64 ((n : Nat) : Int), .slice q.1 q.2.1 q.2.2.1]) q.2.2.2) : RsA w n (.slice (some ⟨s, 0, none⟩) l.length c) (l.map (fun q => q.2.2.2)) := by
 refine ⟨s, c, by rw [List.length_map], h.lt, fun i L hL => ?_⟩
 rw [List.getElem?_map] at hL
 cases hq : l[i]? with
 | none => rw [hq] at hL; cases hL
 | some q =>
  rw [hq] at hL
  cases hL
  obtain ⟨h1, h2⟩ := QDw (m := ((n : Nat) : Int)) l i q hq
  exact ⟨q.1, q.2.1, q.2.2.1, h.cell (by simpa using h1), h.cell (by simpa using h2), hr q (List.mem_of_getElem? hq)⟩
theorem RT.at_ {w : World} {n : Nat} {x : Option Addr} {y z : Nat} {A : List Nat} (h : RT w n (.agg #[.int .i64 ((n : Nat) : Int), .slice x y z]) A) {p q : Nat} (hp : p < n) (hq : q < n) :
  ∃ s r, x = some ⟨s, 0, none⟩ ∧ y = n ∧ w.cell? ⟨s, p, none⟩ = some (.slice (some ⟨r, 0, none⟩) n n) ∧ w.cell? ⟨r, q, none⟩ = some (.bool (Qcr A ((p : Nat) : Int) ((q : Nat) : Int))) := by
 obtain ⟨x', y', z', rb, F, e, hM, hT⟩ := h
 obtain ⟨rfl, rfl, rfl⟩ : x = x' ∧ y = y' ∧ z = z' := by
  have := congrArg (fun v => match v with
   | Value.agg cs => cs[1]?
   | _ => none) e
  simp at this
  exact this
 obtain ⟨s, cap, e1, _, _, _, c1, c2, _, _⟩ := hM.at_ hp hq
 cases e1
 refine ⟨s, rb p, rfl, rfl, c1, ?_⟩
 rw [c2, ← QBw hT, Qm4, Qzk hp hq]
theorem Qo4 : ∀ (l : List (Nat × Operand)), (∀ p ∈ l, RT w M.n (a.eval p.2) (qvA σ p.2).r) → ∃ qs : List (Option Addr × Nat × Nat × List Nat), l.map (fun p => a.eval p.2) = qs.map (rvA (M.n : Int)) ∧ qs.map (·.2.2.2) = l.map (fun p => (qvA σ p.2).r) ∧ ∀ q ∈ qs, RT w M.n (rvA (M.n : Int) q) q.2.2.2
 | [], _ => ⟨[], rfl, rfl, fun q hq => by cases hq⟩
 | p :: l, h => by
  obtain ⟨qs, h1, h2, h3⟩ := Qo4 l (fun q hq => h q (List.mem_cons_of_mem _ hq))
  have hp := h p List.mem_cons_self
  obtain ⟨x, y, z, e⟩ := hp.form
  rw [e] at hp
  refine ⟨(x, y, z, (qvA σ p.2).r) :: qs, by simp only [List.map_cons, h1, e], by simp only [List.map_cons, h2], fun q hq => ?_⟩
  rcases List.mem_cons.1 hq with rfl | hq
  ·exact hp
  ·exact h3 q hq
theorem Qhv {L : List Nat} {f : Nat} {args : Array Value} (h : Calls Tryz.prog f args w (Qg2 M.n w L)) : Calls Tryz.prog f args w (fun e w'' => ∃ v, e = .returned v ∧ Qil M N a w dst (.rl 6 L) (a.put dst v) w'') := by
 refine h.mono ?_
 rintro e w'' ⟨r, rfl, h1, h2⟩
 exact ⟨r, rfl, r, rfl, Qc0 rfl (by show (6 : Nat) < 100; decide) h1, h2⟩
theorem Qen {L : List Nat} {f : Nat} {args : Array Value} {F : Nat → Nat → Bool} (ht : Twin M.n F L) (h : Calls Tryz.prog f args w (fun e w' => ∃ M' rb, e = .returned (.agg #[.int .i64 (M.n : Int), M']) ∧ RefM w.heap.size w' M' M.n M.n rb F ∧ Below w.heap.size w w')) : Calls Tryz.prog f args w (fun e w'' => ∃ v, e = .returned v ∧ Qil M N a w dst (.rl 6 L) (a.put dst v) w'') := by
 refine h.mono ?_
 rintro e w'' ⟨M', rb, rfl, h1, h2⟩
 exact ⟨_, rfl, _, rfl, Qc0 rfl (by show (6 : Nat) < 100; decide) (RT.of h1 ht), h2⟩
theorem Qmx {s : List Bool} {f : Nat} {args : Array Value} (hs : s.length = M.n) (h : Calls Tryz.prog f args w (fun e w' => ∃ x, e = .returned x ∧ SetArg w' x s ∧ Below w.heap.size w w')) : Calls Tryz.prog f args w (fun e w'' => ∃ v, e = .returned v ∧ Qil M N a w dst (.st 4 s) (a.put dst v) w'') := by
 refine h.mono ?_
 rintro e w'' ⟨x, rfl, h1, h2⟩
 exact ⟨_, rfl, _, rfl, Qc0 rfl (by show (4 : Nat) < 100; decide) ⟨h1, hs⟩, h2⟩
theorem e8 (f : Nat) (hf : f = 42 ∨ f = 43 ∨ f = 44 ∨ f = 45 ∨ f = 56 ∨ f = 63 ∨ f = 46 ∨ f = 62 ∨ f = 55 ∨ f = 54) (u : Value) (w : World) : (callFunc f #[u]).run Tryz.prog w = .ok (.enter f #[u]) w := by
 rcases hf with rfl | rfl | rfl | rfl | rfl | rfl | rfl | rfl | rfl | rfl <;> exact (show _ = _ by kernel_rfl)
theorem e9 (f : Nat) (hf : f = 48 ∨ f = 51 ∨ f = 47 ∨ f = 50 ∨ f = 49 ∨ f = 52 ∨ f = 53 ∨ f = 64) (u v : Value) (w : World) : (callFunc f #[u, v]).run Tryz.prog w = .ok (.enter f #[u, v]) w := by
 rcases hf with rfl | rfl | rfl | rfl | rfl | rfl | rfl | rfl <;> exact (show _ = _ by kernel_rfl)
theorem QBb (hn : M.n ≤ 256) (hw : Wf M.m.g true) (hG : QG M w) {f : Nat} {av : QV} (h : Qn2 M f [qvA σ x] = some av) (hx : QIs M N w (qvA σ x) (a.eval x)) :
  Oper.wp Tryz.prog ⟨dst, .call ⟨.value (.func f), #[x], tys⟩, ty, pos, af, gd⟩ a w (Qil M N a w dst av) Q := by
 unfold Qn2 at h
 dsimp only at h
 by_cases t1 : (qvA σ x).g.t = 10
 ·rw [if_pos t1] at h
  have hv : a.eval x = M.m.V.val M.m.g := hx.1.t t1
  by_cases e : f = 42
  ·subst e; rw [if_pos rfl] at h; cases h
   exact Qat (Qb5 hv (e8 _ dW)) (Qen (Qgz fun p q hp hq => QEd hw hp hq) (Qwr M.m.V M.m.g w hG.g.gr hn))
  rw [if_neg e] at h
  by_cases e : f = 43
  ·subst e; rw [if_pos rfl] at h; cases h
   exact Qat (Qb5 hv (e8 _ dW)) (Qen (Qgz fun _ _ _ _ => rfl) (Qom M.m.V M.m.g w hG.g.gr hn))
  rw [if_neg e] at h
  by_cases e : f = 44
  ·subst e; rw [if_pos rfl] at h; cases h
   exact Qat (Qb5 hv (e8 _ dW)) (Qen (Qgz fun _ _ _ _ => rfl) (Qon M.m.V M.m.g true w hG.g.gr hn hw))
  rw [if_neg e] at h
  by_cases e : f = 45
  ·subst e; rw [if_pos rfl] at h; cases h
   exact Qat (Qb5 hv (e8 _ dW)) (Qen (Qgz fun _ _ _ _ => rfl) (Qxr M.m.V M.m.g true w hG.g.gr hn hw))
  rw [if_neg e] at h
  by_cases e : f = 56
  ·subst e; rw [if_pos rfl] at h; cases h
   exact Qat (Qb5 hv (e8 _ dW)) (Qen (Qgz fun _ _ _ _ => rfl) (Qux M.m.V M.m.g w hG.g.gr hn))
  rw [if_neg e] at h
  by_cases e : f = 63
  ·subst e; rw [if_pos rfl] at h; cases h
   exact Qat (Qb5 hv (e8 _ dW)) (Qen (Qgz fun _ _ _ _ => rfl) (Qr0 M.m.V M.m.g w hG.g.gr hn))
  rw [if_neg e] at h
  by_cases e : f = 46
  ·subst e; rw [if_pos rfl] at h; cases h
   exact Qat (Qb5 hv (e8 _ dW)) (Qen (Qgz fun _ _ _ _ => rfl) (Qug M.m.V M.m.g w hG.g.gr hn))
  rw [if_neg e] at h
  cases h
 rw [if_neg t1] at h
 by_cases t6 : (qvA σ x).s = 6
 ·rw [if_pos t6] at h
  have hr : RT w M.n (a.eval x) (qvA σ x).r := hx.t t6 dW
  by_cases e : f = 62
  ·subst e; rw [if_pos rfl] at h; cases h
   refine Qat (Qb5 rfl (e8 _ dW)) ((QFa hn hr).mono ?_)
   rintro e w' ⟨v, out, rfl, h1, h2, h3⟩
   exact ⟨_, rfl, _, rfl, Qc0 rfl (by show (18 : Nat) < 100; decide) ⟨out, h1, Qdu h2 hG.hB⟩, h3⟩
  rw [if_neg e] at h; cases h
 rw [if_neg t6] at h
 by_cases t7 : (qvA σ x).s = 7
 ·rw [if_pos t7] at h
  have hr : RsA w M.n (a.eval x) (qvA σ x).l := hx.t t7 dW
  cases hl : (qvA σ x).l with
  | nil => rw [hl] at h; cases h
  | cons A Ls =>
   rw [hl] at h hr
   dsimp only at h
   by_cases c : 64 < Ls.length
   ·rw [if_pos c] at h; cases h
   rw [if_neg c] at h
   by_cases e : f = 55
   ·subst e; rw [if_pos rfl] at h; cases h
    exact Qat (Qb5 rfl (e8 _ dW)) (Qhv (Qrx M.n hn A Ls oW _ w hr))
   rw [if_neg e] at h
   by_cases e : f = 54
   ·subst e; rw [if_pos rfl] at h; cases h
    exact Qat (Qb5 rfl (e8 _ dW)) (Qhv (Qry M.n hn A Ls oW _ w hr))
   rw [if_neg e] at h; cases h
 rw [if_neg t7] at h; cases h
theorem QBc (hn : M.n ≤ 256) (hG : QG M w) {f : Nat} {av : QV} (h : Qn2 M f [qvA σ x, qvA σ y] = some av) (hx : QIs M N w (qvA σ x) (a.eval x)) (hy : QIs M N w (qvA σ y) (a.eval y)) :
  Oper.wp Tryz.prog ⟨dst, .call ⟨.value (.func f), #[x, y], tys⟩, ty, pos, af, gd⟩ a w (Qil M N a w dst av) Q := by
 unfold Qn2 at h
 dsimp only at h
 by_cases t1 : (qvA σ x).g.t = 10
 ·rw [if_pos t1] at h
  have hv : a.eval x = M.m.V.val M.m.g := hx.1.t t1
  by_cases e : (qvA σ y).g.t = 1 ∧ f = 48
  ·rw [if_pos e] at h; cases h
   obtain ⟨e1, rfl⟩ := e
   refine Qat (Qb6 hv (hy.1.t e1) (e9 _ dW)) (Qmx (Qgy _ _) ((Qrd M.m.V M.m.g _ w hG.g.gr).mono ?_))
   rintro e w' ⟨u, rfl, h1, h2⟩
   exact ⟨u, rfl, Qi8 h1, h2⟩
  rw [if_neg e] at h
  by_cases e : (qvA σ y).s = 5 ∧ f = 51
  ·rw [if_pos e] at h; cases h
   obtain ⟨e1, rfl⟩ := e
   have hi : IntsR w (a.eval y) (qvA σ y).i ∧ (qvA σ y).i.length ≤ 64 := hy.t e1 dW
   refine Qat (Qb6 hv rfl (e9 _ dW)) (Qmx (by simp [mdL, Qbd]) ((Qtl M.m.V M.m.g _ _ w hG.g.gr hi.1 oW).mono ?_))
   rintro e w' ⟨u, rfl, h1, h2⟩
   exact ⟨u, rfl, Qi8 h1, h2⟩
  rw [if_neg e] at h
  by_cases e : (qvA σ y).g.t = 5 ∧ Qjk (qvA σ y).g.f = true ∧ f = 47
  ·rw [if_pos e] at h; cases h
   obtain ⟨e1, e2, rfl⟩ := e
   have hv2 : a.eval y = M.m.lv (qvA σ y).g.f := hy.1.t e1
   exact Qat (Qb6 hv hv2 (e9 _ dW)) (Qen (Qgz fun _ _ _ _ => rfl) (Qke M.m.V M.m.g _ _ w hG.g.gr (hG.g.pls e2) hn))
  rw [if_neg e] at h; cases h
 rw [if_neg t1] at h
 by_cases t4 : (qvA σ x).s = 4 ∧ (qvA σ y).s = 4
 ·rw [if_pos t4] at h
  have h1 : SetArg w (a.eval x) (qvA σ x).b ∧ (qvA σ x).b.length = M.n := hx.t t4.1 dW
  have h2 : SetArg w (a.eval y) (qvA σ y).b ∧ (qvA σ y).b.length = M.n := hy.t t4.2 dW
  by_cases e : f = 50
  ·subst e; rw [if_pos rfl] at h; cases h
   exact Qat (Qb6 rfl rfl (e9 _ dW)) (Qmx (by rw [List.length_zipWith, h1.2, h2.2, Nat.min_self]) (Qrz _ _ (by rw [h1.2, h2.2]) (by rw [h1.2]; exact hn) _ _ w h1.1 h2.1))
  rw [if_neg e] at h; cases h
 rw [if_neg t4] at h
 by_cases t5 : (qvA σ x).s = 1 ∧ (qvA σ y).s = 4
 ·rw [if_pos t5] at h
  have h2 : SetArg w (a.eval y) (qvA σ y).b ∧ (qvA σ y).b.length = M.n := hy.t t5.2 dW
  have hv : a.eval x = .int .i64 (M.n : Int) := hx.t t5.1 dW
  by_cases e : f = 49
  ·subst e; rw [if_pos rfl] at h; cases h
   exact Qat (Qb6 hv rfl (e9 _ dW)) (Qhv (QF hn h2.1))
  rw [if_neg e] at h; cases h
 rw [if_neg t5] at h
 by_cases t6 : (qvA σ x).s = 6 ∧ (qvA σ y).s = 6
 ·rw [if_pos t6] at h
  have h1 : RT w M.n (a.eval x) (qvA σ x).r := hx.t t6.1 dW
  have h2 : RT w M.n (a.eval y) (qvA σ y).r := hy.t t6.2 dW
  by_cases e : f = 52
  ·subst e; rw [if_pos rfl] at h; cases h
   exact Qat (Qb6 rfl rfl (e9 _ dW)) (Qhv (QE8 hn h1 h2))
  rw [if_neg e] at h
  by_cases e : f = 53
  ·subst e; rw [if_pos rfl] at h; cases h
   exact Qat (Qb6 rfl rfl (e9 _ dW)) (Qhv (QE9 hn h1 h2))
  rw [if_neg e] at h
  by_cases e : f = 64
  ·subst e; rw [if_pos rfl] at h; cases h
   exact Qat (Qb6 rfl rfl (e9 _ dW)) (Qhv (Qzm hn h1 h2))
  rw [if_neg e] at h; cases h
 rw [if_neg t6] at h; cases h
end
set_option maxRecDepth 100000
section
variable {M : Qm} {N : Nat} {w : World} {a : Act} {σ : Nat → QV} {Q : Exit → Act → World → Prop} {dst : Option Tmp} {ty : TypeId} {pos : String} {af : Array Edge} {gd : Option (Nat × Bool)} {x y : Operand} {tys : Array TypeId}
theorem QIx (b : Nat) (w : World) : (Instr.fieldAt 51 (pv b) 1).run Tryz.prog w = .ok (.pointer (some ⟨b, 1, none⟩)) w := by kernel_rfl
theorem QGz (b k : Nat) (u : Value) (w : World) (h : w.cell? ⟨b, k, none⟩ = some u) : (Instr.loadAt 49 (.pointer (some ⟨b, k, none⟩))).run Tryz.prog w = .ok u w := by
 go_simp
theorem QIy (b k : Nat) (u : Value) (w : World) (h : w.cell? ⟨b, k, none⟩ = some u) : (Instr.loadAt 65 (.pointer (some ⟨b, k, none⟩))).run Tryz.prog w = .ok u w := by
 go_simp
theorem QIz (b k : Nat) (u : Value) (w : World) (h : w.cell? ⟨b, k, none⟩ = some u) : (Instr.loadAt 4 (.pointer (some ⟨b, k, none⟩))).run Tryz.prog w = .ok u w := by
 go_simp
theorem QG0 (s o n c : Nat) (k : Int) (w : World) (h0 : 0 ≤ k) (h1 : k < ((n : Nat) : Int)) : (Instr.indexAt 49 (.slice (some ⟨s, o, none⟩) n c) (.int .i64 k)).run Tryz.prog w = .ok (.pointer (some ⟨s, o + k.toNat, none⟩)) w := by
 go_simp
theorem QDx (s o n c : Nat) (k : Int) (w : World) (h0 : 0 ≤ k) (h1 : k < ((n : Nat) : Int)) : (Instr.indexAt 65 (.slice (some ⟨s, o, none⟩) n c) (.int .i64 k)).run Tryz.prog w = .ok (.pointer (some ⟨s, o + k.toNat, none⟩)) w := by
 go_simp
theorem Qvo {k : Nat} {l : Array Value} {v : Value} (hx : a.eval x = .tuple l) (hk : l[k]? = some v) : (execOp a.eval ⟨dst, .extract x k, ty, pos, af, gd⟩).run Tryz.prog w = .ok (.value v) w := by
 have e : (execOp a.eval ⟨dst, .extract x k, ty, pos, af, gd⟩).run Tryz.prog w = (do pure (Next.value (← Instr.extract (a.eval x) k)) : Sem Next).run Tryz.prog w := by kernel_rfl
 rw [e, hx]
 unfold Instr.extract
 simp only [hk]
 rfl
theorem QEe (m : Int) (l : List (Option Addr × Nat × Nat × List Nat)) (h : l.length = 5) (w : World) : ∃ q, l[4]? = some q ∧ (Instr.field 53 (.agg (rvC m l).toArray) 4).run Tryz.prog w = .ok (rvA m q) w := by
 match l, h with
 | [a, b, c, d, e], _ => exact ⟨e, rfl, (show _ = _ by kernel_rfl)⟩
theorem QG1 {K : Act → World → Prop} {m : Int} {l : List (Option Addr × Nat × Nat × List Nat)} {q : Option Addr × Nat × Nat × List Nat} (hx : a.eval x = .agg (rvC m l).toArray) (hr : (Instr.field 53 (.agg (rvC m l).toArray) 4).run Tryz.prog w = .ok (rvA m q) w) (hK : K (a.put dst (rvA m q)) w) : Oper.wp Tryz.prog ⟨dst, .field 53 x 4, ty, pos, af, gd⟩ a w K Q := by
 refine Qbw (o := ⟨dst, .field 53 x 4, ty, pos, af, gd⟩) (s := Instr.field 53 (a.eval x) 4) kW ?_ hK
 rw [hx]
 exact hr
theorem QG2 (n : Nat) (h : n ≤ 256) (hx : a.eval x = .int .i64 ((n : Nat) : Int)) (hy : a.eval y = .int .i64 ((n : Nat) : Int)) : (execOp a.eval ⟨dst, .makeSlice 65 x y, ty, pos, af, gd⟩).run Tryz.prog w = .ok (.value (.slice (some ⟨w.heap.size, 0, none⟩) n n)) (w.alloc (.cells (Qap (List.replicate n false)) 4)) := by
 have e : (execOp a.eval ⟨dst, .makeSlice 65 x y, ty, pos, af, gd⟩).run Tryz.prog w = (do pure (Next.value (← Instr.makeSlice 65 (a.eval x) (a.eval y))) : Sem Next).run Tryz.prog w := by kernel_rfl
 rw [e, hx, hy, Sem.run_bind, Qkl n h w]
 rfl
theorem Qr2 {t : TypeId} {p : Option Addr} {n c : Nat} (ht : t = 36 ∨ t = 23) (hx : a.eval x = .slice p n c) : (execOp a.eval ⟨dst, .call ⟨.builtin .len, #[x], #[t]⟩, ty, pos, af, gd⟩).run Tryz.prog w = .ok (.value (.int .i64 ((n : Nat) : Int))) w := by
 rcases ht with rfl | rfl
 ·exact QB1 (.inr rfl) hx
 ·exact Qj1 (.inl rfl) hx
theorem QG3 (hn : M.n ≤ 256) (hw : Wf M.m.g true) (hG : QG M w) (hN : N ≤ w.heap.size) {o : Oper} {av : QV} (h : Qr1 M σ o.op = some av) (hp : ∀ p, QGv M σ o.op = some p → p) (hx : ∀ d ∈ Qcp o.op.operands.toList, QIs M N w (σ d) (a.eval (.tmp d))) : o.wp Tryz.prog a w (Qil M N a w o.dst av) Q := by
 obtain ⟨dst, op, ty, pos, af, gd⟩ := o
 dsimp only at h hp hx ⊢
 have hB := Below.refl w.heap.size w
 unfold Qr1 at h
 split at h
 ·rename_i t x
  have hl := Qc3 (x := x) (fun d e => hx d (Qag.2 (by simp [Op.operands, e])))
  by_cases c1_ : t = 51 ∧ (qvA σ x).s = 8
  ·rw [if_pos c1_] at h; cases h
   obtain ⟨rfl, c⟩ := c1_
   obtain ⟨b, s, y, z, e1, e2, e3⟩ : ∃ b s y z, a.eval x = pv b ∧ Blk w b 51 #[.int .i64 (M.n : Int), .slice s y z] ∧ RT w M.n (.agg #[.int .i64 (M.n : Int), .slice s y z]) (qvA σ x).r := hl.t c dW
   exact Qb (QGw e1 e2) ⟨_, rfl, Qc0 rfl (by show (6 : Nat) < 100; decide) e3, hB⟩
  rw [if_neg c1_] at h
  by_cases c2_ : t = 49 ∧ (qvA σ x).s = 20
  ·rw [if_pos c2_] at h; cases h
   obtain ⟨rfl, c⟩ := c2_
   obtain ⟨b, s, y, z, e1, e2, e3⟩ : ∃ b s y z, a.eval x = .pointer (some ⟨b, 1, none⟩) ∧ Blk w b 51 #[.int .i64 (M.n : Int), .slice s y z] ∧ RT w M.n (.agg #[.int .i64 (M.n : Int), .slice s y z]) (qvA σ x).r := hl.t c dW
   exact Qbw (s := Instr.loadAt 49 (a.eval x)) rfl (by rw [e1]; exact QGz _ _ _ _ (e2.cell (j := 1) rfl)) ⟨_, rfl, Qc0 rfl (by show (21 : Nat) < 100; decide) ⟨s, y, z, rfl, e3⟩, hB⟩
  rw [if_neg c2_] at h
  by_cases c3_ : t = 65 ∧ (qvA σ x).s = 22
  ·rw [if_pos c3_] at h; cases h
   obtain ⟨rfl, c⟩ := c3_
   obtain ⟨b, o, s, e1, e2, e3, e4, e5⟩ : ∃ b o s, a.eval x = .pointer (some ⟨b, o, none⟩) ∧ b < w.heap.size ∧ w.cell? ⟨b, o, none⟩ = some (.slice (some ⟨s, 0, none⟩) M.n M.n) ∧ s < w.heap.size ∧ ∀ q, q < M.n → w.cell? ⟨s, q, none⟩ = some (.bool (Qcr (qvA σ x).r (((qvA σ x).k : Nat) : Int) ((q : Nat) : Int))) := hl.t c dW
   exact Qbw (s := Instr.loadAt 65 (a.eval x)) rfl (by rw [e1]; exact QIy _ _ _ _ e3) ⟨_, rfl, Qc0 rfl (by show (23 : Nat) < 100; decide) ⟨s, rfl, e4, e5⟩, hB⟩
  rw [if_neg c3_] at h
  by_cases c4_ : t = 4 ∧ (qvA σ x).s = 24
  ·rw [if_pos c4_] at h; cases h
   obtain ⟨rfl, c⟩ := c4_
   obtain ⟨b, o, e1, e2, e3⟩ : ∃ b o, a.eval x = .pointer (some ⟨b, o, none⟩) ∧ b < w.heap.size ∧ w.cell? ⟨b, o, none⟩ = some (.bool ((qvA σ x).k == 1)) := hl.t c dW
   exact Qbw (s := Instr.loadAt 4 (a.eval x)) rfl (by rw [e1]; exact QIz _ _ _ _ e3) ⟨_, rfl, QJw, hB⟩
  rw [if_neg c4_] at h; cases h
 ·rename_i t x f
  have hl := Qc3 (x := x) (fun d e => hx d (Qag.2 (by simp [Op.operands, e])))
  by_cases c5_ : t = 51 ∧ (qvA σ x).s = 8 ∧ f = 1
  ·rw [if_pos c5_] at h; cases h
   obtain ⟨rfl, c, rfl⟩ := c5_
   obtain ⟨b, s, y, z, e1, e2, e3⟩ : ∃ b s y z, a.eval x = pv b ∧ Blk w b 51 #[.int .i64 (M.n : Int), .slice s y z] ∧ RT w M.n (.agg #[.int .i64 (M.n : Int), .slice s y z]) (qvA σ x).r := hl.t c dW
   exact Qbw (s := Instr.fieldAt 51 (a.eval x) 1) rfl (by rw [e1]; exact QIx _ _) ⟨_, rfl, Qc0 rfl (by show (20 : Nat) < 100; decide) ⟨b, s, y, z, rfl, e2, e3⟩, hB⟩
  rw [if_neg c5_] at h; cases h
 ·rename_i t x i
  have hl := Qc3 (x := x) (fun d e => hx d (Qag.2 (by simp [Op.operands, e])))
  have hj := (Qc3 (x := i) (fun d e => hx d (Qag.2 (by simp [Op.operands, e])))).1
  obtain ⟨q0, q1⟩ : 0 ≤ (qvA σ i).g.k ∧ (qvA σ i).g.k < (M.n : Int) := hp _ rfl
  by_cases c6_ : t = 49 ∧ (qvA σ x).s = 21 ∧ (qvA σ i).g.t = 1
  ·rw [if_pos c6_] at h; cases h
   obtain ⟨rfl, c, d⟩ := c6_
   obtain ⟨s, y, z, e1, e3⟩ : ∃ s y z, a.eval x = .slice s y z ∧ RT w M.n (.agg #[.int .i64 (M.n : Int), .slice s y z]) (qvA σ x).r := hl.t c dW
   have e2 : a.eval i = .int .i64 (qvA σ i).g.k := hj.t d
   obtain ⟨p, hp2⟩ : ∃ p : Nat, (qvA σ i).g.k = ((p : Nat) : Int) := ⟨(qvA σ i).g.k.toNat, oW⟩
   rw [hp2] at q0 q1 e2 ⊢
   have hpn : p < M.n := by omega
   obtain ⟨s0, r0, rfl, rfl, c1, _⟩ := e3.at_ hpn hpn
   have hb1 := World.block_lt_of_cell? w _ c1
   have key : ∀ q, q < M.n → w.cell? ⟨r0, q, none⟩ = some (.bool (Qcr (qvA σ x).r ((p : Nat) : Int) ((q : Nat) : Int))) := fun q hq => by
    obtain ⟨s1, r1, e4, _, c3, c4⟩ := e3.at_ hpn hq
    have e5 := Option.some.inj e4
    injection e5 with e5 _ _
    subst e5
    rw [c1] at c3
    have e6 := Option.some.inj c3
    injection e6 with e6 _ _
    have e7 := Option.some.inj e6
    injection e7 with e7 _ _
    rw [e7]
    exact c4
   have hr0 := World.block_lt_of_cell? w _ (key p hpn)
   refine Qbw (s := Instr.indexAt 49 (a.eval x) (a.eval i)) rfl (by rw [e1, e2]; exact QG0 _ _ _ _ _ _ q0 q1) ⟨_, rfl, Qc0 rfl (by show (22 : Nat) < 100; decide) ⟨s0, 0 + p, r0, rfl, hb1, by rw [Nat.zero_add]; exact c1, hr0, key⟩, hB⟩
  rw [if_neg c6_] at h
  by_cases c7_ : t = 65 ∧ (qvA σ x).s = 23 ∧ (qvA σ i).g.t = 1
  ·rw [if_pos c7_] at h; cases h
   obtain ⟨rfl, c, d⟩ := c7_
   obtain ⟨s, e1, e4, e5⟩ : ∃ s, a.eval x = .slice (some ⟨s, 0, none⟩) M.n M.n ∧ s < w.heap.size ∧ ∀ q, q < M.n → w.cell? ⟨s, q, none⟩ = some (.bool (Qcr (qvA σ x).r (((qvA σ x).k : Nat) : Int) ((q : Nat) : Int))) := hl.t c dW
   have e2 : a.eval i = .int .i64 (qvA σ i).g.k := hj.t d
   obtain ⟨p, hp2⟩ : ∃ p : Nat, (qvA σ i).g.k = ((p : Nat) : Int) := ⟨(qvA σ i).g.k.toNat, oW⟩
   rw [hp2] at q0 q1 e2 ⊢
   refine Qbw (s := Instr.indexAt 65 (a.eval x) (a.eval i)) rfl (by rw [e1, e2]; exact QDx _ _ _ _ _ _ q0 q1) ⟨_, rfl, Qc0 rfl (by show (24 : Nat) < 100; decide) ⟨s, 0 + p, rfl, e4, ?_⟩, hB⟩
   rw [Nat.zero_add, e5 p oW]
   show some (Value.bool _) = some (Value.bool ((if Qcr (qvA σ x).r (((qvA σ x).k : Nat) : Int) ((((p : Int).toNat : Nat)) : Int) then 1 else 0) == 1))
   rw [Int.toNat_natCast]
   cases Qcr (qvA σ x).r (((qvA σ x).k : Nat) : Int) ((p : Nat) : Int) <;> rfl
  rw [if_neg c7_] at h
  by_cases c8_ : t = 65 ∧ (qvA σ x).s = 15 ∧ (qvA σ i).g.t = 1
  ·rw [if_pos c8_] at h; cases h
   obtain ⟨rfl, c, d⟩ := c8_
   have e1 : a.eval x = .slice (some ⟨M.blk, 0, none⟩) M.n M.n := hl.t c dW
   have e2 : a.eval i = .int .i64 (qvA σ i).g.k := hj.t d
   refine Qbw (s := Instr.indexAt 65 (a.eval x) (a.eval i)) rfl (by rw [e1, e2]; exact QDx _ _ _ _ _ _ q0 q1) ⟨_, rfl, Qc0 rfl (by show (16 : Nat) < 100; decide) ⟨by rw [Nat.zero_add]; rfl, by show (qvA σ i).g.k.toNat < M.n; omega⟩, hB⟩
  rw [if_neg c8_] at h; cases h
 ·rename_i t
  by_cases c9_ : t = 51
  ·subst c9_
   rw [if_pos rfl] at h; cases h
   exact Qb QGx ⟨_, rfl, Qc0 rfl (by show (9 : Nat) < 100; decide) ⟨_, rfl, hN, Blk.new w _ _⟩, hB.alloc nW _⟩
  rw [if_neg c9_] at h; cases h
 ·rename_i t x y
  have hl := Qc3 (x := x) (fun d e => hx d (Qag.2 (by simp [Op.operands, e])))
  have hm := Qc3 (x := y) (fun d e => hx d (Qag.2 (by simp [Op.operands, e])))
  by_cases c10_ : t = 65 ∧ (qvA σ x).s = 1 ∧ (qvA σ y).s = 1
  ·rw [if_pos c10_] at h; cases h
   obtain ⟨rfl, c1, c2⟩ := c10_
   exact Qb (QG2 M.n hn (hl.t c1 dW) (hm.t c2 dW)) ⟨_, rfl, Qc0 rfl (by show (14 : Nat) < 100; decide) ⟨_, rfl, hN, Blk.new w _ _, by show (List.replicate M.n false).length = _; simp⟩, hB.alloc nW _⟩
  rw [if_neg c10_] at h; cases h
 ·rename_i x k
  have hl := Qc3 (x := x) (fun d e => hx d (Qag.2 (by simp [Op.operands, e])))
  by_cases c11_ : (qvA σ x).s = 17
  ·rw [if_pos c11_] at h
   have e : a.eval x = .tuple #[.int .i64 (chk M.m.g true).1, .int .i64 (chk M.m.g true).2] := hl.t c11_ dW
   by_cases k0 : k = 0
   ·subst k0; rw [if_pos rfl] at h; cases h
    exact Qb (Qvo e rfl) ⟨_, rfl, QBa, hB⟩
   rw [if_neg k0] at h
   by_cases k1 : k = 1
   ·subst k1; rw [if_pos rfl] at h; cases h
    exact Qb (Qvo e rfl) ⟨_, rfl, QBa, hB⟩
   rw [if_neg k1] at h; cases h
  rw [if_neg c11_] at h; cases h
 ·rename_i t x k
  have hl := Qc3 (x := x) (fun d e => hx d (Qag.2 (by simp [Op.operands, e])))
  by_cases c12_ : t = 53 ∧ (qvA σ x).s = 10 ∧ k = 4 ∧ (qvA σ x).l.length = 5
  ·rw [if_pos c12_] at h; cases h
   obtain ⟨rfl, c, rfl, c5⟩ := c12_
   obtain ⟨qs, e1, e2, e3⟩ : FcA w M.n (a.eval x) (qvA σ x).l := hl.t c dW
   have hl5 : qs.length = 5 := by rw [← c5, ← e2, List.length_map]
   obtain ⟨q, hq, hr⟩ := QEe (M.n : Int) qs hl5 w
   have hgd : (qvA σ x).l.getD 4 [] = q.2.2.2 := by rw [← e2, List.getD_eq_getElem?_getD, List.getElem?_map, hq]; rfl
   rw [hgd]
   exact QG1 e1 hr ⟨_, rfl, Qc0 rfl (by show (6 : Nat) < 100; decide) (e3 q (List.mem_of_getElem? hq)), hB⟩
  rw [if_neg c12_] at h; cases h
 ·rename_i t n ps
  by_cases c13_ : ps.toList.map (·.1) = List.range n ∧ 0 < n ∧ n ≤ 7
  ·rw [if_pos c13_] at h
   obtain ⟨c1, c2, c3⟩ := c13_
   have hln : ps.toList.length = n := by have := congrArg List.length c1; rw [List.length_map, List.length_range] at this; exact this
   by_cases d1 : t = 131 ∧ ps.toList.all (fun p => (qvA σ p.2).s == 6) = true
   ·rw [if_pos d1] at h; cases h
    obtain ⟨rfl, d1⟩ := d1
    obtain ⟨qs, h1, h2, h3⟩ := Qo4 (M := M) (w := w) (a := a) (σ := σ) ps.toList (fun p hp => by
     have h6 : (qvA σ p.2).s = 6 := by simpa using List.all_eq_true.1 d1 p hp
     exact (Qc3 (M := M) (N := N) (x := p.2) (fun d e => hx d (Qag.2 (by simp [Op.operands]; exact ⟨p.1, by rw [← e]; exact Array.mem_toList_iff.1 hp⟩)))).t h6 dW)
    have hl : qs.length = n := by have := congrArg List.length h2; rw [List.length_map, List.length_map] at this; omega
    subst hl
    have hB2 : Below w.heap.size w (w.alloc (.cells (rvC (M.n : Int) qs).toArray 51)) := hB.alloc nW _
    refine Qk3 c1 h1 (QB _ qs c3 c2 w) ⟨_, rfl, Qc0 rfl (by show (7 : Nat) < 100; decide) ?_, hB2⟩
    show RsA _ _ _ (ps.toList.map (fun p => (qvA σ p.2).r))
    rw [← h2]
    exact QGy (c := qs.length) qs (Blk.new w _ _) (fun q hq => (h3 q hq).below hB2)
   rw [if_neg d1] at h
   by_cases d2 : t = 36 ∧ ps.toList.all (fun p => isK p.2) = true ∧ n ≤ 6
   ·rw [if_pos d2] at h; cases h
    obtain ⟨rfl, d2, d3⟩ := d2
    have h1 : ps.toList.map (fun p => a.eval p.2) = (Qg ps.toList).map (Value.int .i64) := by
     unfold Qg
     rw [List.map_map]
     exact List.map_congr_left (fun p hp => Qs3 (List.all_eq_true.1 d2 p hp))
    have hl : (Qg ps.toList).length = n := by unfold Qg; rw [List.length_map]; exact hln
    subst hl
    exact Qk3 c1 h1 (Qs6 _ d3 c2 w) ⟨_, rfl, Qc0 rfl (by show (5 : Nat) < 100; decide) ⟨Qwj w _, by show (Qg ps.toList).length ≤ 64; omega⟩, hB.alloc nW _⟩
   ·rw [if_neg d2] at h; cases h
  ·rw [if_neg c13_] at h; cases h
 ·rename_i t ps
  by_cases c14_ : t = 53 ∧ ps.toList.map (·.1) = List.range 5 ∧ ps.toList.all (fun p => (qvA σ p.2).s == 6) = true
  ·rw [if_pos c14_] at h; cases h
   obtain ⟨rfl, c1, d1⟩ := c14_
   obtain ⟨qs, h1, h2, h3⟩ := Qo4 (M := M) (w := w) (a := a) (σ := σ) ps.toList (fun p hp => by
    have h6 : (qvA σ p.2).s = 6 := by simpa using List.all_eq_true.1 d1 p hp
    exact (Qc3 (M := M) (N := N) (x := p.2) (fun d e => hx d (Qag.2 (by simp [Op.operands]; exact ⟨p.1, by rw [← e]; exact Array.mem_toList_iff.1 hp⟩)))).t h6 dW)
   have hl : qs.length = 5 := by have := congrArg List.length h2; have h4 := congrArg List.length c1; rw [List.length_map, List.length_map] at this; rw [List.length_map, List.length_range] at h4; omega
   refine Qbw (o := ⟨dst, .build 53 ps, ty, pos, af, gd⟩) (s := Instr.build 53 (ps.map fun (i, x) => (i, a.eval x))) kW (by rw [Qrt c1 h1]; exact Qy5 _ qs hl w) ⟨_, rfl, Qc0 rfl (by show (10 : Nat) < 100; decide) ⟨qs, rfl, h2, h3⟩, hB⟩
  ·rw [if_neg c14_] at h; cases h
 ·rename_i args tys
  obtain ⟨l⟩ := args
  match l, h, hx with
  | [], h, _ => cases h
  | [x], h, hx =>
   have hl := Qc3 (x := x) (fun d e => hx d (Qag.2 (by simp [Op.operands, Call.operands, e])))
   dsimp only at h
   by_cases c2 : tys = #[36] ∧ (qvA σ x).s = 19
   ·rw [if_pos c2] at h; cases h
    obtain ⟨rfl, c2⟩ := c2
    have e : a.eval x = M.ov := hl.t c2 dW
    obtain ⟨p, c, e3⟩ := Qax hG.o
    exact Qb (Qr2 (.inl rfl) (e.trans e3)) ⟨_, rfl, QBa, hB⟩
   rw [if_neg c2] at h
   by_cases c1 : tys = #[23] ∧ (qvA σ x).g.t = 5 ∧ (qvA σ x).g.f = 1
   ·rw [if_pos c1] at h; cases h
    obtain ⟨rfl, c1⟩ := c1
    have e : a.eval x = M.m.lv (qvA σ x).g.f := hl.1.t c1.1
    rw [c1.2] at e
    obtain ⟨p, cap, e3, -, -, -⟩ := hG.g.gr.ev
    exact Qb (Qr2 (.inr rfl) (e.trans e3)) ⟨_, rfl, ⟨rfl, rfl⟩, hB⟩
   rw [if_neg c1] at h; cases h
  | x :: y :: l, h, _ => cases h
 ·rename_i f args tys
  obtain ⟨l⟩ := args
  match l, h, hx with
  | [], h, _ => cases h
  | [x], h, hx => exact QBb hn hw hG h (Qc3 (fun d e => hx d (Qag.2 (by simp [Op.operands, Call.operands, e]))))
  | [x, y], h, hx => exact QBc hn hG h (Qc3 (fun d e => hx d (Qag.2 (by simp [Op.operands, Call.operands, e])))) (Qc3 (fun d e => hx d (Qag.2 (by simp [Op.operands, Call.operands, e]))))
  | x :: y :: z :: l, h, _ => cases h
 ·cases h
theorem Qn3 (hn : M.n ≤ 256) (hw : Wf M.m.g true) (hG : QG M w) (hN : N ≤ w.heap.size) {o : Oper} {av : QV} (h : Qo3 M σ o.op = some av) (hp : ∀ p, Qws M σ o.op = some p → p) (hx : ∀ d ∈ Qcp o.op.operands.toList, QIs M N w (σ d) (a.eval (.tmp d))) : o.wp Tryz.prog a w (Qil M N a w o.dst av) Q := by
 unfold Qo3 at h
 unfold Qws at hp
 cases hz : Qr1 M σ o.op with
 | some az =>
  rw [hz] at h hp
  cases h
  exact QG3 hn hw hG hN hz hp hx
 | none =>
  rw [hz] at h hp
  dsimp only at h hp
  cases hg : Qt3 M.m (fun d => (σ d).g) o.op with
  | some ag =>
   rw [hg] at h
   cases h
   refine Oper.wp_mono (fun a' w' h => ?_) (QAy hG.g hN hg hp (fun d hd => (hx d hd).1))
   obtain ⟨v, h1, h2, h3⟩ := h
   exact ⟨v, h1, ⟨h2, trivial⟩, h3⟩
  | none => rw [hg] at h; cases h
end
def qE (M : Qm) (hn : M.n ≤ 256) (hw : Wf M.m.g true) : Eng Tryz.prog QV where
 Is := QIs M
 G := QG M
 isNo x := x.g.t == 0 && x.s == 0
 nw x := x.g.t == 12 || (x.s == 9 || x.s == 14)
 isB x := x.g.t == 2
 bv x := x.g.b
 con x := .b_ (Qny x)
 pk b x y := if x.g.t = 2 ∧ y.g.t = 2 then some (.bo (if b then x.g.b else y.g.b)) else none
 opR := Qo3 M
 pre := Qws M
 mono := fun {N w w' x v} h hb => ⟨GIs.mono h.1 hb, by
  have h2 := h.2
  by_cases e : x.s < 100
  ·rw [if_pos e] at h2 ⊢; exact h2.mono hb
  ·rw [if_neg e] at h2 ⊢; exact h2⟩
 gmono := QG.mono
 any := fun {_ _ x _} h => by
  rw [Bool.and_eq_true, beq_iff_eq, beq_iff_eq] at h
  refine ⟨by unfold GIs; rw [h.1]; trivial, ?_⟩
  rw [h.2]
  exact trivial
 chg := fun {_ _ _ x _} h hi => by
  rw [Bool.or_eq_false_iff, Bool.or_eq_false_iff] at h
  obtain ⟨h1, h2, h3⟩ := h
  refine ⟨?_, ?_⟩
  ·obtain ⟨⟨t, k, b, f, p, e⟩, s, n, q1, q2, q3, q4⟩ := x
   have hi := hi.1
   unfold GIs at hi ⊢
   dsimp only at hi ⊢
   split at hi
   case h_11 => simp at h1
   all_goals exact hi
  ·have hi := hi.2
   by_cases e : x.s < 100
   ·rw [if_pos e] at hi ⊢
    generalize x.s = s at *
    unfold QI0 at hi ⊢
    split at hi
    case h_7 => simp at h2
    case h_10 => simp at h3
    all_goals exact hi
   ·rw [if_neg e] at hi ⊢; exact hi
 bool := fun {N w x v} h hi => hi.1.t (k := 2) (by simpa using h)
 conOk := fun h => ⟨Qj0 h, trivial⟩
 pkOk := fun {N w b x y z v} h hi => by
  by_cases c15_ : x.g.t = 2 ∧ y.g.t = 2
  ·rw [if_pos c15_] at h; cases h
   refine ⟨?_, trivial⟩
   cases b
   ·exact (show GIs M.m N w y.g v from hi.1).t c15_.2
   ·exact (show GIs M.m N w x.g v from hi.1).t c15_.1
  ·rw [if_neg c15_] at h; cases h
 ok := fun hG hN h hp hx => Qn3 hn hw hG hN h hp hx
section
variable {w : World} {a : Act} {x y : Operand} {dst : Option Tmp} {ty : TypeId} {pos : String} {af : Array Edge} {gd : Option (Nat × Bool)}
theorem Qvp {b p q : Nat} {m : Int} {s : Option Addr} (hv : a.eval x = pv b) (hu : a.eval y = .agg #[.int .i64 m, .slice s p q]) (hb : Blk w b 51 #[.int .i64 0, .slice none 0 0]) : (execOp a.eval ⟨dst, .store 51 x y, ty, pos, af, gd⟩).run Tryz.prog w = .ok .skip ((w.setCell ⟨b, 0, none⟩ (.int .i64 m)).setCell ⟨b, 1, none⟩ (.slice s p q)) := by
 have c0 : w.cell? ⟨b, 0, none⟩ = some (.int .i64 0) := hb.cell rfl
 have c1 : w.cell? ⟨b, 1, none⟩ = some (.slice none 0 0) := hb.cell rfl
 have f0 := hb.frozen 0
 have f1 := hb.frozen 1
 clear hb
 generalize a.eval = ρ at *
 go_simp
theorem QBd {b k : Nat} {u : Value} (hv : a.eval x = .pointer (some ⟨b, k, none⟩)) (h : w.cell? ⟨b, k, none⟩ = some u) (hf : w.frozen? ⟨b, k, none⟩ = false) : (execOp a.eval ⟨dst, .store 4 x (.const (.bool true)), ty, pos, af, gd⟩).run Tryz.prog w = .ok .skip (w.setCell ⟨b, k, none⟩ (.bool true)) := by
 have e : a.eval (.const (.bool true)) = .bool true := rfl
 generalize a.eval = ρ at *
 go_simp
end
theorem Touch.rowQ (w : World) (m : Nat) (cs : Array Value) : Touch m w (w.setRow m cs) := ⟨rfl, rfl, rfl, by rw [size_setRow]; exact Nat.le_refl _, fun k _ hk => setRow_other w m k cs hk⟩
theorem RefM.touchF {lo m : Nat} {w w' : World} {M : Value} {k n : Nat} {rb : Nat → Nat} {F : Nat → Nat → Bool} {cs : Array Value} (h : RefM lo w M k n rb F) (hb : Blk w m 53 cs) (ht : Touch m w w') : RefM lo w' M k n rb F := by
 refine ⟨?_, fun p hp => ⟨(h.row p hp).1, (h.row p hp).2.touch ht (Qa2 (h.row p hp).2 hb dW)⟩, h.apart, h.inj⟩
 obtain ⟨h1, h2⟩ := h.own
 refine ⟨h1, ?_⟩
 rcases h2 with h2 | ⟨g, cap, cur, e1, e2, e3, e4⟩
 ·exact .inl h2
 ·have hk : Blk w g 65 cur := e3
  exact .inr ⟨g, cap, cur, e1, e2, hk.touch ht (Qa2 hk hb dW), e4⟩
theorem Qvq {m : Int} : ∀ qs : List (Option Addr × Nat × Nat × List Nat), (qs.flatMap (fun q => [Value.int .i64 m, .slice q.1 q.2.1 q.2.2.1])).length = 2 * qs.length
 | [] => rfl
 | q :: qs => by
  rw [List.flatMap_cons, List.length_append, Qvq qs]
  show 2 + 2 * qs.length = 2 * (qs.length + 1)
  omega
theorem Qvr {m : Int} : ∀ qs : List (Option Addr × Nat × Nat × List Nat), (qs.flatMap (fun q => [Value.int .i64 m, .slice q.1 q.2.1 q.2.2.1])).all (fun v => v.oneCell') = true
 | [] => rfl
 | q :: qs => by
  rw [List.flatMap_cons, List.all_append, Qvr qs]
  rfl
def fz (x : QV) : QV := if x.s ≤ 1 ∨ x.s = 11 then x else { x with s := x.s + 100 }
def uz (l : List Bool) (x : QV) : QV := if x.s = 15 then .st 4 l else if 100 ≤ x.s then { x with s := x.s - 100 } else x
def okF (x : QV) : Bool := (decide (x.s ≤ 8) || x.s == 11) && (x.g.t == 0 || (x.g.t == 1 || (x.g.t == 2 || x.g.t == 3)))
def okZ (x : QV) : Bool := (x.s == 0 || (x.s == 1 || (x.s == 15 || (x.s == 11 || (decide (102 ≤ x.s) && decide (x.s ≤ 108)))))) && (x.g.t == 0 || (x.g.t == 1 || (x.g.t == 2 || x.g.t == 3)))
def Qm.wr (M : Qm) (w1 : World) (b : Nat) (l : List Bool) : Qm := ⟨M.m, M.fb, M.base, w1, true, b, l, M.ov, M.ol⟩
theorem Qn4 {M : Gm} {N N' : Nat} {w w' : World} {x : GV} {v : Value} (hk : (x.t == 0 || (x.t == 1 || (x.t == 2 || x.t == 3))) = true) (h : GIs M N w x v) : GIs M N' w' x v := by
 obtain ⟨t, k, b, f, p, e⟩ := x
 simp only [Bool.or_eq_true, beq_iff_eq] at hk
 rcases hk with e | e | e | e <;> subst e
 ·show True
  exact trivial
 ·have h2 : v = .int .i64 k := h
  show v = .int .i64 k
  exact h2
 ·have h2 : v = .bool b := h
  show v = .bool b
  exact h2
 ·have h2 : v = pv M.gb := h
  show v = pv M.gb
  exact h2
theorem QG4 {M : Qm} {N s b : Nat} {w : World} {l : List Bool} {x : QV} {v : Value} (hs : s ≤ 8) (h : QI0 M N w s x v) : QI0 (M.wr w b l) 0 w s x v := by
 have : s = 0 ∨ s = 1 ∨ s = 2 ∨ s = 3 ∨ s = 4 ∨ s = 5 ∨ s = 6 ∨ s = 7 ∨ s = 8 := by omega
 rcases this with e | e | e | e | e | e | e | e | e <;> subst e <;> exact h
theorem QI1 {M : Qm} {N N' b : Nat} {w w' : World} {l : List Bool} {x : QV} {v : Value} (hk : okF x = true) (h : QIs M N w x v) : QIs (M.wr w b l) N' w' (fz x) v := by
 unfold okF at hk
 rw [Bool.and_eq_true, Bool.or_eq_true, decide_eq_true_eq, beq_iff_eq] at hk
 obtain ⟨h1, h2⟩ := h
 unfold fz
 by_cases c : x.s ≤ 1 ∨ x.s = 11
 ·rw [if_pos c]
  refine ⟨Qn4 hk.2 h1, ?_⟩
  rw [if_pos oW] at h2 ⊢
  have : x.s = 0 ∨ x.s = 1 ∨ x.s = 11 := by omega
  rcases this with e | e | e
  ·rw [e]; trivial
  ·rw [e] at h2 ⊢; exact h2
  ·rw [e] at h2 ⊢; exact h2
 ·rw [if_neg c]
  refine ⟨Qn4 hk.2 h1, ?_⟩
  rw [if_pos oW] at h2
  show if x.s + 100 < 100 then _ else _
  rw [if_neg oW]
  have hk8 : x.s ≤ 8 := by omega
  have := QG4 (b := b) (l := l) hk8 h2
  show QI0 (M.wr w b l) 0 w (x.s + 100 - 100) _ v
  rw [Nat.add_sub_cancel]
  have e8 := hk8
  have : x.s = 2 ∨ x.s = 3 ∨ x.s = 4 ∨ x.s = 5 ∨ x.s = 6 ∨ x.s = 7 ∨ x.s = 8 := by omega
  rename_i hh
  generalize hs : x.s = s at *
  rcases this with e | e | e | e | e | e | e <;> subst e <;> exact hh
theorem QEf {M M' : Qm} {N N' : Nat} {w w' : World} {x : QV} {v : Value} (hm : M.m = M'.m) (hw1 : M.w1 = M'.w1) (hb : M.blk = M'.blk) (hf : M.fb = M'.fb) (hk : okZ x = true) (h : QIs M N w x v) : QIs M' N' w' x v := by
 obtain ⟨m, fb, base, w1, ph, blk, lst, ov, ol⟩ := M
 obtain ⟨m', fb', base', w1', ph', blk', lst', ov', ol'⟩ := M'
 dsimp only at hm hw1 hb hf
 subst hm hw1 hb hf
 unfold okZ at hk
 rw [Bool.and_eq_true] at hk
 obtain ⟨h1, h2⟩ := h
 refine ⟨Qn4 hk.2 h1, ?_⟩
 have k := hk.1
 simp only [Bool.or_eq_true, Bool.and_eq_true, beq_iff_eq, decide_eq_true_eq] at k
 obtain ⟨g, s, n, q1, q2, q3, q4⟩ := x
 dsimp only at k h2 ⊢
 have : s = 0 ∨ s = 1 ∨ s = 15 ∨ s = 11 ∨ s = 102 ∨ s = 103 ∨ s = 104 ∨ s = 105 ∨ s = 106 ∨ s = 107 ∨ s = 108 := by omega
 rcases this with e | e | e | e | e | e | e | e | e | e | e <;> subst e <;> exact h2
theorem QI2 {M : Qm} {w : World} {x : QV} {v : Value} (hG : QG M w) (hp : M.ph = true) (hk : okZ x = true) (h : QIs M 0 w x v) : QIs M 0 w (uz M.lst x) v := by
 unfold okZ at hk
 rw [Bool.and_eq_true] at hk
 obtain ⟨h1, h2⟩ := h
 obtain ⟨p1, p2, p3, p4⟩ := hG.p hp
 have k := hk.1
 simp only [Bool.or_eq_true, Bool.and_eq_true, beq_iff_eq, decide_eq_true_eq] at k
 unfold uz
 by_cases c : x.s = 15
 ·rw [if_pos c]
  rw [c, if_pos dW] at h2
  have h2 : v = .slice (some ⟨M.blk, 0, none⟩) M.n M.n := h2
  refine Qc0 rfl (by show (4 : Nat) < 100; decide) ⟨.inr ⟨M.blk, 0, M.n, by show v = .slice _ M.lst.length _; rw [p4]; exact h2, p3.lt, fun i y hy => ?_⟩, p4⟩
  have hy : M.lst[i]? = some y := hy
  exact p3.cell (by rw [Nat.zero_add]; unfold Qap; simp [hy])
 ·rw [if_neg c]
  by_cases c2 : 100 ≤ x.s
  ·rw [if_pos c2]
   refine ⟨h1, ?_⟩
   rw [if_neg oW] at h2
   show if x.s - 100 < 100 then _ else _
   rw [if_pos oW]
   have h2 := h2.mono p1
   obtain ⟨g, s, n, q1, q2, q3, q4⟩ := x
   dsimp only at k h2 ⊢
   dsimp only at c c2
   have : s = 102 ∨ s = 103 ∨ s = 104 ∨ s = 105 ∨ s = 106 ∨ s = 107 ∨ s = 108 := by omega
   rcases this with e | e | e | e | e | e | e <;> subst e <;> exact h2
  ·rw [if_neg c2]
   exact ⟨h1, h2⟩
theorem Qh2 {f : QV → QV} (hf : f (QV.x 0 0) = QV.x 0 0) : ∀ {kk : List (Nat × QV)} {x : Nat}, Qao (fun _ => QV.x 0 0) (kk.map (fun p => (p.1, f p.2))) x = f (Qao (fun _ => QV.x 0 0) kk x)
 | [], x => hf.symm
 | p :: kk, x => by
  show (if x = p.1 then f p.2 else Qao (fun _ => QV.x 0 0) (kk.map (fun p => (p.1, f p.2))) x) = f (if x = p.1 then p.2 else Qao (fun _ => QV.x 0 0) kk x)
  by_cases e : x = p.1
  ·rw [if_pos e, if_pos e]
  ·rw [if_neg e, if_neg e]
   exact Qh2 hf
theorem QI3 {x : QV} (hk : okF x = true) : (((fz x).g.t == 12) || ((fz x).s == 9 || (fz x).s == 14)) = false := by
 unfold okF at hk
 simp only [Bool.or_eq_true, Bool.and_eq_true, beq_iff_eq, decide_eq_true_eq] at hk
 have e : (fz x).g = x.g := by unfold fz; split <;> rfl
 have e2 : (fz x).s = x.s ∨ (fz x).s = x.s + 100 := by unfold fz; split; exact .inl rfl; exact .inr rfl
 simp only [Bool.or_eq_false_iff, beq_eq_false_iff_ne, e]
 omega
theorem QI4 {l : List Bool} {x : QV} (hk : okZ x = true) : (((uz l x).g.t == 12) || ((uz l x).s == 9 || (uz l x).s == 14)) = false := by
 unfold okZ at hk
 simp only [Bool.or_eq_true, Bool.and_eq_true, beq_iff_eq, decide_eq_true_eq] at hk
 unfold uz
 split
 ·rfl
 ·split
  ·simp only [Bool.or_eq_false_iff, beq_eq_false_iff_ne]
   omega
  ·simp only [Bool.or_eq_false_iff, beq_eq_false_iff_ne]
   omega
section
variable {M : Qm} {hn : M.n ≤ 256} {hw : Wf M.m.g true} {T : Nat} {w0 : World} {σ : Nat → QV} {ops : Array Oper} {Q : Exit → Act → World → Prop} {id : Nat} {b : Bool} {c2 : Code}
theorem QEg (n d k : Nat) (L : List Nat) (hs : ops.size = n + 1) (hok : okR ops n (n + 1) T = true) (hC : (qE M hn hw).sucT ops (ops.toList.take n) σ = true) (hV : (qE M hn hw).vcT ops ((qE M hn hw).goT (ops.toList.take n) σ) (ops.toList.take n) (gds ops) σ)
  (hL : ∃ ol, ops[n]? = some ol ∧ ol.guard = none ∧ ol.dst = none ∧ ol.op = .store 51 (.tmp d) (.tmp k)) (hW : Qij ops n = true)
  (hd : (qE M hn hw).goT (ops.toList.take n) σ d = .x 9 0) (hk : (qE M hn hw).goT (ops.toList.take n) σ k = .rl 6 L) (hσ : Qik (qE M hn hw).isNo ops n [(d, .rl 8 L)] σ = true)
  (fin : ∀ a w, (qE M hn hw).Ga T w0 (Qao σ [(d, .rl 8 L)]) a w → c2.wp Tryz.prog Q a w) : ∀ a w, (qE M hn hw).Ga T w0 σ a w → ((Code.region id ops b).seq c2).wp Tryz.prog Q a w := by
 intro a1 w1 h1
 obtain ⟨ol, k1, k2, k3, k4⟩ := hL
 refine wp_seq (Eng.reg_last kW n hs hok hC hV k1 k2 hW (fun c x y e => by rw [k4] at e; cases e) h1 (fun L' a w hM _ hops => ?_))
 have vd : QIs M w1.heap.size w ((qE M hn hw).goT (ops.toList.take n) σ d) (a.eval (.tmp d)) := hops d (Qag.2 (by rw [k4]; simp [Op.operands]))
 have vk : QIs M w1.heap.size w ((qE M hn hw).goT (ops.toList.take n) σ k) (a.eval (.tmp k)) := hops k (Qag.2 (by rw [k4]; simp [Op.operands]))
 rw [hd] at vd
 rw [hk] at vk
 obtain ⟨m, vd, hN, hB⟩ : ∃ b, a.eval (.tmp d) = pv b ∧ w1.heap.size ≤ b ∧ Blk w b 51 #[.int .i64 0, .slice none 0 0] := vd.2
 have vk : RT w M.n (a.eval (.tmp k)) L := vk.2
 obtain ⟨s, p, q, hu⟩ := vk.form
 rw [hu] at vk
 obtain ⟨dst, op, ty, pos, af, gd⟩ := ol
 dsimp only at k3 k4
 subst k3 k4
 have hb : Below w1.heap.size w1 ((w.setCell ⟨m, 0, none⟩ (.int .i64 (M.n : Int))).setCell ⟨m, 1, none⟩ (.slice s p q)) := (hM.low.setCell (p := ⟨m, 0, none⟩) hN _).setCell (p := ⟨m, 1, none⟩) hN _
 have ht : Touch m w ((w.setCell ⟨m, 0, none⟩ (.int .i64 (M.n : Int))).setCell ⟨m, 1, none⟩ (.slice s p q)) := ((Touch.of_below (Below.refl _ w)).set _).set _
 have hz := (hB.set 0 (.int .i64 (M.n : Int))).set 1 (.slice s p q)
 simp only [List.setIfInBounds_toArray, List.set_cons_zero, List.set_cons_succ] at hz
 refine wp_skip (Qvp vd hu hB) (fin _ _ ⟨h1.low.trans (hb.mono h1.low.size), QG.mono h1.g hb, fun x => ?_, fun x => ?_, hM.sz, hM.df⟩)
 ·show QIs M 0 _ (Qao σ [(d, .rl 8 L)] x) (a.eval (.tmp x))
  rcases Qbh (σ := σ) (ks := [(d, QV.rl 8 L)]) (x := x) with ⟨q, h2, rfl, h4⟩ | ⟨h2, h3⟩
  ·obtain rfl := List.mem_singleton.1 h2
   rw [h4, vd]
   exact Qc0 rfl (by show (8 : Nat) < 100; decide) ⟨m, s, p, _, rfl, hz, vk.touch hB ht⟩
  ·rw [h3]
   by_cases hw2 : ∃ j, j < n ∧ Qbe ops j = some x
   ·obtain ⟨i, hi, hd⟩ := hw2
    exact (qE M hn hw).any (Qj4 hσ hi hd h2)
   ·rw [hM.rest x (fun i hi _ hd => hw2 ⟨i, hi, hd⟩)]
    exact (qE M hn hw).mono (h1.is x) hb
 ·rcases Qbh (σ := σ) (ks := [(d, QV.rl 8 L)]) (x := x) with ⟨q, h2, rfl, h4⟩ | ⟨h2, h3⟩
  ·obtain rfl := List.mem_singleton.1 h2
   rw [h4]
   rfl
  ·rw [h3]
   exact h1.nw x
theorem Qba (n d k : Nat) (L : List Nat) (fin : ∀ a w, (qE M hn hw).Ga T w0 (Qao σ [(d, .rl 8 L)]) a w → c2.wp Tryz.prog Q a w) (a : Act) (w : World) (h : (qE M hn hw).Ga T w0 σ a w) (hs : ops.size = n + 1 := by rfl) (hok : okR ops n (n + 1) T = true := by as_aux_lemma => kernel_rfl) (hC : (qE M hn hw).sucT ops (ops.toList.take n) σ = true := by as_aux_lemma => kernel_rfl) (hV : True = (qE M hn hw).vcT ops ((qE M hn hw).goT (ops.toList.take n) σ) (ops.toList.take n) (gds ops) σ := by as_aux_lemma => kernel_rfl)
  (hL : ∃ ol, ops[n]? = some ol ∧ ol.guard = none ∧ ol.dst = none ∧ ol.op = .store 51 (.tmp d) (.tmp k) := by exact ⟨_, rfl, rfl, rfl, rfl⟩) (hW : Qij ops n = true := by as_aux_lemma => kernel_rfl)
  (hd : (qE M hn hw).goT (ops.toList.take n) σ d = .x 9 0 := by as_aux_lemma => kernel_rfl) (hk : (qE M hn hw).goT (ops.toList.take n) σ k = .rl 6 L := by as_aux_lemma => kernel_rfl) (hσ : Qik (qE M hn hw).isNo ops n [(d, .rl 8 L)] σ = true := by as_aux_lemma => kernel_rfl) :
  ((Code.region id ops b).seq c2).wp Tryz.prog Q a w := QEg n d k L hs hok hC (hV ▸ trivial) hL hW hd hk hσ fin a w h
theorem QG5 (d j : Nat) (kk : List (Nat × QV)) (hok : okR ops ops.size ops.size T = true) (hC : (qE M hn hw).sucT ops ops.toList (Qao (fun _ => QV.x 0 0) kk) = true) (hV : (qE M hn hw).vcT ops ((qE M hn hw).goT ops.toList (Qao (fun _ => QV.x 0 0) kk)) ops.toList (gds ops) (Qao (fun _ => QV.x 0 0) kk))
  (hd : (qE M hn hw).goT ops.toList (Qao (fun _ => QV.x 0 0) kk) d = .st 14 (List.replicate M.n false)) (hj : j < ops.size) (hj2 : Qbe ops j = some d) (hj3 : (gds ops).getD j [] = []) (hkk : kk.all (fun p => okF p.2 && (List.range ops.size).all (fun j => Qbe ops j != some p.1)) = true)
  (fin : ∀ w1 b a w, QG M w1 → w0.heap.size ≤ w1.heap.size → (qE (M.wr w1 b (List.replicate M.n false)) hn hw).Ga T w0 (Qao (fun _ => QV.x 0 0) ((d, .x 15 0) :: kk.map (fun p => (p.1, fz p.2)))) a w → Q .normal a w) : ∀ a w, (qE M hn hw).Ga T w0 (Qao (fun _ => QV.x 0 0) kk) a w → (Code.region id ops b).wp Tryz.prog Q a w := by
 intro a1 w1 h1
 refine Eng.reg_all kW hok hC hV h1 (fun L a w hl hM => ?_)
 have vd : QIs M w1.heap.size w _ (a.eval (.tmp d)) := (hM.done j d hj (hl j hj) hj2).1 (by rw [hj3]; rfl)
 rw [hd] at vd
 obtain ⟨m, e1, e2, e3, e4⟩ : ∃ b, a.eval (.tmp d) = .slice (some ⟨b, 0, none⟩) M.n M.n ∧ w1.heap.size ≤ b ∧ Blk w b 4 (Qap (List.replicate M.n false)) ∧ (List.replicate M.n false).length = M.n := vd.2
 have hG : QG M w := h1.g.mono hM.low
 refine fin w1 m a w h1.g h1.low.size ⟨h1.low.trans (hM.low.mono h1.low.size), ⟨hG.g, hG.hB, fun _ => ⟨hM.low, e2, e3, e4⟩, hG.o⟩, fun x => ?_, fun x => ?_, hM.sz, hM.df⟩
 ·show QIs (M.wr w1 m _) 0 w _ _
  by_cases e : x = d
  ·rw [show Qao (fun _ => QV.x 0 0) ((d, QV.x 15 0) :: kk.map (fun p => (p.1, fz p.2))) x = QV.x 15 0 from if_pos e, e]
   exact Qc0 rfl (by show (15 : Nat) < 100; decide) e1
  ·rw [show Qao (fun _ => QV.x 0 0) ((d, QV.x 15 0) :: kk.map (fun p => (p.1, fz p.2))) x = Qao (fun _ => QV.x 0 0) (kk.map (fun p => (p.1, fz p.2))) x from if_neg e, Qh2 rfl]
   rcases Qbh (σ := fun _ => QV.x 0 0) (ks := kk) (x := x) with ⟨p, h2, rfl, h4⟩ | ⟨_, h3⟩
   ·have k := List.all_eq_true.1 hkk p h2
    rw [Bool.and_eq_true] at k
    have e5 : a.eval (.tmp p.1) = a1.eval (.tmp p.1) := hM.rest p.1 (fun j hj _ hd => by
     have := List.all_eq_true.1 k.2 j (List.mem_range.2 hj)
     rw [hd] at this
     simp at this)
    have h5 : QIs M 0 w1 (Qao (fun _ => QV.x 0 0) kk p.1) (a1.eval (.tmp p.1)) := h1.is p.1
    rw [h4] at h5
    rw [h4, e5]
    exact QI1 k.1 h5
   ·rw [h3]
    exact (qE (M.wr w1 m (List.replicate M.n false)) hn hw).any rfl
 ·by_cases e : x = d
  ·rw [show Qao (fun _ => QV.x 0 0) ((d, QV.x 15 0) :: kk.map (fun p => (p.1, fz p.2))) x = QV.x 15 0 from if_pos e]
   rfl
  ·rw [show Qao (fun _ => QV.x 0 0) ((d, QV.x 15 0) :: kk.map (fun p => (p.1, fz p.2))) x = Qao (fun _ => QV.x 0 0) (kk.map (fun p => (p.1, fz p.2))) x from if_neg e, Qh2 rfl]
   rcases Qbh (σ := fun _ => QV.x 0 0) (ks := kk) (x := x) with ⟨p, h2, rfl, h4⟩ | ⟨_, h3⟩
   ·have k := List.all_eq_true.1 hkk p h2
    rw [Bool.and_eq_true] at k
    rw [h4]
    exact QI3 k.1
   ·rw [h3]
    rfl
theorem QEh (n d i : Nat) (kk : List (Nat × QV)) (hp : M.ph = true) (hG1 : GG M.m M.w1) (hO1 : M.w1.ownsRow M.base 3 1 M.ov M.ol.length (Qcl M.ol)) (hb1 : M.base ≤ M.w1.heap.size) (hlow1 : w0.heap.size ≤ M.w1.heap.size) (hs : ops.size = n + 1) (hok : okR ops n (n + 1) T = true)
  (hC : (qE M hn hw).sucT ops (ops.toList.take n) (Qao (fun _ => QV.x 0 0) kk) = true) (hV : (qE M hn hw).vcT ops ((qE M hn hw).goT (ops.toList.take n) (Qao (fun _ => QV.x 0 0) kk)) (ops.toList.take n) (gds ops) (Qao (fun _ => QV.x 0 0) kk))
  (hL : ∃ ol, ops[n]? = some ol ∧ ol.guard = none ∧ ol.dst = none ∧ ol.op = .store 4 (.tmp d) (.const (.bool true))) (hW : Qij ops n = true)
  (hd : (qE M hn hw).goT (ops.toList.take n) (Qao (fun _ => QV.x 0 0) kk) d = .x 16 i) (hkk : kk.all (fun p => okZ p.2 && (List.range n).all (fun j => Qbe ops j != some p.1)) = true)
  (fin : ∀ a w, (qE (M.wr M.w1 M.blk (M.lst.set i true)) hn hw).Ga T w0 (Qao (fun _ => QV.x 0 0) kk) a w → Q .normal a w) : ∀ a w, (qE M hn hw).Ga T w0 (Qao (fun _ => QV.x 0 0) kk) a w → (Code.region id ops b).wp Tryz.prog Q a w := by
 intro a1 w1 h1
 obtain ⟨ol, k1, k2, k3, k4⟩ := hL
 refine Eng.reg_last kW n hs hok hC hV k1 k2 hW (fun c x y e => by rw [k4] at e; cases e) h1 (fun L' a w hM _ hops => ?_)
 have vd : QIs M w1.heap.size w ((qE M hn hw).goT (ops.toList.take n) (Qao (fun _ => QV.x 0 0) kk) d) (a.eval (.tmp d)) := hops d (Qag.2 (by rw [k4]; simp [Op.operands]))
 rw [hd] at vd
 obtain ⟨vd, hi⟩ : a.eval (.tmp d) = .pointer (some ⟨M.blk, i, none⟩) ∧ i < M.n := vd.2
 have hG : QG M w := h1.g.mono hM.low
 obtain ⟨p1, p2, p3, p4⟩ := hG.p hp
 have hlow : Below w0.heap.size w0 w := h1.low.trans (hM.low.mono h1.low.size)
 have hc : w.cell? ⟨M.blk, i, none⟩ = some (.bool (M.lst.getD i false)) := p3.cell (by unfold Qap; simp [List.getD_eq_getElem?_getD, List.getElem?_eq_getElem (show i < M.lst.length by omega)])
 obtain ⟨dst, op, ty, pos, af, gd⟩ := ol
 dsimp only at k3 k4
 subst k3 k4
 have q1 : Below M.w1.heap.size M.w1 (w.setCell ⟨M.blk, i, none⟩ (.bool true)) := p1.setCell (p := ⟨M.blk, i, none⟩) p2 _
 have q2 : Below w0.heap.size w0 (w.setCell ⟨M.blk, i, none⟩ (.bool true)) := hlow.setCell (p := ⟨M.blk, i, none⟩) (Nat.le_trans hlow1 p2) _
 have q3 := p3.set i (.bool true)
 rw [show (Qap M.lst).setIfInBounds i (.bool true) = Qap (M.lst.set i true) by unfold Qap; simp [List.map_set]] at q3
 refine wp_skip (QBd vd hc (p3.frozen i)) (fin _ _ ⟨q2, ⟨hG1.mono q1, Nat.le_trans hb1 q1.size, fun _ => ⟨q1, p2, q3, by show (M.lst.set i true).length = M.n; rw [List.length_set]; exact p4⟩, Qah hO1 q1⟩, fun x => ?_, fun x => ?_, hM.sz, hM.df⟩)
 ·show QIs (M.wr M.w1 M.blk _) 0 _ _ _
  rcases Qbh (σ := fun _ => QV.x 0 0) (ks := kk) (x := x) with ⟨p, h2, rfl, h4⟩ | ⟨_, h3⟩
  ·have k := List.all_eq_true.1 hkk p h2
   rw [Bool.and_eq_true] at k
   have e5 : a.eval (.tmp p.1) = a1.eval (.tmp p.1) := hM.rest p.1 (fun j hj _ hd => by
    have := List.all_eq_true.1 k.2 j (List.mem_range.2 hj)
    rw [hd] at this
    simp at this)
   have h5 : QIs M 0 w1 (Qao (fun _ => QV.x 0 0) kk p.1) (a1.eval (.tmp p.1)) := h1.is p.1
   rw [h4] at h5
   rw [h4]
   show QIs _ 0 _ p.2 (a.eval (.tmp p.1))
   rw [e5]
   exact QEf (M := M) (M' := M.wr M.w1 M.blk (M.lst.set i true)) rfl rfl rfl rfl k.1 h5
  ·rw [h3]
   exact (qE (M.wr M.w1 M.blk (M.lst.set i true)) hn hw).any rfl
 ·exact h1.nw x
theorem QI5 {kk : List (Nat × QV)} {a : Act} {w : World} (hp : M.ph = true) (hkk : kk.all (fun p => okZ p.2) = true) (h : (qE M hn hw).Ga T w0 (Qao (fun _ => QV.x 0 0) kk) a w) : (qE M hn hw).Ga T w0 (Qao (fun _ => QV.x 0 0) (kk.map (fun p => (p.1, uz M.lst p.2)))) a w := by
 refine ⟨h.low, h.g, fun x => ?_, fun x => ?_, h.sz, h.df⟩
 ·show QIs M 0 w _ _
  rw [Qh2 rfl]
  rcases Qbh (σ := fun _ => QV.x 0 0) (ks := kk) (x := x) with ⟨p, h2, rfl, h4⟩ | ⟨_, h3⟩
  ·have h5 : QIs M 0 w (Qao (fun _ => QV.x 0 0) kk p.1) (a.eval (.tmp p.1)) := h.is p.1
   rw [h4] at h5 ⊢
   exact QI2 h.g hp (List.all_eq_true.1 hkk p h2) h5
  ·rw [h3]
   exact (qE M hn hw).any rfl
 ·rw [Qh2 rfl]
  rcases Qbh (σ := fun _ => QV.x 0 0) (ks := kk) (x := x) with ⟨p, h2, rfl, h4⟩ | ⟨_, h3⟩
  ·rw [h4]
   exact QI4 (List.all_eq_true.1 hkk p h2)
  ·rw [h3]
   rfl
theorem QEi (n k : Nat) (l : List (List Nat)) (hl : l.length = 5) (hs : ops.size = n + 1) (hok : okR ops n (n + 1) T = true) (hC : (qE M hn hw).sucT ops (ops.toList.take n) σ = true) (hV : (qE M hn hw).vcT ops ((qE M hn hw).goT (ops.toList.take n) σ) (ops.toList.take n) (gds ops) σ)
  (hL : ∃ ol, ops[n]? = some ol ∧ ol.guard = none ∧ ol.dst = none ∧ ol.op = .store 53 (.tmp 2) (.tmp k)) (hW : Qij ops n = true)
  (h2 : (qE M hn hw).goT (ops.toList.take n) σ 2 = .x 11 0) (hk : (qE M hn hw).goT (ops.toList.take n) σ k = .rs 10 l)
  {old : Array Value} (hX : Blk w0 M.fb 53 old) (ho : old.size = 10) {fn : Func} {R : Ending → World → Prop} (hfn : fn.results = #[.cell 2 53])
  (hR : ∀ v w1 w', Below w0.heap.size w0 w1 → Touch M.fb w1 w' → FcA w' M.n v l → R (.returned v) w') : ∀ a w, (qE M hn hw).Ga T w0 σ a w → ((Code.region id ops b).seq Code.ret).wp Tryz.prog (bodyPost Tryz.prog fn R) a w := by
 intro a1 w1 h1
 obtain ⟨ol, k1, k2, k3, k4⟩ := hL
 refine wp_seq (Eng.reg_last kW n hs hok hC hV k1 k2 hW (fun c x y e => by rw [k4] at e; cases e) h1 (fun L' a w hM _ hops => ?_))
 have vd : QIs M w1.heap.size w ((qE M hn hw).goT (ops.toList.take n) σ 2) (a.eval (.tmp 2)) := hops 2 (Qag.2 (by rw [k4]; simp [Op.operands]))
 have vk : QIs M w1.heap.size w ((qE M hn hw).goT (ops.toList.take n) σ k) (a.eval (.tmp k)) := hops k (Qag.2 (by rw [k4]; simp [Op.operands]))
 rw [h2] at vd
 rw [hk] at vk
 have vd : a.eval (.tmp 2) = .pointer (some ⟨M.fb, 0, none⟩) := vd.2
 have vk : FcA w M.n (a.eval (.tmp k)) l := vk.2
 obtain ⟨qs, he, hq1, hq2⟩ := vk
 have hqs : qs.length = 5 := by rw [← hl, ← hq1, List.length_map]
 have hlow : Below w0.heap.size w0 w := h1.low.trans (hM.low.mono h1.low.size)
 have hB : Blk w M.fb 53 old := hX.of_below hlow
 have hsz : (qs.flatMap (fun q => [Value.int .i64 (M.n : Int), .slice q.1 q.2.1 q.2.2.1])).toArray.size = 10 := by
  rw [List.size_toArray, Qvq, hqs]
 have hinf : (Tryz.prog.info? 53).map (·.size) = some 10 := by kernel_rfl
 have ht := Touch.rowQ w M.fb (qs.flatMap (fun q => [Value.int .i64 (M.n : Int), .slice q.1 q.2.1 q.2.2.1])).toArray
 refine wp_store_row 53 (.tmp 2) (.tmp k) k4 M.fb _ vd he 53 old hB (by rw [hsz]; exact hinf) (by rw [ho, hsz]) (by rw [List.all_toArray]; exact Qvr qs) ?_
 rw [k3]
 refine wp_ret ⟨hM.df, _, results_cell_row hfn a.tmps _ M.fb _ _ (0, 0) _ vd (setRow_heap w M.fb old _ _ _ hB) Tryz.underlying53 rfl (by rw [hsz]; exact hinf), ?_⟩
 refine hR _ w _ hlow ht ⟨qs, rfl, hq1, fun q hq => ?_⟩
 obtain ⟨x, y, z, rb, F, e, k1, k2⟩ := hq2 q hq
 exact ⟨x, y, z, rb, F, e, k1.touchF hB ht, k2⟩
end
section
variable (g : Gr)
def idn (l : List Bool) : List Nat := Qa6 (g.evs.length : Int) l
def Qf3 (a b : List Bool) : List Bool := List.zipWith (fun a b => a && b) a b
def Qbi (A : List Nat) (l : List (List Nat)) : List Nat := l.foldl Qaw A
def Qdi (A : List Nat) (l : List (List Nat)) : List Nat := l.foldl (fun A B => Qar [A, B]) A
def LsT (k : Nat) : List Bool := (g.rmw.take k).foldl (fun l p => l.set p.2.toNat true) (List.replicate g.evs.length false)
def wQ : List Nat := idn g (Qay g 2)
def rQ : List Nat := idn g (Qay g 1)
def aQ : List Nat := idn g (Qf3 (Qay g 1) (mdL g [12]))
def qQ : List Nat := idn g (Qf3 (Qay g 1) (mdL g [12, 16]))
def lQ : List Nat := idn g (Qf3 (Qay g 2) (mdL g [13]))
def dQ : List Nat := idn g (mdL g [14])
def yQ : List Nat := idn g (mdL g [15])
def adQ : List Nat := Qc8 g.evs.length (Qbn g.addr)
def daQ : List Nat := Qc8 g.evs.length (Qbn g.dat)
def ctQ : List Nat := Qc8 g.evs.length (Qbn g.ctrl)
def rfE : List Nat := Qbk (LG g 1) (LG g 6)
def rfI : List Nat := Qcn (LG g 1) (LG g 6)
def coI : List Nat := Qcn (LG g 2) (LG g 6)
def Qr3 : List Nat := Qdi (rfE g) [Qbk (LG g 2) (LG g 6), Qbk (LG g 3) (LG g 6)]
def Qr4 : List Nat := Qdi (adQ g) [daQ g, Qbi (ctQ g) [wQ g], Qbi (adQ g) [LG g 0, wQ g], Qbi (Qdi (ctQ g) [daQ g]) [coI g], Qbi (Qdi (adQ g) [daQ g]) [rfI g]]
def Qr5 : List Nat := Qdi (LG g 4) [Qbi (idn g (LsT g g.rmw.length)) [rfI g, qQ g]]
def Qr6 : List Nat := Qdi (Qbi (LG g 0) [yQ g, LG g 0]) [Qbi (rQ g) [LG g 0, dQ g, LG g 0], Qbi (lQ g) [LG g 0, aQ g], Qbi (qQ g) [LG g 0], Qbi (LG g 0) [lQ g], Qbi (LG g 0) [lQ g, coI g]]
def fcQ : List (List Nat) := [Qr3 g, Qr4 g, Qr5 g, Qr6 g, Qdi (Qr3 g) [Qr4 g, Qr5 g, Qr6 g]]
theorem QBe {k : Nat} (hk : k < g.rmw.length) : LsT g (k + 1) = (LsT g k).set (g.rmw.getD k (0, 0)).2.toNat true := by
 unfold LsT
 rw [List.take_succ_eq_append_getElem hk, List.foldl_append, List.getD_eq_getElem?_getD, List.getElem?_eq_getElem hk]
 rfl
end
theorem Qvs {g : Gr} {q : Bool} (h : Wf g q) {k : Nat} (hk : k < g.rmw.length) : ∃ a b : Nat, g.rmw[k]? = some (((a : Nat) : Int), ((b : Nat) : Int)) ∧ a < g.evs.length ∧ b < g.evs.length := by
 have h6 : Qfb g = -1 := h 5 oW
 have h7 := Qvn h6 k (Nat.zero_le _) oW
 have e : g.rmw.getD k (0, 0) = g.rmw[k] := by rw [List.getD_eq_getElem?_getD, List.getElem?_eq_getElem hk]; rfl
 rw [Bool.not_eq_false', Bool.and_eq_true, e] at h7
 have h8 := h7.2
 unfold okU Qgk at h8
 simp only [Bool.and_eq_true] at h8
 obtain ⟨a, ha, ha2⟩ := Qcj h8.1.1.1
 obtain ⟨b, hb, hb2⟩ := Qcj h8.1.1.2
 refine ⟨a, b, ?_, ha2, hb2⟩
 rw [List.getElem?_eq_getElem hk, ← ha, ← hb]
theorem QI6 {g : Gr} {q : Bool} (h : Wf g q) {k : Nat} (hk : k < g.rmw.length) : 0 ≤ (g.rmw.getD k (0, 0)).2 ∧ (g.rmw.getD k (0, 0)).2 < (g.evs.length : Int) := by
 obtain ⟨a, b, e, _, hb⟩ := Qvs h hk
 rw [List.getD_eq_getElem?_getD, e]
 exact ⟨Int.natCast_nonneg _, Int.ofNat_lt.2 hb⟩
theorem QI7 {M : Qm} {hn : M.n ≤ 256} {hw : Wf M.m.g true} {T : Nat} {w0 w : World} {σ : Nat → QV} {a : Act} (h : (qE M hn hw).Ga T w0 σ a w) (d : Nat) (q : Bool) (e : σ d = QV.bo q) : a.eval (.tmp d) = .bool q := by
 have h1 : QIs M 0 w (σ d) (a.eval (.tmp d)) := h.is d
 rw [e] at h1
 exact h1.1
def qm (w : World) (V : GrV) (g : Gr) : Qm := ⟨⟨w.heap.size, V, g, V.rf, g.rf⟩, w.heap.size + 1, 0, w, false, 0, [], .slice none 0 0, []⟩
def kk0 (g : Gr) : List (Nat × QV) := [(1, .b_ (.at 3 0)), (2, .x 11 0), (3, ⟨.nu (g.evs.length : Int), 1, 0, [], [], [], []⟩), (4, .rl 8 (LG g 0)), (5, .rl 8 (LG g 1)), (6, .rl 8 (LG g 2)), (7, .rl 8 (LG g 3)), (8, .rl 8 (LG g 6)), (9, .rl 8 (adQ g)), (10, .rl 8 (daQ g)), (11, .rl 8 (ctQ g)), (14, .rl 8 (wQ g)), (15, .rl 8 (rQ g)), (16, .rl 8 (aQ g)), (17, .rl 8 (qQ g)), (18, .rl 8 (lQ g)), (19, .rl 8 (dQ g)), (20, .rl 8 (yQ g))]
def kk1 (g : Gr) : List (Nat × QV) := (21, QV.x 15 0) :: (kk0 g).map (fun p => (p.1, fz p.2))
def kk2 (g : Gr) (k : Nat) : List (Nat × QV) := (22, QV.nu ((k : Nat) : Int)) :: kk1 g
def kk3 (g : Gr) (l : List Bool) : List (Nat × QV) := (21, QV.st 4 l) :: kk0 g
theorem Qn5 (V : GrV) (g : Gr) (w : World) (h : GrR w V g) (hn : g.evs.length ≤ 256) (hw : Wf g true) : Calls Tryz.prog 19 #[V.val g] w fun e w' => ∃ v, e = .returned v ∧ FcA w' g.evs.length v (fcQ g) ∧ Below w.heap.size w w' := by
 have H := Qa h
 obtain ⟨-, -, -, -, hr4⟩ := Qab h.rmw
 have HR := Qa hr4
 clear hr4
 unfold GrV.val
 clear h
 go_enter Tryz.func19, Tryz.ntmps19
 go_upto_region 1 with fail
 have hB0 : Below w.heap.size w ((w.alloc (.cells #[.int .i64 g.cells, V.ev, V.rf, V.co, V.rmw, V.addr, V.dat, V.ctrl] 27)).alloc (.cells #[.int .i64 0, .slice none 0 0, .int .i64 0, .slice none 0 0, .int .i64 0, .slice none 0 0, .int .i64 0, .slice none 0 0, .int .i64 0, .slice none 0 0] 53)) := ((Below.refl _ w).alloc nW _).alloc sW _
 generalize hW : (w.alloc (.cells #[.int .i64 g.cells, V.ev, V.rf, V.co, V.rmw, V.addr, V.dat, V.ctrl] 27)).alloc (.cells #[.int .i64 0, .slice none 0 0, .int .i64 0, .slice none 0 0, .int .i64 0, .slice none 0 0, .int .i64 0, .slice none 0 0, .int .i64 0, .slice none 0 0] 53) = W0
 have hgx : Blk W0 w.heap.size 27 #[.int .i64 g.cells, V.ev, V.rf, V.co, V.rmw, V.addr, V.dat, V.ctrl] := by rw [← hW]; exact (Blk.new w _ _).alloc _
 have hrx : Blk W0 (w.heap.size + 1) 53 #[.int .i64 0, .slice none 0 0, .int .i64 0, .slice none 0 0, .int .i64 0, .slice none 0 0, .int .i64 0, .slice none 0 0, .int .i64 0, .slice none 0 0] := by rw [← hW]; exact Blk.new2 w _ _ _
 rw [hW] at hB0
 clear hW
 have HB := Qa hB0
 have HX := Qa hrx
 rename_i hK
 refine Eng.reg_keep (E := qE (qm w V g) hn hw) (T := 211) (w0 := W0) (σ := Qao (fun _ => QV.x 0 0) [(1, .b_ (.at 3 0)), (2, .x 11 0)]) [(3, ⟨.nu (g.evs.length : Int), 1, 0, [], [], [], []⟩)] byK byK byK byT byK byK byK (fun a w1 h => hK a w1 ?_) _ _
  (Qmb (E := qE (qm w V g) hn hw) (QV.x 0 0) [(1, .b_ (.at 3 0)), (2, .x 11 0)] rfl rfl bW ⟨⟨H.out.below HB.out, hgx, H.out.rf.below HB.out, hn⟩, Nat.zero_le _, (fun e => by cases e), ⟨rfl, .inl ⟨rfl, rfl⟩⟩⟩ (by intro p hp; simp only [List.mem_cons, List.not_mem_nil, or_false] at hp; rcases hp with rfl | rfl <;> first | exact ⟨⟨rfl, trivial⟩, rfl⟩ | exact ⟨⟨trivial, rfl⟩, rfl⟩) rfl rfl)
 clear hB0 hgx hrx
 revert a w1 h
 refine fun a w1 h => Qba (M := qm w V g) (hn := hn) (hw := hw) 3 4 34 (LG g 0) ?_ a w1 h; clear h a w1
 refine fun a w1 h => Qba (M := qm w V g) (hn := hn) (hw := hw) 3 5 36 (LG g 1) ?_ a w1 h; clear h a w1
 refine fun a w1 h => Qba (M := qm w V g) (hn := hn) (hw := hw) 3 6 38 (LG g 2) ?_ a w1 h; clear h a w1
 refine fun a w1 h => Qba (M := qm w V g) (hn := hn) (hw := hw) 3 7 40 (LG g 3) ?_ a w1 h; clear h a w1
 refine fun a w1 h => Qba (M := qm w V g) (hn := hn) (hw := hw) 3 8 42 (LG g 6) ?_ a w1 h; clear h a w1
 refine fun a w1 h => Qba (M := qm w V g) (hn := hn) (hw := hw) 5 9 46 (adQ g) ?_ a w1 h; clear h a w1
 refine fun a w1 h => Qba (M := qm w V g) (hn := hn) (hw := hw) 5 10 50 (daQ g) ?_ a w1 h; clear h a w1
 refine fun a w1 h => Qba (M := qm w V g) (hn := hn) (hw := hw) 5 11 54 (ctQ g) ?_ a w1 h; clear h a w1
 refine Eng.reg_seq (E := qE (qm w V g) hn hw) [(12, .st 4 (Qay g 1))] byK byK byK byT byK byK byK ?_
 refine Eng.reg_seq (E := qE (qm w V g) hn hw) [(13, .st 4 (Qay g 2))] byK byK byK byT byK byK byK ?_
 refine fun a w1 h => Qba (M := qm w V g) (hn := hn) (hw := hw) 4 14 61 (wQ g) ?_ a w1 h; clear h a w1
 refine fun a w1 h => Qba (M := qm w V g) (hn := hn) (hw := hw) 4 15 64 (rQ g) ?_ a w1 h; clear h a w1
 refine fun a w1 h => Qba (M := qm w V g) (hn := hn) (hw := hw) 8 16 71 (aQ g) ?_ a w1 h; clear h a w1
 refine fun a w1 h => Qba (M := qm w V g) (hn := hn) (hw := hw) 8 17 78 (qQ g) ?_ a w1 h; clear h a w1
 refine fun a w1 h => Qba (M := qm w V g) (hn := hn) (hw := hw) 8 18 85 (lQ g) ?_ a w1 h; clear h a w1
 refine fun a w1 h => Qba (M := qm w V g) (hn := hn) (hw := hw) 6 19 90 (dQ g) ?_ a w1 h; clear h a w1
 refine fun a w1 h => Qba (M := qm w V g) (hn := hn) (hw := hw) 6 20 95 (yQ g) ?_ a w1 h; clear h a w1
 refine fun a w1 h => wp_seq (QG5 (M := (qm w V g)) (hn := hn) (hw := hw) 21 2 (kk0 g) byK byK byT byK dW rfl byK byK (fun W1 b a2 w2 hG1 hL1 h2 => ?_) a w1 (h.to (QV.x 0 0) (kk0 g) rfl rfl byK))
 clear h a w1
 refine wp_seq (Eng.reg_seq (E := qE ((qm w V g).wr W1 b (List.replicate g.evs.length false)) hn hw) [(22, .nu ((0 : Nat) : Int))] byK byK byK byT byK byK byK (fun a w3 h => ?_) a2 w2 h2)
 clear h2 a2 w2
 refine Qf6 g.rmw.length (fun k a w3 => (qE ((qm w V g).wr W1 b (LsT g k)) hn hw).Ga 211 W0 (Qao (fun _ => QV.x 0 0) (kk2 g k)) a w3) (h.to (QV.x 0 0) (kk2 g 0) rfl rfl byK) ?_
 clear h a w3
 intro k a w3 hk hga
 refine Eng.reg_keep (E := qE ((qm w V g).wr W1 b (LsT g k)) hn hw) [(102, QV.bo (decide (((k : Nat) : Int) < (g.rmw.length : Int))))] byK byK byK byT byK byK byK (fun a w3 hga => ?_) a w3 hga
 refine ⟨_, QI7 hga 102 (decide (((k : Nat) : Int) < (g.rmw.length : Int))) byK, fun hq => ?_, fun hq => ?_⟩
 case refine_2 =>
  have hkn : k < g.rmw.length := by simpa using hq
  have hr2 := QI6 hw hkn
  have hR := HR.out
  refine ⟨hkn, ?_⟩
  replace hga := hga.to (QV.x 0 0) (kk2 g k) rfl rfl byK
  refine QEh (M := ((qm w V g).wr W1 b (LsT g k))) (hn := hn) (hw := hw) 8 112 (g.rmw.getD k (0, 0)).2.toNat (kk2 g k) rfl hG1.g hG1.o (Nat.zero_le _) hL1 rfl byK byK (Qd4 (p := (true = true → (0 ≤ ((k : Nat) : Int) ∧ ((k : Nat) : Int) < (g.rmw.length : Int))) ∧ (true = true → (0 ≤ (g.rmw.getD k (0, 0)).2 ∧ (g.rmw.getD k (0, 0)).2 < (g.evs.length : Int))) ∧ True) byK ⟨fun _ => ⟨oW, oW⟩, fun _ => hr2, trivial⟩) ⟨_, rfl, rfl, rfl, rfl⟩ byK byK byK (fun a w3 hga => ?_) a w3 hga
  have hga : (qE ((qm w V g).wr W1 b (LsT g (k + 1))) hn hw).Ga 211 W0 (Qao (fun _ => QV.x 0 0) (kk2 g k)) a w3 := by rw [QBe g hkn]; exact hga
  refine Eng.reg_keep (E := qE ((qm w V g).wr W1 b (LsT g (k + 1))) hn hw) [(22, QV.nu (((k + 1 : Nat)) : Int))] byK byK byK (Qd4 (p := (true = true → ((-9223372036854775808 : Int) ≤ ((k : Nat) : Int) + 1 ∧ ((k : Nat) : Int) + 1 < 9223372036854775808)) ∧ True) byK ⟨fun _ => ⟨oW, oW⟩, trivial⟩) byK byK byK (fun a w3 hga => ?_) a w3 hga
  exact hga.to (QV.x 0 0) (kk2 g (k + 1)) rfl rfl byK
 case refine_1 =>
  obtain rfl : k = g.rmw.length := by have : ¬ k < g.rmw.length := (by simpa using hq); omega
  have h := (QI5 (M := ((qm w V g).wr W1 b (LsT g g.rmw.length))) (hn := hn) (hw := hw) (kk := kk1 g) rfl byK (hga.to (QV.x 0 0) (kk1 g) rfl rfl byK)).to (QV.x 0 0) (kk3 g (LsT g g.rmw.length)) rfl rfl byK
  clear hga hq hk
  revert a w3 h
  refine fun a w3 h => Qba (M := (qm w V g).wr W1 b (LsT g g.rmw.length)) (hn := hn) (hw := hw) 4 23 115 (rfE g) ?_ a w3 h; clear h a w3
  refine fun a w3 h => Qba (M := (qm w V g).wr W1 b (LsT g g.rmw.length)) (hn := hn) (hw := hw) 4 24 118 (rfI g) ?_ a w3 h; clear h a w3
  refine fun a w3 h => Qba (M := (qm w V g).wr W1 b (LsT g g.rmw.length)) (hn := hn) (hw := hw) 4 25 121 (coI g) ?_ a w3 h; clear h a w3
  refine fun a w3 h => Qba (M := (qm w V g).wr W1 b (LsT g g.rmw.length)) (hn := hn) (hw := hw) 10 26 130 (Qr3 g) ?_ a w3 h; clear h a w3
  refine fun a w3 h => Qba (M := (qm w V g).wr W1 b (LsT g g.rmw.length)) (hn := hn) (hw := hw) 28 27 157 (Qr4 g) ?_ a w3 h; clear h a w3
  refine fun a w3 h => Qba (M := (qm w V g).wr W1 b (LsT g g.rmw.length)) (hn := hn) (hw := hw) 12 28 168 (Qr5 g) ?_ a w3 h; clear h a w3
  refine fun a w3 h => Qba (M := (qm w V g).wr W1 b (LsT g g.rmw.length)) (hn := hn) (hw := hw) 32 29 199 (Qr6 g) ?_ a w3 h; clear h a w3
  refine QEi (M := ((qm w V g).wr W1 b (LsT g g.rmw.length))) (hn := hn) (hw := hw) 11 210 (fcQ g) rfl rfl byK byK byT ⟨_, rfl, rfl, rfl, rfl⟩ byK byK byK HX.out rfl rfl ?_
  intro v w1 w' h1 ht hv
  have h2 := Qaa HB.out HB.out.size h1
  exact ⟨v, rfl, hv, h2.trans (ht.below (by show w.heap.size ≤ w.heap.size + 1; omega) h2.size)⟩
open Relation
theorem QG6 {n : Nat} {F : Nat → Nat → Bool} {p q : Nat} (h : hs (Qc8 n F) p q) : p < n ∧ q < n ∧ F p q = true := by
 have hp := Qbb h
 rw [Qfj] at hp
 have h2 := h
 unfold hs at h2
 rw [Ql5 n F hp, Qga, Bool.and_eq_true, decide_eq_true_iff] at h2
 exact ⟨hp, h2.1, h2.2⟩
theorem Qn6 {n : Nat} (hn : n ≤ 256) {l : List Bool} {p q : Nat} (h : hs (Qa6 ((n : Nat) : Int) l) p q) : p = q ∧ l.getD p false = true := by
 unfold Qa6 at h
 rw [Qei hn] at h
 rw [Qhk _ _ (fun q hq => by rw [List.length_replicate]; exact ((Qf1 hn l q).1 hq).1), Qf1 hn] at h
 rcases h with h | h
 ·exact absurd h (Qgq _ _ _)
 ·exact ⟨h.1, h.2.2⟩
theorem Qr7 {n : Nat} (hn : n ≤ 256) (l : List Bool) : WF n (Qa6 ((n : Nat) : Int) l) := by
 refine ⟨by unfold Qa6; rw [Qgs, List.length_replicate, Qei hn], fun p q h => ?_⟩
 have hp := Qbb h
 have := Qn6 hn h
 unfold Qa6 at hp
 rw [Qgs, List.length_replicate, Qei hn] at hp
 omega
theorem Qn7 {P : Ev → Bool} {evs : List Ev} {p : Nat} (h : (Qbd P evs).getD p false = true) : p < evs.length ∧ P (evs.getD p Ev.zero) = true := by
 unfold Qbd at h
 rw [List.getD_eq_getElem?_getD, List.getElem?_map] at h
 cases he : evs[p]? with
 | none => rw [he] at h; simp at h
 | some e =>
  rw [he] at h
  simp at h
  refine ⟨(List.getElem?_eq_some_iff.1 he).1, ?_⟩
  rw [List.getD_eq_getElem?_getD, he]
  exact h
section
variable {g : Gr} {p q : Nat}
theorem Qk4 (hn : g.evs.length ≤ 256) {x : Int} (h : hs (Qa6 (g.evs.length : Int) (Qay g x)) p q) : p = q ∧ p < g.evs.length ∧ (g.ev p).k = x := by
 obtain ⟨h1, h2⟩ := Qn6 hn h
 have h3 := Qn7 h2
 exact ⟨h1, h3.1, by have := h3.2; exact beq_iff_eq.1 this⟩
theorem Qgt (hn : g.evs.length ≤ 256) {ms : List Int} (h : hs (Qa6 (g.evs.length : Int) (mdL g ms)) p q) : p = q ∧ p < g.evs.length ∧ (g.ev p).m ∈ ms := by
 obtain ⟨h1, h2⟩ := Qn6 hn h
 have h3 := Qn7 h2
 exact ⟨h1, h3.1, by have := h3.2; exact List.contains_iff_mem.1 this⟩
theorem Qai (g : Gr) (i : Nat) : WF g.evs.length (LG g i) := by
 match i with
 | 0 => exact Qdk _ _
 | 1 => exact Qdk _ _
 | 2 => exact Qdk _ _
 | 3 => exact Qdk _ _
 | 4 => exact Qdk _ _
 | 5 => exact Qdk _ _
 | 6 => exact Qdk _ _
 | 7 => exact Qdk _ _
 | 8 => exact Qdk _ _
 | n + 9 => exact Qdk _ _
end
theorem Qd3 {n : Nat} (hn : n ≤ 256) {l : List Bool} {p q : Nat} : hs (Qa6 ((n : Nat) : Int) l) p q ↔ p = q ∧ p < n ∧ l.getD p false = true := by
 unfold Qa6
 rw [Qei hn, Qhk _ _ (fun q hq => by rw [List.length_replicate]; exact ((Qf1 hn l q).1 hq).1), Qf1 hn]
 constructor
 ·rintro (h | h)
  ·exact absurd h (Qgq _ _ _)
  ·exact h
 ·exact .inr
theorem Qr8 : ∀ (l : List Nat) (X : List Bool) (q : Nat), q < X.length → (Qe1 X l)[q]? = some (decide (q ∈ l) || X.getD q false)
 | [], X, q, hq => by simp [Qe1, hq]
 | x :: l, X, q, hq => by
  show (Qe1 (X.set x true) l)[q]? = _
  rw [Qr8 l _ q (by rw [List.length_set]; exact hq)]
  congr 1
  rw [List.getD_eq_getElem?_getD, List.getElem?_set]
  by_cases e : x = q
  ·subst e; simp [hq]
  ·rw [if_neg e]
   have e' : ¬ q = x := fun h => e h.symm
   simp [e', hq]
theorem Qvt {n : Nat} {L : List Nat} (hn : n ≤ 256) (hL : WF n L) {l : List Bool} {q : Nat} : (Qhb L l).getD q false = true ↔ q < n ∧ ∃ m, l.getD m false = true ∧ hs L m q := by
 unfold Qhb
 have key : ∀ q, q ∈ Qae (Qal L (Qae (Qc4 L.length l))) ↔ ∃ m, l.getD m false = true ∧ hs L m q := fun q => by
  rw [Qa1]
  unfold Qal
  rw [Qh]
  constructor
  ·rintro ⟨_, h | ⟨p, hp, h⟩⟩
   ·simp at h
   ·rw [hL.len, Qf1 hn] at hp
    exact ⟨p, hp.2, h⟩
  ·rintro ⟨m, hm, h⟩
   refine ⟨Nat.lt_of_lt_of_le (hL.low _ _ h) hn, .inr ⟨m, ?_, h⟩⟩
   rw [hL.len, Qf1 hn]
   exact ⟨by have := Qbb h; rw [hL.len] at this; exact this, hm⟩
 by_cases hq : q < n
 ·rw [List.getD_eq_getElem?_getD, Qr8 _ _ q (by rw [List.length_replicate, hL.len]; exact hq), Option.getD_some, Bool.or_eq_true, decide_eq_true_iff, key]
  constructor
  ·rintro (h | h)
   ·exact ⟨hq, h⟩
   ·simp [List.getD_eq_getElem?_getD, hL.len, hq] at h
  ·exact fun h => .inl h.2
 ·constructor
  ·intro h
   rw [List.getD_eq_getElem?_getD, List.getElem?_eq_none (by rw [Qh1, List.length_replicate, hL.len]; omega)] at h
   cases h
  ·exact fun h => absurd h.1 hq
theorem Qr9 : ∀ (Ls : List (List Nat)) (X : List Nat), (Ls.foldl (fun A L => Qcv A L L.length) X).length = X.length
 | [], _ => rfl
 | L :: Ls, X => by rw [List.foldl_cons, Qr9 Ls, Qa7]
theorem Qvu {n : Nat} (p q : Nat) : ∀ (Ls : List (List Nat)) (X : List Nat), X.length = n → (∀ L ∈ Ls, WF n L) → (hs (Ls.foldl (fun A L => Qcv A L L.length) X) p q ↔ hs X p q ∨ ∃ L ∈ Ls, hs L p q)
 | [], X, _, _ => by simp
 | L :: Ls, X, hX, h => by
  rw [List.foldl_cons, Qvu p q Ls _ (by rw [Qa7, hX]) (fun M hM => h M (List.mem_cons_of_mem _ hM)), Qtv hX (h L List.mem_cons_self)]
  simp [or_assoc]
theorem QBf {n : Nat} : ∀ (Ls : List (List Nat)) (k : Nat), k ≤ n → (∀ L ∈ Ls, WF n L) → Ls ≠ [] → Ls.foldl (fun n L => max n L.length) k = n
 | [], _, _, _, h => absurd rfl h
 | [L], k, hk, h, _ => by rw [List.foldl_cons, (h L List.mem_cons_self).len]; simp only [List.foldl]; omega
 | L :: M :: Ls, k, hk, h, _ => by
  rw [List.foldl_cons]
  exact QBf (M :: Ls) _ (by rw [(h L List.mem_cons_self).len]; omega) (fun A hA => h A (List.mem_cons_of_mem _ hA)) sW
theorem Qh3 {n : Nat} {Ls : List (List Nat)} (h : ∀ L ∈ Ls, WF n L) (hne : Ls ≠ []) (p q : Nat) : hs (Qar Ls) p q ↔ ∃ L ∈ Ls, hs L p q := by
 unfold Qar
 rw [Qvu (n := n) p q Ls _ (by rw [List.length_replicate]; exact QBf Ls 0 (Nat.zero_le _) h hne) h]
 constructor
 ·rintro (h | h)
  ·exact absurd h (Qgq _ _ _)
  ·exact h
 ·exact .inr
theorem Qg0 {n : Nat} {Ls : List (List Nat)} (h : ∀ L ∈ Ls, WF n L) (hne : Ls ≠ []) : WF n (Qar Ls) := by
 refine ⟨by unfold Qar; rw [Qr9, List.length_replicate]; exact QBf Ls 0 (Nat.zero_le _) h hne, fun p q k => ?_⟩
 obtain ⟨L, hL, k⟩ := (Qh3 h hne p q).1 k
 exact (h L hL).low _ _ k
section
variable (g : Gr)
abbrev Rg (k p q : Nat) : Prop := hs (LG g k) p q
def ClP : Nat → Nat → Nat → Prop
 | 0, p, q => Rg g 1 p q ∧ Rg g 6 p q
 | 1, p, q => Rg g 2 p q ∧ Rg g 6 p q
 | 2, p, q => Rg g 3 p q ∧ Rg g 6 p q
 | 3, p, q => Rg g 7 p q
 | 4, p, q => Rg g 8 p q
 | 5, p, q => Rg g 9 p q ∧ (g.ev q).k = 2
 | 6, p, q => ∃ m, Rg g 7 p m ∧ Rg g 0 m q ∧ (g.ev q).k = 2
 | 7, p, q => ∃ m, (Rg g 9 p m ∨ Rg g 8 p m) ∧ Rg g 2 m q ∧ ¬ Rg g 6 m q
 | 8, p, q => ∃ m, (Rg g 7 p m ∨ Rg g 8 p m) ∧ Rg g 1 m q ∧ ¬ Rg g 6 m q
 | 9, p, q => Rg g 4 p q
 | 10, p, q => (∃ m, (g.ev m).k = 1 ∧ Rg g 4 m p) ∧ (Rg g 1 p q ∧ ¬ Rg g 6 p q) ∧ (g.ev q).m ∈ ([12, 16] : List Int)
 | 11, p, q => ∃ m, Rg g 0 p m ∧ (g.ev m).m ∈ ([15] : List Int) ∧ Rg g 0 m q
 | 12, p, q => (g.ev p).k = 1 ∧ ∃ m, Rg g 0 p m ∧ (g.ev m).m ∈ ([14] : List Int) ∧ Rg g 0 m q
 | 13, p, q => (g.ev p).m ∈ ([13] : List Int) ∧ Rg g 0 p q ∧ (g.ev q).m ∈ ([12] : List Int)
 | 14, p, q => (g.ev p).m ∈ ([12, 16] : List Int) ∧ Rg g 0 p q
 | 15, p, q => Rg g 0 p q ∧ (g.ev q).m ∈ ([13] : List Int)
 | _, p, q => ∃ m, (Rg g 0 p m ∧ (g.ev m).m ∈ ([13] : List Int)) ∧ Rg g 2 m q ∧ ¬ Rg g 6 m q
variable {g} {p q : Nat}
theorem Qo5 (hn : g.evs.length ≤ 256) {x : Int} (hp : p < g.evs.length) : hs (Qa6 (g.evs.length : Int) (Qay g x)) p q ↔ p = q ∧ (g.ev p).k = x := by
 constructor
 ·exact fun h => ⟨(Qk4 hn h).1, (Qk4 hn h).2.2⟩
 ·rintro ⟨rfl, h⟩
  refine (Qd3 hn).2 ⟨rfl, hp, ?_⟩
  unfold Qay Qbd
  rw [List.getD_eq_getElem?_getD, List.getElem?_map, Gr.ev_at hp]
  simpa using h
theorem Qg1 (hn : g.evs.length ≤ 256) {ms : List Int} (hp : p < g.evs.length) : hs (Qa6 (g.evs.length : Int) (mdL g ms)) p q ↔ p = q ∧ (g.ev p).m ∈ ms := by
 constructor
 ·exact fun h => ⟨(Qgt hn h).1, (Qgt hn h).2.2⟩
 ·rintro ⟨rfl, h⟩
  refine (Qd3 hn).2 ⟨rfl, hp, ?_⟩
  unfold mdL Qbd
  rw [List.getD_eq_getElem?_getD, List.getElem?_map, Gr.ev_at hp]
  simpa using h
theorem Rg.l {k : Nat} (h : Rg g k p q) : p < g.evs.length := by have := Qbb h; rw [(Qai g k).len] at this; exact this
theorem Rg.r {k : Nat} (h : Rg g k p q) : q < g.evs.length := (Qai g k).low _ _ h
theorem QG7 (g : Gr) : clL g (LG g) 12 = Qaw (Qaw (Qaw (Qa6 (g.evs.length : Int) (Qay g 1)) (LG g 0)) (Qa6 (g.evs.length : Int) (mdL g [14]))) (LG g 0) := by
 simp only [clL, Qb2, List.foldl, rdI, mdI]
theorem Qim (hn : g.evs.length ≤ 256) (i : Nat) (hi : i < 17) : WF g.evs.length (clL g (LG g) i) := by
 have L := Qai g
 have I : ∀ l, WF g.evs.length (Qa6 (g.evs.length : Int) l) := fun l => Qr7 hn l
 match i, hi with
 | 0, _ => exact Qd9 (L 1) (L 6)
 | 1, _ => exact Qd9 (L 2) (L 6)
 | 2, _ => exact Qd9 (L 3) (L 6)
 | 3, _ => exact L 7
 | 4, _ => exact L 8
 | 5, _ => exact Qak hn (L 9) (I _)
 | 6, _ => exact Qak hn (Qak hn (L 7) (L 0)) (I _)
 | 7, _ => exact Qak hn (Qks (L 9) (L 8)) (Qdo (L 2) (L 6))
 | 8, _ => exact Qak hn (Qks (L 7) (L 8)) (Qdo (L 1) (L 6))
 | 9, _ => exact L 4
 | 10, _ => exact Qak hn (Qak hn (I _) (Qdo (L 1) (L 6))) (I _)
 | 11, _ => exact Qak hn (Qak hn (L 0) (I _)) (L 0)
 | 12, _ => rw [QG7]; exact Qak hn (Qak hn (Qak hn (I _) (L 0)) (I _)) (L 0)
 | 13, _ => exact Qak hn (Qak hn (I _) (L 0)) (I _)
 | 14, _ => exact Qak hn (I _) (L 0)
 | 15, _ => exact Qak hn (L 0) (I _)
 | 16, _ => exact Qak hn (Qak hn (L 0) (I _)) (Qdo (L 2) (L 6))
 | n + 17, h => omega
theorem Qcu (hn : g.evs.length ≤ 256) {i : Nat} (hi : i < 17) (p q : Nat) : hs (clL g (LG g) i) p q ↔ ClP g i p q := by
 have L := Qai g
 have I : ∀ l, WF g.evs.length (Qa6 (g.evs.length : Int) l) := fun l => Qr7 hn l
 match i, hi with
 | 0, _ => exact Qif (L 1) (L 6) p q
 | 1, _ => exact Qif (L 2) (L 6) p q
 | 2, _ => exact Qif (L 3) (L 6) p q
 | 3, _ => exact Iff.rfl
 | 4, _ => exact Iff.rfl
 | 5, _ =>
  refine (Qav hn (L 9) (I _) p q).trans ⟨fun ⟨m, h1, h2⟩ => ?_, fun ⟨h1, h2⟩ => ⟨q, h1, (Qo5 hn (Rg.r h1)).2 ⟨rfl, h2⟩⟩⟩
  obtain ⟨rfl, _, h3⟩ := Qk4 hn h2
  exact ⟨h1, h3⟩
 | 6, _ =>
  refine (Qav hn (Qak hn (L 7) (L 0)) (I _) p q).trans ⟨fun ⟨m, h1, h2⟩ => ?_, fun ⟨m, h1, h2, h3⟩ => ⟨q, (Qav hn (L 7) (L 0) p q).2 ⟨m, h1, h2⟩, (Qo5 hn (Rg.r h2)).2 ⟨rfl, h3⟩⟩⟩
  obtain ⟨rfl, _, h3⟩ := Qk4 hn h2
  obtain ⟨x, h4, h5⟩ := (Qav hn (L 7) (L 0) p m).1 h1
  exact ⟨x, h4, h5, h3⟩
 | 7, _ =>
  refine (Qav hn (Qks (L 9) (L 8)) (Qdo (L 2) (L 6)) p q).trans ⟨fun ⟨m, h1, h2⟩ => ⟨m, (Qig (L 9) (L 8) p m).1 h1, (Qdf (L 2) (L 6) m q).1 h2⟩, fun ⟨m, h1, h2⟩ => ⟨m, (Qig (L 9) (L 8) p m).2 h1, (Qdf (L 2) (L 6) m q).2 h2⟩⟩
 | 8, _ =>
  refine (Qav hn (Qks (L 7) (L 8)) (Qdo (L 1) (L 6)) p q).trans ⟨fun ⟨m, h1, h2⟩ => ⟨m, (Qig (L 7) (L 8) p m).1 h1, (Qdf (L 1) (L 6) m q).1 h2⟩, fun ⟨m, h1, h2⟩ => ⟨m, (Qig (L 7) (L 8) p m).2 h1, (Qdf (L 1) (L 6) m q).2 h2⟩⟩
 | 9, _ => exact Iff.rfl
 | 10, _ =>
  have W1 := Qdo (L 1) (L 6)
  refine (Qav hn (Qak hn (I _) W1) (I _) p q).trans ⟨fun ⟨m, h1, h2⟩ => ?_, fun ⟨⟨x, h0, h1⟩, h2, h3⟩ => ⟨q, (Qav hn (I _) W1 p q).2 ⟨p, (Qd3 hn).2 ⟨rfl, Rg.l h2.1, (Qvt hn (L 4)).2 ⟨Rg.r h1, x, ?_, h1⟩⟩, (Qdf (L 1) (L 6) p q).2 h2⟩, (Qg1 hn (Rg.r h2.1)).2 ⟨rfl, h3⟩⟩⟩
  ·obtain ⟨rfl, _, h3⟩ := Qgt hn h2
   obtain ⟨x, h4, h5⟩ := (Qav hn (I _) W1 p m).1 h1
   obtain ⟨rfl, h6⟩ := Qn6 hn h4
   obtain ⟨_, y, h7, h8⟩ := (Qvt hn (L 4)).1 h6
   exact ⟨⟨y, beq_iff_eq.1 (Qn7 h7).2, h8⟩, (Qdf (L 1) (L 6) p m).1 h5, h3⟩
  ·unfold Qay Qbd
   rw [List.getD_eq_getElem?_getD, List.getElem?_map, Gr.ev_at (Rg.l h1)]
   simpa using h0
 | 11, _ =>
  refine (Qav hn (Qak hn (L 0) (I _)) (L 0) p q).trans ⟨fun ⟨m, h1, h2⟩ => ?_, fun ⟨m, h1, h2, h3⟩ => ⟨m, (Qav hn (L 0) (I _) p m).2 ⟨m, h1, (Qg1 hn (Rg.r h1)).2 ⟨rfl, h2⟩⟩, h3⟩⟩
  obtain ⟨x, h4, h5⟩ := (Qav hn (L 0) (I _) p m).1 h1
  obtain ⟨rfl, _, h6⟩ := Qgt hn h5
  exact ⟨x, h4, h6, h2⟩
 | 12, _ =>
  have W1 := Qak hn (I (Qay g 1)) (L 0)
  rw [QG7]
  refine (Qav hn (Qak hn W1 (I _)) (L 0) p q).trans ⟨fun ⟨m, h1, h2⟩ => ?_, fun ⟨h0, m, h1, h2, h3⟩ => ⟨m, (Qav hn W1 (I _) p m).2 ⟨m, (Qav hn (I _) (L 0) p m).2 ⟨p, (Qo5 hn (Rg.l h1)).2 ⟨rfl, h0⟩, h1⟩, (Qg1 hn (Rg.r h1)).2 ⟨rfl, h2⟩⟩, h3⟩⟩
  obtain ⟨x, h4, h5⟩ := (Qav hn W1 (I _) p m).1 h1
  obtain ⟨rfl, _, h6⟩ := Qgt hn h5
  obtain ⟨y, h7, h8⟩ := (Qav hn (I _) (L 0) p x).1 h4
  obtain ⟨rfl, _, h9⟩ := Qk4 hn h7
  exact ⟨h9, x, h8, h6, h2⟩
 | 13, _ =>
  refine (Qav hn (Qak hn (I _) (L 0)) (I _) p q).trans ⟨fun ⟨m, h1, h2⟩ => ?_, fun ⟨h1, h2, h3⟩ => ⟨q, (Qav hn (I _) (L 0) p q).2 ⟨p, (Qg1 hn (Rg.l h2)).2 ⟨rfl, h1⟩, h2⟩, (Qg1 hn (Rg.r h2)).2 ⟨rfl, h3⟩⟩⟩
  obtain ⟨rfl, _, h3⟩ := Qgt hn h2
  obtain ⟨x, h4, h5⟩ := (Qav hn (I _) (L 0) p m).1 h1
  obtain ⟨rfl, _, h6⟩ := Qgt hn h4
  exact ⟨h6, h5, h3⟩
 | 14, _ =>
  refine (Qav hn (I _) (L 0) p q).trans ⟨fun ⟨m, h1, h2⟩ => ?_, fun ⟨h1, h2⟩ => ⟨p, (Qg1 hn (Rg.l h2)).2 ⟨rfl, h1⟩, h2⟩⟩
  obtain ⟨rfl, _, h3⟩ := Qgt hn h1
  exact ⟨h3, h2⟩
 | 15, _ =>
  refine (Qav hn (L 0) (I _) p q).trans ⟨fun ⟨m, h1, h2⟩ => ?_, fun ⟨h1, h2⟩ => ⟨q, h1, (Qg1 hn (Rg.r h1)).2 ⟨rfl, h2⟩⟩⟩
  obtain ⟨rfl, _, h3⟩ := Qgt hn h2
  exact ⟨h1, h3⟩
 | 16, _ =>
  refine (Qav hn (Qak hn (L 0) (I _)) (Qdo (L 2) (L 6)) p q).trans ⟨fun ⟨m, h1, h2⟩ => ?_, fun ⟨m, ⟨h1, h2⟩, h3⟩ => ⟨m, (Qav hn (L 0) (I _) p m).2 ⟨m, h1, (Qg1 hn (Rg.r h1)).2 ⟨rfl, h2⟩⟩, (Qdf (L 2) (L 6) m q).2 h3⟩⟩
  obtain ⟨x, h4, h5⟩ := (Qav hn (L 0) (I _) p m).1 h1
  obtain ⟨rfl, _, h6⟩ := Qgt hn h5
  exact ⟨x, ⟨h4, h6⟩, (Qdf (L 2) (L 6) x q).1 h2⟩
 | n + 17, h => omega
theorem QEj (hn : g.evs.length ≤ 256) : hs (Qfc g (LG g)) p q ↔ ∃ i, 0 ≤ i ∧ i < 3 ∧ ClP g i p q := by
 unfold Qfc
 rw [Qh3 (n := g.evs.length) (by intro L h; simp only [List.mem_cons, List.not_mem_nil, or_false] at h; rcases h with rfl | rfl | rfl <;> exact Qim hn _ dW) (List.cons_ne_nil _ _)]
 simp only [List.mem_cons, List.not_mem_nil, or_false, exists_eq_or_imp, exists_eq_left]
 rw [Qcu hn (show (0 : Nat) < 17 by decide), Qcu hn (show (1 : Nat) < 17 by decide), Qcu hn (show (2 : Nat) < 17 by decide)]
 constructor
 ·rintro (h | h | h)
  ·exact ⟨0, by decide, by decide, h⟩
  ·exact ⟨1, by decide, by decide, h⟩
  ·exact ⟨2, by decide, by decide, h⟩
 ·rintro ⟨i, h1, h2, h⟩
  have e : i = 0 ∨ i = 1 ∨ i = 2 := by omega
  rcases e with rfl | rfl | rfl
  ·exact .inl h
  ·exact .inr (.inl h)
  ·exact .inr (.inr (h))
theorem Qn8 (hn : g.evs.length ≤ 256) : WF g.evs.length (Qfc g (LG g)) := Qg0 (by intro L h; simp only [List.mem_cons, List.not_mem_nil, or_false] at h; rcases h with rfl | rfl | rfl <;> exact Qim hn _ dW) (List.cons_ne_nil _ _)
theorem QEk (hn : g.evs.length ≤ 256) : hs (Qft g (LG g)) p q ↔ ∃ i, 3 ≤ i ∧ i < 9 ∧ ClP g i p q := by
 unfold Qft
 rw [Qh3 (n := g.evs.length) (by intro L h; simp only [List.mem_cons, List.not_mem_nil, or_false] at h; rcases h with rfl | rfl | rfl | rfl | rfl | rfl <;> exact Qim hn _ dW) (List.cons_ne_nil _ _)]
 simp only [List.mem_cons, List.not_mem_nil, or_false, exists_eq_or_imp, exists_eq_left]
 rw [Qcu hn (show (3 : Nat) < 17 by decide), Qcu hn (show (4 : Nat) < 17 by decide), Qcu hn (show (5 : Nat) < 17 by decide), Qcu hn (show (6 : Nat) < 17 by decide), Qcu hn (show (7 : Nat) < 17 by decide), Qcu hn (show (8 : Nat) < 17 by decide)]
 constructor
 ·rintro (h | h | h | h | h | h)
  ·exact ⟨3, by decide, by decide, h⟩
  ·exact ⟨4, by decide, by decide, h⟩
  ·exact ⟨5, by decide, by decide, h⟩
  ·exact ⟨6, by decide, by decide, h⟩
  ·exact ⟨7, by decide, by decide, h⟩
  ·exact ⟨8, by decide, by decide, h⟩
 ·rintro ⟨i, h1, h2, h⟩
  have e : i = 3 ∨ i = 4 ∨ i = 5 ∨ i = 6 ∨ i = 7 ∨ i = 8 := by omega
  rcases e with rfl | rfl | rfl | rfl | rfl | rfl
  ·exact .inl h
  ·exact .inr (.inl h)
  ·exact .inr (.inr (.inl h))
  ·exact .inr (.inr (.inr (.inl h)))
  ·exact .inr (.inr (.inr (.inr (.inl h))))
  ·exact .inr (.inr (.inr (.inr (.inr (h)))))
theorem Qs (hn : g.evs.length ≤ 256) : WF g.evs.length (Qft g (LG g)) := Qg0 (by intro L h; simp only [List.mem_cons, List.not_mem_nil, or_false] at h; rcases h with rfl | rfl | rfl | rfl | rfl | rfl <;> exact Qim hn _ dW) (List.cons_ne_nil _ _)
theorem QEl (hn : g.evs.length ≤ 256) : hs (Qfu g (LG g)) p q ↔ ∃ i, 9 ≤ i ∧ i < 11 ∧ ClP g i p q := by
 unfold Qfu
 rw [Qh3 (n := g.evs.length) (by intro L h; simp only [List.mem_cons, List.not_mem_nil, or_false] at h; rcases h with rfl | rfl <;> exact Qim hn _ dW) (List.cons_ne_nil _ _)]
 simp only [List.mem_cons, List.not_mem_nil, or_false, exists_eq_or_imp, exists_eq_left]
 rw [Qcu hn (show (9 : Nat) < 17 by decide), Qcu hn (show (10 : Nat) < 17 by decide)]
 constructor
 ·rintro (h | h)
  ·exact ⟨9, by decide, by decide, h⟩
  ·exact ⟨10, by decide, by decide, h⟩
 ·rintro ⟨i, h1, h2, h⟩
  have e : i = 9 ∨ i = 10 := by omega
  rcases e with rfl | rfl
  ·exact .inl h
  ·exact .inr (h)
theorem Qsa (hn : g.evs.length ≤ 256) : WF g.evs.length (Qfu g (LG g)) := Qg0 (by intro L h; simp only [List.mem_cons, List.not_mem_nil, or_false] at h; rcases h with rfl | rfl <;> exact Qim hn _ dW) (List.cons_ne_nil _ _)
theorem QEm (hn : g.evs.length ≤ 256) : hs (Qfv g (LG g)) p q ↔ ∃ i, 11 ≤ i ∧ i < 17 ∧ ClP g i p q := by
 unfold Qfv
 rw [Qh3 (n := g.evs.length) (by intro L h; simp only [List.mem_cons, List.not_mem_nil, or_false] at h; rcases h with rfl | rfl | rfl | rfl | rfl | rfl <;> exact Qim hn _ dW) (List.cons_ne_nil _ _)]
 simp only [List.mem_cons, List.not_mem_nil, or_false, exists_eq_or_imp, exists_eq_left]
 rw [Qcu hn (show (11 : Nat) < 17 by decide), Qcu hn (show (12 : Nat) < 17 by decide), Qcu hn (show (13 : Nat) < 17 by decide), Qcu hn (show (14 : Nat) < 17 by decide), Qcu hn (show (15 : Nat) < 17 by decide), Qcu hn (show (16 : Nat) < 17 by decide)]
 constructor
 ·rintro (h | h | h | h | h | h)
  ·exact ⟨11, by decide, by decide, h⟩
  ·exact ⟨12, by decide, by decide, h⟩
  ·exact ⟨13, by decide, by decide, h⟩
  ·exact ⟨14, by decide, by decide, h⟩
  ·exact ⟨15, by decide, by decide, h⟩
  ·exact ⟨16, by decide, by decide, h⟩
 ·rintro ⟨i, h1, h2, h⟩
  have e : i = 11 ∨ i = 12 ∨ i = 13 ∨ i = 14 ∨ i = 15 ∨ i = 16 := by omega
  rcases e with rfl | rfl | rfl | rfl | rfl | rfl
  ·exact .inl h
  ·exact .inr (.inl h)
  ·exact .inr (.inr (.inl h))
  ·exact .inr (.inr (.inr (.inl h)))
  ·exact .inr (.inr (.inr (.inr (.inl h))))
  ·exact .inr (.inr (.inr (.inr (.inr (h)))))
theorem Qsb (hn : g.evs.length ≤ 256) : WF g.evs.length (Qfv g (LG g)) := Qg0 (by intro L h; simp only [List.mem_cons, List.not_mem_nil, or_false] at h; rcases h with rfl | rfl | rfl | rfl | rfl | rfl <;> exact Qim hn _ dW) (List.cons_ne_nil _ _)
theorem Qcx (n : Nat) : ∀ L ∈ ([] : List (List Nat)), WF n L := fun L h => by cases h
theorem Qaq {n : Nat} {A : List Nat} {Ls : List (List Nat)} (h : WF n A) (k : ∀ L ∈ Ls, WF n L) : ∀ L ∈ A :: Ls, WF n L := fun L hL => by
 rcases List.mem_cons.1 hL with e | hL
 ·rw [e]; exact h
 ·exact k L hL
theorem QG8 (hn : g.evs.length ≤ 256) : ∀ L ∈ [Qfc g (LG g), Qft g (LG g), Qfu g (LG g), Qfv g (LG g)], WF g.evs.length L := Qaq (Qn8 hn) (Qaq (Qs hn) (Qaq (Qsa hn) (Qaq (Qsb hn) (Qcx _))))
theorem Qvv (g : Gr) : ∀ L ∈ [Qbk (LG g 0) (LG g 5), LG g 1, LG g 2, LG g 3], WF g.evs.length L := Qaq (Qd9 (Qai g 0) (Qai g 5)) (Qaq (Qai g 1) (Qaq (Qai g 2) (Qaq (Qai g 3) (Qcx _))))
theorem QI8 (hn : g.evs.length ≤ 256) : WF g.evs.length (obL g (LG g)) := Qg0 (QG8 hn) (List.cons_ne_nil _ _)
theorem QG9 : WF g.evs.length (Qgb (LG g)) := Qg0 (Qvv g) (List.cons_ne_nil _ _)
end
section
variable {g : Gr} {p q : Nat}
theorem QI9 {k : Nat} {F : Nat → Nat → Bool} (e : LG g k = Qc8 g.evs.length F) : Rg g k p q ↔ p < g.evs.length ∧ q < g.evs.length ∧ F p q = true := by
 unfold Rg
 rw [e]
 constructor
 ·exact QG6
 ·rintro ⟨hp, hq, h⟩
  unfold hs
  rw [Ql5 _ _ hp, Qga, decide_eq_true hq, h]
  rfl
theorem rg4 : Rg g 4 p q ↔ p < g.evs.length ∧ q < g.evs.length ∧ Qbn g.rmw p q = true := QI9 rfl
end
end Go.Proofs.YtdkogbfamdnheaaGreatDoor
namespace Go.Proofs.YtdkogbfamdnheaaGreatDoor
open Go.RowKit Go.Shelf Sx
set_option maxRecDepth 100000
set_option maxHeartbeats 16000000
set_option linter.unusedSimpArgs false
set_option linter.unusedVariables false
section
variable {n : Nat} {A B : List Nat}
theorem Qhw (ha : WF n A) (hb : WF n B) (h : ∀ p q, hs A p q ↔ hs B p q) : A = B := by
 refine Qzy (n := n) (F := fun p q => (gr A p).testBit q) ⟨ha.len, fun p q _ _ => rfl⟩ ⟨hb.len, fun p q _ _ => ?_⟩ (by rw [ha.len]; exact ha) (by rw [hb.len]; exact hb)
 rw [Bool.eq_iff_iff]
 exact h p q
theorem Qf4 : ∀ (Ls : List (List Nat)) (A : List Nat), WF n A → (∀ L ∈ Ls, WF n L) → WF n (Qdi A Ls)
 | [], _, ha, _ => ha
 | B :: Ls, A, ha, h => Qf4 Ls (Qar [A, B]) (Qg0 (Qaq ha (Qaq (h B List.mem_cons_self) (Qcx n))) (List.cons_ne_nil _ _)) (fun L hL => h L (List.mem_cons_of_mem _ hL))
theorem Qe2 (p q : Nat) : ∀ (Ls : List (List Nat)) (A : List Nat), WF n A → (∀ L ∈ Ls, WF n L) → (hs (Qdi A Ls) p q ↔ hs A p q ∨ ∃ L ∈ Ls, hs L p q)
 | [], a, _, _ => by
  show hs a p q ↔ _
  simp
 | B :: Ls, A, ha, h => by
  have hw := Qaq ha (Qaq (h B List.mem_cons_self) (Qcx n))
  have := Qe2 p q Ls (Qar [A, B]) (Qg0 hw (List.cons_ne_nil _ _)) (fun L hL => h L (List.mem_cons_of_mem _ hL))
  show hs (Qdi (Qar [A, B]) Ls) p q ↔ _
  rw [this, Qh3 hw (List.cons_ne_nil _ _)]
  simp only [List.mem_cons, List.not_mem_nil, or_false, exists_eq_or_imp, exists_eq_left, or_assoc]
end
theorem Qo6 {P : List Nat → Prop} {A : List Nat} {Ls : List (List Nat)} : (∃ L ∈ A :: Ls, P L) ↔ P A ∨ ∃ L ∈ Ls, P L := by
 simp only [List.mem_cons, exists_eq_or_imp]
theorem Qsc {P : List Nat → Prop} : (∃ L ∈ ([] : List (List Nat)), P L) ↔ False := by simp
theorem Qsd {α β : Type} (f : α → α → β) : ∀ l : List α, List.zipWith f l l = l.map (fun x => f x x)
 | [] => rfl
 | x :: l => by rw [List.zipWith_cons_cons, Qsd f l]; rfl
section
variable {g : Gr} {p q : Nat}
theorem Qo7 {P : Ev → Bool} : (Qbd P g.evs).getD p false = true ↔ p < g.evs.length ∧ P (g.ev p) = true := by
 constructor
 ·exact Qn7
 ·rintro ⟨h1, h2⟩
  unfold Gr.ev at h2
  rw [List.getD_eq_getElem?_getD, List.getElem?_eq_getElem h1] at h2
  unfold Qbd
  rw [List.getD_eq_getElem?_getD, List.getElem?_map, List.getElem?_eq_getElem h1]
  exact h2
theorem Qcy (hn : g.evs.length ≤ 256) (l : List Bool) : WF g.evs.length (idn g l) := Qr7 hn l
theorem Qwt (hn : g.evs.length ≤ 256) {l : List Bool} {B : List Nat} (hb : WF g.evs.length B) : hs (Qaw (idn g l) B) p q ↔ (p < g.evs.length ∧ l.getD p false = true) ∧ hs B p q := by
 rw [Qav hn (Qcy hn l) hb]
 constructor
 ·rintro ⟨m, h1, h2⟩
  obtain ⟨rfl, h3, h4⟩ := (Qd3 hn).1 h1
  exact ⟨⟨h3, h4⟩, h2⟩
 ·rintro ⟨⟨h3, h4⟩, h2⟩
  exact ⟨p, (Qd3 hn).2 ⟨rfl, h3, h4⟩, h2⟩
theorem Qmy (hn : g.evs.length ≤ 256) {l : List Bool} {A : List Nat} (ha : WF g.evs.length A) : hs (Qaw A (idn g l)) p q ↔ hs A p q ∧ (q < g.evs.length ∧ l.getD q false = true) := by
 rw [Qav hn ha (Qcy hn l)]
 constructor
 ·rintro ⟨m, h1, h2⟩
  obtain ⟨rfl, h3, h4⟩ := (Qd3 hn).1 h2
  exact ⟨h1, h3, h4⟩
 ·rintro ⟨h1, h3, h4⟩
  exact ⟨q, h1, (Qd3 hn).2 ⟨rfl, h3, h4⟩⟩
theorem Qo8 {P Q : Ev → Bool} : (Qf3 (Qbd P g.evs) (Qbd Q g.evs)).getD p false = true ↔ p < g.evs.length ∧ P (g.ev p) = true ∧ Q (g.ev p) = true := by
 have e : Qf3 (Qbd P g.evs) (Qbd Q g.evs) = Qbd (fun e => P e && Q e) g.evs := by
  unfold Qf3 Qbd
  rw [List.zipWith_map, Qsd]
 rw [e, Qo7, Bool.and_eq_true]
theorem Qvw (h : Wf g true) (hp : p < g.evs.length) : (g.ev p).m = 11 ∨ ((g.ev p).k = 1 ∨ (g.ev p).k = 2 ∨ (g.ev p).k = 3) ∧ Qgr (g.ev p).k (g.ev p).m true = true := by
 have r1 : Qdj g true = -1 := h 1 oW
 have r2 : Qek g true = -1 := h 2 oW
 by_cases c : (p : Int) < g.cells
 ·rw [Qju r1 c]
  exact .inl rfl
 ·have e := Qlh r2 (i := p) oW hp
  unfold Qb4 at e
  simp only [Bool.and_eq_true, decide_eq_true_eq] at e
  exact .inr ⟨oW, e.2⟩
theorem QH (h : Wf g true) (hp : p < g.evs.length) (hm : (g.ev p).m ∈ ([12, 16] : List Int)) : (g.ev p).k = 1 := by
 simp only [List.mem_cons, List.not_mem_nil, or_false] at hm
 rcases Qvw h hp with e | ⟨hk, hb⟩
 ·omega
 ·rcases hk with e | e | e
  ·exact e
  ·rw [e] at hb
   rcases hm with e2 | e2 <;> rw [e2] at hb <;> exact absurd hb dW
  ·rw [e] at hb
   rcases hm with e2 | e2 <;> rw [e2] at hb <;> exact absurd hb dW
theorem QJx (h : Wf g true) (hp : p < g.evs.length) (hm : (g.ev p).m ∈ ([13] : List Int)) : (g.ev p).k = 2 := by
 simp only [List.mem_cons, List.not_mem_nil, or_false] at hm
 rcases Qvw h hp with e | ⟨hk, hb⟩
 ·omega
 ·rcases hk with e | e | e
  ·rw [e, hm] at hb
   exact absurd hb dW
  ·exact e
  ·rw [e, hm] at hb
   exact absurd hb dW
theorem QDy (h : Wf g true) : (Qf3 (Qay g 1) (mdL g [12, 16])).getD p false = true ↔ p < g.evs.length ∧ (g.ev p).m ∈ ([12, 16] : List Int) := by
 unfold Qay mdL
 rw [Qo8, beq_iff_eq, List.contains_iff_mem]
 exact ⟨fun ⟨a, _, c⟩ => ⟨a, c⟩, fun ⟨a, c⟩ => ⟨a, QH h a c, c⟩⟩
theorem QJ (h : Wf g true) : (Qf3 (Qay g 1) (mdL g [12])).getD p false = true ↔ p < g.evs.length ∧ (g.ev p).m ∈ ([12] : List Int) := by
 unfold Qay mdL
 rw [Qo8, beq_iff_eq, List.contains_iff_mem]
 exact ⟨fun ⟨a, _, c⟩ => ⟨a, c⟩, fun ⟨a, c⟩ => ⟨a, QH h a (by simp at c ⊢; exact .inl c), c⟩⟩
theorem QDz (h : Wf g true) : (Qf3 (Qay g 2) (mdL g [13])).getD p false = true ↔ p < g.evs.length ∧ (g.ev p).m ∈ ([13] : List Int) := by
 unfold Qay mdL
 rw [Qo8, beq_iff_eq, List.contains_iff_mem]
 exact ⟨fun ⟨a, _, c⟩ => ⟨a, c⟩, fun ⟨a, c⟩ => ⟨a, QJx h a c, c⟩⟩
theorem Qwu {x : Int} : (Qay g x).getD p false = true ↔ p < g.evs.length ∧ (g.ev p).k = x := by
 unfold Qay
 rw [Qo7, beq_iff_eq]
theorem QD0 {ms : List Int} : (mdL g ms).getD p false = true ↔ p < g.evs.length ∧ (g.ev p).m ∈ ms := by
 unfold mdL
 rw [Qo7, List.contains_iff_mem]
theorem QHa : ∀ (l : List (Int × Int)) (X : List Bool), (l.foldl (fun l p => l.set p.2.toNat true) X).length = X.length
 | [], X => rfl
 | x :: l, X => by rw [List.foldl_cons, QHa l, List.length_set]
theorem QD1 : ∀ (l : List (Int × Int)) (X : List Bool), (l.foldl (fun l p => l.set p.2.toNat true) X).getD p false = true ↔ X.getD p false = true ∨ (p < X.length ∧ ∃ x ∈ l, x.2.toNat = p)
 | [], X => by simp
 | x :: l, X => by
  rw [List.foldl_cons, QD1 l, List.length_set]
  have : (X.set x.2.toNat true).getD p false = true ↔ X.getD p false = true ∨ (p < X.length ∧ x.2.toNat = p) := by
   rw [List.getD_eq_getElem?_getD, List.getElem?_set]
   by_cases e : x.2.toNat = p
   ·rw [if_pos e]
    subst e
    by_cases c : x.2.toNat < X.length
    ·rw [if_pos c]; simp [c]
    ·rw [if_neg c]; simp [c]
   ·rw [if_neg e, List.getD_eq_getElem?_getD]; simp [e]
  rw [this]
  simp only [List.mem_cons, exists_eq_or_imp]
  constructor
  ·rintro ((h | ⟨h1, h2⟩) | ⟨h1, h2⟩)
   ·exact .inl h
   ·exact .inr ⟨h1, .inl h2⟩
   ·exact .inr ⟨h1, .inr h2⟩
  ·rintro (h | ⟨h1, h2 | h2⟩)
   ·exact .inl (.inl h)
   ·exact .inl (.inr ⟨h1, h2⟩)
   ·exact .inr ⟨h1, h2⟩
theorem QBg (h : Wf g true) : (LsT g g.rmw.length).getD p false = true ↔ p < g.evs.length ∧ ∃ m, (g.ev m).k = 1 ∧ hs (LG g 4) m p := by
 unfold LsT
 rw [List.take_length, QD1, List.length_replicate]
 constructor
 ·rintro (h1 | ⟨h1, x, hx, e⟩)
  ·rw [List.getD_eq_getElem?_getD, List.getElem?_replicate] at h1
   split at h1 <;> simp at h1
  ·obtain ⟨k, hk, rfl⟩ := List.mem_iff_getElem.1 hx
   have h6 : Qfb g = -1 := h 5 oW
   have h7 := Qvn h6 k (Nat.zero_le _) oW
   have e1 : g.rmw.getD k (0, 0) = g.rmw[k] := by rw [List.getD_eq_getElem?_getD, List.getElem?_eq_getElem hk]; rfl
   rw [Bool.not_eq_false', Bool.and_eq_true, e1] at h7
   have h8 := h7.2
   unfold okU Qgk at h8
   simp only [Bool.and_eq_true] at h8
   obtain ⟨a, ha, ha2⟩ := Qcj h8.1.1.1
   obtain ⟨b, hb, hb2⟩ := Qcj h8.1.1.2
   have hka := h8.1.1.1
   unfold isB at hka
   rw [Bool.and_eq_true, ha, List.contains_iff_mem] at hka
   have hb3 : b = p := by rw [← e, hb]; rfl
   subst hb3
   refine ⟨h1, a, by unfold Gr.ev; simpa using hka.2, rg4.2 ⟨ha2, h1, ?_⟩⟩
   unfold Qbn
   rw [decide_eq_true_eq, ← ha, ← hb]
   exact hx
 ·rintro ⟨h1, m, _, h2⟩
  have h3 := (rg4.1 h2).2.2
  unfold Qbn at h3
  exact .inr ⟨h1, _, of_decide_eq_true h3, rfl⟩
theorem Qvx : hs (rfI g) p q ↔ hs (LG g 1) p q ∧ ¬ hs (LG g 6) p q := Qdf (Qai g 1) (Qai g 6) p q
theorem Qvy : hs (coI g) p q ↔ hs (LG g 2) p q ∧ ¬ hs (LG g 6) p q := Qdf (Qai g 2) (Qai g 6) p q
theorem Qk5 (g : Gr) : WF g.evs.length (rfI g) := Qdo (Qai g 1) (Qai g 6)
theorem Qn9 (g : Gr) : WF g.evs.length (coI g) := Qdo (Qai g 2) (Qai g 6)
theorem Qvz (g : Gr) : ∀ L ∈ [Qbk (LG g 2) (LG g 6), Qbk (LG g 3) (LG g 6)], WF g.evs.length L := Qaq (Qd9 (Qai g 2) (Qai g 6)) (Qaq (Qd9 (Qai g 3) (Qai g 6)) (Qcx _))
theorem Qy6 (g : Gr) : WF g.evs.length (rfE g) := Qd9 (Qai g 1) (Qai g 6)
theorem QEn (hn : g.evs.length ≤ 256) : Qr3 g = RL g 0 := by
 refine Qhw (Qf4 _ _ (Qy6 g) (Qvz g)) (Qn8 hn) (fun p q => ?_)
 show _ ↔ hs (Qfc g (LG g)) p q
 rw [QEj hn]
 unfold Qr3
 rw [Qe2 p q _ _ (Qy6 g) (Qvz g)]
 unfold rfE
 simp only [List.mem_cons, List.not_mem_nil, or_false, exists_eq_or_imp, exists_eq_left, Qif (Qai g _) (Qai g _)]
 constructor
 ·rintro (h | h | h)
  ·exact ⟨0, oW, oW, h⟩
  ·exact ⟨1, oW, oW, h⟩
  ·exact ⟨2, oW, oW, h⟩
 ·rintro ⟨i, h1, h2, h⟩
  obtain rfl | rfl | rfl : i = 0 ∨ i = 1 ∨ i = 2 := by omega
  ·exact .inl h
  ·exact .inr (.inl h)
  ·exact .inr (.inr h)
theorem Qy7 (g : Gr) : WF g.evs.length (Qdi (ctQ g) [daQ g]) := Qf4 _ _ (Qai g 9) (Qaq (Qai g 8) (Qcx _))
theorem Qy8 (g : Gr) : WF g.evs.length (Qdi (adQ g) [daQ g]) := Qf4 _ _ (Qai g 7) (Qaq (Qai g 8) (Qcx _))
theorem QEo : hs (Qdi (ctQ g) [daQ g]) p q ↔ hs (LG g 9) p q ∨ hs (LG g 8) p q := by
 have := Qe2 (n := g.evs.length) p q [daQ g] (ctQ g) (Qai g 9) (Qaq (Qai g 8) (Qcx _))
 rw [this]
 simp only [List.mem_cons, List.not_mem_nil, or_false, exists_eq_left]
 exact Iff.rfl
theorem QEp : hs (Qdi (adQ g) [daQ g]) p q ↔ hs (LG g 7) p q ∨ hs (LG g 8) p q := by
 have := Qe2 (n := g.evs.length) p q [daQ g] (adQ g) (Qai g 7) (Qaq (Qai g 8) (Qcx _))
 rw [this]
 simp only [List.mem_cons, List.not_mem_nil, or_false, exists_eq_left]
 exact Iff.rfl
theorem Qv0 (hn : g.evs.length ≤ 256) : ∀ L ∈ [daQ g, Qbi (ctQ g) [wQ g], Qbi (adQ g) [LG g 0, wQ g], Qbi (Qdi (ctQ g) [daQ g]) [coI g], Qbi (Qdi (adQ g) [daQ g]) [rfI g]], WF g.evs.length L :=
 Qaq (Qai g 8) (Qaq (Qak hn (Qai g 9) (Qcy hn _)) (Qaq (Qak hn (Qak hn (Qai g 7) (Qai g 0)) (Qcy hn _)) (Qaq (Qak hn (Qy7 g) (Qn9 g)) (Qaq (Qak hn (Qy8 g) (Qk5 g)) (Qcx _)))))
theorem QEq (hn : g.evs.length ≤ 256) : Qr4 g = RL g 1 := by
 refine Qhw (Qf4 _ _ (Qai g 7) (Qv0 hn)) (Qs hn) (fun p q => ?_)
 show _ ↔ hs (Qft g (LG g)) p q
 rw [QEk hn]
 unfold Qr4
 rw [Qe2 p q _ (adQ g) (Qai g 7) (Qv0 hn)]
 have e1 : hs (Qbi (ctQ g) [wQ g]) p q ↔ hs (LG g 9) p q ∧ (q < g.evs.length ∧ (g.ev q).k = 2) := by
  show hs (Qaw (LG g 9) (idn g (Qay g 2))) p q ↔ _
  rw [Qmy hn (Qai g 9), Qwu]
  exact ⟨fun ⟨a, _, c⟩ => ⟨a, c⟩, fun ⟨a, c⟩ => ⟨a, c.1, c⟩⟩
 have e2 : hs (Qbi (adQ g) [LG g 0, wQ g]) p q ↔ (∃ m, hs (LG g 7) p m ∧ hs (LG g 0) m q) ∧ (q < g.evs.length ∧ (g.ev q).k = 2) := by
  show hs (Qaw (Qaw (LG g 7) (LG g 0)) (idn g (Qay g 2))) p q ↔ _
  rw [Qmy hn (Qak hn (Qai g 7) (Qai g 0)), Qav hn (Qai g 7) (Qai g 0), Qwu]
  exact ⟨fun ⟨a, _, c⟩ => ⟨a, c⟩, fun ⟨a, c⟩ => ⟨a, c.1, c⟩⟩
 have e3 : hs (Qbi (Qdi (ctQ g) [daQ g]) [coI g]) p q ↔ ∃ m, (hs (LG g 9) p m ∨ hs (LG g 8) p m) ∧ hs (LG g 2) m q ∧ ¬ hs (LG g 6) m q := by
  show hs (Qaw (Qdi (ctQ g) [daQ g]) (coI g)) p q ↔ _
  rw [Qav hn (Qy7 g) (Qn9 g)]
  simp only [QEo, Qvy]
 have e4 : hs (Qbi (Qdi (adQ g) [daQ g]) [rfI g]) p q ↔ ∃ m, (hs (LG g 7) p m ∨ hs (LG g 8) p m) ∧ hs (LG g 1) m q ∧ ¬ hs (LG g 6) m q := by
  show hs (Qaw (Qdi (adQ g) [daQ g]) (rfI g)) p q ↔ _
  rw [Qav hn (Qy8 g) (Qk5 g)]
  simp only [QEp, Qvx]
 simp only [Qo6, Qsc, or_false, e1, e2, e3, e4]
 constructor
 ·rintro (h | h | ⟨h, _, k⟩ | ⟨⟨m, h, k⟩, _, l⟩ | h | h)
  ·exact ⟨3, oW, oW, h⟩
  ·exact ⟨4, oW, oW, h⟩
  ·exact ⟨5, oW, oW, h, k⟩
  ·exact ⟨6, oW, oW, m, h, k, l⟩
  ·exact ⟨7, oW, oW, h⟩
  ·exact ⟨8, oW, oW, h⟩
 ·rintro ⟨i, h1, h2, h⟩
  obtain rfl | rfl | rfl | rfl | rfl | rfl : i = 3 ∨ i = 4 ∨ i = 5 ∨ i = 6 ∨ i = 7 ∨ i = 8 := by omega
  ·exact .inl h
  ·exact .inr (.inl h)
  ·have h : hs (LG g 9) p q ∧ (g.ev q).k = 2 := h
   exact .inr (.inr (.inl ⟨h.1, Rg.r h.1, h.2⟩))
  ·obtain ⟨m, a, b, c⟩ : ∃ m, hs (LG g 7) p m ∧ hs (LG g 0) m q ∧ (g.ev q).k = 2 := h
   exact .inr (.inr (.inr (.inl ⟨⟨m, a, b⟩, Rg.r b, c⟩)))
  ·exact .inr (.inr (.inr (.inr (.inl h))))
  ·exact .inr (.inr (.inr (.inr (.inr h))))
theorem Qv1 (hn : g.evs.length ≤ 256) : ∀ L ∈ [Qbi (idn g (LsT g g.rmw.length)) [rfI g, qQ g]], WF g.evs.length L := Qaq (Qak hn (Qak hn (Qcy hn _) (Qk5 g)) (Qcy hn _)) (Qcx _)
theorem QEr (hn : g.evs.length ≤ 256) (h : Wf g true) : Qr5 g = RL g 2 := by
 refine Qhw (Qf4 _ _ (Qai g 4) (Qv1 hn)) (Qsa hn) (fun p q => ?_)
 show _ ↔ hs (Qfu g (LG g)) p q
 rw [QEl hn]
 unfold Qr5
 rw [Qe2 p q _ _ (Qai g 4) (Qv1 hn)]
 have e1 : hs (Qbi (idn g (LsT g g.rmw.length)) [rfI g, qQ g]) p q ↔ (∃ m, (g.ev m).k = 1 ∧ hs (LG g 4) m p) ∧ (hs (LG g 1) p q ∧ ¬ hs (LG g 6) p q) ∧ (g.ev q).m ∈ ([12, 16] : List Int) := by
  show hs (Qaw (Qaw (idn g (LsT g g.rmw.length)) (rfI g)) (idn g (Qf3 (Qay g 1) (mdL g [12, 16])))) p q ↔ _
  rw [Qmy hn (Qak hn (Qcy hn _) (Qk5 g)), Qwt hn (Qk5 g), QBg h, QDy h, Qvx]
  constructor
  ·rintro ⟨⟨⟨_, _, a⟩, b⟩, _, _, c⟩
   exact ⟨a, b, c⟩
  ·rintro ⟨a, b, c⟩
   exact ⟨⟨⟨Rg.l b.1, Rg.l b.1, a⟩, b⟩, Rg.r b.1, Rg.r b.1, c⟩
 simp only [Qo6, Qsc, or_false, e1]
 constructor
 ·rintro (h | h)
  ·exact ⟨9, oW, oW, h⟩
  ·exact ⟨10, oW, oW, h⟩
 ·rintro ⟨i, h1, h2, h⟩
  obtain rfl | rfl : i = 9 ∨ i = 10 := by omega
  ·exact .inl h
  ·exact .inr h
theorem Qse (A B : List Nat) : Qbi A [B] = Qaw A B := rfl
theorem Qsf (A B C : List Nat) : Qbi A [B, C] = Qaw (Qaw A B) C := rfl
theorem QHb (A B C D : List Nat) : Qbi A [B, C, D] = Qaw (Qaw (Qaw A B) C) D := rfl
theorem QJy (hn : g.evs.length ≤ 256) : WF g.evs.length (Qbi (rQ g) [LG g 0, dQ g, LG g 0]) := by
 rw [QHb]
 exact Qak hn (Qak hn (Qak hn (Qcy hn _) (Qai g 0)) (Qcy hn _)) (Qai g 0)
theorem QJz (hn : g.evs.length ≤ 256) : WF g.evs.length (Qbi (lQ g) [LG g 0, aQ g]) := by
 rw [Qsf]
 exact Qak hn (Qak hn (Qcy hn _) (Qai g 0)) (Qcy hn _)
theorem QJ0 (hn : g.evs.length ≤ 256) : WF g.evs.length (Qbi (qQ g) [LG g 0]) := by
 rw [Qse]
 exact Qak hn (Qcy hn _) (Qai g 0)
theorem QHc (hn : g.evs.length ≤ 256) : WF g.evs.length (Qbi (LG g 0) [lQ g]) := by
 rw [Qse]
 exact Qak hn (Qai g 0) (Qcy hn _)
theorem QJ1 (hn : g.evs.length ≤ 256) : WF g.evs.length (Qbi (LG g 0) [lQ g, coI g]) := by
 rw [Qsf]
 exact Qak hn (Qak hn (Qai g 0) (Qcy hn _)) (Qn9 g)
theorem Qv2 (hn : g.evs.length ≤ 256) : ∀ L ∈ [Qbi (rQ g) [LG g 0, dQ g, LG g 0], Qbi (lQ g) [LG g 0, aQ g], Qbi (qQ g) [LG g 0], Qbi (LG g 0) [lQ g], Qbi (LG g 0) [lQ g, coI g]], WF g.evs.length L :=
 Qaq (QJy hn) (Qaq (QJz hn) (Qaq (QJ0 hn) (Qaq (QHc hn) (Qaq (QJ1 hn) (Qcx _)))))
theorem QD2 (hn : g.evs.length ≤ 256) : WF g.evs.length (Qbi (LG g 0) [yQ g, LG g 0]) := Qak hn (Qak hn (Qai g 0) (Qcy hn _)) (Qai g 0)
theorem QEs (hn : g.evs.length ≤ 256) (h : Wf g true) : Qr6 g = RL g 3 := by
 refine Qhw (Qf4 _ _ (QD2 hn) (Qv2 hn)) (Qsb hn) (fun p q => ?_)
 show _ ↔ hs (Qfv g (LG g)) p q
 rw [QEm hn]
 unfold Qr6
 rw [Qe2 p q _ _ (QD2 hn) (Qv2 hn)]
 have e0 : hs (Qbi (LG g 0) [yQ g, LG g 0]) p q ↔ ∃ m, hs (LG g 0) p m ∧ (g.ev m).m ∈ ([15] : List Int) ∧ hs (LG g 0) m q := by
  rw [Qsf]
  show hs (Qaw (Qaw (LG g 0) (idn g (mdL g [15]))) (LG g 0)) p q ↔ _
  rw [Qav hn (Qak hn (Qai g 0) (Qcy hn _)) (Qai g 0)]
  simp only [Qmy hn (Qai g 0), QD0]
  exact ⟨fun ⟨m, ⟨a, _, _, b⟩, c⟩ => ⟨m, a, b, c⟩, fun ⟨m, a, b, c⟩ => ⟨m, ⟨a, Rg.r a, Rg.r a, b⟩, c⟩⟩
 have e1 : hs (Qbi (rQ g) [LG g 0, dQ g, LG g 0]) p q ↔ (g.ev p).k = 1 ∧ ∃ m, hs (LG g 0) p m ∧ (g.ev m).m ∈ ([14] : List Int) ∧ hs (LG g 0) m q := by
  rw [QHb]
  show hs (Qaw (Qaw (Qaw (idn g (Qay g 1)) (LG g 0)) (idn g (mdL g [14]))) (LG g 0)) p q ↔ _
  rw [Qav hn (Qak hn (Qak hn (Qcy hn _) (Qai g 0)) (Qcy hn _)) (Qai g 0)]
  simp only [Qmy hn (Qak hn (Qcy hn _) (Qai g 0)), Qwt hn (Qai g 0), QD0, Qwu]
  exact ⟨fun ⟨m, ⟨⟨⟨_, _, k⟩, a⟩, _, _, b⟩, c⟩ => ⟨k, m, a, b, c⟩, fun ⟨k, m, a, b, c⟩ => ⟨m, ⟨⟨⟨Rg.l a, Rg.l a, k⟩, a⟩, Rg.r a, Rg.r a, b⟩, c⟩⟩
 have e2 : hs (Qbi (lQ g) [LG g 0, aQ g]) p q ↔ (g.ev p).m ∈ ([13] : List Int) ∧ hs (LG g 0) p q ∧ (g.ev q).m ∈ ([12] : List Int) := by
  rw [Qsf]
  show hs (Qaw (Qaw (idn g (Qf3 (Qay g 2) (mdL g [13]))) (LG g 0)) (idn g (Qf3 (Qay g 1) (mdL g [12])))) p q ↔ _
  rw [Qmy hn (Qak hn (Qcy hn _) (Qai g 0)), Qwt hn (Qai g 0), QDz h, QJ h]
  exact ⟨fun ⟨⟨⟨_, _, k⟩, a⟩, _, _, b⟩ => ⟨k, a, b⟩, fun ⟨k, a, b⟩ => ⟨⟨⟨Rg.l a, Rg.l a, k⟩, a⟩, Rg.r a, Rg.r a, b⟩⟩
 have e3 : hs (Qbi (qQ g) [LG g 0]) p q ↔ (g.ev p).m ∈ ([12, 16] : List Int) ∧ hs (LG g 0) p q := by
  rw [Qse]
  show hs (Qaw (idn g (Qf3 (Qay g 1) (mdL g [12, 16]))) (LG g 0)) p q ↔ _
  rw [Qwt hn (Qai g 0), QDy h]
  exact ⟨fun ⟨⟨_, _, k⟩, a⟩ => ⟨k, a⟩, fun ⟨k, a⟩ => ⟨⟨Rg.l a, Rg.l a, k⟩, a⟩⟩
 have e4 : ∀ r, hs (Qbi (LG g 0) [lQ g]) p r ↔ hs (LG g 0) p r ∧ (g.ev r).m ∈ ([13] : List Int) := fun r => by
  rw [Qse]
  show hs (Qaw (LG g 0) (idn g (Qf3 (Qay g 2) (mdL g [13])))) p r ↔ _
  rw [Qmy hn (Qai g 0), QDz h]
  exact ⟨fun ⟨a, _, _, k⟩ => ⟨a, k⟩, fun ⟨a, k⟩ => ⟨a, Rg.r a, Rg.r a, k⟩⟩
 have e5 : hs (Qbi (LG g 0) [lQ g, coI g]) p q ↔ ∃ m, (hs (LG g 0) p m ∧ (g.ev m).m ∈ ([13] : List Int)) ∧ hs (LG g 2) m q ∧ ¬ hs (LG g 6) m q := by
  rw [Qsf, ← Qse (LG g 0) (lQ g)]
  rw [Qav hn (QHc hn) (Qn9 g)]
  simp only [Qvy]
  exact ⟨fun ⟨m, a, b⟩ => ⟨m, (e4 m).1 a, b⟩, fun ⟨m, a, b⟩ => ⟨m, (e4 m).2 a, b⟩⟩
 simp only [Qo6, Qsc, or_false, e0, e1, e2, e3, e4, e5]
 constructor
 ·rintro (h | h | h | h | h | h)
  ·exact ⟨11, oW, oW, h⟩
  ·exact ⟨12, oW, oW, h⟩
  ·exact ⟨13, oW, oW, h⟩
  ·exact ⟨14, oW, oW, h⟩
  ·exact ⟨15, oW, oW, h⟩
  ·exact ⟨16, oW, oW, h⟩
 ·rintro ⟨i, h1, h2, h⟩
  obtain rfl | rfl | rfl | rfl | rfl | rfl : i = 11 ∨ i = 12 ∨ i = 13 ∨ i = 14 ∨ i = 15 ∨ i = 16 := by omega
  ·exact .inl h
  ·exact .inr (.inl h)
  ·exact .inr (.inr (.inl h))
  ·exact .inr (.inr (.inr (.inl h)))
  ·exact .inr (.inr (.inr (.inr (.inl h))))
  ·exact .inr (.inr (.inr (.inr (.inr h))))
theorem QHd (hn : g.evs.length ≤ 256) : Qdi (RL g 0) [RL g 1, RL g 2, RL g 3] = RL g 4 := by
 have hw : ∀ L ∈ [RL g 1, RL g 2, RL g 3], WF g.evs.length L := Qaq (Qs hn) (Qaq (Qsa hn) (Qaq (Qsb hn) (Qcx _)))
 refine Qhw (Qf4 _ _ (Qn8 hn) hw) (QI8 hn) (fun p q => ?_)
 rw [Qe2 p q _ (RL g 0) (Qn8 hn) hw]
 show _ ↔ hs (Qar [Qfc g (LG g), Qft g (LG g), Qfu g (LG g), Qfv g (LG g)]) p q
 rw [Qqh]
 simp only [List.mem_cons, List.not_mem_nil, or_false, exists_eq_or_imp, exists_eq_left]
 exact Iff.rfl
theorem QHe (hn : g.evs.length ≤ 256) (h : Wf g true) : fcQ g = [RL g 0, RL g 1, RL g 2, RL g 3, RL g 4] := by
 unfold fcQ
 rw [QEn hn, QEq hn, QEr hn h, QEs hn h, QHd hn]
end
def QBh : Operand → QV
 | .const (.slice none 0 0) => .x 25 0
 | x => .b_ (Qny x)
def QBi (M : Qm) (σ : Nat → QV) : Op → Option QV
 | .buildSlice t n ps => if ps.toList.map (·.1) = List.range n ∧ 0 < n ∧ n ≤ 6 ∧ t = 36 ∧ ps.toList.all (fun p => (qvA σ p.2).g.t == 1) = true then some ⟨GV.at 0 0, 26, 0, [], [], [], ps.toList.map (fun p => (qvA σ p.2).g.k)⟩ else Qo3 M σ (.buildSlice t n ps)
 | .call ⟨.value (.func f), args, tys⟩ => if f = 19 then (match args.toList with
   | [x] => if (qvA σ x).g.t = 10 then some (.rs 10 (fcQ M.m.g)) else none
   | _ => none) else Qo3 M σ (.call ⟨.value (.func f), args, tys⟩)
 | o => Qo3 M σ o
set_option maxRecDepth 100000
section
variable {M : Qm} {N : Nat} {w : World} {a : Act} {σ : Nat → QV} {Q : Exit → Act → World → Prop} {x : Operand}
theorem QBj (u : Value) (w : World) : (callFunc 19 #[u]).run Tryz.prog w = .ok (.enter 19 #[u]) w := (show _ = _ by kernel_rfl)
theorem QEt (h : ∀ d, x ≠ .tmp d) : QIs M N w (QBh x) (a.eval x) := by
 unfold QBh
 split
 ·exact Qc0 rfl (by show (25 : Nat) < 100; decide) rfl
 ·exact ⟨Qj0 h, trivial⟩
theorem QHf (hn : M.n ≤ 256) (hw : Wf M.m.g true) (hG : QG M w) (hN : N ≤ w.heap.size) {o : Oper} {av : QV} (h : QBi M σ o.op = some av) (hp : ∀ p, Qws M σ o.op = some p → p) (hx : ∀ d ∈ Qcp o.op.operands.toList, QIs M N w (σ d) (a.eval (.tmp d))) : o.wp Tryz.prog a w (Qil M N a w o.dst av) Q := by
 obtain ⟨dst, op, ty, pos, af, gd⟩ := o
 dsimp only at h hp hx ⊢
 have hB := Below.refl w.heap.size w
 unfold QBi at h
 split at h
 ·rename_i t n ps
  by_cases c : ps.toList.map (·.1) = List.range n ∧ 0 < n ∧ n ≤ 6 ∧ t = 36 ∧ ps.toList.all (fun p => (qvA σ p.2).g.t == 1) = true
  ·rw [if_pos c] at h; cases h
   obtain ⟨c1, c2, c3, rfl, c5⟩ := c
   have h1 : ps.toList.map (fun p => a.eval p.2) = (ps.toList.map (fun p => (qvA σ p.2).g.k)).map (Value.int .i64) := by
    rw [List.map_map]
    refine List.map_congr_left (fun p hp2 => ?_)
    have h6 : (qvA σ p.2).g.t = 1 := by simpa using List.all_eq_true.1 c5 p hp2
    exact (Qc3 (M := M) (N := N) (x := p.2) (fun d e => hx d (Qag.2 (by simp [Op.operands]; exact ⟨p.1, by rw [← e]; exact Array.mem_toList_iff.1 hp2⟩)))).1.t h6
   have hl : (ps.toList.map (fun p => (qvA σ p.2).g.k)).length = n := by have := congrArg List.length c1; rw [List.length_map, List.length_range] at this; rw [List.length_map]; exact this
   generalize hL : ps.toList.map (fun p => (qvA σ p.2).g.k) = L at *
   subst hl
   have hb := Blk.new w 3 (L.map (Value.int .i64)).toArray
   refine Qk3 c1 h1 (Qs6 L c3 c2 w) ⟨_, rfl, Qc0 rfl (by show (26 : Nat) < 100; decide) ?_, hB.alloc nW _⟩
   exact ⟨by simp [Qam], .inr ⟨w.heap.size, L.length, _, rfl, hG.hB, hb, Nat.le_refl _, by unfold maxLen; omega, by simp, by simp [Qam]; exact List.take_of_length_le sW⟩⟩
  ·rw [if_neg c] at h
   exact Qn3 hn hw hG hN h hp hx
 ·rename_i f args tys
  by_cases e : f = 19
  ·rw [if_pos e] at h
   subst e
   obtain ⟨l⟩ := args
   match l, h, hx with
   | [], h, _ => cases h
   | [x], h, hx =>
    dsimp only at h
    by_cases c : (qvA σ x).g.t = 10
    ·rw [if_pos c] at h; cases h
     have hv : a.eval x = M.m.V.val M.m.g := (Qc3 (M := M) (N := N) (x := x) (fun d e => hx d (Qag.2 (by simp [Op.operands, Call.operands, e])))).1.t c
     refine Qat (Qb5 hv QBj) ((Qn5 M.m.V M.m.g w hG.g.gr hn hw).mono ?_)
     rintro e w2 ⟨v, rfl, h1, h2⟩
     exact ⟨v, rfl, v, rfl, Qc0 rfl (by show (10 : Nat) < 100; decide) h1, h2⟩
    ·rw [if_neg c] at h; cases h
   | x :: y :: l, h, _ => cases h
  ·rw [if_neg e] at h
   exact Qn3 hn hw hG hN h hp hx
 ·exact Qn3 hn hw hG hN h hp hx
end
def cE (M : Qm) (hn : M.n ≤ 256) (hw : Wf M.m.g true) : Eng Tryz.prog QV :=
 { qE M hn hw with
  con := QBh
  opR := QBi M
  conOk := fun h => QEt h
  ok := fun hG hN h hp hx => QHf hn hw hG hN h hp hx }
def Qm.cy (M : Qm) (v : Value) (o : List Nat) : Qm := ⟨M.m, M.fb, M.base, M.w1, M.ph, M.blk, M.lst, v, o⟩
theorem QHg {M : Qm} {N N' : Nat} {w : World} {x : QV} {v u : Value} {o : List Nat} (hk : okF x = true) (h : QIs M N w x v) : QIs (M.cy u o) N' w x v := by
 unfold okF at hk
 rw [Bool.and_eq_true, Bool.or_eq_true, decide_eq_true_eq, beq_iff_eq] at hk
 obtain ⟨h1, h2⟩ := h
 refine ⟨Qn4 hk.2 h1, ?_⟩
 rw [if_pos oW] at h2 ⊢
 obtain ⟨g, s, n, q1, q2, q3, q4⟩ := x
 dsimp only at hk h2 ⊢
 have : s = 0 ∨ s = 1 ∨ s = 2 ∨ s = 3 ∨ s = 4 ∨ s = 5 ∨ s = 6 ∨ s = 7 ∨ s = 8 ∨ s = 11 := by omega
 rcases this with e | e | e | e | e | e | e | e | e | e <;> subst e <;> exact h2
theorem QHh {x : QV} (hk : okF x = true) : (x.g.t == 12 || (x.s == 9 || x.s == 14)) = false := by
 unfold okF at hk
 simp only [Bool.or_eq_true, Bool.and_eq_true, beq_iff_eq, decide_eq_true_eq] at hk
 simp only [Bool.or_eq_false_iff, beq_eq_false_iff_ne]
 omega
def Qwv (M : Qm) (x : QV) (l : List Int) : Prop := ∀ N w v, QG M w → QIs M N w x v → w.ownsRow M.base 3 1 v l.length (Qam l)
theorem QEu (M : Qm) : Qwv M (.x 25 0) [] := fun N w v _ h => by
 have : v = .slice none 0 0 := h.t rfl dW
 rw [this]
 exact World.ownsRow_nil _ _ _ _
theorem Qv3 (M : Qm) : Qwv M (.x 19 0) (upI M.ol) := fun N w v hG h => by
 have : v = M.ov := h.t rfl dW
 rw [this, Qpn, show (upI M.ol).length = M.ol.length from by rw [upI, List.length_map]]
 exact hG.o
theorem QEv (M : Qm) (l : List Int) : Qwv M ⟨GV.at 0 0, 26, 0, [], [], [], l⟩ l := fun N w v _ h => h.t (k := 26) rfl dW
section
variable {M : Qm} {hn : M.n ≤ 256} {hw : Wf M.m.g true} {T : Nat} {w0 : World} {σ : Nat → QV} {ops : Array Oper} {Q : Exit → Act → World → Prop} {id : Nat} {b : Bool} {c2 : Code}
theorem Qsg (n d k : Nat) (L : List Nat) (hs : ops.size = n + 1) (hok : okR ops n (n + 1) T = true) (hC : (cE M hn hw).sucT ops (ops.toList.take n) σ = true) (hV : (cE M hn hw).vcT ops ((cE M hn hw).goT (ops.toList.take n) σ) (ops.toList.take n) (gds ops) σ)
  (hL : ∃ ol, ops[n]? = some ol ∧ ol.guard = none ∧ ol.dst = none ∧ ol.op = .store 51 (.tmp d) (.tmp k)) (hW : Qij ops n = true)
  (hd : (cE M hn hw).goT (ops.toList.take n) σ d = .x 9 0) (hk : (cE M hn hw).goT (ops.toList.take n) σ k = .rl 6 L) (hσ : Qik (cE M hn hw).isNo ops n [(d, .rl 8 L)] σ = true)
  (fin : ∀ a w, (cE M hn hw).Ga T w0 (Qao σ [(d, .rl 8 L)]) a w → Q .normal a w) : ∀ a w, (cE M hn hw).Ga T w0 σ a w → (Code.region id ops b).wp Tryz.prog Q a w := by
 intro a1 w1 h1
 obtain ⟨ol, k1, k2, k3, k4⟩ := hL
 refine (Eng.reg_last kW n hs hok hC hV k1 k2 hW (fun c x y e => by rw [k4] at e; cases e) h1 (fun L' a w hM _ hops => ?_))
 have vd : QIs M w1.heap.size w ((cE M hn hw).goT (ops.toList.take n) σ d) (a.eval (.tmp d)) := hops d (Qag.2 (by rw [k4]; simp [Op.operands]))
 have vk : QIs M w1.heap.size w ((cE M hn hw).goT (ops.toList.take n) σ k) (a.eval (.tmp k)) := hops k (Qag.2 (by rw [k4]; simp [Op.operands]))
 rw [hd] at vd
 rw [hk] at vk
 obtain ⟨m, vd, hN, hB⟩ : ∃ b, a.eval (.tmp d) = pv b ∧ w1.heap.size ≤ b ∧ Blk w b 51 #[.int .i64 0, .slice none 0 0] := vd.2
 have vk : RT w M.n (a.eval (.tmp k)) L := vk.2
 obtain ⟨s, p, q, hu⟩ := vk.form
 rw [hu] at vk
 obtain ⟨dst, op, ty, pos, af, gd⟩ := ol
 dsimp only at k3 k4
 subst k3 k4
 have hb : Below w1.heap.size w1 ((w.setCell ⟨m, 0, none⟩ (.int .i64 (M.n : Int))).setCell ⟨m, 1, none⟩ (.slice s p q)) := (hM.low.setCell (p := ⟨m, 0, none⟩) hN _).setCell (p := ⟨m, 1, none⟩) hN _
 have ht : Touch m w ((w.setCell ⟨m, 0, none⟩ (.int .i64 (M.n : Int))).setCell ⟨m, 1, none⟩ (.slice s p q)) := ((Touch.of_below (Below.refl _ w)).set _).set _
 have hz := (hB.set 0 (.int .i64 (M.n : Int))).set 1 (.slice s p q)
 simp only [List.setIfInBounds_toArray, List.set_cons_zero, List.set_cons_succ] at hz
 refine wp_skip (Qvp vd hu hB) (fin _ _ ⟨h1.low.trans (hb.mono h1.low.size), QG.mono h1.g hb, fun x => ?_, fun x => ?_, hM.sz, hM.df⟩)
 ·show QIs M 0 _ (Qao σ [(d, .rl 8 L)] x) (a.eval (.tmp x))
  rcases Qbh (σ := σ) (ks := [(d, QV.rl 8 L)]) (x := x) with ⟨q, h2, rfl, h4⟩ | ⟨h2, h3⟩
  ·obtain rfl := List.mem_singleton.1 h2
   rw [h4, vd]
   exact Qc0 rfl (by show (8 : Nat) < 100; decide) ⟨m, s, p, _, rfl, hz, vk.touch hB ht⟩
  ·rw [h3]
   by_cases hw2 : ∃ j, j < n ∧ Qbe ops j = some x
   ·obtain ⟨i, hi, hd⟩ := hw2
    exact (cE M hn hw).any (Qj4 hσ hi hd h2)
   ·rw [hM.rest x (fun i hi _ hd => hw2 ⟨i, hi, hd⟩)]
    exact (cE M hn hw).mono (h1.is x) hb
 ·rcases Qbh (σ := σ) (ks := [(d, QV.rl 8 L)]) (x := x) with ⟨q, h2, rfl, h4⟩ | ⟨h2, h3⟩
  ·obtain rfl := List.mem_singleton.1 h2
   rw [h4]
   rfl
  ·rw [h3]
   exact h1.nw x
theorem Qj5 (n d k : Nat) (L : List Nat) (hs : ops.size = n + 1) (hok : okR ops n (n + 1) T = true) (hC : (cE M hn hw).sucT ops (ops.toList.take n) σ = true) (hV : (cE M hn hw).vcT ops ((cE M hn hw).goT (ops.toList.take n) σ) (ops.toList.take n) (gds ops) σ)
  (hL : ∃ ol, ops[n]? = some ol ∧ ol.guard = none ∧ ol.dst = none ∧ ol.op = .store 51 (.tmp d) (.tmp k)) (hW : Qij ops n = true)
  (hd : (cE M hn hw).goT (ops.toList.take n) σ d = .x 9 0) (hk : (cE M hn hw).goT (ops.toList.take n) σ k = .rl 6 L) (hσ : Qik (cE M hn hw).isNo ops n [(d, .rl 8 L)] σ = true)
  (fin : ∀ a w, (cE M hn hw).Ga T w0 (Qao σ [(d, .rl 8 L)]) a w → c2.wp Tryz.prog Q a w) (a : Act) (w : World) (h : (cE M hn hw).Ga T w0 σ a w) : ((Code.region id ops b).seq c2).wp Tryz.prog Q a w :=
 wp_seq (Qsg n d k L hs hok hC hV hL hW hd hk hσ (fun a w h => fin a w h) a w h)
theorem Qv4 (d j : Nat) (r : List Nat) (kk : List (Nat × QV)) (hok : okR ops ops.size ops.size T = true) (hC : (cE M hn hw).sucT ops ops.toList (Qao (fun _ => QV.x 0 0) kk) = true) (hV : (cE M hn hw).vcT ops ((cE M hn hw).goT ops.toList (Qao (fun _ => QV.x 0 0) kk)) ops.toList (gds ops) (Qao (fun _ => QV.x 0 0) kk))
  (hd : (cE M hn hw).goT ops.toList (Qao (fun _ => QV.x 0 0) kk) d = .rl 18 r) (hj : j < ops.size) (hj2 : Qbe ops j = some d) (hj3 : (gds ops).getD j [] = []) (hkk : kk.all (fun p => okF p.2 && (List.range ops.size).all (fun j => Qbe ops j != some p.1)) = true)
  (fin : ∀ v out a w, (∀ out2, Qb8 r out2 → out = out2) → (cE (M.cy v out) hn hw).Ga T w0 (Qao (fun _ => QV.x 0 0) ((d, .x 19 0) :: kk)) a w → Q .normal a w) : ∀ a w, (cE M hn hw).Ga T w0 (Qao (fun _ => QV.x 0 0) kk) a w → (Code.region id ops b).wp Tryz.prog Q a w := by
 intro a1 w1 h1
 refine Eng.reg_all kW hok hC hV h1 (fun L a w hl hM => ?_)
 have vd : QIs M w1.heap.size w _ (a.eval (.tmp d)) := (hM.done j d hj (hl j hj) hj2).1 (by rw [hj3]; rfl)
 rw [hd] at vd
 obtain ⟨out, e1, e2⟩ : ∃ out, (∀ out2, Qb8 r out2 → out = out2) ∧ w.ownsRow M.base 3 1 (a.eval (.tmp d)) out.length (Qcl out) := vd.t (k := 18) rfl dW
 have hG : QG M w := QG.mono h1.g hM.low
 refine fin _ out a w e1 ⟨h1.low.trans (hM.low.mono h1.low.size), ⟨hG.g, hG.hB, hG.p, e2⟩, fun x => ?_, fun x => ?_, hM.sz, hM.df⟩
 ·show QIs (M.cy _ _) 0 w _ _
  by_cases e : x = d
  ·rw [show Qao (fun _ => QV.x 0 0) ((d, QV.x 19 0) :: kk) x = QV.x 19 0 from if_pos e, e]
   exact Qc0 rfl (by show (19 : Nat) < 100; decide) rfl
  ·rw [show Qao (fun _ => QV.x 0 0) ((d, QV.x 19 0) :: kk) x = Qao (fun _ => QV.x 0 0) kk x from if_neg e]
   rcases Qbh (σ := fun _ => QV.x 0 0) (ks := kk) (x := x) with ⟨p, h2, rfl, h4⟩ | ⟨_, h3⟩
   ·have k := List.all_eq_true.1 hkk p h2
    rw [Bool.and_eq_true] at k
    have e5 : a.eval (.tmp p.1) = a1.eval (.tmp p.1) := hM.rest p.1 (fun j hj _ hd => by
     have := List.all_eq_true.1 k.2 j (List.mem_range.2 hj)
     rw [hd] at this
     simp at this)
    have h5 : QIs M 0 w1 (Qao (fun _ => QV.x 0 0) kk p.1) (a1.eval (.tmp p.1)) := h1.is p.1
    rw [h4] at h5
    rw [h4, e5]
    exact QHg k.1 ((cE M hn hw).mono h5 hM.low)
   ·rw [h3]
    exact (cE (M.cy (a.eval (.tmp d)) out) hn hw).any rfl
 ·by_cases e : x = d
  ·rw [show Qao (fun _ => QV.x 0 0) ((d, QV.x 19 0) :: kk) x = QV.x 19 0 from if_pos e]
   rfl
  ·rw [show Qao (fun _ => QV.x 0 0) ((d, QV.x 19 0) :: kk) x = Qao (fun _ => QV.x 0 0) kk x from if_neg e]
   rcases Qbh (σ := fun _ => QV.x 0 0) (ks := kk) (x := x) with ⟨p, h2, rfl, h4⟩ | ⟨_, h3⟩
   ·have k := List.all_eq_true.1 hkk p h2
    rw [Bool.and_eq_true] at k
    rw [h4]
    exact QHh k.1
   ·rw [h3]
    rfl
theorem Qj6 (j2 j3 j4 : Nat) (ax er : Int) (x3 : QV) (l : List Int) (h3 : Qwv M x3 l) (hok : okR ops ops.size ops.size T = true) (hC : (cE M hn hw).sucT ops ops.toList σ = true) (hV : (cE M hn hw).vcT ops ((cE M hn hw).goT ops.toList σ) ops.toList (gds ops) σ)
  (hg : [2, 3, 4].map ((cE M hn hw).goT ops.toList σ) = [.nu ax, x3, .nu er]) (hj : [j2, j3, j4].map (fun j => (decide (j < ops.size), Qbe ops j, (gds ops).getD j [])) = [(true, some 2, []), (true, some 3, []), (true, some 4, [])])
  {fn : Func} {R : Ending → World → Prop} (hfn : fn.results = #[.tmp 2, .tmp 3, .tmp 4]) (hQ : ∀ a w, bodyPost Tryz.prog fn R .ret a w → Q .ret a w)
  (hR : ∀ v w', Below w0.heap.size w0 w' → w'.ownsRow M.base 3 1 v l.length (Qam l) → R (.returned (.tuple #[.int .i64 ax, v, .int .i64 er])) w') : ∀ a w, (cE M hn hw).Ga T w0 σ a w → ((Code.region id ops b).seq Code.ret).wp Tryz.prog Q a w := by
 intro a1 w1 h1
 simp only [List.map_cons, List.map_nil, List.cons.injEq, and_true, Prod.mk.injEq, decide_eq_true_eq] at hg hj
 obtain ⟨g2, g3, g4⟩ := hg
 obtain ⟨⟨p2, q2, r2⟩, ⟨p3, q3, r3⟩, ⟨p4, q4, r4⟩⟩ := hj
 refine wp_seq (Eng.reg_all kW hok hC hV h1 (fun L a w hl hM => wp_ret (hQ _ _ ⟨hM.df, _, results_tmp3 hfn _ _ _, ?_⟩)))
 have v2 : QIs M w1.heap.size w _ (a.eval (.tmp 2)) := (hM.done j2 2 p2 (hl j2 p2) q2).1 (by rw [r2]; rfl)
 have v3 : QIs M w1.heap.size w _ (a.eval (.tmp 3)) := (hM.done j3 3 p3 (hl j3 p3) q3).1 (by rw [r3]; rfl)
 have v4 : QIs M w1.heap.size w _ (a.eval (.tmp 4)) := (hM.done j4 4 p4 (hl j4 p4) q4).1 (by rw [r4]; rfl)
 rw [g2] at v2
 rw [g3] at v3
 rw [g4] at v4
 have e2 : a.tmps.getD 2 undef = .int .i64 ax := v2.1
 have e4 : a.tmps.getD 4 undef = .int .i64 er := v4.1
 have hG : QG M w := QG.mono h1.g hM.low
 have h5 := h3 _ _ _ hG v3
 rw [e2, e4]
 exact hR _ _ (h1.low.trans (hM.low.mono h1.low.size)) h5
theorem QJa {w : World} {a : Act} (h : (cE M hn hw).Ga T w0 σ a w) (d : Nat) (q : Bool) (e : σ d = QV.bo q) : a.eval (.tmp d) = .bool q := by
 have h1 : QIs M 0 w (σ d) (a.eval (.tmp d)) := h.is d
 rw [e] at h1
 exact h1.1
end
def RefAns (g : Gr) (ax : Int) (l : List Int) (e : Int) : Prop := ∀ ax2 l2 e2, Qgx g ax2 l2 e2 → ax2 = ax ∧ l2 = l ∧ e2 = e
theorem RefAns.bad {g : Gr} (h : (chk g true).1 ≠ 0) : RefAns g 0 [] 4 := by
 rintro ax l e (⟨_, h1, h2, h3⟩ | ⟨h1, _⟩)
 ·exact ⟨h1, h2, h3⟩
 ·exact absurd h1 h
theorem RefAns.one {g : Gr} {o : List Nat} (h0 : (chk g true).1 = 0) (h : ∀ o2, Qb8 (Qgb (LG g)) o2 → o = o2) (ho : o ≠ []) : RefAns g 1 (upI o) 0 := by
 rintro ax l e (⟨h1, _⟩ | ⟨_, he, o1, hc, hr⟩)
 ·exact absurd h0 h1
 ·cases h o1 hc
  rcases hr with ⟨_, h1, h2⟩ | ⟨h1, _⟩
  ·exact ⟨h1, h2, he⟩
  ·exact absurd h1 ho
theorem RefAns.two {g : Gr} {o o' : List Nat} (h0 : (chk g true).1 = 0) (h : ∀ o2, Qb8 (Qgb (LG g)) o2 → o = o2) (ho : o = []) (h' : ∀ o2, Qb8 (obL g (LG g)) o2 → o' = o2) (ho' : o' ≠ []) : RefAns g 2 (upI o') 0 := by
 rintro ax l e (⟨h1, _⟩ | ⟨_, he, o1, hc, hr⟩)
 ·exact absurd h0 h1
 ·cases h o1 hc
  rcases hr with ⟨h1, _⟩ | ⟨_, o2, hc2, hr⟩
  ·exact absurd ho h1
  ·cases h' o2 hc2
   rcases hr with ⟨_, h1, h2⟩ | ⟨h1, _⟩
   ·exact ⟨h1, h2, he⟩
   ·exact absurd h1 ho'
theorem RefAns.three {g : Gr} {o o' : List Nat} (h0 : (chk g true).1 = 0) (h : ∀ o2, Qb8 (Qgb (LG g)) o2 → o = o2) (ho : o = []) (h' : ∀ o2, Qb8 (obL g (LG g)) o2 → o' = o2) (ho' : o' = []) : RefAns g (if Qh5 g = [] then 0 else 3) (Qh5 g) 0 := by
 rintro ax l e (⟨h1, _⟩ | ⟨_, he, o1, hc, hr⟩)
 ·exact absurd h0 h1
 ·cases h o1 hc
  rcases hr with ⟨h1, _⟩ | ⟨_, o2, hc2, hr⟩
  ·exact absurd ho h1
  ·cases h' o2 hc2
   rcases hr with ⟨h1, _⟩ | ⟨_, ⟨h1, h2, h3⟩ | ⟨h1, h2, h3⟩⟩
   ·exact absurd ho' h1
   ·rw [if_neg h1]; exact ⟨h2, h3, he⟩
   ·rw [if_pos h1, h1]; exact ⟨h2, h3, he⟩
def QJ2 (g : Gr) (w : World) (r : Ending) (w' : World) : Prop := ∃ ax l e v, r = .returned (.tuple #[.int .i64 ax, v, .int .i64 e]) ∧ w'.ownsRow w.heap.size 3 1 v l.length (Qam l) ∧ RefAns g ax l e ∧ Below w.heap.size w w'
def cm (w : World) (V : GrV) (g : Gr) : Qm := ⟨⟨w.heap.size, V, g, V.rf, g.rf⟩, 0, w.heap.size, w, false, 0, [], .slice none 0 0, []⟩
def QBk (g : Gr) : List Nat := Qdi (Qbk (LG g 0) (LG g 5)) [LG g 1, LG g 2, LG g 3]
theorem QEw (g : Gr) : QBk g = Qgb (LG g) := by
 have hs : ∀ L ∈ [LG g 1, LG g 2, LG g 3], WF g.evs.length L := Qaq (Qai g 1) (Qaq (Qai g 2) (Qaq (Qai g 3) (Qcx _)))
 refine Qhw (Qf4 _ _ (Qd9 (Qai g 0) (Qai g 5)) hs) QG9 (fun p q => ?_)
 unfold QBk
 rw [Qe2 p q _ _ (Qd9 (Qai g 0) (Qai g 5)) hs]
 unfold Qgb
 rw [Qh3 (Qvv g) (List.cons_ne_nil _ _)]
 simp
def Qmz (g : Gr) : List Nat := Qaw (Qbk (LG g 3) (LG g 6)) (Qbk (LG g 2) (LG g 6))
def rmP (g : Gr) (k : Nat) : Int × Int := g.rmw.getD k (0, 0)
def Qsh (g : Gr) (k : Nat) : Bool := (if Qcr (Qmz g) (((rmP g k).1.toNat : Nat) : Int) (((rmP g k).2.toNat : Nat) : Int) then 1 else 0) == 1
theorem QEx (g : Gr) (k : Nat) (h1 : 0 ≤ (rmP g k).1) (h2 : 0 ≤ (rmP g k).2) : Qkh (Qmz g) g.rmw k = if Qsh g k then [(rmP g k).1, (rmP g k).2] else [] := by
 unfold Qkh Qkg Qsh
 rw [Int.toNat_of_nonneg h1, Int.toNat_of_nonneg h2]
 show (if Qcr (Qmz g) (rmP g k).1 (rmP g k).2 = true then [(rmP g k).1, (rmP g k).2] else []) = _
 cases Qcr (Qmz g) (rmP g k).1 (rmP g k).2 <;> rfl
theorem QHi {g : Gr} {q : Bool} (h : Wf g q) {k : Nat} (hk : k < g.rmw.length) : (0 ≤ (rmP g k).1 ∧ (rmP g k).1 < (g.evs.length : Int)) ∧ 0 ≤ (rmP g k).2 ∧ (rmP g k).2 < (g.evs.length : Int) := by
 obtain ⟨a, b, e, ha, hb⟩ := Qvs h hk
 unfold rmP
 rw [List.getD_eq_getElem?_getD, e]
 exact ⟨⟨Int.natCast_nonneg _, Int.ofNat_lt.2 ha⟩, Int.natCast_nonneg _, Int.ofNat_lt.2 hb⟩
theorem QJ3 {α : Type} (a b c d e x : α) : [a, b, c, d, e].getD 4 x = e := rfl
def obR (g : Gr) : List Nat := (fcQ g).getD 4 []
theorem QHj {g : Gr} (hn : g.evs.length ≤ 256) (hw : Wf g true) : obR g = obL g (LG g) := by
 unfold obR
 rw [QHe hn hw]
 rw [QJ3]
 exact (Ql7 g).2.2.2.2
def kkC (g : Gr) : List (Nat × QV) := [(1, .b_ (.at 3 0)), (7, .rl 8 (LG g 0)), (8, .rl 8 (LG g 2)), (9, .rl 8 (LG g 3)), (10, .rl 8 (LG g 6))]
def kk4 (g : Gr) (k : Nat) : List (Nat × QV) := (13, .nu ((k : Nat) : Int)) :: (12, .rl 8 (Qmz g)) :: kkC g
theorem Qy9 {f : Nat → List Int} {k : Nat} (h : ∀ a, a < k → f a = []) (hk : f k = []) : ∀ a, a < k + 1 → f a = [] := fun a ha => by
 by_cases e : a = k
 ·subst e; exact hk
 ·exact h a oW
theorem Qo9 (V : GrV) (g : Gr) (w : World) (h : GrR w V g) : Calls Tryz.prog 25 #[V.val g] w (QJ2 g w) := by
 have hg0 := Blk.new w 27 (V.gs g)
 have hB0 : Below w.heap.size w (w.alloc (.cells (V.gs g) 27)) := bW.alloc nW _
 have e1 : w.alloc (.cells (V.gs g) 27) = w.alloc (.cells #[.int .i64 g.cells, V.ev, V.rf, V.co, V.rmw, V.addr, V.dat, V.ctrl] 27) := rfl
 rw [e1] at hB0 hg0
 have HV := Qa (h.below hB0)
 have HB0 := Qa hB0
 have HG0 := Qa hg0
 have HR := Qa (show g.rmw.length ≤ 9223372036854775807 by obtain ⟨_, _, _, _, h9⟩ := Qab h.rmw; exact h9)
 unfold GrV.val
 clear h hB0 hg0 e1
 go_enter Tryz.func25, Tryz.ntmps25
 go_upto_region 1 with fail
 generalize w.alloc (.cells #[.int .i64 g.cells, V.ev, V.rf, V.co, V.rmw, V.addr, V.dat, V.ctrl] 27) = W0 at *
 go_wp2_with (first | refine wpList_load_row rfl 27 _ rfl w.heap.size rfl 27 (V.gs g) (0, 0) _ HG0.out Tryz.underlying27 rfl kW ?_)
 refine (Qrn V g true W0 HV.out).mono ?_
 rintro e w1 ⟨rfl, hB1⟩
 have HG1 := Qa (HG0.out.of_below hB1)
 have HV1 := Qa (HV.out.below hB1)
 have HB1 := Qa (Qaa HB0.out HB0.out.size hB1)
 obtain ⟨c1, hc1⟩ : ∃ c, (chk g true).1 = c := ⟨_, rfl⟩
 have HC := Qa hc1
 rw [hc1]
 clear hc1 hB1 HG0 HB0 HV
 by_cases hz : c1 = 0
 case neg =>
  go_wp2_with fail
  go_ret3
  exact ⟨0, [], 4, _, rfl, World.ownsRow_nil _ _ _ _, RefAns.bad (by rw [HC.out]; exact hz), HB1.out⟩
 subst hz
 have hw : Wf g true := Qnq HC.out
 have hn : g.evs.length ≤ 256 := by have := rl0 (hw 0 oW); simp [Qbo] at this; omega
 go_upto_region 4 with fail
 rename_i hK
 refine Qsg (M := (cm w V g)) (hn := hn) (hw := hw) (T := 97) (w0 := w) (σ := Qao (fun _ => QV.x 0 0) [(1, .b_ (.at 3 0))]) 3 7 22 (LG g 0) rfl byK byK byT ⟨_, rfl, rfl, rfl, rfl⟩ byK byK byK byK (fun a w2 h => hK a w2 ?_) _ _
  (Qmb (E := cE (cm w V g) hn hw) (QV.x 0 0) [(1, .b_ (.at 3 0))] rfl rfl HB1.out ⟨⟨HV1.out, HG1.out, HV1.out.rf, hn⟩, HB1.out.size, (fun e => by cases e), ⟨rfl, .inl ⟨rfl, rfl⟩⟩⟩ (by intro p hp; obtain rfl := List.mem_singleton.1 hp; exact ⟨⟨rfl, trivial⟩, rfl⟩) rfl rfl)
 revert a w2 h
 refine fun a w2 h => Qj5 (M := (cm w V g)) (hn := hn) (hw := hw) 3 8 24 (LG g 2) rfl byK byK byT ⟨_, rfl, rfl, rfl, rfl⟩ byK byK byK byK ?_ a w2 h
 clear h a w2
 refine fun a w2 h => Qj5 (M := (cm w V g)) (hn := hn) (hw := hw) 3 9 26 (LG g 3) rfl byK byK byT ⟨_, rfl, rfl, rfl, rfl⟩ byK byK byK byK ?_ a w2 h
 clear h a w2
 refine fun a w2 h => Qj5 (M := (cm w V g)) (hn := hn) (hw := hw) 3 10 28 (LG g 6) rfl byK byK byT ⟨_, rfl, rfl, rfl, rfl⟩ byK byK byK byK ?_ a w2 h
 clear h a w2
 refine fun a w2 h => wp_seq (Qv4 (M := (cm w V g)) (hn := hn) (hw := hw) 11 11 (QBk g) (kkC g) byK byK byT byK dW rfl byK byK (fun v1 o1 a w2 hO1 h => ?_) a w2 (h.to (QV.x 0 0) (kkC g) rfl rfl byK))
 have HO1 : ∀ o2, Qb8 (Qgb (LG g)) o2 → o1 = o2 := fun o2 h2 => hO1 o2 (by rw [QEw]; exact h2)
 clear hO1
 refine wp_seq (wp_seq (Eng.reg_keep (E := cE ((cm w V g).cy v1 o1) hn hw) [(42, QV.bo (decide ((o1.length : Int) > 0)))] byK byK byK byT byK byK byK (fun a w2 h => ?_) a w2 h))
 refine Eng.condk (E := cE ((cm w V g).cy v1 o1) hn hw) 42 (decide ((o1.length : Int) > 0)) (decide ((o1.length : Int) > 0)) byK byK rfl (fun hq a w2 h => ?_) (fun hq a w2 h => Go.wp_skip ?_) a w2 h
 ·refine Qj6 (M := ((cm w V g).cy v1 o1)) (hn := hn) (hw := hw) 1 2 3 1 0 (.x 19 0) (upI o1) (Qv3 ((cm w V g).cy v1 o1)) byK byK byT byK byK rfl (fun a w h => by exact h) (fun v w' hl ho => ?_) a w2 h
  exact ⟨1, upI o1, 0, v, rfl, ho, RefAns.one HC.out HO1 (fun e => by rw [e] at hq; simp at hq), hl⟩
 have ho1 : o1 = [] := by cases o1 with | nil => rfl | cons x t => simp at hq
 clear hq
 refine wp_seq (Qv4 (M := ((cm w V g).cy v1 o1)) (hn := hn) (hw := hw) 11 4 (obR g) (kkC g) byK byK byT byK dW rfl byK byK (fun v2 o2 a w2 hO2 h => ?_) a w2 (h.to (QV.x 0 0) (kkC g) rfl rfl byK))
 have HO2 : ∀ o3, Qb8 (obL g (LG g)) o3 → o2 = o3 := fun o3 h2 => hO2 o3 (by rw [QHj hn hw]; exact h2)
 clear hO2
 refine wp_seq (wp_seq (Eng.reg_keep (E := cE (((cm w V g).cy v1 o1).cy v2 o2) hn hw) [(50, QV.bo (decide ((o2.length : Int) > 0)))] byK byK byK byT byK byK byK (fun a w2 h => ?_) a w2 h))
 refine Eng.condk (E := cE (((cm w V g).cy v1 o1).cy v2 o2) hn hw) 50 (decide ((o2.length : Int) > 0)) (decide ((o2.length : Int) > 0)) byK byK rfl (fun hq a w2 h => ?_) (fun hq a w2 h => Go.wp_skip ?_) a w2 h
 ·refine Qj6 (M := (((cm w V g).cy v1 o1).cy v2 o2)) (hn := hn) (hw := hw) 1 2 3 2 0 (.x 19 0) (upI o2) (Qv3 (((cm w V g).cy v1 o1).cy v2 o2)) byK byK byT byK byK rfl (fun a w h => by exact h) (fun v w' hl ho => ?_) a w2 h
  exact ⟨2, upI o2, 0, v, rfl, ho, RefAns.two HC.out HO1 ho1 HO2 (fun e => by rw [e] at hq; simp at hq), hl⟩
 have ho2 : o2 = [] := by cases o2 with | nil => rfl | cons x t => simp at hq
 clear hq
 replace h := h.to (QV.x 0 0) (kkC g) rfl rfl byK
 refine Qj5 (M := (((cm w V g).cy v1 o1).cy v2 o2)) (hn := hn) (hw := hw) 8 12 58 (Qmz g) rfl byK byK byT ⟨_, rfl, rfl, rfl, rfl⟩ byK byK byK byK (fun a w2 h => ?_) a w2 h
 refine wp_seq (wp_seq (Eng.reg_keep (E := cE (((cm w V g).cy v1 o1).cy v2 o2) hn hw) [(13, .nu ((0 : Nat) : Int))] byK byK byK byT byK byK byK (fun a w2 h => ?_) a w2 h))
 refine Qf6 g.rmw.length (fun k a w2 => (∀ i, i < k → Qkh (Qmz g) g.rmw i = []) ∧ (cE (((cm w V g).cy v1 o1).cy v2 o2) hn hw).Ga 97 w (Qao (fun _ => QV.x 0 0) (kk4 g k)) a w2) ⟨fun i hi => absurd hi oW, h.to (QV.x 0 0) (kk4 g 0) rfl rfl byK⟩ ?_
 rintro k a w2 hk ⟨hall, h⟩
 refine Eng.reg_keep (E := cE (((cm w V g).cy v1 o1).cy v2 o2) hn hw) [(63, QV.bo (decide (((k : Nat) : Int) < (g.rmw.length : Int))))] byK byK byK byT byK byK byK (fun a w2 h => ?_) a w2 h
 refine ⟨_, QJa h 63 (decide (((k : Nat) : Int) < (g.rmw.length : Int))) byK, fun hq => ?_, fun hq => ⟨by simpa using hq, ?_⟩⟩
 case refine_1 =>
  obtain rfl : k = g.rmw.length := by have : ¬ k < g.rmw.length := (by simpa using hq); omega
  have ht : Qh5 g = [] := Qiv hall
  refine Qj6 (M := (((cm w V g).cy v1 o1).cy v2 o2)) (hn := hn) (hw := hw) 0 1 2 0 0 (.x 25 0) [] (QEu (((cm w V g).cy v1 o1).cy v2 o2)) byK byK byT byK byK rfl (fun a w h => by exact h) (fun v w' hl ho => ?_) a w2 h
  have hA := RefAns.three HC.out HO1 ho1 HO2 ho2
  rw [if_pos ht, ht] at hA
  exact ⟨0, [], 0, v, rfl, ho, hA, hl⟩
 case refine_2 =>
  have hkn : k < g.rmw.length := by simpa using hq
  obtain ⟨i1, i2⟩ := QHi hw hkn
  have hR := HR.out
  have i0 : 0 ≤ (k : Int) ∧ (k : Int) < (g.rmw.length : Int) := ⟨oW, oW⟩
  have hX := QEx g k i1.1 i2.1
  replace h := h.to (QV.x 0 0) (kk4 g k) rfl rfl byK
  refine wp_seq (Eng.reg_keep (E := cE (((cm w V g).cy v1 o1).cy v2 o2) hn hw) [(83, QV.bo (Qsh g k))] byK byK byK (Qd4 (p := (true = true → (0 ≤ ((k : Nat) : Int) ∧ ((k : Nat) : Int) < (g.rmw.length : Int))) ∧ (true = true → (0 ≤ (rmP g k).1 ∧ (rmP g k).1 < (g.evs.length : Int))) ∧ (true = true → (0 ≤ ((k : Nat) : Int) ∧ ((k : Nat) : Int) < (g.rmw.length : Int))) ∧ (true = true → (0 ≤ (rmP g k).2 ∧ (rmP g k).2 < (g.evs.length : Int))) ∧ True) byK ⟨fun _ => i0, fun _ => i1, fun _ => i0, fun _ => i2, trivial⟩) byK byK byK (fun a w2 h => ?_) a w2 h)
  refine Eng.condk (E := cE (((cm w V g).cy v1 o1).cy v2 o2) hn hw) 83 (Qsh g k) (Qsh g k) byK byK rfl (fun hq a w2 h => ?_) (fun hq a w2 h => Go.wp_skip ?_) a w2 h
  ·rw [hq, if_pos rfl] at hX
   refine Qj6 (M := (((cm w V g).cy v1 o1).cy v2 o2)) (hn := hn) (hw := hw) 13 14 15 3 0 ⟨GV.at 0 0, 26, 0, [], [], [], [(rmP g k).1, (rmP g k).2]⟩ [(rmP g k).1, (rmP g k).2] (QEv (((cm w V g).cy v1 o1).cy v2 o2) _) byK byK (Qd4 (p := (true = true → (0 ≤ ((k : Nat) : Int) ∧ ((k : Nat) : Int) < (g.rmw.length : Int))) ∧ (true = true → (0 ≤ ((k : Nat) : Int) ∧ ((k : Nat) : Int) < (g.rmw.length : Int))) ∧ True) byK ⟨fun _ => i0, fun _ => i0, trivial⟩) byK byK rfl (fun a w h => by exact h) (fun v w' hl ho => ?_) a w2 h
   have ht : Qh5 g = [(rmP g k).1, (rmP g k).2] := (Qlf hall (by rw [hX]; exact List.cons_ne_nil _ _) hkn).trans hX
   have hA := RefAns.three HC.out HO1 ho1 HO2 ho2
   rw [if_neg (by rw [ht]; exact List.cons_ne_nil _ _), ht] at hA
   exact ⟨3, _, 0, v, rfl, ho, hA, hl⟩
  ·rw [hq, if_neg dW] at hX
   refine Eng.reg_keep (E := cE (((cm w V g).cy v1 o1).cy v2 o2) hn hw) [(13, QV.nu (((k + 1 : Nat)) : Int))] byK byK byK (Qd4 (p := (true = true → ((-9223372036854775808 : Int) ≤ ((k : Nat) : Int) + 1 ∧ ((k : Nat) : Int) + 1 < 9223372036854775808)) ∧ True) byK ⟨fun _ => ⟨oW, oW⟩, trivial⟩) byK byK byK (fun a w2 h => ⟨Qy9 hall hX, ?_⟩) a w2 h
   exact h.to (QV.x 0 0) (kk4 g (k + 1)) rfl rfl byK
theorem Qz {w w' : World} {base b : Nat} {v : Value} {l : List Int} (h : w.ownsRow base 3 1 v l.length (Qam l)) (hb : b < base) (ht : Touch b w w') : w'.ownsRow base 3 1 v l.length (Qam l) := by
 obtain ⟨h1, h2⟩ := h
 refine ⟨h1, ?_⟩
 rcases h2 with h2 | ⟨g, cap, cur, e1, e2, e3, e4⟩
 ·exact .inl h2
 ·have hk : Blk w g 3 cur := e3
  exact .inr ⟨g, cap, cur, e1, e2, hk.touch ht oW, e4⟩
theorem Qo {w w' : World} {base : Nat} {v : Value} {l : List Int} (h : w.ownsRow base 3 1 v l.length (Qam l)) (hB : Below w.heap.size w w') : w'.ownsRow base 3 1 v l.length (Qam l) := by
 obtain ⟨h1, h2⟩ := h
 refine ⟨h1, ?_⟩
 rcases h2 with h2 | ⟨g, cap, cur, e1, e2, e3, e4⟩
 ·exact .inl h2
 ·have hk : Blk w g 3 cur := e3
  exact .inr ⟨g, cap, cur, e1, e2, hk.of_below hB, e4⟩
theorem Qhl {w : World} {base : Nat} {v : Value} {l : List Int} (h : w.ownsRow base 3 1 v l.length (Qam l)) : ListR Qfo w v l := (Qgd h).list
theorem QBl {w : World} {base : Nat} {v : Value} {l : List Int} (h : w.ownsRow base 3 1 v l.length (Qam l)) : l.length ≤ 9223372036854775807 := by
 rcases h.2 with ⟨_, e⟩ | ⟨g, cap, cur, e1, e2, e3, h4, h5, _⟩
 ·omega
 ·unfold maxLen at h5
  omega
def ByR (W w3 wr : World) (oa : Option Addr) (n : Nat) : Prop := 0 < n → ∃ b cur, oa = some ⟨b, 0, none⟩ ∧ W.heap.size ≤ b ∧ b < w3.heap.size ∧ Blk wr b 3 cur ∧ n ≤ cur.size
theorem QJb {W w3 : World} {oa : Option Addr} {oc : Nat} {l : List Int} (h : w3.ownsRow W.heap.size 3 1 (.slice oa l.length oc) l.length (Qam l)) : ByR W w3 w3 oa l.length := by
 intro h0
 rcases h.2 with ⟨_, e⟩ | ⟨g, cap, cur, e1, e2, e3, e4⟩
 ·omega
 ·cases e1
  have hk : Blk w3 g 3 cur := e3
  refine ⟨g, cur, rfl, e2, hk.lt, hk, ?_⟩
  have h5 : (cur.toList.take (l.length * 1)).length = (Qam l).length := by rw [e4.2.2.2]
  rw [List.length_take, Qam, List.length_map, Nat.mul_one] at h5
  simp at h5
  omega
theorem ByR.below {W w3 wr wr' : World} {oa : Option Addr} {n : Nat} (h : ByR W w3 wr oa n) (hB : Below wr.heap.size wr wr') : ByR W w3 wr' oa n := fun h0 => by
 obtain ⟨b, cur, e, h1, h2, h3, h4⟩ := h h0
 exact ⟨b, cur, e, h1, h2, h3.of_below hB, h4⟩
theorem Qoa (V : GrV) (g : Gr) (w : World) (h : GrR w V g) (hb : GrB g) (hF : Frm w) (hT : Tab w) : Calls Tryz.prog 5 #[V.val g] w fun r w' => r = .returned (.bool true) ∧ Below w.heap.size w w' := by
 have HV := Qa h
 have HF := Qa hF
 have HT := Qa hT
 have HBG := Qa hb
 have hG := Blk.new w 27 #[.int .i64 g.cells, V.ev, V.rf, V.co, V.rmw, V.addr, V.dat, V.ctrl]
 have hB : Below w.heap.size w (w.alloc (.cells #[.int .i64 g.cells, V.ev, V.rf, V.co, V.rmw, V.addr, V.dat, V.ctrl] 27)) := bW.alloc nW _
 unfold GrV.val
 clear h hF hT hb
 go_enter Tryz.func5, Tryz.ntmps5
 go_upto_region 1 with fail
 have HB0 := Qa hB
 have HG0 := Qa hG
 generalize w.alloc (.cells #[.int .i64 g.cells, V.ev, V.rf, V.co, V.rmw, V.addr, V.dat, V.ctrl] 27) = W0 at *
 clear hB
 have d0a : W0.cell? ⟨w.heap.size, 0, none⟩ = some (.int .i64 g.cells) := hG.cell rfl
 have d1a : W0.cell? ⟨w.heap.size, 1, none⟩ = some (V.ev) := hG.cell rfl
 have d2a : W0.cell? ⟨w.heap.size, 2, none⟩ = some (V.rf) := hG.cell rfl
 have d3a : W0.cell? ⟨w.heap.size, 3, none⟩ = some (V.co) := hG.cell rfl
 have d4a : W0.cell? ⟨w.heap.size, 4, none⟩ = some (V.rmw) := hG.cell rfl
 have d5a : W0.cell? ⟨w.heap.size, 5, none⟩ = some (V.addr) := hG.cell rfl
 have d6a : W0.cell? ⟨w.heap.size, 6, none⟩ = some (V.dat) := hG.cell rfl
 have d7a : W0.cell? ⟨w.heap.size, 7, none⟩ = some (V.ctrl) := hG.cell rfl
 clear hG
 have D1 := Qa (Qp3 V g W0 (HV.out.below HB0.out) HBG.out)
 unfold GrV.val at D1
 go_wp2_with fail
 refine D1.out.mono ?_
 rintro e w1 ⟨U, rfl, hU, hB1⟩
 obtain ⟨Vb1, Vb2, Vb3, Vb4, Vb5, Vb6, Vb7⟩ := U
 obtain ⟨p1b, k1b, e1b, _, _⟩ := hU.ev
 obtain ⟨p2b, k2b, e2b, _, _⟩ := Qab hU.rf
 obtain ⟨p4b, k4b, e4b, _, _⟩ := Qab hU.rmw
 obtain ⟨p5b, k5b, e5b, _, _⟩ := Qab hU.addr
 obtain ⟨p6b, k6b, e6b, _, _⟩ := Qab hU.dat
 obtain ⟨p7b, k7b, e7b, _, _⟩ := Qab hU.ctrl
 obtain ⟨p3b, k3b, e3b, _, _⟩ := Qbg hU.co
 dsimp only at e1b e2b e3b e4b e5b e6b e7b
 subst e1b
 subst e2b
 subst e3b
 subst e4b
 subst e5b
 subst e6b
 subst e7b
 have HU := Qa hU
 have HB1 : Hid (Below w.heap.size w w1) := Qaa HB0.out HB0.out.size hB1
 have HG1 := Qa (HG0.out.of_below hB1)
 clear hU hB1 d0a d1a d2a d3a d4a d5a d6a d7a
 dsimp only
 go_upto_region 2 with fail
 have hG2 := Blk.new w1 27 #[.int .i64 g.cells, .slice p1b g.evs.length k1b, .slice p2b g.rf.length k2b, .slice p3b g.co.length k3b, .slice p4b g.rmw.length k4b, .slice p5b g.addr.length k5b, .slice p6b g.dat.length k6b, .slice p7b g.ctrl.length k7b]
 have hB2 : Below w1.heap.size w1 (w1.alloc (.cells #[.int .i64 g.cells, .slice p1b g.evs.length k1b, .slice p2b g.rf.length k2b, .slice p3b g.co.length k3b, .slice p4b g.rmw.length k4b, .slice p5b g.addr.length k5b, .slice p6b g.dat.length k6b, .slice p7b g.ctrl.length k7b] 27)) := bW.alloc nW _
 have HGa := Qa (HG1.out.of_below hB2)
 have HGb := Qa hG2
 have HB2 : Hid (Below w.heap.size w (w1.alloc (.cells #[.int .i64 g.cells, .slice p1b g.evs.length k1b, .slice p2b g.rf.length k2b, .slice p3b g.co.length k3b, .slice p4b g.rmw.length k4b, .slice p5b g.addr.length k5b, .slice p6b g.dat.length k6b, .slice p7b g.ctrl.length k7b] 27))) := Qaa HB1.out HB1.out.size hB2
 have HU2 := Qa (HU.out.below hB2)
 clear hG2 hB2 HG1 HG0 HU
 generalize w1.alloc (.cells #[.int .i64 g.cells, .slice p1b g.evs.length k1b, .slice p2b g.rf.length k2b, .slice p3b g.co.length k3b, .slice p4b g.rmw.length k4b, .slice p5b g.addr.length k5b, .slice p6b g.dat.length k6b, .slice p7b g.ctrl.length k7b] 27) = W2 at *
 generalize w1.heap.size = nb at *
 have D2 := Qa (Qhg ⟨.slice p1b g.evs.length k1b, .slice p2b g.rf.length k2b, .slice p3b g.co.length k3b, .slice p4b g.rmw.length k4b, .slice p5b g.addr.length k5b, .slice p6b g.dat.length k6b, .slice p7b g.ctrl.length k7b⟩ g W2 HU2.out (HF.out.step HB2.out) (HT.out.step' HB2.out))
 unfold GrV.val at D2
 have d0b : W2.cell? ⟨nb, 0, none⟩ = some (.int .i64 g.cells) := (HGb.out).cell rfl
 have d1b : W2.cell? ⟨nb, 1, none⟩ = some (.slice p1b g.evs.length k1b) := (HGb.out).cell rfl
 have d2b : W2.cell? ⟨nb, 2, none⟩ = some (.slice p2b g.rf.length k2b) := (HGb.out).cell rfl
 have d3b : W2.cell? ⟨nb, 3, none⟩ = some (.slice p3b g.co.length k3b) := (HGb.out).cell rfl
 have d4b : W2.cell? ⟨nb, 4, none⟩ = some (.slice p4b g.rmw.length k4b) := (HGb.out).cell rfl
 have d5b : W2.cell? ⟨nb, 5, none⟩ = some (.slice p5b g.addr.length k5b) := (HGb.out).cell rfl
 have d6b : W2.cell? ⟨nb, 6, none⟩ = some (.slice p6b g.dat.length k6b) := (HGb.out).cell rfl
 have d7b : W2.cell? ⟨nb, 7, none⟩ = some (.slice p7b g.ctrl.length k7b) := (HGb.out).cell rfl
 go_wp2_with fail
 refine D2.out.mono ?_
 rintro e w3 ⟨ax, v, l, er, rfl, hans, hown, hB3⟩
 obtain ⟨oa, oc, rfl⟩ := Qax hown
 clear D2
 clear d0b d1b d2b d3b d4b d5b d6b d7b
 have HW3 : Hid (Below W2.heap.size W2 w3) := hB3
 have HB3 : Hid (Below w.heap.size w w3) := Qaa HB2.out HB2.out.size hB3
 have HBY := Qa (QJb hown)
 have hlm : l.length ≤ 9223372036854775807 := QBl hown
 have HLB := Qa (Qhl hown)
 have HAN := Qa hans
 clear hans hown hB3
 have D3 := Qa (Qo9 V g w3 (HV.out.below HB3.out))
 unfold GrV.val at D3
 have d0a : w3.cell? ⟨w.heap.size, 0, none⟩ = some (.int .i64 g.cells) := (HGa.out.of_below HW3.out).cell rfl
 have d1a : w3.cell? ⟨w.heap.size, 1, none⟩ = some (V.ev) := (HGa.out.of_below HW3.out).cell rfl
 have d2a : w3.cell? ⟨w.heap.size, 2, none⟩ = some (V.rf) := (HGa.out.of_below HW3.out).cell rfl
 have d3a : w3.cell? ⟨w.heap.size, 3, none⟩ = some (V.co) := (HGa.out.of_below HW3.out).cell rfl
 have d4a : w3.cell? ⟨w.heap.size, 4, none⟩ = some (V.rmw) := (HGa.out.of_below HW3.out).cell rfl
 have d5a : w3.cell? ⟨w.heap.size, 5, none⟩ = some (V.addr) := (HGa.out.of_below HW3.out).cell rfl
 have d6a : w3.cell? ⟨w.heap.size, 6, none⟩ = some (V.dat) := (HGa.out.of_below HW3.out).cell rfl
 have d7a : w3.cell? ⟨w.heap.size, 7, none⟩ = some (V.ctrl) := (HGa.out.of_below HW3.out).cell rfl
 go_wp2_with fail
 refine D3.out.mono ?_
 rintro e w4 ⟨ax', l', e', v', rfl, hown', href, hB4⟩
 clear D3
 clear d0a d1a d2a d3a d4a d5a d6a d7a
 obtain ⟨rfl, rfl, rfl⟩ := href ax l er HAN.out
 obtain ⟨ob, od, rfl⟩ := Qax hown'
 have HRF := Qa href
 have HW4 : Hid (Below W2.heap.size W2 w4) := Qaa HW3.out HW3.out.size hB4
 have HBY4 := Qa (HBY.out.below hB4)
 have HLB4 := Qa (HLB.out.below hB4)
 have HOW4 := Qa hown'
 clear href hown' HBY HLB HAN hB4
 have D4 := Qa (Qhh _ _ l l w4 HLB4.out (Qhl HOW4.out) hlm)
 rw [decide_eq_true rfl] at D4
 have q1 : ((er : Int) != er) = false := by simp
 have q2 : ((ax : Int) != ax) = false := by simp
 go_wp2_with fail
 refine D4.out.mono ?_
 rintro e w5 ⟨rfl, hB5⟩
 have HW5 : Hid (Below W2.heap.size W2 w5) := Qaa HW4.out HW4.out.size hB5
 have HBY5 := Qa (HBY4.out.below hB5)
 have HOW5 := Qa (Qo HOW4.out hB5)
 clear D4 HBY4 HLB4 HOW4 HW4 hB5 q1 q2
 go_wp2_with fail
 go_loopg [10] l.length (fun f i wr => ∃ k : Nat, i = .int .i64 ((k : Nat) : Int) ∧ k ≤ l.length ∧ Hid (k + f = l.length) ∧ Hid (Below W2.heap.size W2 wr) ∧ Hid (ByR W2 w3 wr oa l.length) ∧ Hid (wr.ownsRow w3.heap.size 3 1 (.slice ob l.length od) l.length (Qam l)))
 case atStart => exact ⟨0, rfl, Nat.zero_le _, Nat.zero_add _, HW5.out, HBY5.out, HOW5.out⟩
 case round =>
  clear HW5 HBY5 HOW5
  obtain ⟨k, rfl, hk, HKF, HW, HBY, HOW⟩ := hrel
  by_cases hlt : k < l.length
  ·obtain ⟨b, cur, rfl, hb1, hb2, hbk, hcs⟩ := HBY.out oW
   obtain ⟨x, hx⟩ : ∃ x, cur[k]? = some x := ⟨_, Array.getElem?_eq_getElem oW⟩
   have c0 := hbk.cell (j := k) hx
   have f0 := hbk.frozen k
   have K0 : (0 : Int) ≤ (k : Int) := by omega
   have K1 : (k : Int) < (l.length : Int) := by omega
   have ht : Touch b wr (wr.setCell ⟨b, k, none⟩ (.int .i64 (-1))) := (Touch.of_below (Below.refl _ wr)).set _
   have HW2 := Qa (HW.out.setCell (p := ⟨b, k, none⟩) hb1 (.int .i64 (-1)))
   have HBY2 : Hid (ByR W2 w3 (wr.setCell ⟨b, k, none⟩ (.int .i64 (-1))) (some ⟨b, 0, none⟩) l.length) := fun _ => ⟨b, _, rfl, hb1, hb2, hbk.set k _, by rw [Array.size_setIfInBounds]; exact hcs⟩
   have HOW2 := Qa (Qz HOW.out hb2 ht)
   clear ht hbk hcs HBY HOW HW hx
   go_wp2_with fail
   go_roundg (l.length - (k + 1))
   case measure => have := HKF.out; omega
   case rel => exact ⟨k + 1, by go_num, oW, by have := HKF.out; rw [Hid]; omega, HW2.out, HBY2.out, HOW2.out⟩
  ·have HBw := Qa (Qaa HB2.out HB2.out.size HW.out)
   have D5 := Qa (Qhg ⟨.slice p1b g.evs.length k1b, .slice p2b g.rf.length k2b, .slice p3b g.co.length k3b, .slice p4b g.rmw.length k4b, .slice p5b g.addr.length k5b, .slice p6b g.dat.length k6b, .slice p7b g.ctrl.length k7b⟩ g wr (HU2.out.below HW.out) (HF.out.step HBw.out) (HT.out.step' HBw.out))
   unfold GrV.val at D5
   have d0b : wr.cell? ⟨nb, 0, none⟩ = some (.int .i64 g.cells) := (HGb.out.of_below HW.out).cell rfl
   have d1b : wr.cell? ⟨nb, 1, none⟩ = some (.slice p1b g.evs.length k1b) := (HGb.out.of_below HW.out).cell rfl
   have d2b : wr.cell? ⟨nb, 2, none⟩ = some (.slice p2b g.rf.length k2b) := (HGb.out.of_below HW.out).cell rfl
   have d3b : wr.cell? ⟨nb, 3, none⟩ = some (.slice p3b g.co.length k3b) := (HGb.out.of_below HW.out).cell rfl
   have d4b : wr.cell? ⟨nb, 4, none⟩ = some (.slice p4b g.rmw.length k4b) := (HGb.out.of_below HW.out).cell rfl
   have d5b : wr.cell? ⟨nb, 5, none⟩ = some (.slice p5b g.addr.length k5b) := (HGb.out.of_below HW.out).cell rfl
   have d6b : wr.cell? ⟨nb, 6, none⟩ = some (.slice p6b g.dat.length k6b) := (HGb.out.of_below HW.out).cell rfl
   have d7b : wr.cell? ⟨nb, 7, none⟩ = some (.slice p7b g.ctrl.length k7b) := (HGb.out.of_below HW.out).cell rfl
   go_wp2_with fail
   refine D5.out.mono ?_
   rintro e w7 ⟨ax2, v2, l2, er2, rfl, hans2, hown2, hB7⟩
   obtain ⟨rfl, rfl, rfl⟩ := HRF.out ax2 l2 er2 hans2
   obtain ⟨oe, of, rfl⟩ := Qax hown2
   clear D5 hans2
   clear d0b d1b d2b d3b d4b d5b d6b d7b
   have HW7 := Qa (Qaa HW.out HW.out.size hB7)
   have HB7 := Qa (Qaa HBw.out HBw.out.size hB7)
   have D6 := Qa (Qhh _ _ l2 l2 w7 (Qhl hown2) (Qhl (Qo HOW.out hB7)) hlm)
   rw [decide_eq_true rfl] at D6
   clear hown2 hB7 HOW HBY HW HBw
   go_wp2_with fail
   refine D6.out.mono ?_
   rintro e w8 ⟨rfl, hB8⟩
   have HW8 := Qa (Qaa HW7.out HW7.out.size hB8)
   have HB8 := Qa (Qaa HB7.out HB7.out.size hB8)
   clear D6 hB8 HW7 HB7
   have D7 := Qa (Qro ⟨.slice p1b g.evs.length k1b, .slice p2b g.rf.length k2b, .slice p3b g.co.length k3b, .slice p4b g.rmw.length k4b, .slice p5b g.addr.length k5b, .slice p6b g.dat.length k6b, .slice p7b g.ctrl.length k7b⟩ V g w8 (HU2.out.below HW8.out) (HV.out.below HB8.out))
   unfold GrV.val at D7
   have d0a : w8.cell? ⟨w.heap.size, 0, none⟩ = some (.int .i64 g.cells) := (HGa.out.of_below HW8.out).cell rfl
   have d1a : w8.cell? ⟨w.heap.size, 1, none⟩ = some (V.ev) := (HGa.out.of_below HW8.out).cell rfl
   have d2a : w8.cell? ⟨w.heap.size, 2, none⟩ = some (V.rf) := (HGa.out.of_below HW8.out).cell rfl
   have d3a : w8.cell? ⟨w.heap.size, 3, none⟩ = some (V.co) := (HGa.out.of_below HW8.out).cell rfl
   have d4a : w8.cell? ⟨w.heap.size, 4, none⟩ = some (V.rmw) := (HGa.out.of_below HW8.out).cell rfl
   have d5a : w8.cell? ⟨w.heap.size, 5, none⟩ = some (V.addr) := (HGa.out.of_below HW8.out).cell rfl
   have d6a : w8.cell? ⟨w.heap.size, 6, none⟩ = some (V.dat) := (HGa.out.of_below HW8.out).cell rfl
   have d7a : w8.cell? ⟨w.heap.size, 7, none⟩ = some (V.ctrl) := (HGa.out.of_below HW8.out).cell rfl
   have d0b : w8.cell? ⟨nb, 0, none⟩ = some (.int .i64 g.cells) := (HGb.out.of_below HW8.out).cell rfl
   have d1b : w8.cell? ⟨nb, 1, none⟩ = some (.slice p1b g.evs.length k1b) := (HGb.out.of_below HW8.out).cell rfl
   have d2b : w8.cell? ⟨nb, 2, none⟩ = some (.slice p2b g.rf.length k2b) := (HGb.out.of_below HW8.out).cell rfl
   have d3b : w8.cell? ⟨nb, 3, none⟩ = some (.slice p3b g.co.length k3b) := (HGb.out.of_below HW8.out).cell rfl
   have d4b : w8.cell? ⟨nb, 4, none⟩ = some (.slice p4b g.rmw.length k4b) := (HGb.out.of_below HW8.out).cell rfl
   have d5b : w8.cell? ⟨nb, 5, none⟩ = some (.slice p5b g.addr.length k5b) := (HGb.out.of_below HW8.out).cell rfl
   have d6b : w8.cell? ⟨nb, 6, none⟩ = some (.slice p6b g.dat.length k6b) := (HGb.out.of_below HW8.out).cell rfl
   have d7b : w8.cell? ⟨nb, 7, none⟩ = some (.slice p7b g.ctrl.length k7b) := (HGb.out.of_below HW8.out).cell rfl
   go_wp2_with fail
   refine D7.out.mono ?_
   rintro e w9 ⟨rfl, hB9⟩
   have HB9 := Qa (Qaa HB8.out HB8.out.size hB9)
   have D8 := Qa (Qpk w9 (HF.out.step HB9.out) (HT.out.step' HB9.out))
   clear D7
   go_wp2_with fail
   refine D8.out.mono ?_
   rintro e w10 ⟨rfl, hB10⟩
   have HB10 := Qaa HB9.out HB9.out.size hB10
   go_wp2_with fail
   go_ret
   exact ⟨rfl, HB10⟩
end Go.Proofs.YtdkogbfamdnheaaGreatDoor
