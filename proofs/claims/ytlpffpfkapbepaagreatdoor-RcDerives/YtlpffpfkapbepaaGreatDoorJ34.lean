/- Straight code over the document's own relations: a reckoning of what each slot holds. -/
import Derived.Test.YtlpffpfkapbepaaGreatDoorJ05
import Derived.Test.YtlpffpfkapbepaaGreatDoorJ28
import Derived.Test.YtlpffpfkapbepaaGreatDoorR8Q
import Derived.Test.YtlpffpfkapbepaaGreatDoorJ33
import Derived.Great.Frames
namespace Go.Proofs.YtlpffpfkapbepaaGreatDoor
open Go.RowKit Go.Shelf Sx
set_option maxRecDepth 100000
set_option maxHeartbeats 16000000
set_option linter.unusedSimpArgs false
set_option linter.unusedVariables false
structure AV where
 t : Nat
 k : Int
 s : Ev → Bool
 r : List Nat
 l : List (List Nat)
 i : List Int
def AV.any : AV := ⟨0, 0, fun _ => false, [], [], []⟩
def AV.gv : AV := ⟨1, 0, fun _ => false, [], [], []⟩
def AV.gp : AV := ⟨2, 0, fun _ => false, [], [], []⟩
def AV.num (k : Int) : AV := ⟨3, k, fun _ => false, [], [], []⟩
def AV.len : AV := ⟨3, 0, fun _ => false, [], [], [0]⟩
def Qr6 (g : Gr) (x : AV) : Int := match x.i with
 | [] => x.k
 | _ :: _ => ((g.evs.length : Nat) : Int)
theorem QFc {g : Gr} {x : AV} (h : x.i.isEmpty = true) : Qr6 g x = x.k := by
 unfold Qr6
 rw [List.isEmpty_iff.1 h]
theorem QFd {g : Gr} {x : AV} (h : ¬ x.i.isEmpty = true) : Qr6 g x = ((g.evs.length : Nat) : Int) := by
 unfold Qr6
 cases hx : x.i with
 | nil => rw [hx] at h; exact absurd rfl h
 | cons a l => rfl
def AV.st (s : Ev → Bool) : AV := ⟨4, 0, s, [], [], []⟩
def AV.is (i : List Int) : AV := ⟨5, 0, fun _ => false, [], [], i⟩
def AV.rl (r : List Nat) : AV := ⟨6, 0, fun _ => false, r, [], []⟩
def AV.rs (l : List (List Nat)) : AV := ⟨7, 0, fun _ => false, [], l, []⟩
def AV.bx (r : List Nat) : AV := ⟨8, 0, fun _ => false, r, [], []⟩
def AV.rp : AV := ⟨2, 1, fun _ => false, [], [], []⟩
def AV.nw : AV := ⟨9, 0, fun _ => false, [], [], []⟩
def AV.fc (l : List (List Nat)) : AV := ⟨10, 0, fun _ => false, [], l, []⟩
def FcA (w : World) (n : Nat) (v : Value) (l : List (List Nat)) : Prop := ∃ qs : List (Option Addr × Nat × Nat × List Nat), v = .agg (qs.flatMap (fun q => [Value.int .i64 ((n : Nat) : Int), .slice q.1 q.2.1 q.2.2.1])).toArray ∧ qs.map (fun q => q.2.2.2) = l ∧ ∀ q ∈ qs, RT w n (.agg #[.int .i64 ((n : Nat) : Int), .slice q.1 q.2.1 q.2.2.1]) q.2.2.2
theorem FcA.below {w w' : World} {n : Nat} {v : Value} {l : List (List Nat)} (h : FcA w n v l) (hb : Below w.heap.size w w') : FcA w' n v l := by
 obtain ⟨qs, h1, h2, h3⟩ := h
 exact ⟨qs, h1, h2, fun q hq => (h3 q hq).below hb⟩
def Is (V : GrV) (g : Gr) (gb N : Nat) (w : World) (x : AV) (v : Value) : Prop :=
 (x.t = 1 → v = V.val g) ∧ (x.t = 2 → v = pv (gb + x.k.toNat)) ∧ (x.t = 3 → v = .int .i64 (Qr6 g x)) ∧ (x.t = 4 → SetArg w v (Qat x.s g.evs)) ∧ (x.t = 5 → IntsR w v x.i) ∧
 (x.t = 6 → RT w g.evs.length v x.r) ∧ (x.t = 7 → RsA w g.evs.length v x.l) ∧
 (x.t = 8 → ∃ b a y z, v = pv b ∧ Blk w b 52 #[.int .i64 ((g.evs.length : Nat) : Int), .slice a y z] ∧ RT w g.evs.length (.agg #[.int .i64 ((g.evs.length : Nat) : Int), .slice a y z]) x.r) ∧
 (x.t = 9 → ∃ b, v = pv b ∧ N ≤ b ∧ Blk w b 52 #[.int .i64 0, .slice none 0 0]) ∧ (x.t = 10 → FcA w g.evs.length v x.l)
section
variable {V : GrV} {g : Gr} {gb N : Nat} {w w' : World} {x : AV} {v : Value}
theorem Is.below (h : Is V g gb N w x v) (hb : Below w.heap.size w w') : Is V g gb N w' x v := by
 obtain ⟨h1, h2, h3, h4, h5, h6, h7, h8, h9, hz⟩ := h
 refine ⟨h1, h2, h3, fun e => (h4 e).below hb, fun e => (h5 e).below hb, fun e => (h6 e).below hb, fun e => (h7 e).below hb, fun e => ?_, fun e => ?_, fun e => (hz e).below hb⟩
 ·obtain ⟨b, a, y, z, k1, k2, k3⟩ := h8 e
  exact ⟨b, a, y, z, k1, k2.of_below hb, k3.below hb⟩
 ·obtain ⟨b, k1, k2, k3⟩ := h9 e
  exact ⟨b, k1, k2, k3.of_below hb⟩
theorem Qyo : Is V g gb N w .any v := by
 refine ⟨?_, ?_, ?_, ?_, ?_, ?_, ?_, ?_, ?_, ?_⟩ <;> intro h <;> cases h
theorem QGf : Is V g gb N w .gv (V.val g) := by
 refine ⟨fun _ => rfl, ?_, ?_, ?_, ?_, ?_, ?_, ?_, ?_, ?_⟩ <;> intro h <;> cases h
theorem QGg : Is V g gb N w .gp (pv gb) := by
 refine ⟨?_, fun _ => rfl, ?_, ?_, ?_, ?_, ?_, ?_, ?_, ?_⟩ <;> intro h <;> cases h
theorem QGh : Is V g gb N w .rp (pv (gb + 1)) := by
 refine ⟨?_, fun _ => rfl, ?_, ?_, ?_, ?_, ?_, ?_, ?_, ?_⟩ <;> intro h <;> cases h
theorem QGi {l : List (List Nat)} (h : FcA w g.evs.length v l) : Is V g gb N w (.fc l) v := by
 refine ⟨?_, ?_, ?_, ?_, ?_, ?_, ?_, ?_, ?_, fun _ => h⟩ <;> intro h <;> cases h
theorem QFe (k : Int) : Is V g gb N w (.num k) (.int .i64 k) := by
 refine ⟨?_, ?_, fun _ => rfl, ?_, ?_, ?_, ?_, ?_, ?_, ?_⟩ <;> intro h <;> cases h
theorem QFf : Is V g gb N w .len (.int .i64 ((g.evs.length : Nat) : Int)) := by
 refine ⟨?_, ?_, fun _ => rfl, ?_, ?_, ?_, ?_, ?_, ?_, ?_⟩ <;> intro h <;> cases h
theorem QB5 {s : Ev → Bool} (h : SetArg w v (Qat s g.evs)) : Is V g gb N w (.st s) v := by
 refine ⟨?_, ?_, ?_, fun _ => h, ?_, ?_, ?_, ?_, ?_, ?_⟩ <;> intro h <;> cases h
theorem QGj {l : List Int} (h : IntsR w v l) : Is V g gb N w (.is l) v := by
 refine ⟨?_, ?_, ?_, ?_, fun _ => h, ?_, ?_, ?_, ?_, ?_⟩ <;> intro h <;> cases h
theorem Qwa {r : List Nat} (h : RT w g.evs.length v r) : Is V g gb N w (.rl r) v := by
 refine ⟨?_, ?_, ?_, ?_, ?_, fun _ => h, ?_, ?_, ?_, ?_⟩ <;> intro h <;> cases h
theorem QGk {l : List (List Nat)} (h : RsA w g.evs.length v l) : Is V g gb N w (.rs l) v := by
 refine ⟨?_, ?_, ?_, ?_, ?_, ?_, fun _ => h, ?_, ?_, ?_⟩ <;> intro h <;> cases h
theorem QGl {r : List Nat} {b : Nat} {a : Option Addr} {y z : Nat} (h : Blk w b 52 #[.int .i64 ((g.evs.length : Nat) : Int), .slice a y z]) (hr : RT w g.evs.length (.agg #[.int .i64 ((g.evs.length : Nat) : Int), .slice a y z]) r) : Is V g gb N w (.bx r) (pv b) := by
 refine ⟨?_, ?_, ?_, ?_, ?_, ?_, ?_, fun _ => ⟨b, a, y, z, rfl, h, hr⟩, ?_, ?_⟩ <;> intro h <;> cases h
theorem QGm {b : Nat} (hN : N ≤ b) (h : Blk w b 52 #[.int .i64 0, .slice none 0 0]) : Is V g gb N w .nw (pv b) := by
 refine ⟨?_, ?_, ?_, ?_, ?_, ?_, ?_, ?_, fun _ => ⟨b, rfl, hN, h⟩, ?_⟩ <;> intro h <;> cases h
end
def Qwb : Operand → AV
 | .const (.int .i64 k) => .num k
 | _ => .any
def opA (σ : Nat → AV) : Operand → AV
 | .tmp d => σ d
 | x => Qwb x
def Qr7 (g : Gr) (f : Nat) (l : List AV) : Option AV :=
 match l with
 | [x] => if x.t = 1 then (if f = 45 then some (.rl (LG g 0)) else if f = 46 then some (.rl (LG g 1)) else if f = 47 then some (.rl (LG g 2)) else if f = 48 then some (.rl (LG g 3)) else if f = 49 then some (.rl (LG g 4)) else if f = 50 then some (.rl (LG g 5)) else none)
   else if x.t = 6 then (if f = 58 then some (.rl (Qbr x.r)) else if f = 59 then some (.rl (Qbr (Qa9 x.r))) else if f = 60 then some (.rl (Qa9 x.r)) else none)
   else if x.t = 7 then (match x.l with
    | [] => none
    | A :: Ls => if 64 < Ls.length then none else if f = 57 then some (.rl (Ls.foldl Qbd A)) else if f = 61 then some (.rl (Ls.foldl (fun A B => Qal [A, B]) A)) else none)
   else none
 | [x, y] => if x.t = 1 ∧ y.t = 3 then (if f = 51 then (if y.i.isEmpty = true then some (.st (fun e => e.k == y.k)) else none) else none)
   else if x.t = 1 ∧ y.t = 5 then (if f = 54 then (if 64 < y.i.length then none else some (.st (fun e => y.i.contains e.m))) else none)
   else if x.t = 4 ∧ y.t = 4 then (if f = 52 then some (.st (fun e => x.s e && y.s e)) else if f = 53 then some (.st (fun e => x.s e || y.s e)) else none)
   else if x.t = 3 ∧ y.t = 4 then (if f = 55 then (if x.i.isEmpty = true then none else some (.rl (Qbg ((g.evs.length : Nat) : Int) (Qat y.s g.evs)))) else none)
   else if x.t = 6 ∧ y.t = 6 then (if f = 56 then some (.rl (Qb9 x.r y.r)) else if f = 62 then some (.rl (Qcj x.r y.r)) else none)
   else none
 | _ => none
theorem QDs {g : Gr} {q : Bool} (h : Wf g q) {i : Nat} (hi : i < g.evs.length) : (g.ev i).t = -1 ∨ 0 ≤ (g.ev i).t := by
 by_cases hc : ((i : Nat) : Int) < g.cells
 ·rw [Qkd (h 1 (by omega)) hc]
  exact .inl rfl
 ·have := Qnd (h 2 (by omega)) (by omega) hi
  unfold Qbq at this
  simp at this
  omega
theorem QDt {g : Gr} {q : Bool} (h : Wf g q) {a b : Nat} (ha : a < g.evs.length) (hb : b < g.evs.length) : Qcu g.evs ((a : Nat) : Int) ((b : Nat) : Int) = poB g.evs a b := by
 have h0 := QDs h ha
 unfold Qcu poB
 rw [Int.toNat_natCast, Int.toNat_natCast]
 have e0 : (g.evs.getD a Ev.zero).t = (g.ev a).t := rfl
 have e1 : (g.evs.getD b Ev.zero).t = (g.ev b).t := rfl
 rw [e0, e1, Bool.eq_iff_iff]
 simp only [Bool.and_eq_true, decide_eq_true_eq]
 omega
theorem Qit {n : Nat} {F G : Nat → Nat → Bool} (h : ∀ p q, p < n → q < n → F p q = G p q) : Twin n F (Qd0 n G) :=
 ⟨Qff n G, fun p q hp hq => by rw [h p q hp hq, (Qrb n G).same p q hp hq]; exact Iff.rfl⟩
def opR (g : Gr) (σ : Nat → AV) : Op → Option AV
 | .load t x => if t = 52 ∧ (opA σ x).t = 8 then some (.rl (opA σ x).r) else if t = 27 ∧ (opA σ x).t = 2 ∧ (opA σ x).k = 0 then some .gv else none
 | .alloc t => if t = 52 then some .nw else none
 | .buildSlice t n ps => if ps.toList.map (·.1) = List.range n ∧ 0 < n ∧ n ≤ 7 then
    (if t = 128 ∧ ps.toList.all (fun p => (opA σ p.2).t == 6) = true then some (.rs (ps.toList.map (fun p => (opA σ p.2).r)))
     else if t = 35 ∧ ps.toList.all (fun p => isK p.2) = true ∧ n ≤ 6 then some (.is (Qf8 ps.toList)) else none) else none
 | .build t ps => if t = 54 ∧ ps.toList.map (·.1) = List.range 11 ∧ ps.toList.all (fun p => (opA σ p.2).t == 6) = true then some (.fc (ps.toList.map (fun p => (opA σ p.2).r))) else none
 | .call ⟨.value (.func f), args, _⟩ => Qr7 g f (args.toList.map (opA σ))
 | _ => none
section
variable {V : GrV} {g : Gr} {gb N : Nat} {w : World} {a : Act} {σ : Nat → AV}
theorem Que {x : Operand} (h : ∀ d, x ≠ .tmp d) : Is V g gb N w (Qwb x) (a.eval x) := by
 unfold Qwb
 split
 ·exact QFe _
 ·exact Qyo
theorem Qiu {x : Operand} (h : ∀ d, x = .tmp d → Is V g gb N w (σ d) (a.eval (.tmp d))) : Is V g gb N w (opA σ x) (a.eval x) := by
 unfold opA
 split
 ·exact h _ rfl
 ·rename_i y hy
  exact Que hy
abbrev rvA (m : Int) (q : Option Addr × Nat × Nat × List Nat) : Value := .agg #[.int .i64 m, .slice q.1 q.2.1 q.2.2.1]
abbrev rvC (m : Int) (l : List (Option Addr × Nat × Nat × List Nat)) : List Value := l.flatMap (fun q => [Value.int .i64 m, .slice q.1 q.2.1 q.2.2.1])
theorem QBa (m : Int) (l : List (Option Addr × Nat × Nat × List Nat)) (h : l.length ≤ 7) (h0 : 0 < l.length) (w : World) : (Instr.buildSlice 128 l.length (List.zip (List.range l.length) (l.map (rvA m))).toArray).run Tryz.prog w = .ok (.slice (some ⟨w.heap.size, 0, none⟩) l.length l.length) (w.alloc (.cells (rvC m l).toArray 52)) := by
 match l, h, h0 with
 | [a], _, _ => exact (show _ = _ by kernel_rfl)
 | [a, b], _, _ => exact (show _ = _ by kernel_rfl)
 | [a, b, c], _, _ => exact (show _ = _ by kernel_rfl)
 | [a, b, c, d], _, _ => exact (show _ = _ by kernel_rfl)
 | [a, b, c, d, e], _, _ => exact (show _ = _ by kernel_rfl)
 | [a, b, c, d, e, f], _, _ => exact (show _ = _ by kernel_rfl)
 | [a, b, c, d, e, f, i], _, _ => exact (show _ = _ by kernel_rfl)
 | a :: b :: c :: d :: e :: f :: i :: j :: l, h, _ => simp at h
theorem QBb (m : Int) (l : List (Option Addr × Nat × Nat × List Nat)) (h : l.length = 11) (w : World) : (Instr.build 54 (List.zip (List.range 11) (l.map (rvA m))).toArray).run Tryz.prog w = .ok (.agg (rvC m l).toArray) w := by
 match l, h with
 | [a, b, c, d, e, f, i, j, k, n, o], _ => exact (show _ = _ by kernel_rfl)
theorem QDu (u : Value) (w : World) : (callFunc 45 #[u]).run Tryz.prog w = .ok (.enter 45 #[u]) w := by kernel_rfl
theorem QDv (u : Value) (w : World) : (callFunc 46 #[u]).run Tryz.prog w = .ok (.enter 46 #[u]) w := by kernel_rfl
theorem QDw (u : Value) (w : World) : (callFunc 47 #[u]).run Tryz.prog w = .ok (.enter 47 #[u]) w := by kernel_rfl
theorem QDx (u : Value) (w : World) : (callFunc 48 #[u]).run Tryz.prog w = .ok (.enter 48 #[u]) w := by kernel_rfl
theorem QBc (u : Value) (w : World) : (callFunc 49 #[u]).run Tryz.prog w = .ok (.enter 49 #[u]) w := by kernel_rfl
theorem Qyp (u : Value) (w : World) : (callFunc 50 #[u]).run Tryz.prog w = .ok (.enter 50 #[u]) w := by kernel_rfl
theorem Qyq (u : Value) (w : World) : (callFunc 58 #[u]).run Tryz.prog w = .ok (.enter 58 #[u]) w := by kernel_rfl
theorem Qwc (u : Value) (w : World) : (callFunc 59 #[u]).run Tryz.prog w = .ok (.enter 59 #[u]) w := by kernel_rfl
theorem Qwd (u : Value) (w : World) : (callFunc 60 #[u]).run Tryz.prog w = .ok (.enter 60 #[u]) w := by kernel_rfl
theorem Qyr (u : Value) (w : World) : (callFunc 57 #[u]).run Tryz.prog w = .ok (.enter 57 #[u]) w := by kernel_rfl
theorem Qys (u : Value) (w : World) : (callFunc 61 #[u]).run Tryz.prog w = .ok (.enter 61 #[u]) w := by kernel_rfl
theorem Qwe (u v : Value) (w : World) : (callFunc 51 #[u, v]).run Tryz.prog w = .ok (.enter 51 #[u, v]) w := by kernel_rfl
theorem Qyt (u v : Value) (w : World) : (callFunc 54 #[u, v]).run Tryz.prog w = .ok (.enter 54 #[u, v]) w := by kernel_rfl
theorem Qyu (u v : Value) (w : World) : (callFunc 52 #[u, v]).run Tryz.prog w = .ok (.enter 52 #[u, v]) w := by kernel_rfl
theorem Qto (u v : Value) (w : World) : (callFunc 53 #[u, v]).run Tryz.prog w = .ok (.enter 53 #[u, v]) w := by kernel_rfl
theorem Qtp (u v : Value) (w : World) : (callFunc 55 #[u, v]).run Tryz.prog w = .ok (.enter 55 #[u, v]) w := by kernel_rfl
theorem Qtq (u v : Value) (w : World) : (callFunc 56 #[u, v]).run Tryz.prog w = .ok (.enter 56 #[u, v]) w := by kernel_rfl
theorem Qtr (u v : Value) (w : World) : (callFunc 62 #[u, v]).run Tryz.prog w = .ok (.enter 62 #[u, v]) w := by kernel_rfl
end
section
variable {V : GrV} {g : Gr} {gb N : Nat} {w : World} {a : Act} {σ : Nat → AV} {Q : Exit → Act → World → Prop} {K : Act → World → Prop} {o : Oper}
section
variable {P : Program}
section
variable {dst : Option Tmp} {ty : TypeId} {pos : String} {af : Array Edge} {gd : Option (Nat × Bool)} {x y : Operand} {tys : Array TypeId} {f : Nat}
theorem Qcv (h : ∀ u w, (callFunc f #[u]).run P w = .ok (.enter f #[u]) w) (hc : Calls P f #[a.eval x] w (fun e w'' => ∃ v, e = .returned v ∧ K (a.put dst v) w'')) : Oper.wp P ⟨dst, .call ⟨.value (.func f), #[x], tys⟩, ty, pos, af, gd⟩ a w K Q :=
 Qav (o := ⟨dst, .call ⟨.value (.func f), #[x], tys⟩, ty, pos, af, gd⟩) (Qdm rfl h) hc
theorem Qfd (h : ∀ u v w, (callFunc f #[u, v]).run P w = .ok (.enter f #[u, v]) w) (hc : Calls P f #[a.eval x, a.eval y] w (fun e w'' => ∃ v, e = .returned v ∧ K (a.put dst v) w'')) : Oper.wp P ⟨dst, .call ⟨.value (.func f), #[x, y], tys⟩, ty, pos, af, gd⟩ a w K Q :=
 Qav (o := ⟨dst, .call ⟨.value (.func f), #[x, y], tys⟩, ty, pos, af, gd⟩) (Qco rfl rfl h) hc
end
end
def Qmg (V : GrV) (g : Gr) (gb N : Nat) (a : Act) (w : World) (d : Option Tmp) (av : AV) : Act → World → Prop := fun a' w' => ∃ v, a' = a.put d v ∧ Is V g gb N w' av v ∧ Below w.heap.size w w'
theorem Qfl {L : List Nat} {d : Option Tmp} {f : Nat} {args : Array Value} (h : Calls Tryz.prog f args w (Qe g.evs.length w L)) : Calls Tryz.prog f args w (fun e w'' => ∃ v, e = .returned v ∧ Qmg V g gb N a w d (.rl L) (a.put d v) w'') := by
 refine h.mono ?_
 rintro e w'' ⟨r, rfl, h1, h2⟩
 exact ⟨r, rfl, r, rfl, Qwa h1, h2⟩
theorem Qf5 {L : List Nat} {d : Option Tmp} {f : Nat} {args : Array Value} {F : Nat → Nat → Bool} (ht : Twin g.evs.length F L) (h : Calls Tryz.prog f args w (fun e w' => ∃ M rb, e = .returned (.agg #[.int .i64 ((g.evs.length : Nat) : Int), M]) ∧ RefM w.heap.size w' M g.evs.length g.evs.length rb F ∧ Below w.heap.size w w')) : Calls Tryz.prog f args w (fun e w'' => ∃ v, e = .returned v ∧ Qmg V g gb N a w d (.rl L) (a.put d v) w'') := by
 refine h.mono ?_
 rintro e w'' ⟨M, rb, rfl, h1, h2⟩
 exact ⟨_, rfl, _, rfl, Qwa (RT.of h1 ht), h2⟩
theorem Qmh {s : Ev → Bool} {d : Option Tmp} {f : Nat} {args : Array Value} (h : Calls Tryz.prog f args w (fun e w' => ∃ x, e = .returned x ∧ SetArg w' x (Qat s g.evs) ∧ Below w.heap.size w w')) : Calls Tryz.prog f args w (fun e w'' => ∃ v, e = .returned v ∧ Qmg V g gb N a w d (.st s) (a.put d v) w'') := by
 refine h.mono ?_
 rintro e w'' ⟨x, rfl, h1, h2⟩
 exact ⟨_, rfl, _, rfl, QB5 h1, h2⟩
theorem Qr8 {s : Ev → Bool} {d : Option Tmp} {f : Nat} {args : Array Value} (h : Calls Tryz.prog f args w (fun e w' => ∃ x, e = .returned x ∧ w'.ownsRow w.heap.size 4 1 x (Qat s g.evs).length (Qb2 (Qat s g.evs)) ∧ Below w.heap.size w w')) : Calls Tryz.prog f args w (fun e w'' => ∃ v, e = .returned v ∧ Qmg V g gb N a w d (.st s) (a.put d v) w'') :=
 Qmh (h.mono (by rintro e w'' ⟨x, rfl, h1, h2⟩; exact ⟨x, rfl, Qid h1, h2⟩))
theorem QDy (hn : g.evs.length ≤ 256) (hw : Wf g false) (hG : GrR w V g) {dst : Option Tmp} {f : Nat} {x : Operand} {tys : Array TypeId} {ty : TypeId} {pos : String} {af : Array Edge} {gd : Option (Nat × Bool)} {av : AV} (h : Qr7 g f [opA σ x] = some av) (hx : Is V g gb N w (opA σ x) (a.eval x)) :
  Oper.wp Tryz.prog ⟨dst, .call ⟨.value (.func f), #[x], tys⟩, ty, pos, af, gd⟩ a w (Qmg V g gb N a w dst av) Q := by
 unfold Qr7 at h
 dsimp only at h
 by_cases t1 : (opA σ x).t = 1
 ·rw [if_pos t1] at h
  have hv := hx.1 t1
  by_cases e : f = 45
  ·subst e
   rw [if_pos rfl] at h
   cases h
   refine Qcv QDu ?_
   rw [hv]
   exact Qf5 (Qit fun p q hp hq => QDt hw hp hq) (Qv4 V g w hG hn)
  rw [if_neg e] at h
  clear e
  by_cases e : f = 46
  ·subst e
   rw [if_pos rfl] at h
   cases h
   refine Qcv QDv ?_
   rw [hv]
   exact Qf5 (Qit fun _ _ _ _ => rfl) (Qmx V g w hG hn)
  rw [if_neg e] at h
  clear e
  by_cases e : f = 47
  ·subst e
   rw [if_pos rfl] at h
   cases h
   refine Qcv QDw ?_
   rw [hv]
   exact Qf5 (Qit fun _ _ _ _ => rfl) (Qmy V g false w hG hn hw)
  rw [if_neg e] at h
  clear e
  by_cases e : f = 48
  ·subst e
   rw [if_pos rfl] at h
   cases h
   refine Qcv QDx ?_
   rw [hv]
   exact Qf5 (Qit fun _ _ _ _ => rfl) (Qu1 V g false w hG hn hw)
  rw [if_neg e] at h
  clear e
  by_cases e : f = 49
  ·subst e
   rw [if_pos rfl] at h
   cases h
   refine Qcv QBc ?_
   rw [hv]
   exact Qf5 (Qit fun _ _ _ _ => rfl) (Qs7 V g w hG hn)
  rw [if_neg e] at h
  clear e
  by_cases e : f = 50
  ·subst e
   rw [if_pos rfl] at h
   cases h
   refine Qcv Qyp ?_
   rw [hv]
   exact Qf5 (Qit fun _ _ _ _ => rfl) (Qrw V g w hG hn)
  rw [if_neg e] at h
  clear e
  cases h
 rw [if_neg t1] at h
 by_cases t6 : (opA σ x).t = 6
 ·rw [if_pos t6] at h
  have hv := hx.2.2.2.2.2.1 t6
  by_cases e : f = 58
  ·subst e
   rw [if_pos rfl] at h
   cases h
   exact Qcv Qyq (Qfl (QGd hn hv))
  rw [if_neg e] at h
  clear e
  by_cases e : f = 59
  ·subst e
   rw [if_pos rfl] at h
   cases h
   exact Qcv Qwc (Qfl (QE5 hn hv))
  rw [if_neg e] at h
  clear e
  by_cases e : f = 60
  ·subst e
   rw [if_pos rfl] at h
   cases h
   exact Qcv Qwd (Qfl (QE4 hn hv))
  rw [if_neg e] at h
  clear e
  cases h
 rw [if_neg t6] at h
 by_cases t7 : (opA σ x).t = 7
 ·rw [if_pos t7] at h
  have hv := hx.2.2.2.2.2.2.1 t7
  generalize (opA σ x).l = l at *
  cases l with
  | nil => cases h
  | cons A Ls =>
   dsimp only at h
   by_cases hl : 64 < Ls.length
   ·rw [if_pos hl] at h
    cases h
   rw [if_neg hl] at h
   by_cases e : f = 57
   ·subst e
    rw [if_pos rfl] at h
    cases h
    exact Qcv Qyr (Qfl (Qrs _ hn A Ls (by omega) _ w hv))
   rw [if_neg e] at h
   clear e
   by_cases e : f = 61
   ·subst e
    rw [if_pos rfl] at h
    cases h
    exact Qcv Qys (Qfl (Qrt _ hn A Ls (by omega) _ w hv))
   rw [if_neg e] at h
   clear e
   cases h
 rw [if_neg t7] at h
 cases h
theorem QDz (hn : g.evs.length ≤ 256) (hG : GrR w V g) {dst : Option Tmp} {f : Nat} {x y : Operand} {tys : Array TypeId} {ty : TypeId} {pos : String} {af : Array Edge} {gd : Option (Nat × Bool)} {av : AV} (h : Qr7 g f [opA σ x, opA σ y] = some av) (hx : Is V g gb N w (opA σ x) (a.eval x)) (hy : Is V g gb N w (opA σ y) (a.eval y)) :
  Oper.wp Tryz.prog ⟨dst, .call ⟨.value (.func f), #[x, y], tys⟩, ty, pos, af, gd⟩ a w (Qmg V g gb N a w dst av) Q := by
 unfold Qr7 at h
 dsimp only at h
 have hlen : ∀ P : Ev → Bool, (Qat P g.evs).length = g.evs.length := fun P => List.length_map _
 by_cases t13 : (opA σ x).t = 1 ∧ (opA σ y).t = 3
 ·rw [if_pos t13] at h
  have hv := hx.1 t13.1
  have hu := hy.2.2.1 t13.2
  by_cases e : f = 51
  ·subst e
   rw [if_pos rfl] at h
   by_cases hE : (opA σ y).i.isEmpty = true
   ·rw [if_pos hE] at h
    cases h
    refine Qfd Qwe ?_
    rw [hv, hu, QFc hE]
    exact Qr8 (Qpr V g _ w hG)
   ·rw [if_neg hE] at h
    cases h
  rw [if_neg e] at h
  clear e
  cases h
 rw [if_neg t13] at h
 by_cases t15 : (opA σ x).t = 1 ∧ (opA σ y).t = 5
 ·rw [if_pos t15] at h
  have hv := hx.1 t15.1
  have hu := hy.2.2.2.2.1 t15.2
  by_cases e : f = 54
  ·subst e
   rw [if_pos rfl] at h
   by_cases hl : 64 < (opA σ y).i.length
   ·rw [if_pos hl] at h
    cases h
   rw [if_neg hl] at h
   cases h
   refine Qfd Qyt ?_
   rw [hv]
   exact Qr8 (Qr0 V g _ _ w hG hu (by omega))
  rw [if_neg e] at h
  clear e
  cases h
 rw [if_neg t15] at h
 by_cases t44 : (opA σ x).t = 4 ∧ (opA σ y).t = 4
 ·rw [if_pos t44] at h
  have hv := hx.2.2.2.1 t44.1
  have hu := hy.2.2.2.1 t44.2
  by_cases e : f = 52
  ·subst e
   rw [if_pos rfl] at h
   cases h
   have hc := Qrv _ _ (by rw [hlen, hlen]) (by rw [hlen]; exact hn) _ _ w hv hu
   rw [Qoj (fun a b => a && b)] at hc
   exact Qfd Qyu (Qmh hc)
  rw [if_neg e] at h
  clear e
  by_cases e : f = 53
  ·subst e
   rw [if_pos rfl] at h
   cases h
   have hc := Qok _ _ (by rw [hlen, hlen]) (by rw [hlen]; exact hn) _ _ w hv hu
   rw [Qoj (fun a b => a || b)] at hc
   exact Qfd Qto (Qmh hc)
  rw [if_neg e] at h
  clear e
  cases h
 rw [if_neg t44] at h
 by_cases t34 : (opA σ x).t = 3 ∧ (opA σ y).t = 4
 ·rw [if_pos t34] at h
  have hv := hx.2.2.1 t34.1
  have hu := hy.2.2.2.1 t34.2
  by_cases e : f = 55
  ·subst e
   rw [if_pos rfl] at h
   by_cases hE : (opA σ x).i.isEmpty = true
   ·rw [if_pos hE] at h
    cases h
   rw [if_neg hE] at h
   cases h
   refine Qfd Qtp ?_
   rw [hv, QFd hE]
   exact Qfl (QDa hn hu)
  rw [if_neg e] at h
  cases h
 rw [if_neg t34] at h
 by_cases t66 : (opA σ x).t = 6 ∧ (opA σ y).t = 6
 ·rw [if_pos t66] at h
  have hv := hx.2.2.2.2.2.1 t66.1
  have hu := hy.2.2.2.2.2.1 t66.2
  by_cases e : f = 56
  ·subst e
   rw [if_pos rfl] at h
   cases h
   exact Qfd Qtq (Qfl (QC9 hn hv hu))
  rw [if_neg e] at h
  clear e
  by_cases e : f = 62
  ·subst e
   rw [if_pos rfl] at h
   cases h
   exact Qfd Qtr (Qfl (QD hn hv hu))
  rw [if_neg e] at h
  clear e
  cases h
 rw [if_neg t66] at h
 cases h
end
section
variable {V : GrV} {g : Gr} {gb N : Nat} {w : World} {a : Act} {σ : Nat → AV} {Q : Exit → Act → World → Prop} {dst : Option Tmp} {ty : TypeId} {pos : String} {af : Array Edge} {gd : Option (Nat × Bool)} {x : Operand}
theorem QFg {b y z : Nat} {m : Int} {s : Option Addr} (hv : a.eval x = pv b) (hb : Blk w b 52 #[.int .i64 m, .slice s y z]) : (execOp a.eval ⟨dst, .load 52 x, ty, pos, af, gd⟩).run Tryz.prog w = .ok (.value (.agg #[.int .i64 m, .slice s y z])) w := by
 have c0 : w.cell? ⟨b, 0, none⟩ = some (.int .i64 m) := hb.cell rfl
 have c1 : w.cell? ⟨b, 1, none⟩ = some (.slice s y z) := hb.cell rfl
 clear hb
 generalize a.eval = ρ at *
 go_simp
theorem QGn {b : Nat} (hv : a.eval x = pv b) (hb : Blk w b 27 #[.int .i64 g.cells, V.ev, V.rf, V.co, V.rmw, V.addr, V.dat, V.ctrl]) : (execOp a.eval ⟨dst, .load 27 x, ty, pos, af, gd⟩).run Tryz.prog w = .ok (.value (V.val g)) w := by
 obtain ⟨v1, v2, v3, v4, v5, v6, v7⟩ := V
 dsimp only at hb
 have c0 := hb.cell (j := 0) rfl
 have c1 := hb.cell (j := 1) rfl
 have c2 := hb.cell (j := 2) rfl
 have c3 := hb.cell (j := 3) rfl
 have c4 := hb.cell (j := 4) rfl
 have c5 := hb.cell (j := 5) rfl
 have c6 := hb.cell (j := 6) rfl
 have c7 := hb.cell (j := 7) rfl
 clear hb
 unfold GrV.val
 dsimp only
 generalize a.eval = ρ at *
 go_simp
theorem QFh : (execOp a.eval ⟨dst, .alloc 52, ty, pos, af, gd⟩).run Tryz.prog w = .ok (.value (pv w.heap.size)) (w.alloc (.cells #[.int .i64 0, .slice none 0 0] 52)) := by kernel_rfl
theorem Qwf {m : Int} : ∀ (l : List (Option Addr × Nat × Nat × List Nat)) (i : Nat) (q : Option Addr × Nat × Nat × List Nat), l[i]? = some q → (l.flatMap (fun q => [Value.int .i64 m, .slice q.1 q.2.1 q.2.2.1]))[i * 2]? = some (.int .i64 m) ∧ (l.flatMap (fun q => [Value.int .i64 m, .slice q.1 q.2.1 q.2.2.1]))[i * 2 + 1]? = some (.slice q.1 q.2.1 q.2.2.1)
 | [], i, q, h => by simp at h
 | p :: l, 0, q, h => by
  have : p = q := by simpa using h
  subst this
  exact ⟨rfl, rfl⟩
 | p :: l, i + 1, q, h => by
  have ih := Qwf (m := m) l i q (by simpa using h)
  have e : (i + 1) * 2 = i * 2 + 1 + 1 := by omega
  rw [e]
  exact ih
theorem QFi {n s c : Nat} (l : List (Option Addr × Nat × Nat × List Nat)) (h : Blk w s 52 (l.flatMap (fun q => [Value.int .i64 ((n : Nat) : Int), .slice q.1 q.2.1 q.2.2.1])).toArray) (hr : ∀ q ∈ l, RT w n (.agg #[.int .i64 ((n : Nat) : Int), .slice q.1 q.2.1 q.2.2.1]) q.2.2.2) : RsA w n (.slice (some ⟨s, 0, none⟩) l.length c) (l.map (fun q => q.2.2.2)) := by
 refine ⟨s, c, by rw [List.length_map], h.lt, fun i L hL => ?_⟩
 rw [List.getElem?_map] at hL
 cases hq : l[i]? with
 | none => rw [hq] at hL; cases hL
 | some q =>
  rw [hq] at hL
  cases hL
  obtain ⟨h1, h2⟩ := Qwf (m := ((n : Nat) : Int)) l i q hq
  exact ⟨q.1, q.2.1, q.2.2.1, h.cell (by simpa using h1), h.cell (by simpa using h2), hr q (List.mem_of_getElem? hq)⟩
theorem Qr9 : ∀ (l : List (Nat × Operand)), (∀ p ∈ l, RT w g.evs.length (a.eval p.2) (opA σ p.2).r) → ∃ qs : List (Option Addr × Nat × Nat × List Nat), l.map (fun p => a.eval p.2) = qs.map (rvA ((g.evs.length : Nat) : Int)) ∧ qs.map (·.2.2.2) = l.map (fun p => (opA σ p.2).r) ∧ ∀ q ∈ qs, RT w g.evs.length (rvA ((g.evs.length : Nat) : Int) q) q.2.2.2
 | [], _ => ⟨[], rfl, rfl, fun q hq => by cases hq⟩
 | p :: l, h => by
  obtain ⟨qs, h1, h2, h3⟩ := Qr9 l (fun q hq => h q (List.mem_cons_of_mem _ hq))
  have hp := h p List.mem_cons_self
  obtain ⟨x, y, z, e⟩ := hp.form
  rw [e] at hp
  refine ⟨(x, y, z, (opA σ p.2).r) :: qs, by simp only [List.map_cons, h1, e], by simp only [List.map_cons, h2], fun q hq => ?_⟩
  rcases List.mem_cons.1 hq with rfl | hq
  ·exact hp
  ·exact h3 q hq
abbrev grC (V : GrV) (g : Gr) : Array Value := #[.int .i64 g.cells, V.ev, V.rf, V.co, V.rmw, V.addr, V.dat, V.ctrl]
theorem QGo (hn : g.evs.length ≤ 256) (hw : Wf g false) (hG : GrR w V g) (hgb : Blk w gb 27 (grC V g)) (hN : N ≤ w.heap.size) {o : Oper} {av : AV} (h : opR g σ o.op = some av) (hx : ∀ d ∈ Qb5 o.op.operands.toList, Is V g gb N w (σ d) (a.eval (.tmp d))) : o.wp Tryz.prog a w (Qmg V g gb N a w o.dst av) Q := by
 obtain ⟨dst, op, ty, pos, af, gd⟩ := o
 dsimp only at h hx ⊢
 have hB := Below.refl w.heap.size w
 unfold opR at h
 split at h
 ·rename_i t x
  have hi := Qiu (V := V) (g := g) (gb := gb) (N := N) (w := w) (a := a) (σ := σ) (x := x) (fun d e => hx d (Qae.2 (by simp [Op.operands, e])))
  by_cases c : t = 52 ∧ (opA σ x).t = 8
  ·rw [if_pos c] at h
   cases h
   obtain ⟨rfl, c2⟩ := c
   obtain ⟨b, s, y, z, e1, e2, e3⟩ := hi.2.2.2.2.2.2.2.1 c2
   exact Qas (o := ⟨dst, .load 52 x, ty, pos, af, gd⟩) (QFg e1 e2) ⟨_, rfl, Qwa e3, hB⟩
  rw [if_neg c] at h
  by_cases c : t = 27 ∧ (opA σ x).t = 2 ∧ (opA σ x).k = 0
  ·rw [if_pos c] at h
   cases h
   obtain ⟨rfl, c2, c3⟩ := c
   have hv := hi.2.1 c2
   rw [c3] at hv
   exact Qas (o := ⟨dst, .load 27 x, ty, pos, af, gd⟩) (QGn (V := V) (g := g) hv hgb) ⟨_, rfl, QGf, hB⟩
  rw [if_neg c] at h
  cases h
 ·rename_i t
  by_cases c : t = 52
  ·subst c
   rw [if_pos rfl] at h
   cases h
   exact Qas (o := ⟨dst, .alloc 52, ty, pos, af, gd⟩) QFh ⟨_, rfl, QGm hN (Blk.new w _ _), hB.alloc (Nat.le_refl _) _⟩
  rw [if_neg c] at h
  cases h
 ·rename_i t n ps
  by_cases c : ps.toList.map (·.1) = List.range n ∧ 0 < n ∧ n ≤ 7
  ·rw [if_pos c] at h
   obtain ⟨c1, c2, c3⟩ := c
   have hln : ps.toList.length = n := by have := congrArg List.length c1; rw [List.length_map, List.length_range] at this; exact this
   by_cases d1 : t = 128 ∧ ps.toList.all (fun p => (opA σ p.2).t == 6) = true
   ·rw [if_pos d1] at h; cases h
    obtain ⟨rfl, d1⟩ := d1
    obtain ⟨qs, h1, h2, h3⟩ := Qr9 (w := w) (a := a) (σ := σ) (g := g) ps.toList (fun p hp => by
     have h6 : (opA σ p.2).t = 6 := by simpa using List.all_eq_true.1 d1 p hp
     exact (Qiu (V := V) (gb := gb) (N := N) (x := p.2) (fun d e => hx d (Qae.2 (by simp [Op.operands]; exact ⟨p.1, by rw [← e]; exact Array.mem_toList_iff.1 hp⟩)))).2.2.2.2.2.1 h6)
    have hl : qs.length = n := by have := congrArg List.length h2; rw [List.length_map, List.length_map] at this; omega
    subst hl
    have hB2 : Below w.heap.size w (w.alloc (.cells (rvC ((g.evs.length : Nat) : Int) qs).toArray 52)) := hB.alloc (Nat.le_refl _) _
    refine Qkc c1 h1 (QBa _ qs c3 c2 w) ⟨_, rfl, QGk ?_, hB2⟩
    rw [← h2]
    exact QFi (c := qs.length) qs (Blk.new w _ _) (fun q hq => (h3 q hq).below hB2)
   rw [if_neg d1] at h
   by_cases d2 : t = 35 ∧ ps.toList.all (fun p => isK p.2) = true ∧ n ≤ 6
   ·rw [if_pos d2] at h; cases h
    obtain ⟨rfl, d2, d3⟩ := d2
    have h1 : ps.toList.map (fun p => a.eval p.2) = (Qf8 ps.toList).map (Value.int .i64) := by
     unfold Qf8
     rw [List.map_map]
     exact List.map_congr_left (fun p hp => Qra (List.all_eq_true.1 d2 p hp))
    have hl : (Qf8 ps.toList).length = n := by unfold Qf8; rw [List.length_map]; exact hln
    subst hl
    exact Qkc c1 h1 (Qxl _ d3 c2 w) ⟨_, rfl, QGj (Qt1 w _), hB.alloc (Nat.le_refl _) _⟩
   ·rw [if_neg d2] at h; cases h
  ·rw [if_neg c] at h; cases h
 ·rename_i t ps
  by_cases c : t = 54 ∧ ps.toList.map (·.1) = List.range 11 ∧ ps.toList.all (fun p => (opA σ p.2).t == 6) = true
  ·rw [if_pos c] at h; cases h
   obtain ⟨rfl, c1, d1⟩ := c
   obtain ⟨qs, h1, h2, h3⟩ := Qr9 (w := w) (a := a) (σ := σ) (g := g) ps.toList (fun p hp => by
    have h6 : (opA σ p.2).t = 6 := by simpa using List.all_eq_true.1 d1 p hp
    exact (Qiu (V := V) (gb := gb) (N := N) (x := p.2) (fun d e => hx d (Qae.2 (by simp [Op.operands]; exact ⟨p.1, by rw [← e]; exact Array.mem_toList_iff.1 hp⟩)))).2.2.2.2.2.1 h6)
   have hl : qs.length = 11 := by have := congrArg List.length h2; have h4 := congrArg List.length c1; rw [List.length_map, List.length_map] at this; rw [List.length_map, List.length_range] at h4; omega
   refine Qbu (o := ⟨dst, .build 54 ps, ty, pos, af, gd⟩) (s := Instr.build 54 (ps.map fun (i, x) => (i, a.eval x))) (by kernel_rfl) (by rw [Qro c1 h1]; exact QBb _ qs hl w) ⟨_, rfl, QGi ⟨qs, rfl, h2, h3⟩, hB⟩
  ·rw [if_neg c] at h; cases h
 ·rename_i f args tys
  obtain ⟨l⟩ := args
  match l, h, hx with
  | [], h, _ => cases h
  | [x], h, hx => exact QDy hn hw hG h (Qiu (fun d e => hx d (Qae.2 (by simp [Op.operands, Call.operands, e]))))
  | [x, y], h, hx => exact QDz hn hG h (Qiu (fun d e => hx d (Qae.2 (by simp [Op.operands, Call.operands, e])))) (Qiu (fun d e => hx d (Qae.2 (by simp [Op.operands, Call.operands, e]))))
  | x :: y :: z :: l, h, _ => cases h
 ·cases h
end
section
variable {V : GrV} {g : Gr} {gb N N' : Nat} {w : World} {x : AV} {v : Value}
theorem Is.chg (h : Is V g gb N w x v) (hx : x.t ≠ 9) : Is V g gb N' w x v := by
 obtain ⟨h1, h2, h3, h4, h5, h6, h7, h8, h9, hz⟩ := h
 exact ⟨h1, h2, h3, h4, h5, h6, h7, h8, (fun e => absurd e hx), hz⟩
theorem Is.zero (h : x.t = 0) : Is V g gb N w x v := by
 refine ⟨?_, ?_, ?_, ?_, ?_, ?_, ?_, ?_, ?_, ?_⟩ <;> intro e <;> rw [h] at e <;> cases e
end
section
variable {w : World} {a : Act} {x y : Operand} {dst : Option Tmp} {ty : TypeId} {pos : String} {af : Array Edge} {gd : Option (Nat × Bool)}
theorem QFj {b p q : Nat} {m : Int} {s : Option Addr} (hv : a.eval x = pv b) (hu : a.eval y = .agg #[.int .i64 m, .slice s p q]) (hb : Blk w b 52 #[.int .i64 0, .slice none 0 0]) : (execOp a.eval ⟨dst, .store 52 x y, ty, pos, af, gd⟩).run Tryz.prog w = .ok .skip ((w.setCell ⟨b, 0, none⟩ (.int .i64 m)).setCell ⟨b, 1, none⟩ (.slice s p q)) := by
 have c0 : w.cell? ⟨b, 0, none⟩ = some (.int .i64 0) := hb.cell rfl
 have c1 : w.cell? ⟨b, 1, none⟩ = some (.slice none 0 0) := hb.cell rfl
 have f0 := hb.frozen 0
 have f1 := hb.frozen 1
 clear hb
 generalize a.eval = ρ at *
 go_simp
end
def aE (V : GrV) (g : Gr) (gb : Nat) (hn : g.evs.length ≤ 256) (hw : Wf g false) : Eng Tryz.prog AV where
 Is := Is V g gb
 G w := GrR w V g ∧ Blk w gb 27 (grC V g)
 isNo x := x.t == 0
 nw x := x.t == 9
 isB _ := false
 bv _ := false
 con := Qwb
 pk _ _ _ := none
 opR := opR g
 pre _ _ := none
 mono := Is.below
 gmono h hb := ⟨h.1.below hb, h.2.of_below hb⟩
 any h := Is.zero (by simpa using h)
 chg h hi := hi.chg (by simpa using h)
 bool h := by cases h
 conOk := Que
 pkOk h := by cases h
 ok hG hN h _ hx := QGo hn hw hG.1 hG.2 hN h hx
def Qqb (τ : Nat → AV) (o : Oper) : Option (Nat × AV) :=
 match o.op, o.dst with
 | .store t (.tmp d) (.tmp k), none => if t = 52 ∧ (τ d).t = 9 ∧ (τ k).t = 6 then some (d, .bx (τ k).r) else none
 | .assign (.tmp k), some d => if (τ k).t = 4 then some (d, .st (τ k).s) else none
 | _, _ => none
def Qhg (σ : Nat → AV) (d : Nat) (av : AV) : Nat → AV := fun x => if x = d then av else σ x
def okN (ops : Array Oper) (n T : Nat) : Bool := ops.size == n + 1 && (okR ops n (n + 1) T && (Qjd ops n && (match ops[n]? with
 | none => false
 | some o => o.guard.isNone)))
section
variable {V : GrV} {g : Gr} {gb T n : Nat} {hn : g.evs.length ≤ 256} {hw : Wf g false} {w0 : World} {σ : Nat → AV} {ops : Array Oper} {Q : Exit → Act → World → Prop} {c2 : Code} {id : Nat} {b : Bool}
theorem Quf (hok : okN ops n T = true) (hC : (aE V g gb hn hw).sucT ops (ops.toList.take n) σ = true) (hp : ∀ o, ops[n]? = some o → ∀ c x y, o.op ≠ .pick c x y) {a1 : Act} {w1 : World} (h1 : (aE V g gb hn hw).Ga T w0 σ a1 w1)
  (fin : ∀ ol L a w, ops[n]? = some ol → (aE V g gb hn hw).Mid T ops (gds ops) n ((aE V g gb hn hw).goT (ops.toList.take n) σ) a1 w1 L a w → (∀ d ∈ Qb5 ol.op.operands.toList, Is V g gb w1.heap.size w ((aE V g gb hn hw).goT (ops.toList.take n) σ d) (a.eval (.tmp d))) → ol.wp Tryz.prog a w (fun a' w' => Q .normal a' w') Q) :
  (Code.region id ops b).wp Tryz.prog Q a1 w1 := by
 unfold okN at hok
 simp only [Bool.and_eq_true] at hok
 obtain ⟨k1, k2, k3, k4⟩ := hok
 cases hL : ops[n]? with
 | none => rw [hL] at k4; cases k4
 | some ol =>
  rw [hL] at k4
  exact Eng.reg_last (by kernel_rfl) n (by simpa using k1) k2 hC (Qcq (fun _ _ => rfl) _ _ _) hL (by simpa using k4) k3 (hp ol hL) h1 (fun L a w hM _ hops => fin ol L a w hL hM hops)
theorem Qs {a1 a a' : Act} {w1 w w' : World} {τ : Nat → AV} {L : Nat → Bool} (h1 : (aE V g gb hn hw).Ga T w0 σ a1 w1) (hM : (aE V g gb hn hw).Mid T ops (gds ops) n τ a1 w1 L a w) (hσ : Qfr (fun x : AV => x.t == 0) ops n [] σ = true) {d : Nat} {av : AV} (hb : Below w1.heap.size w1 w')
  (hev : ∀ x, x ≠ d → a'.eval (.tmp x) = a.eval (.tmp x)) (hd : Is V g gb 0 w' av (a'.eval (.tmp d))) (h9 : (av.t == 9) = false) (hsz : a'.tmps.size = T) (hdf : a'.defers = []) : (aE V g gb hn hw).Ga T w0 (Qhg σ d av) a' w' := by
 refine ⟨Qaa h1.low h1.low.size hb, ⟨h1.g.1.below hb, h1.g.2.of_below hb⟩, fun x => ?_, fun x => ?_, hsz, hdf⟩
 ·show Is V g gb 0 w' (Qhg σ d av x) _
  unfold Qhg
  by_cases e : x = d
  ·rw [if_pos e, e]
   exact hd
  ·rw [if_neg e]
   by_cases hx : ∃ j, j < n ∧ Qbh ops j = some x
   ·obtain ⟨j, h2, h3⟩ := hx
    exact Is.zero (by simpa using Qf1 hσ h2 h3 (fun p hp => by cases hp))
   ·rw [hev x e, hM.rest x (fun j hj _ e' => hx ⟨j, hj, e'⟩)]
    exact Is.below (h1.is x) hb
 ·unfold Qhg
  by_cases e : x = d
  ·rw [if_pos e]
   exact h9
  ·rw [if_neg e]
   exact h1.nw x
theorem Qug (n d : Nat) (av : AV) (hok : okN ops n T = true) (hC : (aE V g gb hn hw).sucT ops (ops.toList.take n) σ = true)
  (hA : (ops[n]?).bind (Qqb ((aE V g gb hn hw).goT (ops.toList.take n) σ)) = some (d, av)) (hσ : Qfr (fun x : AV => x.t == 0) ops n [] σ = true) (hdT : d < T)
  (hc : ∀ a w, (aE V g gb hn hw).Ga T w0 (Qhg σ d av) a w → Q .normal a w) : ∀ a w, (aE V g gb hn hw).Ga T w0 σ a w → (Code.region id ops b).wp Tryz.prog Q a w := by
 intro a1 w1 h1
 refine Quf hok hC (fun o ho c x y e => ?_) h1 (fun ol L a w hL hM hops => ?_)
 ·rw [ho, Option.bind_some, Qqb, e] at hA
  cases hA
 have hlow := hM.low
 rw [hL, Option.bind_some] at hA
 obtain ⟨dst, op, ty, pos, af, gd⟩ := ol
 unfold Qqb at hA
 dsimp only at hA hops
 split at hA
 ·rename_i t dd k
  by_cases c : t = 52 ∧ ((aE V g gb hn hw).goT (ops.toList.take n) σ dd).t = 9 ∧ ((aE V g gb hn hw).goT (ops.toList.take n) σ k).t = 6
  ·rw [if_pos c] at hA
   obtain ⟨rfl, c9, c6⟩ := c
   cases hA
   obtain ⟨b, hv, hNb, hB⟩ := (hops d (Qae.2 (by simp [Op.operands]))).2.2.2.2.2.2.2.2.1 c9
   have hR := (hops k (Qae.2 (by simp [Op.operands]))).2.2.2.2.2.1 c6
   obtain ⟨s, p, q, hu⟩ := hR.form
   rw [hu] at hR
   have ht : Touch b w ((w.setCell ⟨b, 0, none⟩ (.int .i64 ((g.evs.length : Nat) : Int))).setCell ⟨b, 1, none⟩ (.slice s p q)) := ((Touch.of_below (Below.refl _ w)).set _).set _
   have hbz := (hB.set 0 (.int .i64 ((g.evs.length : Nat) : Int))).set 1 (.slice s p q)
   simp only [List.setIfInBounds_toArray, List.set_cons_zero, List.set_cons_succ] at hbz
   refine wp_skip (QFj hv hu hB) (hc _ _ (Qs h1 hM hσ (hlow.trans (ht.below hNb hlow.size)) (fun x _ => rfl) ?_ rfl hM.sz hM.df))
   show Is V g gb 0 _ _ (a.eval (.tmp d))
   rw [hv]
   exact QGl hbz (hR.touch hB ht)
  ·rw [if_neg c] at hA
   cases hA
 ·rename_i k dd
  by_cases c : ((aE V g gb hn hw).goT (ops.toList.take n) σ k).t = 4
  ·rw [if_pos c] at hA
   cases hA
   have hk := (hops k (Qae.2 (by simp [Op.operands]))).2.2.2.1 c
   refine Qas (o := ⟨some d, .assign (.tmp k), ty, pos, af, gd⟩) (v := a.eval (.tmp k)) (w' := w) (by kernel_rfl) (hc _ _ (Qs h1 hM hσ hlow (fun x hx => Act.eval_put_ne a d x _ (Ne.symm hx)) ?_ rfl (by rw [Act.size_put]; exact hM.sz) (by rw [Act.defers_put']; exact hM.df)))
   show Is V g gb 0 _ _ ((a.put (some d) (a.eval (.tmp k))).eval (.tmp d))
   rw [Act.eval_put_same a d _ (by rw [hM.sz]; exact hdT)]
   exact QB5 hk
  ·rw [if_neg c] at hA
   cases hA
 ·cases hA
theorem reg_seq (n d : Nat) (av : AV) (hok : okN ops n T = true) (hC : (aE V g gb hn hw).sucT ops (ops.toList.take n) σ = true)
  (hA : (ops[n]?).bind (Qqb ((aE V g gb hn hw).goT (ops.toList.take n) σ)) = some (d, av)) (hσ : Qfr (fun x : AV => x.t == 0) ops n [] σ = true) (hdT : d < T)
  (hc : ∀ a w, (aE V g gb hn hw).Ga T w0 (Qhg σ d av) a w → c2.wp Tryz.prog Q a w) : ∀ a w, (aE V g gb hn hw).Ga T w0 σ a w → ((Code.region id ops b).seq c2).wp Tryz.prog Q a w :=
 fun a w h => wp_seq (Qug n d av hok hC hA hσ hdT (fun a' w' h' => hc a' w' h') a w h)
end
section
variable {V : GrV} {g : Gr} {gb T : Nat} {hn : g.evs.length ≤ 256} {hw : Wf g false} {w0 : World} {σ : Nat → AV} {ops : Array Oper} {Q : Exit → Act → World → Prop} {id : Nat} {b : Bool}
theorem Touch.row (w : World) (m : Nat) (cs : Array Value) : Touch m w (w.setRow m cs) := ⟨rfl, rfl, rfl, by rw [size_setRow]; exact Nat.le_refl _, fun k _ hk => setRow_other w m k cs hk⟩
theorem RefM.touch2 {lo m : Nat} {w w' : World} {M : Value} {k n : Nat} {rb : Nat → Nat} {F : Nat → Nat → Bool} {cs : Array Value} (h : RefM lo w M k n rb F) (hb : Blk w m 54 cs) (ht : Touch m w w') : RefM lo w' M k n rb F := by
 refine ⟨?_, fun p hp => ⟨(h.row p hp).1, (h.row p hp).2.touch ht (Qap (h.row p hp).2 hb (by decide))⟩, h.apart, h.inj⟩
 obtain ⟨h1, h2⟩ := h.own
 refine ⟨h1, ?_⟩
 rcases h2 with h2 | ⟨g, cap, cur, e1, e2, e3, e4⟩
 ·exact .inl h2
 ·have hk : Blk w g 83 cur := e3
  exact .inr ⟨g, cap, cur, e1, e2, hk.touch ht (Qap hk hb (by decide)), e4⟩
theorem Qnh {m : Int} : ∀ qs : List (Option Addr × Nat × Nat × List Nat), (qs.flatMap (fun q => [Value.int .i64 m, .slice q.1 q.2.1 q.2.2.1])).length = 2 * qs.length
 | [] => rfl
 | q :: qs => by
  rw [List.flatMap_cons, List.length_append, Qnh qs]
  show 2 + 2 * qs.length = 2 * (qs.length + 1)
  omega
theorem Qsa {m : Int} : ∀ qs : List (Option Addr × Nat × Nat × List Nat), (qs.flatMap (fun q => [Value.int .i64 m, .slice q.1 q.2.1 q.2.2.1])).all (fun v => v.oneCell') = true
 | [] => rfl
 | q :: qs => by
  rw [List.flatMap_cons, List.all_append, Qsa qs]
  rfl
theorem QD0 (n k : Nat) (l : List (List Nat)) (hl : l.length = 11) (hok : okN ops n T = true) (hC : (aE V g gb hn hw).sucT ops (ops.toList.take n) σ = true)
  (hL : ∃ ol, ops[n]? = some ol ∧ ol.dst = none ∧ ol.op = .store 54 (.tmp 2) (.tmp k)) (h2 : (aE V g gb hn hw).goT (ops.toList.take n) σ 2 = .rp) (hk : (aE V g gb hn hw).goT (ops.toList.take n) σ k = .fc l)
  {old : Array Value} (hX : Blk w0 (gb + 1) 54 old) (ho : old.size = 22) {fn : Func} {R : Ending → World → Prop} (hfn : fn.results = #[.cell 2 54])
  (hR : ∀ v w1 w', Below w0.heap.size w0 w1 → Touch (gb + 1) w1 w' → FcA w' g.evs.length v l → R (.returned v) w') : ∀ a w, (aE V g gb hn hw).Ga T w0 σ a w → ((Code.region id ops b).seq Code.ret).wp Tryz.prog (bodyPost Tryz.prog fn R) a w := by
 intro a w h
 obtain ⟨ol, hL1, hL2, hL3⟩ := hL
 refine wp_seq (Quf hok hC (fun o ho c x y e => by rw [hL1] at ho; cases ho; rw [hL3] at e; cases e) h (fun ol' L a' w' hL' hM hops => ?_))
 obtain rfl : ol = ol' := by rw [hL1] at hL'; exact Option.some.inj hL'
 rw [hL3] at hops
 have hv2 := (hops 2 (Qae.2 (by simp [Op.operands]))).2.1 (by rw [h2]; rfl)
 have hvk := (hops k (Qae.2 (by simp [Op.operands]))).2.2.2.2.2.2.2.2.2 (by rw [hk]; rfl)
 rw [h2] at hv2
 rw [hk] at hvk
 have hv2 : a'.eval (.tmp 2) = .pointer (some ⟨gb + 1, 0, none⟩) := hv2
 have hvk : FcA w' g.evs.length (a'.eval (.tmp k)) l := hvk
 obtain ⟨qs, he, hq1, hq2⟩ := hvk
 have hqs : qs.length = 11 := by rw [← hl, ← hq1, List.length_map]
 have hlow := Qaa h.low h.low.size hM.low
 have hB : Blk w' (gb + 1) 54 old := hX.of_below hlow
 have hsz : (qs.flatMap (fun q => [Value.int .i64 ((g.evs.length : Nat) : Int), .slice q.1 q.2.1 q.2.2.1])).toArray.size = 22 := by
  rw [List.size_toArray, Qnh, hqs]
 have hinf : (Tryz.prog.info? 54).map (·.size) = some 22 := by kernel_rfl
 have ht := Touch.row w' (gb + 1) (qs.flatMap (fun q => [Value.int .i64 ((g.evs.length : Nat) : Int), .slice q.1 q.2.1 q.2.2.1])).toArray
 refine wp_store_row 54 (.tmp 2) (.tmp k) hL3 (gb + 1) _ hv2 he 54 old hB (by rw [hsz]; exact hinf) (by rw [ho, hsz]) (by rw [List.all_toArray]; exact Qsa qs) ?_
 rw [hL2]
 refine wp_ret ⟨hM.df, _, results_cell_row hfn a'.tmps _ (gb + 1) _ _ (0, 0) _ hv2 (setRow_heap w' (gb + 1) old _ _ _ hB) Tryz.underlying54 rfl (by rw [hsz]; exact hinf), ?_⟩
 refine hR _ w' _ hlow ht ⟨qs, rfl, hq1, fun q hq => ?_⟩
 obtain ⟨x, y, z, rb, F, e, k1, k2⟩ := hq2 q hq
 exact ⟨x, y, z, rb, F, e, k1.touch2 hB ht, k2⟩
end
section
variable (g : Gr)
def QB6 : List Nat := Qbg ((g.evs.length : Nat) : Int) (Qat (fun e => (e.k == 2 || e.k == 3) && [3, 4, 5].contains e.m) g.evs)
def QB7 : List Nat := Qbg ((g.evs.length : Nat) : Int) (Qat (fun e => (e.k == 1 || e.k == 3) && [2, 4, 5].contains e.m) g.evs)
def eSc : List Nat := Qbg ((g.evs.length : Nat) : Int) (Qat (fun e => [5].contains e.m && (e.k == 1 || e.k == 2)) g.evs)
def eFs : List Nat := Qbg ((g.evs.length : Nat) : Int) (Qat (fun e => [5].contains e.m && e.k == 3) g.evs)
def Qd (A B : List Nat) : List Nat := Qal [A, B]
def swR : List Nat := Qaz (QB6 g) [Qbr (fpL g (LG g)), rsL g (LG g), LG g 1, rdI g, Qbr (pfL g (LG g)), QB7 g]
def hbR : List Nat := Qa9 (Qd (LG g 0) (swR g))
def Qsb : List Nat := Qa9 (Qd (Qd (LG g 1) (LG g 2)) (LG g 3))
def Qsc : List Nat := Qd (Qd (Qd (Qd (LG g 0) (ahL (LG g) (hbR g))) (hsL (LG g) (hbR g))) (LG g 2)) (LG g 3)
def QBd : List Nat := Qd (eSc g) (Qaz (eFs g) [Qbr (hbR g)])
def QBe : List Nat := Qd (eSc g) (Qaz (Qbr (hbR g)) [eFs g])
def Qqc : List Nat := Qaz (QBd g) [Qsc g, QBe g]
def Qwg : List Nat := Qaz (eFs g) [Qd (hbR g) (QAa (hbR g) (Qsb g)), eFs g]
def fcR : List (List Nat) := [rsL g (LG g), swR g, hbR g, Qsb g, Qsc g, Qqc g, Qwg g, LG g 0, LG g 1, LG g 2, LG g 3]
end
def sg0 : Nat → AV := Qhg (Qhg (Qhg (fun _ => .any) 1 .gp) 2 .rp) 3 .len
theorem Qni (V : GrV) (g : Gr) (w : World) (h : GrR w V g) (hn : g.evs.length ≤ 256) (hw : Wf g false) : Calls Tryz.prog 19 #[V.val g] w fun e w' => ∃ v, e = .returned v ∧ FcA w' g.evs.length v (fcR g) ∧ Below w.heap.size w w' := by
 obtain ⟨Ve, Vr, Vc, Vm, Va, Vd, Vt⟩ := V
 obtain ⟨p1, k1, e1, -, -⟩ := h.ev
 dsimp only at e1
 subst e1
 have H := Qa h
 unfold GrV.val
 dsimp only
 clear h
 go_enter Tryz.func19, Tryz.ntmps19
 go_upto_region 2 with fail
 rename_i hK
 have hB0 : Below w.heap.size w ((w.alloc (.cells #[.int .i64 g.cells, .slice p1 g.evs.length k1, Vr, Vc, Vm, Va, Vd, Vt] 27)).alloc (.cells #[.int .i64 0, .slice none 0 0, .int .i64 0, .slice none 0 0, .int .i64 0, .slice none 0 0, .int .i64 0, .slice none 0 0, .int .i64 0, .slice none 0 0, .int .i64 0, .slice none 0 0, .int .i64 0, .slice none 0 0, .int .i64 0, .slice none 0 0, .int .i64 0, .slice none 0 0, .int .i64 0, .slice none 0 0, .int .i64 0, .slice none 0 0] 54)) := ((Below.refl _ w).alloc (Nat.le_refl _) _).alloc (by simp) _
 generalize hW : (w.alloc (.cells #[.int .i64 g.cells, .slice p1 g.evs.length k1, Vr, Vc, Vm, Va, Vd, Vt] 27)).alloc (.cells #[.int .i64 0, .slice none 0 0, .int .i64 0, .slice none 0 0, .int .i64 0, .slice none 0 0, .int .i64 0, .slice none 0 0, .int .i64 0, .slice none 0 0, .int .i64 0, .slice none 0 0, .int .i64 0, .slice none 0 0, .int .i64 0, .slice none 0 0, .int .i64 0, .slice none 0 0, .int .i64 0, .slice none 0 0, .int .i64 0, .slice none 0 0] 54) = W0
 have hgx : Blk W0 w.heap.size 27 #[.int .i64 g.cells, .slice p1 g.evs.length k1, Vr, Vc, Vm, Va, Vd, Vt] := by rw [← hW]; exact (Blk.new w _ _).alloc _
 have hrx : Blk W0 (w.heap.size + 1) 54 #[.int .i64 0, .slice none 0 0, .int .i64 0, .slice none 0 0, .int .i64 0, .slice none 0 0, .int .i64 0, .slice none 0 0, .int .i64 0, .slice none 0 0, .int .i64 0, .slice none 0 0, .int .i64 0, .slice none 0 0, .int .i64 0, .slice none 0 0, .int .i64 0, .slice none 0 0, .int .i64 0, .slice none 0 0, .int .i64 0, .slice none 0 0] := by rw [← hW]; exact Blk.new2 w _ _ _
 rw [hW] at hB0
 clear hW
 have HB := Qa hB0
 have HX := Qa hrx
 refine Qug (V := ⟨.slice p1 g.evs.length k1, Vr, Vc, Vm, Va, Vd, Vt⟩) (gb := w.heap.size) (T := 198) (hn := hn) (hw := hw) (w0 := W0) (σ := sg0) 3 4 (.bx (LG g 0)) (by as_aux_lemma => kernel_rfl) (by as_aux_lemma => kernel_rfl) (by as_aux_lemma => kernel_rfl) (by as_aux_lemma => kernel_rfl) (by decide) (fun a' w' h' => hK a' w' ?_) _ _ ⟨Below.refl _ _, ⟨H.out.below hB0, hgx⟩, fun d => ?_, fun d => ?_, rfl, rfl⟩
 rotate_left
 ·show Is _ _ _ _ _ (sg0 d) _
  unfold sg0 Qhg
  by_cases e : d = 3
  ·subst e; exact QFf
  by_cases e2 : d = 2
  ·subst e2; exact QGh
  by_cases e1 : d = 1
  ·subst e1; exact QGg
  rw [if_neg e, if_neg e2, if_neg e1]
  exact Qyo
 ·unfold sg0 Qhg
  by_cases e : d = 3
  ·subst e; rfl
  by_cases e2 : d = 2
  ·subst e2; rfl
  by_cases e1 : d = 1
  ·subst e1; rfl
  rw [if_neg e, if_neg e2, if_neg e1]
  rfl
 clear hB0 hgx hrx
 revert a' w' h'
 refine reg_seq 3 5 (.bx (LG g 1)) (by as_aux_lemma => kernel_rfl) (by as_aux_lemma => kernel_rfl) (by as_aux_lemma => kernel_rfl) (by as_aux_lemma => kernel_rfl) (by decide) ?_
 refine reg_seq 3 6 (.bx (LG g 2)) (by as_aux_lemma => kernel_rfl) (by as_aux_lemma => kernel_rfl) (by as_aux_lemma => kernel_rfl) (by as_aux_lemma => kernel_rfl) (by decide) ?_
 refine reg_seq 3 7 (.bx (LG g 3)) (by as_aux_lemma => kernel_rfl) (by as_aux_lemma => kernel_rfl) (by as_aux_lemma => kernel_rfl) (by as_aux_lemma => kernel_rfl) (by decide) ?_
 refine reg_seq 3 8 (.bx (LG g 4)) (by as_aux_lemma => kernel_rfl) (by as_aux_lemma => kernel_rfl) (by as_aux_lemma => kernel_rfl) (by as_aux_lemma => kernel_rfl) (by decide) ?_
 refine reg_seq 3 9 (.bx (LG g 5)) (by as_aux_lemma => kernel_rfl) (by as_aux_lemma => kernel_rfl) (by as_aux_lemma => kernel_rfl) (by as_aux_lemma => kernel_rfl) (by decide) ?_
 refine reg_seq 2 10 (.st (fun e => e.k == 1)) (by as_aux_lemma => kernel_rfl) (by as_aux_lemma => kernel_rfl) (by as_aux_lemma => kernel_rfl) (by as_aux_lemma => kernel_rfl) (by decide) ?_
 refine reg_seq 2 11 (.st (fun e => e.k == 2)) (by as_aux_lemma => kernel_rfl) (by as_aux_lemma => kernel_rfl) (by as_aux_lemma => kernel_rfl) (by as_aux_lemma => kernel_rfl) (by decide) ?_
 refine reg_seq 2 12 (.st (fun e => e.k == 3)) (by as_aux_lemma => kernel_rfl) (by as_aux_lemma => kernel_rfl) (by as_aux_lemma => kernel_rfl) (by as_aux_lemma => kernel_rfl) (by decide) ?_
 refine reg_seq 7 13 (.st (fun e => (e.k == 2 || e.k == 3) && [3, 4, 5].contains e.m)) (by as_aux_lemma => kernel_rfl) (by as_aux_lemma => kernel_rfl) (by as_aux_lemma => kernel_rfl) (by as_aux_lemma => kernel_rfl) (by decide) ?_
 refine reg_seq 7 14 (.st (fun e => (e.k == 1 || e.k == 3) && [2, 4, 5].contains e.m)) (by as_aux_lemma => kernel_rfl) (by as_aux_lemma => kernel_rfl) (by as_aux_lemma => kernel_rfl) (by as_aux_lemma => kernel_rfl) (by decide) ?_
 refine reg_seq 3 15 (.st (fun e => [5].contains e.m)) (by as_aux_lemma => kernel_rfl) (by as_aux_lemma => kernel_rfl) (by as_aux_lemma => kernel_rfl) (by as_aux_lemma => kernel_rfl) (by decide) ?_
 refine reg_seq 4 16 (.bx (wrI g)) (by as_aux_lemma => kernel_rfl) (by as_aux_lemma => kernel_rfl) (by as_aux_lemma => kernel_rfl) (by as_aux_lemma => kernel_rfl) (by decide) ?_
 refine reg_seq 4 17 (.bx (rdI g)) (by as_aux_lemma => kernel_rfl) (by as_aux_lemma => kernel_rfl) (by as_aux_lemma => kernel_rfl) (by as_aux_lemma => kernel_rfl) (by decide) ?_
 refine reg_seq 4 18 (.bx (feI g)) (by as_aux_lemma => kernel_rfl) (by as_aux_lemma => kernel_rfl) (by as_aux_lemma => kernel_rfl) (by as_aux_lemma => kernel_rfl) (by decide) ?_
 refine reg_seq 8 19 (.bx (eSc g)) (by as_aux_lemma => kernel_rfl) (by as_aux_lemma => kernel_rfl) (by as_aux_lemma => kernel_rfl) (by as_aux_lemma => kernel_rfl) (by decide) ?_
 refine reg_seq 6 20 (.bx (eFs g)) (by as_aux_lemma => kernel_rfl) (by as_aux_lemma => kernel_rfl) (by as_aux_lemma => kernel_rfl) (by as_aux_lemma => kernel_rfl) (by decide) ?_
 refine reg_seq 4 21 (.bx (plL (LG g))) (by as_aux_lemma => kernel_rfl) (by as_aux_lemma => kernel_rfl) (by as_aux_lemma => kernel_rfl) (by as_aux_lemma => kernel_rfl) (by decide) ?_
 refine reg_seq 12 22 (.bx (rsL g (LG g))) (by as_aux_lemma => kernel_rfl) (by as_aux_lemma => kernel_rfl) (by as_aux_lemma => kernel_rfl) (by as_aux_lemma => kernel_rfl) (by decide) ?_
 refine reg_seq 22 23 (.bx (swR g)) (by as_aux_lemma => kernel_rfl) (by as_aux_lemma => kernel_rfl) (by as_aux_lemma => kernel_rfl) (by as_aux_lemma => kernel_rfl) (by decide) ?_
 refine reg_seq 6 24 (.bx (hbR g)) (by as_aux_lemma => kernel_rfl) (by as_aux_lemma => kernel_rfl) (by as_aux_lemma => kernel_rfl) (by as_aux_lemma => kernel_rfl) (by decide) ?_
 refine reg_seq 7 25 (.bx (Qsb g)) (by as_aux_lemma => kernel_rfl) (by as_aux_lemma => kernel_rfl) (by as_aux_lemma => kernel_rfl) (by as_aux_lemma => kernel_rfl) (by decide) ?_
 refine reg_seq 4 26 (.bx (apL (LG g))) (by as_aux_lemma => kernel_rfl) (by as_aux_lemma => kernel_rfl) (by as_aux_lemma => kernel_rfl) (by as_aux_lemma => kernel_rfl) (by decide) ?_
 refine reg_seq 14 27 (.bx (Qsc g)) (by as_aux_lemma => kernel_rfl) (by as_aux_lemma => kernel_rfl) (by as_aux_lemma => kernel_rfl) (by as_aux_lemma => kernel_rfl) (by decide) ?_
 refine reg_seq 9 28 (.bx (QBd g)) (by as_aux_lemma => kernel_rfl) (by as_aux_lemma => kernel_rfl) (by as_aux_lemma => kernel_rfl) (by as_aux_lemma => kernel_rfl) (by decide) ?_
 refine reg_seq 9 29 (.bx (QBe g)) (by as_aux_lemma => kernel_rfl) (by as_aux_lemma => kernel_rfl) (by as_aux_lemma => kernel_rfl) (by as_aux_lemma => kernel_rfl) (by decide) ?_
 refine reg_seq 6 30 (.bx (Qqc g)) (by as_aux_lemma => kernel_rfl) (by as_aux_lemma => kernel_rfl) (by as_aux_lemma => kernel_rfl) (by as_aux_lemma => kernel_rfl) (by decide) ?_
 refine reg_seq 13 31 (.bx (Qwg g)) (by as_aux_lemma => kernel_rfl) (by as_aux_lemma => kernel_rfl) (by as_aux_lemma => kernel_rfl) (by as_aux_lemma => kernel_rfl) (by decide) ?_
 refine QD0 12 197 (fcR g) rfl (by as_aux_lemma => kernel_rfl) (by as_aux_lemma => kernel_rfl) ⟨_, rfl, rfl, rfl⟩ (by as_aux_lemma => kernel_rfl) (by as_aux_lemma => kernel_rfl) HX.out rfl rfl ?_
 intro v w1 w' h1 ht hv
 have h2 := Qaa HB.out HB.out.size h1
 exact ⟨v, rfl, hv, h2.trans (ht.below (by omega) h2.size)⟩
open Relation
section
variable {n : Nat} {A B C D E : List Nat}
theorem Qnj (ha : WF n A) (hb : WF n B) (h : ∀ p q, hs A p q ↔ hs B p q) : A = B := by
 refine Qxm (n := n) (F := fun p q => (gr A p).testBit q) ⟨ha.len, fun p q _ _ => rfl⟩ ⟨hb.len, fun p q _ _ => ?_⟩ (by rw [ha.len]; exact ha) (by rw [hb.len]; exact hb)
 rw [Bool.eq_iff_iff]
 exact h p q
theorem QFk (ha : WF n A) (hb : WF n B) (hc : WF n C) : WF n (Qal [A, B, C]) := by
 refine ⟨by rw [Qjb]; simp [Qbj, ha.len, hb.len, hc.len], fun p q h => ?_⟩
 rw [Qc1] at h
 simp only [List.mem_cons, List.not_mem_nil, or_false] at h
 obtain ⟨L, rfl | rfl | rfl, h⟩ := h
 ·exact ha.low _ _ h
 ·exact hb.low _ _ h
 ·exact hc.low _ _ h
theorem QFl (ha : WF n A) (hb : WF n B) (hc : WF n C) (hd : WF n D) (he : WF n E) : WF n (Qal [A, B, C, D, E]) := by
 refine ⟨by rw [Qjb]; simp [Qbj, ha.len, hb.len, hc.len, hd.len, he.len], fun p q h => ?_⟩
 rw [Qc1] at h
 simp only [List.mem_cons, List.not_mem_nil, or_false] at h
 obtain ⟨L, rfl | rfl | rfl | rfl | rfl, h⟩ := h
 ·exact ha.low _ _ h
 ·exact hb.low _ _ h
 ·exact hc.low _ _ h
 ·exact hd.low _ _ h
 ·exact he.low _ _ h
theorem QHf (ha : WF n A) (hb : WF n B) (hc : WF n C) : Qd (Qd A B) C = Qal [A, B, C] := by
 refine Qnj (Qd4 (Qd4 ha hb) hc) (QFk ha hb hc) (fun p q => ?_)
 unfold Qd
 rw [Qc1, Qc1]
 simp only [List.mem_cons, List.not_mem_nil, or_false, exists_eq_or_imp, exists_eq_left, Qc1, or_assoc]
theorem QHg (ha : WF n A) (hb : WF n B) (hc : WF n C) (hd : WF n D) (he : WF n E) : Qd (Qd (Qd (Qd A B) C) D) E = Qal [A, B, C, D, E] := by
 refine Qnj (Qd4 (Qd4 (Qd4 (Qd4 ha hb) hc) hd) he) (QFl ha hb hc hd he) (fun p q => ?_)
 unfold Qd
 rw [Qc1, Qc1]
 simp only [List.mem_cons, List.not_mem_nil, or_false, exists_eq_or_imp, exists_eq_left, Qc1, or_assoc]
end
section
variable {g : Gr}
abbrev idS (g : Gr) (P : Ev → Bool) : List Nat := Qbg ((g.evs.length : Nat) : Int) (Qat P g.evs)
theorem Qec (hn : g.evs.length ≤ 256) (P : Ev → Bool) : WF g.evs.length (idS g P) := by
 have h := Qjc ((g.evs.length : Nat) : Int) (Qat P g.evs)
 rw [Qht hn] at h
 exact h.wf
theorem Qgj (hn : g.evs.length ≤ 256) (P : Ev → Bool) (p q : Nat) : hs (idS g P) p q ↔ p = q ∧ p < g.evs.length ∧ (Qat P g.evs).getD p false = true := by
 have h := Qjc ((g.evs.length : Nat) : Int) (Qat P g.evs)
 rw [Qht hn] at h
 constructor
 ·intro h1
  obtain ⟨h2, h3⟩ := h.low h1
  have h4 := (h.same p q h2 h3).2 h1
  unfold idF at h4
  rw [Bool.and_eq_true, Bool.and_eq_true, decide_eq_true_eq] at h4
  exact ⟨h4.1, h2, h4.2.2⟩
 ·rintro ⟨rfl, h2, h3⟩
  refine (h.same p p h2 h2).1 ?_
  unfold idF
  rw [h3, decide_eq_true h2]
  simp
theorem Qen (P : Ev → Bool) {p : Nat} (hp : p < g.evs.length) : (Qat P g.evs).getD p false = P (g.evs[p]) := by
 unfold Qat
 rw [List.getD_eq_getElem?_getD, List.getElem?_map, List.getElem?_eq_getElem hp]
 rfl
theorem Qqd (hn : g.evs.length ≤ 256) (P Q S : Ev → Bool) (h : ∀ e, S e = (P e && Q e)) : Qbd (idS g P) (idS g Q) = idS g S := by
 refine Qnj (Qil hn (Qec hn P) (Qec hn Q)) (Qec hn S) (fun p q => ?_)
 rw [Qn0 hn (Qec hn P) (Qec hn Q), Qgj hn]
 constructor
 ·rintro ⟨m, h1, h2⟩
  obtain ⟨rfl, h3, h4⟩ := (Qgj hn P p m).1 h1
  obtain ⟨rfl, h5, h6⟩ := (Qgj hn Q p q).1 h2
  refine ⟨rfl, h3, ?_⟩
  rw [Qen _ h3] at h4 h6 ⊢
  rw [h, h4, h6]
  rfl
 ·rintro ⟨rfl, h3, h4⟩
  rw [Qen _ h3, h, Bool.and_eq_true] at h4
  exact ⟨p, (Qgj hn P p p).2 ⟨rfl, h3, by rw [Qen _ h3]; exact h4.1⟩, (Qgj hn Q p p).2 ⟨rfl, h3, by rw [Qen _ h3]; exact h4.2⟩⟩
theorem Qwh (hn : g.evs.length ≤ 256) (P Q S : Ev → Bool) (h : ∀ e, S e = (P e || Q e)) : Qal [idS g P, idS g Q] = idS g S := by
 refine Qnj (Qd4 (Qec hn P) (Qec hn Q)) (Qec hn S) (fun p q => ?_)
 rw [Qqx (Qec hn P) (Qec hn Q), Qgj hn, Qgj hn, Qgj hn]
 constructor
 ·rintro (⟨rfl, h3, h4⟩ | ⟨rfl, h3, h4⟩)
  ·refine ⟨rfl, h3, ?_⟩
   rw [Qen _ h3] at h4 ⊢
   rw [h, h4]
   rfl
  ·refine ⟨rfl, h3, ?_⟩
   rw [Qen _ h3] at h4 ⊢
   rw [h, h4, Bool.or_true]
 ·rintro ⟨rfl, h3, h4⟩
  rw [Qen _ h3, h, Bool.or_eq_true] at h4
  rcases h4 with h4 | h4
  ·exact .inl ⟨rfl, h3, by rw [Qen _ h3]; exact h4⟩
  ·exact .inr ⟨rfl, h3, by rw [Qen _ h3]; exact h4⟩
theorem Qsd (hn : g.evs.length ≤ 256) : QB6 g = Ql1 g := by
 have h1 : urL g = idS g (fun e => e.k == 2 || e.k == 3) := Qwh hn _ _ _ (fun e => rfl)
 have h2 : Ql1 g = Qbd (mrI g) (urL g) := rfl
 rw [h2, h1]
 exact (Qqd hn (fun e => [3, 4, 5].contains e.m) _ _ (fun e => Bool.and_comm _ _)).symm
theorem Qse (hn : g.evs.length ≤ 256) : QB7 g = Ql2 g := by
 have h1 : uaL g = idS g (fun e => e.k == 1 || e.k == 3) := Qwh hn _ _ _ (fun e => rfl)
 have h2 : Ql2 g = Qbd (maI g) (uaL g) := rfl
 rw [h2, h1]
 exact (Qqd hn (fun e => [2, 4, 5].contains e.m) _ _ (fun e => Bool.and_comm _ _)).symm
theorem QFm (hn : g.evs.length ≤ 256) : eSc g = acL g := by
 have h1 : rwL g = idS g (fun e => e.k == 1 || e.k == 2) := Qwh hn _ _ _ (fun e => rfl)
 have h2 : acL g = Qbd (scI g) (rwL g) := rfl
 rw [h2, h1]
 exact (Qqd hn (fun e => [5].contains e.m) _ _ (fun e => rfl)).symm
theorem Qyv (hn : g.evs.length ≤ 256) : eFs g = fsL g := by
 have h2 : fsL g = Qbd (scI g) (feI g) := rfl
 rw [h2]
 exact (Qqd hn (fun e => [5].contains e.m) (fun e => e.k == 3) _ (fun e => rfl)).symm
theorem Qyw (hn : g.evs.length ≤ 256) : swR g = swL g (LG g) := by
 unfold swR swL
 rw [Qsd hn, Qse hn]
theorem Qnk (hn : g.evs.length ≤ 256) : hbR g = hbL g (LG g) := by
 unfold hbR hbL uhL Qd
 rw [Qyw hn]
theorem Qft (g : Gr) (i : Nat) (hi : i < 6) : WF g.evs.length (LG g i) := by
 match i, hi with
 | 0, _ => exact Qff _ _
 | 1, _ => exact Qff _ _
 | 2, _ => exact Qff _ _
 | 3, _ => exact Qff _ _
 | 4, _ => exact Qff _ _
 | 5, _ => exact Qff _ _
theorem Quh : Qsb g = Qdf (LG g) := by
 unfold Qsb Qdf ueL
 rw [QHf (Qft g 1 (by omega)) (Qft g 2 (by omega)) (Qft g 3 (by omega))]
theorem QGp (hn : g.evs.length ≤ 256) : WF g.evs.length (swL g (LG g)) := by
 have hw := Qec hn
 have ho : ∀ {A : List Nat}, WF g.evs.length A → WF g.evs.length (Qbr A) := fun {A} h => ⟨by unfold Qbr; rw [Qb7, h.len], fun p q h2 => by
  rcases (Qq1 h p q).1 h2 with h3 | ⟨rfl, h3⟩
  ·exact h.low _ _ h3
  ·exact h3⟩
 have hc : ∀ {A B : List Nat}, WF g.evs.length A → WF g.evs.length B → WF g.evs.length (Qbd A B) := fun h1 h2 => Qil hn h1 h2
 have h0 := Qft g 0 (by omega)
 have h1 := Qft g 1 (by omega)
 have h4 := Qft g 4 (by omega)
 have h5 := Qft g 5 (by omega)
 have hrel : WF g.evs.length (Ql1 g) := by rw [← Qsd hn]; exact hw _
 have hacq : WF g.evs.length (Ql2 g) := by rw [← Qse hn]; exact hw _
 have hwr : WF g.evs.length (wrI g) := hw (fun e => e.k == 2)
 have hrd : WF g.evs.length (rdI g) := hw (fun e => e.k == 1)
 have hfe : WF g.evs.length (feI g) := hw (fun e => e.k == 3)
 have hpl : WF g.evs.length (Qbr (plL (LG g))) := ho (Qqw h0 h5)
 have hsr : WF g.evs.length (Qvj (LG g)) := by
  unfold Qvj rrL Qaz
  rw [List.foldl_cons, List.foldl_nil]
  exact ho (Qn1 (hc h1 h4))
 have hrs : WF g.evs.length (rsL g (LG g)) := by
  unfold rsL Qaz
  rw [List.foldl_cons, List.foldl_cons, List.foldl_cons, List.foldl_nil]
  exact hc (hc (hc hwr hpl) hwr) hsr
 have hfp : WF g.evs.length (Qbr (fpL g (LG g))) := by
  unfold fpL Qaz
  rw [List.foldl_cons, List.foldl_nil]
  exact ho (hc hfe h0)
 have hpf : WF g.evs.length (Qbr (pfL g (LG g))) := by
  unfold pfL Qaz
  rw [List.foldl_cons, List.foldl_nil]
  exact ho (hc h0 hfe)
 unfold swL Qaz
 rw [List.foldl_cons, List.foldl_cons, List.foldl_cons, List.foldl_cons, List.foldl_cons, List.foldl_cons, List.foldl_nil]
 exact hc (hc (hc (hc (hc (hc hrel hfp) hrs) h1) hrd) hpf) hacq
theorem Qui (hn : g.evs.length ≤ 256) : Qsc g = Qha (LG g) (hbL g (LG g)) := by
 have h0 := Qft g 0 (by omega)
 have h5 := Qft g 5 (by omega)
 have hb : WF g.evs.length (hbL g (LG g)) := Qn1 (Qd4 h0 (QGp hn))
 have ha : WF g.evs.length (apL (LG g)) := Qzq h0 h5
 unfold Qsc Qha
 have hah : WF g.evs.length (ahL (LG g) (hbL g (LG g))) := by
  unfold ahL Qaz
  rw [List.foldl_cons, List.foldl_cons, List.foldl_nil]
  exact Qil hn (Qil hn ha hb) ha
 have e5 := QHg h0 hah (show WF g.evs.length (hsL (LG g) (hbL g (LG g))) from Qqw hb h5) (Qft g 2 (by omega)) (Qft g 3 (by omega))
 rw [Qnk hn, e5]
theorem QBf (hn : g.evs.length ≤ 256) : Qqc g = Qfq g (LG g) (hbL g (LG g)) := by
 unfold Qqc Qfq QBd QBe Qz9 QA fhL hfL Qd
 rw [Qui hn, Qnk hn, QFm hn, Qyv hn]
theorem QD1 (hn : g.evs.length ≤ 256) : Qwg g = Qhb g (hbL g (LG g)) (Qdf (LG g)) := by
 unfold Qwg Qhb QAb Qd
 rw [Qnk hn, Qyv hn, Quh]
theorem QFn (hn : g.evs.length ≤ 256) : fcR g = [rsL g (LG g), swL g (LG g), hbL g (LG g), Qdf (LG g), Qha (LG g) (hbL g (LG g)), Qfq g (LG g) (hbL g (LG g)), Qhb g (hbL g (LG g)) (Qdf (LG g)), LG g 0, LG g 1, LG g 2, LG g 3] := by
 unfold fcR
 rw [Qyw hn, Qnk hn, Quh, Qui hn, QBf hn, QD1 hn]
end
end Go.Proofs.YtlpffpfkapbepaaGreatDoor
