/- Code over a graph that lies in memory is reckoned: what is known of a slot, and each operation. -/
import Derived.Test.YtdkogbfamdnheaaGreatDoorEg3
import Derived.Test.YtdkogbfamdnheaaGreatDoorJ13
import Derived.Test.YtdkogbfamdnheaaGreatDoorJ21
import Derived.Test.YtdkogbfamdnheaaGreatDoorJ34
import Derived.Test.YtdkogbfamdnheaaGreatDoorJ28
namespace Go.Proofs.YtdkogbfamdnheaaGreatDoor
open Go.RowKit Go.Shelf Sx
set_option maxRecDepth 100000
set_option maxHeartbeats 16000000
set_option linter.unusedSimpArgs false
set_option linter.unusedVariables false
structure GV where
 t : Nat
 k : Int
 b : Bool
 f : Nat
 p : Int × Int
 e : Ev
def GV.at (t f : Nat) : GV := ⟨t, 0, false, f, (0, 0), Ev.zero⟩
def GV.nu (k : Int) : GV := ⟨1, k, false, 0, (0, 0), Ev.zero⟩
def GV.bo (b : Bool) : GV := ⟨2, 0, b, 0, (0, 0), Ev.zero⟩
def GV.pp (p : Int × Int) : GV := ⟨6, 0, false, 0, p, Ev.zero⟩
def GV.ip (k : Int) : GV := ⟨7, k, false, 0, (0, 0), Ev.zero⟩
def GV.ep (e : Ev) : GV := ⟨8, 0, false, 0, (0, 0), e⟩
structure Gm where
 gb : Nat
 V : GrV
 g : Gr
 v : Value
 l : List (Int × Int)
def Gm.lv (M : Gm) : Nat → Value
 | 1 => M.V.ev
 | 2 => M.V.rf
 | 3 => M.V.co
 | 4 => M.V.rmw
 | 5 => M.V.addr
 | 6 => M.V.dat
 | 7 => M.V.ctrl
 | _ => M.v
def Gm.pl (M : Gm) : Nat → List (Int × Int)
 | 2 => M.g.rf
 | 4 => M.g.rmw
 | 5 => M.g.addr
 | 6 => M.g.dat
 | 7 => M.g.ctrl
 | _ => M.l
def Qiq (f : Nat) : Bool := f == 2 || (f == 4 || (f == 5 || (f == 6 || (f == 7 || f == 20))))
def CellI (w : World) (b o : Nat) (k : Int) : Prop := w.cell? ⟨b, o, none⟩ = some (.int .i64 k)
def GIs (M : Gm) (N : Nat) (w : World) (x : GV) (v : Value) : Prop :=
 match x.t with
 | 1 => v = .int .i64 x.k
 | 2 => v = .bool x.b
 | 3 => v = pv M.gb
 | 4 => v = .pointer (some ⟨M.gb, x.f, none⟩)
 | 5 => v = M.lv x.f
 | 6 => ∃ b o, v = .pointer (some ⟨b, o, none⟩) ∧ b < w.heap.size ∧ CellI w b o x.p.1 ∧ CellI w b (o + 1) x.p.2
 | 7 => ∃ b o, v = .pointer (some ⟨b, o, none⟩) ∧ b < w.heap.size ∧ CellI w b o x.k
 | 8 => ∃ b o, v = .pointer (some ⟨b, o, none⟩) ∧ b < w.heap.size ∧ CellI w b o x.e.t ∧ CellI w b (o + 1) x.e.k ∧ CellI w b (o + 2) x.e.l ∧ CellI w b (o + 4) x.e.m
 | 9 => v = .agg #[.int .i64 x.p.1, .int .i64 x.p.2]
 | 10 => v = M.V.val M.g
 | 12 => ∃ b, v = pv b ∧ N ≤ b ∧ Blk w b 30 #[.int .i64 0, .int .i64 0]
 | _ => True
theorem CellI.below {w w' : World} {b o : Nat} {k : Int} (h : CellI w b o k) (hl : b < w.heap.size) (hb : Below w.heap.size w w') : CellI w' b o k := (hb.cell (p := ⟨b, o, none⟩) hl).trans h
theorem GIs.mono {M : Gm} {N : Nat} {w w' : World} {x : GV} {v : Value} (h : GIs M N w x v) (hb : Below w.heap.size w w') : GIs M N w' x v := by
 obtain ⟨t, k, b, f, p, e⟩ := x
 unfold GIs at h ⊢
 dsimp only at h ⊢
 split at h
 ·exact h
 ·exact h
 ·exact h
 ·exact h
 ·exact h
 ·obtain ⟨b, o, h1, h2, h3, h4⟩ := h; exact ⟨b, o, h1, Nat.lt_of_lt_of_le h2 hb.size, h3.below h2 hb, h4.below h2 hb⟩
 ·obtain ⟨b, o, h1, h2, h3⟩ := h; exact ⟨b, o, h1, Nat.lt_of_lt_of_le h2 hb.size, h3.below h2 hb⟩
 ·obtain ⟨b, o, h1, h2, h3, h4, h5, h6⟩ := h; exact ⟨b, o, h1, Nat.lt_of_lt_of_le h2 hb.size, h3.below h2 hb, h4.below h2 hb, h5.below h2 hb, h6.below h2 hb⟩
 ·exact h
 ·exact h
 ·obtain ⟨b, h1, h2, h3⟩ := h; exact ⟨b, h1, h2, h3.of_below hb⟩
 ·trivial
structure GG (M : Gm) (w : World) : Prop where
 gr : GrR w M.V M.g
 bx : Blk w M.gb 27 (M.V.gs M.g)
 pl : PArg w M.v M.l
 n : M.g.evs.length ≤ 256
theorem GG.mono {M : Gm} {w w' : World} (h : GG M w) (hb : Below w.heap.size w w') : GG M w' := ⟨h.gr.below hb, h.bx.of_below hb, h.pl.below hb, h.n⟩
theorem GG.pls {M : Gm} {w : World} (h : GG M w) {f : Nat} (hf : Qiq f = true) : PArg w (M.lv f) (M.pl f) := by
 unfold Qiq at hf
 by_cases e2 : f = 2
 ·subst e2; exact h.gr.rf
 by_cases e4 : f = 4
 ·subst e4; exact h.gr.rmw
 by_cases e5 : f = 5
 ·subst e5; exact h.gr.addr
 by_cases e6 : f = 6
 ·subst e6; exact h.gr.dat
 by_cases e7 : f = 7
 ·subst e7; exact h.gr.ctrl
 have e20 : f = 20 := by simpa [e2, e4, e5, e6, e7] using hf
 subst e20
 exact h.pl
def Qox : Operand → GV
 | .const (.int .i64 k) => .nu k
 | .const (.bool b) => .bo b
 | _ => .at 0 0
def gvA (σ : Nat → GV) : Operand → GV
 | .tmp d => σ d
 | x => Qox x
def pF (p : Int × Int) (f : Nat) : Int := if f = 0 then p.1 else p.2
def eF (e : Ev) (f : Nat) : Int := if f = 0 then e.t else if f = 1 then e.k else if f = 2 then e.l else e.m
def Qkt (op : BinOp) (a b : Int) : Option Bool :=
 match op with
 | .eql => some (a == b)
 | .neq => some (a != b)
 | .lss => some (decide (a < b))
 | .leq => some (decide (a ≤ b))
 | .gtr => some (decide (a > b))
 | .geq => some (decide (a ≥ b))
 | _ => none
def Qku (op : BinOp) (a b : Int) : Option Int :=
 match op with
 | .add => some (a + b)
 | .sub => some (a - b)
 | _ => none
def Qsi (M : Gm) (σ : Nat → GV) : Op → Option GV
 | .fieldAddr ty x f => if ty = 27 ∧ (gvA σ x).t = 3 ∧ f < 8 then some (.at 4 f) else if ty = 30 ∧ (gvA σ x).t = 6 ∧ f < 2 then some (.ip (pF (gvA σ x).p f))
   else if ty = 34 ∧ (gvA σ x).t = 8 ∧ (f < 3 ∨ f = 4) then some (.ip (eF (gvA σ x).e f)) else none
 | .load ty x => if ty = 3 ∧ (gvA σ x).t = 7 then some (.nu (gvA σ x).k) else if ty = 3 ∧ (gvA σ x).t = 4 ∧ (gvA σ x).f = 0 then some (.nu M.g.cells)
   else if ty = 24 ∧ (gvA σ x).t = 4 ∧ Qiq (gvA σ x).f = true ∧ (gvA σ x).f < 8 then some (.at 5 (gvA σ x).f) else if ty = 23 ∧ (gvA σ x).t = 4 ∧ (gvA σ x).f = 1 then some (.at 5 1)
   else if ty = 27 ∧ (gvA σ x).t = 3 then some (.at 10 0) else if ty = 30 ∧ (gvA σ x).t = 6 then some ⟨9, 0, false, 0, (gvA σ x).p, Ev.zero⟩ else none
 | .alloc ty => if ty = 30 then some (.at 12 0) else none
 | .indexAddr ty x i => if ty = 24 ∧ (gvA σ x).t = 5 ∧ Qiq (gvA σ x).f = true ∧ (gvA σ i).t = 1 then some (.pp ((M.pl (gvA σ x).f).getD (gvA σ i).k.toNat (0, 0)))
   else if ty = 23 ∧ (gvA σ x).t = 5 ∧ (gvA σ x).f = 1 ∧ (gvA σ i).t = 1 then some (.ep (M.g.evs.getD (gvA σ i).k.toNat Ev.zero)) else none
 | .binOp op ty x y _ => if ty = 3 ∧ (gvA σ x).t = 1 ∧ (gvA σ y).t = 1 then (match Qkt op (gvA σ x).k (gvA σ y).k, Qku op (gvA σ x).k (gvA σ y).k with
   | some b, _ => some (.bo b)
   | none, some k => some (.nu k)
   | none, none => none) else none
 | .unOp op _ x => if op = .not ∧ (gvA σ x).t = 2 then some (.bo (!(gvA σ x).b)) else none
 | .call ⟨.builtin .len, args, tys⟩ => match args.toList with
   | [x] => if tys = #[23] ∧ (gvA σ x).t = 5 ∧ (gvA σ x).f = 1 then some (.nu ((M.g.evs.length : Nat) : Int)) else if tys = #[24] ∧ (gvA σ x).t = 5 ∧ Qiq (gvA σ x).f = true then some (.nu (((M.pl (gvA σ x).f).length : Nat) : Int)) else none
   | _ => none
 | .call ⟨.value (.func f), args, _⟩ => match args.toList with
   | [x, y, z] => if (gvA σ x).t = 10 ∧ (gvA σ y).t = 1 ∧ (gvA σ z).t = 1 then (if f = 98 then some (.bo (isB M.g.evs (gvA σ y).k [(gvA σ z).k])) else if f = 99 then some (.bo (Qjj M.g.evs (gvA σ y).k (gvA σ z).k)) else if f = 100 then some (.bo (Qcs M.g.evs (gvA σ y).k (gvA σ z).k)) else none) else none
   | _ => none
 | _ => none
def Qoy (M : Gm) (σ : Nat → GV) : Op → Option Prop
 | .indexAddr ty x i => if ty = 24 then some (0 ≤ (gvA σ i).k ∧ (gvA σ i).k < (((M.pl (gvA σ x).f).length : Nat) : Int)) else some (0 ≤ (gvA σ i).k ∧ (gvA σ i).k < ((M.g.evs.length : Nat) : Int))
 | .binOp op _ x y _ => match Qku op (gvA σ x).k (gvA σ y).k with
   | some k => some (-9223372036854775808 ≤ k ∧ k < 9223372036854775808)
   | none => none
 | _ => none
section
variable {M : Gm} {N : Nat} {w : World} {a : Act} {σ : Nat → GV} {Q : Exit → Act → World → Prop} {dst : Option Tmp} {ty : TypeId} {pos : String} {af : Array Edge} {gd : Option (Nat × Bool)} {x y : Operand}
theorem Qle (h : ∀ d, x ≠ .tmp d) : GIs M N w (Qox x) (a.eval x) := by
 unfold Qox
 split
 ·exact rfl
 ·exact rfl
 ·exact trivial
theorem Qeg (h : ∀ d, x = .tmp d → GIs M N w (σ d) (a.eval (.tmp d))) : GIs M N w (gvA σ x) (a.eval x) := by
 unfold gvA
 split
 ·exact h _ rfl
 ·rename_i y hy
  exact Qle hy
theorem GIs.t {z : GV} {v : Value} {k : Nat} (h : GIs M N w z v) (ht : z.t = k) : GIs M N w ⟨k, z.k, z.b, z.f, z.p, z.e⟩ v := by
 rw [← ht]
 exact h
theorem QHa (b o : Nat) (w : World) {f : Nat} (hf : f < 2) : (Instr.fieldAt 30 (.pointer (some ⟨b, o, none⟩)) f).run Tryz.prog w = .ok (.pointer (some ⟨b, o + f, none⟩)) w := by
 match f, hf with
 | 0, _ => exact (show _ = _ by kernel_rfl)
 | 1, _ => exact (show _ = _ by kernel_rfl)
 | n + 2, h => omega
theorem QHb (b o : Nat) (w : World) {f : Nat} (hf : f < 3 ∨ f = 4) : (Instr.fieldAt 34 (.pointer (some ⟨b, o, none⟩)) f).run Tryz.prog w = .ok (.pointer (some ⟨b, o + f, none⟩)) w := by
 match f, hf with
 | 0, _ => exact (show _ = _ by kernel_rfl)
 | 1, _ => exact (show _ = _ by kernel_rfl)
 | 2, _ => exact (show _ = _ by kernel_rfl)
 | 3, h => omega
 | 4, _ => exact (show _ = _ by kernel_rfl)
 | n + 5, h => omega
theorem QHc (b : Nat) (w : World) {f : Nat} (hf : f < 8) : (Instr.fieldAt 27 (pv b) f).run Tryz.prog w = .ok (.pointer (some ⟨b, f, none⟩)) w := by
 match f, hf with
 | 0, _ => exact (show _ = _ by kernel_rfl)
 | 1, _ => exact (show _ = _ by kernel_rfl)
 | 2, _ => exact (show _ = _ by kernel_rfl)
 | 3, _ => exact (show _ = _ by kernel_rfl)
 | 4, _ => exact (show _ = _ by kernel_rfl)
 | 5, _ => exact (show _ = _ by kernel_rfl)
 | 6, _ => exact (show _ = _ by kernel_rfl)
 | 7, _ => exact (show _ = _ by kernel_rfl)
 | n + 8, h => omega
theorem Qy7 (b k : Nat) (u : Value) (w : World) (h : w.cell? ⟨b, k, none⟩ = some u) : (Instr.loadAt 3 (.pointer (some ⟨b, k, none⟩))).run Tryz.prog w = .ok u w := by
 go_simp
theorem QF5 (b k : Nat) (u : Value) (w : World) (h : w.cell? ⟨b, k, none⟩ = some u) : (Instr.loadAt 24 (.pointer (some ⟨b, k, none⟩))).run Tryz.prog w = .ok u w := by
 go_simp
theorem QF6 (b k : Nat) (u : Value) (w : World) (h : w.cell? ⟨b, k, none⟩ = some u) : (Instr.loadAt 23 (.pointer (some ⟨b, k, none⟩))).run Tryz.prog w = .ok u w := by
 go_simp
theorem QHd (b o : Nat) (p : Int × Int) (w : World) (h0 : w.cell? ⟨b, o, none⟩ = some (.int .i64 p.1)) (h1 : w.cell? ⟨b, o + 1, none⟩ = some (.int .i64 p.2)) : (Instr.loadAt 30 (.pointer (some ⟨b, o, none⟩))).run Tryz.prog w = .ok (.agg #[.int .i64 p.1, .int .i64 p.2]) w := by
 go_simp
theorem QHe (s o n c : Nat) (k : Int) (w : World) (h0 : 0 ≤ k) (h1 : k < ((n : Nat) : Int)) : (Instr.indexAt 24 (.slice (some ⟨s, o, none⟩) n c) (.int .i64 k)).run Tryz.prog w = .ok (.pointer (some ⟨s, o + k.toNat * 2, none⟩)) w := by
 go_simp
theorem QHf (s o n c : Nat) (k : Int) (w : World) (h0 : 0 ≤ k) (h1 : k < ((n : Nat) : Int)) : (Instr.indexAt 23 (.slice (some ⟨s, o, none⟩) n c) (.int .i64 k)).run Tryz.prog w = .ok (.pointer (some ⟨s, o + k.toNat * 5, none⟩)) w := by
 go_simp
end
set_option maxRecDepth 100000
section
variable {M : Gm} {N : Nat} {w : World} {a : Act} {σ : Nat → GV} {Q : Exit → Act → World → Prop} {dst : Option Tmp} {ty : TypeId} {pos : String} {af : Array Edge} {gd : Option (Nat × Bool)} {x y : Operand}
def QCa (M : Gm) (N : Nat) (a : Act) (w : World) (d : Option Tmp) (av : GV) : Act → World → Prop := fun a' w' => ∃ v, a' = a.put d v ∧ GIs M N w' av v ∧ Below w.heap.size w w'
theorem Qu0 {op : BinOp} {k l : Int} {b : Bool} (h : Qkt op k l = some b) (yt : TypeId) (hx : a.eval x = .int .i64 k) (hy : a.eval y = .int .i64 l) : (execOp a.eval ⟨dst, .binOp op 3 x y yt, ty, pos, af, gd⟩).run Tryz.prog w = .ok (.value (.bool b)) w := by
 have e : (execOp a.eval ⟨dst, .binOp op 3 x y yt, ty, pos, af, gd⟩).run Tryz.prog w = (do pure (Next.value (← (do eqGuard op 3 x y (a.eval x) (a.eval y); binOp op 3 (a.eval x) (a.eval y)))) : Sem Next).run Tryz.prog w := by kernel_rfl
 rw [e, hx, hy]
 cases op <;> simp only [Qkt, Option.some.injEq, reduceCtorEq] at h <;> subst h <;> exact (show _ = _ by kernel_rfl)
theorem Qu1 {op : BinOp} {k l m : Int} (h : Qku op k l = some m) (yt : TypeId) (hm : -9223372036854775808 ≤ m ∧ m < 9223372036854775808) (hx : a.eval x = .int .i64 k) (hy : a.eval y = .int .i64 l) : (execOp a.eval ⟨dst, .binOp op 3 x y yt, ty, pos, af, gd⟩).run Tryz.prog w = .ok (.value (.int .i64 m)) w := by
 have e : (execOp a.eval ⟨dst, .binOp op 3 x y yt, ty, pos, af, gd⟩).run Tryz.prog w = (do pure (Next.value (← (do eqGuard op 3 x y (a.eval x) (a.eval y); binOp op 3 (a.eval x) (a.eval y)))) : Sem Next).run Tryz.prog w := by kernel_rfl
 have hw : IntKind.i64.wrap m = m := by rw [IntKind.wrap_i64]; omega
 rw [e, hx, hy, ← hw]
 cases op <;> simp only [Qku, Option.some.injEq, reduceCtorEq] at h <;> subst h <;> exact (show _ = _ by kernel_rfl)
theorem Qoz {q : Bool} (ty2 : TypeId) (hx : a.eval x = .bool q) : (execOp a.eval ⟨dst, .unOp .not ty2 x, ty, pos, af, gd⟩).run Tryz.prog w = .ok (.value (.bool (!q))) w := by
 have e : (execOp a.eval ⟨dst, .unOp .not ty2 x, ty, pos, af, gd⟩).run Tryz.prog w = (do pure (Next.value (← Op.unary .not (a.eval x))) : Sem Next).run Tryz.prog w := by kernel_rfl
 rw [e, hx]
 exact (show _ = _ by kernel_rfl)
theorem Qo0 {p : Option Addr} {n c : Nat} {t : TypeId} (ht : t = 23 ∨ t = 24) (hx : a.eval x = .slice p n c) : (execOp a.eval ⟨dst, .call ⟨.builtin .len, #[x], #[t]⟩, ty, pos, af, gd⟩).run Tryz.prog w = .ok (.value (.int .i64 ((n : Nat) : Int))) w := by
 rcases ht with rfl | rfl
 ·generalize a.eval = q at *
  go_simp
 ·generalize a.eval = q at *
  go_simp
theorem QHg : (execOp a.eval ⟨dst, .alloc 30, ty, pos, af, gd⟩).run Tryz.prog w = .ok (.value (pv w.heap.size)) (w.alloc (.cells #[.int .i64 0, .int .i64 0] 30)) := by kernel_rfl
theorem Qsj {b : Nat} {V : GrV} {g : Gr} (hv : a.eval x = pv b) (hb : Blk w b 27 (V.gs g)) : (execOp a.eval ⟨dst, .load 27 x, ty, pos, af, gd⟩).run Tryz.prog w = .ok (.value (V.val g)) w := by
 obtain ⟨v1, v2, v3, v4, v5, v6, v7⟩ := V
 unfold GrV.gs at hb
 dsimp only at hb
 have c0 := hb.cell (j := 0) rfl
 have c1 := hb.cell (j := 1) rfl
 have c2 := hb.cell (j := 2) rfl
 have c3 := hb.cell (j := 3) rfl
 have c4 := hb.cell (j := 4) rfl
 have c5 := hb.cell (j := 5) rfl
 have c6 := hb.cell (j := 6) rfl
 have c7 := hb.cell (j := 7) rfl
 clear hb
 unfold GrV.val
 dsimp only
 generalize a.eval = ρ at *
 go_simp
theorem Qid {f : Nat} {z : Operand} {tys : Array TypeId} {u v s : Value} (hu : a.eval x = u) (hv : a.eval y = v) (hs : a.eval z = s) (h : ∀ u v s w, (callFunc f #[u, v, s]).run Tryz.prog w = .ok (.enter f #[u, v, s]) w) : (execOp a.eval ⟨dst, .call ⟨.value (.func f), #[x, y, z], tys⟩, ty, pos, af, gd⟩).run Tryz.prog w = .ok (.enter f #[u, v, s]) w := by
 have e : (execOp a.eval ⟨dst, .call ⟨.value (.func f), #[x, y, z], tys⟩, ty, pos, af, gd⟩).run Tryz.prog w = (callFunc f #[a.eval x, a.eval y, a.eval z]).run Tryz.prog w := by kernel_rfl
 rw [e, hu, hv, hs]
 exact h u v s w
theorem QHv (u v s : Value) (w : World) : (callFunc 98 #[u, v, s]).run Tryz.prog w = .ok (.enter 98 #[u, v, s]) w := by kernel_rfl
theorem QF7 (u v s : Value) (w : World) : (callFunc 99 #[u, v, s]).run Tryz.prog w = .ok (.enter 99 #[u, v, s]) w := by kernel_rfl
theorem QHh (u v s : Value) (w : World) : (callFunc 100 #[u, v, s]).run Tryz.prog w = .ok (.enter 100 #[u, v, s]) w := by kernel_rfl
theorem Qsk {f : FuncId} {args : Array Value} {q : Bool} (D : Calls Tryz.prog f args w fun r w' => r = .returned (.bool q) ∧ Below w.heap.size w w') : Calls Tryz.prog f args w (fun e w'' => ∃ v, e = .returned v ∧ QCa M N a w dst (.bo q) (a.put dst v) w'') :=
 D.mono fun _ _ ⟨h1, h2⟩ => ⟨_, h1, _, rfl, rfl, h2⟩
theorem Qy8 (hG : GG M w) (hN : N ≤ w.heap.size) {o : Oper} {av : GV} (h : Qsi M σ o.op = some av) (hp : ∀ p, Qoy M σ o.op = some p → p) (hx : ∀ d ∈ Qb9 o.op.operands.toList, GIs M N w (σ d) (a.eval (.tmp d))) : o.wp Tryz.prog a w (QCa M N a w o.dst av) Q := by
 obtain ⟨dst, op, ty, pos, af, gd⟩ := o
 dsimp only at h hp hx ⊢
 have hB := Below.refl w.heap.size w
 unfold Qsi at h
 split at h
 ·rename_i t x f
  have hi := Qeg (x := x) (fun d e => hx d (Qae.2 (by simp [Op.operands, e])))
  by_cases c1 : t = 27 ∧ (gvA σ x).t = 3 ∧ f < 8
  ·rw [if_pos c1] at h; cases h
   obtain ⟨rfl, c, hf⟩ := c1
   have e : a.eval x = pv M.gb := hi.t c
   exact Qb5 (s := Instr.fieldAt 27 (a.eval x) f) rfl (by rw [e]; exact QHc _ _ hf) ⟨_, rfl, rfl, hB⟩
  rw [if_neg c1] at h
  by_cases c2 : t = 30 ∧ (gvA σ x).t = 6 ∧ f < 2
  ·rw [if_pos c2] at h; cases h
   obtain ⟨rfl, c, hf⟩ := c2
   obtain ⟨b, o, e, h1, h2, h3⟩ : ∃ b o, a.eval x = .pointer (some ⟨b, o, none⟩) ∧ b < w.heap.size ∧ CellI w b o (gvA σ x).p.1 ∧ CellI w b (o + 1) (gvA σ x).p.2 := hi.t c
   refine Qb5 (s := Instr.fieldAt 30 (a.eval x) f) rfl (by rw [e]; exact QHa _ _ _ hf) ⟨_, rfl, ⟨b, o + f, rfl, h1, ?_⟩, hB⟩
   show CellI w b (o + f) (pF (gvA σ x).p f)
   match f, hf with
   | 0, _ => exact h2
   | 1, _ => exact h3
   | n + 2, h => omega
  rw [if_neg c2] at h
  by_cases c3 : t = 34 ∧ (gvA σ x).t = 8 ∧ (f < 3 ∨ f = 4)
  ·rw [if_pos c3] at h; cases h
   obtain ⟨rfl, c, hf⟩ := c3
   obtain ⟨b, o, e, h1, h2, h3, h4, h5⟩ : ∃ b o, a.eval x = .pointer (some ⟨b, o, none⟩) ∧ b < w.heap.size ∧ CellI w b o (gvA σ x).e.t ∧ CellI w b (o + 1) (gvA σ x).e.k ∧ CellI w b (o + 2) (gvA σ x).e.l ∧ CellI w b (o + 4) (gvA σ x).e.m := hi.t c
   refine Qb5 (s := Instr.fieldAt 34 (a.eval x) f) rfl (by rw [e]; exact QHb _ _ _ hf) ⟨_, rfl, ⟨b, o + f, rfl, h1, ?_⟩, hB⟩
   show CellI w b (o + f) (eF (gvA σ x).e f)
   match f, hf with
   | 0, _ => exact h2
   | 1, _ => exact h3
   | 2, _ => exact h4
   | 3, h => omega
   | 4, _ => exact h5
   | n + 5, h => omega
  rw [if_neg c3] at h; cases h
 ·rename_i t x
  have hi := Qeg (x := x) (fun d e => hx d (Qae.2 (by simp [Op.operands, e])))
  by_cases c1 : t = 3 ∧ (gvA σ x).t = 7
  ·rw [if_pos c1] at h; cases h
   obtain ⟨rfl, c⟩ := c1
   obtain ⟨b, o, e, h1, h2⟩ : ∃ b o, a.eval x = .pointer (some ⟨b, o, none⟩) ∧ b < w.heap.size ∧ CellI w b o (gvA σ x).k := hi.t c
   exact Qb5 (s := Instr.loadAt 3 (a.eval x)) rfl (by rw [e]; exact Qy7 _ _ _ _ h2) ⟨_, rfl, rfl, hB⟩
  rw [if_neg c1] at h
  by_cases c2 : t = 3 ∧ (gvA σ x).t = 4 ∧ (gvA σ x).f = 0
  ·rw [if_pos c2] at h; cases h
   obtain ⟨rfl, c, hf⟩ := c2
   have e : a.eval x = .pointer (some ⟨M.gb, (gvA σ x).f, none⟩) := hi.t c
   exact Qb5 (s := Instr.loadAt 3 (a.eval x)) rfl (by rw [e, hf]; exact Qy7 _ _ _ _ (hG.bx.cell rfl)) ⟨_, rfl, rfl, hB⟩
  rw [if_neg c2] at h
  by_cases c3 : t = 24 ∧ (gvA σ x).t = 4 ∧ Qiq (gvA σ x).f = true ∧ (gvA σ x).f < 8
  ·rw [if_pos c3] at h; cases h
   obtain ⟨rfl, c, hf, h8⟩ := c3
   have e : a.eval x = .pointer (some ⟨M.gb, (gvA σ x).f, none⟩) := hi.t c
   have hc : (M.V.gs M.g)[(gvA σ x).f]? = some (M.lv (gvA σ x).f) := by
    generalize (gvA σ x).f = f at *
    match f, h8, hf with
    | 0, _, hf => cases hf
    | 1, _, hf => cases hf
    | 2, _, _ => rfl
    | 3, _, hf => cases hf
    | 4, _, _ => rfl
    | 5, _, _ => rfl
    | 6, _, _ => rfl
    | 7, _, _ => rfl
    | n + 8, h, _ => omega
   exact Qb5 (v := M.lv (gvA σ x).f) (s := Instr.loadAt 24 (a.eval x)) rfl (by rw [e]; exact QF5 _ _ _ _ (hG.bx.cell hc)) ⟨_, rfl, rfl, hB⟩
  rw [if_neg c3] at h
  by_cases c4 : t = 23 ∧ (gvA σ x).t = 4 ∧ (gvA σ x).f = 1
  ·rw [if_pos c4] at h; cases h
   obtain ⟨rfl, c, hf⟩ := c4
   have e : a.eval x = .pointer (some ⟨M.gb, (gvA σ x).f, none⟩) := hi.t c
   exact Qb5 (v := M.V.ev) (s := Instr.loadAt 23 (a.eval x)) rfl (by rw [e, hf]; exact QF6 _ _ _ _ (hG.bx.cell rfl)) ⟨_, rfl, rfl, hB⟩
  rw [if_neg c4] at h
  by_cases c5 : t = 27 ∧ (gvA σ x).t = 3
  ·rw [if_pos c5] at h; cases h
   obtain ⟨rfl, c⟩ := c5
   have e : a.eval x = pv M.gb := hi.t c
   exact Qaz (Qsj e hG.bx) ⟨_, rfl, rfl, hB⟩
  rw [if_neg c5] at h
  by_cases c6 : t = 30 ∧ (gvA σ x).t = 6
  ·rw [if_pos c6] at h; cases h
   obtain ⟨rfl, c⟩ := c6
   obtain ⟨b, o, e, h1, h2, h3⟩ : ∃ b o, a.eval x = .pointer (some ⟨b, o, none⟩) ∧ b < w.heap.size ∧ CellI w b o (gvA σ x).p.1 ∧ CellI w b (o + 1) (gvA σ x).p.2 := hi.t c
   exact Qb5 (s := Instr.loadAt 30 (a.eval x)) rfl (by rw [e]; exact QHd _ _ _ _ h2 h3) ⟨_, rfl, rfl, hB⟩
  rw [if_neg c6] at h; cases h
 ·rename_i t
  by_cases c : t = 30
  ·subst c
   rw [if_pos rfl] at h; cases h
   exact Qaz QHg ⟨_, rfl, ⟨_, rfl, hN, Blk.new w _ _⟩, hB.alloc (Nat.le_refl _) _⟩
  rw [if_neg c] at h; cases h
 ·rename_i t x i
  have hi := Qeg (x := x) (fun d e => hx d (Qae.2 (by simp [Op.operands, e])))
  have hj := Qeg (x := i) (fun d e => hx d (Qae.2 (by simp [Op.operands, e])))
  by_cases c1 : t = 24 ∧ (gvA σ x).t = 5 ∧ Qiq (gvA σ x).f = true ∧ (gvA σ i).t = 1
  ·rw [if_pos c1] at h; cases h
   obtain ⟨rfl, c, hf, d⟩ := c1
   have e : a.eval x = M.lv (gvA σ x).f := hi.t c
   have e2 : a.eval i = .int .i64 (gvA σ i).k := hj.t d
   obtain ⟨q0, q1⟩ : 0 ≤ (gvA σ i).k ∧ (gvA σ i).k < (((M.pl (gvA σ x).f).length : Nat) : Int) := hp _ (by unfold Qoy; exact if_pos rfl)
   have hP := hG.pls hf
   generalize (gvA σ i).k = k at *
   generalize M.pl (gvA σ x).f = l at *
   rcases hP with ⟨u, cap, -, rfl⟩ | ⟨s, o, cap, e3, hat, -⟩
   ·simp at q1; omega
   ·rw [e3] at e
    obtain ⟨p, hpk⟩ : ∃ p, l[k.toNat]? = some p := ⟨_, List.getElem?_eq_getElem (by omega)⟩
    have hgd : l.getD k.toNat (0, 0) = p := by rw [List.getD_eq_getElem?_getD, hpk]; rfl
    rw [hgd]
    exact Qb5 (s := Instr.indexAt 24 (a.eval x) (a.eval i)) rfl (by rw [e, e2]; exact QHe _ _ _ _ _ _ q0 q1) ⟨_, rfl, ⟨s, o + k.toNat * 2, rfl, hat.lt, hat.fst _ _ hpk, hat.snd _ _ hpk⟩, hB⟩
  rw [if_neg c1] at h
  by_cases c2 : t = 23 ∧ (gvA σ x).t = 5 ∧ (gvA σ x).f = 1 ∧ (gvA σ i).t = 1
  ·rw [if_pos c2] at h; cases h
   obtain ⟨rfl, c, hf, d⟩ := c2
   have e : a.eval x = M.lv (gvA σ x).f := hi.t c
   rw [hf] at e
   have e2 : a.eval i = .int .i64 (gvA σ i).k := hj.t d
   obtain ⟨q0, q1⟩ : 0 ≤ (gvA σ i).k ∧ (gvA σ i).k < ((M.g.evs.length : Nat) : Int) := hp _ (by unfold Qoy; exact if_neg (by decide))
   obtain ⟨p, cap, e3, hat0, -, -⟩ := hG.gr.ev
   generalize (gvA σ i).k = k at *
   obtain ⟨s, o, rfl, hat⟩ := hat0 (by omega)
   have e : a.eval x = .slice (some ⟨s, o, none⟩) M.g.evs.length cap := e.trans e3
   obtain ⟨ev, hpk⟩ : ∃ p, M.g.evs[k.toNat]? = some p := ⟨_, List.getElem?_eq_getElem (by omega)⟩
   have hgd : M.g.evs.getD k.toNat Ev.zero = ev := by rw [List.getD_eq_getElem?_getD, hpk]; rfl
   rw [hgd]
   exact Qb5 (s := Instr.indexAt 23 (a.eval x) (a.eval i)) rfl (by rw [e, e2]; exact QHf _ _ _ _ _ _ q0 q1) ⟨_, rfl, ⟨s, o + k.toNat * 5, rfl, hat.lt, hat.c0 _ _ hpk, hat.c1 _ _ hpk, hat.c2 _ _ hpk, hat.c4 _ _ hpk⟩, hB⟩
  rw [if_neg c2] at h; cases h
 ·rename_i op t x y yt
  have hi := Qeg (x := x) (fun d e => hx d (Qae.2 (by simp [Op.operands, e])))
  have hj := Qeg (x := y) (fun d e => hx d (Qae.2 (by simp [Op.operands, e])))
  by_cases c : t = 3 ∧ (gvA σ x).t = 1 ∧ (gvA σ y).t = 1
  ·rw [if_pos c] at h
   obtain ⟨rfl, c1, c2⟩ := c
   have e : a.eval x = .int .i64 (gvA σ x).k := hi.t c1
   have e2 : a.eval y = .int .i64 (gvA σ y).k := hj.t c2
   cases hc : Qkt op (gvA σ x).k (gvA σ y).k with
   | some b =>
    rw [hc] at h; cases h
    exact Qaz (Qu0 hc yt e e2) ⟨_, rfl, rfl, hB⟩
   | none =>
    rw [hc] at h
    cases ha : Qku op (gvA σ x).k (gvA σ y).k with
    | none => rw [ha] at h; cases h
    | some k =>
     rw [ha] at h; cases h
     exact Qaz (Qu1 ha yt (hp _ (by unfold Qoy; dsimp only; rw [ha])) e e2) ⟨_, rfl, rfl, hB⟩
  ·rw [if_neg c] at h; cases h
 ·rename_i op t x
  have hi := Qeg (x := x) (fun d e => hx d (Qae.2 (by simp [Op.operands, e])))
  by_cases c : op = .not ∧ (gvA σ x).t = 2
  ·rw [if_pos c] at h; cases h
   obtain ⟨rfl, c⟩ := c
   have e : a.eval x = .bool (gvA σ x).b := hi.t c
   exact Qaz (Qoz t e) ⟨_, rfl, rfl, hB⟩
  ·rw [if_neg c] at h; cases h
 ·rename_i args tys
  obtain ⟨l⟩ := args
  match l, h, hx with
  | [], h, _ => cases h
  | [x], h, hx =>
   have hi := Qeg (x := x) (fun d e => hx d (Qae.2 (by simp [Op.operands, Call.operands, e])))
   dsimp only at h
   by_cases c1 : tys = #[23] ∧ (gvA σ x).t = 5 ∧ (gvA σ x).f = 1
   ·rw [if_pos c1] at h; cases h
    obtain ⟨rfl, c1⟩ := c1
    have e : a.eval x = M.lv (gvA σ x).f := hi.t c1.1
    rw [c1.2] at e
    obtain ⟨p, cap, e3, -, -, -⟩ := hG.gr.ev
    exact Qaz (Qo0 (.inl rfl) (e.trans e3)) ⟨_, rfl, rfl, hB⟩
   rw [if_neg c1] at h
   by_cases c2 : tys = #[24] ∧ (gvA σ x).t = 5 ∧ Qiq (gvA σ x).f = true
   ·rw [if_pos c2] at h; cases h
    obtain ⟨rfl, c2⟩ := c2
    have e : a.eval x = M.lv (gvA σ x).f := hi.t c2.1
    obtain ⟨p, cap, e3, -, -⟩ := Qab (hG.pls c2.2)
    exact Qaz (Qo0 (.inr rfl) (e.trans e3)) ⟨_, rfl, rfl, hB⟩
   rw [if_neg c2] at h; cases h
  | x :: y :: l, h, _ => cases h
 ·rename_i f args tys
  obtain ⟨l⟩ := args
  match l, h, hx with
  | [], h, _ => cases h
  | [x], h, _ => cases h
  | [x, y], h, _ => cases h
  | [x, y, z], h, hx =>
   have h1 := Qeg (x := x) (fun d e => hx d (Qae.2 (by simp [Op.operands, Call.operands, e])))
   have h2 := Qeg (x := y) (fun d e => hx d (Qae.2 (by simp [Op.operands, Call.operands, e])))
   have h3 := Qeg (x := z) (fun d e => hx d (Qae.2 (by simp [Op.operands, Call.operands, e])))
   dsimp only at h
   by_cases c : (gvA σ x).t = 10 ∧ (gvA σ y).t = 1 ∧ (gvA σ z).t = 1
   ·rw [if_pos c] at h
    obtain ⟨c1, c2, c3⟩ := c
    have e1 : a.eval x = M.V.val M.g := h1.t c1
    have e2 : a.eval y = .int .i64 (gvA σ y).k := h2.t c2
    have e3 : a.eval z = .int .i64 (gvA σ z).k := h3.t c3
    by_cases d1 : f = 98
    ·subst d1; rw [if_pos rfl] at h; cases h
     exact Qal (Qid e1 e2 e3 QHv) (Qsk (Qji _ _ _ _ w hG.gr))
    rw [if_neg d1] at h
    by_cases d2 : f = 99
    ·subst d2; rw [if_pos rfl] at h; cases h
     exact Qal (Qid e1 e2 e3 QF7) (Qsk (Qq7 _ _ _ _ w hG.gr hG.n))
    rw [if_neg d2] at h
    by_cases d3 : f = 100
    ·subst d3; rw [if_pos rfl] at h; cases h
     exact Qal (Qid e1 e2 e3 QHh) (Qsk (Qf0 _ _ _ _ w hG.gr))
    rw [if_neg d3] at h; cases h
   ·rw [if_neg c] at h; cases h
  | x :: y :: z :: s :: l, h, _ => cases h
 ·cases h
end
def gE (M : Gm) : Eng Tryz.prog GV where
 Is := GIs M
 G := GG M
 isNo x := x.t == 0
 nw x := x.t == 12
 isB x := x.t == 2
 bv x := x.b
 con := Qox
 pk b x y := if x.t = 2 ∧ y.t = 2 then some (.bo (if b then x.b else y.b)) else none
 opR := Qsi M
 pre := Qoy M
 mono := GIs.mono
 gmono := GG.mono
 any := fun {_ _ x _} h => by
  obtain ⟨t, k, b, f, p, e⟩ := x
  have : t = 0 := by simpa using h
  subst this
  exact trivial
 chg := fun {_ _ _ x _} h hi => by
  obtain ⟨t, k, b, f, p, e⟩ := x
  unfold GIs at hi ⊢
  dsimp only at hi ⊢
  split at hi
  case h_11 => simp at h
  all_goals exact hi
 bool := fun {N w x v} h hi => (show GIs M N w x v from hi).t (k := 2) (by simpa using h)
 conOk := Qle
 pkOk := fun {N w b x y z v} h hi => by
  by_cases c : x.t = 2 ∧ y.t = 2
  ·rw [if_pos c] at h; cases h
   cases b
   ·exact (show GIs M N w y v from hi).t c.2
   ·exact (show GIs M N w x v from hi).t c.1
  ·rw [if_neg c] at h; cases h
 ok := fun hG hN h hp hx => Qy8 hG hN h hp hx
section
variable {M : Gm} {T : Nat} {w0 : World} {σ : Nat → GV} {ops : Array Oper} {Q : Exit → Act → World → Prop} {id : Nat} {b : Bool}
theorem QHi {m : Nat} {p : Int × Int} (w : World) (hb : Blk w m 30 #[.int .i64 0, .int .i64 0]) : (Instr.storeAt 30 (pv m) (.agg #[.int .i64 p.1, .int .i64 p.2])).run Tryz.prog w = .ok () ((w.setCell ⟨m, 0, none⟩ (.int .i64 p.1)).setCell ⟨m, 1, none⟩ (.int .i64 p.2)) := by
 have c0 : w.cell? ⟨m, 0, none⟩ = some (.int .i64 0) := hb.cell rfl
 have c1 : w.cell? ⟨m, 1, none⟩ = some (.int .i64 0) := hb.cell rfl
 have f0 := hb.frozen 0
 have f1 := hb.frozen 1
 clear hb
 go_simp
theorem Qu2 (n d k : Nat) (p : Int × Int) (hs : ops.size = n + 1) (hok : okR ops n (n + 1) T = true) (hC : (gE M).sucT ops (ops.toList.take n) σ = true) (hV : (gE M).vcT ops ((gE M).goT (ops.toList.take n) σ) (ops.toList.take n) (gds ops) σ)
  (hL : ∃ ol, ops[n]? = some ol ∧ ol.guard = none ∧ ol.dst = none ∧ ol.op = .store 30 (.tmp d) (.tmp k)) (hW : Qh1 ops n = true)
  (hd : (gE M).goT (ops.toList.take n) σ d = .at 12 0) (hk : (gE M).goT (ops.toList.take n) σ k = ⟨9, 0, false, 0, p, Ev.zero⟩) (hσ : Qh2 (gE M).isNo ops n [(d, .pp p)] σ = true)
  (fin : ∀ a w, (gE M).Ga T w0 (Qas σ [(d, .pp p)]) a w → Q .normal a w) : ∀ a w, (gE M).Ga T w0 σ a w → (Code.region id ops b).wp Tryz.prog Q a w := by
 intro a1 w1 h1
 obtain ⟨ol, k1, k2, k3, k4⟩ := hL
 refine Eng.reg_last (by kernel_rfl) n hs hok hC hV k1 k2 hW (fun c x y e => by rw [k4] at e; cases e) h1 (fun L' a w hM _ hops => ?_)
 have vd : GIs M w1.heap.size w ((gE M).goT (ops.toList.take n) σ d) (a.eval (.tmp d)) := hops d (Qae.2 (by rw [k4]; simp [Op.operands]))
 have vk : GIs M w1.heap.size w ((gE M).goT (ops.toList.take n) σ k) (a.eval (.tmp k)) := hops k (Qae.2 (by rw [k4]; simp [Op.operands]))
 rw [hd] at vd
 rw [hk] at vk
 obtain ⟨m, vd, hN, hB⟩ : ∃ b, a.eval (.tmp d) = pv b ∧ w1.heap.size ≤ b ∧ Blk w b 30 #[.int .i64 0, .int .i64 0] := vd
 have vk : a.eval (.tmp k) = .agg #[.int .i64 p.1, .int .i64 p.2] := vk
 obtain ⟨dst, op, ty, pos, af, gd⟩ := ol
 dsimp only at k3 k4
 subst k3 k4
 have hb : Below w1.heap.size w1 ((w.setCell ⟨m, 0, none⟩ (.int .i64 p.1)).setCell ⟨m, 1, none⟩ (.int .i64 p.2)) := (hM.low.setCell (p := ⟨m, 0, none⟩) hN _).setCell (p := ⟨m, 1, none⟩) hN _
 have hz := (hB.set 0 (.int .i64 p.1)).set 1 (.int .i64 p.2)
 simp only [List.setIfInBounds_toArray, List.set_cons_zero, List.set_cons_succ] at hz
 refine wp_skip (w' := (w.setCell ⟨m, 0, none⟩ (.int .i64 p.1)).setCell ⟨m, 1, none⟩ (.int .i64 p.2)) ?_ (fin _ _ ⟨h1.low.trans (hb.mono h1.low.size), GG.mono h1.g hb, fun x => ?_, fun x => ?_, hM.sz, hM.df⟩)
 ·have e2 : (execOp a.eval ⟨none, .store 30 (.tmp d) (.tmp k), ty, pos, af, gd⟩).run Tryz.prog w = (do Instr.storeAt 30 (a.eval (.tmp d)) (a.eval (.tmp k)); pure Next.skip : Sem Next).run Tryz.prog w := rfl
  rw [e2, vd, vk, Sem.run_bind, QHi w hB]
  rfl
 ·show GIs M 0 _ (Qas σ [(d, .pp p)] x) (a.eval (.tmp x))
  rcases Qbm (σ := σ) (ks := [(d, .pp p)]) (x := x) with ⟨q, h2, rfl, h4⟩ | ⟨h2, h3⟩
  ·obtain rfl := List.mem_singleton.1 h2
   rw [h4, vd]
   exact ⟨m, 0, rfl, hz.lt, hz.cell rfl, hz.cell rfl⟩
  ·rw [h3]
   by_cases hw : ∃ j, j < n ∧ Qbi ops j = some x
   ·obtain ⟨i, hi, hd⟩ := hw
    exact (gE M).any (Qhn hσ hi hd h2)
   ·rw [hM.rest x (fun i hi _ hd => hw ⟨i, hi, hd⟩)]
    exact GIs.mono (h1.is x) hb
 ·rcases Qbm (σ := σ) (ks := [(d, .pp p)]) (x := x) with ⟨q, h2, rfl, h4⟩ | ⟨h2, h3⟩
  ·obtain rfl := List.mem_singleton.1 h2
   rw [h4]
   rfl
  ·rw [h3]
   exact h1.nw x
theorem Qlf {P : Program} {A : Type} {E : Eng P A} {T : Nat} {w0 w : World} {a : Act} (no : A) (ks : List (Nat × A)) (h0 : E.isNo no = true) (hn : E.nw no = false) (hl : Below w0.heap.size w0 w) (hG : E.G w) (hk : ∀ p ∈ ks, E.Is 0 w p.2 (a.eval (.tmp p.1)) ∧ E.nw p.2 = false) (hs : a.tmps.size = T) (hd : a.defers = []) : E.Ga T w0 (Qas (fun _ => no) ks) a w := by
 refine ⟨hl, hG, fun d => ?_, fun d => ?_, hs, hd⟩
 ·rcases Qbm (σ := fun _ => no) (ks := ks) (x := d) with ⟨p, h1, rfl, h3⟩ | ⟨-, h2⟩
  ·rw [h3]; exact (hk p h1).1
  ·rw [h2]; exact E.any h0
 ·rcases Qbm (σ := fun _ => no) (ks := ks) (x := d) with ⟨p, h1, rfl, h3⟩ | ⟨-, h2⟩
  ·rw [h3]; exact (hk p h1).2
  ·rw [h2]; exact hn
end
def ok6 (g : Gr) (i : Nat) : Bool := Qei g.rmw i && (isB g.evs (g.rmw.getD i (0, 0)).1 [1] && (isB g.evs (g.rmw.getD i (0, 0)).2 [2] && (Qjj g.evs (g.rmw.getD i (0, 0)).1 (g.rmw.getD i (0, 0)).2 && decide ((g.ev (g.rmw.getD i (0, 0)).1.toNat).l = (g.ev (g.rmw.getD i (0, 0)).2.toNat).l))))
def Qie (g : Gr) : Prop := ∀ i, i < g.evs.length → (g.ev i).k = 1 → 0 ≤ (g.ev i).t
theorem Qy9 {g : Gr} {q : Bool} (h2 : Qc1 g q = -1) (h3 : Qd5 g q = -1) : Qie g := fun i hi hk => by
 by_cases hc : ((i : Nat) : Int) < g.cells
 ·rw [Qiz h2 hc] at hk
  simp [Qdt] at hk
 ·have := Qkc h3 (by omega) hi
  unfold Qbx at this
  simp at this
  omega
theorem Qz {g : Gr} (ht : Qie g) {a b : Nat} (ha : a < g.evs.length) (hb : b < g.evs.length) (hk : (g.ev a).k = 1) : Qcs g.evs ((a : Nat) : Int) ((b : Nat) : Int) = poB g.evs a b := by
 have h0 := ht a ha hk
 unfold Qcs poB
 rw [Int.toNat_natCast, Int.toNat_natCast]
 have e0 : (g.evs.getD a Ev.zero).t = (g.ev a).t := rfl
 have e1 : (g.evs.getD b Ev.zero).t = (g.ev b).t := rfl
 rw [e0, e1, decide_eq_true (by omega : (0 : Int) ≤ ((a : Nat) : Int)), decide_eq_true (by omega : ((b : Nat) : Int) < ((g.evs.length : Nat) : Int)), decide_eq_true h0, decide_eq_true (by omega : (g.ev a).t ≠ -1)]
 have : decide (((a : Nat) : Int) < ((b : Nat) : Int)) = decide (a < b) := by rw [decide_eq_decide]; omega
 rw [this]
 simp
theorem Qmw {g : Gr} (ht : Qie g) (i : Nat) : ok6 g i = (Qei g.rmw i && okU g.evs (g.rmw.getD i (0, 0))) := by
 unfold ok6 okU Qgc
 generalize g.rmw.getD i (0, 0) = p
 obtain ⟨pa, pb⟩ := p
 dsimp only
 cases h1 : isB g.evs pa [1]
 ·simp
 ·cases h2 : isB g.evs pb [2]
  ·simp
  ·obtain ⟨a, rfl, ha⟩ := Qb1 h1
   obtain ⟨b, rfl, hb⟩ := Qb1 h2
   have hk : (g.ev a).k = 1 := by
    unfold isB at h1
    simp at h1
    exact h1.2
   unfold Qjj
   rw [Qz ht ha hb hk, Int.toNat_natCast, Int.toNat_natCast]
   have e0 : (g.evs.getD a Ev.zero) = (g.ev a) := rfl
   have e1 : (g.evs.getD b Ev.zero) = (g.ev b) := rfl
   rw [e0, e1]
   cases poB g.evs a b <;> cases decide ((g.ev a).l = (g.ev b).l) <;> cases ((Qet g.evs a b).any fun e => e.t == (g.ev a).t) <;> simp
theorem QBl {g : Gr} (ht : Qie g) {k : Nat} (hk : k < g.rmw.length) (h : ∀ j, j < k → ok6 g j = true) (hn : ok6 g k = false) : Qeu g = (k : Int) := by
 unfold Qeu
 refine Qbe (Nat.zero_le _) (by omega) (fun j _ hj => ?_) ?_
 ·have := h j hj; rw [Qmw ht] at this; rw [this]; rfl
 ·rw [Qmw ht] at hn; rw [hn]; rfl
theorem QBm {g : Gr} (ht : Qie g) (h : ∀ j, j < g.rmw.length → ok6 g j = true) : Qeu g = -1 := by
 unfold Qeu
 refine Qa7 (fun j _ hj => ?_)
 have := h j (by omega); rw [Qmw ht] at this; rw [this]; rfl
def Qo1 (g : Gr) (k : Nat) (p q : Int × Int) : Bool :=
 if (if (if (if decide (((k : Nat) : Int) > 0) then decide (p.1 ≤ q.1) else false) then true else !isB g.evs p.1 [1]) then true else !isB g.evs p.2 [2]) then true else !Qjj g.evs p.1 p.2
def Qsl (g : Gr) (k : Nat) (p q : Int × Int) : Bool :=
 if Qo1 g k p q then true else ((g.evs.getD p.1.toNat Ev.zero).l != (g.evs.getD p.2.toNat Ev.zero).l)
theorem Qu3 {g : Gr} {k : Nat} {p q : Int × Int} (h : Qo1 g k p q = false) : isB g.evs p.1 [1] = true ∧ isB g.evs p.2 [2] = true := by
 unfold Qo1 at h
 cases h1 : isB g.evs p.1 [1] <;> cases h2 : isB g.evs p.2 [2] <;> simp [h1, h2] at h ⊢
theorem Qu4 (g : Gr) (k : Nat) : Qsl g k (g.rmw.getD k (0, 0)) (g.rmw.getD (((k : Nat) : Int) - 1).toNat (0, 0)) = !ok6 g k := by
 have e : (((k : Nat) : Int) - 1).toNat = k - 1 := by omega
 have e2 : (if decide (((k : Nat) : Int) > 0) then decide ((g.rmw.getD k (0, 0)).1 ≤ (g.rmw.getD (k - 1) (0, 0)).1) else false) = !Qei g.rmw k := by
  unfold Qei
  by_cases h : k = 0
  ·subst h; simp
  ·have h1 : (((k : Nat) : Int) > 0) := by omega
   rw [decide_eq_true h1, if_pos rfl, decide_eq_false h, Bool.false_or, ← decide_not, decide_eq_decide]
   omega
 unfold Qsl Qo1 ok6
 rw [e, e2]
 have e3 : ∀ x y : Int, (x != y) = !decide (x = y) := fun x y => by by_cases h : x = y <;> simp [h]
 rw [e3]
 show _ = !(Qei g.rmw k && (_ && (_ && (_ && decide ((g.evs.getD _ Ev.zero).l = (g.evs.getD _ Ev.zero).l)))))
 cases Qei g.rmw k <;> cases isB g.evs (g.rmw.getD k (0, 0)).1 [1] <;> cases isB g.evs (g.rmw.getD k (0, 0)).2 [2] <;> cases Qjj g.evs (g.rmw.getD k (0, 0)).1 (g.rmw.getD k (0, 0)).2 <;> simp
theorem Qgk {p q : Bool} (e : p = q) (h : p = true) : q = true := e ▸ h
theorem Qfx {p q : Prop} (e : p = q) (h : p) : q := e ▸ h
theorem Qza {evs : List Ev} {a : Int} {ks : List Int} (h : isB evs a ks = true) : 0 ≤ a ∧ a < ((evs.length : Nat) : Int) := by
 obtain ⟨n, rfl, hn⟩ := Qb1 h
 omega
abbrev gM (w : World) (V : GrV) (g : Gr) : Gm := ⟨w.heap.size, V, g, V.rf, g.rf⟩
abbrev s1 : Nat → GV := Qas (fun _ => GV.at 0 0) [(1, GV.at 3 0)]
abbrev sk (d : Nat) (k : Nat) : Nat → GV := Qas s1 [(d, GV.nu ((k : Nat) : Int))]
theorem Qtv (V : GrV) (g : Gr) (w : World) (h : GrR w V g) (hl256 : g.evs.length ≤ 256) (ht : Qie g) : Calls Tryz.prog 40 #[V.val g] w fun r w' => r = .returned (.int .i64 (Qeu g)) ∧ Below w.heap.size w w' := by
 obtain ⟨p4, k4, e4, -, hr4⟩ := Qab h.rmw
 have HT := Qa ht
 have H := Qa h
 have hB : Below w.heap.size w (w.alloc (.cells (V.gs g) 27)) := (Below.refl _ _).alloc (Nat.le_refl _) _
 have HB := Qa hB
 have HR := Qa hr4
 clear h ht hB e4 hr4
 unfold GrV.val
 go_enter Tryz.func40, Tryz.ntmps40
 go_upto_region 1 with fail
 rename_i K1 hF K hK
 refine Eng.reg_keep (E := gE (gM w V g)) (T := 72) (w0 := w) (σ := s1) [(3, GV.nu ((0 : Nat) : Int))] byK byK byK (by exact trivial) byK byK byK (fun a' w' h' => hK a' w' ?_) _ _
  (Qlf (E := gE (gM w V g)) (GV.at 0 0) [(1, GV.at 3 0)] rfl rfl HB.out ⟨H.out.below HB.out, Blk.new w _ _, H.out.rf.below HB.out, hl256⟩ (by intro p hp; obtain rfl := List.mem_singleton.1 hp; exact ⟨rfl, rfl⟩) rfl rfl)
 refine Qki g.rmw.length (fun k a w1 => (∀ j, j < k → ok6 g j = true) ∧ (gE (gM w V g)).Ga 72 w (sk 3 k) a w1) ⟨fun j h => by omega, h'⟩ ?_
 clear a' w' h'
 rintro k a w1 hk ⟨hall, hga⟩
 revert a w1 hga
 refine Eng.reg_keep (E := gE (gM w V g)) [(9, GV.bo (decide (((k : Nat) : Int) < ((g.rmw.length : Nat) : Int))))] byK byK byK (by exact trivial) byK byK byK (fun a w1 h => ?_)
 have h9 : a.eval (.tmp 9) = .bool (decide (((k : Nat) : Int) < ((g.rmw.length : Nat) : Int))) := h.is 9
 refine ⟨_, h9, fun hq => hF a w1 ?_, fun hq => ⟨by simpa using hq, ?_⟩⟩
 ·have hkn : ¬ k < g.rmw.length := by simpa using hq
  refine wp_seq (Eng.reg_ret (E := gE (gM w V g)) (fn := Tryz.f40) (R := fun r w' => r = .returned (.int .i64 (Qeu g)) ∧ Below w.heap.size w w') 2 (GV.nu (-1)) byK byK byK (by exact trivial) byK byK rfl (fun a w h => by exact wp_ret h) ?_ a w1 h)
  intro N w' v hl hG hv
  have hv : v = .int .i64 (-1) := hv
  exact ⟨by rw [hv, QBm HT.out (fun j hj => hall j (by omega))], hl⟩
 ·have hkl : k < g.rmw.length := by simpa using hq
  clear h9
  refine wp_seq (Qu2 6 4 16 (g.rmw.getD k (0, 0)) rfl byK byK (by exact ⟨fun _ => (⟨Int.natCast_nonneg _, Int.ofNat_lt.2 hkl⟩ : (0 : Int) ≤ ((k : Nat) : Int) ∧ ((k : Nat) : Int) < ((g.rmw.length : Nat) : Int)), trivial⟩) ⟨_, rfl, rfl, rfl, rfl⟩ byK byK byK byK ?_ a w1 h)
  clear a w1 h
  refine fun a w1 h => wp_seq (Eng.reg_keep (E := gE (gM w V g)) [(70, GV.bo (Qsl g k (g.rmw.getD k (0, 0)) (g.rmw.getD (((k : Nat) : Int) - 1).toNat (0, 0))))] byK byK byK ?_ byK byK byK ?_ a w1 h)
  ·refine ⟨fun c => ?_, fun c => ?_, fun c => ?_, fun c => ?_, trivial⟩
   ·have c : (decide (((k : Nat) : Int) > 0) == true && true) = true := Qgk (by kernel_rfl) c
    have := HR.out
    have c : 0 < k := by simpa using c
    exact Qfx (p := (-9223372036854775808 : Int) ≤ ((k : Nat) : Int) - 1 ∧ ((k : Nat) : Int) - 1 < 9223372036854775808) (by kernel_rfl) ⟨by omega, by omega⟩
   ·have c : (decide (((k : Nat) : Int) > 0) == true && true) = true := Qgk (by kernel_rfl) c
    have c : 0 < k := by simpa using c
    exact Qfx (p := (0 : Int) ≤ ((k : Nat) : Int) - 1 ∧ ((k : Nat) : Int) - 1 < ((g.rmw.length : Nat) : Int)) (by kernel_rfl) ⟨by omega, by omega⟩
   ·have c : (Qo1 g k (g.rmw.getD k (0, 0)) (g.rmw.getD (((k : Nat) : Int) - 1).toNat (0, 0)) == false && true) = true := Qgk (by kernel_rfl) c
    exact Qfx (by kernel_rfl) (Qza (Qu3 (by simpa using c)).1)
   ·have c : (Qo1 g k (g.rmw.getD k (0, 0)) (g.rmw.getD (((k : Nat) : Int) - 1).toNat (0, 0)) == false && true) = true := Qgk (by kernel_rfl) c
    exact Qfx (by kernel_rfl) (Qza (Qu3 (by simpa using c)).2)
  clear a w1 h
  refine Eng.cond (E := gE (gM w V g)) 70 _ rfl rfl (fun hq a w1 h => ?_) (fun hq a w1 h => ?_)
  ·refine wp_seq (Eng.reg_ret (E := gE (gM w V g)) (fn := Tryz.f40) (R := fun r w' => r = .returned (.int .i64 (Qeu g)) ∧ Below w.heap.size w w') 2 (GV.nu ((k : Nat) : Int)) byK byK byK (by exact trivial) byK byK rfl (fun a w h => by exact wp_ret h) ?_ a w1 h)
   intro N w' v hl hG hv
   have hv : v = .int .i64 ((k : Nat) : Int) := hv
   have hq : Qsl g k (g.rmw.getD k (0, 0)) (g.rmw.getD (((k : Nat) : Int) - 1).toNat (0, 0)) = true := hq
   rw [Qu4] at hq
   exact ⟨by rw [hv, QBl HT.out hkl hall (by simpa using hq)], hl⟩
  ·have hq : Qsl g k (g.rmw.getD k (0, 0)) (g.rmw.getD (((k : Nat) : Int) - 1).toNat (0, 0)) = false := hq
   rw [Qu4] at hq
   refine Go.wp_skip (Eng.reg_keep (E := gE (gM w V g)) [(3, GV.nu (((k + 1 : Nat)) : Int))] byK byK byK (by have := HR.out; exact ⟨fun _ => (⟨by omega, by omega⟩ : (-9223372036854775808 : Int) ≤ ((k : Nat) : Int) + 1 ∧ ((k : Nat) : Int) + 1 < 9223372036854775808), trivial⟩) byK byK byK (fun a w1 h => ⟨fun j hj => ?_, h.less (fun d => ?_)⟩) a w1 h)
   ·by_cases e : j = k
    ·rw [e]; simpa using hq
    ·exact hall j (by omega)
   ·by_cases e3 : d = 3
    ·subst e3; exact .inr rfl
    by_cases e1 : d = 1
    ·subst e1; exact .inr rfl
    exact .inl ⟨by simp [Qas, e1, e3, gE, GV.at], by simp [Qas, e1, e3, gE, GV.at]⟩
def Qir (g : Gr) (l : List (Int × Int)) (i : Nat) : Bool := Qga true l i && (isB g.evs (l.getD i (0, 0)).1 [1] && Qcs g.evs (l.getD i (0, 0)).1 (l.getD i (0, 0)).2)
def QCb (g : Gr) : Prop := ∀ i, i < g.evs.length → (g.ev i).k = 1 ∨ (g.ev i).k = 2 ∨ (g.ev i).k = 3
theorem QF8 {g : Gr} {q : Bool} (h2 : Qc1 g q = -1) (h3 : Qd5 g q = -1) : QCb g := fun i hi => by
 by_cases hc : ((i : Nat) : Int) < g.cells
 ·rw [Qiz h2 hc]
  simp [Qdt]
 ·have := Qkc h3 (by omega) hi
  unfold Qbx at this
  simp at this
  omega
theorem QBn {g : Gr} (ht : Qie g) (l : List (Int × Int)) (ks : List Int) (i : Nat) : (Qga true l i && Qgb g.evs (l.getD i (0, 0)) ks) = (Qir g l i && ks.contains (g.ev (l.getD i (0, 0)).2.toNat).k) := by
 unfold Qir Qgb
 generalize l.getD i (0, 0) = p
 obtain ⟨pa, pb⟩ := p
 dsimp only
 cases h1 : isB g.evs pa [1]
 ·simp
 ·obtain ⟨a, rfl, ha⟩ := Qb1 h1
  have hk : (g.ev a).k = 1 := by
   unfold isB at h1
   simp at h1
   exact h1.2
  by_cases hb : 0 ≤ pb ∧ pb < g.evs.length
  ·obtain ⟨b, rfl⟩ : ∃ b : Nat, pb = (b : Int) := ⟨pb.toNat, by omega⟩
   rw [Qz ht ha (by omega) hk, Int.toNat_natCast, Int.toNat_natCast]
   have : isB g.evs ((b : Nat) : Int) ks = ks.contains (g.ev b).k := by
    unfold isB
    rw [decide_eq_true hb.1, decide_eq_true hb.2, Int.toNat_natCast]
    rfl
   rw [this]
   cases Qga true l i <;> cases poB g.evs a b <;> cases ks.contains (g.ev b).k <;> rfl
  ·have hi : isB g.evs pb ks = false := by
    cases e : isB g.evs pb ks
    ·rfl
    ·obtain ⟨b, rfl, hb'⟩ := Qb1 e
     exact absurd ⟨by omega, by omega⟩ hb
   have hbf : Qcs g.evs ((a : Nat) : Int) pb = false := by
    cases e : Qcs g.evs ((a : Nat) : Int) pb
    ·rfl
    ·obtain ⟨n, m, _, rfl, _, hm⟩ := Qmf e
     exact absurd ⟨by omega, by omega⟩ hb
   rw [hi, hbf]
   simp
theorem QD7 {qa qb pa pb : Int} : decide (Qk0 (qa, qb) (pa, pb) < 0) = (decide (qa < pa) || (decide (qa = pa) && decide (qb < pb))) := by
 unfold Qk0 orI Qkz
 dsimp only
 by_cases h1 : qa < pa
 ·simp [h1]
 ·by_cases h2 : pa < qa
  ·have : ¬ qa = pa := by omega
   simp [h1, h2, this]
  ·have : qa = pa := by omega
   subst this
   by_cases h3 : qb < pb
   ·simp [h3]
   ·by_cases h4 : pb < qb
    ·simp [h3, h4]
    ·simp [h3, h4]
def QBo (wh : Int) (ks : List Int) : Prop := (wh = 7 ∧ ks = [1, 2]) ∨ (wh = 8 ∧ ks = [2]) ∨ (wh = 9 ∧ ks = [1, 2, 3])
def Qsm (g : Gr) (k : Nat) (p q : Int × Int) : Bool :=
 if (if (if decide (((k : Nat) : Int) > 0) then (if decide (p.1 < q.1) then true else (if p.1 == q.1 then decide (p.2 ≤ q.2) else false)) else false) then true else !isB g.evs p.1 [1]) then true else !Qcs g.evs p.1 p.2
theorem Qu5 (g : Gr) (l : List (Int × Int)) (k : Nat) : Qsm g k (l.getD k (0, 0)) (l.getD (((k : Nat) : Int) - 1).toNat (0, 0)) = !Qir g l k := by
 have e : (((k : Nat) : Int) - 1).toNat = k - 1 := by omega
 unfold Qsm Qir Qga
 rw [e]
 generalize l.getD (k - 1) (0, 0) = q
 generalize l.getD k (0, 0) = p
 obtain ⟨qa, qb⟩ := q
 obtain ⟨pa, pb⟩ := p
 have e2 : (if decide (((k : Nat) : Int) > 0) then (if decide (pa < qa) then true else (if pa == qa then decide (pb ≤ qb) else false)) else false) = !(true && (decide (k = 0) || decide (Qk0 (qa, qb) (pa, pb) < 0))) := by
  rw [QD7]
  by_cases h : k = 0
  ·subst h; simp
  ·have h1 : (((k : Nat) : Int) > 0) := by omega
   rw [decide_eq_true h1, decide_eq_false h]
   by_cases h2 : pa < qa
   ·have h3 : ¬ qa < pa := by omega
    have h4 : ¬ qa = pa := by omega
    simp [h2, h3, h4]
   ·by_cases h3 : pa = qa
    ·subst h3
     by_cases h4 : qb < pb
     ·have h5 : ¬ pb ≤ qb := by omega
      simp [h4, h5]
     ·have h5 : pb ≤ qb := by omega
      simp [h4, h5]
    ·have h4 : qa < pa := by omega
     have h5 : ¬ qa = pa := by omega
     simp [h2, h3, h4]
 dsimp only
 rw [e2]
 cases (true && (decide (k = 0) || decide (Qk0 (qa, qb) (pa, pb) < 0))) <;> cases isB g.evs pa [1] <;> cases Qcs g.evs pa pb <;> rfl
def whB (wh kd : Int) : Bool := if (if wh == 7 then kd == 3 else false) then true else (if wh == 8 then kd != 2 else false)
theorem QF9 {wh kd : Int} {ks : List Int} (h : QBo wh ks) (hk : kd = 1 ∨ kd = 2 ∨ kd = 3) : whB wh kd = !ks.contains kd := by
 rcases h with ⟨rfl, rfl⟩ | ⟨rfl, rfl⟩ | ⟨rfl, rfl⟩ <;> rcases hk with rfl | rfl | rfl <;> rfl
theorem QD8 {evs : List Ev} {a b : Int} (h : Qcs evs a b = true) : 0 ≤ b ∧ b < ((evs.length : Nat) : Int) := by
 obtain ⟨n, m, -, rfl, -, hm⟩ := Qmf h
 omega
abbrev dM (w : World) (V : GrV) (g : Gr) (v : Value) (l : List (Int × Int)) : Gm := ⟨w.heap.size, V, g, v, l⟩
abbrev d0 (wh : Int) : Nat → GV := Qas (fun _ => GV.at 0 0) [(1, GV.at 5 20), (2, GV.nu wh), (3, GV.at 3 0)]
theorem Qsn (V : GrV) (g : Gr) (v : Value) (l : List (Int × Int)) (wh : Int) (ks : List Int) (w : World) (h : GrR w V g) (hv : PArg w v l) (hl256 : g.evs.length ≤ 256) (ht : Qie g) (hkd : QCb g) (hwk : QBo wh ks) :
  Calls Tryz.prog 41 #[V.val g, v, .int .i64 wh] w fun r w' => r = .returned (.int .i64 (Qd4 g.evs true l ks)) ∧ Below w.heap.size w w' := by
 obtain ⟨p4, k4, e4, -, hr4⟩ := Qab hv
 generalize hr : Qd4 g.evs true l ks = res
 have HD : Hid (Qa0 (fun i => !(Qir g l i && ks.contains (g.ev (l.getD i (0, 0)).2.toNat).k)) 0 l.length = res) := by
  rw [Hid, ← hr]
  unfold Qd4
  congr 1
  funext i
  rw [QBn ht]
 have H := Qa h
 have HV := Qa hv
 have HKD := Qa hkd
 have HWK := Qa hwk
 have hB : Below w.heap.size w (w.alloc (.cells (V.gs g) 27)) := (Below.refl _ _).alloc (Nat.le_refl _) _
 have HB := Qa hB
 have HR := Qa hr4
 clear h ht hB e4 hr4 hv hkd hwk hr
 unfold GrV.val
 go_enter Tryz.func41, Tryz.ntmps41
 go_upto_region 1 with fail
 rename_i K1 hF K hK
 refine Eng.reg_keep (E := gE (dM w V g v l)) (T := 94) (w0 := w) (σ := d0 wh) [(7, GV.nu ((0 : Nat) : Int))] byK byK byK (by exact trivial) byK byK byK (fun a' w' h' => hK a' w' ?_) _ _
  (Qlf (E := gE (dM w V g v l)) (GV.at 0 0) [(1, GV.at 5 20), (2, GV.nu wh), (3, GV.at 3 0)] rfl rfl HB.out ⟨H.out.below HB.out, Blk.new w _ _, HV.out.below HB.out, hl256⟩ (by
   intro p hp
   rcases List.mem_cons.1 hp with rfl | hp
   ·exact ⟨rfl, rfl⟩
   rcases List.mem_cons.1 hp with rfl | hp
   ·exact ⟨rfl, rfl⟩
   obtain rfl := List.mem_singleton.1 hp
   exact ⟨rfl, rfl⟩) rfl rfl)
 refine Qki l.length (fun k a w1 => (∀ j, j < k → (Qir g l j && ks.contains (g.ev (l.getD j (0, 0)).2.toNat).k) = true) ∧ (gE (dM w V g v l)).Ga 94 w (Qas (d0 wh) [(7, GV.nu ((k : Nat) : Int))]) a w1) ⟨fun j h => by omega, h'⟩ ?_
 clear a' w' h'
 rintro k a w1 hk ⟨hall, hga⟩
 revert a w1 hga
 refine Eng.reg_keep (E := gE (dM w V g v l)) [(13, GV.bo (decide (((k : Nat) : Int) < ((l.length : Nat) : Int))))] byK byK byK (by exact trivial) byK byK byK (fun a w1 h => ?_)
 have h9 : a.eval (.tmp 13) = .bool (decide (((k : Nat) : Int) < ((l.length : Nat) : Int))) := h.is 13
 refine ⟨_, h9, fun hq => hF a w1 ?_, fun hq => ⟨by simpa using hq, ?_⟩⟩
 ·have hkn : ¬ k < l.length := by simpa using hq
  refine wp_seq (Eng.reg_ret (E := gE (dM w V g v l)) (fn := Tryz.f41) (R := fun r w' => r = .returned (.int .i64 res) ∧ Below w.heap.size w w') 6 (GV.nu (-1)) byK byK byK (by exact trivial) byK byK rfl (fun a w h => by exact wp_ret h) ?_ a w1 h)
  intro N w' v hl hG hv
  have hv : v = .int .i64 (-1) := hv
  refine ⟨?_, hl⟩
  rw [hv, ← HD.out, Qa7 (fun j _ hj => by rw [hall j (by omega)]; rfl)]
 ·have hkl : k < l.length := by simpa using hq
  have hit : (Qir g l k && ks.contains (g.ev (l.getD k (0, 0)).2.toNat).k) = false → res = ((k : Nat) : Int) := fun hn => by
   rw [← HD.out]
   exact Qbe (Nat.zero_le _) (by omega) (fun j _ hj => by rw [hall j hj]; rfl) (by rw [hn]; rfl)
  clear h9
  refine wp_seq (Qu2 5 8 19 (l.getD k (0, 0)) rfl byK byK (by exact ⟨fun _ => (⟨Int.natCast_nonneg _, Int.ofNat_lt.2 hkl⟩ : (0 : Int) ≤ ((k : Nat) : Int) ∧ ((k : Nat) : Int) < ((l.length : Nat) : Int)), trivial⟩) ⟨_, rfl, rfl, rfl, rfl⟩ byK byK byK byK ?_ a w1 h)
  clear a w1 h
  refine fun a w1 h => wp_seq (wp_seq (Eng.reg_keep (E := gE (dM w V g v l)) [(70, GV.bo (Qsm g k (l.getD k (0, 0)) (l.getD (((k : Nat) : Int) - 1).toNat (0, 0))))] byK byK byK ?_ byK byK byK ?_ a w1 h))
  ·have := HR.out
   refine ⟨fun c => ?_, fun c => ?_, fun c => ?_, fun c => ?_, fun c => ?_, fun c => ?_, trivial⟩
   ·have c : (decide (((k : Nat) : Int) > 0) == true && true) = true := Qgk (by kernel_rfl) c
    have c : 0 < k := by simp at c; omega
    exact Qfx (p := (-9223372036854775808 : Int) ≤ ((k : Nat) : Int) - 1 ∧ ((k : Nat) : Int) - 1 < 9223372036854775808) (by kernel_rfl) ⟨by omega, by omega⟩
   ·have c : (decide (((k : Nat) : Int) > 0) == true && true) = true := Qgk (by kernel_rfl) c
    have c : 0 < k := by simp at c; omega
    exact Qfx (p := (0 : Int) ≤ ((k : Nat) : Int) - 1 ∧ ((k : Nat) : Int) - 1 < ((l.length : Nat) : Int)) (by kernel_rfl) ⟨by omega, by omega⟩
   ·have c : (decide ((l.getD k (0, 0)).1 < (l.getD (((k : Nat) : Int) - 1).toNat (0, 0)).1) == false && (decide (((k : Nat) : Int) > 0) == true && true)) = true := Qgk (by kernel_rfl) c
    have c : 0 < k := by simp at c; omega
    exact Qfx (p := (-9223372036854775808 : Int) ≤ ((k : Nat) : Int) - 1 ∧ ((k : Nat) : Int) - 1 < 9223372036854775808) (by kernel_rfl) ⟨by omega, by omega⟩
   ·have c : (decide ((l.getD k (0, 0)).1 < (l.getD (((k : Nat) : Int) - 1).toNat (0, 0)).1) == false && (decide (((k : Nat) : Int) > 0) == true && true)) = true := Qgk (by kernel_rfl) c
    have c : 0 < k := by simp at c; omega
    exact Qfx (p := (0 : Int) ≤ ((k : Nat) : Int) - 1 ∧ ((k : Nat) : Int) - 1 < ((l.length : Nat) : Int)) (by kernel_rfl) ⟨by omega, by omega⟩
   ·have c : (((l.getD k (0, 0)).1 == (l.getD (((k : Nat) : Int) - 1).toNat (0, 0)).1) == true && (decide ((l.getD k (0, 0)).1 < (l.getD (((k : Nat) : Int) - 1).toNat (0, 0)).1) == false && (decide (((k : Nat) : Int) > 0) == true && true))) = true := Qgk (by kernel_rfl) c
    have c : 0 < k := by simp at c; omega
    exact Qfx (p := (-9223372036854775808 : Int) ≤ ((k : Nat) : Int) - 1 ∧ ((k : Nat) : Int) - 1 < 9223372036854775808) (by kernel_rfl) ⟨by omega, by omega⟩
   ·have c : (((l.getD k (0, 0)).1 == (l.getD (((k : Nat) : Int) - 1).toNat (0, 0)).1) == true && (decide ((l.getD k (0, 0)).1 < (l.getD (((k : Nat) : Int) - 1).toNat (0, 0)).1) == false && (decide (((k : Nat) : Int) > 0) == true && true))) = true := Qgk (by kernel_rfl) c
    have c : 0 < k := by simp at c; omega
    exact Qfx (p := (0 : Int) ≤ ((k : Nat) : Int) - 1 ∧ ((k : Nat) : Int) - 1 < ((l.length : Nat) : Int)) (by kernel_rfl) ⟨by omega, by omega⟩
  clear a w1 h
  refine Eng.cond (E := gE (dM w V g v l)) 70 _ rfl rfl (fun hq a w1 h => ?_) (fun hq a w1 h => ?_)
  ·refine wp_seq (Eng.reg_ret (E := gE (dM w V g v l)) (fn := Tryz.f41) (R := fun r w' => r = .returned (.int .i64 res) ∧ Below w.heap.size w w') 6 (GV.nu ((k : Nat) : Int)) byK byK byK (by exact trivial) byK byK rfl (fun a w h => by exact wp_ret h) ?_ a w1 h)
   intro N w' v hl hG hv
   have hv : v = .int .i64 ((k : Nat) : Int) := hv
   have hq : Qsm g k (l.getD k (0, 0)) (l.getD (((k : Nat) : Int) - 1).toNat (0, 0)) = true := hq
   rw [Qu5] at hq
   exact ⟨by rw [hv, hit (by rw [show Qir g l k = false by simpa using hq]; rfl)], hl⟩
  ·have hq : Qsm g k (l.getD k (0, 0)) (l.getD (((k : Nat) : Int) - 1).toNat (0, 0)) = false := hq
   rw [Qu5] at hq
   have hq : Qir g l k = true := by simpa using hq
   have hin : 0 ≤ (l.getD k (0, 0)).2 ∧ (l.getD k (0, 0)).2 < ((g.evs.length : Nat) : Int) := by
    unfold Qir at hq
    simp only [Bool.and_eq_true] at hq
    exact QD8 hq.2.2
   refine Go.wp_skip (wp_seq (Eng.reg_keep (E := gE (dM w V g v l)) [(9, GV.nu (g.ev (l.getD k (0, 0)).2.toNat).k)] byK byK byK (by exact ⟨fun _ => Qfx (by kernel_rfl) hin, trivial⟩) byK byK byK ?_ a w1 h))
   clear a w1 h
   refine fun a w1 h => wp_seq (Eng.reg_keep (E := gE (dM w V g v l)) [(92, GV.bo (whB wh (g.ev (l.getD k (0, 0)).2.toNat).k))] byK byK byK (by exact trivial) byK byK byK ?_ a w1 h)
   clear a w1 h
   have hw := QF9 HWK.out (HKD.out (l.getD k (0, 0)).2.toNat (by omega))
   refine Eng.cond (E := gE (dM w V g v l)) 92 _ rfl rfl (fun h2 a w1 h => ?_) (fun h2 a w1 h => ?_)
   ·refine wp_seq (Eng.reg_ret (E := gE (dM w V g v l)) (fn := Tryz.f41) (R := fun r w' => r = .returned (.int .i64 res) ∧ Below w.heap.size w w') 6 (GV.nu ((k : Nat) : Int)) byK byK byK (by exact trivial) byK byK rfl (fun a w h => by exact wp_ret h) ?_ a w1 h)
    intro N w' v hl hG hv
    have hv : v = .int .i64 ((k : Nat) : Int) := hv
    have h2 : whB wh (g.ev (l.getD k (0, 0)).2.toNat).k = true := h2
    rw [hw] at h2
    exact ⟨by rw [hv, hit (by rw [show ks.contains (g.ev (l.getD k (0, 0)).2.toNat).k = false by simpa using h2, Bool.and_false])], hl⟩
   ·have h2 : whB wh (g.ev (l.getD k (0, 0)).2.toNat).k = false := h2
    rw [hw] at h2
    refine Go.wp_skip (Eng.reg_keep (E := gE (dM w V g v l)) [(7, GV.nu (((k + 1 : Nat)) : Int))] byK byK byK (by have := HR.out; exact ⟨fun _ => (⟨by omega, by omega⟩ : (-9223372036854775808 : Int) ≤ ((k : Nat) : Int) + 1 ∧ ((k : Nat) : Int) + 1 < 9223372036854775808), trivial⟩) byK byK byK (fun a w1 h => ⟨fun j hj => ?_, h.less (fun d => ?_)⟩) a w1 h)
    ·by_cases e : j = k
     ·rw [e, hq, show ks.contains (g.ev (l.getD k (0, 0)).2.toNat).k = true by simpa using h2]; rfl
     ·exact hall j (by omega)
    ·by_cases e7 : d = 7
     ·subst e7; exact .inr rfl
     by_cases e1 : d = 1
     ·subst e1; exact .inr rfl
     by_cases e2 : d = 2
     ·subst e2; exact .inr rfl
     by_cases e3 : d = 3
     ·subst e3; exact .inr rfl
     exact .inl ⟨by simp [Qas, e1, e2, e3, e7, gE, GV.at], by simp [Qas, e1, e2, e3, e7, gE, GV.at]⟩
theorem Qdy {p : Int × Int} {x y a b : Int} (h : p = (x, y)) (h2 : p = (a, b)) : x = a ∧ y = b := by
 rw [h] at h2
 exact ⟨congrArg Prod.fst h2, congrArg Prod.snd h2⟩
theorem Qlg {g : Gr} {q : Bool} (h : Qbj g = true) : chk g q = (1, 0) := by
 have e : rl g q 0 = 0 := by unfold rl; rw [h]; rfl
 rw [Qk8 (k := 0) (by omega) (fun j h => by omega) (by rw [e]; omega), e]
 rfl
theorem Qi6 {P : Nat → Bool} : ∀ {a f : Nat}, Qa0 P a f = -1 ∨ 0 ≤ Qa0 P a f
 | _, 0 => .inl rfl
 | a, f + 1 => by
  rw [Qa0]
  by_cases h : P a = true
  ·rw [if_pos h]; exact .inr (by omega)
  ·rw [if_neg h]; exact Qi6
theorem QBp (g : Gr) : Qeh g = -1 ∨ 0 ≤ Qeh g := by
 unfold Qeh
 have h := Qi6 (P := fun i => !(Qds g i (g.rf.getD i (0, 0)) && Qff g (g.rf.getD i (0, 0)))) (a := 0) (f := g.rf.length)
 revert h
 generalize Qa0 (fun i => !(Qds g i (g.rf.getD i (0, 0)) && Qff g (g.rf.getD i (0, 0)))) 0 g.rf.length = r
 intro h
 dsimp only
 split <;> (try split) <;> omega
theorem QBq {g : Gr} (h1 : Qbj g = false) : Qdf g = -1 ∨ 0 ≤ Qdf g := by
 have hc : 0 ≤ g.cells := by simp [Qbj] at h1; omega
 unfold Qdf
 split
 ·split
  ·exact .inl rfl
  ·exact .inr hc
 ·exact Qi6
theorem QBr (g : Gr) : Qeu g = -1 ∨ 0 ≤ Qeu g := by
 unfold Qeu
 exact Qi6
theorem Qkv {g : Gr} {q : Bool} {x : Int} {k : Nat} (hk : k < 9) (h : ∀ j, j < k → rl g q j = -1) (e : rl g q k = x) (hx : x ≠ -1) : chk g q = (((k : Nat) : Int) + 1, x) := by
 rw [Qk8 hk h (by rw [e]; exact hx), e]
theorem Qif {g : Gr} {q : Bool} {k : Nat} (h : ∀ j, j < k → rl g q j = -1) (e : rl g q k = -1) : ∀ j, j < k + 1 → rl g q j = -1 := fun j hj => by
 by_cases hjk : j = k
 ·rw [hjk]; exact e
 ·exact h j (by omega)
theorem QGa {g : Gr} {q : Bool} (h1 : Qbj g = false) (h2 : Qc1 g q = -1) : ∀ j, j < 2 → rl g q j = -1 :=
 Qif (Qif (fun j h => by omega) (show rl g q 0 = -1 by unfold rl; rw [h1]; rfl)) (show rl g q 1 = -1 from h2)
theorem Qu6 {g : Gr} {q : Bool} {x : Int} {k : Nat} (hk : k < 3) (h : ∀ j, j < 6 + k → rl g q j = -1) (e : rl g q (6 + k) = x) (hx : x ≠ -1) : chk g q = (7 + ((k : Nat) : Int), x) := by
 rw [Qkv (by omega) h e hx]
 congr 1
 omega
theorem QD9 {evs : List Ev} {l : List (Int × Int)} {ks : List Int} (h : 0 < l.length) : Qd4 evs false l ks = 0 := by
 show Qa0 _ 0 l.length = ((0 : Nat) : Int)
 exact Qbe (i := 0) (Nat.le_refl _) (by omega) (fun j h1 h2 => by omega) rfl
theorem Qso {evs : List Ev} {q : Bool} {l : List (Int × Int)} {ks : List Int} (h : ¬ 0 < l.length) : Qd4 evs q l ks = -1 :=
 Qa7 (fun j _ h2 => by omega)
theorem QE {g : Gr} {q : Bool} {x : Int} (h1 : Qbj g = false) (h : Qc1 g q = x) (hx : x ≠ -1) : chk g q = (2, x) := by
 have e0 : rl g q 0 = -1 := by unfold rl; rw [h1]; rfl
 have e1 : rl g q 1 = x := by unfold rl; exact h
 rw [Qk8 (k := 1) (by omega) (fun j h => by obtain rfl : j = 0 := (by omega); exact e0) (by rw [e1]; exact hx), e1]
 rfl
theorem Qqf (V : GrV) (g : Gr) (q : Bool) (w : World) (h : GrR w V g) : Calls Tryz.prog 18 #[V.val g, .bool q] w fun r w' => r = .returned (.tuple #[.int .i64 (chk g q).1, .int .i64 (chk g q).2]) ∧ Below w.heap.size w w' := by
 generalize hr : chk g q = r
 obtain ⟨r1, r2⟩ := r
 have HR := Qa hr
 obtain ⟨Ve, Vr, Vc, Vm, Va, Vd, Vt⟩ := V
 obtain ⟨pe, ce, ee, hp, _⟩ := h.ev
 obtain ⟨p5, k5, e5, _, hl5⟩ := Qab h.addr
 obtain ⟨p6, k6, e6, _, hl6⟩ := Qab h.dat
 obtain ⟨p7, k7, e7, _, hl7⟩ := Qab h.ctrl
 dsimp only at ee e5 e6 e7
 subst ee
 subst e5
 subst e6
 subst e7
 have HP := Qa hp
 have H := Qa h
 have hB : Below w.heap.size w (w.alloc (.cells #[.int .i64 g.cells, .slice pe g.evs.length ce, Vr, Vc, Vm, .slice p5 g.addr.length k5, .slice p6 g.dat.length k6, .slice p7 g.ctrl.length k7] 27)) := (Below.refl _ _).alloc (Nat.le_refl _) _
 have hb := Blk.new w 27 #[.int .i64 g.cells, .slice pe g.evs.length ce, Vr, Vc, Vm, .slice p5 g.addr.length k5, .slice p6 g.dat.length k6, .slice p7 g.ctrl.length k7]
 unfold GrV.val
 dsimp only
 clear hr hp h
 go_enter Tryz.func18, Tryz.ntmps18
 go_upto_region 1 with fail
 have HB := Qa hB
 have HG := Qa hb
 generalize w.alloc (.cells #[.int .i64 g.cells, .slice pe g.evs.length ce, Vr, Vc, Vm, .slice p5 g.addr.length k5, .slice p6 g.dat.length k6, .slice p7 g.ctrl.length k7] 27) = W0 at *
 have c0 : W0.cell? ⟨w.heap.size, 0, none⟩ = some (.int .i64 g.cells) := hb.cell rfl
 have c1 : W0.cell? ⟨w.heap.size, 1, none⟩ = some (.slice pe g.evs.length ce) := hb.cell rfl
 clear hb hB
 by_cases b1 : g.cells < 0
 ·obtain ⟨rfl, rfl⟩ := Qdy HR.out (Qlg (by unfold Qbj; rw [decide_eq_true b1]; rfl))
  go_wp2_with fail
  go_ret2
  exact ⟨rfl, HB.out⟩
 by_cases b2 : 4096 < g.cells
 ·obtain ⟨rfl, rfl⟩ := Qdy HR.out (Qlg (by unfold Qbj; simp; omega))
  go_wp2_with fail
  go_ret2
  exact ⟨rfl, HB.out⟩
 by_cases b3 : ((g.evs.length : Nat) : Int) < g.cells
 ·obtain ⟨rfl, rfl⟩ := Qdy HR.out (Qlg (by unfold Qbj; simp; omega))
  go_wp2_with fail
  go_ret2
  exact ⟨rfl, HB.out⟩
 by_cases b4 : 256 < ((g.evs.length : Nat) : Int)
 ·obtain ⟨rfl, rfl⟩ := Qdy HR.out (Qlg (by unfold Qbj; simp; omega))
  go_wp2_with fail
  go_ret2
  exact ⟨rfl, HB.out⟩
 obtain ⟨nc, hn⟩ : ∃ n : Nat, g.cells = (n : Int) := ⟨g.cells.toNat, by omega⟩
 have h1 : Qbj g = false := by unfold Qbj; simp; omega
 have hl256 : g.evs.length ≤ 256 := by omega
 have hnl : nc ≤ g.evs.length := by omega
 have H1 := Qa h1
 have HN := Qa hn
 obtain ⟨md, HMD⟩ : ∃ md : Int, Hid (md = if q then 11 else 1) := ⟨_, rfl⟩
 go_upto_if 35 with fail
 have hb2 := Blk.new W0 34 #[.int .i64 (-1), .int .i64 2, .int .i64 0, .int .u64 0, .int .i64 1]
 have hB2 : Below W0.heap.size W0 (W0.alloc (.cells #[.int .i64 (-1), .int .i64 2, .int .i64 0, .int .u64 0, .int .i64 1] 34)) := (Below.refl _ _).alloc (Nat.le_refl _) _
 have HX2 := Qa hb2
 have HY2 := Qa hB2
 have f4 := hb2.frozen 4
 have z4 := hb2.cell (j := 4) rfl
 clear hb2 hB2 c0 c1 h1 hn b1 b2 b3 b4
 generalize W0.alloc (.cells #[.int .i64 (-1), .int .i64 2, .int .i64 0, .int .u64 0, .int .i64 1] 34) = W1 at *
 go_cut [35] (fun v35 wx => Hid (v35 = v35) ∧ Hid (Blk wx W0.heap.size 34 #[.int .i64 (-1), .int .i64 2, .int .i64 0, .int .u64 0, .int .i64 md]) ∧ Hid (Below W0.heap.size W0 wx))
 case first =>
  cases q
  ·obtain rfl : md = 1 := HMD.out
   go_wp2_with fail
   go_meet
   case rel => exact ⟨trivial, HX2.out, HY2.out⟩
  ·obtain rfl : md = 11 := HMD.out
   go_wp2_with fail
   go_meet
   case rel => exact ⟨trivial, HX2.out.set 4 _, HY2.out.setCell (Nat.le_refl _) _⟩
 case rest =>
 obtain ⟨_, HXC, HYC⟩ := hcut
 generalize hwc : wc = W2 at *
 clear hwc z4 f4 HX2 HY2
 go_wp2_with fail
 go_loopg [7] nc (fun f v7 wr => ∃ c : Nat, v7 = .int .i64 ((c : Nat) : Int) ∧ c ≤ nc ∧ Hid (c + f = nc) ∧ Hid (∀ j, 0 ≤ j → j < c → @decide (g.ev j ≠ Qdt j q) (Ev.ndec _ _) = false) ∧ (∃ lv : Int, Hid (Blk wr W0.heap.size 34 #[.int .i64 (-1), .int .i64 2, .int .i64 lv, .int .u64 0, .int .i64 md])) ∧ Hid (Below W0.heap.size W0 wr))
 case atStart => exact ⟨0, rfl, Nat.zero_le _, Nat.zero_add _, (fun j h1 h2 => by omega), ⟨0, HXC⟩, HYC⟩
 case round =>
  obtain ⟨c, rfl, hcn, HKF, HALL, ⟨lv, HE⟩, HW⟩ := hrel
  generalize hwa : wr = wa at *
  clear hwa
  have HBW : Hid (Below w.heap.size w wa) := Qaa HB.out HB.out.size HW.out
  have HGa := Qa (HG.out.of_below HW.out)
  have c0 : wa.cell? ⟨w.heap.size, 0, none⟩ = some (.int .i64 ((nc : Nat) : Int)) := by rw [← HN.out]; exact HGa.out.cell rfl
  have C0 : (0 : Int) ≤ ((c : Nat) : Int) := by omega
  by_cases hlt : c < nc
  ·have C1 : ((c : Nat) : Int) < ((nc : Nat) : Int) := by omega
   have C2 : ((c : Nat) : Int) < ((g.evs.length : Nat) : Int) := by omega
   have z2 : wa.cell? ⟨W0.heap.size, 2, none⟩ = some (.int .i64 lv) := HE.out.cell rfl
   have f2 := HE.out.frozen 2
   go_upto_region 10 with fail
   have HE2 := Qa (HE.out.set 2 (.int .i64 ((c : Nat) : Int)))
   have HW2 : Hid (Below W0.heap.size W0 (wa.setCell ⟨W0.heap.size, 2, none⟩ (.int .i64 ((c : Nat) : Int)))) := HW.out.setCell (Nat.le_refl _) _
   clear z2 f2 c0
   generalize wa.setCell ⟨W0.heap.size, 2, none⟩ (.int .i64 ((c : Nat) : Int)) = wy at *
   have HBY : Hid (Below w.heap.size w wy) := Qaa HB.out HB.out.size HW2.out
   obtain ⟨s, o, rfl, hat⟩ := HP.out (by omega)
   have hat' := hat.below HBY.out
   have he := Gr.ev_at (g := g) (i := c) (by omega)
   have x0 := hat'.c0 c _ he
   have x1 := hat'.c1 c _ he
   have x2 := hat'.c2 c _ he
   have x3 := hat'.c3 c _ he
   have x4 := hat'.c4 c _ he
   have c1 : wy.cell? ⟨w.heap.size, 1, none⟩ = some (.slice (some ⟨s, o, none⟩) g.evs.length ce) := (HG.out.of_below HW2.out).cell rfl
   have y0 : wy.cell? ⟨W0.heap.size, 0, none⟩ = some (.int .i64 (-1)) := HE2.out.cell rfl
   have y1 : wy.cell? ⟨W0.heap.size, 1, none⟩ = some (.int .i64 2) := HE2.out.cell rfl
   have y2 : wy.cell? ⟨W0.heap.size, 2, none⟩ = some (.int .i64 ((c : Nat) : Int)) := HE2.out.cell rfl
   have y3 : wy.cell? ⟨W0.heap.size, 3, none⟩ = some (.int .u64 0) := HE2.out.cell rfl
   have y4 : wy.cell? ⟨W0.heap.size, 4, none⟩ = some (.int .i64 md) := HE2.out.cell rfl
   have HI : Hid (g.ev c = Qdt c q ↔ (g.ev c).t = -1 ∧ (g.ev c).k = 2 ∧ (g.ev c).l = (c : Int) ∧ (g.ev c).v = 0 ∧ (g.ev c).m = md) := by rw [Hid, Qdt, Qzh, HMD.out]
   clear he hat hat'
   generalize hge : g.ev c = ek at *
   have HGE := Qa hge
   clear hge
   obtain ⟨et, ek', el, ev, em⟩ := ek
   dsimp only at x0 x1 x2 x3 x4 HI
   by_cases hq : et = -1 ∧ ek' = 2 ∧ el = (c : Int) ∧ ev = 0 ∧ em = md
   ·have HQ := Qa hq
    obtain ⟨rfl, rfl, rfl, rfl, rfl⟩ := hq
    go_quiet (fail)
    go_wp2_with fail
    go_roundg (nc - (c + 1))
    case measure => have := HKF.out; omega
    case rel =>
     refine ⟨c + 1, by go_num, by omega, by have := HKF.out; rw [Hid]; omega, fun j h1 h2 => ?_, ⟨_, HE2.out⟩, Qac HW2.out _⟩
     by_cases e : j = c
     ·subst e
      rw [HGE.out]
      exact @decide_eq_false _ (Ev.ndec _ _) (fun h => h (HI.out.2 HQ.out))
     ·exact HALL.out j h1 (by omega)
   ·have H2E : Hid (Qc1 g q = ((c : Nat) : Int)) := by
     rw [Hid, Qc1, HN.out, Int.toNat_natCast]
     refine Qbe (Nat.zero_le _) (by omega) HALL.out ?_
     rw [HGE.out]
     exact @decide_eq_true _ (Ev.ndec _ _) (fun e => hq (HI.out.1 e))
    obtain ⟨rfl, rfl⟩ := Qdy HR.out (QE H1.out H2E.out (by omega))
    have HQ := Qa hq
    clear hq
    by_cases e1 : et = -1
    case neg =>
     go_quiet (fail)
     go_wp2_with fail
     go_ret2
     exact ⟨rfl, Qac HBY.out _⟩
    subst e1
    by_cases e2 : ek' = 2
    case neg =>
     go_quiet (fail)
     go_wp2_with fail
     go_ret2
     exact ⟨rfl, Qac HBY.out _⟩
    subst e2
    by_cases e3 : el = ((c : Nat) : Int)
    case neg =>
     go_quiet (fail)
     go_wp2_with fail
     go_ret2
     exact ⟨rfl, Qac HBY.out _⟩
    subst e3
    by_cases e4 : ev = 0
    case neg =>
     go_quiet (fail)
     go_wp2_with fail
     go_ret2
     exact ⟨rfl, Qac HBY.out _⟩
    subst e4
    by_cases e5 : em = md
    case neg =>
     go_quiet (fail)
     go_wp2_with fail
     go_ret2
     exact ⟨rfl, Qac HBY.out _⟩
    exact absurd ⟨rfl, rfl, rfl, rfl, e5⟩ HQ.out
  ·obtain rfl : c = nc := by omega
   have H2 : Hid (Qc1 g q = -1) := by
    rw [Hid, Qc1, HN.out, Int.toNat_natCast]
    exact Qa7 (fun j h1 h2 => HALL.out j h1 (by omega))
   have H2L := Qa (QGa H1.out H2.out)
   go_wp2_with fail
   clear c0
   go_loopg [8] (g.evs.length - c) (fun f v8 wr => ∃ k : Nat, v8 = .int .i64 ((k : Nat) : Int) ∧ c ≤ k ∧ k ≤ g.evs.length ∧ Hid (k + f = g.evs.length) ∧ Hid (∀ j, c ≤ j → j < k → (!Qbx g.cells (g.ev j) q) = false) ∧ Hid (Below W0.heap.size W0 wr))
   case atStart => exact ⟨c, rfl, Nat.le_refl _, hnl, by rw [Hid]; omega, (fun j h1 h2 => by omega), HW.out⟩
   case round =>
    obtain ⟨k, rfl, hk0, hk, HKG, HALL3, HW3⟩ := hrel
    generalize hwb : wr = wb at *
    clear hwb
    have HBb : Hid (Below w.heap.size w wb) := Qaa HB.out HB.out.size HW3.out
    have HGb := Qa (HG.out.of_below HW3.out)
    have c1 : wb.cell? ⟨w.heap.size, 1, none⟩ = some (.slice pe g.evs.length ce) := HGb.out.cell rfl
    have K0 : (0 : Int) ≤ ((k : Nat) : Int) := by omega
    by_cases hlt2 : k < g.evs.length
    ·have K1 : ((k : Nat) : Int) < ((g.evs.length : Nat) : Int) := by omega
     go_upto_region 15 with fail
     clear c1
     obtain ⟨s, o, rfl, hat⟩ := HP.out (by omega)
     have HAT := Qa (hat.below HBb.out)
     have HC0 := Qa (Qp7 ⟨.slice (some ⟨s, o, none⟩) g.evs.length ce, Vr, Vc, Vm, .slice p5 g.addr.length k5, .slice p6 g.dat.length k6, .slice p7 g.ctrl.length k7⟩ g (g.ev k) q wb.drew)
     unfold GrV.val Ev.val at HC0
     dsimp only at HC0
     have HE3 := Qa (Gr.ev_at hlt2)
     generalize hev : g.ev k = ek at *
     obtain ⟨et, ek', el, ev, em⟩ := ek
     have HZ : Hid (∀ W, Below wb.heap.size wb W → W.cell? ⟨w.heap.size, 0, none⟩ = some (.int .i64 g.cells) ∧ W.cell? ⟨w.heap.size, 1, none⟩ = some (.slice (some ⟨s, o, none⟩) g.evs.length ce) ∧ W.cell? ⟨w.heap.size, 2, none⟩ = some (Vr) ∧ W.cell? ⟨w.heap.size, 3, none⟩ = some (Vc) ∧ W.cell? ⟨w.heap.size, 4, none⟩ = some (Vm) ∧ W.cell? ⟨w.heap.size, 5, none⟩ = some (.slice p5 g.addr.length k5) ∧ W.cell? ⟨w.heap.size, 6, none⟩ = some (.slice p6 g.dat.length k6) ∧ W.cell? ⟨w.heap.size, 7, none⟩ = some (.slice p7 g.ctrl.length k7) ∧ W.cell? ⟨s, o + k * 5, none⟩ = some (.int .i64 et) ∧ W.cell? ⟨s, o + k * 5 + 1, none⟩ = some (.int .i64 ek') ∧ W.cell? ⟨s, o + k * 5 + 2, none⟩ = some (.int .i64 el) ∧ W.cell? ⟨s, o + k * 5 + 3, none⟩ = some (.int .u64 ev) ∧ W.cell? ⟨s, o + k * 5 + 4, none⟩ = some (.int .i64 em)) := fun W hW => ⟨(HGb.out.of_below hW).cell rfl, (HGb.out.of_below hW).cell rfl, (HGb.out.of_below hW).cell rfl, (HGb.out.of_below hW).cell rfl, (HGb.out.of_below hW).cell rfl, (HGb.out.of_below hW).cell rfl, (HGb.out.of_below hW).cell rfl, (HGb.out.of_below hW).cell rfl, (HAT.out.below hW).c0 k _ HE3.out, (HAT.out.below hW).c1 k _ HE3.out, (HAT.out.below hW).c2 k _ HE3.out, (HAT.out.below hW).c3 k _ HE3.out, (HAT.out.below hW).c4 k _ HE3.out⟩
     have HEV := Qa hev
     clear hev hat
     generalize hgbn : w.heap.size = gb at *
     generalize hcl : g.cells = cl at *
     dsimp only at HC0
     cases hok : Qbx cl ⟨et, ek', el, ev, em⟩ q
     ·rw [hok] at HC0
      have HC := HC0
      have H3E : Hid (Qd5 g q = ((k : Nat) : Int)) := by
       rw [Hid, Qd5, hcl, HN.out, Int.toNat_natCast]
       refine Qbe hk0 (by omega) (fun j h1 h2 => by have := HALL3.out j h1 h2; rwa [HN.out] at this) ?_
       rw [HEV.out, ← HN.out, hok]
       rfl
      obtain ⟨rfl, rfl⟩ := Qdy HR.out (Qkv (k := 2) (by omega) H2L.out (show rl g q 2 = _ from H3E.out) (by omega))
      clear HC0 hok
      refine wp_region_held_drew (S := (fun w' => w'.cell? ⟨gb, 0, none⟩ = some (.int .i64 cl) ∧ w'.cell? ⟨gb, 1, none⟩ = some (.slice (some ⟨s, o, none⟩) g.evs.length ce) ∧ w'.cell? ⟨gb, 2, none⟩ = some (Vr) ∧ w'.cell? ⟨gb, 3, none⟩ = some (Vc) ∧ w'.cell? ⟨gb, 4, none⟩ = some (Vm) ∧ w'.cell? ⟨gb, 5, none⟩ = some (.slice p5 g.addr.length k5) ∧ w'.cell? ⟨gb, 6, none⟩ = some (.slice p6 g.dat.length k6) ∧ w'.cell? ⟨gb, 7, none⟩ = some (.slice p7 g.ctrl.length k7) ∧ w'.cell? ⟨s, o + k * 5, none⟩ = some (.int .i64 et) ∧ w'.cell? ⟨s, o + k * 5 + 1, none⟩ = some (.int .i64 ek') ∧ w'.cell? ⟨s, o + k * 5 + 2, none⟩ = some (.int .i64 el) ∧ w'.cell? ⟨s, o + k * 5 + 3, none⟩ = some (.int .u64 ev) ∧ w'.cell? ⟨s, o + k * 5 + 4, none⟩ = some (.int .i64 em))) (by kernel_rfl) (HZ.out _ (Below.refl _ _).drew) (fun hHeld => ?_)
      refine tk 0 rfl ?_; simp only [zz]
      refine tk 1 rfl ?_; simp only [zz]
      refine tk 2 rfl ?_; simp only [zz]
      refine tk 3 rfl ?_; simp only [zz]
      refine tk 4 rfl ?_; simp only [zz]
      refine tk 5 rfl ?_; simp only [zz]
      refine tk 6 rfl ?_; simp only [zz]
      refine wpAnyH_ready (rs := [7]) (by kernel_rfl) (by simp) ?_
      refine AllReadyH.cons rfl (fun K hK => ?_) AllReadyH.nil
      simp only [z1, z2, z3]
      go_simp
      refine HC.out.mono ?_
      rintro e w5 ⟨rfl, hB5⟩
      have hX5 : Below wb.heap.size wb w5 := ((Below.refl wb.heap.size wb).drew).trans hB5
      refine hK.out _ _ (HZ.out w5 hX5) (fun hHeld => ?_)
      clear hK K
      try simp only [zz]
      refine tk 8 rfl ?_; simp only [zz]
      refine wpAnyH_done (by kernel_rfl) ?_ _
      go_wp2_with fail
      go_ret2
      exact ⟨rfl, by rw [hgbn]; exact HBb.out.trans (hX5.mono (by rw [← hgbn]; exact HBb.out.size))⟩
     ·rw [hok] at HC0
      have HC := HC0
      have HOK := Qa hok
      clear HC0 hok
      refine wp_region_held_drew (S := (fun w' => w'.cell? ⟨gb, 0, none⟩ = some (.int .i64 cl) ∧ w'.cell? ⟨gb, 1, none⟩ = some (.slice (some ⟨s, o, none⟩) g.evs.length ce) ∧ w'.cell? ⟨gb, 2, none⟩ = some (Vr) ∧ w'.cell? ⟨gb, 3, none⟩ = some (Vc) ∧ w'.cell? ⟨gb, 4, none⟩ = some (Vm) ∧ w'.cell? ⟨gb, 5, none⟩ = some (.slice p5 g.addr.length k5) ∧ w'.cell? ⟨gb, 6, none⟩ = some (.slice p6 g.dat.length k6) ∧ w'.cell? ⟨gb, 7, none⟩ = some (.slice p7 g.ctrl.length k7) ∧ w'.cell? ⟨s, o + k * 5, none⟩ = some (.int .i64 et) ∧ w'.cell? ⟨s, o + k * 5 + 1, none⟩ = some (.int .i64 ek') ∧ w'.cell? ⟨s, o + k * 5 + 2, none⟩ = some (.int .i64 el) ∧ w'.cell? ⟨s, o + k * 5 + 3, none⟩ = some (.int .u64 ev) ∧ w'.cell? ⟨s, o + k * 5 + 4, none⟩ = some (.int .i64 em))) (by kernel_rfl) (HZ.out _ (Below.refl _ _).drew) (fun hHeld => ?_)
      refine tk 0 rfl ?_; simp only [zz]
      refine tk 1 rfl ?_; simp only [zz]
      refine tk 2 rfl ?_; simp only [zz]
      refine tk 3 rfl ?_; simp only [zz]
      refine tk 4 rfl ?_; simp only [zz]
      refine tk 5 rfl ?_; simp only [zz]
      refine tk 6 rfl ?_; simp only [zz]
      refine wpAnyH_ready (rs := [7]) (by kernel_rfl) (by simp) ?_
      refine AllReadyH.cons rfl (fun K hK => ?_) AllReadyH.nil
      simp only [z1, z2, z3]
      go_simp
      refine HC.out.mono ?_
      rintro e w5 ⟨rfl, hB5⟩
      have hX5 : Below wb.heap.size wb w5 := ((Below.refl wb.heap.size wb).drew).trans hB5
      refine hK.out _ _ (HZ.out w5 hX5) (fun hHeld => ?_)
      clear hK K
      try simp only [zz]
      refine tk 8 rfl ?_; simp only [zz]
      refine wpAnyH_done (by kernel_rfl) ?_ _
      go_wp2_with fail
      go_roundg (g.evs.length - (k + 1))
      case measure => have := HKG.out; omega
      case rel =>
       refine ⟨k + 1, by go_num, by omega, by omega, by have := HKG.out; rw [Hid]; omega, fun j h1 h2 => ?_, HW3.out.trans (hX5.mono HW3.out.size)⟩
       by_cases e : j = k
       ·subst e; rw [HEV.out, HOK.out]; rfl
       ·exact HALL3.out j h1 (by omega)
    ·obtain rfl : k = g.evs.length := by omega
     have H3 : Hid (Qd5 g q = -1) := by
      rw [Hid, Qd5, HN.out, Int.toNat_natCast]
      exact Qa7 (fun j h1 h2 => by have := HALL3.out j h1 (by omega); rwa [HN.out] at this)
     have H3L := Qa (Qif H2L.out (show rl g q 2 = _ from H3.out))
     clear c1 K0
     have c0 : wb.cell? ⟨w.heap.size, 0, none⟩ = some (.int .i64 g.cells) := HGb.out.cell rfl
     have c1 : wb.cell? ⟨w.heap.size, 1, none⟩ = some (.slice pe g.evs.length ce) := HGb.out.cell rfl
     have c2 : wb.cell? ⟨w.heap.size, 2, none⟩ = some (Vr) := HGb.out.cell rfl
     have c3 : wb.cell? ⟨w.heap.size, 3, none⟩ = some (Vc) := HGb.out.cell rfl
     have c4 : wb.cell? ⟨w.heap.size, 4, none⟩ = some (Vm) := HGb.out.cell rfl
     have c5 : wb.cell? ⟨w.heap.size, 5, none⟩ = some (.slice p5 g.addr.length k5) := HGb.out.cell rfl
     have c6 : wb.cell? ⟨w.heap.size, 6, none⟩ = some (.slice p6 g.dat.length k6) := HGb.out.cell rfl
     have c7 : wb.cell? ⟨w.heap.size, 7, none⟩ = some (.slice p7 g.ctrl.length k7) := HGb.out.cell rfl
     have HD4 := Qa (Qvx ⟨.slice pe g.evs.length ce, Vr, Vc, Vm, .slice p5 g.addr.length k5, .slice p6 g.dat.length k6, .slice p7 g.ctrl.length k7⟩ g wb (H.out.below HBb.out) hl256)
     unfold GrV.val at HD4
     dsimp only at HD4
     obtain ⟨x4, hx4⟩ : ∃ x, Qeh g = x := ⟨_, rfl⟩
     have HX4 := Qa hx4
     have T4 := QBp g
     rw [hx4] at HD4 T4
     clear hx4
     go_wp2_with fail
     refine HD4.out.mono ?_
     rintro e w4 ⟨rfl, hD4⟩
     clear c0 c1 c2 c3 c4 c5 c6 c7
     have HB4 : Hid (Below w.heap.size w w4) := Qaa HBb.out HBb.out.size hD4
     have HV4 : Hid (Below W0.heap.size W0 w4) := Qaa HW3.out HW3.out.size hD4
     have HG4 := Qa (HG.out.of_below HV4.out)
     by_cases n4 : x4 = -1
     case neg =>
      have t4 : (0 : Int) ≤ x4 := T4.resolve_left n4
      obtain ⟨rfl, rfl⟩ := Qdy HR.out (Qkv (k := 3) (by omega) H3L.out (show rl g q 3 = _ from HX4.out) n4)
      clear T4 n4
      go_wp2_with fail
      go_ret2
      exact ⟨rfl, HB4.out⟩
     subst n4
     have H4L := Qa (Qif H3L.out (show rl g q 3 = _ from HX4.out))
     clear T4
     have c0 : w4.cell? ⟨w.heap.size, 0, none⟩ = some (.int .i64 g.cells) := HG4.out.cell rfl
     have c1 : w4.cell? ⟨w.heap.size, 1, none⟩ = some (.slice pe g.evs.length ce) := HG4.out.cell rfl
     have c2 : w4.cell? ⟨w.heap.size, 2, none⟩ = some (Vr) := HG4.out.cell rfl
     have c3 : w4.cell? ⟨w.heap.size, 3, none⟩ = some (Vc) := HG4.out.cell rfl
     have c4 : w4.cell? ⟨w.heap.size, 4, none⟩ = some (Vm) := HG4.out.cell rfl
     have c5 : w4.cell? ⟨w.heap.size, 5, none⟩ = some (.slice p5 g.addr.length k5) := HG4.out.cell rfl
     have c6 : w4.cell? ⟨w.heap.size, 6, none⟩ = some (.slice p6 g.dat.length k6) := HG4.out.cell rfl
     have c7 : w4.cell? ⟨w.heap.size, 7, none⟩ = some (.slice p7 g.ctrl.length k7) := HG4.out.cell rfl
     have HD5 := Qa (Qw6 ⟨.slice pe g.evs.length ce, Vr, Vc, Vm, .slice p5 g.addr.length k5, .slice p6 g.dat.length k6, .slice p7 g.ctrl.length k7⟩ g q w4 (H.out.below HB4.out) H1.out H2.out)
     unfold GrV.val at HD5
     dsimp only at HD5
     obtain ⟨x5, hx5⟩ : ∃ x, Qdf g = x := ⟨_, rfl⟩
     have HX5 := Qa hx5
     have T5 := QBq H1.out
     rw [hx5] at HD5 T5
     clear hx5
     go_wp2_with fail
     refine HD5.out.mono ?_
     rintro e w5 ⟨rfl, hD5⟩
     clear c0 c1 c2 c3 c4 c5 c6 c7
     have HB5 : Hid (Below w.heap.size w w5) := Qaa HB4.out HB4.out.size hD5
     have HV5 : Hid (Below W0.heap.size W0 w5) := Qaa HV4.out HV4.out.size hD5
     have HG5 := Qa (HG.out.of_below HV5.out)
     by_cases n5 : x5 = -1
     case neg =>
      have t5 : (0 : Int) ≤ x5 := T5.resolve_left n5
      obtain ⟨rfl, rfl⟩ := Qdy HR.out (Qkv (k := 4) (by omega) H4L.out (show rl g q 4 = _ from HX5.out) n5)
      clear T5 n5
      go_wp2_with fail
      go_ret2
      exact ⟨rfl, HB5.out⟩
     subst n5
     have H5L := Qa (Qif H4L.out (show rl g q 4 = _ from HX5.out))
     clear T5
     have c0 : w5.cell? ⟨w.heap.size, 0, none⟩ = some (.int .i64 g.cells) := HG5.out.cell rfl
     have c1 : w5.cell? ⟨w.heap.size, 1, none⟩ = some (.slice pe g.evs.length ce) := HG5.out.cell rfl
     have c2 : w5.cell? ⟨w.heap.size, 2, none⟩ = some (Vr) := HG5.out.cell rfl
     have c3 : w5.cell? ⟨w.heap.size, 3, none⟩ = some (Vc) := HG5.out.cell rfl
     have c4 : w5.cell? ⟨w.heap.size, 4, none⟩ = some (Vm) := HG5.out.cell rfl
     have c5 : w5.cell? ⟨w.heap.size, 5, none⟩ = some (.slice p5 g.addr.length k5) := HG5.out.cell rfl
     have c6 : w5.cell? ⟨w.heap.size, 6, none⟩ = some (.slice p6 g.dat.length k6) := HG5.out.cell rfl
     have c7 : w5.cell? ⟨w.heap.size, 7, none⟩ = some (.slice p7 g.ctrl.length k7) := HG5.out.cell rfl
     have HD6 := Qa (Qtv ⟨.slice pe g.evs.length ce, Vr, Vc, Vm, .slice p5 g.addr.length k5, .slice p6 g.dat.length k6, .slice p7 g.ctrl.length k7⟩ g w5 (H.out.below HB5.out) hl256 (Qy9 H2.out H3.out))
     unfold GrV.val at HD6
     dsimp only at HD6
     obtain ⟨x6, hx6⟩ : ∃ x, Qeu g = x := ⟨_, rfl⟩
     have HX6 := Qa hx6
     have T6 := QBr g
     rw [hx6] at HD6 T6
     clear hx6
     go_wp2_with fail
     refine HD6.out.mono ?_
     rintro e w6 ⟨rfl, hD6⟩
     clear c0 c1 c2 c3 c4 c5 c6 c7
     have HB6 : Hid (Below w.heap.size w w6) := Qaa HB5.out HB5.out.size hD6
     have HV6 : Hid (Below W0.heap.size W0 w6) := Qaa HV5.out HV5.out.size hD6
     have HG6 := Qa (HG.out.of_below HV6.out)
     by_cases n6 : x6 = -1
     case neg =>
      have t6 : (0 : Int) ≤ x6 := T6.resolve_left n6
      obtain ⟨rfl, rfl⟩ := Qdy HR.out (Qkv (k := 5) (by omega) H5L.out (show rl g q 5 = _ from HX6.out) n6)
      clear T6 n6
      go_wp2_with fail
      go_ret2
      exact ⟨rfl, HB6.out⟩
     subst n6
     have H6L := Qa (Qif H5L.out (show rl g q 5 = _ from HX6.out))
     clear T6
     have c5 : w6.cell? ⟨w.heap.size, 5, none⟩ = some (.slice p5 g.addr.length k5) := HG6.out.cell rfl
     have c6 : w6.cell? ⟨w.heap.size, 6, none⟩ = some (.slice p6 g.dat.length k6) := HG6.out.cell rfl
     have c7 : w6.cell? ⟨w.heap.size, 7, none⟩ = some (.slice p7 g.ctrl.length k7) := HG6.out.cell rfl
     go_upto_region 28 with fail
     have hbs := Blk.new w6 24 #[.slice p5 g.addr.length k5, .slice p6 g.dat.length k6, .slice p7 g.ctrl.length k7]
     have hBs : Below w6.heap.size w6 (w6.alloc (.cells #[.slice p5 g.addr.length k5, .slice p6 g.dat.length k6, .slice p7 g.ctrl.length k7] 24)) := (Below.refl _ _).alloc (Nat.le_refl _) _
     have HS := Qa hbs
     have HV7 : Hid (Below W0.heap.size W0 (w6.alloc (.cells #[.slice p5 g.addr.length k5, .slice p6 g.dat.length k6, .slice p7 g.ctrl.length k7] 24))) := Qaa HV6.out HV6.out.size hBs
     have HB7 : Hid (Below w.heap.size w (w6.alloc (.cells #[.slice p5 g.addr.length k5, .slice p6 g.dat.length k6, .slice p7 g.ctrl.length k7] 24))) := Qaa HB6.out HB6.out.size hBs
     clear hbs hBs c5 c6 c7 hD4 hD5 hD6
     generalize w6.alloc (.cells #[.slice p5 g.addr.length k5, .slice p6 g.dat.length k6, .slice p7 g.ctrl.length k7] 24) = W7 at *
     generalize w6.heap.size = bs at *
     go_loopg [11] 3 (fun f v11 wr => ∃ k : Nat, v11 = .int .i64 ((k : Nat) : Int) ∧ k ≤ 3 ∧ Hid (k + f = 3) ∧ Hid (∀ j, j < 6 + k → rl g q j = -1) ∧ Hid (Below W7.heap.size W7 wr))
     case atStart => exact ⟨0, rfl, by omega, rfl, H6L.out, Below.refl _ _⟩
     case round =>
      obtain ⟨k, rfl, hk3, HKH, HRL, HW8⟩ := hrel
      clear HBb HGb HW3
      generalize hwb2 : wr = wb at *
      clear hwb2
      have HBb : Hid (Below w.heap.size w wb) := Qaa HB7.out HB7.out.size HW8.out
      have HGb := Qa (HG.out.of_below (Qaa HV7.out HV7.out.size HW8.out))
      have HSb := Qa (HS.out.of_below HW8.out)
      have K0 : (0 : Int) ≤ ((k : Nat) : Int) := by omega
      by_cases hlt3 : k < 3
      ·have K1 : ((k : Nat) : Int) < 3 := by omega
       obtain ⟨pk, lk, ck, ks, hck, hpk, hwk, hrk, hlk⟩ : ∃ (pk : Option Addr) (lk : List (Int × Int)) (ck : Nat) (ks : List Int), (#[.slice p5 g.addr.length k5, .slice p6 g.dat.length k6, .slice p7 g.ctrl.length k7] : Array Value)[k]? = some (.slice pk lk.length ck) ∧ PArg w (.slice pk lk.length ck) lk ∧ QBo (7 + ((k : Nat) : Int)) ks ∧ rl g q (6 + k) = Qd4 g.evs q lk ks ∧ lk.length ≤ 9223372036854775807 := by
        obtain rfl | rfl | rfl : k = 0 ∨ k = 1 ∨ k = 2 := by omega
        ·exact ⟨p5, g.addr, k5, [1, 2], rfl, H.out.addr, .inl ⟨rfl, rfl⟩, rfl, hl5⟩
        ·exact ⟨p6, g.dat, k6, [2], rfl, H.out.dat, .inr (.inl ⟨rfl, rfl⟩), rfl, hl6⟩
        ·exact ⟨p7, g.ctrl, k7, [1, 2, 3], rfl, H.out.ctrl, .inr (.inr ⟨rfl, rfl⟩), rfl, hl7⟩
       have HRK := Qa hrk
       have HC := Qa (Qsn ⟨.slice pe g.evs.length ce, Vr, Vc, Vm, .slice p5 g.addr.length k5, .slice p6 g.dat.length k6, .slice p7 g.ctrl.length k7⟩ g (.slice pk lk.length ck) lk (7 + ((k : Nat) : Int)) ks wb.drew (H.out.below HBb.out.drew) (hpk.below HBb.out.drew) hl256 (Qy9 H2.out H3.out) (QF8 H2.out H3.out) hwk)
       unfold GrV.val at HC
       dsimp only at HC
       obtain ⟨xd, hxd⟩ : ∃ x, Qd4 g.evs true lk ks = x := ⟨_, rfl⟩
       have HXD := Qa hxd
       have TD : Hid (xd = -1 ∨ 0 ≤ xd) := by rw [Hid, ← hxd]; exact Qi6
       rw [hxd] at HC
       have HZ : Hid (∀ W, Below wb.heap.size wb W → W.cell? ⟨w.heap.size, 0, none⟩ = some (.int .i64 g.cells) ∧ W.cell? ⟨w.heap.size, 1, none⟩ = some (.slice pe g.evs.length ce) ∧ W.cell? ⟨w.heap.size, 2, none⟩ = some (Vr) ∧ W.cell? ⟨w.heap.size, 3, none⟩ = some (Vc) ∧ W.cell? ⟨w.heap.size, 4, none⟩ = some (Vm) ∧ W.cell? ⟨w.heap.size, 5, none⟩ = some (.slice p5 g.addr.length k5) ∧ W.cell? ⟨w.heap.size, 6, none⟩ = some (.slice p6 g.dat.length k6) ∧ W.cell? ⟨w.heap.size, 7, none⟩ = some (.slice p7 g.ctrl.length k7) ∧ W.cell? ⟨bs, k, none⟩ = some (.slice pk lk.length ck)) := fun W hW => ⟨(HGb.out.of_below hW).cell rfl, (HGb.out.of_below hW).cell rfl, (HGb.out.of_below hW).cell rfl, (HGb.out.of_below hW).cell rfl, (HGb.out.of_below hW).cell rfl, (HGb.out.of_below hW).cell rfl, (HGb.out.of_below hW).cell rfl, (HGb.out.of_below hW).cell rfl, (HSb.out.of_below hW).cell hck⟩
       have W7k : IntKind.i64.wrap (7 + ((k : Nat) : Int)) = 7 + ((k : Nat) : Int) := by
        have := Qe3 (j := 7 + k) (by omega)
        rwa [Int.natCast_add] at this
       clear hxd hrk hwk hpk hck
       go_upto_region 30 with fail
       generalize hgbn : w.heap.size = gb at *
       generalize hcl : g.cells = cl at *
       refine wp_region_held_drew (S := (fun w' => w'.cell? ⟨gb, 0, none⟩ = some (.int .i64 cl) ∧ w'.cell? ⟨gb, 1, none⟩ = some (.slice pe g.evs.length ce) ∧ w'.cell? ⟨gb, 2, none⟩ = some (Vr) ∧ w'.cell? ⟨gb, 3, none⟩ = some (Vc) ∧ w'.cell? ⟨gb, 4, none⟩ = some (Vm) ∧ w'.cell? ⟨gb, 5, none⟩ = some (.slice p5 g.addr.length k5) ∧ w'.cell? ⟨gb, 6, none⟩ = some (.slice p6 g.dat.length k6) ∧ w'.cell? ⟨gb, 7, none⟩ = some (.slice p7 g.ctrl.length k7) ∧ w'.cell? ⟨bs, k, none⟩ = some (.slice pk lk.length ck))) (by kernel_rfl) (HZ.out _ (Below.refl _ _).drew) (fun hHeld => ?_)
       refine tk 0 rfl ?_; simp only [zz]
       refine tk 1 rfl ?_; simp only [zz]
       refine tk 2 rfl ?_; simp only [zz]
       refine tk 3 rfl ?_; simp only [zz]
       refine tk 4 rfl ?_; simp only [zz]
       refine tk 5 rfl ?_; simp only [zz]
       refine tk 6 rfl ?_; simp only [zz]
       refine wpAnyH_ready (rs := [7]) (by kernel_rfl) (by simp) ?_
       refine AllReadyH.cons rfl (fun K hK => ?_) AllReadyH.nil
       simp only [z1, z2, z3]
       go_simp
       refine HC.out.mono ?_
       rintro e w5 ⟨rfl, hB5⟩
       have hX5 : Below wb.heap.size wb w5 := ((Below.refl wb.heap.size wb).drew).trans hB5
       refine hK.out _ _ (HZ.out w5 hX5) (fun hHeld => ?_)
       clear hK K
       try simp only [zz]
       refine tk 8 rfl ?_; simp only [zz]
       refine wpAnyH_done (by kernel_rfl) ?_ _
       have HW9 : Hid (Below W7.heap.size W7 w5) := HW8.out.trans (hX5.mono HW8.out.size)
       have HBX : Hid (Below gb w w5) := HBb.out.trans (hX5.mono (by rw [← hgbn]; exact HBb.out.size))
       have y9 : w5.cell? ⟨bs, k, none⟩ = some (.slice pk lk.length ck) := (HZ.out w5 hX5).2.2.2.2.2.2.2.2
       clear hHeld
       cases q
       ·by_cases l0 : 0 < lk.length
        ·have L1 : (0 : Int) < ((lk.length : Nat) : Int) := by omega
         obtain ⟨rfl, rfl⟩ := Qdy HR.out (Qu6 hlt3 HRL.out (HRK.out.trans (QD9 l0)) (by omega))
         go_wp2_with fail
         go_ret2
         exact ⟨rfl, by first | exact HBX.out | (rw [hgbn]; exact HBX.out)⟩
        ·have L1 : ¬ ((0 : Int) < ((lk.length : Nat) : Int)) := by omega
         obtain rfl : xd = -1 := HXD.out.symm.trans (Qso l0)
         have HRL2 := Qa (Qif HRL.out (HRK.out.trans (Qso l0)))
         go_wp2_with fail
         go_roundg (3 - (k + 1))
         case measure => have := HKH.out; omega
         case rel => exact ⟨k + 1, by go_num, by omega, by have := HKH.out; rw [Hid]; omega, HRL2.out, HW9.out⟩
       ·by_cases nd : xd = -1
        ·subst nd
         have HRL2 := Qa (Qif HRL.out (HRK.out.trans HXD.out))
         go_wp2_with fail
         go_roundg (3 - (k + 1))
         case measure => have := HKH.out; omega
         case rel => exact ⟨k + 1, by go_num, by omega, by have := HKH.out; rw [Hid]; omega, HRL2.out, HW9.out⟩
        ·have td : (0 : Int) ≤ xd := TD.out.resolve_left nd
         obtain ⟨rfl, rfl⟩ := Qdy HR.out (Qu6 hlt3 HRL.out (HRK.out.trans HXD.out) nd)
         clear nd
         go_wp2_with fail
         go_ret2
         exact ⟨rfl, by first | exact HBX.out | (rw [hgbn]; exact HBX.out)⟩
      ·obtain rfl : k = 3 := by omega
       obtain ⟨rfl, rfl⟩ := Qdy HR.out (Qma HRL.out)
       go_wp2_with fail
       go_ret2
       exact ⟨rfl, HBb.out⟩
theorem Qqg (V U : GrV) (g : Gr) (w : World) (h : GrR w V g) (h2 : GrR w U g) : Calls Tryz.prog 24 #[V.val g, U.val g] w fun r w' => r = .returned (.bool true) ∧ Below w.heap.size w w' := by
 obtain ⟨Va1, Va2, Va3, Va4, Va5, Va6, Va7⟩ := V
 obtain ⟨Vb1, Vb2, Vb3, Vb4, Vb5, Vb6, Vb7⟩ := U
 obtain ⟨p1a, k1a, e1a, hea, hxa⟩ := h.ev
 obtain ⟨p2a, k2a, e2a, _, _⟩ := Qab h.rf
 obtain ⟨p4a, k4a, e4a, _, _⟩ := Qab h.rmw
 obtain ⟨p5a, k5a, e5a, _, _⟩ := Qab h.addr
 obtain ⟨p6a, k6a, e6a, _, _⟩ := Qab h.dat
 obtain ⟨p7a, k7a, e7a, _, _⟩ := Qab h.ctrl
 obtain ⟨p3a, k3a, e3a, hcla, hcoa⟩ := Qbd h.co
 dsimp only at e1a e2a e3a e4a e5a e6a e7a
 subst e1a
 subst e2a
 subst e3a
 subst e4a
 subst e5a
 subst e6a
 subst e7a
 have HEa := Qa hea
 have HCa := Qa hcoa
 have Ha := Qa h
 obtain ⟨p1b, k1b, e1b, heb, hxb⟩ := h2.ev
 obtain ⟨p2b, k2b, e2b, _, _⟩ := Qab h2.rf
 obtain ⟨p4b, k4b, e4b, _, _⟩ := Qab h2.rmw
 obtain ⟨p5b, k5b, e5b, _, _⟩ := Qab h2.addr
 obtain ⟨p6b, k6b, e6b, _, _⟩ := Qab h2.dat
 obtain ⟨p7b, k7b, e7b, _, _⟩ := Qab h2.ctrl
 obtain ⟨p3b, k3b, e3b, hclb, hcob⟩ := Qbd h2.co
 dsimp only at e1b e2b e3b e4b e5b e6b e7b
 subst e1b
 subst e2b
 subst e3b
 subst e4b
 subst e5b
 subst e6b
 subst e7b
 have HEb := Qa heb
 have HCb := Qa hcob
 have Hb := Qa h2
 have hlen : g.evs.length ≤ 9223372036854775807 := by omega
 have hB : Below w.heap.size w ((w.alloc (.cells (g8 g p1a k1a p2a k2a p3a k3a p4a k4a p5a k5a p6a k6a p7a k7a) 27)).alloc (.cells (g8 g p1b k1b p2b k2b p3b k3b p4b k4b p5b k5b p6b k6b p7b k7b) 27)) := ((Below.refl _ _).alloc (Nat.le_refl _) _).alloc (by simp) _
 have hba : Blk ((w.alloc (.cells (g8 g p1a k1a p2a k2a p3a k3a p4a k4a p5a k5a p6a k6a p7a k7a) 27)).alloc (.cells (g8 g p1b k1b p2b k2b p3b k3b p4b k4b p5b k5b p6b k6b p7b k7b) 27)) w.heap.size 27 (g8 g p1a k1a p2a k2a p3a k3a p4a k4a p5a k5a p6a k6a p7a k7a) := (Blk.new w 27 (g8 g p1a k1a p2a k2a p3a k3a p4a k4a p5a k5a p6a k6a p7a k7a)).alloc _
 have hbb := Blk.new (w.alloc (.cells (g8 g p1a k1a p2a k2a p3a k3a p4a k4a p5a k5a p6a k6a p7a k7a) 27)) 27 (g8 g p1b k1b p2b k2b p3b k3b p4b k4b p5b k5b p6b k6b p7b k7b)
 rw [World.size_alloc] at hbb
 unfold GrV.val
 dsimp only
 clear h h2 hea heb hcoa hcob hxa hxb
 go_enter Tryz.func24, Tryz.ntmps24
 go_upto_region 1 with fail
 have HB := Qa hB
 have HGa := Qa hba
 have HGb := Qa hbb
 generalize (w.alloc (.cells (g8 g p1a k1a p2a k2a p3a k3a p4a k4a p5a k5a p6a k6a p7a k7a) 27)).alloc (.cells (g8 g p1b k1b p2b k2b p3b k3b p4b k4b p5b k5b p6b k6b p7b k7b) 27) = W0 at *
 clear hba hbb hB
 have c0a : W0.cell? ⟨w.heap.size, 0, none⟩ = some (.int .i64 g.cells) := (HGa.out.of_below (Below.refl _ _)).cell rfl
 have c1a : W0.cell? ⟨w.heap.size, 1, none⟩ = some (.slice p1a g.evs.length k1a) := (HGa.out.of_below (Below.refl _ _)).cell rfl
 have c3a : W0.cell? ⟨w.heap.size, 3, none⟩ = some (.slice p3a g.co.length k3a) := (HGa.out.of_below (Below.refl _ _)).cell rfl
 have c2a : W0.cell? ⟨w.heap.size, 2, none⟩ = some (.slice p2a g.rf.length k2a) := (HGa.out.of_below (Below.refl _ _)).cell rfl
 have c0b : W0.cell? ⟨w.heap.size + 1, 0, none⟩ = some (.int .i64 g.cells) := (HGb.out.of_below (Below.refl _ _)).cell rfl
 have c1b : W0.cell? ⟨w.heap.size + 1, 1, none⟩ = some (.slice p1b g.evs.length k1b) := (HGb.out.of_below (Below.refl _ _)).cell rfl
 have c3b : W0.cell? ⟨w.heap.size + 1, 3, none⟩ = some (.slice p3b g.co.length k3b) := (HGb.out.of_below (Below.refl _ _)).cell rfl
 have c2b : W0.cell? ⟨w.heap.size + 1, 2, none⟩ = some (.slice p2b g.rf.length k2b) := (HGb.out.of_below (Below.refl _ _)).cell rfl
 have qc : (g.cells != g.cells) = false := by simp
 have qe : (((g.evs.length : Nat) : Int) != ((g.evs.length : Nat) : Int)) = false := by simp
 have qo : (((g.co.length : Nat) : Int) != ((g.co.length : Nat) : Int)) = false := by simp
 have D2 := Qa (Qdx (.slice p2a g.rf.length k2a) (.slice p2b g.rf.length k2b) g.rf g.rf W0 (Ha.out.rf.below HB.out) (Hb.out.rf.below HB.out))
 rw [decide_eq_true rfl] at D2
 go_wp2_with fail
 refine D2.out.mono ?_
 rintro e w2 ⟨rfl, hD2⟩
 clear c0a c0b c1a c1b c3a c3b c2a c2b
 have HB2 : Hid (Below w.heap.size w w2) := Qaa HB.out HB.out.size hD2
 have HW2 : Hid (Below W0.heap.size W0 w2) := hD2
 clear hD2
 have D4 := Qa (Qdx (.slice p4a g.rmw.length k4a) (.slice p4b g.rmw.length k4b) g.rmw g.rmw w2 (Ha.out.rmw.below HB2.out) (Hb.out.rmw.below HB2.out))
 rw [decide_eq_true rfl] at D4
 have c4a : w2.cell? ⟨w.heap.size, 4, none⟩ = some (.slice p4a g.rmw.length k4a) := (HGa.out.of_below HW2.out).cell rfl
 have c4b : w2.cell? ⟨w.heap.size + 1, 4, none⟩ = some (.slice p4b g.rmw.length k4b) := (HGb.out.of_below HW2.out).cell rfl
 go_wp2_with fail
 refine D4.out.mono ?_
 rintro e w4 ⟨rfl, hD4⟩
 clear c4a c4b
 have HB4 : Hid (Below w.heap.size w w4) := Qaa HB2.out HB2.out.size hD4
 have HW4 : Hid (Below W0.heap.size W0 w4) := Qaa HW2.out HW2.out.size hD4
 clear hD4
 have D5 := Qa (Qdx (.slice p5a g.addr.length k5a) (.slice p5b g.addr.length k5b) g.addr g.addr w4 (Ha.out.addr.below HB4.out) (Hb.out.addr.below HB4.out))
 rw [decide_eq_true rfl] at D5
 have c5a : w4.cell? ⟨w.heap.size, 5, none⟩ = some (.slice p5a g.addr.length k5a) := (HGa.out.of_below HW4.out).cell rfl
 have c5b : w4.cell? ⟨w.heap.size + 1, 5, none⟩ = some (.slice p5b g.addr.length k5b) := (HGb.out.of_below HW4.out).cell rfl
 go_wp2_with fail
 refine D5.out.mono ?_
 rintro e w5 ⟨rfl, hD5⟩
 clear c5a c5b
 have HB5 : Hid (Below w.heap.size w w5) := Qaa HB4.out HB4.out.size hD5
 have HW5 : Hid (Below W0.heap.size W0 w5) := Qaa HW4.out HW4.out.size hD5
 clear hD5
 have D6 := Qa (Qdx (.slice p6a g.dat.length k6a) (.slice p6b g.dat.length k6b) g.dat g.dat w5 (Ha.out.dat.below HB5.out) (Hb.out.dat.below HB5.out))
 rw [decide_eq_true rfl] at D6
 have c6a : w5.cell? ⟨w.heap.size, 6, none⟩ = some (.slice p6a g.dat.length k6a) := (HGa.out.of_below HW5.out).cell rfl
 have c6b : w5.cell? ⟨w.heap.size + 1, 6, none⟩ = some (.slice p6b g.dat.length k6b) := (HGb.out.of_below HW5.out).cell rfl
 go_wp2_with fail
 refine D6.out.mono ?_
 rintro e w6 ⟨rfl, hD6⟩
 clear c6a c6b
 have HB6 : Hid (Below w.heap.size w w6) := Qaa HB5.out HB5.out.size hD6
 have HW6 : Hid (Below W0.heap.size W0 w6) := Qaa HW5.out HW5.out.size hD6
 clear hD6
 have D7 := Qa (Qdx (.slice p7a g.ctrl.length k7a) (.slice p7b g.ctrl.length k7b) g.ctrl g.ctrl w6 (Ha.out.ctrl.below HB6.out) (Hb.out.ctrl.below HB6.out))
 rw [decide_eq_true rfl] at D7
 have c7a : w6.cell? ⟨w.heap.size, 7, none⟩ = some (.slice p7a g.ctrl.length k7a) := (HGa.out.of_below HW6.out).cell rfl
 have c7b : w6.cell? ⟨w.heap.size + 1, 7, none⟩ = some (.slice p7b g.ctrl.length k7b) := (HGb.out.of_below HW6.out).cell rfl
 go_wp2_with fail
 refine D7.out.mono ?_
 rintro e w7 ⟨rfl, hD7⟩
 clear c7a c7b
 have HB7 : Hid (Below w.heap.size w w7) := Qaa HB6.out HB6.out.size hD7
 have HW7 : Hid (Below W0.heap.size W0 w7) := Qaa HW6.out HW6.out.size hD7
 clear hD7
 go_wp2_with fail
 go_loopg [5] g.evs.length (fun f v5 wr => ∃ i : Nat, v5 = .int .i64 ((i : Nat) : Int) ∧ i ≤ g.evs.length ∧ Hid (i + f = g.evs.length) ∧ Hid (Below W0.heap.size W0 wr))
 case atStart => exact ⟨0, rfl, Nat.zero_le _, Nat.zero_add _, HW7.out⟩
 case round =>
  obtain ⟨i, rfl, hi, HKF, HW⟩ := hrel
  generalize hwx : wr = wx at *
  clear hwx
  have HBx : Hid (Below w.heap.size w wx) := Qaa HB.out HB.out.size HW.out
  have c1a : wx.cell? ⟨w.heap.size, 1, none⟩ = some (.slice p1a g.evs.length k1a) := (HGa.out.of_below HW.out).cell rfl
  have c1b : wx.cell? ⟨w.heap.size + 1, 1, none⟩ = some (.slice p1b g.evs.length k1b) := (HGb.out.of_below HW.out).cell rfl
  have I0 : (0 : Int) ≤ ((i : Nat) : Int) := by omega
  by_cases hil : i < g.evs.length
  ·have I1 : ((i : Nat) : Int) < ((g.evs.length : Nat) : Int) := by omega
   obtain ⟨sa, oa, rfl, hata⟩ := HEa.out (by omega)
   obtain ⟨sb, ob, rfl, hatb⟩ := HEb.out (by omega)
   have hA := hata.below HBx.out
   have hD := hatb.below HBx.out
   have he := Gr.ev_at hil
   have x0 := hA.c0 i _ he
   have x1 := hA.c1 i _ he
   have x2 := hA.c2 i _ he
   have x3 := hA.c3 i _ he
   have x4 := hA.c4 i _ he
   have y0 := hD.c0 i _ he
   have y1 := hD.c1 i _ he
   have y2 := hD.c2 i _ he
   have y3 := hD.c3 i _ he
   have y4 := hD.c4 i _ he
   clear hA hD he hata hatb
   generalize g.ev i = ek at *
   obtain ⟨et, ek', el, ev, em⟩ := ek
   dsimp only at x0 x1 x2 x3 x4 y0 y1 y2 y3 y4
   go_upto_region 6 with fail
   go_quiet (fail)
   go_wp2_with fail
   go_roundg (g.evs.length - (i + 1))
   case measure => have := HKF.out; omega
   case rel => exact ⟨i + 1, by go_num, by omega, by have := HKF.out; rw [Hid]; omega, Qac HW.out _⟩
  ·obtain rfl : i = g.evs.length := by omega
   go_wp2_with fail
   clear c1a c1b I0
   go_loopg [6] g.co.length (fun f v6 wr => ∃ c : Nat, v6 = .int .i64 ((c : Nat) : Int) ∧ c ≤ g.co.length ∧ Hid (c + f = g.co.length) ∧ Hid (Below W0.heap.size W0 wr))
   case atStart => exact ⟨0, rfl, Nat.zero_le _, Nat.zero_add _, HW.out⟩
   case round =>
    obtain ⟨c, rfl, hc, HKG, HV⟩ := hrel
    generalize hwy : wr = wy at *
    clear hwy
    have HBy : Hid (Below w.heap.size w wy) := Qaa HB.out HB.out.size HV.out
    have c3a : wy.cell? ⟨w.heap.size, 3, none⟩ = some (.slice p3a g.co.length k3a) := (HGa.out.of_below HV.out).cell rfl
    have c3b : wy.cell? ⟨w.heap.size + 1, 3, none⟩ = some (.slice p3b g.co.length k3b) := (HGb.out.of_below HV.out).cell rfl
    have C0 : (0 : Int) ≤ ((c : Nat) : Int) := by omega
    by_cases hcl : c < g.co.length
    ·have C1 : ((c : Nat) : Int) < ((g.co.length : Nat) : Int) := by omega
     obtain ⟨l, hl⟩ : ∃ l, g.co[c]? = some l := ⟨_, List.getElem?_eq_getElem hcl⟩
     obtain ⟨sa, oa, ua, rfl, hsa, hua, hia, hll⟩ := HCa.out c l hl
     obtain ⟨sb, ob, ub, rfl, hsb, hub, hib, _⟩ := HCb.out c l hl
     obtain ⟨qa, ma, rfl, hqa⟩ := Qce hia
     obtain ⟨qb, mb, rfl, hqb⟩ := Qce hib
     have x0 : wy.cell? ⟨sa, oa + c, none⟩ = some (.slice qa l.length ma) := (HBy.out.cell (p := ⟨sa, oa + c, none⟩) hsa).trans hua
     have y0 : wy.cell? ⟨sb, ob + c, none⟩ = some (.slice qb l.length mb) := (HBy.out.cell (p := ⟨sb, ob + c, none⟩) hsb).trans hub
     have HQA := Qa hqa
     have HQB := Qa hqb
     have HUA := Qa hua
     have HUB := Qa hub
     clear hl hua hub hia hib hqa hqb
     have ql : (((l.length : Nat) : Int) != ((l.length : Nat) : Int)) = false := by simp
     go_upto_region 11 with fail
     go_quiet (fail)
     go_wp2_with fail
     clear x0 y0 c3a c3b
     go_loopg [7] l.length (fun f v7 wr => ∃ j : Nat, v7 = .int .i64 ((j : Nat) : Int) ∧ j ≤ l.length ∧ Hid (j + f = l.length) ∧ Hid (Below W0.heap.size W0 wr))
     case atStart => exact ⟨0, rfl, Nat.zero_le _, Nat.zero_add _, Qac HV.out _⟩
     case round =>
      obtain ⟨j, rfl, hj, HKH, HU⟩ := hrel
      generalize hwz : wr = wz at *
      clear hwz
      have HBz : Hid (Below w.heap.size w wz) := Qaa HB.out HB.out.size HU.out
      have c3a : wz.cell? ⟨w.heap.size, 3, none⟩ = some (.slice (some ⟨sa, oa, none⟩) g.co.length k3a) := (HGa.out.of_below HU.out).cell rfl
      have c3b : wz.cell? ⟨w.heap.size + 1, 3, none⟩ = some (.slice (some ⟨sb, ob, none⟩) g.co.length k3b) := (HGb.out.of_below HU.out).cell rfl
      have x0 : wz.cell? ⟨sa, oa + c, none⟩ = some (.slice qa l.length ma) := (HBz.out.cell (p := ⟨sa, oa + c, none⟩) hsa).trans HUA.out
      have y0 : wz.cell? ⟨sb, ob + c, none⟩ = some (.slice qb l.length mb) := (HBz.out.cell (p := ⟨sb, ob + c, none⟩) hsb).trans HUB.out
      have J0 : (0 : Int) ≤ ((j : Nat) : Int) := by omega
      by_cases hjl : j < l.length
      ·have J1 : ((j : Nat) : Int) < ((l.length : Nat) : Int) := by omega
       obtain ⟨ta, ra, rfl, hta, hka⟩ := HQA.out (by omega)
       obtain ⟨tb, rb, rfl, htb, hkb⟩ := HQB.out (by omega)
       obtain ⟨x, hx⟩ : ∃ x, l[j]? = some x := ⟨_, List.getElem?_eq_getElem hjl⟩
       have x1 : wz.cell? ⟨ta, ra + j, none⟩ = some (.int .i64 x) := (HBz.out.cell (p := ⟨ta, ra + j, none⟩) hta).trans (hka j x hx)
       have y1 : wz.cell? ⟨tb, rb + j, none⟩ = some (.int .i64 x) := (HBz.out.cell (p := ⟨tb, rb + j, none⟩) htb).trans (hkb j x hx)
       clear hx hka hkb
       have qx : ((x : Int) != x) = false := by simp
       go_upto_region 16 with fail
       go_quiet (fail)
       go_wp2_with fail
       go_roundg (l.length - (j + 1))
       case measure => have := HKH.out; omega
       case rel => exact ⟨j + 1, by go_num, by omega, by have := HKH.out; rw [Hid]; omega, Qac HU.out _⟩
      ·obtain rfl : j = l.length := by omega
       go_wp2_with fail
       go_roundg (g.co.length - (c + 1))
       case measure => have := HKG.out; omega
       case rel => exact ⟨c + 1, by go_num, by omega, by have := HKG.out; rw [Hid]; omega, HU.out⟩
    ·obtain rfl : c = g.co.length := by omega
     go_wp2_with fail
     go_ret
     exact ⟨rfl, HBy.out⟩
end Go.Proofs.YtdkogbfamdnheaaGreatDoor
