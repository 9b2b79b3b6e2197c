import Derived.Test.YtdkogbfamdnheaaGreatDoorEg3
import Derived.Test.YtdkogbfamdnheaaGreatDoorJ26
namespace Go.Proofs.YtdkogbfamdnheaaGreatDoor
open Go.RowKit Go.Shelf Sx
set_option maxRecDepth 100000
set_option maxHeartbeats 16000000
set_option linter.unusedSimpArgs false
set_option linter.unusedVariables false
structure GV where
 t : Nat
 k : Int
 b : Bool
 f : Nat
 p : Int × Int
 e : Ev
def GV.at (t f : Nat) : GV := ⟨t, 0, false, f, (0, 0), Ev.zero⟩
def GV.nu (k : Int) : GV := ⟨1, k, false, 0, (0, 0), Ev.zero⟩
def GV.bo (b : Bool) : GV := ⟨2, 0, b, 0, (0, 0), Ev.zero⟩
def GV.pp (p : Int × Int) : GV := ⟨6, 0, false, 0, p, Ev.zero⟩
def GV.ip (k : Int) : GV := ⟨7, k, false, 0, (0, 0), Ev.zero⟩
def GV.ep (e : Ev) : GV := ⟨8, 0, false, 0, (0, 0), e⟩
structure Gm where
 gb : Nat
 V : GrV
 g : Gr
 v : Value
 l : List (Int × Int)
def Gm.lv (M : Gm) : Nat → Value
 | 1 => M.V.ev
 | 2 => M.V.rf
 | 3 => M.V.co
 | 4 => M.V.rmw
 | 5 => M.V.addr
 | 6 => M.V.dat
 | 7 => M.V.ctrl
 | _ => M.v
def Gm.pl (M : Gm) : Nat → List (Int × Int)
 | 2 => M.g.rf
 | 4 => M.g.rmw
 | 5 => M.g.addr
 | 6 => M.g.dat
 | 7 => M.g.ctrl
 | _ => M.l
def Qjk (f : Nat) : Bool := f == 2 || (f == 4 || (f == 5 || (f == 6 || (f == 7 || f == 20))))
def CellI (w : World) (b o : Nat) (k : Int) : Prop := w.cell? ⟨b, o, none⟩ = some (.int .i64 k)
def GIs (M : Gm) (N : Nat) (w : World) (x : GV) (v : Value) : Prop :=
 match x.t with
 | 1 => v = .int .i64 x.k
 | 2 => v = .bool x.b
 | 3 => v = pv M.gb
 | 4 => v = .pointer (some ⟨M.gb, x.f, none⟩)
 | 5 => v = M.lv x.f
 | 6 => ∃ b o, v = .pointer (some ⟨b, o, none⟩) ∧ b < w.heap.size ∧ CellI w b o x.p.1 ∧ CellI w b (o + 1) x.p.2
 | 7 => ∃ b o, v = .pointer (some ⟨b, o, none⟩) ∧ b < w.heap.size ∧ CellI w b o x.k
 | 8 => ∃ b o, v = .pointer (some ⟨b, o, none⟩) ∧ b < w.heap.size ∧ CellI w b o x.e.t ∧ CellI w b (o + 1) x.e.k ∧ CellI w b (o + 2) x.e.l ∧ CellI w b (o + 4) x.e.m ∧ w.cell? ⟨b, o + 3, none⟩ = some (.int .u64 x.e.v)
 | 9 => v = .agg #[.int .i64 x.p.1, .int .i64 x.p.2]
 | 10 => v = M.V.val M.g
 | 12 => ∃ b, v = pv b ∧ N ≤ b ∧ Blk w b 30 #[.int .i64 0, .int .i64 0]
 | 13 => ∃ b o, v = .pointer (some ⟨b, o, none⟩) ∧ b < w.heap.size ∧ w.cell? ⟨b, o, none⟩ = some (.int .u64 x.k)
 | 14 => v = .int .u64 x.k
 | 15 => (∃ p c, v = .slice p (M.g.co.getD x.f []).length c) ∧ IntsR w v (M.g.co.getD x.f [])
 | 16 => ∃ b o u, v = .pointer (some ⟨b, o, none⟩) ∧ b < w.heap.size ∧ w.cell? ⟨b, o, none⟩ = some u ∧ (∃ p c, u = .slice p (M.g.co.getD x.f []).length c) ∧ IntsR w u (M.g.co.getD x.f [])
 | _ => True
theorem CellI.below {w w' : World} {b o : Nat} {k : Int} (h : CellI w b o k) (hl : b < w.heap.size) (hb : Below w.heap.size w w') : CellI w' b o k := (hb.cell (p := ⟨b, o, none⟩) hl).trans h
theorem GIs.mono {M : Gm} {N : Nat} {w w' : World} {x : GV} {v : Value} (h : GIs M N w x v) (hb : Below w.heap.size w w') : GIs M N w' x v := by
 obtain ⟨t, k, b, f, p, e⟩ := x
 unfold GIs at h ⊢
 dsimp only at h ⊢
 split at h
 ·exact h
 ·exact h
 ·exact h
 ·exact h
 ·exact h
 ·obtain ⟨b, o, h1, h2, h3, h4⟩ := h; exact ⟨b, o, h1, Nat.lt_of_lt_of_le h2 hb.size, h3.below h2 hb, h4.below h2 hb⟩
 ·obtain ⟨b, o, h1, h2, h3⟩ := h; exact ⟨b, o, h1, Nat.lt_of_lt_of_le h2 hb.size, h3.below h2 hb⟩
 ·obtain ⟨b, o, h1, h2, h3, h4, h5, h6, h7⟩ := h; exact ⟨b, o, h1, Nat.lt_of_lt_of_le h2 hb.size, h3.below h2 hb, h4.below h2 hb, h5.below h2 hb, h6.below h2 hb, (hb.cell (p := ⟨b, o + 3, none⟩) h2).trans h7⟩
 ·exact h
 ·exact h
 ·obtain ⟨b, h1, h2, h3⟩ := h; exact ⟨b, h1, h2, h3.of_below hb⟩
 ·obtain ⟨b, o, h1, h2, h3⟩ := h; exact ⟨b, o, h1, Nat.lt_of_lt_of_le h2 hb.size, (hb.cell (p := ⟨b, o, none⟩) h2).trans h3⟩
 ·exact h
 ·exact ⟨h.1, h.2.below hb⟩
 ·obtain ⟨b, o, u, h1, h2, h3, h4, h5⟩ := h; exact ⟨b, o, u, h1, Nat.lt_of_lt_of_le h2 hb.size, (hb.cell (p := ⟨b, o, none⟩) h2).trans h3, h4, h5.below hb⟩
 ·trivial
structure GG (M : Gm) (w : World) : Prop where
 gr : GrR w M.V M.g
 bx : Blk w M.gb 27 (M.V.gs M.g)
 pl : PArg w M.v M.l
 n : M.g.evs.length ≤ 256
theorem GG.mono {M : Gm} {w w' : World} (h : GG M w) (hb : Below w.heap.size w w') : GG M w' := ⟨h.gr.below hb, h.bx.of_below hb, h.pl.below hb, h.n⟩
theorem GG.pls {M : Gm} {w : World} (h : GG M w) {f : Nat} (hf : Qjk f = true) : PArg w (M.lv f) (M.pl f) := by
 unfold Qjk at hf
 by_cases e2 : f = 2
 ·subst e2; exact h.gr.rf
 by_cases e4 : f = 4
 ·subst e4; exact h.gr.rmw
 by_cases e5 : f = 5
 ·subst e5; exact h.gr.addr
 by_cases e6 : f = 6
 ·subst e6; exact h.gr.dat
 by_cases e7 : f = 7
 ·subst e7; exact h.gr.ctrl
 have e20 : f = 20 := by simpa [e2, e4, e5, e6, e7] using hf
 subst e20
 exact h.pl
def Qs6 : Operand → GV
 | .const (.int .i64 k) => .nu k
 | .const (.bool b) => .bo b
 | _ => .at 0 0
def gvA (σ : Nat → GV) : Operand → GV
 | .tmp d => σ d
 | x => Qs6 x
def pF (p : Int × Int) (f : Nat) : Int := if f = 0 then p.1 else p.2
def eF (e : Ev) (f : Nat) : Int := if f = 0 then e.t else if f = 1 then e.k else if f = 2 then e.l else e.m
def Qs7 (op : BinOp) (a b : Int) : Option Bool :=
 match op with
 | .eql => some (a == b)
 | .neq => some (a != b)
 | .lss => some (decide (a < b))
 | .leq => some (decide (a ≤ b))
 | .gtr => some (decide (a > b))
 | .geq => some (decide (a ≥ b))
 | _ => none
def Qp (op : BinOp) (a b : Int) : Option Int :=
 match op with
 | .add => some (a + b)
 | .sub => some (a - b)
 | _ => none
def Qwy (M : Gm) (σ : Nat → GV) : Op → Option GV
 | .fieldAddr ty x f => if ty = 27 ∧ (gvA σ x).t = 3 ∧ f < 8 then some (.at 4 f) else if ty = 30 ∧ (gvA σ x).t = 6 ∧ f < 2 then some (.ip (pF (gvA σ x).p f))
   else if ty = 34 ∧ (gvA σ x).t = 8 ∧ (f < 3 ∨ f = 4) then some (.ip (eF (gvA σ x).e f)) else if ty = 34 ∧ (gvA σ x).t = 8 ∧ f = 3 then some ⟨13, (gvA σ x).e.v, false, 0, (0, 0), Ev.zero⟩ else none
 | .load ty x => if ty = 3 ∧ (gvA σ x).t = 7 then some (.nu (gvA σ x).k) else if ty = 3 ∧ (gvA σ x).t = 4 ∧ (gvA σ x).f = 0 then some (.nu M.g.cells)
   else if ty = 24 ∧ (gvA σ x).t = 4 ∧ Qjk (gvA σ x).f = true ∧ (gvA σ x).f < 8 then some (.at 5 (gvA σ x).f) else if ty = 23 ∧ (gvA σ x).t = 4 ∧ (gvA σ x).f = 1 then some (.at 5 1)
   else if ty = 27 ∧ (gvA σ x).t = 3 then some (.at 10 0) else if ty = 30 ∧ (gvA σ x).t = 6 then some ⟨9, 0, false, 0, (gvA σ x).p, Ev.zero⟩ else if ty = 32 ∧ (gvA σ x).t = 13 then some ⟨14, (gvA σ x).k, false, 0, (0, 0), Ev.zero⟩
   else if ty = 25 ∧ (gvA σ x).t = 4 ∧ (gvA σ x).f = 3 then some (.at 5 3) else if ty = 36 ∧ (gvA σ x).t = 16 then some (.at 15 (gvA σ x).f) else none
 | .alloc ty => if ty = 30 then some (.at 12 0) else none
 | .indexAddr ty x i => if ty = 24 ∧ (gvA σ x).t = 5 ∧ Qjk (gvA σ x).f = true ∧ (gvA σ i).t = 1 then some (.pp ((M.pl (gvA σ x).f).getD (gvA σ i).k.toNat (0, 0)))
   else if ty = 23 ∧ (gvA σ x).t = 5 ∧ (gvA σ x).f = 1 ∧ (gvA σ i).t = 1 then some (.ep (M.g.evs.getD (gvA σ i).k.toNat Ev.zero))
   else if ty = 25 ∧ (gvA σ x).t = 5 ∧ (gvA σ x).f = 3 ∧ (gvA σ i).t = 1 then some (.at 16 (gvA σ i).k.toNat) else if ty = 36 ∧ (gvA σ x).t = 15 ∧ (gvA σ i).t = 1 then some (.ip ((M.g.co.getD (gvA σ x).f []).getD (gvA σ i).k.toNat 0)) else none
 | .binOp op ty x y _ => if ty = 3 ∧ (gvA σ x).t = 1 ∧ (gvA σ y).t = 1 then (match Qs7 op (gvA σ x).k (gvA σ y).k, Qp op (gvA σ x).k (gvA σ y).k with
   | some b, _ => some (.bo b)
   | none, some k => some (.nu k)
   | none, none => none) else if ty = 32 ∧ (gvA σ x).t = 14 ∧ (gvA σ y).t = 14 ∧ op = .neq then some (.bo ((gvA σ x).k != (gvA σ y).k)) else none
 | .unOp op _ x => if op = .not ∧ (gvA σ x).t = 2 then some (.bo (!(gvA σ x).b)) else none
 | .call ⟨.builtin .len, args, tys⟩ => match args.toList with
   | [x] => if tys = #[23] ∧ (gvA σ x).t = 5 ∧ (gvA σ x).f = 1 then some (.nu (M.g.evs.length : Int)) else if tys = #[24] ∧ (gvA σ x).t = 5 ∧ Qjk (gvA σ x).f = true then some (.nu (((M.pl (gvA σ x).f).length : Nat) : Int)) else if tys = #[25] ∧ (gvA σ x).t = 5 ∧ (gvA σ x).f = 3 then some (.nu (M.g.co.length : Int)) else if tys = #[36] ∧ (gvA σ x).t = 15 then some (.nu (((M.g.co.getD (gvA σ x).f []).length : Nat) : Int)) else none
   | _ => none
 | .call ⟨.value (.func f), args, _⟩ => match args.toList with
   | [x, y, z] => if (gvA σ x).t = 10 ∧ (gvA σ y).t = 1 ∧ (gvA σ z).t = 1 then (if f = 98 then some (.bo (isB M.g.evs (gvA σ y).k [(gvA σ z).k])) else if f = 99 then some (.bo (Qim M.g.evs (gvA σ y).k (gvA σ z).k)) else if f = 100 then some (.bo (Qej M.g.evs (gvA σ y).k (gvA σ z).k)) else none) else none
   | _ => none
 | _ => none
def Qk2 (M : Gm) (σ : Nat → GV) : Op → Option Prop
 | .indexAddr ty x i => if ty = 24 then some (0 ≤ (gvA σ i).k ∧ (gvA σ i).k < (((M.pl (gvA σ x).f).length : Nat) : Int)) else if ty = 25 then some (0 ≤ (gvA σ i).k ∧ (gvA σ i).k < (M.g.co.length : Int)) else if ty = 36 then some (0 ≤ (gvA σ i).k ∧ (gvA σ i).k < (((M.g.co.getD (gvA σ x).f []).length : Nat) : Int)) else some (0 ≤ (gvA σ i).k ∧ (gvA σ i).k < (M.g.evs.length : Int))
 | .binOp op _ x y _ => match Qp op (gvA σ x).k (gvA σ y).k with
   | some k => some (-9223372036854775808 ≤ k ∧ k < 9223372036854775808)
   | none => none
 | _ => none
section
variable {M : Gm} {N : Nat} {w : World} {a : Act} {σ : Nat → GV} {Q : Exit → Act → World → Prop} {dst : Option Tmp} {ty : TypeId} {pos : String} {af : Array Edge} {gd : Option (Nat × Bool)} {x y : Operand}
theorem Qr7 (h : ∀ d, x ≠ .tmp d) : GIs M N w (Qs6 x) (a.eval x) := by
 unfold Qs6
 split
 ·exact rfl
 ·exact rfl
 ·exact trivial
theorem Qdx (h : ∀ d, x = .tmp d → GIs M N w (σ d) (a.eval (.tmp d))) : GIs M N w (gvA σ x) (a.eval x) := by
 unfold gvA
 split
 ·exact h _ rfl
 ·rename_i y hy
  exact Qr7 hy
theorem GIs.t {z : GV} {v : Value} {k : Nat} (h : GIs M N w z v) (ht : z.t = k) : GIs M N w ⟨k, z.k, z.b, z.f, z.p, z.e⟩ v := by
 rw [← ht]
 exact h
theorem QCm (b o : Nat) (w : World) {f : Nat} (hf : f < 2) : (Instr.fieldAt 30 (.pointer (some ⟨b, o, none⟩)) f).run Tryz.prog w = .ok (.pointer (some ⟨b, o + f, none⟩)) w := by
 match f, hf with
 | 0, _ => exact (show _ = _ by kernel_rfl)
 | 1, _ => exact (show _ = _ by kernel_rfl)
 | n + 2, h => omega
theorem QCn (b o : Nat) (w : World) {f : Nat} (hf : f < 3 ∨ f = 4) : (Instr.fieldAt 34 (.pointer (some ⟨b, o, none⟩)) f).run Tryz.prog w = .ok (.pointer (some ⟨b, o + f, none⟩)) w := by
 match f, hf with
 | 0, _ => exact (show _ = _ by kernel_rfl)
 | 1, _ => exact (show _ = _ by kernel_rfl)
 | 2, _ => exact (show _ = _ by kernel_rfl)
 | 3, h => omega
 | 4, _ => exact (show _ = _ by kernel_rfl)
 | n + 5, h => omega
theorem QA1 (b o : Nat) (w : World) : (Instr.fieldAt 34 (.pointer (some ⟨b, o, none⟩)) 3).run Tryz.prog w = .ok (.pointer (some ⟨b, o + 3, none⟩)) w := (show _ = _ by kernel_rfl)
theorem QCo (b : Nat) (w : World) {f : Nat} (hf : f < 8) : (Instr.fieldAt 27 (pv b) f).run Tryz.prog w = .ok (.pointer (some ⟨b, f, none⟩)) w := by
 match f, hf with
 | 0, _ => exact (show _ = _ by kernel_rfl)
 | 1, _ => exact (show _ = _ by kernel_rfl)
 | 2, _ => exact (show _ = _ by kernel_rfl)
 | 3, _ => exact (show _ = _ by kernel_rfl)
 | 4, _ => exact (show _ = _ by kernel_rfl)
 | 5, _ => exact (show _ = _ by kernel_rfl)
 | 6, _ => exact (show _ = _ by kernel_rfl)
 | 7, _ => exact (show _ = _ by kernel_rfl)
 | n + 8, h => omega
theorem Quz (b k : Nat) (u : Value) (w : World) (h : w.cell? ⟨b, k, none⟩ = some u) : (Instr.loadAt 3 (.pointer (some ⟨b, k, none⟩))).run Tryz.prog w = .ok u w := by
 go_simp
theorem QA2 (b k : Nat) (u : Value) (w : World) (h : w.cell? ⟨b, k, none⟩ = some u) : (Instr.loadAt 32 (.pointer (some ⟨b, k, none⟩))).run Tryz.prog w = .ok u w := by
 go_simp
theorem QA3 (b k : Nat) (u : Value) (w : World) (h : w.cell? ⟨b, k, none⟩ = some u) : (Instr.loadAt 24 (.pointer (some ⟨b, k, none⟩))).run Tryz.prog w = .ok u w := by
 go_simp
theorem QA4 (b k : Nat) (u : Value) (w : World) (h : w.cell? ⟨b, k, none⟩ = some u) : (Instr.loadAt 23 (.pointer (some ⟨b, k, none⟩))).run Tryz.prog w = .ok u w := by
 go_simp
theorem QCp (b o : Nat) (p : Int × Int) (w : World) (h0 : w.cell? ⟨b, o, none⟩ = some (.int .i64 p.1)) (h1 : w.cell? ⟨b, o + 1, none⟩ = some (.int .i64 p.2)) : (Instr.loadAt 30 (.pointer (some ⟨b, o, none⟩))).run Tryz.prog w = .ok (.agg #[.int .i64 p.1, .int .i64 p.2]) w := by
 go_simp
theorem QCq (s o n c : Nat) (k : Int) (w : World) (h0 : 0 ≤ k) (h1 : k < ((n : Nat) : Int)) : (Instr.indexAt 24 (.slice (some ⟨s, o, none⟩) n c) (.int .i64 k)).run Tryz.prog w = .ok (.pointer (some ⟨s, o + k.toNat * 2, none⟩)) w := by
 go_simp
theorem QA5 (b k : Nat) (u : Value) (w : World) (h : w.cell? ⟨b, k, none⟩ = some u) : (Instr.loadAt 25 (.pointer (some ⟨b, k, none⟩))).run Tryz.prog w = .ok u w := by
 go_simp
theorem QA6 (b k : Nat) (u : Value) (w : World) (h : w.cell? ⟨b, k, none⟩ = some u) : (Instr.loadAt 36 (.pointer (some ⟨b, k, none⟩))).run Tryz.prog w = .ok u w := by
 go_simp
theorem QA7 (s o n c : Nat) (k : Int) (w : World) (h0 : 0 ≤ k) (h1 : k < ((n : Nat) : Int)) : (Instr.indexAt 25 (.slice (some ⟨s, o, none⟩) n c) (.int .i64 k)).run Tryz.prog w = .ok (.pointer (some ⟨s, o + k.toNat, none⟩)) w := by
 go_simp
theorem QA8 (s o n c : Nat) (k : Int) (w : World) (h0 : 0 ≤ k) (h1 : k < ((n : Nat) : Int)) : (Instr.indexAt 36 (.slice (some ⟨s, o, none⟩) n c) (.int .i64 k)).run Tryz.prog w = .ok (.pointer (some ⟨s, o + k.toNat, none⟩)) w := by
 go_simp
theorem QCr (s o n c : Nat) (k : Int) (w : World) (h0 : 0 ≤ k) (h1 : k < ((n : Nat) : Int)) : (Instr.indexAt 23 (.slice (some ⟨s, o, none⟩) n c) (.int .i64 k)).run Tryz.prog w = .ok (.pointer (some ⟨s, o + k.toNat * 5, none⟩)) w := by
 go_simp
end
set_option maxRecDepth 100000
section
variable {M : Gm} {N : Nat} {w : World} {a : Act} {σ : Nat → GV} {Q : Exit → Act → World → Prop} {dst : Option Tmp} {ty : TypeId} {pos : String} {af : Array Edge} {gd : Option (Nat × Bool)} {x y : Operand}
def Qy1 (M : Gm) (N : Nat) (a : Act) (w : World) (d : Option Tmp) (av : GV) : Act → World → Prop := fun a' w' => ∃ v, a' = a.put d v ∧ GIs M N w' av v ∧ Below w.heap.size w w'
theorem Qza {op : BinOp} {k l : Int} {b : Bool} (h : Qs7 op k l = some b) (yt : TypeId) (hx : a.eval x = .int .i64 k) (hy : a.eval y = .int .i64 l) : (execOp a.eval ⟨dst, .binOp op 3 x y yt, ty, pos, af, gd⟩).run Tryz.prog w = .ok (.value (.bool b)) w := by
 have e : (execOp a.eval ⟨dst, .binOp op 3 x y yt, ty, pos, af, gd⟩).run Tryz.prog w = (do pure (Next.value (← (do eqGuard op 3 x y (a.eval x) (a.eval y); binOp op 3 (a.eval x) (a.eval y)))) : Sem Next).run Tryz.prog w := by kernel_rfl
 rw [e, hx, hy]
 cases op <;> simp only [Qs7, Option.some.injEq, reduceCtorEq] at h <;> subst h <;> exact (show _ = _ by kernel_rfl)
theorem Qzb {k l : Int} (yt : TypeId) (hx : a.eval x = .int .u64 k) (hy : a.eval y = .int .u64 l) : (execOp a.eval ⟨dst, .binOp .neq 32 x y yt, ty, pos, af, gd⟩).run Tryz.prog w = .ok (.value (.bool (k != l))) w := by
 have e : (execOp a.eval ⟨dst, .binOp .neq 32 x y yt, ty, pos, af, gd⟩).run Tryz.prog w = (do pure (Next.value (← (do eqGuard .neq 32 x y (a.eval x) (a.eval y); binOp .neq 32 (a.eval x) (a.eval y)))) : Sem Next).run Tryz.prog w := by kernel_rfl
 rw [e, hx, hy]
 exact (show _ = _ by kernel_rfl)
theorem Qzc {op : BinOp} {k l m : Int} (h : Qp op k l = some m) (yt : TypeId) (hm : -9223372036854775808 ≤ m ∧ m < 9223372036854775808) (hx : a.eval x = .int .i64 k) (hy : a.eval y = .int .i64 l) : (execOp a.eval ⟨dst, .binOp op 3 x y yt, ty, pos, af, gd⟩).run Tryz.prog w = .ok (.value (.int .i64 m)) w := by
 have e : (execOp a.eval ⟨dst, .binOp op 3 x y yt, ty, pos, af, gd⟩).run Tryz.prog w = (do pure (Next.value (← (do eqGuard op 3 x y (a.eval x) (a.eval y); binOp op 3 (a.eval x) (a.eval y)))) : Sem Next).run Tryz.prog w := by kernel_rfl
 have hw : IntKind.i64.wrap m = m := by rw [IntKind.wrap_i64]; omega
 rw [e, hx, hy, ← hw]
 cases op <;> simp only [Qp, Option.some.injEq, reduceCtorEq] at h <;> subst h <;> exact (show _ = _ by kernel_rfl)
theorem Qzd {q : Bool} (ty2 : TypeId) (hx : a.eval x = .bool q) : (execOp a.eval ⟨dst, .unOp .not ty2 x, ty, pos, af, gd⟩).run Tryz.prog w = .ok (.value (.bool (!q))) w := by
 have e : (execOp a.eval ⟨dst, .unOp .not ty2 x, ty, pos, af, gd⟩).run Tryz.prog w = (do pure (Next.value (← Op.unary .not (a.eval x))) : Sem Next).run Tryz.prog w := by kernel_rfl
 rw [e, hx]
 exact (show _ = _ by kernel_rfl)
theorem Qj7 {p : Option Addr} {n c : Nat} {t : TypeId} (ht : t = 23 ∨ t = 24 ∨ t = 25 ∨ t = 36) (hx : a.eval x = .slice p n c) : (execOp a.eval ⟨dst, .call ⟨.builtin .len, #[x], #[t]⟩, ty, pos, af, gd⟩).run Tryz.prog w = .ok (.value (.int .i64 ((n : Nat) : Int))) w := by
 rcases ht with rfl | rfl | rfl | rfl
 ·generalize a.eval = q at *
  go_simp
 ·generalize a.eval = q at *
  go_simp
 ·generalize a.eval = q at *
  go_simp
 ·generalize a.eval = q at *
  go_simp
theorem QCs : (execOp a.eval ⟨dst, .alloc 30, ty, pos, af, gd⟩).run Tryz.prog w = .ok (.value (pv w.heap.size)) (w.alloc (.cells #[.int .i64 0, .int .i64 0] 30)) := by kernel_rfl
theorem QA9 {b : Nat} {V : GrV} {g : Gr} (hv : a.eval x = pv b) (hb : Blk w b 27 (V.gs g)) : (execOp a.eval ⟨dst, .load 27 x, ty, pos, af, gd⟩).run Tryz.prog w = .ok (.value (V.val g)) w := by
 obtain ⟨v1, v2, v3, v4, v5, v6, v7⟩ := V
 unfold GrV.gs at hb
 dsimp only at hb
 have c0 := hb.cell (j := 0) rfl
 have c1 := hb.cell (j := 1) rfl
 have c2 := hb.cell (j := 2) rfl
 have c3 := hb.cell (j := 3) rfl
 have c4 := hb.cell (j := 4) rfl
 have c5 := hb.cell (j := 5) rfl
 have c6 := hb.cell (j := 6) rfl
 have c7 := hb.cell (j := 7) rfl
 clear hb
 unfold GrV.val
 dsimp only
 generalize a.eval = ρ at *
 go_simp
theorem Qjl {f : Nat} {z : Operand} {tys : Array TypeId} {u v s : Value} (hu : a.eval x = u) (hv : a.eval y = v) (hs : a.eval z = s) (h : ∀ u v s w, (callFunc f #[u, v, s]).run Tryz.prog w = .ok (.enter f #[u, v, s]) w) : (execOp a.eval ⟨dst, .call ⟨.value (.func f), #[x, y, z], tys⟩, ty, pos, af, gd⟩).run Tryz.prog w = .ok (.enter f #[u, v, s]) w := by
 have e : (execOp a.eval ⟨dst, .call ⟨.value (.func f), #[x, y, z], tys⟩, ty, pos, af, gd⟩).run Tryz.prog w = (callFunc f #[a.eval x, a.eval y, a.eval z]).run Tryz.prog w := by kernel_rfl
 rw [e, hu, hv, hs]
 exact h u v s w
theorem QC7 (u v s : Value) (w : World) : (callFunc 98 #[u, v, s]).run Tryz.prog w = .ok (.enter 98 #[u, v, s]) w := by kernel_rfl
theorem QB (u v s : Value) (w : World) : (callFunc 99 #[u, v, s]).run Tryz.prog w = .ok (.enter 99 #[u, v, s]) w := by kernel_rfl
theorem QCt (u v s : Value) (w : World) : (callFunc 100 #[u, v, s]).run Tryz.prog w = .ok (.enter 100 #[u, v, s]) w := by kernel_rfl
theorem Qpa {f : FuncId} {args : Array Value} {q : Bool} (D : Calls Tryz.prog f args w fun r w' => r = .returned (.bool q) ∧ Below w.heap.size w w') : Calls Tryz.prog f args w (fun e w'' => ∃ v, e = .returned v ∧ Qy1 M N a w dst (.bo q) (a.put dst v) w'') :=
 D.mono fun _ _ ⟨h1, h2⟩ => ⟨_, h1, _, rfl, rfl, h2⟩
theorem QBa (hG : GG M w) (hN : N ≤ w.heap.size) {o : Oper} {av : GV} (h : Qwy M σ o.op = some av) (hp : ∀ p, Qk2 M σ o.op = some p → p) (hx : ∀ d ∈ Qcs o.op.operands.toList, GIs M N w (σ d) (a.eval (.tmp d))) : o.wp Tryz.prog a w (Qy1 M N a w o.dst av) Q := by
 obtain ⟨dst, op, ty, pos, af, gd⟩ := o
 dsimp only at h hp hx ⊢
 have hB := Below.refl w.heap.size w
 unfold Qwy at h
 split at h
 ·rename_i t x f
  have hi := Qdx (x := x) (fun d e => hx d (Qal.2 (by simp [Op.operands, e])))
  by_cases c1 : t = 27 ∧ (gvA σ x).t = 3 ∧ f < 8
  ·rw [if_pos c1] at h; cases h
   obtain ⟨rfl, c, hf⟩ := c1
   have e : a.eval x = pv M.gb := hi.t c
   exact Qb1 (s := Instr.fieldAt 27 (a.eval x) f) rfl (by rw [e]; exact QCo _ _ hf) ⟨_, rfl, rfl, hB⟩
  rw [if_neg c1] at h
  by_cases c2 : t = 30 ∧ (gvA σ x).t = 6 ∧ f < 2
  ·rw [if_pos c2] at h; cases h
   obtain ⟨rfl, c, hf⟩ := c2
   obtain ⟨b, o, e, h1, h2, h3⟩ : ∃ b o, a.eval x = .pointer (some ⟨b, o, none⟩) ∧ b < w.heap.size ∧ CellI w b o (gvA σ x).p.1 ∧ CellI w b (o + 1) (gvA σ x).p.2 := hi.t c
   refine Qb1 (s := Instr.fieldAt 30 (a.eval x) f) rfl (by rw [e]; exact QCm _ _ _ hf) ⟨_, rfl, ⟨b, o + f, rfl, h1, ?_⟩, hB⟩
   show CellI w b (o + f) (pF (gvA σ x).p f)
   match f, hf with
   | 0, _ => exact h2
   | 1, _ => exact h3
   | n + 2, h => omega
  rw [if_neg c2] at h
  by_cases c3 : t = 34 ∧ (gvA σ x).t = 8 ∧ (f < 3 ∨ f = 4)
  ·rw [if_pos c3] at h; cases h
   obtain ⟨rfl, c, hf⟩ := c3
   obtain ⟨b, o, e, h1, h2, h3, h4, h5, _⟩ : ∃ b o, a.eval x = .pointer (some ⟨b, o, none⟩) ∧ b < w.heap.size ∧ CellI w b o (gvA σ x).e.t ∧ CellI w b (o + 1) (gvA σ x).e.k ∧ CellI w b (o + 2) (gvA σ x).e.l ∧ CellI w b (o + 4) (gvA σ x).e.m ∧ w.cell? ⟨b, o + 3, none⟩ = some (.int .u64 (gvA σ x).e.v) := hi.t c
   refine Qb1 (s := Instr.fieldAt 34 (a.eval x) f) rfl (by rw [e]; exact QCn _ _ _ hf) ⟨_, rfl, ⟨b, o + f, rfl, h1, ?_⟩, hB⟩
   show CellI w b (o + f) (eF (gvA σ x).e f)
   match f, hf with
   | 0, _ => exact h2
   | 1, _ => exact h3
   | 2, _ => exact h4
   | 3, h => omega
   | 4, _ => exact h5
   | n + 5, h => omega
  rw [if_neg c3] at h
  by_cases c4 : t = 34 ∧ (gvA σ x).t = 8 ∧ f = 3
  ·rw [if_pos c4] at h; cases h
   obtain ⟨rfl, c, rfl⟩ := c4
   obtain ⟨b, o, e, h1, -, -, -, -, h2⟩ : ∃ b o, a.eval x = .pointer (some ⟨b, o, none⟩) ∧ b < w.heap.size ∧ CellI w b o (gvA σ x).e.t ∧ CellI w b (o + 1) (gvA σ x).e.k ∧ CellI w b (o + 2) (gvA σ x).e.l ∧ CellI w b (o + 4) (gvA σ x).e.m ∧ w.cell? ⟨b, o + 3, none⟩ = some (.int .u64 (gvA σ x).e.v) := hi.t c
   exact Qb1 (s := Instr.fieldAt 34 (a.eval x) 3) rfl (by rw [e]; exact QA1 _ _ _) ⟨_, rfl, ⟨b, o + 3, rfl, h1, h2⟩, hB⟩
  rw [if_neg c4] at h; cases h
 ·rename_i t x
  have hi := Qdx (x := x) (fun d e => hx d (Qal.2 (by simp [Op.operands, e])))
  by_cases c1 : t = 3 ∧ (gvA σ x).t = 7
  ·rw [if_pos c1] at h; cases h
   obtain ⟨rfl, c⟩ := c1
   obtain ⟨b, o, e, h1, h2⟩ : ∃ b o, a.eval x = .pointer (some ⟨b, o, none⟩) ∧ b < w.heap.size ∧ CellI w b o (gvA σ x).k := hi.t c
   exact Qb1 (s := Instr.loadAt 3 (a.eval x)) rfl (by rw [e]; exact Quz _ _ _ _ h2) ⟨_, rfl, rfl, hB⟩
  rw [if_neg c1] at h
  by_cases c2 : t = 3 ∧ (gvA σ x).t = 4 ∧ (gvA σ x).f = 0
  ·rw [if_pos c2] at h; cases h
   obtain ⟨rfl, c, hf⟩ := c2
   have e : a.eval x = .pointer (some ⟨M.gb, (gvA σ x).f, none⟩) := hi.t c
   exact Qb1 (s := Instr.loadAt 3 (a.eval x)) rfl (by rw [e, hf]; exact Quz _ _ _ _ (hG.bx.cell rfl)) ⟨_, rfl, rfl, hB⟩
  rw [if_neg c2] at h
  by_cases c3 : t = 24 ∧ (gvA σ x).t = 4 ∧ Qjk (gvA σ x).f = true ∧ (gvA σ x).f < 8
  ·rw [if_pos c3] at h; cases h
   obtain ⟨rfl, c, hf, h8⟩ := c3
   have e : a.eval x = .pointer (some ⟨M.gb, (gvA σ x).f, none⟩) := hi.t c
   have hc : (M.V.gs M.g)[(gvA σ x).f]? = some (M.lv (gvA σ x).f) := by
    generalize (gvA σ x).f = f at *
    match f, h8, hf with
    | 0, _, hf => cases hf
    | 1, _, hf => cases hf
    | 2, _, _ => rfl
    | 3, _, hf => cases hf
    | 4, _, _ => rfl
    | 5, _, _ => rfl
    | 6, _, _ => rfl
    | 7, _, _ => rfl
    | n + 8, h, _ => omega
   exact Qb1 (v := M.lv (gvA σ x).f) (s := Instr.loadAt 24 (a.eval x)) rfl (by rw [e]; exact QA3 _ _ _ _ (hG.bx.cell hc)) ⟨_, rfl, rfl, hB⟩
  rw [if_neg c3] at h
  by_cases c4 : t = 23 ∧ (gvA σ x).t = 4 ∧ (gvA σ x).f = 1
  ·rw [if_pos c4] at h; cases h
   obtain ⟨rfl, c, hf⟩ := c4
   have e : a.eval x = .pointer (some ⟨M.gb, (gvA σ x).f, none⟩) := hi.t c
   exact Qb1 (v := M.V.ev) (s := Instr.loadAt 23 (a.eval x)) rfl (by rw [e, hf]; exact QA4 _ _ _ _ (hG.bx.cell rfl)) ⟨_, rfl, rfl, hB⟩
  rw [if_neg c4] at h
  by_cases c5 : t = 27 ∧ (gvA σ x).t = 3
  ·rw [if_pos c5] at h; cases h
   obtain ⟨rfl, c⟩ := c5
   have e : a.eval x = pv M.gb := hi.t c
   exact Qbn (QA9 e hG.bx) ⟨_, rfl, rfl, hB⟩
  rw [if_neg c5] at h
  by_cases c6 : t = 30 ∧ (gvA σ x).t = 6
  ·rw [if_pos c6] at h; cases h
   obtain ⟨rfl, c⟩ := c6
   obtain ⟨b, o, e, h1, h2, h3⟩ : ∃ b o, a.eval x = .pointer (some ⟨b, o, none⟩) ∧ b < w.heap.size ∧ CellI w b o (gvA σ x).p.1 ∧ CellI w b (o + 1) (gvA σ x).p.2 := hi.t c
   exact Qb1 (s := Instr.loadAt 30 (a.eval x)) rfl (by rw [e]; exact QCp _ _ _ _ h2 h3) ⟨_, rfl, rfl, hB⟩
  rw [if_neg c6] at h
  by_cases c7 : t = 32 ∧ (gvA σ x).t = 13
  ·rw [if_pos c7] at h; cases h
   obtain ⟨rfl, c⟩ := c7
   obtain ⟨b, o, e, h1, h2⟩ : ∃ b o, a.eval x = .pointer (some ⟨b, o, none⟩) ∧ b < w.heap.size ∧ w.cell? ⟨b, o, none⟩ = some (.int .u64 (gvA σ x).k) := hi.t c
   exact Qb1 (s := Instr.loadAt 32 (a.eval x)) rfl (by rw [e]; exact QA2 _ _ _ _ h2) ⟨_, rfl, rfl, hB⟩
  rw [if_neg c7] at h
  by_cases c8 : t = 25 ∧ (gvA σ x).t = 4 ∧ (gvA σ x).f = 3
  ·rw [if_pos c8] at h; cases h
   obtain ⟨rfl, c, hf⟩ := c8
   have e : a.eval x = .pointer (some ⟨M.gb, (gvA σ x).f, none⟩) := hi.t c
   exact Qb1 (v := M.V.co) (s := Instr.loadAt 25 (a.eval x)) rfl (by rw [e, hf]; exact QA5 _ _ _ _ (hG.bx.cell rfl)) ⟨_, rfl, rfl, hB⟩
  rw [if_neg c8] at h
  by_cases c9 : t = 36 ∧ (gvA σ x).t = 16
  ·rw [if_pos c9] at h; cases h
   obtain ⟨rfl, c⟩ := c9
   obtain ⟨b, o, u, e, h1, h2, h3, h4⟩ : ∃ b o u, a.eval x = .pointer (some ⟨b, o, none⟩) ∧ b < w.heap.size ∧ w.cell? ⟨b, o, none⟩ = some u ∧ (∃ p c, u = .slice p (M.g.co.getD (gvA σ x).f []).length c) ∧ IntsR w u (M.g.co.getD (gvA σ x).f []) := hi.t c
   exact Qb1 (s := Instr.loadAt 36 (a.eval x)) rfl (by rw [e]; exact QA6 _ _ _ _ h2) ⟨_, rfl, ⟨h3, h4⟩, hB⟩
  rw [if_neg c9] at h; cases h
 ·rename_i t
  by_cases c : t = 30
  ·subst c
   rw [if_pos rfl] at h; cases h
   exact Qbn QCs ⟨_, rfl, ⟨_, rfl, hN, Blk.new w _ _⟩, hB.alloc nW _⟩
  rw [if_neg c] at h; cases h
 ·rename_i t x i
  have hi := Qdx (x := x) (fun d e => hx d (Qal.2 (by simp [Op.operands, e])))
  have hj := Qdx (x := i) (fun d e => hx d (Qal.2 (by simp [Op.operands, e])))
  by_cases c1 : t = 24 ∧ (gvA σ x).t = 5 ∧ Qjk (gvA σ x).f = true ∧ (gvA σ i).t = 1
  ·rw [if_pos c1] at h; cases h
   obtain ⟨rfl, c, hf, d⟩ := c1
   have e : a.eval x = M.lv (gvA σ x).f := hi.t c
   have e2 : a.eval i = .int .i64 (gvA σ i).k := hj.t d
   obtain ⟨q0, q1⟩ : 0 ≤ (gvA σ i).k ∧ (gvA σ i).k < (((M.pl (gvA σ x).f).length : Nat) : Int) := hp _ (by unfold Qk2; exact if_pos rfl)
   have hP := hG.pls hf
   generalize (gvA σ i).k = k at *
   generalize M.pl (gvA σ x).f = l at *
   rcases hP with ⟨u, cap, -, rfl⟩ | ⟨s, o, cap, e3, hat, -⟩
   ·simp at q1; omega
   ·rw [e3] at e
    obtain ⟨p, hpk⟩ : ∃ p, l[k.toNat]? = some p := ⟨_, List.getElem?_eq_getElem oW⟩
    have hgd : l.getD k.toNat (0, 0) = p := by rw [List.getD_eq_getElem?_getD, hpk]; rfl
    rw [hgd]
    exact Qb1 (s := Instr.indexAt 24 (a.eval x) (a.eval i)) rfl (by rw [e, e2]; exact QCq _ _ _ _ _ _ q0 q1) ⟨_, rfl, ⟨s, o + k.toNat * 2, rfl, hat.lt, hat.fst _ _ hpk, hat.snd _ _ hpk⟩, hB⟩
  rw [if_neg c1] at h
  by_cases c2 : t = 23 ∧ (gvA σ x).t = 5 ∧ (gvA σ x).f = 1 ∧ (gvA σ i).t = 1
  ·rw [if_pos c2] at h; cases h
   obtain ⟨rfl, c, hf, d⟩ := c2
   have e : a.eval x = M.lv (gvA σ x).f := hi.t c
   rw [hf] at e
   have e2 : a.eval i = .int .i64 (gvA σ i).k := hj.t d
   obtain ⟨q0, q1⟩ : 0 ≤ (gvA σ i).k ∧ (gvA σ i).k < (M.g.evs.length : Int) := hp _ (by unfold Qk2; exact if_neg dW)
   obtain ⟨p, cap, e3, hat0, -, -⟩ := hG.gr.ev
   generalize (gvA σ i).k = k at *
   obtain ⟨s, o, rfl, hat⟩ := hat0 oW
   have e : a.eval x = .slice (some ⟨s, o, none⟩) M.g.evs.length cap := e.trans e3
   obtain ⟨ev, hpk⟩ : ∃ p, M.g.evs[k.toNat]? = some p := ⟨_, List.getElem?_eq_getElem oW⟩
   have hgd : M.g.evs.getD k.toNat Ev.zero = ev := by rw [List.getD_eq_getElem?_getD, hpk]; rfl
   rw [hgd]
   exact Qb1 (s := Instr.indexAt 23 (a.eval x) (a.eval i)) rfl (by rw [e, e2]; exact QCr _ _ _ _ _ _ q0 q1) ⟨_, rfl, ⟨s, o + k.toNat * 5, rfl, hat.lt, hat.c0 _ _ hpk, hat.c1 _ _ hpk, hat.c2 _ _ hpk, hat.c4 _ _ hpk, hat.c3 _ _ hpk⟩, hB⟩
  rw [if_neg c2] at h
  by_cases c3 : t = 25 ∧ (gvA σ x).t = 5 ∧ (gvA σ x).f = 3 ∧ (gvA σ i).t = 1
  ·rw [if_pos c3] at h; cases h
   obtain ⟨rfl, c, hf, d⟩ := c3
   have e : a.eval x = M.lv (gvA σ x).f := hi.t c
   rw [hf] at e
   have e2 : a.eval i = .int .i64 (gvA σ i).k := hj.t d
   obtain ⟨q0, q1⟩ : 0 ≤ (gvA σ i).k ∧ (gvA σ i).k < (M.g.co.length : Int) := hp _ (by unfold Qk2; exact (if_neg dW).trans (if_pos rfl))
   obtain ⟨p, cap, e3, hcl, vs, hv1, hv2, hv3⟩ := hG.gr.co
   generalize (gvA σ i).k = k at *
   obtain ⟨s, o, rfl, hs, hat⟩ := hv2 oW
   have e : a.eval x = .slice (some ⟨s, o, none⟩) M.g.co.length cap := e.trans e3
   obtain ⟨u, hu⟩ : ∃ u, vs[k.toNat]? = some u := ⟨_, List.getElem?_eq_getElem oW⟩
   obtain ⟨l, hl⟩ : ∃ l, M.g.co[k.toNat]? = some l := ⟨_, List.getElem?_eq_getElem oW⟩
   have hgd : M.g.co.getD k.toNat [] = l := by rw [List.getD_eq_getElem?_getD, hl]; rfl
   obtain ⟨g1, _, p2, c2, g2, _⟩ := hv3 _ _ _ hu hl
   exact Qb1 (s := Instr.indexAt 25 (a.eval x) (a.eval i)) rfl (by rw [e, e2]; exact QA7 _ _ _ _ _ _ q0 q1) ⟨_, rfl, ⟨s, o + k.toNat, u, rfl, hs, hat _ _ hu, by show ∃ p c, u = .slice p (M.g.co.getD k.toNat []).length c; rw [hgd]; exact ⟨p2, c2, g2⟩, by show IntsR w u (M.g.co.getD k.toNat []); rw [hgd]; exact g1⟩, hB⟩
  rw [if_neg c3] at h
  by_cases c4 : t = 36 ∧ (gvA σ x).t = 15 ∧ (gvA σ i).t = 1
  ·rw [if_pos c4] at h; cases h
   obtain ⟨rfl, c, d⟩ := c4
   obtain ⟨⟨p, cp, e⟩, hR⟩ : (∃ p c, a.eval x = .slice p (M.g.co.getD (gvA σ x).f []).length c) ∧ IntsR w (a.eval x) (M.g.co.getD (gvA σ x).f []) := hi.t c
   have e2 : a.eval i = .int .i64 (gvA σ i).k := hj.t d
   obtain ⟨q0, q1⟩ : 0 ≤ (gvA σ i).k ∧ (gvA σ i).k < (((M.g.co.getD (gvA σ x).f []).length : Nat) : Int) := hp _ (by unfold Qk2; exact (if_neg dW).trans ((if_neg dW).trans (if_pos rfl)))
   generalize (gvA σ i).k = k at *
   generalize M.g.co.getD (gvA σ x).f [] = l at *
   rcases hR with ⟨_, _, _, rfl⟩ | ⟨s, o, cap, e3, hs, hat⟩
   ·simp at q1; omega
   ·obtain ⟨y, hy⟩ : ∃ y, l[k.toNat]? = some y := ⟨_, List.getElem?_eq_getElem oW⟩
    have hgd : l.getD k.toNat 0 = y := by rw [List.getD_eq_getElem?_getD, hy]; rfl
    rw [hgd]
    exact Qb1 (s := Instr.indexAt 36 (a.eval x) (a.eval i)) rfl (by rw [e3, e2]; exact QA8 _ _ _ _ _ _ q0 q1) ⟨_, rfl, ⟨s, o + k.toNat, rfl, hs, hat _ _ hy⟩, hB⟩
  rw [if_neg c4] at h; cases h
 ·rename_i op t x y yt
  have hi := Qdx (x := x) (fun d e => hx d (Qal.2 (by simp [Op.operands, e])))
  have hj := Qdx (x := y) (fun d e => hx d (Qal.2 (by simp [Op.operands, e])))
  by_cases c : t = 3 ∧ (gvA σ x).t = 1 ∧ (gvA σ y).t = 1
  ·rw [if_pos c] at h
   obtain ⟨rfl, c1, c2⟩ := c
   have e : a.eval x = .int .i64 (gvA σ x).k := hi.t c1
   have e2 : a.eval y = .int .i64 (gvA σ y).k := hj.t c2
   cases hc : Qs7 op (gvA σ x).k (gvA σ y).k with
   | some b =>
    rw [hc] at h; cases h
    exact Qbn (Qza hc yt e e2) ⟨_, rfl, rfl, hB⟩
   | none =>
    rw [hc] at h
    cases ha : Qp op (gvA σ x).k (gvA σ y).k with
    | none => rw [ha] at h; cases h
    | some k =>
     rw [ha] at h; cases h
     exact Qbn (Qzc ha yt (hp _ (by unfold Qk2; dsimp only; rw [ha])) e e2) ⟨_, rfl, rfl, hB⟩
  ·rw [if_neg c] at h
   by_cases d : t = 32 ∧ (gvA σ x).t = 14 ∧ (gvA σ y).t = 14 ∧ op = .neq
   ·rw [if_pos d] at h; cases h
    obtain ⟨rfl, d1, d2, rfl⟩ := d
    exact Qbn (Qzb yt (hi.t d1) (hj.t d2)) ⟨_, rfl, rfl, hB⟩
   rw [if_neg d] at h; cases h
 ·rename_i op t x
  have hi := Qdx (x := x) (fun d e => hx d (Qal.2 (by simp [Op.operands, e])))
  by_cases c : op = .not ∧ (gvA σ x).t = 2
  ·rw [if_pos c] at h; cases h
   obtain ⟨rfl, c⟩ := c
   have e : a.eval x = .bool (gvA σ x).b := hi.t c
   exact Qbn (Qzd t e) ⟨_, rfl, rfl, hB⟩
  ·rw [if_neg c] at h; cases h
 ·rename_i args tys
  obtain ⟨l⟩ := args
  match l, h, hx with
  | [], h, _ => cases h
  | [x], h, hx =>
   have hi := Qdx (x := x) (fun d e => hx d (Qal.2 (by simp [Op.operands, Call.operands, e])))
   dsimp only at h
   by_cases c1 : tys = #[23] ∧ (gvA σ x).t = 5 ∧ (gvA σ x).f = 1
   ·rw [if_pos c1] at h; cases h
    obtain ⟨rfl, c1⟩ := c1
    have e : a.eval x = M.lv (gvA σ x).f := hi.t c1.1
    rw [c1.2] at e
    obtain ⟨p, cap, e3, -, -, -⟩ := hG.gr.ev
    exact Qbn (Qj7 (.inl rfl) (e.trans e3)) ⟨_, rfl, rfl, hB⟩
   rw [if_neg c1] at h
   by_cases c2 : tys = #[24] ∧ (gvA σ x).t = 5 ∧ Qjk (gvA σ x).f = true
   ·rw [if_pos c2] at h; cases h
    obtain ⟨rfl, c2⟩ := c2
    have e : a.eval x = M.lv (gvA σ x).f := hi.t c2.1
    obtain ⟨p, cap, e3, -, -⟩ := Qae (hG.pls c2.2)
    exact Qbn (Qj7 (.inr (.inl rfl)) (e.trans e3)) ⟨_, rfl, rfl, hB⟩
   rw [if_neg c2] at h
   by_cases c3 : tys = #[25] ∧ (gvA σ x).t = 5 ∧ (gvA σ x).f = 3
   ·rw [if_pos c3] at h; cases h
    obtain ⟨rfl, c3⟩ := c3
    have e : a.eval x = M.lv (gvA σ x).f := hi.t c3.1
    rw [c3.2] at e
    obtain ⟨p, cap, e3, -⟩ := hG.gr.co
    exact Qbn (Qj7 (.inr (.inr (.inl rfl))) (e.trans e3)) ⟨_, rfl, rfl, hB⟩
   rw [if_neg c3] at h
   by_cases c4 : tys = #[36] ∧ (gvA σ x).t = 15
   ·rw [if_pos c4] at h; cases h
    obtain ⟨rfl, c4⟩ := c4
    obtain ⟨⟨p, cp, e⟩, -⟩ : (∃ p c, a.eval x = .slice p (M.g.co.getD (gvA σ x).f []).length c) ∧ IntsR w (a.eval x) (M.g.co.getD (gvA σ x).f []) := hi.t c4
    exact Qbn (Qj7 (.inr (.inr (.inr rfl))) e) ⟨_, rfl, rfl, hB⟩
   rw [if_neg c4] at h; cases h
  | x :: y :: l, h, _ => cases h
 ·rename_i f args tys
  obtain ⟨l⟩ := args
  match l, h, hx with
  | [], h, _ => cases h
  | [x], h, _ => cases h
  | [x, y], h, _ => cases h
  | [x, y, z], h, hx =>
   have h1 := Qdx (x := x) (fun d e => hx d (Qal.2 (by simp [Op.operands, Call.operands, e])))
   have h2 := Qdx (x := y) (fun d e => hx d (Qal.2 (by simp [Op.operands, Call.operands, e])))
   have h3 := Qdx (x := z) (fun d e => hx d (Qal.2 (by simp [Op.operands, Call.operands, e])))
   dsimp only at h
   by_cases c : (gvA σ x).t = 10 ∧ (gvA σ y).t = 1 ∧ (gvA σ z).t = 1
   ·rw [if_pos c] at h
    obtain ⟨c1, c2, c3⟩ := c
    have e1 : a.eval x = M.V.val M.g := h1.t c1
    have e2 : a.eval y = .int .i64 (gvA σ y).k := h2.t c2
    have e3 : a.eval z = .int .i64 (gvA σ z).k := h3.t c3
    by_cases d1 : f = 98
    ·subst d1; rw [if_pos rfl] at h; cases h
     exact Qb6 (Qjl e1 e2 e3 QC7) (Qpa (Qtd _ _ _ _ w hG.gr))
    rw [if_neg d1] at h
    by_cases d2 : f = 99
    ·subst d2; rw [if_pos rfl] at h; cases h
     exact Qb6 (Qjl e1 e2 e3 QB) (Qpa (Qpt _ _ _ _ w hG.gr hG.n))
    rw [if_neg d2] at h
    by_cases d3 : f = 100
    ·subst d3; rw [if_pos rfl] at h; cases h
     exact Qb6 (Qjl e1 e2 e3 QCt) (Qpa (Qh7 _ _ _ _ w hG.gr))
    rw [if_neg d3] at h; cases h
   ·rw [if_neg c] at h; cases h
  | x :: y :: z :: s :: l, h, _ => cases h
 ·cases h
end
def gE (M : Gm) : Eng Tryz.prog GV where
 Is := GIs M
 G := GG M
 isNo x := x.t == 0
 nw x := x.t == 12
 isB x := x.t == 2
 bv x := x.b
 con := Qs6
 pk b x y := if x.t = 2 ∧ y.t = 2 then some (.bo (if b then x.b else y.b)) else none
 opR := Qwy M
 pre := Qk2 M
 mono := GIs.mono
 gmono := GG.mono
 any := fun {_ _ x _} h => by
  obtain ⟨t, k, b, f, p, e⟩ := x
  have : t = 0 := by simpa using h
  subst this
  exact trivial
 chg := fun {_ _ _ x _} h hi => by
  obtain ⟨t, k, b, f, p, e⟩ := x
  unfold GIs at hi ⊢
  dsimp only at hi ⊢
  split at hi
  case h_11 => simp at h
  all_goals exact hi
 bool := fun {N w x v} h hi => (show GIs M N w x v from hi).t (k := 2) (by simpa using h)
 conOk := Qr7
 pkOk := fun {N w b x y z v} h hi => by
  by_cases c : x.t = 2 ∧ y.t = 2
  ·rw [if_pos c] at h; cases h
   cases b
   ·exact (show GIs M N w y v from hi).t c.2
   ·exact (show GIs M N w x v from hi).t c.1
  ·rw [if_neg c] at h; cases h
 ok := fun hG hN h hp hx => QBa hG hN h hp hx
section
variable {M : Gm} {T : Nat} {w0 : World} {σ : Nat → GV} {ops : Array Oper} {Q : Exit → Act → World → Prop} {id : Nat} {b : Bool}
theorem QCu {m : Nat} {p : Int × Int} (w : World) (hb : Blk w m 30 #[.int .i64 0, .int .i64 0]) : (Instr.storeAt 30 (pv m) (.agg #[.int .i64 p.1, .int .i64 p.2])).run Tryz.prog w = .ok () ((w.setCell ⟨m, 0, none⟩ (.int .i64 p.1)).setCell ⟨m, 1, none⟩ (.int .i64 p.2)) := by
 have c0 : w.cell? ⟨m, 0, none⟩ = some (.int .i64 0) := hb.cell rfl
 have c1 : w.cell? ⟨m, 1, none⟩ = some (.int .i64 0) := hb.cell rfl
 have f0 := hb.frozen 0
 have f1 := hb.frozen 1
 clear hb
 go_simp
theorem Qms (n d k : Nat) (p : Int × Int) (hs : ops.size = n + 1) (hok : okR ops n (n + 1) T = true) (hC : (gE M).sucT ops (ops.toList.take n) σ = true) (hV : (gE M).vcT ops ((gE M).goT (ops.toList.take n) σ) (ops.toList.take n) (gds ops) σ)
  (hL : ∃ ol, ops[n]? = some ol ∧ ol.guard = none ∧ ol.dst = none ∧ ol.op = .store 30 (.tmp d) (.tmp k)) (hW : Qy7 ops n = true)
  (hd : (gE M).goT (ops.toList.take n) σ d = .at 12 0) (hk : (gE M).goT (ops.toList.take n) σ k = ⟨9, 0, false, 0, p, Ev.zero⟩) (hσ : Qt1 (gE M).isNo ops n [(d, .pp p)] σ = true)
  (fin : ∀ a w, (gE M).Ga T w0 (Qb7 σ [(d, .pp p)]) a w → Q .normal a w) : ∀ a w, (gE M).Ga T w0 σ a w → (Code.region id ops b).wp Tryz.prog Q a w := by
 intro a1 w1 h1
 obtain ⟨ol, k1, k2, k3, k4⟩ := hL
 refine Eng.reg_last kW n hs hok hC hV k1 k2 hW (fun c x y e => by rw [k4] at e; cases e) h1 (fun L' a w hM _ hops => ?_)
 have vd : GIs M w1.heap.size w ((gE M).goT (ops.toList.take n) σ d) (a.eval (.tmp d)) := hops d (Qal.2 (by rw [k4]; simp [Op.operands]))
 have vk : GIs M w1.heap.size w ((gE M).goT (ops.toList.take n) σ k) (a.eval (.tmp k)) := hops k (Qal.2 (by rw [k4]; simp [Op.operands]))
 rw [hd] at vd
 rw [hk] at vk
 obtain ⟨m, vd, hN, hB⟩ : ∃ b, a.eval (.tmp d) = pv b ∧ w1.heap.size ≤ b ∧ Blk w b 30 #[.int .i64 0, .int .i64 0] := vd
 have vk : a.eval (.tmp k) = .agg #[.int .i64 p.1, .int .i64 p.2] := vk
 obtain ⟨dst, op, ty, pos, af, gd⟩ := ol
 dsimp only at k3 k4
 subst k3 k4
 have hb : Below w1.heap.size w1 ((w.setCell ⟨m, 0, none⟩ (.int .i64 p.1)).setCell ⟨m, 1, none⟩ (.int .i64 p.2)) := (hM.low.setCell (p := ⟨m, 0, none⟩) hN _).setCell (p := ⟨m, 1, none⟩) hN _
 have hz := (hB.set 0 (.int .i64 p.1)).set 1 (.int .i64 p.2)
 simp only [List.setIfInBounds_toArray, List.set_cons_zero, List.set_cons_succ] at hz
 refine wp_skip (w' := (w.setCell ⟨m, 0, none⟩ (.int .i64 p.1)).setCell ⟨m, 1, none⟩ (.int .i64 p.2)) ?_ (fin _ _ ⟨h1.low.trans (hb.mono h1.low.size), GG.mono h1.g hb, fun x => ?_, fun x => ?_, hM.sz, hM.df⟩)
 ·have e2 : (execOp a.eval ⟨none, .store 30 (.tmp d) (.tmp k), ty, pos, af, gd⟩).run Tryz.prog w = (do Instr.storeAt 30 (a.eval (.tmp d)) (a.eval (.tmp k)); pure Next.skip : Sem Next).run Tryz.prog w := rfl
  rw [e2, vd, vk, Sem.run_bind, QCu w hB]
  rfl
 ·show GIs M 0 _ (Qb7 σ [(d, .pp p)] x) (a.eval (.tmp x))
  rcases Qct (σ := σ) (ks := [(d, .pp p)]) (x := x) with ⟨q, h2, rfl, h4⟩ | ⟨h2, h3⟩
  ·obtain rfl := List.mem_singleton.1 h2
   rw [h4, vd]
   exact ⟨m, 0, rfl, hz.lt, hz.cell rfl, hz.cell rfl⟩
  ·rw [h3]
   by_cases hw : ∃ j, j < n ∧ Qbe ops j = some x
   ·obtain ⟨i, hi, hd⟩ := hw
    exact (gE M).any (Qqi hσ hi hd h2)
   ·rw [hM.rest x (fun i hi _ hd => hw ⟨i, hi, hd⟩)]
    exact GIs.mono (h1.is x) hb
 ·rcases Qct (σ := σ) (ks := [(d, .pp p)]) (x := x) with ⟨q, h2, rfl, h4⟩ | ⟨h2, h3⟩
  ·obtain rfl := List.mem_singleton.1 h2
   rw [h4]
   rfl
  ·rw [h3]
   exact h1.nw x
theorem Qo4 {P : Program} {A : Type} {E : Eng P A} {T : Nat} {w0 w : World} {a : Act} (no : A) (ks : List (Nat × A)) (h0 : E.isNo no = true) (hn : E.nw no = false) (hl : Below w0.heap.size w0 w) (hG : E.G w) (hk : ∀ p ∈ ks, E.Is 0 w p.2 (a.eval (.tmp p.1)) ∧ E.nw p.2 = false) (hs : a.tmps.size = T) (hd : a.defers = []) : E.Ga T w0 (Qb7 (fun _ => no) ks) a w := by
 refine ⟨hl, hG, fun d => ?_, fun d => ?_, hs, hd⟩
 ·rcases Qct (σ := fun _ => no) (ks := ks) (x := d) with ⟨p, h1, rfl, h3⟩ | ⟨-, h2⟩
  ·rw [h3]; exact (hk p h1).1
  ·rw [h2]; exact E.any h0
 ·rcases Qct (σ := fun _ => no) (ks := ks) (x := d) with ⟨p, h1, rfl, h3⟩ | ⟨-, h2⟩
  ·rw [h3]; exact (hk p h1).2
  ·rw [h2]; exact hn
end
theorem Qkl {P : Ev → Bool} {l : List Ev} : ∀ {n r : Nat}, r < n → P (l.getD r Ev.zero) = true → (Qa9 P l n)[(Qa9 P l r).length]? = some r
 | 0, r, h, _ => by omega
 | n + 1, r, h, hp => by
  have hs : Qa9 P l (n + 1) = Qa9 P l n ++ (if P (l.getD n Ev.zero) then [n] else []) := by
   unfold Qa9
   rw [List.range_succ, List.filter_append, List.filter_cons, List.filter_nil]
  rw [hs]
  by_cases e : r = n
  ·subst e
   rw [if_pos hp, List.getElem?_append_right nW, Nat.sub_self]
   rfl
  ·have ih := Qkl (P := P) (l := l) (n := n) (r := r) oW hp
   rw [List.getElem?_append_left (List.getElem?_eq_some_iff.1 ih).1]
   exact ih
def rdP : Ev → Bool := fun e => e.k == 1
theorem Qu0 {l : List Ev} {r : Nat} (h : (l.getD r Ev.zero).k = 1) : (Qa9 rdP l (r + 1)).length = (Qa9 rdP l r).length + 1 := by
 unfold Qa9
 have : rdP (l.getD r Ev.zero) = true := by unfold rdP; rw [h]; rfl
 rw [List.range_succ, List.filter_append, List.filter_cons, List.filter_nil, if_pos this, List.length_append]
 rfl
theorem Qwz {l : List Ev} {r : Nat} (h : (l.getD r Ev.zero).k ≠ 1) : Qa9 rdP l (r + 1) = Qa9 rdP l r := by
 unfold Qa9
 have : rdP (l.getD r Ev.zero) = false := by unfold rdP; rw [beq_eq_false_iff_ne]; exact h
 rw [List.range_succ, List.filter_append, List.filter_cons, List.filter_nil, if_neg (by rw [this]; simp), List.append_nil]
def ok4 (g : Gr) (i : Nat) : Bool := Qb0 g i (g.rf.getD i (0, 0)) && Qcp g (g.rf.getD i (0, 0))
theorem Qpb {g : Gr} {k : Nat} (hk : k < g.rf.length) (h : ∀ j, j < k → ok4 g j = true) (hn : ok4 g k = false) : Qbt g = (k : Int) := by
 have : Qak (fun i => !(Qb0 g i (g.rf.getD i (0, 0)) && Qcp g (g.rf.getD i (0, 0)))) 0 g.rf.length = (k : Int) := Qaz (Nat.zero_le _) oW (fun j _ hj => by have := h j hj; unfold ok4 at this; rw [this]; rfl) (by unfold ok4 at hn; rw [hn]; rfl)
 unfold Qbt
 rw [this, if_neg oW]
theorem Qpc {g : Gr} (h : ∀ j, j < g.rf.length → ok4 g j = true) : Qbt g = (if g.rf.length < g.reads.length then (g.rf.length : Int) else -1) := by
 have : Qak (fun i => !(Qb0 g i (g.rf.getD i (0, 0)) && Qcp g (g.rf.getD i (0, 0)))) 0 g.rf.length = -1 := Qai (fun j _ hj => by have := h j oW; unfold ok4 at this; rw [this]; rfl)
 unfold Qbt
 rw [this, if_pos rfl]
theorem Qdu {p q : Bool} (e : p = q) (h : p = true) : q = true := e ▸ h
theorem Qcd {p q : Prop} (e : p = q) (h : p) : q := e ▸ h
theorem Qjm {evs : List Ev} {a : Int} {ks : List Int} (h : isB evs a ks = true) : 0 ≤ a ∧ a < (evs.length : Int) := by
 obtain ⟨n, rfl, hn⟩ := Qbw h
 omega
abbrev gM (w : World) (V : GrV) (g : Gr) : Gm := ⟨w.heap.size, V, g, V.rf, g.rf⟩
abbrev s1 : Nat → GV := Qb7 (fun _ => GV.at 0 0) [(1, GV.at 3 0)]
theorem Ql1 {M : Gm} {T : Nat} {w0 w : World} {σ : Nat → GV} {a : Act} (h : (gE M).Ga T w0 σ a w) (d : Nat) (q : Bool) (e : σ d = GV.bo q) : a.eval (.tmp d) = .bool q := by
 have h1 : GIs M 0 w (σ d) (a.eval (.tmp d)) := h.is d
 rw [e] at h1
 exact h1
def rfC (g : Gr) (rr : Nat) (p : Int × Int) : Bool := if (p.2 != ((rr : Nat) : Int)) then true else !isB g.evs p.1 [2]
def rfX (g : Gr) (rr : Nat) (p : Int × Int) : Bool :=
 if (if rfC g rr p then true else ((g.evs.getD p.1.toNat Ev.zero).l != (g.evs.getD rr Ev.zero).l)) then true else ((g.evs.getD p.1.toNat Ev.zero).v != (g.evs.getD rr Ev.zero).v)
theorem Qu1 {g : Gr} {rr : Nat} {p : Int × Int} (h : rfC g rr p = false) : isB g.evs p.1 [2] = true := by
 unfold rfC at h
 cases h1 : isB g.evs p.1 [2] <;> simp [h1] at h ⊢
theorem QBb {g : Gr} {kk rr : Nat} (h1 : kk < g.reads.length) (h2 : g.reads.getD kk 0 = rr) : rfX g rr (g.rf.getD kk (0, 0)) = !ok4 g kk := by
 unfold rfX rfC ok4 Qb0 Qcp Gr.ev
 rw [h2, decide_eq_true h1, Bool.true_and]
 generalize g.rf.getD kk (0, 0) = p
 by_cases e : p.2 = (rr : Int)
 ·rw [e, Int.toNat_natCast, decide_eq_true rfl, Bool.true_and]
  have e3 : ∀ x y : Int, (x != y) = !decide (x = y) := fun x y => by by_cases h : x = y <;> simp [h]
  rw [e3, e3, e3, decide_eq_true rfl]
  cases isB g.evs p.1 [2] <;> cases decide ((g.evs.getD p.1.toNat Ev.zero).l = (g.evs.getD rr Ev.zero).l) <;> cases decide ((g.evs.getD p.1.toNat Ev.zero).v = (g.evs.getD rr Ev.zero).v) <;> rfl
 ·have e4 : (p.2 != (rr : Int)) = true := by simp [e]
  rw [e4, decide_eq_false e]
  rfl
abbrev sr (kk rr : Nat) : List (Nat × GV) := [(1, GV.at 3 0), (3, GV.nu ((kk : Nat) : Int)), (4, GV.nu ((rr : Nat) : Int))]
theorem Qs8 (V : GrV) (g : Gr) (w : World) (h : GrR w V g) (hl256 : g.evs.length ≤ 256) : Calls Tryz.prog 38 #[V.val g] w fun r w' => r = .returned (.int .i64 (Qbt g)) ∧ Below w.heap.size w w' := by
 obtain ⟨p4, k4, e4, -, hr4⟩ := Qae h.rf
 have H := Qa h
 have hB : Below w.heap.size w (w.alloc (.cells (V.gs g) 27)) := bW.alloc nW _
 have HB := Qa hB
 have HR := Qa hr4
 clear h hB e4 hr4
 unfold GrV.val
 go_enter Tryz.func38, Tryz.ntmps38
 go_upto_region 1 with fail
 rename_i hK
 refine Eng.reg_keep (E := gE (gM w V g)) (T := 83) (w0 := w) (σ := s1) [(3, GV.nu ((0 : Nat) : Int))] byK byK byK byT byK byK byK (fun a w1 h => hK a w1 ?_) _ _
  (Qo4 (E := gE (gM w V g)) (GV.at 0 0) [(1, GV.at 3 0)] rfl rfl HB.out ⟨H.out.below HB.out, Blk.new w _ _, H.out.rf.below HB.out, hl256⟩ (by intro p hp; obtain rfl := List.mem_singleton.1 hp; exact ⟨rfl, rfl⟩) rfl rfl)
 refine wp_seq (wp_seq (Eng.reg_keep (E := gE (gM w V g)) [(4, GV.nu ((0 : Nat) : Int))] byK byK byK byT byK byK byK (fun a w1 h => ?_) a w1 h))
 refine Qgr g.evs.length (fun rr a w1 => ∃ kk, kk = (Qa9 rdP g.evs rr).length ∧ kk ≤ g.rf.length ∧ (∀ j, j < kk → ok4 g j = true) ∧ (gE (gM w V g)).Ga 83 w (Qb7 (fun _ => GV.at 0 0) (sr kk rr)) a w1) ⟨0, rfl, Nat.zero_le _, fun j hj => absurd hj oW, h.to (GV.at 0 0) (sr 0 0) rfl rfl byK⟩ ?_
 rintro rr a w1 hrr ⟨kk, hkk, hkl, hall, h⟩
 refine Eng.reg_keep (E := gE (gM w V g)) [(10, GV.bo (decide (((rr : Nat) : Int) < (g.evs.length : Int))))] byK byK byK byT byK byK byK (fun a w1 h => ?_) a w1 h
 have hrl : Hid (g.reads = Qa9 rdP g.evs g.evs.length) := rfl
 refine ⟨_, Ql1 h 10 (decide (((rr : Nat) : Int) < (g.evs.length : Int))) byK, fun hq => ?_, fun hq => ⟨by simpa using hq, ?_⟩⟩
 case refine_1 =>
  obtain rfl : rr = g.evs.length := by have : ¬ rr < g.evs.length := (by simpa using hq); omega
  have hrd : kk = g.reads.length := by rw [hrl.out]; exact hkk
  refine wp_seq (wp_seq (Eng.reg_keep (E := gE (gM w V g)) [(81, GV.bo (decide (((kk : Nat) : Int) < (g.rf.length : Int))))] byK byK byK byT byK byK byK (fun a w1 h => ?_) a w1 h))
  refine Eng.condk (E := gE (gM w V g)) 81 (decide (((kk : Nat) : Int) < (g.rf.length : Int))) (decide (((kk : Nat) : Int) < (g.rf.length : Int))) byK byK rfl (fun hq a w1 h => ?_) (fun hq a w1 h => Go.wp_skip ?_) a w1 h
  ·have hlt : kk < g.rf.length := by simpa using hq
   refine wp_seq (Eng.reg_ret (E := gE (gM w V g)) (fn := Tryz.f38) (R := fun r w' => r = .returned (.int .i64 (Qbt g)) ∧ Below w.heap.size w w') 2 (GV.nu ((kk : Nat) : Int)) byK byK byK byT byK byK rfl (fun a w h => by exact wp_ret h) ?_ a w1 h)
   intro N w' v hl hG hv
   have hv : v = .int .i64 (kk : Int) := hv
   refine ⟨by rw [hv, Qpb hlt hall (by unfold ok4 Qb0; rw [decide_eq_false oW]; rfl)], hl⟩
  ·have hge : ¬ kk < g.rf.length := by simpa using hq
   refine wp_seq (Eng.reg_ret (E := gE (gM w V g)) (fn := Tryz.f38) (R := fun r w' => r = .returned (.int .i64 (Qbt g)) ∧ Below w.heap.size w w') 2 (GV.nu (-1)) byK byK byK byT byK byK rfl (fun a w h => by exact wp_ret h) ?_ a w1 h)
   intro N w' v hl hG hv
   have hv : v = .int .i64 (-1) := hv
   refine ⟨by rw [hv, Qpc (fun j hj => hall j oW), if_neg oW], hl⟩
 case refine_2 =>
  have hrn : rr < g.evs.length := by simpa using hq
  have i0 : 0 ≤ (rr : Int) ∧ (rr : Int) < (g.evs.length : Int) := ⟨oW, oW⟩
  have hR := HR.out
  replace h := h.to (GV.at 0 0) (sr kk rr) rfl rfl byK
  refine wp_seq (wp_seq (Eng.reg_keep (E := gE (gM w V g)) [(19, GV.bo ((g.evs.getD rr Ev.zero).k != 1))] byK byK byK (Qe6 (p := (true = true → (0 ≤ ((rr : Nat) : Int) ∧ ((rr : Nat) : Int) < (g.evs.length : Int))) ∧ True) byK ⟨fun _ => i0, trivial⟩) byK byK byK (fun a w1 h => ?_) a w1 h))
  refine Eng.condk (E := gE (gM w V g)) 19 ((g.evs.getD rr Ev.zero).k != 1) ((g.evs.getD rr Ev.zero).k != 1) byK byK rfl (fun hq a w1 h => ?_) (fun hq a w1 h => Go.wp_skip ?_) a w1 h
  ·have hne : (g.evs.getD rr Ev.zero).k ≠ 1 := by simpa using hq
   refine wp_exit (Qvq (Qzr ?_))
   refine Eng.reg_keep (E := gE (gM w V g)) [(4, GV.nu (((rr + 1 : Nat)) : Int))] byK byK byK (Qe6 (p := (true = true → ((-9223372036854775808 : Int) ≤ ((rr : Nat) : Int) + 1 ∧ ((rr : Nat) : Int) + 1 < 9223372036854775808)) ∧ True) byK ⟨fun _ => ⟨oW, oW⟩, trivial⟩) byK byK byK (fun a w1 h => ⟨kk, by rw [Qwz hne]; exact hkk, hkl, hall, ?_⟩) a w1 h
   exact h.to (GV.at 0 0) (sr kk (rr + 1)) rfl rfl byK
  ·have hk1 : (g.evs.getD rr Ev.zero).k = 1 := by simpa using hq
   have hrd : (Qa9 rdP g.evs g.evs.length)[kk]? = some rr := by rw [hkk]; exact Qkl hrn (by show ((g.evs.getD rr Ev.zero).k == 1) = true; rw [hk1]; rfl)
   have hd1 : kk < g.reads.length := by rw [hrl.out]; exact (List.getElem?_eq_some_iff.1 hrd).1
   have hd2 : g.reads.getD kk 0 = rr := by rw [hrl.out, List.getD_eq_getElem?_getD, hrd]; rfl
   have hsu : kk + 1 = (Qa9 rdP g.evs (rr + 1)).length := by rw [Qu0 hk1, hkk]
   replace h := h.to (GV.at 0 0) (sr kk rr) rfl rfl byK
   refine wp_seq (wp_seq (Eng.reg_keep (E := gE (gM w V g)) [(24, GV.bo (decide (((kk : Nat) : Int) ≥ (g.rf.length : Int))))] byK byK byK byT byK byK byK (fun a w1 h => ?_) a w1 h))
   refine Eng.condk (E := gE (gM w V g)) 24 (decide (((kk : Nat) : Int) ≥ (g.rf.length : Int))) (decide (((kk : Nat) : Int) ≥ (g.rf.length : Int))) byK byK rfl (fun hq a w1 h => ?_) (fun hq a w1 h => Go.wp_skip ?_) a w1 h
   ·have hge : g.rf.length ≤ kk := by simpa using hq
    refine wp_seq (Eng.reg_ret (E := gE (gM w V g)) (fn := Tryz.f38) (R := fun r w' => r = .returned (.int .i64 (Qbt g)) ∧ Below w.heap.size w w') 2 (GV.nu ((kk : Nat) : Int)) byK byK byK byT byK byK rfl (fun a w h => by exact wp_ret h) ?_ a w1 h)
    intro N w' v hl hG hv
    have hv : v = .int .i64 (kk : Int) := hv
    have e : kk = g.rf.length := by omega
    refine ⟨by rw [hv, Qpc (fun j hj => hall j oW), if_pos oW, e], hl⟩
   ·have hlt : kk < g.rf.length := by have : ¬ g.rf.length ≤ kk := (by simpa using hq); omega
    have i1 : 0 ≤ (kk : Int) ∧ (kk : Int) < (g.rf.length : Int) := ⟨oW, oW⟩
    have hX := QBb hd1 hd2
    replace h := h.to (GV.at 0 0) (sr kk rr) rfl rfl byK
    refine wp_seq (Qms 6 5 30 (g.rf.getD kk (0, 0)) rfl byK byK (Qe6 (p := (true = true → (0 ≤ ((kk : Nat) : Int) ∧ ((kk : Nat) : Int) < (g.rf.length : Int))) ∧ True) byK ⟨fun _ => i1, trivial⟩) ⟨_, rfl, rfl, rfl, rfl⟩ byK byK byK byK (fun a w1 h => ?_) a w1 h)
    refine wp_seq (wp_seq (Eng.reg_keep (E := gE (gM w V g)) [(73, GV.bo (rfX g rr (g.rf.getD kk (0, 0))))] byK byK byK ?_ byK byK byK (fun a w1 h => ?_) a w1 h))
    ·refine ⟨fun c => ?_, fun c => ?_, fun c => ?_, fun c => ?_, trivial⟩
     ·have c : (rfC g rr (g.rf.getD kk (0, 0)) == false && true) = true := Qdu kW c
      exact Qcd kW (Qjm (Qu1 (by simpa using c)))
     ·exact Qcd (p := 0 ≤ (rr : Int) ∧ (rr : Int) < (g.evs.length : Int)) kW i0
     ·have c : ((if rfC g rr (g.rf.getD kk (0, 0)) then true else ((g.evs.getD (g.rf.getD kk (0, 0)).1.toNat Ev.zero).l != (g.evs.getD rr Ev.zero).l)) == false && true) = true := Qdu kW c
      have c2 : rfC g rr (g.rf.getD kk (0, 0)) = false := by cases hc : rfC g rr (g.rf.getD kk (0, 0)); rfl; rw [hc] at c; simp at c
      exact Qcd kW (Qjm (Qu1 c2))
     ·exact Qcd (p := 0 ≤ (rr : Int) ∧ (rr : Int) < (g.evs.length : Int)) kW i0
    refine Eng.condk (E := gE (gM w V g)) 73 (rfX g rr (g.rf.getD kk (0, 0))) (rfX g rr (g.rf.getD kk (0, 0))) byK byK rfl (fun hq a w1 h => ?_) (fun hq a w1 h => Go.wp_skip ?_) a w1 h
    ·refine wp_seq (Eng.reg_ret (E := gE (gM w V g)) (fn := Tryz.f38) (R := fun r w' => r = .returned (.int .i64 (Qbt g)) ∧ Below w.heap.size w w') 2 (GV.nu ((kk : Nat) : Int)) byK byK byK byT byK byK rfl (fun a w h => by exact wp_ret h) ?_ a w1 h)
     intro N w' v hl hG hv
     have hv : v = .int .i64 (kk : Int) := hv
     rw [hX] at hq
     exact ⟨by rw [hv, Qpb hlt hall (by simpa using hq)], hl⟩
    ·rw [hX] at hq
     have hok : ok4 g kk = true := by simpa using hq
     refine Eng.reg_keep (E := gE (gM w V g)) [(3, GV.nu (((kk + 1 : Nat)) : Int))] byK byK byK (Qe6 (p := (true = true → ((-9223372036854775808 : Int) ≤ ((kk : Nat) : Int) + 1 ∧ ((kk : Nat) : Int) + 1 < 9223372036854775808)) ∧ True) byK ⟨fun _ => ⟨oW, oW⟩, trivial⟩) byK byK byK (fun a w1 h => ?_) a w1 h
     replace h := h.to (GV.at 0 0) (sr (kk + 1) rr) rfl rfl byK
     refine Eng.reg_keep (E := gE (gM w V g)) [(4, GV.nu (((rr + 1 : Nat)) : Int))] byK byK byK (Qe6 (p := (true = true → ((-9223372036854775808 : Int) ≤ ((rr : Nat) : Int) + 1 ∧ ((rr : Nat) : Int) + 1 < 9223372036854775808)) ∧ True) byK ⟨fun _ => ⟨oW, oW⟩, trivial⟩) byK byK byK (fun a w1 h => ⟨kk + 1, hsu, oW, fun j hj => ?_, ?_⟩) a w1 h
     ·by_cases e : j = kk
      ·rw [e]; exact hok
      ·exact hall j oW
     ·exact h.to (GV.at 0 0) (sr (kk + 1) (rr + 1)) rfl rfl byK
theorem Qe3 : ∀ (b a : List Int), a.Pairwise (· < ·) → b.Pairwise (· < ·) → (∀ x ∈ a, x ∈ b) → a.Sublist b
 | [], a, _, _, h => by
  cases a with
  | nil => exact List.Sublist.slnil
  | cons x a => exact absurd (h x sW) sW
 | y :: b, [], _, _, _ => List.nil_sublist _
 | y :: b, x :: a, ha, hb, h => by
  obtain ⟨ha1, ha2⟩ := List.pairwise_cons.1 ha
  obtain ⟨hb1, hb2⟩ := List.pairwise_cons.1 hb
  by_cases e : x = y
  ·subst e
   refine List.Sublist.cons_cons x (Qe3 b a ha2 hb2 (fun z hz => ?_))
   have h1 := h z (by simp [hz])
   have h2 := ha1 z hz
   rcases List.mem_cons.1 h1 with rfl | h3
   ·omega
   ·exact h3
  ·have hx : x ∈ b := by
    rcases List.mem_cons.1 (h x sW) with h1 | h1
    ·exact absurd h1 e
    ·exact h1
   have hy := hb1 x hx
   refine List.Sublist.cons y (Qe3 b (x :: a) ha hb2 (fun z hz => ?_))
   rcases List.mem_cons.1 (h z hz) with h1 | h1
   ·rcases List.mem_cons.1 hz with h2 | h2
    ·omega
    ·have := ha1 z h2; omega
   ·exact h1
theorem Qih (g : Gr) (c : Int) (k : Nat) : (wrs g c k).Pairwise (· < ·) := by
 unfold wrs
 rw [List.pairwise_map]
 refine List.Pairwise.imp (R := (· < ·)) (fun {a b} h => by omega) ?_
 exact List.Pairwise.filter _ List.pairwise_lt_range
theorem Qr8 (l : List Int) : (Qc1 l).Pairwise (· ≤ ·) := by
 unfold Qc1
 have := List.pairwise_mergeSort (le := fun x y : Int => decide (x ≤ y)) (by intro a b c; simp; omega) (by intro a b; simp; omega) l
 exact this.imp (fun h => by simpa using h)
theorem Qjn (l : List Int) : (Qc1 l).Perm l := by unfold Qc1; exact List.mergeSort_perm l _
theorem Qpd {l : List Int} (h : l.Pairwise (· ≤ ·)) (hn : l.Nodup) : l.Pairwise (· < ·) := by
 have := List.Pairwise.and h hn
 exact this.imp (fun ⟨h1, h2⟩ => by omega)
def Qs9 (g : Gr) (c : Int) (l : List Int) : Prop := (∀ (i : Nat) (x : Int), l[i]? = some x → ∃ n : Nat, x = ((n : Nat) : Int) ∧ n < g.evs.length ∧ Qc2 g c n = true) ∧ ∀ (i j : Nat) (x : Int), j < i → l[i]? = some x → l[j]? ≠ some x
theorem Qw0 {l : List Int} (h : ∀ (i j : Nat) (x : Int), j < i → l[i]? = some x → l[j]? ≠ some x) : l.Nodup := by
 rw [List.Nodup, List.pairwise_iff_getElem]
 intro i j hi hj hij e
 exact h j i l[j] hij (List.getElem?_eq_getElem hj) (by rw [List.getElem?_eq_getElem hi, e])
theorem Qnt {g : Gr} {c : Int} {l : List Int} (hl : l.length = (wrs g c g.evs.length).length) (h0 : l.getD 0 0 = c) (h : Qs9 g c l) : Qau l c (wrs g c g.evs.length) = true := by
 have hm : ∀ x ∈ Qc1 l, x ∈ wrs g c g.evs.length := fun x hx => by
  obtain ⟨i, hi, e⟩ := List.mem_iff_getElem.1 (Qik.1 hx)
  obtain ⟨n, hn, h1, h2⟩ := h.1 i x (by rw [List.getElem?_eq_getElem hi, e])
  exact Qdr.2 ⟨n, hn, h1, h2⟩
 have hr := Qpd (Qr8 l) ((Qjn l).nodup_iff.2 (Qw0 h.2))
 have hs := Qe3 _ _ hr (Qih g c _) hm
 have he := hs.eq_of_length (by rw [Qii, hl])
 unfold Qau
 rw [decide_eq_true hl, decide_eq_true h0, decide_eq_true he]
 rfl
theorem Qnu {g : Gr} {c : Int} {l : List Int} (h : Qau l c (wrs g c g.evs.length) = true) : l.length = (wrs g c g.evs.length).length ∧ l.getD 0 0 = c ∧ Qs9 g c l := by
 obtain ⟨h1, h2, h3⟩ := Qg3 h
 refine ⟨h1, h2, fun i x hx => ?_, fun i j x hij hx hy => ?_⟩
 ·have : x ∈ Qc1 l := Qik.2 (List.mem_of_getElem? hx)
  rw [h3] at this
  obtain ⟨n, e, hn, hw⟩ := Qdr.1 this
  exact ⟨n, e, hn, hw⟩
 ·have hn : l.Nodup := by
   rw [← (Qjn l).nodup_iff, h3]
   exact (Qih g c _).imp (fun h => by omega)
  rw [List.Nodup, List.pairwise_iff_getElem] at hn
  obtain ⟨hi, e1⟩ := List.getElem?_eq_some_iff.1 hx
  obtain ⟨hj, e2⟩ := List.getElem?_eq_some_iff.1 hy
  exact hn j i hj hi hij (by rw [e1, e2])
def ok6 (g : Gr) (i : Nat) : Bool := Qcz g.rmw i && (isB g.evs (g.rmw.getD i (0, 0)).1 [1] && (isB g.evs (g.rmw.getD i (0, 0)).2 [2] && (Qim g.evs (g.rmw.getD i (0, 0)).1 (g.rmw.getD i (0, 0)).2 && decide ((g.ev (g.rmw.getD i (0, 0)).1.toNat).l = (g.ev (g.rmw.getD i (0, 0)).2.toNat).l))))
def Qg0 (g : Gr) : Prop := ∀ i, i < g.evs.length → (g.ev i).k = 1 → 0 ≤ (g.ev i).t
theorem Qu2 {g : Gr} {q : Bool} (h2 : Qcg g q = -1) (h3 : Qdc g q = -1) : Qg0 g := fun i hi hk => by
 by_cases hc : (i : Int) < g.cells
 ·rw [Qjp h2 hc] at hk
  simp [Qdl] at hk
 ·have := Ql2 h3 oW hi
  unfold Qbm at this
  simp at this
  omega
theorem Qu3 {g : Gr} (ht : Qg0 g) {a b : Nat} (ha : a < g.evs.length) (hb : b < g.evs.length) (hk : (g.ev a).k = 1) : Qej g.evs ((a : Nat) : Int) ((b : Nat) : Int) = poB g.evs a b := by
 have h0 := ht a ha hk
 unfold Qej poB
 rw [Int.toNat_natCast, Int.toNat_natCast]
 have e0 : (g.evs.getD a Ev.zero).t = (g.ev a).t := rfl
 have e1 : (g.evs.getD b Ev.zero).t = (g.ev b).t := rfl
 rw [e0, e1, decide_eq_true (by omega : (0 : Int) ≤ (a : Int)), decide_eq_true (by omega : (b : Int) < (g.evs.length : Int)), decide_eq_true h0, decide_eq_true (by omega : (g.ev a).t ≠ -1)]
 have : decide ((a : Int) < (b : Int)) = decide (a < b) := by rw [decide_eq_decide]; omega
 rw [this]
 simp
theorem Qk3 {g : Gr} (ht : Qg0 g) (i : Nat) : ok6 g i = (Qcz g.rmw i && okU g.evs (g.rmw.getD i (0, 0))) := by
 unfold ok6 okU Qfm
 generalize g.rmw.getD i (0, 0) = p
 obtain ⟨pa, pb⟩ := p
 dsimp only
 cases h1 : isB g.evs pa [1]
 ·simp
 ·cases h2 : isB g.evs pb [2]
  ·simp
  ·obtain ⟨a, rfl, ha⟩ := Qbw h1
   obtain ⟨b, rfl, hb⟩ := Qbw h2
   have hk : (g.ev a).k = 1 := by
    unfold isB at h1
    simp at h1
    exact h1.2
   unfold Qim
   rw [Qu3 ht ha hb hk, Int.toNat_natCast, Int.toNat_natCast]
   have e0 : (g.evs.getD a Ev.zero) = (g.ev a) := rfl
   have e1 : (g.evs.getD b Ev.zero) = (g.ev b) := rfl
   rw [e0, e1]
   cases poB g.evs a b <;> cases decide ((g.ev a).l = (g.ev b).l) <;> cases ((Qda g.evs a b).any fun e => e.t == (g.ev a).t) <;> simp
theorem Qw1 {g : Gr} (ht : Qg0 g) {k : Nat} (hk : k < g.rmw.length) (h : ∀ j, j < k → ok6 g j = true) (hn : ok6 g k = false) : Qdb g = (k : Int) := by
 unfold Qdb
 refine Qaz (Nat.zero_le _) oW (fun j _ hj => ?_) ?_
 ·have := h j hj; rw [Qk3 ht] at this; rw [this]; rfl
 ·rw [Qk3 ht] at hn; rw [hn]; rfl
theorem Qw2 {g : Gr} (ht : Qg0 g) (h : ∀ j, j < g.rmw.length → ok6 g j = true) : Qdb g = -1 := by
 unfold Qdb
 refine Qai (fun j _ hj => ?_)
 have := h j oW; rw [Qk3 ht] at this; rw [this]; rfl
def Qmt (g : Gr) (k : Nat) (p q : Int × Int) : Bool :=
 if (if (if (if decide (((k : Nat) : Int) > 0) then decide (p.1 ≤ q.1) else false) then true else !isB g.evs p.1 [1]) then true else !isB g.evs p.2 [2]) then true else !Qim g.evs p.1 p.2
def Qpe (g : Gr) (k : Nat) (p q : Int × Int) : Bool :=
 if Qmt g k p q then true else ((g.evs.getD p.1.toNat Ev.zero).l != (g.evs.getD p.2.toNat Ev.zero).l)
theorem Qr9 {g : Gr} {k : Nat} {p q : Int × Int} (h : Qmt g k p q = false) : isB g.evs p.1 [1] = true ∧ isB g.evs p.2 [2] = true := by
 unfold Qmt at h
 cases h1 : isB g.evs p.1 [1] <;> cases h2 : isB g.evs p.2 [2] <;> simp [h1, h2] at h ⊢
theorem Qs (g : Gr) (k : Nat) : Qpe g k (g.rmw.getD k (0, 0)) (g.rmw.getD (((k : Nat) : Int) - 1).toNat (0, 0)) = !ok6 g k := by
 have e : ((k : Int) - 1).toNat = k - 1 := by omega
 have e2 : (if decide ((k : Int) > 0) then decide ((g.rmw.getD k (0, 0)).1 ≤ (g.rmw.getD (k - 1) (0, 0)).1) else false) = !Qcz g.rmw k := by
  unfold Qcz
  by_cases h : k = 0
  ·subst h; simp
  ·have h1 : ((k : Int) > 0) := by omega
   rw [decide_eq_true h1, if_pos rfl, decide_eq_false h, Bool.false_or, ← decide_not, decide_eq_decide]
   omega
 unfold Qpe Qmt ok6
 rw [e, e2]
 have e3 : ∀ x y : Int, (x != y) = !decide (x = y) := fun x y => by by_cases h : x = y <;> simp [h]
 rw [e3]
 show _ = !(Qcz g.rmw k && (_ && (_ && (_ && decide ((g.evs.getD _ Ev.zero).l = (g.evs.getD _ Ev.zero).l)))))
 cases Qcz g.rmw k <;> cases isB g.evs (g.rmw.getD k (0, 0)).1 [1] <;> cases isB g.evs (g.rmw.getD k (0, 0)).2 [2] <;> cases Qim g.evs (g.rmw.getD k (0, 0)).1 (g.rmw.getD k (0, 0)).2 <;> simp
abbrev sk (d : Nat) (k : Nat) : Nat → GV := Qb7 s1 [(d, GV.nu ((k : Nat) : Int))]
theorem Qq7 (V : GrV) (g : Gr) (w : World) (h : GrR w V g) (hl256 : g.evs.length ≤ 256) (ht : Qg0 g) : Calls Tryz.prog 40 #[V.val g] w fun r w' => r = .returned (.int .i64 (Qdb g)) ∧ Below w.heap.size w w' := by
 obtain ⟨p4, k4, e4, -, hr4⟩ := Qae h.rmw
 have HT := Qa ht
 have H := Qa h
 have hB : Below w.heap.size w (w.alloc (.cells (V.gs g) 27)) := bW.alloc nW _
 have HB := Qa hB
 have HR := Qa hr4
 clear h ht hB e4 hr4
 unfold GrV.val
 go_enter Tryz.func40, Tryz.ntmps40
 go_upto_region 1 with fail
 rename_i K1 hF K hK
 refine Eng.reg_keep (E := gE (gM w V g)) (T := 72) (w0 := w) (σ := s1) [(3, GV.nu ((0 : Nat) : Int))] byK byK byK (by exact trivial) byK byK byK (fun a' w' h' => hK a' w' ?_) _ _
  (Qo4 (E := gE (gM w V g)) (GV.at 0 0) [(1, GV.at 3 0)] rfl rfl HB.out ⟨H.out.below HB.out, Blk.new w _ _, H.out.rf.below HB.out, hl256⟩ (by intro p hp; obtain rfl := List.mem_singleton.1 hp; exact ⟨rfl, rfl⟩) rfl rfl)
 refine Qgr g.rmw.length (fun k a w1 => (∀ j, j < k → ok6 g j = true) ∧ (gE (gM w V g)).Ga 72 w (sk 3 k) a w1) ⟨fun j h => by omega, h'⟩ ?_
 clear a' w' h'
 rintro k a w1 hk ⟨hall, hga⟩
 revert a w1 hga
 refine Eng.reg_keep (E := gE (gM w V g)) [(9, GV.bo (decide (((k : Nat) : Int) < (g.rmw.length : Int))))] byK byK byK (by exact trivial) byK byK byK (fun a w1 h => ?_)
 have h9 : a.eval (.tmp 9) = .bool (decide ((k : Int) < (g.rmw.length : Int))) := h.is 9
 refine ⟨_, h9, fun hq => hF a w1 ?_, fun hq => ⟨by simpa using hq, ?_⟩⟩
 ·have hkn : ¬ k < g.rmw.length := by simpa using hq
  refine wp_seq (Eng.reg_ret (E := gE (gM w V g)) (fn := Tryz.f40) (R := fun r w' => r = .returned (.int .i64 (Qdb g)) ∧ Below w.heap.size w w') 2 (GV.nu (-1)) byK byK byK (by exact trivial) byK byK rfl (fun a w h => by exact wp_ret h) ?_ a w1 h)
  intro N w' v hl hG hv
  have hv : v = .int .i64 (-1) := hv
  exact ⟨by rw [hv, Qw2 HT.out (fun j hj => hall j oW)], hl⟩
 ·have hkl : k < g.rmw.length := by simpa using hq
  clear h9
  refine wp_seq (Qms 6 4 16 (g.rmw.getD k (0, 0)) rfl byK byK (by exact ⟨fun _ => (⟨Int.natCast_nonneg _, Int.ofNat_lt.2 hkl⟩ : (0 : Int) ≤ ((k : Nat) : Int) ∧ ((k : Nat) : Int) < (g.rmw.length : Int)), trivial⟩) ⟨_, rfl, rfl, rfl, rfl⟩ byK byK byK byK ?_ a w1 h)
  clear a w1 h
  refine fun a w1 h => wp_seq (Eng.reg_keep (E := gE (gM w V g)) [(70, GV.bo (Qpe g k (g.rmw.getD k (0, 0)) (g.rmw.getD (((k : Nat) : Int) - 1).toNat (0, 0))))] byK byK byK ?_ byK byK byK ?_ a w1 h)
  ·refine ⟨fun c => ?_, fun c => ?_, fun c => ?_, fun c => ?_, trivial⟩
   ·have c : (decide ((k : Int) > 0) == true && true) = true := Qdu kW c
    have := HR.out
    have c : 0 < k := by simpa using c
    exact Qcd (p := (-9223372036854775808 : Int) ≤ (k : Int) - 1 ∧ (k : Int) - 1 < 9223372036854775808) kW ⟨oW, oW⟩
   ·have c : (decide ((k : Int) > 0) == true && true) = true := Qdu kW c
    have c : 0 < k := by simpa using c
    exact Qcd (p := (0 : Int) ≤ (k : Int) - 1 ∧ (k : Int) - 1 < (g.rmw.length : Int)) kW ⟨oW, oW⟩
   ·have c : (Qmt g k (g.rmw.getD k (0, 0)) (g.rmw.getD ((k : Int) - 1).toNat (0, 0)) == false && true) = true := Qdu kW c
    exact Qcd kW (Qjm (Qr9 (by simpa using c)).1)
   ·have c : (Qmt g k (g.rmw.getD k (0, 0)) (g.rmw.getD ((k : Int) - 1).toNat (0, 0)) == false && true) = true := Qdu kW c
    exact Qcd kW (Qjm (Qr9 (by simpa using c)).2)
  clear a w1 h
  refine Eng.cond (E := gE (gM w V g)) 70 _ rfl rfl (fun hq a w1 h => ?_) (fun hq a w1 h => ?_)
  ·refine wp_seq (Eng.reg_ret (E := gE (gM w V g)) (fn := Tryz.f40) (R := fun r w' => r = .returned (.int .i64 (Qdb g)) ∧ Below w.heap.size w w') 2 (GV.nu ((k : Nat) : Int)) byK byK byK (by exact trivial) byK byK rfl (fun a w h => by exact wp_ret h) ?_ a w1 h)
   intro N w' v hl hG hv
   have hv : v = .int .i64 (k : Int) := hv
   have hq : Qpe g k (g.rmw.getD k (0, 0)) (g.rmw.getD ((k : Int) - 1).toNat (0, 0)) = true := hq
   rw [Qs] at hq
   exact ⟨by rw [hv, Qw1 HT.out hkl hall (by simpa using hq)], hl⟩
  ·have hq : Qpe g k (g.rmw.getD k (0, 0)) (g.rmw.getD ((k : Int) - 1).toNat (0, 0)) = false := hq
   rw [Qs] at hq
   refine Go.wp_skip (Eng.reg_keep (E := gE (gM w V g)) [(3, GV.nu (((k + 1 : Nat)) : Int))] byK byK byK (by have := HR.out; exact ⟨fun _ => (⟨oW, oW⟩ : (-9223372036854775808 : Int) ≤ ((k : Nat) : Int) + 1 ∧ ((k : Nat) : Int) + 1 < 9223372036854775808), trivial⟩) byK byK byK (fun a w1 h => ⟨fun j hj => ?_, h.less (fun d => ?_)⟩) a w1 h)
   ·by_cases e : j = k
    ·rw [e]; simpa using hq
    ·exact hall j oW
   ·by_cases e3 : d = 3
    ·subst e3; exact .inr rfl
    by_cases e1 : d = 1
    ·subst e1; exact .inr rfl
    exact .inl ⟨by simp [Qb7, e1, e3, gE, GV.at], by simp [Qb7, e1, e3, gE, GV.at]⟩
def Qhk (g : Gr) (l : List (Int × Int)) (i : Nat) : Bool := Qd9 true l i && (isB g.evs (l.getD i (0, 0)).1 [1] && Qej g.evs (l.getD i (0, 0)).1 (l.getD i (0, 0)).2)
def Qy2 (g : Gr) : Prop := ∀ i, i < g.evs.length → (g.ev i).k = 1 ∨ (g.ev i).k = 2 ∨ (g.ev i).k = 3
theorem QBc {g : Gr} {q : Bool} (h2 : Qcg g q = -1) (h3 : Qdc g q = -1) : Qy2 g := fun i hi => by
 by_cases hc : (i : Int) < g.cells
 ·rw [Qjp h2 hc]
  simp [Qdl]
 ·have := Ql2 h3 oW hi
  unfold Qbm at this
  simp at this
  omega
theorem Qw3 {g : Gr} (ht : Qg0 g) (l : List (Int × Int)) (ks : List Int) (i : Nat) : (Qd9 true l i && Qe g.evs (l.getD i (0, 0)) ks) = (Qhk g l i && ks.contains (g.ev (l.getD i (0, 0)).2.toNat).k) := by
 unfold Qhk Qe
 generalize l.getD i (0, 0) = p
 obtain ⟨pa, pb⟩ := p
 dsimp only
 cases h1 : isB g.evs pa [1]
 ·simp
 ·obtain ⟨a, rfl, ha⟩ := Qbw h1
  have hk : (g.ev a).k = 1 := by
   unfold isB at h1
   simp at h1
   exact h1.2
  by_cases hb : 0 ≤ pb ∧ pb < g.evs.length
  ·obtain ⟨b, rfl⟩ : ∃ b : Nat, pb = (b : Int) := ⟨pb.toNat, oW⟩
   rw [Qu3 ht ha oW hk, Int.toNat_natCast, Int.toNat_natCast]
   have : isB g.evs (b : Int) ks = ks.contains (g.ev b).k := by
    unfold isB
    rw [decide_eq_true hb.1, decide_eq_true hb.2, Int.toNat_natCast]
    rfl
   rw [this]
   cases Qd9 true l i <;> cases poB g.evs a b <;> cases ks.contains (g.ev b).k <;> rfl
  ·have hi : isB g.evs pb ks = false := by
    cases e : isB g.evs pb ks
    ·rfl
    ·obtain ⟨b, rfl, hb'⟩ := Qbw e
     exact absurd ⟨oW, oW⟩ hb
   have hbf : Qej g.evs (a : Int) pb = false := by
    cases e : Qej g.evs ((a : Nat) : Int) pb
    ·rfl
    ·obtain ⟨n, m, _, rfl, _, hm⟩ := Qla e
     exact absurd ⟨oW, oW⟩ hb
   rw [hi, hbf]
   simp
theorem Qze {qa qb pa pb : Int} : decide (Qf8 (qa, qb) (pa, pb) < 0) = (decide (qa < pa) || (decide (qa = pa) && decide (qb < pb))) := by
 unfold Qf8 orI Qhw
 dsimp only
 by_cases h1 : qa < pa
 ·simp [h1]
 ·by_cases h2 : pa < qa
  ·have : ¬ qa = pa := by omega
   simp [h1, h2, this]
  ·have : qa = pa := by omega
   subst this
   by_cases h3 : qb < pb
   ·simp [h3]
   ·by_cases h4 : pb < qb
    ·simp [h3, h4]
    ·simp [h3, h4]
def Qw4 (wh : Int) (ks : List Int) : Prop := (wh = 7 ∧ ks = [1, 2]) ∨ (wh = 8 ∧ ks = [2]) ∨ (wh = 9 ∧ ks = [1, 2, 3])
def Qpf (g : Gr) (k : Nat) (p q : Int × Int) : Bool :=
 if (if (if decide (((k : Nat) : Int) > 0) then (if decide (p.1 < q.1) then true else (if p.1 == q.1 then decide (p.2 ≤ q.2) else false)) else false) then true else !isB g.evs p.1 [1]) then true else !Qej g.evs p.1 p.2
theorem Qsa (g : Gr) (l : List (Int × Int)) (k : Nat) : Qpf g k (l.getD k (0, 0)) (l.getD (((k : Nat) : Int) - 1).toNat (0, 0)) = !Qhk g l k := by
 have e : ((k : Int) - 1).toNat = k - 1 := by omega
 unfold Qpf Qhk Qd9
 rw [e]
 generalize l.getD (k - 1) (0, 0) = q
 generalize l.getD k (0, 0) = p
 obtain ⟨qa, qb⟩ := q
 obtain ⟨pa, pb⟩ := p
 have e2 : (if decide ((k : Int) > 0) then (if decide (pa < qa) then true else (if pa == qa then decide (pb ≤ qb) else false)) else false) = !(true && (decide (k = 0) || decide (Qf8 (qa, qb) (pa, pb) < 0))) := by
  rw [Qze]
  by_cases h : k = 0
  ·subst h; simp
  ·have h1 : ((k : Int) > 0) := by omega
   rw [decide_eq_true h1, decide_eq_false h]
   by_cases h2 : pa < qa
   ·have h3 : ¬ qa < pa := by omega
    have h4 : ¬ qa = pa := by omega
    simp [h2, h3, h4]
   ·by_cases h3 : pa = qa
    ·subst h3
     by_cases h4 : qb < pb
     ·have h5 : ¬ pb ≤ qb := by omega
      simp [h4, h5]
     ·have h5 : pb ≤ qb := by omega
      simp [h4, h5]
    ·have h4 : qa < pa := by omega
     have h5 : ¬ qa = pa := by omega
     simp [h2, h3, h4]
 dsimp only
 rw [e2]
 cases (true && (decide (k = 0) || decide (Qf8 (qa, qb) (pa, pb) < 0))) <;> cases isB g.evs pa [1] <;> cases Qej g.evs pa pb <;> rfl
def whB (wh kd : Int) : Bool := if (if wh == 7 then kd == 3 else false) then true else (if wh == 8 then kd != 2 else false)
theorem QBd {wh kd : Int} {ks : List Int} (h : Qw4 wh ks) (hk : kd = 1 ∨ kd = 2 ∨ kd = 3) : whB wh kd = !ks.contains kd := by
 rcases h with ⟨rfl, rfl⟩ | ⟨rfl, rfl⟩ | ⟨rfl, rfl⟩ <;> rcases hk with rfl | rfl | rfl <;> rfl
theorem Qzf {evs : List Ev} {a b : Int} (h : Qej evs a b = true) : 0 ≤ b ∧ b < (evs.length : Int) := by
 obtain ⟨n, m, -, rfl, -, hm⟩ := Qla h
 omega
abbrev dM (w : World) (V : GrV) (g : Gr) (v : Value) (l : List (Int × Int)) : Gm := ⟨w.heap.size, V, g, v, l⟩
abbrev d0 (wh : Int) : Nat → GV := Qb7 (fun _ => GV.at 0 0) [(1, GV.at 5 20), (2, GV.nu wh), (3, GV.at 3 0)]
theorem Qpg (V : GrV) (g : Gr) (v : Value) (l : List (Int × Int)) (wh : Int) (ks : List Int) (w : World) (h : GrR w V g) (hv : PArg w v l) (hl256 : g.evs.length ≤ 256) (ht : Qg0 g) (hkd : Qy2 g) (hwk : Qw4 wh ks) :
  Calls Tryz.prog 41 #[V.val g, v, .int .i64 wh] w fun r w' => r = .returned (.int .i64 (Qcf g.evs true l ks)) ∧ Below w.heap.size w w' := by
 obtain ⟨p4, k4, e4, -, hr4⟩ := Qae hv
 generalize hr : Qcf g.evs true l ks = res
 have HD : Hid (Qak (fun i => !(Qhk g l i && ks.contains (g.ev (l.getD i (0, 0)).2.toNat).k)) 0 l.length = res) := by
  rw [Hid, ← hr]
  unfold Qcf
  congr 1
  funext i
  rw [Qw3 ht]
 have H := Qa h
 have HV := Qa hv
 have HKD := Qa hkd
 have HWK := Qa hwk
 have hB : Below w.heap.size w (w.alloc (.cells (V.gs g) 27)) := bW.alloc nW _
 have HB := Qa hB
 have HR := Qa hr4
 clear h ht hB e4 hr4 hv hkd hwk hr
 unfold GrV.val
 go_enter Tryz.func41, Tryz.ntmps41
 go_upto_region 1 with fail
 rename_i K1 hF K hK
 refine Eng.reg_keep (E := gE (dM w V g v l)) (T := 94) (w0 := w) (σ := d0 wh) [(7, GV.nu ((0 : Nat) : Int))] byK byK byK (by exact trivial) byK byK byK (fun a' w' h' => hK a' w' ?_) _ _
  (Qo4 (E := gE (dM w V g v l)) (GV.at 0 0) [(1, GV.at 5 20), (2, GV.nu wh), (3, GV.at 3 0)] rfl rfl HB.out ⟨H.out.below HB.out, Blk.new w _ _, HV.out.below HB.out, hl256⟩ (by
   intro p hp
   rcases List.mem_cons.1 hp with rfl | hp
   ·exact ⟨rfl, rfl⟩
   rcases List.mem_cons.1 hp with rfl | hp
   ·exact ⟨rfl, rfl⟩
   obtain rfl := List.mem_singleton.1 hp
   exact ⟨rfl, rfl⟩) rfl rfl)
 refine Qgr l.length (fun k a w1 => (∀ j, j < k → (Qhk g l j && ks.contains (g.ev (l.getD j (0, 0)).2.toNat).k) = true) ∧ (gE (dM w V g v l)).Ga 94 w (Qb7 (d0 wh) [(7, GV.nu ((k : Nat) : Int))]) a w1) ⟨fun j h => by omega, h'⟩ ?_
 clear a' w' h'
 rintro k a w1 hk ⟨hall, hga⟩
 revert a w1 hga
 refine Eng.reg_keep (E := gE (dM w V g v l)) [(13, GV.bo (decide (((k : Nat) : Int) < (l.length : Int))))] byK byK byK (by exact trivial) byK byK byK (fun a w1 h => ?_)
 have h9 : a.eval (.tmp 13) = .bool (decide ((k : Int) < (l.length : Int))) := h.is 13
 refine ⟨_, h9, fun hq => hF a w1 ?_, fun hq => ⟨by simpa using hq, ?_⟩⟩
 ·have hkn : ¬ k < l.length := by simpa using hq
  refine wp_seq (Eng.reg_ret (E := gE (dM w V g v l)) (fn := Tryz.f41) (R := fun r w' => r = .returned (.int .i64 res) ∧ Below w.heap.size w w') 6 (GV.nu (-1)) byK byK byK (by exact trivial) byK byK rfl (fun a w h => by exact wp_ret h) ?_ a w1 h)
  intro N w' v hl hG hv
  have hv : v = .int .i64 (-1) := hv
  refine ⟨?_, hl⟩
  rw [hv, ← HD.out, Qai (fun j _ hj => by rw [hall j oW]; rfl)]
 ·have hkl : k < l.length := by simpa using hq
  have hit : (Qhk g l k && ks.contains (g.ev (l.getD k (0, 0)).2.toNat).k) = false → res = ((k : Nat) : Int) := fun hn => by
   rw [← HD.out]
   exact Qaz (Nat.zero_le _) oW (fun j _ hj => by rw [hall j hj]; rfl) (by rw [hn]; rfl)
  clear h9
  refine wp_seq (Qms 5 8 19 (l.getD k (0, 0)) rfl byK byK (by exact ⟨fun _ => (⟨Int.natCast_nonneg _, Int.ofNat_lt.2 hkl⟩ : (0 : Int) ≤ ((k : Nat) : Int) ∧ ((k : Nat) : Int) < (l.length : Int)), trivial⟩) ⟨_, rfl, rfl, rfl, rfl⟩ byK byK byK byK ?_ a w1 h)
  clear a w1 h
  refine fun a w1 h => wp_seq (wp_seq (Eng.reg_keep (E := gE (dM w V g v l)) [(70, GV.bo (Qpf g k (l.getD k (0, 0)) (l.getD (((k : Nat) : Int) - 1).toNat (0, 0))))] byK byK byK ?_ byK byK byK ?_ a w1 h))
  ·have := HR.out
   refine ⟨fun c => ?_, fun c => ?_, fun c => ?_, fun c => ?_, fun c => ?_, fun c => ?_, trivial⟩
   ·have c : (decide ((k : Int) > 0) == true && true) = true := Qdu kW c
    have c : 0 < k := by simp at c; omega
    exact Qcd (p := (-9223372036854775808 : Int) ≤ (k : Int) - 1 ∧ (k : Int) - 1 < 9223372036854775808) kW ⟨oW, oW⟩
   ·have c : (decide ((k : Int) > 0) == true && true) = true := Qdu kW c
    have c : 0 < k := by simp at c; omega
    exact Qcd (p := (0 : Int) ≤ (k : Int) - 1 ∧ (k : Int) - 1 < (l.length : Int)) kW ⟨oW, oW⟩
   ·have c : (decide ((l.getD k (0, 0)).1 < (l.getD ((k : Int) - 1).toNat (0, 0)).1) == false && (decide ((k : Int) > 0) == true && true)) = true := Qdu kW c
    have c : 0 < k := by simp at c; omega
    exact Qcd (p := (-9223372036854775808 : Int) ≤ (k : Int) - 1 ∧ (k : Int) - 1 < 9223372036854775808) kW ⟨oW, oW⟩
   ·have c : (decide ((l.getD k (0, 0)).1 < (l.getD ((k : Int) - 1).toNat (0, 0)).1) == false && (decide ((k : Int) > 0) == true && true)) = true := Qdu kW c
    have c : 0 < k := by simp at c; omega
    exact Qcd (p := (0 : Int) ≤ (k : Int) - 1 ∧ (k : Int) - 1 < (l.length : Int)) kW ⟨oW, oW⟩
   ·have c : (((l.getD k (0, 0)).1 == (l.getD ((k : Int) - 1).toNat (0, 0)).1) == true && (decide ((l.getD k (0, 0)).1 < (l.getD ((k : Int) - 1).toNat (0, 0)).1) == false && (decide ((k : Int) > 0) == true && true))) = true := Qdu kW c
    have c : 0 < k := by simp at c; omega
    exact Qcd (p := (-9223372036854775808 : Int) ≤ (k : Int) - 1 ∧ (k : Int) - 1 < 9223372036854775808) kW ⟨oW, oW⟩
   ·have c : (((l.getD k (0, 0)).1 == (l.getD ((k : Int) - 1).toNat (0, 0)).1) == true && (decide ((l.getD k (0, 0)).1 < (l.getD ((k : Int) - 1).toNat (0, 0)).1) == false && (decide ((k : Int) > 0) == true && true))) = true := Qdu kW c
    have c : 0 < k := by simp at c; omega
    exact Qcd (p := (0 : Int) ≤ (k : Int) - 1 ∧ (k : Int) - 1 < (l.length : Int)) kW ⟨oW, oW⟩
  clear a w1 h
  refine Eng.cond (E := gE (dM w V g v l)) 70 _ rfl rfl (fun hq a w1 h => ?_) (fun hq a w1 h => ?_)
  ·refine wp_seq (Eng.reg_ret (E := gE (dM w V g v l)) (fn := Tryz.f41) (R := fun r w' => r = .returned (.int .i64 res) ∧ Below w.heap.size w w') 6 (GV.nu ((k : Nat) : Int)) byK byK byK (by exact trivial) byK byK rfl (fun a w h => by exact wp_ret h) ?_ a w1 h)
   intro N w' v hl hG hv
   have hv : v = .int .i64 (k : Int) := hv
   have hq : Qpf g k (l.getD k (0, 0)) (l.getD ((k : Int) - 1).toNat (0, 0)) = true := hq
   rw [Qsa] at hq
   exact ⟨by rw [hv, hit (by rw [show Qhk g l k = false by simpa using hq]; rfl)], hl⟩
  ·have hq : Qpf g k (l.getD k (0, 0)) (l.getD ((k : Int) - 1).toNat (0, 0)) = false := hq
   rw [Qsa] at hq
   have hq : Qhk g l k = true := by simpa using hq
   have hin : 0 ≤ (l.getD k (0, 0)).2 ∧ (l.getD k (0, 0)).2 < (g.evs.length : Int) := by
    unfold Qhk at hq
    simp only [Bool.and_eq_true] at hq
    exact Qzf hq.2.2
   refine Go.wp_skip (wp_seq (Eng.reg_keep (E := gE (dM w V g v l)) [(9, GV.nu (g.ev (l.getD k (0, 0)).2.toNat).k)] byK byK byK (by exact ⟨fun _ => Qcd kW hin, trivial⟩) byK byK byK ?_ a w1 h))
   clear a w1 h
   refine fun a w1 h => wp_seq (Eng.reg_keep (E := gE (dM w V g v l)) [(92, GV.bo (whB wh (g.ev (l.getD k (0, 0)).2.toNat).k))] byK byK byK (by exact trivial) byK byK byK ?_ a w1 h)
   clear a w1 h
   have hw := QBd HWK.out (HKD.out (l.getD k (0, 0)).2.toNat oW)
   refine Eng.cond (E := gE (dM w V g v l)) 92 _ rfl rfl (fun h2 a w1 h => ?_) (fun h2 a w1 h => ?_)
   ·refine wp_seq (Eng.reg_ret (E := gE (dM w V g v l)) (fn := Tryz.f41) (R := fun r w' => r = .returned (.int .i64 res) ∧ Below w.heap.size w w') 6 (GV.nu ((k : Nat) : Int)) byK byK byK (by exact trivial) byK byK rfl (fun a w h => by exact wp_ret h) ?_ a w1 h)
    intro N w' v hl hG hv
    have hv : v = .int .i64 (k : Int) := hv
    have h2 : whB wh (g.ev (l.getD k (0, 0)).2.toNat).k = true := h2
    rw [hw] at h2
    exact ⟨by rw [hv, hit (by rw [show ks.contains (g.ev (l.getD k (0, 0)).2.toNat).k = false by simpa using h2, Bool.and_false])], hl⟩
   ·have h2 : whB wh (g.ev (l.getD k (0, 0)).2.toNat).k = false := h2
    rw [hw] at h2
    refine Go.wp_skip (Eng.reg_keep (E := gE (dM w V g v l)) [(7, GV.nu (((k + 1 : Nat)) : Int))] byK byK byK (by have := HR.out; exact ⟨fun _ => (⟨oW, oW⟩ : (-9223372036854775808 : Int) ≤ ((k : Nat) : Int) + 1 ∧ ((k : Nat) : Int) + 1 < 9223372036854775808), trivial⟩) byK byK byK (fun a w1 h => ⟨fun j hj => ?_, h.less (fun d => ?_)⟩) a w1 h)
    ·by_cases e : j = k
     ·rw [e, hq, show ks.contains (g.ev (l.getD k (0, 0)).2.toNat).k = true by simpa using h2]; rfl
     ·exact hall j oW
    ·by_cases e7 : d = 7
     ·subst e7; exact .inr rfl
     by_cases e1 : d = 1
     ·subst e1; exact .inr rfl
     by_cases e2 : d = 2
     ·subst e2; exact .inr rfl
     by_cases e3 : d = 3
     ·subst e3; exact .inr rfl
     exact .inl ⟨by simp [Qb7, e1, e2, e3, e7, gE, GV.at], by simp [Qb7, e1, e2, e3, e7, gE, GV.at]⟩
theorem Qph {g : Gr} {n c : Nat} (hn : g.cells = (n : Int)) (hc : c < n) (h : ∀ j, j < c → Qao g j = false) (hb : Qao g c = true) : Qbq g = (c : Int) := by
 have : Qak (Qao g) 0 g.cells.toNat = (c : Int) := by
  rw [hn, Int.toNat_natCast]
  exact Qaz (Nat.zero_le _) oW (fun j _ hj => h j hj) hb
 unfold Qbq
 rw [this, if_neg oW]
theorem Qpi {g : Gr} {n : Nat} (hn : g.cells = (n : Int)) (h : ∀ j, j < n → Qao g j = false) : Qbq g = (if (g.co.length : Int) ≤ (n : Int) then -1 else (n : Int)) := by
 have : Qak (Qao g) 0 g.cells.toNat = -1 := by
  rw [hn, Int.toNat_natCast]
  exact Qai (fun j _ hj => h j oW)
 unfold Qbq
 rw [this, if_pos rfl, hn]
def Qk4 (g : Gr) (c x : Int) : Bool := isB g.evs x [2] && decide ((g.ev x.toNat).l = c)
theorem Qpj {g : Gr} {c x : Int} : Qk4 g c x = true ↔ ∃ n : Nat, x = ((n : Nat) : Int) ∧ n < g.evs.length ∧ Qc2 g c n = true := by
 constructor
 ·intro h
  obtain ⟨h1, h2⟩ := Bool.and_eq_true_iff.1 h
  obtain ⟨n, rfl, hn⟩ := Qbw h1
  refine ⟨n, rfl, hn, ?_⟩
  have hk0 : (g.evs.getD n Ev.zero).k = 2 := by
   have := (Bool.and_eq_true_iff.1 h1).2
   rw [Int.toNat_natCast] at this
   simpa using this
  have hk : (g.ev n).k = 2 := hk0
  rw [Int.toNat_natCast] at h2
  unfold Qc2
  rw [decide_eq_true hk, h2]
  rfl
 ·rintro ⟨n, rfl, hn, hw⟩
  obtain ⟨h1, h2⟩ := Bool.and_eq_true_iff.1 hw
  have hk := of_decide_eq_true h1
  have he : (g.evs.getD n Ev.zero).k = 2 := hk
  unfold Qk4 isB
  rw [Int.toNat_natCast, h2, decide_eq_true (by omega : (0 : Int) ≤ (n : Int)), decide_eq_true (by omega : (n : Int) < (g.evs.length : Int)), he]
  rfl
def Qpk (g : Gr) (c : Int) (l : List Int) (k : Nat) : Prop := (∀ (i : Nat) (x : Int), i < k → l[i]? = some x → Qk4 g c x = true) ∧ ∀ (i j : Nat) (x : Int), i < k → j < i → l[i]? = some x → l[j]? ≠ some x
theorem Qu4 (g : Gr) (c : Int) (l : List Int) : Qpk g c l 0 := ⟨fun i x h => by omega, fun i j x h => by omega⟩
theorem Qu5 {g : Gr} {c : Int} {l : List Int} {k : Nat} {x : Int} (h : Qpk g c l k) (hx : l[k]? = some x) (ha : Qk4 g c x = true) (hn : ∀ t, t < k → l[t]? ≠ some x) : Qpk g c l (k + 1) := by
 refine ⟨fun i y hi hy => ?_, fun i j y hi hj hy => ?_⟩
 ·by_cases e : i = k
  ·subst e
   rw [hx] at hy
   cases hy
   exact ha
  ·exact h.1 i y oW hy
 ·by_cases e : i = k
  ·subst e
   rw [hx] at hy
   cases hy
   exact hn j hj
  ·exact h.2 i j y oW hj hy
theorem Qw5 {g : Gr} {c : Int} {l : List Int} (h : Qpk g c l l.length) : Qs9 g c l := by
 refine ⟨fun i x hx => Qpj.1 (h.1 i x (List.getElem?_eq_some_iff.1 hx).1 hx), fun i j x hj hx => h.2 i j x (List.getElem?_eq_some_iff.1 hx).1 hj hx⟩
abbrev cs0 (c : Nat) : List (Nat × GV) := [(1, GV.at 3 0), (3, GV.nu ((c : Nat) : Int))]
abbrev cs4 (c : Nat) : List (Nat × GV) := (4, GV.at 15 c) :: cs0 c
abbrev cs6 (c n i : Nat) : List (Nat × GV) := (5, GV.nu ((n : Nat) : Int)) :: (6, GV.nu ((i : Nat) : Int)) :: cs4 c
abbrev cs7 (c i : Nat) : List (Nat × GV) := (7, GV.nu ((i : Nat) : Int)) :: cs4 c
abbrev cs8 (c i j : Nat) : List (Nat × GV) := (8, GV.nu ((j : Nat) : Int)) :: cs7 c i
def coX (g : Gr) (c : Nat) (x : Int) : Bool := if !isB g.evs x [2] then true else ((g.evs.getD x.toNat Ev.zero).l != ((c : Nat) : Int))
theorem Qu6 (g : Gr) (c : Nat) (x : Int) : coX g c x = !Qk4 g ((c : Nat) : Int) x := by
 unfold coX Qk4 Gr.ev
 have e3 : ∀ x y : Int, (x != y) = !decide (x = y) := fun x y => by by_cases h : x = y <;> simp [h]
 rw [e3]
 cases isB g.evs x [2] <;> cases decide ((g.evs.getD x.toNat Ev.zero).l = ((c : Nat) : Int)) <;> rfl
theorem Qh3 {l : List Int} {i : Nat} (h : i < l.length) : l[i]? = some (l.getD i 0) := by rw [List.getD_eq_getElem?_getD, List.getElem?_eq_getElem h]; rfl
theorem Qt (V : GrV) (g : Gr) (q : Bool) (w : World) (h : GrR w V g) (h1 : Qar g = false) (h2 : Qcg g q = -1) : Calls Tryz.prog 39 #[V.val g] w fun r w' => r = .returned (.int .i64 (Qbq g)) ∧ Below w.heap.size w w' := by
 have hsz : 0 ≤ g.cells ∧ g.cells ≤ (g.evs.length : Int) ∧ g.evs.length ≤ 256 := by
  simp [Qar] at h1
  omega
 obtain ⟨nc, hn⟩ : ∃ n : Nat, g.cells = (n : Int) := ⟨g.cells.toNat, oW⟩
 have hcl : g.co.length ≤ 9223372036854775807 := by obtain ⟨_, _, _, h9, _⟩ := h.co; exact h9
 have hll : ∀ (c : Nat) (l : List Int), g.co[c]? = some l → l.length ≤ 9223372036854775807 := fun c l hl => by
  obtain ⟨_, _, _, _, h9⟩ := Qde h.co
  obtain ⟨_, _, _, _, _, _, _, h8⟩ := h9 c l hl
  exact h8
 have H := Qa h
 have hB : Below w.heap.size w (w.alloc (.cells (V.gs g) 27)) := bW.alloc nW _
 have HB := Qa hB
 have HN := Qa hn
 clear h hB hn
 unfold GrV.val
 go_enter Tryz.func39, Tryz.ntmps39
 go_upto_region 1 with fail
 rename_i K1 hF K hK
 have hn := HN.out
 refine Eng.reg_keep (E := gE (gM w V g)) (T := 128) (w0 := w) (σ := s1) [(3, GV.nu ((0 : Nat) : Int))] byK byK byK byT byK byK byK (fun a w1 h => hK a w1 ?_) _ _
  (Qo4 (E := gE (gM w V g)) (GV.at 0 0) [(1, GV.at 3 0)] rfl rfl HB.out ⟨H.out.below HB.out, Blk.new w _ _, H.out.rf.below HB.out, hsz.2.2⟩ (by intro p hp; obtain rfl := List.mem_singleton.1 hp; exact ⟨rfl, rfl⟩) rfl rfl)
 refine Qgr nc (fun c a w1 => (∀ j, j < c → Qao g j = false) ∧ (gE (gM w V g)).Ga 128 w (Qb7 (fun _ => GV.at 0 0) (cs0 c)) a w1) ⟨fun j hj => absurd hj oW, h.to (GV.at 0 0) (cs0 0) rfl rfl byK⟩ ?_
 rintro c a w1 hcn ⟨hall, h⟩
 refine Eng.reg_keep (E := gE (gM w V g)) [(19, GV.bo (if decide (((c : Nat) : Int) < g.cells) then decide (((c : Nat) : Int) < (g.co.length : Int)) else false))] byK byK byK byT byK byK byK (fun a w1 h => ?_) a w1 h
 refine ⟨_, Ql1 h 19 (if decide (((c : Nat) : Int) < g.cells) then decide (((c : Nat) : Int) < (g.co.length : Int)) else false) byK, fun hq => hF a w1 ?_, fun hq => ?_⟩
 case refine_1 =>
  have hge : ¬ (c < nc ∧ c < g.co.length) := fun ⟨k1, k2⟩ => by
   rw [decide_eq_true oW, if_pos rfl, decide_eq_true oW] at hq
   cases hq
  have hlo : c ≤ g.co.length := by
   by_cases e : c ≤ g.co.length
   ·exact e
   ·have := hall g.co.length oW
    unfold Qao at this
    simp at this
  replace h := h.to (GV.at 0 0) (cs0 c) rfl rfl byK
  refine wp_seq (wp_seq (Eng.reg_keep (E := gE (gM w V g)) [(116, GV.bo (decide ((g.co.length : Int) < g.cells)))] byK byK byK byT byK byK byK (fun a w1 h => ?_) a w1 h))
  refine Eng.condk (E := gE (gM w V g)) 116 (decide ((g.co.length : Int) < g.cells)) (decide ((g.co.length : Int) < g.cells)) byK byK rfl (fun hq a w1 h => ?_) (fun hq a w1 h => Go.wp_skip ?_) a w1 h
  ·have hlt : (g.co.length : Int) < g.cells := by simpa using hq
   have e : c = g.co.length := by omega
   refine wp_seq (Eng.reg_ret (E := gE (gM w V g)) (fn := Tryz.f39) (R := fun r w' => r = .returned (.int .i64 (Qbq g)) ∧ Below w.heap.size w w') 2 (GV.nu (g.co.length : Int)) byK byK byK byT byK byK rfl (fun a w h => by exact wp_ret h) (fun N w' v hl hG hv => ⟨?_, hl⟩) a w1 h)
   have hv : v = .int .i64 (g.co.length : Int) := hv
   rw [hv, Qph (c := g.co.length) hn oW (fun j hj => hall j oW) (by unfold Qao; simp)]
  ·have hle : ¬ (g.co.length : Int) < g.cells := by simpa using hq
   have e : c = nc := by omega
   replace h := h.to (GV.at 0 0) (cs0 c) rfl rfl byK
   refine wp_seq (wp_seq (Eng.reg_keep (E := gE (gM w V g)) [(125, GV.bo (decide ((g.co.length : Int) > g.cells)))] byK byK byK byT byK byK byK (fun a w1 h => ?_) a w1 h))
   refine Eng.condk (E := gE (gM w V g)) 125 (decide ((g.co.length : Int) > g.cells)) (decide ((g.co.length : Int) > g.cells)) byK byK rfl (fun hq a w1 h => ?_) (fun hq a w1 h => Go.wp_skip ?_) a w1 h
   ·have hgt : g.cells < (g.co.length : Int) := by simpa using hq
    refine wp_seq (Eng.reg_ret (E := gE (gM w V g)) (fn := Tryz.f39) (R := fun r w' => r = .returned (.int .i64 (Qbq g)) ∧ Below w.heap.size w w') 2 (GV.nu g.cells) byK byK byK byT byK byK rfl (fun a w h => by exact wp_ret h) (fun N w' v hl hG hv => ⟨?_, hl⟩) a w1 h)
    have hv : v = .int .i64 g.cells := hv
    rw [hv, Qpi hn (fun j hj => hall j oW), if_neg (show ¬ (g.co.length : Int) ≤ ((nc : Nat) : Int) by omega), hn]
   ·have hgt : ¬ g.cells < (g.co.length : Int) := by simpa using hq
    refine wp_seq (Eng.reg_ret (E := gE (gM w V g)) (fn := Tryz.f39) (R := fun r w' => r = .returned (.int .i64 (Qbq g)) ∧ Below w.heap.size w w') 2 (GV.nu (-1)) byK byK byK byT byK byK rfl (fun a w h => by exact wp_ret h) (fun N w' v hl hG hv => ⟨?_, hl⟩) a w1 h)
    have hv : v = .int .i64 (-1) := hv
    rw [hv, Qpi hn (fun j hj => hall j oW), if_pos (show (g.co.length : Int) ≤ ((nc : Nat) : Int) by omega)]
 case refine_2 =>
  obtain ⟨hl1, hl2⟩ : c < nc ∧ c < g.co.length := by
   by_cases k1 : (c : Int) < g.cells
   ·rw [decide_eq_true k1, if_pos rfl] at hq
    have := of_decide_eq_true hq
    omega
   ·rw [decide_eq_false k1] at hq
    cases hq
  refine ⟨hl1, ?_⟩
  have i0 : 0 ≤ (c : Int) ∧ (c : Int) < (g.co.length : Int) := ⟨oW, oW⟩
  obtain ⟨l, hl⟩ : ∃ l, g.co[c]? = some l := ⟨_, List.getElem?_eq_getElem hl2⟩
  have hgd : (g.co.getD c []) = l := by rw [List.getD_eq_getElem?_getD, hl]; rfl
  have hlm := hll c l hl
  have hws : 0 < (wrs g (c : Int) g.evs.length).length := List.length_pos_iff.2 (Qmw h1 h2 (c := c) oW)
  have hbad : Qau l ((c : Nat) : Int) (wrs g ((c : Nat) : Int) g.evs.length) = false → Qbq g = ((c : Nat) : Int) := fun e => Qph hn hl1 hall (by unfold Qao; rw [hgd, e]; simp)
  have hnx : Qau l ((c : Nat) : Int) (wrs g ((c : Nat) : Int) g.evs.length) = true → ∀ j, j < c + 1 → Qao g j = false := fun e j hj => by
   by_cases ej : j = c
   ·subst ej
    unfold Qao
    rw [hgd, e, decide_eq_false oW]
    rfl
   ·exact hall j oW
  replace h := h.to (GV.at 0 0) (cs0 c) rfl rfl byK
  refine wp_seq (Eng.reg_keep (E := gE (gM w V g)) [(4, GV.at 15 c)] byK byK byK (Qe6 (p := (true = true → (0 ≤ ((c : Nat) : Int) ∧ ((c : Nat) : Int) < (g.co.length : Int))) ∧ True) byK ⟨fun _ => i0, trivial⟩) byK byK byK (fun a w1 h => ?_) a w1 h)
  refine wp_seq (wp_seq (Eng.reg_keep (E := gE (gM w V g)) [(36, GV.bo (if ((((g.co.getD c []).length : Nat) : Int) == 0) then true else ((g.co.getD c []).getD 0 0 != ((c : Nat) : Int))))] byK byK byK ?_ byK byK byK (fun a w1 h => ?_) a w1 h))
  ·refine ⟨fun c2 => ?_, trivial⟩
   have c2 : (((((g.co.getD c []).length : Nat) : Int) == 0) == false && true) = true := Qdu kW c2
   have c2 : (g.co.getD c []).length ≠ 0 := by intro e; rw [e] at c2; exact absurd c2 dW
   exact Qcd (p := 0 ≤ (0 : Int) ∧ (0 : Int) < (((g.co.getD c []).length : Nat) : Int)) kW ⟨oW, oW⟩
  refine Eng.condk (E := gE (gM w V g)) 36 ((if ((((g.co.getD c []).length : Nat) : Int) == 0) then true else ((g.co.getD c []).getD 0 0 != ((c : Nat) : Int)))) ((if ((((g.co.getD c []).length : Nat) : Int) == 0) then true else ((g.co.getD c []).getD 0 0 != ((c : Nat) : Int)))) byK byK rfl (fun hq a w1 h => ?_) (fun hq a w1 h => Go.wp_skip ?_) a w1 h
  ·rw [hgd] at hq
   refine wp_seq (Eng.reg_ret (E := gE (gM w V g)) (fn := Tryz.f39) (R := fun r w' => r = .returned (.int .i64 (Qbq g)) ∧ Below w.heap.size w w') 2 (GV.nu ((c : Nat) : Int)) byK byK byK byT byK byK rfl (fun a w h => by exact wp_ret h) (fun N w' v hl hG hv => ⟨?_, hl⟩) a w1 h)
   have hv : v = .int .i64 (c : Int) := hv
   rw [hv, hbad (by
    cases e : Qau l ((c : Nat) : Int) (wrs g ((c : Nat) : Int) g.evs.length)
    ·rfl
    ·obtain ⟨e1, e2, _⟩ := Qg3 e
     have e0 : ((l.length : Int) == 0) = false := by rw [beq_eq_false_iff_ne]; omega
     rw [e0, e2] at hq
     simp at hq)]
  rw [hgd] at hq
  have hd0 : l.getD 0 0 = (c : Int) := by
   cases e0 : ((l.length : Int) == 0)
   ·rw [e0] at hq
    simpa using hq
   ·rw [e0] at hq
    cases hq
  replace h := h.to (GV.at 0 0) (cs4 c) rfl rfl byK
  refine wp_seq (Eng.reg_keep (E := gE (gM w V g)) [(5, GV.nu ((0 : Nat) : Int))] byK byK byK byT byK byK byK (fun a w1 h => ?_) a w1 h)
  refine wp_seq (wp_seq (Eng.reg_keep (E := gE (gM w V g)) [(6, GV.nu ((0 : Nat) : Int))] byK byK byK byT byK byK byK (fun a w1 h => ?_) a w1 h))
  refine Qgr g.evs.length (fun i a w1 => (gE (gM w V g)).Ga 128 w (Qb7 (fun _ => GV.at 0 0) (cs6 c (wrs g ((c : Nat) : Int) i).length i)) a w1) (h.to (GV.at 0 0) (cs6 c 0 0) rfl rfl byK) ?_
  clear h
  intro i a w1 hin h
  refine Eng.reg_keep (E := gE (gM w V g)) [(42, GV.bo (decide (((i : Nat) : Int) < (g.evs.length : Int))))] byK byK byK byT byK byK byK (fun a w1 h => ?_) a w1 h
  refine ⟨_, Ql1 h 42 (decide (((i : Nat) : Int) < (g.evs.length : Int))) byK, fun hq => ?_, fun hq => ⟨by simpa using hq, ?_⟩⟩
  case refine_2 =>
   have hil : i < g.evs.length := by simpa using hq
   have i1 : 0 ≤ (i : Int) ∧ (i : Int) < (g.evs.length : Int) := ⟨oW, oW⟩
   have hwl := Qsc g (c : Int) i
   have hS : (wrs g (c : Int) (i + 1)).length = (wrs g (c : Int) i).length + (if (if ((g.evs.getD i Ev.zero).k == 2) then ((g.evs.getD i Ev.zero).l == (c : Int)) else false) = true then 1 else 0) := by
    by_cases e : Qc2 g (c : Int) i = true
    ·rw [Qmv e]
     unfold Qc2 at e
     simp only [Bool.and_eq_true, decide_eq_true_eq] at e
     have k1 : (g.evs.getD i Ev.zero).k = 2 := e.1
     have k2 : (g.evs.getD i Ev.zero).l = (c : Int) := e.2
     rw [k1, k2]
     simp
    ·rw [Qk6 (by simpa using e)]
     have e2 : (if ((g.evs.getD i Ev.zero).k == 2) then ((g.evs.getD i Ev.zero).l == (c : Int)) else false) = false := by
      by_cases k1 : (g.evs.getD i Ev.zero).k = 2
      ·rw [k1]
       exact beq_eq_false_iff_ne.2 (fun k2 => e (by unfold Qc2; rw [decide_eq_true (show (g.ev i).k = 2 from k1), decide_eq_true (show (g.ev i).l = ((c : Nat) : Int) from k2)]; rfl))
      ·rw [beq_eq_false_iff_ne.2 k1]
       rfl
     rw [e2]
     rfl
   generalize (wrs g ((c : Nat) : Int) i).length = n at *
   replace h := h.to (GV.at 0 0) (cs6 c n i) rfl rfl byK
   refine wp_seq (Eng.reg_keep (E := gE (gM w V g)) [(61, GV.bo (if ((g.evs.getD i Ev.zero).k == 2) then ((g.evs.getD i Ev.zero).l == ((c : Nat) : Int)) else false))] byK byK byK (Qe6 (p := (true = true → (0 ≤ ((i : Nat) : Int) ∧ ((i : Nat) : Int) < (g.evs.length : Int))) ∧ ((((g.evs.getD i Ev.zero).k == 2) == true && true) = true → (0 ≤ ((i : Nat) : Int) ∧ ((i : Nat) : Int) < (g.evs.length : Int))) ∧ True) byK ⟨fun _ => i1, fun _ => i1, trivial⟩) byK byK byK (fun a w1 h => ?_) a w1 h)
   refine Eng.condk (E := gE (gM w V g)) 61 ((if ((g.evs.getD i Ev.zero).k == 2) then ((g.evs.getD i Ev.zero).l == ((c : Nat) : Int)) else false)) ((if ((g.evs.getD i Ev.zero).k == 2) then ((g.evs.getD i Ev.zero).l == ((c : Nat) : Int)) else false)) byK byK rfl (fun hq a w1 h => ?_) (fun hq a w1 h => Go.wp_skip ?_) a w1 h
   ·rw [hq, if_pos rfl] at hS
    replace h := h.to (GV.at 0 0) (cs6 c n i) rfl rfl byK
    refine Eng.reg_keep (E := gE (gM w V g)) [(5, GV.nu (((n + 1 : Nat)) : Int))] byK byK byK (Qe6 (p := (true = true → ((-9223372036854775808 : Int) ≤ ((n : Nat) : Int) + 1 ∧ ((n : Nat) : Int) + 1 < 9223372036854775808)) ∧ True) byK ⟨fun _ => ⟨oW, oW⟩, trivial⟩) byK byK byK (fun a w1 h => ?_) a w1 h
    replace h := h.to (GV.at 0 0) (cs6 c (n + 1) i) rfl rfl byK
    refine Eng.reg_keep (E := gE (gM w V g)) [(6, GV.nu (((i + 1 : Nat)) : Int))] byK byK byK (Qe6 (p := (true = true → ((-9223372036854775808 : Int) ≤ ((i : Nat) : Int) + 1 ∧ ((i : Nat) : Int) + 1 < 9223372036854775808)) ∧ True) byK ⟨fun _ => ⟨oW, oW⟩, trivial⟩) byK byK byK (fun a w1 h => ?_) a w1 h
    rw [hS]
    exact h.to (GV.at 0 0) (cs6 c (n + 1) (i + 1)) rfl rfl byK
   ·rw [hq, if_neg dW] at hS
    replace h := h.to (GV.at 0 0) (cs6 c n i) rfl rfl byK
    refine Eng.reg_keep (E := gE (gM w V g)) [(6, GV.nu (((i + 1 : Nat)) : Int))] byK byK byK (Qe6 (p := (true = true → ((-9223372036854775808 : Int) ≤ ((i : Nat) : Int) + 1 ∧ ((i : Nat) : Int) + 1 < 9223372036854775808)) ∧ True) byK ⟨fun _ => ⟨oW, oW⟩, trivial⟩) byK byK byK (fun a w1 h => ?_) a w1 h
    rw [hS]
    exact h.to (GV.at 0 0) (cs6 c n (i + 1)) rfl rfl byK
  case refine_1 =>
  obtain rfl : i = g.evs.length := by have : ¬ i < g.evs.length := (by simpa using hq); omega
  generalize hW : (wrs g ((c : Nat) : Int) g.evs.length).length = n at *
  refine wp_seq (wp_seq (Eng.reg_keep (E := gE (gM w V g)) [(67, GV.bo ((((g.co.getD c []).length : Nat) : Int) != ((n : Nat) : Int)))] byK byK byK byT byK byK byK (fun a w1 h => ?_) a w1 h))
  refine Eng.condk (E := gE (gM w V g)) 67 (((((g.co.getD c []).length : Nat) : Int) != ((n : Nat) : Int))) (((((g.co.getD c []).length : Nat) : Int) != ((n : Nat) : Int))) byK byK rfl (fun hq a w1 h => ?_) (fun hq a w1 h => Go.wp_skip ?_) a w1 h
  ·rw [hgd] at hq
   refine wp_seq (Eng.reg_ret (E := gE (gM w V g)) (fn := Tryz.f39) (R := fun r w' => r = .returned (.int .i64 (Qbq g)) ∧ Below w.heap.size w w') 2 (GV.nu ((c : Nat) : Int)) byK byK byK byT byK byK rfl (fun a w h => by exact wp_ret h) (fun N w' v hl hG hv => ⟨?_, hl⟩) a w1 h)
   have hv : v = .int .i64 (c : Int) := hv
   rw [hv, hbad (by
    cases e : Qau l ((c : Nat) : Int) (wrs g ((c : Nat) : Int) g.evs.length)
    ·rfl
    ·obtain ⟨e1, _, _⟩ := Qg3 e
     rw [e1, hW] at hq
     simp at hq)]
  rw [hgd] at hq
  have hlw : l.length = (wrs g (c : Int) g.evs.length).length := by rw [hW]; have := (by simpa using hq : (l.length : Int) = (n : Int)); omega
  have hno : ¬ Qs9 g ((c : Nat) : Int) l → Qbq g = ((c : Nat) : Int) := fun e => hbad (by
   cases e2 : Qau l ((c : Nat) : Int) (wrs g ((c : Nat) : Int) g.evs.length)
   ·rfl
   ·exact absurd (Qnu e2).2.2 e)
  clear hq hbad
  replace h := h.to (GV.at 0 0) (cs4 c) rfl rfl byK
  refine wp_seq (Eng.reg_keep (E := gE (gM w V g)) [(7, GV.nu ((0 : Nat) : Int))] byK byK byK byT byK byK byK (fun a w1 h => ?_) a w1 h)
  refine Qgr l.length (fun i a w1 => Qpk g ((c : Nat) : Int) l i ∧ (gE (gM w V g)).Ga 128 w (Qb7 (fun _ => GV.at 0 0) (cs7 c i)) a w1) ⟨Qu4 _ _ _, h.to (GV.at 0 0) (cs7 c 0) rfl rfl byK⟩ ?_
  clear h
  rintro i a w1 hil ⟨hup, h⟩
  refine Eng.reg_keep (E := gE (gM w V g)) [(72, GV.bo (decide (((i : Nat) : Int) < (((g.co.getD c []).length : Nat) : Int))))] byK byK byK byT byK byK byK (fun a w1 h => ?_) a w1 h
  refine ⟨_, Ql1 h 72 (decide (((i : Nat) : Int) < (((g.co.getD c []).length : Nat) : Int))) byK, fun hq => ?_, fun hq => ?_⟩
  case refine_1 =>
   rw [hgd] at hq
   obtain rfl : i = l.length := by have : ¬ i < l.length := (by simpa using hq); omega
   have hn2 := hnx (Qnt hlw hd0 (Qw5 hup))
   replace h := h.to (GV.at 0 0) (cs0 c) rfl rfl byK
   refine Eng.reg_keep (E := gE (gM w V g)) [(3, GV.nu (((c + 1 : Nat)) : Int))] byK byK byK (Qe6 (p := (true = true → ((-9223372036854775808 : Int) ≤ ((c : Nat) : Int) + 1 ∧ ((c : Nat) : Int) + 1 < 9223372036854775808)) ∧ True) byK ⟨fun _ => ⟨oW, oW⟩, trivial⟩) byK byK byK (fun a w1 h => ⟨hn2, ?_⟩) a w1 h
   exact h.to (GV.at 0 0) (cs0 (c + 1)) rfl rfl byK
  case refine_2 =>
  rw [hgd] at hq
  have hil2 : i < l.length := by simpa using hq
  refine ⟨hil2, ?_⟩
  have i2 : 0 ≤ (i : Int) ∧ (i : Int) < (((g.co.getD c []).length : Nat) : Int) := by rw [hgd]; exact ⟨oW, oW⟩
  replace h := h.to (GV.at 0 0) (cs7 c i) rfl rfl byK
  refine wp_seq (wp_seq (Eng.reg_keep (E := gE (gM w V g)) [(94, GV.bo (coX g c ((g.co.getD c []).getD i 0)))] byK byK byK ?_ byK byK byK (fun a w1 h => ?_) a w1 h))
  ·refine ⟨fun _ => ?_, fun _ => ?_, fun c2 => ?_, trivial⟩
   ·exact Qcd (p := 0 ≤ (i : Int) ∧ (i : Int) < (((g.co.getD c []).length : Nat) : Int)) kW i2
   ·exact Qcd (p := 0 ≤ (i : Int) ∧ (i : Int) < (((g.co.getD c []).length : Nat) : Int)) kW i2
   ·have c2 : ((!isB g.evs ((g.co.getD c []).getD i 0) [2]) == false && true) = true := Qdu kW c2
    exact Qcd kW (Qjm (by simpa using c2))
  refine Eng.condk (E := gE (gM w V g)) 94 (coX g c ((g.co.getD c []).getD i 0)) (coX g c ((g.co.getD c []).getD i 0)) byK byK rfl (fun hq a w1 h => ?_) (fun hq a w1 h => Go.wp_skip ?_) a w1 h
  ·rw [hgd, Qu6] at hq
   refine wp_seq (Eng.reg_ret (E := gE (gM w V g)) (fn := Tryz.f39) (R := fun r w' => r = .returned (.int .i64 (Qbq g)) ∧ Below w.heap.size w w') 2 (GV.nu ((c : Nat) : Int)) byK byK byK byT byK byK rfl (fun a w h => by exact wp_ret h) (fun N w' v hl hG hv => ⟨?_, hl⟩) a w1 h)
   have hv : v = .int .i64 (c : Int) := hv
   rw [hv, hno (fun e => by
    have := Qpj.2 (e.1 i _ (Qh3 hil2))
    rw [this] at hq
    cases hq)]
  rw [hgd, Qu6] at hq
  have hat : Qk4 g (c : Int) (l.getD i 0) = true := by simpa using hq
  clear hq
  replace h := h.to (GV.at 0 0) (cs7 c i) rfl rfl byK
  refine wp_seq (Eng.reg_keep (E := gE (gM w V g)) [(8, GV.nu ((0 : Nat) : Int))] byK byK byK byT byK byK byK (fun a w1 h => ?_) a w1 h)
  refine Qgr i (fun j a w1 => (∀ t, t < j → l.getD t 0 ≠ l.getD i 0) ∧ (gE (gM w V g)).Ga 128 w (Qb7 (fun _ => GV.at 0 0) (cs8 c i j)) a w1) ⟨fun t ht => absurd ht oW, h.to (GV.at 0 0) (cs8 c i 0) rfl rfl byK⟩ ?_
  clear h
  rintro j a w1 hji ⟨hdf, h⟩
  refine Eng.reg_keep (E := gE (gM w V g)) [(98, GV.bo (decide (((j : Nat) : Int) < ((i : Nat) : Int))))] byK byK byK byT byK byK byK (fun a w1 h => ?_) a w1 h
  refine ⟨_, Ql1 h 98 (decide (((j : Nat) : Int) < ((i : Nat) : Int))) byK, fun hq => ?_, fun hq => ⟨by simpa using hq, ?_⟩⟩
  case refine_1 =>
   obtain rfl : j = i := by have : ¬ j < i := (by simpa using hq); omega
   have hup2 := Qu5 hup (Qh3 hil2) hat (fun t ht e => hdf t ht (by
    rw [Qh3 (show t < l.length by omega)] at e
    exact Option.some.inj e))
   replace h := h.to (GV.at 0 0) (cs7 c j) rfl rfl byK
   refine Eng.reg_keep (E := gE (gM w V g)) [(7, GV.nu (((j + 1 : Nat)) : Int))] byK byK byK (Qe6 (p := (true = true → ((-9223372036854775808 : Int) ≤ ((j : Nat) : Int) + 1 ∧ ((j : Nat) : Int) + 1 < 9223372036854775808)) ∧ True) byK ⟨fun _ => ⟨oW, oW⟩, trivial⟩) byK byK byK (fun a w1 h => ⟨hup2, ?_⟩) a w1 h
   exact h.to (GV.at 0 0) (cs7 c (j + 1)) rfl rfl byK
  case refine_2 =>
  have hjl : j < i := by simpa using hq
  have i3 : 0 ≤ (j : Int) ∧ (j : Int) < (((g.co.getD c []).length : Nat) : Int) := by rw [hgd]; exact ⟨oW, oW⟩
  replace h := h.to (GV.at 0 0) (cs8 c i j) rfl rfl byK
  refine wp_seq (Eng.reg_keep (E := gE (gM w V g)) [(109, GV.bo ((g.co.getD c []).getD j 0 == (g.co.getD c []).getD i 0))] byK byK byK (Qe6 (p := (true = true → (0 ≤ ((j : Nat) : Int) ∧ ((j : Nat) : Int) < (((g.co.getD c []).length : Nat) : Int))) ∧ (true = true → (0 ≤ ((i : Nat) : Int) ∧ ((i : Nat) : Int) < (((g.co.getD c []).length : Nat) : Int))) ∧ True) byK ⟨fun _ => i3, fun _ => i2, trivial⟩) byK byK byK (fun a w1 h => ?_) a w1 h)
  refine Eng.condk (E := gE (gM w V g)) 109 (((g.co.getD c []).getD j 0 == (g.co.getD c []).getD i 0)) (((g.co.getD c []).getD j 0 == (g.co.getD c []).getD i 0)) byK byK rfl (fun hq a w1 h => ?_) (fun hq a w1 h => Go.wp_skip ?_) a w1 h
  ·rw [hgd] at hq
   have hq : l.getD j 0 = l.getD i 0 := by simpa using hq
   refine wp_seq (Eng.reg_ret (E := gE (gM w V g)) (fn := Tryz.f39) (R := fun r w' => r = .returned (.int .i64 (Qbq g)) ∧ Below w.heap.size w w') 2 (GV.nu ((c : Nat) : Int)) byK byK byK byT byK byK rfl (fun a w h => by exact wp_ret h) (fun N w' v hl hG hv => ⟨?_, hl⟩) a w1 h)
   have hv : v = .int .i64 (c : Int) := hv
   rw [hv, hno (fun e => e.2 i j _ hjl (Qh3 hil2) (by rw [Qh3 (show j < l.length by omega), hq]))]
  ·rw [hgd] at hq
   have hq : l.getD j 0 ≠ l.getD i 0 := by simpa using hq
   replace h := h.to (GV.at 0 0) (cs8 c i j) rfl rfl byK
   refine Eng.reg_keep (E := gE (gM w V g)) [(8, GV.nu (((j + 1 : Nat)) : Int))] byK byK byK (Qe6 (p := (true = true → ((-9223372036854775808 : Int) ≤ ((j : Nat) : Int) + 1 ∧ ((j : Nat) : Int) + 1 < 9223372036854775808)) ∧ True) byK ⟨fun _ => ⟨oW, oW⟩, trivial⟩) byK byK byK (fun a w1 h => ⟨fun t ht => ?_, ?_⟩) a w1 h
   ·by_cases e : t = j
    ·rw [e]; exact hq
    ·exact hdf t oW
   ·exact h.to (GV.at 0 0) (cs8 c i (j + 1)) rfl rfl byK
theorem Qdm {p : Int × Int} {x y a b : Int} (h : p = (x, y)) (h2 : p = (a, b)) : x = a ∧ y = b := by
 rw [h] at h2
 exact ⟨congrArg Prod.fst h2, congrArg Prod.snd h2⟩
theorem Qj8 {g : Gr} {q : Bool} (h : Qar g = true) : chk g q = (1, 0) := by
 have e : rl g q 0 = 0 := by unfold rl; rw [h]; rfl
 rw [Qj9 (k := 0) oW (fun j h => by omega) (by rw [e]; omega), e]
 rfl
theorem Qh4 {P : Nat → Bool} : ∀ {a f : Nat}, Qak P a f = -1 ∨ 0 ≤ Qak P a f
 | _, 0 => .inl rfl
 | a, f + 1 => by
  rw [Qak]
  by_cases h : P a = true
  ·rw [if_pos h]; exact .inr oW
  ·rw [if_neg h]; exact Qh4
theorem Qw6 (g : Gr) : Qbt g = -1 ∨ 0 ≤ Qbt g := by
 unfold Qbt
 have h := Qh4 (P := fun i => !(Qb0 g i (g.rf.getD i (0, 0)) && Qcp g (g.rf.getD i (0, 0)))) (a := 0) (f := g.rf.length)
 revert h
 generalize Qak (fun i => !(Qb0 g i (g.rf.getD i (0, 0)) && Qcp g (g.rf.getD i (0, 0)))) 0 g.rf.length = r
 intro h
 dsimp only
 split <;> (try split) <;> omega
theorem Qw7 {g : Gr} (h1 : Qar g = false) : Qbq g = -1 ∨ 0 ≤ Qbq g := by
 have hc : 0 ≤ g.cells := by simp [Qar] at h1; omega
 unfold Qbq
 split
 ·split
  ·exact .inl rfl
  ·exact .inr hc
 ·exact Qh4
theorem Qw8 (g : Gr) : Qdb g = -1 ∨ 0 ≤ Qdb g := by
 unfold Qdb
 exact Qh4
theorem Qjo {g : Gr} {q : Bool} {x : Int} {k : Nat} (hk : k < 9) (h : ∀ j, j < k → rl g q j = -1) (e : rl g q k = x) (hx : x ≠ -1) : chk g q = (((k : Nat) : Int) + 1, x) := by
 rw [Qj9 hk h (by rw [e]; exact hx), e]
theorem Qg1 {g : Gr} {q : Bool} {k : Nat} (h : ∀ j, j < k → rl g q j = -1) (e : rl g q k = -1) : ∀ j, j < k + 1 → rl g q j = -1 := fun j hj => by
 by_cases hjk : j = k
 ·rw [hjk]; exact e
 ·exact h j oW
theorem QBe {g : Gr} {q : Bool} (h1 : Qar g = false) (h2 : Qcg g q = -1) : ∀ j, j < 2 → rl g q j = -1 :=
 Qg1 (Qg1 (fun j h => by omega) (show rl g q 0 = -1 by unfold rl; rw [h1]; rfl)) (show rl g q 1 = -1 from h2)
theorem Qsb {g : Gr} {q : Bool} {x : Int} {k : Nat} (hk : k < 3) (h : ∀ j, j < 6 + k → rl g q j = -1) (e : rl g q (6 + k) = x) (hx : x ≠ -1) : chk g q = (7 + ((k : Nat) : Int), x) := by
 rw [Qjo oW h e hx]
 congr 1
 omega
theorem Qzg {evs : List Ev} {l : List (Int × Int)} {ks : List Int} (h : 0 < l.length) : Qcf evs false l ks = 0 := by
 show Qak _ 0 l.length = ((0 : Nat) : Int)
 exact Qaz (i := 0) nW oW (fun j h1 h2 => by omega) rfl
theorem Qpl {evs : List Ev} {q : Bool} {l : List (Int × Int)} {ks : List Int} (h : ¬ 0 < l.length) : Qcf evs q l ks = -1 :=
 Qai (fun j _ h2 => by omega)
theorem Qzh {g : Gr} {q : Bool} {x : Int} (h1 : Qar g = false) (h : Qcg g q = x) (hx : x ≠ -1) : chk g q = (2, x) := by
 have e0 : rl g q 0 = -1 := by unfold rl; rw [h1]; rfl
 have e1 : rl g q 1 = x := by unfold rl; exact h
 rw [Qj9 (k := 1) oW (fun j h => by obtain rfl : j = 0 := oW; exact e0) (by rw [e1]; exact hx), e1]
 rfl
theorem Qoh (V : GrV) (g : Gr) (q : Bool) (w : World) (h : GrR w V g) : Calls Tryz.prog 18 #[V.val g, .bool q] w fun r w' => r = .returned (.tuple #[.int .i64 (chk g q).1, .int .i64 (chk g q).2]) ∧ Below w.heap.size w w' := by
 generalize hr : chk g q = r
 obtain ⟨r1, r2⟩ := r
 have HR := Qa hr
 obtain ⟨Ve, Vr, Vc, Vm, Va, Vd, Vt⟩ := V
 obtain ⟨pe, ce, ee, hp, _⟩ := h.ev
 obtain ⟨p5, k5, e5, _, hl5⟩ := Qae h.addr
 obtain ⟨p6, k6, e6, _, hl6⟩ := Qae h.dat
 obtain ⟨p7, k7, e7, _, hl7⟩ := Qae h.ctrl
 dsimp only at ee e5 e6 e7
 subst ee
 subst e5
 subst e6
 subst e7
 have HP := Qa hp
 have H := Qa h
 have hB : Below w.heap.size w (w.alloc (.cells #[.int .i64 g.cells, .slice pe g.evs.length ce, Vr, Vc, Vm, .slice p5 g.addr.length k5, .slice p6 g.dat.length k6, .slice p7 g.ctrl.length k7] 27)) := bW.alloc nW _
 have hb := Blk.new w 27 #[.int .i64 g.cells, .slice pe g.evs.length ce, Vr, Vc, Vm, .slice p5 g.addr.length k5, .slice p6 g.dat.length k6, .slice p7 g.ctrl.length k7]
 unfold GrV.val
 dsimp only
 clear hr hp h
 go_enter Tryz.func18, Tryz.ntmps18
 go_upto_region 1 with fail
 have HB := Qa hB
 have HG := Qa hb
 generalize w.alloc (.cells #[.int .i64 g.cells, .slice pe g.evs.length ce, Vr, Vc, Vm, .slice p5 g.addr.length k5, .slice p6 g.dat.length k6, .slice p7 g.ctrl.length k7] 27) = W0 at *
 have c0 : W0.cell? ⟨w.heap.size, 0, none⟩ = some (.int .i64 g.cells) := hb.cell rfl
 have c1 : W0.cell? ⟨w.heap.size, 1, none⟩ = some (.slice pe g.evs.length ce) := hb.cell rfl
 clear hb hB
 by_cases b1 : g.cells < 0
 ·obtain ⟨rfl, rfl⟩ := Qdm HR.out (Qj8 (by unfold Qar; rw [decide_eq_true b1]; rfl))
  go_wp2_with fail
  go_ret2
  exact ⟨rfl, HB.out⟩
 by_cases b2 : 4096 < g.cells
 ·obtain ⟨rfl, rfl⟩ := Qdm HR.out (Qj8 (by unfold Qar; simp; omega))
  go_wp2_with fail
  go_ret2
  exact ⟨rfl, HB.out⟩
 by_cases b3 : (g.evs.length : Int) < g.cells
 ·obtain ⟨rfl, rfl⟩ := Qdm HR.out (Qj8 (by unfold Qar; simp; omega))
  go_wp2_with fail
  go_ret2
  exact ⟨rfl, HB.out⟩
 by_cases b4 : 256 < (g.evs.length : Int)
 ·obtain ⟨rfl, rfl⟩ := Qdm HR.out (Qj8 (by unfold Qar; simp; omega))
  go_wp2_with fail
  go_ret2
  exact ⟨rfl, HB.out⟩
 obtain ⟨nc, hn⟩ : ∃ n : Nat, g.cells = (n : Int) := ⟨g.cells.toNat, oW⟩
 have h1 : Qar g = false := by unfold Qar; simp; omega
 have hl256 : g.evs.length ≤ 256 := by omega
 have hnl : nc ≤ g.evs.length := by omega
 have H1 := Qa h1
 have HN := Qa hn
 obtain ⟨md, HMD⟩ : ∃ md : Int, Hid (md = if q then 11 else 1) := ⟨_, rfl⟩
 go_upto_if 35 with fail
 have hb2 := Blk.new W0 34 #[.int .i64 (-1), .int .i64 2, .int .i64 0, .int .u64 0, .int .i64 1]
 have hB2 : Below W0.heap.size W0 (W0.alloc (.cells #[.int .i64 (-1), .int .i64 2, .int .i64 0, .int .u64 0, .int .i64 1] 34)) := bW.alloc nW _
 have HX2 := Qa hb2
 have HY2 := Qa hB2
 have f4 := hb2.frozen 4
 have z4 := hb2.cell (j := 4) rfl
 clear hb2 hB2 c0 c1 h1 hn b1 b2 b3 b4
 generalize W0.alloc (.cells #[.int .i64 (-1), .int .i64 2, .int .i64 0, .int .u64 0, .int .i64 1] 34) = W1 at *
 go_cut [35] (fun v35 wx => Hid (v35 = v35) ∧ Hid (Blk wx W0.heap.size 34 #[.int .i64 (-1), .int .i64 2, .int .i64 0, .int .u64 0, .int .i64 md]) ∧ Hid (Below W0.heap.size W0 wx))
 case first =>
  cases q
  ·obtain rfl : md = 1 := HMD.out
   go_wp2_with fail
   go_meet
   case rel => exact ⟨trivial, HX2.out, HY2.out⟩
  ·obtain rfl : md = 11 := HMD.out
   go_wp2_with fail
   go_meet
   case rel => exact ⟨trivial, HX2.out.set 4 _, HY2.out.setCell nW _⟩
 case rest =>
 obtain ⟨_, HXC, HYC⟩ := hcut
 generalize hwc : wc = W2 at *
 clear hwc z4 f4 HX2 HY2
 go_wp2_with fail
 go_loopg [7] nc (fun f v7 wr => ∃ c : Nat, v7 = .int .i64 ((c : Nat) : Int) ∧ c ≤ nc ∧ Hid (c + f = nc) ∧ Hid (∀ j, 0 ≤ j → j < c → @decide (g.ev j ≠ Qdl j q) (Ev.ndec _ _) = false) ∧ (∃ lv : Int, Hid (Blk wr W0.heap.size 34 #[.int .i64 (-1), .int .i64 2, .int .i64 lv, .int .u64 0, .int .i64 md])) ∧ Hid (Below W0.heap.size W0 wr))
 case atStart => exact ⟨0, rfl, Nat.zero_le _, Nat.zero_add _, (fun j h1 h2 => by omega), ⟨0, HXC⟩, HYC⟩
 case round =>
  obtain ⟨c, rfl, hcn, HKF, HALL, ⟨lv, HE⟩, HW⟩ := hrel
  generalize hwa : wr = wa at *
  clear hwa
  have HBW : Hid (Below w.heap.size w wa) := Qaa HB.out HB.out.size HW.out
  have HGa := Qa (HG.out.of_below HW.out)
  have c0 : wa.cell? ⟨w.heap.size, 0, none⟩ = some (.int .i64 (nc : Int)) := by rw [← HN.out]; exact HGa.out.cell rfl
  have C0 : (0 : Int) ≤ (c : Int) := by omega
  by_cases hlt : c < nc
  ·have C1 : (c : Int) < (nc : Int) := by omega
   have C2 : (c : Int) < (g.evs.length : Int) := by omega
   have z2 : wa.cell? ⟨W0.heap.size, 2, none⟩ = some (.int .i64 lv) := HE.out.cell rfl
   have f2 := HE.out.frozen 2
   go_upto_region 10 with fail
   have HE2 := Qa (HE.out.set 2 (.int .i64 (c : Int)))
   have HW2 : Hid (Below W0.heap.size W0 (wa.setCell ⟨W0.heap.size, 2, none⟩ (.int .i64 (c : Int)))) := HW.out.setCell nW _
   clear z2 f2 c0
   generalize wa.setCell ⟨W0.heap.size, 2, none⟩ (.int .i64 ((c : Nat) : Int)) = wy at *
   have HBY : Hid (Below w.heap.size w wy) := Qaa HB.out HB.out.size HW2.out
   obtain ⟨s, o, rfl, hat⟩ := HP.out oW
   have hat' := hat.below HBY.out
   have he := Gr.ev_at (g := g) (i := c) oW
   have x0 := hat'.c0 c _ he
   have x1 := hat'.c1 c _ he
   have x2 := hat'.c2 c _ he
   have x3 := hat'.c3 c _ he
   have x4 := hat'.c4 c _ he
   have c1 : wy.cell? ⟨w.heap.size, 1, none⟩ = some (.slice (some ⟨s, o, none⟩) g.evs.length ce) := (HG.out.of_below HW2.out).cell rfl
   have y0 : wy.cell? ⟨W0.heap.size, 0, none⟩ = some (.int .i64 (-1)) := HE2.out.cell rfl
   have y1 : wy.cell? ⟨W0.heap.size, 1, none⟩ = some (.int .i64 2) := HE2.out.cell rfl
   have y2 : wy.cell? ⟨W0.heap.size, 2, none⟩ = some (.int .i64 (c : Int)) := HE2.out.cell rfl
   have y3 : wy.cell? ⟨W0.heap.size, 3, none⟩ = some (.int .u64 0) := HE2.out.cell rfl
   have y4 : wy.cell? ⟨W0.heap.size, 4, none⟩ = some (.int .i64 md) := HE2.out.cell rfl
   have HI : Hid (g.ev c = Qdl c q ↔ (g.ev c).t = -1 ∧ (g.ev c).k = 2 ∧ (g.ev c).l = (c : Int) ∧ (g.ev c).v = 0 ∧ (g.ev c).m = md) := by rw [Hid, Qdl, Qwr, HMD.out]
   clear he hat hat'
   generalize hge : g.ev c = ek at *
   have HGE := Qa hge
   clear hge
   obtain ⟨et, ek', el, ev, em⟩ := ek
   dsimp only at x0 x1 x2 x3 x4 HI
   by_cases hq : et = -1 ∧ ek' = 2 ∧ el = (c : Int) ∧ ev = 0 ∧ em = md
   ·have HQ := Qa hq
    obtain ⟨rfl, rfl, rfl, rfl, rfl⟩ := hq
    go_quiet (fail)
    go_wp2_with fail
    go_roundg (nc - (c + 1))
    case measure => have := HKF.out; omega
    case rel =>
     refine ⟨c + 1, by go_num, oW, by have := HKF.out; rw [Hid]; omega, fun j h1 h2 => ?_, ⟨_, HE2.out⟩, Qab HW2.out _⟩
     by_cases e : j = c
     ·subst e
      rw [HGE.out]
      exact @decide_eq_false _ (Ev.ndec _ _) (fun h => h (HI.out.2 HQ.out))
     ·exact HALL.out j h1 oW
   ·have H2E : Hid (Qcg g q = (c : Int)) := by
     rw [Hid, Qcg, HN.out, Int.toNat_natCast]
     refine Qaz (Nat.zero_le _) oW HALL.out ?_
     rw [HGE.out]
     exact @decide_eq_true _ (Ev.ndec _ _) (fun e => hq (HI.out.1 e))
    obtain ⟨rfl, rfl⟩ := Qdm HR.out (Qzh H1.out H2E.out oW)
    have HQ := Qa hq
    clear hq
    by_cases e1 : et = -1
    case neg =>
     go_quiet (fail)
     go_wp2_with fail
     go_ret2
     exact ⟨rfl, Qab HBY.out _⟩
    subst e1
    by_cases e2 : ek' = 2
    case neg =>
     go_quiet (fail)
     go_wp2_with fail
     go_ret2
     exact ⟨rfl, Qab HBY.out _⟩
    subst e2
    by_cases e3 : el = (c : Int)
    case neg =>
     go_quiet (fail)
     go_wp2_with fail
     go_ret2
     exact ⟨rfl, Qab HBY.out _⟩
    subst e3
    by_cases e4 : ev = 0
    case neg =>
     go_quiet (fail)
     go_wp2_with fail
     go_ret2
     exact ⟨rfl, Qab HBY.out _⟩
    subst e4
    by_cases e5 : em = md
    case neg =>
     go_quiet (fail)
     go_wp2_with fail
     go_ret2
     exact ⟨rfl, Qab HBY.out _⟩
    exact absurd ⟨rfl, rfl, rfl, rfl, e5⟩ HQ.out
  ·obtain rfl : c = nc := by omega
   have H2 : Hid (Qcg g q = -1) := by
    rw [Hid, Qcg, HN.out, Int.toNat_natCast]
    exact Qai (fun j h1 h2 => HALL.out j h1 oW)
   have H2L := Qa (QBe H1.out H2.out)
   go_wp2_with fail
   clear c0
   go_loopg [8] (g.evs.length - c) (fun f v8 wr => ∃ k : Nat, v8 = .int .i64 ((k : Nat) : Int) ∧ c ≤ k ∧ k ≤ g.evs.length ∧ Hid (k + f = g.evs.length) ∧ Hid (∀ j, c ≤ j → j < k → (!Qbm g.cells (g.ev j) q) = false) ∧ Hid (Below W0.heap.size W0 wr))
   case atStart => exact ⟨c, rfl, Nat.le_refl _, hnl, by rw [Hid]; omega, (fun j h1 h2 => by omega), HW.out⟩
   case round =>
    obtain ⟨k, rfl, hk0, hk, HKG, HALL3, HW3⟩ := hrel
    generalize hwb : wr = wb at *
    clear hwb
    have HBb : Hid (Below w.heap.size w wb) := Qaa HB.out HB.out.size HW3.out
    have HGb := Qa (HG.out.of_below HW3.out)
    have c1 : wb.cell? ⟨w.heap.size, 1, none⟩ = some (.slice pe g.evs.length ce) := HGb.out.cell rfl
    have K0 : (0 : Int) ≤ (k : Int) := by omega
    by_cases hlt2 : k < g.evs.length
    ·have K1 : (k : Int) < (g.evs.length : Int) := by omega
     go_upto_region 15 with fail
     clear c1
     obtain ⟨s, o, rfl, hat⟩ := HP.out oW
     have HAT := Qa (hat.below HBb.out)
     have HC0 := Qa (Qon ⟨.slice (some ⟨s, o, none⟩) g.evs.length ce, Vr, Vc, Vm, .slice p5 g.addr.length k5, .slice p6 g.dat.length k6, .slice p7 g.ctrl.length k7⟩ g (g.ev k) q wb.drew)
     unfold GrV.val Ev.val at HC0
     dsimp only at HC0
     have HE3 := Qa (Gr.ev_at hlt2)
     generalize hev : g.ev k = ek at *
     obtain ⟨et, ek', el, ev, em⟩ := ek
     have HZ : Hid (∀ W, Below wb.heap.size wb W → W.cell? ⟨w.heap.size, 0, none⟩ = some (.int .i64 g.cells) ∧ W.cell? ⟨w.heap.size, 1, none⟩ = some (.slice (some ⟨s, o, none⟩) g.evs.length ce) ∧ W.cell? ⟨w.heap.size, 2, none⟩ = some (Vr) ∧ W.cell? ⟨w.heap.size, 3, none⟩ = some (Vc) ∧ W.cell? ⟨w.heap.size, 4, none⟩ = some (Vm) ∧ W.cell? ⟨w.heap.size, 5, none⟩ = some (.slice p5 g.addr.length k5) ∧ W.cell? ⟨w.heap.size, 6, none⟩ = some (.slice p6 g.dat.length k6) ∧ W.cell? ⟨w.heap.size, 7, none⟩ = some (.slice p7 g.ctrl.length k7) ∧ W.cell? ⟨s, o + k * 5, none⟩ = some (.int .i64 et) ∧ W.cell? ⟨s, o + k * 5 + 1, none⟩ = some (.int .i64 ek') ∧ W.cell? ⟨s, o + k * 5 + 2, none⟩ = some (.int .i64 el) ∧ W.cell? ⟨s, o + k * 5 + 3, none⟩ = some (.int .u64 ev) ∧ W.cell? ⟨s, o + k * 5 + 4, none⟩ = some (.int .i64 em)) := fun W hW => ⟨(HGb.out.of_below hW).cell rfl, (HGb.out.of_below hW).cell rfl, (HGb.out.of_below hW).cell rfl, (HGb.out.of_below hW).cell rfl, (HGb.out.of_below hW).cell rfl, (HGb.out.of_below hW).cell rfl, (HGb.out.of_below hW).cell rfl, (HGb.out.of_below hW).cell rfl, (HAT.out.below hW).c0 k _ HE3.out, (HAT.out.below hW).c1 k _ HE3.out, (HAT.out.below hW).c2 k _ HE3.out, (HAT.out.below hW).c3 k _ HE3.out, (HAT.out.below hW).c4 k _ HE3.out⟩
     have HEV := Qa hev
     clear hev hat
     generalize hgbn : w.heap.size = gb at *
     generalize hcl : g.cells = cl at *
     dsimp only at HC0
     cases hok : Qbm cl ⟨et, ek', el, ev, em⟩ q
     ·rw [hok] at HC0
      have HC := HC0
      have H3E : Hid (Qdc g q = (k : Int)) := by
       rw [Hid, Qdc, hcl, HN.out, Int.toNat_natCast]
       refine Qaz hk0 oW (fun j h1 h2 => by have := HALL3.out j h1 h2; rwa [HN.out] at this) ?_
       rw [HEV.out, ← HN.out, hok]
       rfl
      obtain ⟨rfl, rfl⟩ := Qdm HR.out (Qjo (k := 2) oW H2L.out (show rl g q 2 = _ from H3E.out) oW)
      clear HC0 hok
      refine wp_region_held_drew (S := (fun w' => w'.cell? ⟨gb, 0, none⟩ = some (.int .i64 cl) ∧ w'.cell? ⟨gb, 1, none⟩ = some (.slice (some ⟨s, o, none⟩) g.evs.length ce) ∧ w'.cell? ⟨gb, 2, none⟩ = some (Vr) ∧ w'.cell? ⟨gb, 3, none⟩ = some (Vc) ∧ w'.cell? ⟨gb, 4, none⟩ = some (Vm) ∧ w'.cell? ⟨gb, 5, none⟩ = some (.slice p5 g.addr.length k5) ∧ w'.cell? ⟨gb, 6, none⟩ = some (.slice p6 g.dat.length k6) ∧ w'.cell? ⟨gb, 7, none⟩ = some (.slice p7 g.ctrl.length k7) ∧ w'.cell? ⟨s, o + k * 5, none⟩ = some (.int .i64 et) ∧ w'.cell? ⟨s, o + k * 5 + 1, none⟩ = some (.int .i64 ek') ∧ w'.cell? ⟨s, o + k * 5 + 2, none⟩ = some (.int .i64 el) ∧ w'.cell? ⟨s, o + k * 5 + 3, none⟩ = some (.int .u64 ev) ∧ w'.cell? ⟨s, o + k * 5 + 4, none⟩ = some (.int .i64 em))) kW (HZ.out _ bW.drew) (fun hHeld => ?_)
      refine tzW 0 rfl ?_
      refine tzW 1 rfl ?_
      refine tzW 2 rfl ?_
      refine tzW 3 rfl ?_
      refine tzW 4 rfl ?_
      refine tzW 5 rfl ?_
      refine tzW 6 rfl ?_
      refine wpAnyH_ready (rs := [7]) kW sW ?_
      refine AllReadyH.cons rfl (fun K hK => ?_) AllReadyH.nil
      simp only [z1, z2, z3]
      go_simp
      refine HC.out.mono ?_
      rintro e w5 ⟨rfl, hB5⟩
      have hX5 : Below wb.heap.size wb w5 := ((Below.refl wb.heap.size wb).drew).trans hB5
      refine hK.out _ _ (HZ.out w5 hX5) (fun hHeld => ?_)
      clear hK K
      try simp only [zz]
      refine tzW 8 rfl ?_
      refine wpAnyH_done kW ?_ _
      go_wp2_with fail
      go_ret2
      exact ⟨rfl, by rw [hgbn]; exact HBb.out.trans (hX5.mono (by rw [← hgbn]; exact HBb.out.size))⟩
     ·rw [hok] at HC0
      have HC := HC0
      have HOK := Qa hok
      clear HC0 hok
      refine wp_region_held_drew (S := (fun w' => w'.cell? ⟨gb, 0, none⟩ = some (.int .i64 cl) ∧ w'.cell? ⟨gb, 1, none⟩ = some (.slice (some ⟨s, o, none⟩) g.evs.length ce) ∧ w'.cell? ⟨gb, 2, none⟩ = some (Vr) ∧ w'.cell? ⟨gb, 3, none⟩ = some (Vc) ∧ w'.cell? ⟨gb, 4, none⟩ = some (Vm) ∧ w'.cell? ⟨gb, 5, none⟩ = some (.slice p5 g.addr.length k5) ∧ w'.cell? ⟨gb, 6, none⟩ = some (.slice p6 g.dat.length k6) ∧ w'.cell? ⟨gb, 7, none⟩ = some (.slice p7 g.ctrl.length k7) ∧ w'.cell? ⟨s, o + k * 5, none⟩ = some (.int .i64 et) ∧ w'.cell? ⟨s, o + k * 5 + 1, none⟩ = some (.int .i64 ek') ∧ w'.cell? ⟨s, o + k * 5 + 2, none⟩ = some (.int .i64 el) ∧ w'.cell? ⟨s, o + k * 5 + 3, none⟩ = some (.int .u64 ev) ∧ w'.cell? ⟨s, o + k * 5 + 4, none⟩ = some (.int .i64 em))) kW (HZ.out _ bW.drew) (fun hHeld => ?_)
      refine tzW 0 rfl ?_
      refine tzW 1 rfl ?_
      refine tzW 2 rfl ?_
      refine tzW 3 rfl ?_
      refine tzW 4 rfl ?_
      refine tzW 5 rfl ?_
      refine tzW 6 rfl ?_
      refine wpAnyH_ready (rs := [7]) kW sW ?_
      refine AllReadyH.cons rfl (fun K hK => ?_) AllReadyH.nil
      simp only [z1, z2, z3]
      go_simp
      refine HC.out.mono ?_
      rintro e w5 ⟨rfl, hB5⟩
      have hX5 : Below wb.heap.size wb w5 := ((Below.refl wb.heap.size wb).drew).trans hB5
      refine hK.out _ _ (HZ.out w5 hX5) (fun hHeld => ?_)
      clear hK K
      try simp only [zz]
      refine tzW 8 rfl ?_
      refine wpAnyH_done kW ?_ _
      go_wp2_with fail
      go_roundg (g.evs.length - (k + 1))
      case measure => have := HKG.out; omega
      case rel =>
       refine ⟨k + 1, by go_num, oW, oW, by have := HKG.out; rw [Hid]; omega, fun j h1 h2 => ?_, HW3.out.trans (hX5.mono HW3.out.size)⟩
       by_cases e : j = k
       ·subst e; rw [HEV.out, HOK.out]; rfl
       ·exact HALL3.out j h1 oW
    ·obtain rfl : k = g.evs.length := by omega
     have H3 : Hid (Qdc g q = -1) := by
      rw [Hid, Qdc, HN.out, Int.toNat_natCast]
      exact Qai (fun j h1 h2 => by have := HALL3.out j h1 oW; rwa [HN.out] at this)
     have H3L := Qa (Qg1 H2L.out (show rl g q 2 = _ from H3.out))
     clear c1 K0
     have c0 : wb.cell? ⟨w.heap.size, 0, none⟩ = some (.int .i64 g.cells) := HGb.out.cell rfl
     have c1 : wb.cell? ⟨w.heap.size, 1, none⟩ = some (.slice pe g.evs.length ce) := HGb.out.cell rfl
     have c2 : wb.cell? ⟨w.heap.size, 2, none⟩ = some (Vr) := HGb.out.cell rfl
     have c3 : wb.cell? ⟨w.heap.size, 3, none⟩ = some (Vc) := HGb.out.cell rfl
     have c4 : wb.cell? ⟨w.heap.size, 4, none⟩ = some (Vm) := HGb.out.cell rfl
     have c5 : wb.cell? ⟨w.heap.size, 5, none⟩ = some (.slice p5 g.addr.length k5) := HGb.out.cell rfl
     have c6 : wb.cell? ⟨w.heap.size, 6, none⟩ = some (.slice p6 g.dat.length k6) := HGb.out.cell rfl
     have c7 : wb.cell? ⟨w.heap.size, 7, none⟩ = some (.slice p7 g.ctrl.length k7) := HGb.out.cell rfl
     have HD4 := Qa (Qs8 ⟨.slice pe g.evs.length ce, Vr, Vc, Vm, .slice p5 g.addr.length k5, .slice p6 g.dat.length k6, .slice p7 g.ctrl.length k7⟩ g wb (H.out.below HBb.out) hl256)
     unfold GrV.val at HD4
     dsimp only at HD4
     obtain ⟨x4, hx4⟩ : ∃ x, Qbt g = x := ⟨_, rfl⟩
     have HX4 := Qa hx4
     have T4 := Qw6 g
     rw [hx4] at HD4 T4
     clear hx4
     go_wp2_with fail
     refine HD4.out.mono ?_
     rintro e w4 ⟨rfl, hD4⟩
     clear c0 c1 c2 c3 c4 c5 c6 c7
     have HB4 : Hid (Below w.heap.size w w4) := Qaa HBb.out HBb.out.size hD4
     have HV4 : Hid (Below W0.heap.size W0 w4) := Qaa HW3.out HW3.out.size hD4
     have HG4 := Qa (HG.out.of_below HV4.out)
     by_cases n4 : x4 = -1
     case neg =>
      have t4 : (0 : Int) ≤ x4 := T4.resolve_left n4
      obtain ⟨rfl, rfl⟩ := Qdm HR.out (Qjo (k := 3) oW H3L.out (show rl g q 3 = _ from HX4.out) n4)
      clear T4 n4
      go_wp2_with fail
      go_ret2
      exact ⟨rfl, HB4.out⟩
     subst n4
     have H4L := Qa (Qg1 H3L.out (show rl g q 3 = _ from HX4.out))
     clear T4
     have c0 : w4.cell? ⟨w.heap.size, 0, none⟩ = some (.int .i64 g.cells) := HG4.out.cell rfl
     have c1 : w4.cell? ⟨w.heap.size, 1, none⟩ = some (.slice pe g.evs.length ce) := HG4.out.cell rfl
     have c2 : w4.cell? ⟨w.heap.size, 2, none⟩ = some (Vr) := HG4.out.cell rfl
     have c3 : w4.cell? ⟨w.heap.size, 3, none⟩ = some (Vc) := HG4.out.cell rfl
     have c4 : w4.cell? ⟨w.heap.size, 4, none⟩ = some (Vm) := HG4.out.cell rfl
     have c5 : w4.cell? ⟨w.heap.size, 5, none⟩ = some (.slice p5 g.addr.length k5) := HG4.out.cell rfl
     have c6 : w4.cell? ⟨w.heap.size, 6, none⟩ = some (.slice p6 g.dat.length k6) := HG4.out.cell rfl
     have c7 : w4.cell? ⟨w.heap.size, 7, none⟩ = some (.slice p7 g.ctrl.length k7) := HG4.out.cell rfl
     have HD5 := Qa (Qt ⟨.slice pe g.evs.length ce, Vr, Vc, Vm, .slice p5 g.addr.length k5, .slice p6 g.dat.length k6, .slice p7 g.ctrl.length k7⟩ g q w4 (H.out.below HB4.out) H1.out H2.out)
     unfold GrV.val at HD5
     dsimp only at HD5
     obtain ⟨x5, hx5⟩ : ∃ x, Qbq g = x := ⟨_, rfl⟩
     have HX5 := Qa hx5
     have T5 := Qw7 H1.out
     rw [hx5] at HD5 T5
     clear hx5
     go_wp2_with fail
     refine HD5.out.mono ?_
     rintro e w5 ⟨rfl, hD5⟩
     clear c0 c1 c2 c3 c4 c5 c6 c7
     have HB5 : Hid (Below w.heap.size w w5) := Qaa HB4.out HB4.out.size hD5
     have HV5 : Hid (Below W0.heap.size W0 w5) := Qaa HV4.out HV4.out.size hD5
     have HG5 := Qa (HG.out.of_below HV5.out)
     by_cases n5 : x5 = -1
     case neg =>
      have t5 : (0 : Int) ≤ x5 := T5.resolve_left n5
      obtain ⟨rfl, rfl⟩ := Qdm HR.out (Qjo (k := 4) oW H4L.out (show rl g q 4 = _ from HX5.out) n5)
      clear T5 n5
      go_wp2_with fail
      go_ret2
      exact ⟨rfl, HB5.out⟩
     subst n5
     have H5L := Qa (Qg1 H4L.out (show rl g q 4 = _ from HX5.out))
     clear T5
     have c0 : w5.cell? ⟨w.heap.size, 0, none⟩ = some (.int .i64 g.cells) := HG5.out.cell rfl
     have c1 : w5.cell? ⟨w.heap.size, 1, none⟩ = some (.slice pe g.evs.length ce) := HG5.out.cell rfl
     have c2 : w5.cell? ⟨w.heap.size, 2, none⟩ = some (Vr) := HG5.out.cell rfl
     have c3 : w5.cell? ⟨w.heap.size, 3, none⟩ = some (Vc) := HG5.out.cell rfl
     have c4 : w5.cell? ⟨w.heap.size, 4, none⟩ = some (Vm) := HG5.out.cell rfl
     have c5 : w5.cell? ⟨w.heap.size, 5, none⟩ = some (.slice p5 g.addr.length k5) := HG5.out.cell rfl
     have c6 : w5.cell? ⟨w.heap.size, 6, none⟩ = some (.slice p6 g.dat.length k6) := HG5.out.cell rfl
     have c7 : w5.cell? ⟨w.heap.size, 7, none⟩ = some (.slice p7 g.ctrl.length k7) := HG5.out.cell rfl
     have HD6 := Qa (Qq7 ⟨.slice pe g.evs.length ce, Vr, Vc, Vm, .slice p5 g.addr.length k5, .slice p6 g.dat.length k6, .slice p7 g.ctrl.length k7⟩ g w5 (H.out.below HB5.out) hl256 (Qu2 H2.out H3.out))
     unfold GrV.val at HD6
     dsimp only at HD6
     obtain ⟨x6, hx6⟩ : ∃ x, Qdb g = x := ⟨_, rfl⟩
     have HX6 := Qa hx6
     have T6 := Qw8 g
     rw [hx6] at HD6 T6
     clear hx6
     go_wp2_with fail
     refine HD6.out.mono ?_
     rintro e w6 ⟨rfl, hD6⟩
     clear c0 c1 c2 c3 c4 c5 c6 c7
     have HB6 : Hid (Below w.heap.size w w6) := Qaa HB5.out HB5.out.size hD6
     have HV6 : Hid (Below W0.heap.size W0 w6) := Qaa HV5.out HV5.out.size hD6
     have HG6 := Qa (HG.out.of_below HV6.out)
     by_cases n6 : x6 = -1
     case neg =>
      have t6 : (0 : Int) ≤ x6 := T6.resolve_left n6
      obtain ⟨rfl, rfl⟩ := Qdm HR.out (Qjo (k := 5) oW H5L.out (show rl g q 5 = _ from HX6.out) n6)
      clear T6 n6
      go_wp2_with fail
      go_ret2
      exact ⟨rfl, HB6.out⟩
     subst n6
     have H6L := Qa (Qg1 H5L.out (show rl g q 5 = _ from HX6.out))
     clear T6
     have c5 : w6.cell? ⟨w.heap.size, 5, none⟩ = some (.slice p5 g.addr.length k5) := HG6.out.cell rfl
     have c6 : w6.cell? ⟨w.heap.size, 6, none⟩ = some (.slice p6 g.dat.length k6) := HG6.out.cell rfl
     have c7 : w6.cell? ⟨w.heap.size, 7, none⟩ = some (.slice p7 g.ctrl.length k7) := HG6.out.cell rfl
     go_upto_region 28 with fail
     have hbs := Blk.new w6 24 #[.slice p5 g.addr.length k5, .slice p6 g.dat.length k6, .slice p7 g.ctrl.length k7]
     have hBs : Below w6.heap.size w6 (w6.alloc (.cells #[.slice p5 g.addr.length k5, .slice p6 g.dat.length k6, .slice p7 g.ctrl.length k7] 24)) := bW.alloc nW _
     have HS := Qa hbs
     have HV7 : Hid (Below W0.heap.size W0 (w6.alloc (.cells #[.slice p5 g.addr.length k5, .slice p6 g.dat.length k6, .slice p7 g.ctrl.length k7] 24))) := Qaa HV6.out HV6.out.size hBs
     have HB7 : Hid (Below w.heap.size w (w6.alloc (.cells #[.slice p5 g.addr.length k5, .slice p6 g.dat.length k6, .slice p7 g.ctrl.length k7] 24))) := Qaa HB6.out HB6.out.size hBs
     clear hbs hBs c5 c6 c7 hD4 hD5 hD6
     generalize w6.alloc (.cells #[.slice p5 g.addr.length k5, .slice p6 g.dat.length k6, .slice p7 g.ctrl.length k7] 24) = W7 at *
     generalize w6.heap.size = bs at *
     go_loopg [11] 3 (fun f v11 wr => ∃ k : Nat, v11 = .int .i64 ((k : Nat) : Int) ∧ k ≤ 3 ∧ Hid (k + f = 3) ∧ Hid (∀ j, j < 6 + k → rl g q j = -1) ∧ Hid (Below W7.heap.size W7 wr))
     case atStart => exact ⟨0, rfl, oW, rfl, H6L.out, Below.refl _ _⟩
     case round =>
      obtain ⟨k, rfl, hk3, HKH, HRL, HW8⟩ := hrel
      clear HBb HGb HW3
      generalize hwb2 : wr = wb at *
      clear hwb2
      have HBb : Hid (Below w.heap.size w wb) := Qaa HB7.out HB7.out.size HW8.out
      have HGb := Qa (HG.out.of_below (Qaa HV7.out HV7.out.size HW8.out))
      have HSb := Qa (HS.out.of_below HW8.out)
      have K0 : (0 : Int) ≤ (k : Int) := by omega
      by_cases hlt3 : k < 3
      ·have K1 : (k : Int) < 3 := by omega
       obtain ⟨pk, lk, ck, ks, hck, hpk, hwk, hrk, hlk⟩ : ∃ (pk : Option Addr) (lk : List (Int × Int)) (ck : Nat) (ks : List Int), (#[.slice p5 g.addr.length k5, .slice p6 g.dat.length k6, .slice p7 g.ctrl.length k7] : Array Value)[k]? = some (.slice pk lk.length ck) ∧ PArg w (.slice pk lk.length ck) lk ∧ Qw4 (7 + ((k : Nat) : Int)) ks ∧ rl g q (6 + k) = Qcf g.evs q lk ks ∧ lk.length ≤ 9223372036854775807 := by
        obtain rfl | rfl | rfl : k = 0 ∨ k = 1 ∨ k = 2 := by omega
        ·exact ⟨p5, g.addr, k5, [1, 2], rfl, H.out.addr, .inl ⟨rfl, rfl⟩, rfl, hl5⟩
        ·exact ⟨p6, g.dat, k6, [2], rfl, H.out.dat, .inr (.inl ⟨rfl, rfl⟩), rfl, hl6⟩
        ·exact ⟨p7, g.ctrl, k7, [1, 2, 3], rfl, H.out.ctrl, .inr (.inr ⟨rfl, rfl⟩), rfl, hl7⟩
       have HRK := Qa hrk
       have HC := Qa (Qpg ⟨.slice pe g.evs.length ce, Vr, Vc, Vm, .slice p5 g.addr.length k5, .slice p6 g.dat.length k6, .slice p7 g.ctrl.length k7⟩ g (.slice pk lk.length ck) lk (7 + (k : Int)) ks wb.drew (H.out.below HBb.out.drew) (hpk.below HBb.out.drew) hl256 (Qu2 H2.out H3.out) (QBc H2.out H3.out) hwk)
       unfold GrV.val at HC
       dsimp only at HC
       obtain ⟨xd, hxd⟩ : ∃ x, Qcf g.evs true lk ks = x := ⟨_, rfl⟩
       have HXD := Qa hxd
       have TD : Hid (xd = -1 ∨ 0 ≤ xd) := by rw [Hid, ← hxd]; exact Qh4
       rw [hxd] at HC
       have HZ : Hid (∀ W, Below wb.heap.size wb W → W.cell? ⟨w.heap.size, 0, none⟩ = some (.int .i64 g.cells) ∧ W.cell? ⟨w.heap.size, 1, none⟩ = some (.slice pe g.evs.length ce) ∧ W.cell? ⟨w.heap.size, 2, none⟩ = some (Vr) ∧ W.cell? ⟨w.heap.size, 3, none⟩ = some (Vc) ∧ W.cell? ⟨w.heap.size, 4, none⟩ = some (Vm) ∧ W.cell? ⟨w.heap.size, 5, none⟩ = some (.slice p5 g.addr.length k5) ∧ W.cell? ⟨w.heap.size, 6, none⟩ = some (.slice p6 g.dat.length k6) ∧ W.cell? ⟨w.heap.size, 7, none⟩ = some (.slice p7 g.ctrl.length k7) ∧ W.cell? ⟨bs, k, none⟩ = some (.slice pk lk.length ck)) := fun W hW => ⟨(HGb.out.of_below hW).cell rfl, (HGb.out.of_below hW).cell rfl, (HGb.out.of_below hW).cell rfl, (HGb.out.of_below hW).cell rfl, (HGb.out.of_below hW).cell rfl, (HGb.out.of_below hW).cell rfl, (HGb.out.of_below hW).cell rfl, (HGb.out.of_below hW).cell rfl, (HSb.out.of_below hW).cell hck⟩
       have W7k : IntKind.i64.wrap (7 + (k : Int)) = 7 + (k : Int) := by
        have := Qch (j := 7 + k) oW
        rwa [Int.natCast_add] at this
       clear hxd hrk hwk hpk hck
       go_upto_region 30 with fail
       generalize hgbn : w.heap.size = gb at *
       generalize hcl : g.cells = cl at *
       refine wp_region_held_drew (S := (fun w' => w'.cell? ⟨gb, 0, none⟩ = some (.int .i64 cl) ∧ w'.cell? ⟨gb, 1, none⟩ = some (.slice pe g.evs.length ce) ∧ w'.cell? ⟨gb, 2, none⟩ = some (Vr) ∧ w'.cell? ⟨gb, 3, none⟩ = some (Vc) ∧ w'.cell? ⟨gb, 4, none⟩ = some (Vm) ∧ w'.cell? ⟨gb, 5, none⟩ = some (.slice p5 g.addr.length k5) ∧ w'.cell? ⟨gb, 6, none⟩ = some (.slice p6 g.dat.length k6) ∧ w'.cell? ⟨gb, 7, none⟩ = some (.slice p7 g.ctrl.length k7) ∧ w'.cell? ⟨bs, k, none⟩ = some (.slice pk lk.length ck))) kW (HZ.out _ bW.drew) (fun hHeld => ?_)
       refine tzW 0 rfl ?_
       refine tzW 1 rfl ?_
       refine tzW 2 rfl ?_
       refine tzW 3 rfl ?_
       refine tzW 4 rfl ?_
       refine tzW 5 rfl ?_
       refine tzW 6 rfl ?_
       refine wpAnyH_ready (rs := [7]) kW sW ?_
       refine AllReadyH.cons rfl (fun K hK => ?_) AllReadyH.nil
       simp only [z1, z2, z3]
       go_simp
       refine HC.out.mono ?_
       rintro e w5 ⟨rfl, hB5⟩
       have hX5 : Below wb.heap.size wb w5 := ((Below.refl wb.heap.size wb).drew).trans hB5
       refine hK.out _ _ (HZ.out w5 hX5) (fun hHeld => ?_)
       clear hK K
       try simp only [zz]
       refine tzW 8 rfl ?_
       refine wpAnyH_done kW ?_ _
       have HW9 : Hid (Below W7.heap.size W7 w5) := HW8.out.trans (hX5.mono HW8.out.size)
       have HBX : Hid (Below gb w w5) := HBb.out.trans (hX5.mono (by rw [← hgbn]; exact HBb.out.size))
       have y9 : w5.cell? ⟨bs, k, none⟩ = some (.slice pk lk.length ck) := (HZ.out w5 hX5).2.2.2.2.2.2.2.2
       clear hHeld
       cases q
       ·by_cases l0 : 0 < lk.length
        ·have L1 : (0 : Int) < (lk.length : Int) := by omega
         obtain ⟨rfl, rfl⟩ := Qdm HR.out (Qsb hlt3 HRL.out (HRK.out.trans (Qzg l0)) oW)
         go_wp2_with fail
         go_ret2
         exact ⟨rfl, by first | exact HBX.out | (rw [hgbn]; exact HBX.out)⟩
        ·have L1 : ¬ ((0 : Int) < (lk.length : Int)) := by omega
         obtain rfl : xd = -1 := HXD.out.symm.trans (Qpl l0)
         have HRL2 := Qa (Qg1 HRL.out (HRK.out.trans (Qpl l0)))
         go_wp2_with fail
         go_roundg (3 - (k + 1))
         case measure => have := HKH.out; omega
         case rel => exact ⟨k + 1, by go_num, oW, by have := HKH.out; rw [Hid]; omega, HRL2.out, HW9.out⟩
       ·by_cases nd : xd = -1
        ·subst nd
         have HRL2 := Qa (Qg1 HRL.out (HRK.out.trans HXD.out))
         go_wp2_with fail
         go_roundg (3 - (k + 1))
         case measure => have := HKH.out; omega
         case rel => exact ⟨k + 1, by go_num, oW, by have := HKH.out; rw [Hid]; omega, HRL2.out, HW9.out⟩
        ·have td : (0 : Int) ≤ xd := TD.out.resolve_left nd
         obtain ⟨rfl, rfl⟩ := Qdm HR.out (Qsb hlt3 HRL.out (HRK.out.trans HXD.out) nd)
         clear nd
         go_wp2_with fail
         go_ret2
         exact ⟨rfl, by first | exact HBX.out | (rw [hgbn]; exact HBX.out)⟩
      ·obtain rfl : k = 3 := by omega
       obtain ⟨rfl, rfl⟩ := Qdm HR.out (Qk8 HRL.out)
       go_wp2_with fail
       go_ret2
       exact ⟨rfl, HBb.out⟩
end Go.Proofs.YtdkogbfamdnheaaGreatDoor
