/- Code over a graph that lies in memory is reckoned: what is known of a slot, and each operation. -/
import Derived.Test.YtmmadkghojoniaaGreatDoorEg3
import Derived.Test.YtmmadkghojoniaaGreatDoorJ13
import Derived.Test.YtmmadkghojoniaaGreatDoorJ21
import Derived.Test.YtmmadkghojoniaaGreatDoorJ25
namespace Go.Proofs.YtmmadkghojoniaaGreatDoor
open Go.RowKit Go.Shelf Sx
structure GV where
  t : Nat
  k : Int
  b : Bool
  f : Nat
  p : Int × Int
  e : Ev
def GV.at (t f : Nat) : GV := ⟨t, 0, false, f, (0, 0), Ev.zero⟩
def GV.nu (k : Int) : GV := ⟨1, k, false, 0, (0, 0), Ev.zero⟩
def GV.bo (b : Bool) : GV := ⟨2, 0, b, 0, (0, 0), Ev.zero⟩
def GV.pp (p : Int × Int) : GV := ⟨6, 0, false, 0, p, Ev.zero⟩
def GV.ip (k : Int) : GV := ⟨7, k, false, 0, (0, 0), Ev.zero⟩
def GV.ep (e : Ev) : GV := ⟨8, 0, false, 0, (0, 0), e⟩
structure Gm where
  gb : Nat
  V : GrV
  g : Gr
  v : Value
  l : List (Int × Int)
def Gm.lv (M : Gm) : Nat → Value
  | 1 => M.V.ev
  | 2 => M.V.rf
  | 3 => M.V.co
  | 4 => M.V.rmw
  | 5 => M.V.addr
  | 6 => M.V.dat
  | 7 => M.V.ctrl
  | _ => M.v
def Gm.pl (M : Gm) : Nat → List (Int × Int)
  | 2 => M.g.rf
  | 4 => M.g.rmw
  | 5 => M.g.addr
  | 6 => M.g.dat
  | 7 => M.g.ctrl
  | _ => M.l
def isPl (f : Nat) : Bool := f == 2 || (f == 4 || (f == 5 || (f == 6 || (f == 7 || f == 20))))
def CellI (w : World) (b o : Nat) (k : Int) : Prop := w.cell? ⟨b, o, none⟩ = some (.int .i64 k)
def GIs (M : Gm) (N : Nat) (w : World) (x : GV) (v : Value) : Prop :=
  match x.t with
  | 1 => v = .int .i64 x.k
  | 2 => v = .bool x.b
  | 3 => v = pv M.gb
  | 4 => v = .pointer (some ⟨M.gb, x.f, none⟩)
  | 5 => v = M.lv x.f
  | 6 => ∃ b o, v = .pointer (some ⟨b, o, none⟩) ∧ b < w.heap.size ∧ CellI w b o x.p.1 ∧ CellI w b (o + 1) x.p.2
  | 7 => ∃ b o, v = .pointer (some ⟨b, o, none⟩) ∧ b < w.heap.size ∧ CellI w b o x.k
  | 8 => ∃ b o, v = .pointer (some ⟨b, o, none⟩) ∧ b < w.heap.size ∧ CellI w b o x.e.t ∧ CellI w b (o + 1) x.e.k ∧ CellI w b (o + 2) x.e.l ∧ CellI w b (o + 4) x.e.m
  | 9 => v = .agg #[.int .i64 x.p.1, .int .i64 x.p.2]
  | 10 => v = M.V.val M.g
  | 12 => ∃ b, v = pv b ∧ N ≤ b ∧ Blk w b 30 #[.int .i64 0, .int .i64 0]
  | _ => True
theorem CellI.below {w w' : World} {b o : Nat} {k : Int} (h : CellI w b o k) (hl : b < w.heap.size) (hb : Below w.heap.size w w') : CellI w' b o k := (hb.cell (p := ⟨b, o, none⟩) hl).trans h
theorem GIs.mono {M : Gm} {N : Nat} {w w' : World} {x : GV} {v : Value} (h : GIs M N w x v) (hb : Below w.heap.size w w') : GIs M N w' x v := by
  obtain ⟨t, k, b, f, p, e⟩ := x
  unfold GIs at h ⊢
  dsimp only at h ⊢
  split at h
  · exact h
  · exact h
  · exact h
  · exact h
  · exact h
  · obtain ⟨b, o, h1, h2, h3, h4⟩ := h; exact ⟨b, o, h1, Nat.lt_of_lt_of_le h2 hb.size, h3.below h2 hb, h4.below h2 hb⟩
  · obtain ⟨b, o, h1, h2, h3⟩ := h; exact ⟨b, o, h1, Nat.lt_of_lt_of_le h2 hb.size, h3.below h2 hb⟩
  · obtain ⟨b, o, h1, h2, h3, h4, h5, h6⟩ := h; exact ⟨b, o, h1, Nat.lt_of_lt_of_le h2 hb.size, h3.below h2 hb, h4.below h2 hb, h5.below h2 hb, h6.below h2 hb⟩
  · exact h
  · exact h
  · obtain ⟨b, h1, h2, h3⟩ := h; exact ⟨b, h1, h2, h3.of_below hb⟩
  · trivial
structure GG (M : Gm) (w : World) : Prop where
  gr : GrR w M.V M.g
  bx : Blk w M.gb 27 (M.V.gs M.g)
  pl : PArg w M.v M.l
  n : M.g.evs.length ≤ 256
theorem GG.mono {M : Gm} {w w' : World} (h : GG M w) (hb : Below w.heap.size w w') : GG M w' := ⟨h.gr.below hb, h.bx.of_below hb, h.pl.below hb, h.n⟩
theorem GG.pls {M : Gm} {w : World} (h : GG M w) {f : Nat} (hf : isPl f = true) : PArg w (M.lv f) (M.pl f) := by
  unfold isPl at hf
  by_cases e2 : f = 2
  · subst e2; exact h.gr.rf
  by_cases e4 : f = 4
  · subst e4; exact h.gr.rmw
  by_cases e5 : f = 5
  · subst e5; exact h.gr.addr
  by_cases e6 : f = 6
  · subst e6; exact h.gr.dat
  by_cases e7 : f = 7
  · subst e7; exact h.gr.ctrl
  have e20 : f = 20 := by simpa [e2, e4, e5, e6, e7] using hf
  subst e20
  exact h.pl
def conG : Operand → GV
  | .const (.int .i64 k) => .nu k
  | .const (.bool b) => .bo b
  | _ => .at 0 0
def gvA (σ : Nat → GV) : Operand → GV
  | .tmp d => σ d
  | x => conG x
def pF (p : Int × Int) (f : Nat) : Int := if f = 0 then p.1 else p.2
def eF (e : Ev) (f : Nat) : Int := if f = 0 then e.t else if f = 1 then e.k else if f = 2 then e.l else e.m
def cmpB (op : BinOp) (a b : Int) : Option Bool :=
  match op with
  | .eql => some (a == b)
  | .neq => some (a != b)
  | .lss => some (decide (a < b))
  | .leq => some (decide (a ≤ b))
  | .gtr => some (decide (a > b))
  | .geq => some (decide (a ≥ b))
  | _ => none
def ariB (op : BinOp) (a b : Int) : Option Int :=
  match op with
  | .add => some (a + b)
  | .sub => some (a - b)
  | _ => none
def gopR (M : Gm) (σ : Nat → GV) : Op → Option GV
  | .fieldAddr ty x f => if ty = 27 ∧ (gvA σ x).t = 3 ∧ f < 8 then some (.at 4 f) else if ty = 30 ∧ (gvA σ x).t = 6 ∧ f < 2 then some (.ip (pF (gvA σ x).p f))
      else if ty = 34 ∧ (gvA σ x).t = 8 ∧ (f < 3 ∨ f = 4) then some (.ip (eF (gvA σ x).e f)) else none
  | .load ty x => if ty = 3 ∧ (gvA σ x).t = 7 then some (.nu (gvA σ x).k) else if ty = 3 ∧ (gvA σ x).t = 4 ∧ (gvA σ x).f = 0 then some (.nu M.g.cells)
      else if ty = 24 ∧ (gvA σ x).t = 4 ∧ isPl (gvA σ x).f = true ∧ (gvA σ x).f < 8 then some (.at 5 (gvA σ x).f) else if ty = 23 ∧ (gvA σ x).t = 4 ∧ (gvA σ x).f = 1 then some (.at 5 1)
      else if ty = 27 ∧ (gvA σ x).t = 3 then some (.at 10 0) else if ty = 30 ∧ (gvA σ x).t = 6 then some ⟨9, 0, false, 0, (gvA σ x).p, Ev.zero⟩ else none
  | .alloc ty => if ty = 30 then some (.at 12 0) else none
  | .indexAddr ty x i => if ty = 24 ∧ (gvA σ x).t = 5 ∧ isPl (gvA σ x).f = true ∧ (gvA σ i).t = 1 then some (.pp ((M.pl (gvA σ x).f).getD (gvA σ i).k.toNat (0, 0)))
      else if ty = 23 ∧ (gvA σ x).t = 5 ∧ (gvA σ x).f = 1 ∧ (gvA σ i).t = 1 then some (.ep (M.g.evs.getD (gvA σ i).k.toNat Ev.zero)) else none
  | .binOp op ty x y _ => if ty = 3 ∧ (gvA σ x).t = 1 ∧ (gvA σ y).t = 1 then (match cmpB op (gvA σ x).k (gvA σ y).k, ariB op (gvA σ x).k (gvA σ y).k with
      | some b, _ => some (.bo b)
      | none, some k => some (.nu k)
      | none, none => none) else none
  | .unOp op _ x => if op = .not ∧ (gvA σ x).t = 2 then some (.bo (!(gvA σ x).b)) else none
  | .call ⟨.builtin .len, args, tys⟩ => match args.toList with
      | [x] => if tys = #[23] ∧ (gvA σ x).t = 5 ∧ (gvA σ x).f = 1 then some (.nu ((M.g.evs.length : Nat) : Int)) else if tys = #[24] ∧ (gvA σ x).t = 5 ∧ isPl (gvA σ x).f = true then some (.nu (((M.pl (gvA σ x).f).length : Nat) : Int)) else none
      | _ => none
  | .call ⟨.value (.func f), args, _⟩ => match args.toList with
      | [x, y, z] => if (gvA σ x).t = 10 ∧ (gvA σ y).t = 1 ∧ (gvA σ z).t = 1 then (if f = 98 then some (.bo (isB M.g.evs (gvA σ y).k [(gvA σ z).k])) else if f = 99 then some (.bo (nxtB M.g.evs (gvA σ y).k (gvA σ z).k)) else if f = 100 then some (.bo (befB M.g.evs (gvA σ y).k (gvA σ z).k)) else none) else none
      | _ => none
  | _ => none
def gpre (M : Gm) (σ : Nat → GV) : Op → Option Prop
  | .indexAddr ty x i => if ty = 24 then some (0 ≤ (gvA σ i).k ∧ (gvA σ i).k < (((M.pl (gvA σ x).f).length : Nat) : Int)) else some (0 ≤ (gvA σ i).k ∧ (gvA σ i).k < ((M.g.evs.length : Nat) : Int))
  | .binOp op _ x y _ => match ariB op (gvA σ x).k (gvA σ y).k with
      | some k => some (-9223372036854775808 ≤ k ∧ k < 9223372036854775808)
      | none => none
  | _ => none
section
variable {M : Gm} {N : Nat} {w : World} {a : Act} {σ : Nat → GV} {Q : Exit → Act → World → Prop} {dst : Option Tmp} {ty : TypeId} {pos : String} {af : Array Edge} {gd : Option (Nat × Bool)} {x y : Operand}
theorem conG_is (h : ∀ d, x ≠ .tmp d) : GIs M N w (conG x) (a.eval x) := by
  unfold conG
  split
  · exact rfl
  · exact rfl
  · exact trivial
theorem gvA_is (h : ∀ d, x = .tmp d → GIs M N w (σ d) (a.eval (.tmp d))) : GIs M N w (gvA σ x) (a.eval x) := by
  unfold gvA
  split
  · exact h _ rfl
  · rename_i y hy
    exact conG_is hy
theorem GIs.t {z : GV} {v : Value} {k : Nat} (h : GIs M N w z v) (ht : z.t = k) : GIs M N w ⟨k, z.k, z.b, z.f, z.p, z.e⟩ v := by
  rw [← ht]
  exact h
theorem fa_pr (b o : Nat) (w : World) {f : Nat} (hf : f < 2) : (Instr.fieldAt 30 (.pointer (some ⟨b, o, none⟩)) f).run Tryz.prog w = .ok (.pointer (some ⟨b, o + f, none⟩)) w := by
  match f, hf with
  | 0, _ => exact (show _ = _ by kernel_rfl)
  | 1, _ => exact (show _ = _ by kernel_rfl)
  | n + 2, h => omega
theorem fa_ev (b o : Nat) (w : World) {f : Nat} (hf : f < 3 ∨ f = 4) : (Instr.fieldAt 34 (.pointer (some ⟨b, o, none⟩)) f).run Tryz.prog w = .ok (.pointer (some ⟨b, o + f, none⟩)) w := by
  match f, hf with
  | 0, _ => exact (show _ = _ by kernel_rfl)
  | 1, _ => exact (show _ = _ by kernel_rfl)
  | 2, _ => exact (show _ = _ by kernel_rfl)
  | 3, h => omega
  | 4, _ => exact (show _ = _ by kernel_rfl)
  | n + 5, h => omega
theorem fa_gr (b : Nat) (w : World) {f : Nat} (hf : f < 8) : (Instr.fieldAt 27 (pv b) f).run Tryz.prog w = .ok (.pointer (some ⟨b, f, none⟩)) w := by
  match f, hf with
  | 0, _ => exact (show _ = _ by kernel_rfl)
  | 1, _ => exact (show _ = _ by kernel_rfl)
  | 2, _ => exact (show _ = _ by kernel_rfl)
  | 3, _ => exact (show _ = _ by kernel_rfl)
  | 4, _ => exact (show _ = _ by kernel_rfl)
  | 5, _ => exact (show _ = _ by kernel_rfl)
  | 6, _ => exact (show _ = _ by kernel_rfl)
  | 7, _ => exact (show _ = _ by kernel_rfl)
  | n + 8, h => omega
set_option maxRecDepth 100000 in
theorem ld_int (b k : Nat) (u : Value) (w : World) (h : w.cell? ⟨b, k, none⟩ = some u) : (Instr.loadAt 3 (.pointer (some ⟨b, k, none⟩))).run Tryz.prog w = .ok u w := by
  go_simp
set_option maxRecDepth 100000 in
theorem ld_prs (b k : Nat) (u : Value) (w : World) (h : w.cell? ⟨b, k, none⟩ = some u) : (Instr.loadAt 24 (.pointer (some ⟨b, k, none⟩))).run Tryz.prog w = .ok u w := by
  go_simp
set_option maxRecDepth 100000 in
theorem ld_evs (b k : Nat) (u : Value) (w : World) (h : w.cell? ⟨b, k, none⟩ = some u) : (Instr.loadAt 23 (.pointer (some ⟨b, k, none⟩))).run Tryz.prog w = .ok u w := by
  go_simp
set_option maxRecDepth 100000 in
theorem ld_pr (b o : Nat) (p : Int × Int) (w : World) (h0 : w.cell? ⟨b, o, none⟩ = some (.int .i64 p.1)) (h1 : w.cell? ⟨b, o + 1, none⟩ = some (.int .i64 p.2)) : (Instr.loadAt 30 (.pointer (some ⟨b, o, none⟩))).run Tryz.prog w = .ok (.agg #[.int .i64 p.1, .int .i64 p.2]) w := by
  go_simp
set_option maxRecDepth 100000 in
theorem ix_pr (s o n c : Nat) (k : Int) (w : World) (h0 : 0 ≤ k) (h1 : k < ((n : Nat) : Int)) : (Instr.indexAt 24 (.slice (some ⟨s, o, none⟩) n c) (.int .i64 k)).run Tryz.prog w = .ok (.pointer (some ⟨s, o + k.toNat * 2, none⟩)) w := by
  go_simp
set_option maxRecDepth 100000 in
theorem ix_ev (s o n c : Nat) (k : Int) (w : World) (h0 : 0 ≤ k) (h1 : k < ((n : Nat) : Int)) : (Instr.indexAt 23 (.slice (some ⟨s, o, none⟩) n c) (.int .i64 k)).run Tryz.prog w = .ok (.pointer (some ⟨s, o + k.toNat * 5, none⟩)) w := by
  go_simp
end
end Go.Proofs.YtmmadkghojoniaaGreatDoor
namespace Go.Proofs.YtmmadkghojoniaaGreatDoor
open Go.RowKit Go.Shelf Sx
set_option maxRecDepth 100000
section
variable {M : Gm} {N : Nat} {w : World} {a : Act} {σ : Nat → GV} {Q : Exit → Act → World → Prop} {dst : Option Tmp} {ty : TypeId} {pos : String} {af : Array Edge} {gd : Option (Nat × Bool)} {x y : Operand}
def GSaid (M : Gm) (N : Nat) (a : Act) (w : World) (d : Option Tmp) (av : GV) : Act → World → Prop := fun a' w' => ∃ v, a' = a.put d v ∧ GIs M N w' av v ∧ Below w.heap.size w w'
theorem cmp_run {op : BinOp} {k l : Int} {b : Bool} (h : cmpB op k l = some b) (yt : TypeId) (hx : a.eval x = .int .i64 k) (hy : a.eval y = .int .i64 l) : (execOp a.eval ⟨dst, .binOp op 3 x y yt, ty, pos, af, gd⟩).run Tryz.prog w = .ok (.value (.bool b)) w := by
  have e : (execOp a.eval ⟨dst, .binOp op 3 x y yt, ty, pos, af, gd⟩).run Tryz.prog w = (do pure (Next.value (← (do eqGuard op 3 x y (a.eval x) (a.eval y); binOp op 3 (a.eval x) (a.eval y)))) : Sem Next).run Tryz.prog w := by kernel_rfl
  rw [e, hx, hy]
  cases op <;> simp only [cmpB, Option.some.injEq, reduceCtorEq] at h <;> subst h <;> exact (show _ = _ by kernel_rfl)
theorem ari_run {op : BinOp} {k l m : Int} (h : ariB op k l = some m) (yt : TypeId) (hm : -9223372036854775808 ≤ m ∧ m < 9223372036854775808) (hx : a.eval x = .int .i64 k) (hy : a.eval y = .int .i64 l) : (execOp a.eval ⟨dst, .binOp op 3 x y yt, ty, pos, af, gd⟩).run Tryz.prog w = .ok (.value (.int .i64 m)) w := by
  have e : (execOp a.eval ⟨dst, .binOp op 3 x y yt, ty, pos, af, gd⟩).run Tryz.prog w = (do pure (Next.value (← (do eqGuard op 3 x y (a.eval x) (a.eval y); binOp op 3 (a.eval x) (a.eval y)))) : Sem Next).run Tryz.prog w := by kernel_rfl
  have hw : IntKind.i64.wrap m = m := by rw [IntKind.wrap_i64]; omega
  rw [e, hx, hy, ← hw]
  cases op <;> simp only [ariB, Option.some.injEq, reduceCtorEq] at h <;> subst h <;> exact (show _ = _ by kernel_rfl)
theorem not_run {q : Bool} (ty2 : TypeId) (hx : a.eval x = .bool q) : (execOp a.eval ⟨dst, .unOp .not ty2 x, ty, pos, af, gd⟩).run Tryz.prog w = .ok (.value (.bool (!q))) w := by
  have e : (execOp a.eval ⟨dst, .unOp .not ty2 x, ty, pos, af, gd⟩).run Tryz.prog w = (do pure (Next.value (← Op.unary .not (a.eval x))) : Sem Next).run Tryz.prog w := by kernel_rfl
  rw [e, hx]
  exact (show _ = _ by kernel_rfl)
theorem len_run {p : Option Addr} {n c : Nat} {t : TypeId} (ht : t = 23 ∨ t = 24) (hx : a.eval x = .slice p n c) : (execOp a.eval ⟨dst, .call ⟨.builtin .len, #[x], #[t]⟩, ty, pos, af, gd⟩).run Tryz.prog w = .ok (.value (.int .i64 ((n : Nat) : Int))) w := by
  rcases ht with rfl | rfl
  · generalize a.eval = q at *
    go_simp
  · generalize a.eval = q at *
    go_simp
theorem al_pr : (execOp a.eval ⟨dst, .alloc 30, ty, pos, af, gd⟩).run Tryz.prog w = .ok (.value (pv w.heap.size)) (w.alloc (.cells #[.int .i64 0, .int .i64 0] 30)) := by kernel_rfl
theorem ld_gr2 {b : Nat} {V : GrV} {g : Gr} (hv : a.eval x = pv b) (hb : Blk w b 27 (V.gs g)) : (execOp a.eval ⟨dst, .load 27 x, ty, pos, af, gd⟩).run Tryz.prog w = .ok (.value (V.val g)) w := by
  obtain ⟨v1, v2, v3, v4, v5, v6, v7⟩ := V
  unfold GrV.gs at hb
  dsimp only at hb
  have c0 := hb.cell (j := 0) rfl
  have c1 := hb.cell (j := 1) rfl
  have c2 := hb.cell (j := 2) rfl
  have c3 := hb.cell (j := 3) rfl
  have c4 := hb.cell (j := 4) rfl
  have c5 := hb.cell (j := 5) rfl
  have c6 := hb.cell (j := 6) rfl
  have c7 := hb.cell (j := 7) rfl
  clear hb
  unfold GrV.val
  dsimp only
  generalize a.eval = ρ at *
  go_simp
theorem run_call3 {f : Nat} {z : Operand} {tys : Array TypeId} {u v s : Value} (hu : a.eval x = u) (hv : a.eval y = v) (hs : a.eval z = s) (h : ∀ u v s w, (callFunc f #[u, v, s]).run Tryz.prog w = .ok (.enter f #[u, v, s]) w) : (execOp a.eval ⟨dst, .call ⟨.value (.func f), #[x, y, z], tys⟩, ty, pos, af, gd⟩).run Tryz.prog w = .ok (.enter f #[u, v, s]) w := by
  have e : (execOp a.eval ⟨dst, .call ⟨.value (.func f), #[x, y, z], tys⟩, ty, pos, af, gd⟩).run Tryz.prog w = (callFunc f #[a.eval x, a.eval y, a.eval z]).run Tryz.prog w := by kernel_rfl
  rw [e, hu, hv, hs]
  exact h u v s w
theorem c_is (u v s : Value) (w : World) : (callFunc 98 #[u, v, s]).run Tryz.prog w = .ok (.enter 98 #[u, v, s]) w := by kernel_rfl
theorem c_next (u v s : Value) (w : World) : (callFunc 99 #[u, v, s]).run Tryz.prog w = .ok (.enter 99 #[u, v, s]) w := by kernel_rfl
theorem c_bef (u v s : Value) (w : World) : (callFunc 100 #[u, v, s]).run Tryz.prog w = .ok (.enter 100 #[u, v, s]) w := by kernel_rfl
theorem said_b {f : FuncId} {args : Array Value} {q : Bool} (D : Calls Tryz.prog f args w fun r w' => r = .returned (.bool q) ∧ Below w.heap.size w w') : Calls Tryz.prog f args w (fun e w'' => ∃ v, e = .returned v ∧ GSaid M N a w dst (.bo q) (a.put dst v) w'') :=
  D.mono fun _ _ ⟨h1, h2⟩ => ⟨_, h1, _, rfl, rfl, h2⟩
theorem gop_ok (hG : GG M w) (hN : N ≤ w.heap.size) {o : Oper} {av : GV} (h : gopR M σ o.op = some av) (hp : ∀ p, gpre M σ o.op = some p → p) (hx : ∀ d ∈ slotsOf o.op.operands.toList, GIs M N w (σ d) (a.eval (.tmp d))) : o.wp Tryz.prog a w (GSaid M N a w o.dst av) Q := by
  obtain ⟨dst, op, ty, pos, af, gd⟩ := o
  dsimp only at h hp hx ⊢
  have hB := Below.refl w.heap.size w
  unfold gopR at h
  split at h
  · rename_i t x f
    have hi := gvA_is (x := x) (fun d e => hx d (slots_of.2 (by simp [Op.operands, e])))
    by_cases c1 : t = 27 ∧ (gvA σ x).t = 3 ∧ f < 8
    · rw [if_pos c1] at h; cases h
      obtain ⟨rfl, c, hf⟩ := c1
      have e : a.eval x = pv M.gb := hi.t c
      exact wp_v (s := Instr.fieldAt 27 (a.eval x) f) rfl (by rw [e]; exact fa_gr _ _ hf) ⟨_, rfl, rfl, hB⟩
    rw [if_neg c1] at h
    by_cases c2 : t = 30 ∧ (gvA σ x).t = 6 ∧ f < 2
    · rw [if_pos c2] at h; cases h
      obtain ⟨rfl, c, hf⟩ := c2
      obtain ⟨b, o, e, h1, h2, h3⟩ : ∃ b o, a.eval x = .pointer (some ⟨b, o, none⟩) ∧ b < w.heap.size ∧ CellI w b o (gvA σ x).p.1 ∧ CellI w b (o + 1) (gvA σ x).p.2 := hi.t c
      refine wp_v (s := Instr.fieldAt 30 (a.eval x) f) rfl (by rw [e]; exact fa_pr _ _ _ hf) ⟨_, rfl, ⟨b, o + f, rfl, h1, ?_⟩, hB⟩
      show CellI w b (o + f) (pF (gvA σ x).p f)
      match f, hf with
      | 0, _ => exact h2
      | 1, _ => exact h3
      | n + 2, h => omega
    rw [if_neg c2] at h
    by_cases c3 : t = 34 ∧ (gvA σ x).t = 8 ∧ (f < 3 ∨ f = 4)
    · rw [if_pos c3] at h; cases h
      obtain ⟨rfl, c, hf⟩ := c3
      obtain ⟨b, o, e, h1, h2, h3, h4, h5⟩ : ∃ b o, a.eval x = .pointer (some ⟨b, o, none⟩) ∧ b < w.heap.size ∧ CellI w b o (gvA σ x).e.t ∧ CellI w b (o + 1) (gvA σ x).e.k ∧ CellI w b (o + 2) (gvA σ x).e.l ∧ CellI w b (o + 4) (gvA σ x).e.m := hi.t c
      refine wp_v (s := Instr.fieldAt 34 (a.eval x) f) rfl (by rw [e]; exact fa_ev _ _ _ hf) ⟨_, rfl, ⟨b, o + f, rfl, h1, ?_⟩, hB⟩
      show CellI w b (o + f) (eF (gvA σ x).e f)
      match f, hf with
      | 0, _ => exact h2
      | 1, _ => exact h3
      | 2, _ => exact h4
      | 3, h => omega
      | 4, _ => exact h5
      | n + 5, h => omega
    rw [if_neg c3] at h; cases h
  · rename_i t x
    have hi := gvA_is (x := x) (fun d e => hx d (slots_of.2 (by simp [Op.operands, e])))
    by_cases c1 : t = 3 ∧ (gvA σ x).t = 7
    · rw [if_pos c1] at h; cases h
      obtain ⟨rfl, c⟩ := c1
      obtain ⟨b, o, e, h1, h2⟩ : ∃ b o, a.eval x = .pointer (some ⟨b, o, none⟩) ∧ b < w.heap.size ∧ CellI w b o (gvA σ x).k := hi.t c
      exact wp_v (s := Instr.loadAt 3 (a.eval x)) rfl (by rw [e]; exact ld_int _ _ _ _ h2) ⟨_, rfl, rfl, hB⟩
    rw [if_neg c1] at h
    by_cases c2 : t = 3 ∧ (gvA σ x).t = 4 ∧ (gvA σ x).f = 0
    · rw [if_pos c2] at h; cases h
      obtain ⟨rfl, c, hf⟩ := c2
      have e : a.eval x = .pointer (some ⟨M.gb, (gvA σ x).f, none⟩) := hi.t c
      exact wp_v (s := Instr.loadAt 3 (a.eval x)) rfl (by rw [e, hf]; exact ld_int _ _ _ _ (hG.bx.cell rfl)) ⟨_, rfl, rfl, hB⟩
    rw [if_neg c2] at h
    by_cases c3 : t = 24 ∧ (gvA σ x).t = 4 ∧ isPl (gvA σ x).f = true ∧ (gvA σ x).f < 8
    · rw [if_pos c3] at h; cases h
      obtain ⟨rfl, c, hf, h8⟩ := c3
      have e : a.eval x = .pointer (some ⟨M.gb, (gvA σ x).f, none⟩) := hi.t c
      have hc : (M.V.gs M.g)[(gvA σ x).f]? = some (M.lv (gvA σ x).f) := by
        generalize (gvA σ x).f = f at *
        match f, h8, hf with
        | 0, _, hf => cases hf
        | 1, _, hf => cases hf
        | 2, _, _ => rfl
        | 3, _, hf => cases hf
        | 4, _, _ => rfl
        | 5, _, _ => rfl
        | 6, _, _ => rfl
        | 7, _, _ => rfl
        | n + 8, h, _ => omega
      exact wp_v (v := M.lv (gvA σ x).f) (s := Instr.loadAt 24 (a.eval x)) rfl (by rw [e]; exact ld_prs _ _ _ _ (hG.bx.cell hc)) ⟨_, rfl, rfl, hB⟩
    rw [if_neg c3] at h
    by_cases c4 : t = 23 ∧ (gvA σ x).t = 4 ∧ (gvA σ x).f = 1
    · rw [if_pos c4] at h; cases h
      obtain ⟨rfl, c, hf⟩ := c4
      have e : a.eval x = .pointer (some ⟨M.gb, (gvA σ x).f, none⟩) := hi.t c
      exact wp_v (v := M.V.ev) (s := Instr.loadAt 23 (a.eval x)) rfl (by rw [e, hf]; exact ld_evs _ _ _ _ (hG.bx.cell rfl)) ⟨_, rfl, rfl, hB⟩
    rw [if_neg c4] at h
    by_cases c5 : t = 27 ∧ (gvA σ x).t = 3
    · rw [if_pos c5] at h; cases h
      obtain ⟨rfl, c⟩ := c5
      have e : a.eval x = pv M.gb := hi.t c
      exact wp_value (ld_gr2 e hG.bx) ⟨_, rfl, rfl, hB⟩
    rw [if_neg c5] at h
    by_cases c6 : t = 30 ∧ (gvA σ x).t = 6
    · rw [if_pos c6] at h; cases h
      obtain ⟨rfl, c⟩ := c6
      obtain ⟨b, o, e, h1, h2, h3⟩ : ∃ b o, a.eval x = .pointer (some ⟨b, o, none⟩) ∧ b < w.heap.size ∧ CellI w b o (gvA σ x).p.1 ∧ CellI w b (o + 1) (gvA σ x).p.2 := hi.t c
      exact wp_v (s := Instr.loadAt 30 (a.eval x)) rfl (by rw [e]; exact ld_pr _ _ _ _ h2 h3) ⟨_, rfl, rfl, hB⟩
    rw [if_neg c6] at h; cases h
  · rename_i t
    by_cases c : t = 30
    · subst c
      rw [if_pos rfl] at h; cases h
      exact wp_value al_pr ⟨_, rfl, ⟨_, rfl, hN, Blk.new w _ _⟩, hB.alloc (Nat.le_refl _) _⟩
    rw [if_neg c] at h; cases h
  · rename_i t x i
    have hi := gvA_is (x := x) (fun d e => hx d (slots_of.2 (by simp [Op.operands, e])))
    have hj := gvA_is (x := i) (fun d e => hx d (slots_of.2 (by simp [Op.operands, e])))
    by_cases c1 : t = 24 ∧ (gvA σ x).t = 5 ∧ isPl (gvA σ x).f = true ∧ (gvA σ i).t = 1
    · rw [if_pos c1] at h; cases h
      obtain ⟨rfl, c, hf, d⟩ := c1
      have e : a.eval x = M.lv (gvA σ x).f := hi.t c
      have e2 : a.eval i = .int .i64 (gvA σ i).k := hj.t d
      obtain ⟨q0, q1⟩ : 0 ≤ (gvA σ i).k ∧ (gvA σ i).k < (((M.pl (gvA σ x).f).length : Nat) : Int) := hp _ (by unfold gpre; exact if_pos rfl)
      have hP := hG.pls hf
      generalize (gvA σ i).k = k at *
      generalize M.pl (gvA σ x).f = l at *
      rcases hP with ⟨u, cap, -, rfl⟩ | ⟨s, o, cap, e3, hat, -⟩
      · simp at q1; omega
      · rw [e3] at e
        obtain ⟨p, hpk⟩ : ∃ p, l[k.toNat]? = some p := ⟨_, List.getElem?_eq_getElem (by omega)⟩
        have hgd : l.getD k.toNat (0, 0) = p := by rw [List.getD_eq_getElem?_getD, hpk]; rfl
        rw [hgd]
        exact wp_v (s := Instr.indexAt 24 (a.eval x) (a.eval i)) rfl (by rw [e, e2]; exact ix_pr _ _ _ _ _ _ q0 q1) ⟨_, rfl, ⟨s, o + k.toNat * 2, rfl, hat.lt, hat.fst _ _ hpk, hat.snd _ _ hpk⟩, hB⟩
    rw [if_neg c1] at h
    by_cases c2 : t = 23 ∧ (gvA σ x).t = 5 ∧ (gvA σ x).f = 1 ∧ (gvA σ i).t = 1
    · rw [if_pos c2] at h; cases h
      obtain ⟨rfl, c, hf, d⟩ := c2
      have e : a.eval x = M.lv (gvA σ x).f := hi.t c
      rw [hf] at e
      have e2 : a.eval i = .int .i64 (gvA σ i).k := hj.t d
      obtain ⟨q0, q1⟩ : 0 ≤ (gvA σ i).k ∧ (gvA σ i).k < ((M.g.evs.length : Nat) : Int) := hp _ (by unfold gpre; exact if_neg (by decide))
      obtain ⟨p, cap, e3, hat0, -, -⟩ := hG.gr.ev
      generalize (gvA σ i).k = k at *
      obtain ⟨s, o, rfl, hat⟩ := hat0 (by omega)
      have e : a.eval x = .slice (some ⟨s, o, none⟩) M.g.evs.length cap := e.trans e3
      obtain ⟨ev, hpk⟩ : ∃ p, M.g.evs[k.toNat]? = some p := ⟨_, List.getElem?_eq_getElem (by omega)⟩
      have hgd : M.g.evs.getD k.toNat Ev.zero = ev := by rw [List.getD_eq_getElem?_getD, hpk]; rfl
      rw [hgd]
      exact wp_v (s := Instr.indexAt 23 (a.eval x) (a.eval i)) rfl (by rw [e, e2]; exact ix_ev _ _ _ _ _ _ q0 q1) ⟨_, rfl, ⟨s, o + k.toNat * 5, rfl, hat.lt, hat.c0 _ _ hpk, hat.c1 _ _ hpk, hat.c2 _ _ hpk, hat.c4 _ _ hpk⟩, hB⟩
    rw [if_neg c2] at h; cases h
  · rename_i op t x y yt
    have hi := gvA_is (x := x) (fun d e => hx d (slots_of.2 (by simp [Op.operands, e])))
    have hj := gvA_is (x := y) (fun d e => hx d (slots_of.2 (by simp [Op.operands, e])))
    by_cases c : t = 3 ∧ (gvA σ x).t = 1 ∧ (gvA σ y).t = 1
    · rw [if_pos c] at h
      obtain ⟨rfl, c1, c2⟩ := c
      have e : a.eval x = .int .i64 (gvA σ x).k := hi.t c1
      have e2 : a.eval y = .int .i64 (gvA σ y).k := hj.t c2
      cases hc : cmpB op (gvA σ x).k (gvA σ y).k with
      | some b =>
        rw [hc] at h; cases h
        exact wp_value (cmp_run hc yt e e2) ⟨_, rfl, rfl, hB⟩
      | none =>
        rw [hc] at h
        cases ha : ariB op (gvA σ x).k (gvA σ y).k with
        | none => rw [ha] at h; cases h
        | some k =>
          rw [ha] at h; cases h
          exact wp_value (ari_run ha yt (hp _ (by unfold gpre; dsimp only; rw [ha])) e e2) ⟨_, rfl, rfl, hB⟩
    · rw [if_neg c] at h; cases h
  · rename_i op t x
    have hi := gvA_is (x := x) (fun d e => hx d (slots_of.2 (by simp [Op.operands, e])))
    by_cases c : op = .not ∧ (gvA σ x).t = 2
    · rw [if_pos c] at h; cases h
      obtain ⟨rfl, c⟩ := c
      have e : a.eval x = .bool (gvA σ x).b := hi.t c
      exact wp_value (not_run t e) ⟨_, rfl, rfl, hB⟩
    · rw [if_neg c] at h; cases h
  · rename_i args tys
    obtain ⟨l⟩ := args
    match l, h, hx with
    | [], h, _ => cases h
    | [x], h, hx =>
      have hi := gvA_is (x := x) (fun d e => hx d (slots_of.2 (by simp [Op.operands, Call.operands, e])))
      dsimp only at h
      by_cases c1 : tys = #[23] ∧ (gvA σ x).t = 5 ∧ (gvA σ x).f = 1
      · rw [if_pos c1] at h; cases h
        obtain ⟨rfl, c1⟩ := c1
        have e : a.eval x = M.lv (gvA σ x).f := hi.t c1.1
        rw [c1.2] at e
        obtain ⟨p, cap, e3, -, -, -⟩ := hG.gr.ev
        exact wp_value (len_run (.inl rfl) (e.trans e3)) ⟨_, rfl, rfl, hB⟩
      rw [if_neg c1] at h
      by_cases c2 : tys = #[24] ∧ (gvA σ x).t = 5 ∧ isPl (gvA σ x).f = true
      · rw [if_pos c2] at h; cases h
        obtain ⟨rfl, c2⟩ := c2
        have e : a.eval x = M.lv (gvA σ x).f := hi.t c2.1
        obtain ⟨p, cap, e3, -, -⟩ := parg_form (hG.pls c2.2)
        exact wp_value (len_run (.inr rfl) (e.trans e3)) ⟨_, rfl, rfl, hB⟩
      rw [if_neg c2] at h; cases h
    | x :: y :: l, h, _ => cases h
  · rename_i f args tys
    obtain ⟨l⟩ := args
    match l, h, hx with
    | [], h, _ => cases h
    | [x], h, _ => cases h
    | [x, y], h, _ => cases h
    | [x, y, z], h, hx =>
      have h1 := gvA_is (x := x) (fun d e => hx d (slots_of.2 (by simp [Op.operands, Call.operands, e])))
      have h2 := gvA_is (x := y) (fun d e => hx d (slots_of.2 (by simp [Op.operands, Call.operands, e])))
      have h3 := gvA_is (x := z) (fun d e => hx d (slots_of.2 (by simp [Op.operands, Call.operands, e])))
      dsimp only at h
      by_cases c : (gvA σ x).t = 10 ∧ (gvA σ y).t = 1 ∧ (gvA σ z).t = 1
      · rw [if_pos c] at h
        obtain ⟨c1, c2, c3⟩ := c
        have e1 : a.eval x = M.V.val M.g := h1.t c1
        have e2 : a.eval y = .int .i64 (gvA σ y).k := h2.t c2
        have e3 : a.eval z = .int .i64 (gvA σ z).k := h3.t c3
        by_cases d1 : f = 98
        · subst d1; rw [if_pos rfl] at h; cases h
          exact wp_enter (run_call3 e1 e2 e3 c_is) (said_b (r8is_calls _ _ _ _ w hG.gr))
        rw [if_neg d1] at h
        by_cases d2 : f = 99
        · subst d2; rw [if_pos rfl] at h; cases h
          exact wp_enter (run_call3 e1 e2 e3 c_next) (said_b (r8next_calls _ _ _ _ w hG.gr hG.n))
        rw [if_neg d2] at h
        by_cases d3 : f = 100
        · subst d3; rw [if_pos rfl] at h; cases h
          exact wp_enter (run_call3 e1 e2 e3 c_bef) (said_b (r8before_calls _ _ _ _ w hG.gr))
        rw [if_neg d3] at h; cases h
      · rw [if_neg c] at h; cases h
    | x :: y :: z :: s :: l, h, _ => cases h
  · cases h
end
def gE (M : Gm) : Eng Tryz.prog GV where
  Is := GIs M
  G := GG M
  isNo x := x.t == 0
  nw x := x.t == 12
  isB x := x.t == 2
  bv x := x.b
  con := conG
  pk b x y := if x.t = 2 ∧ y.t = 2 then some (.bo (if b then x.b else y.b)) else none
  opR := gopR M
  pre := gpre M
  mono := GIs.mono
  gmono := GG.mono
  any := fun {_ _ x _} h => by
    obtain ⟨t, k, b, f, p, e⟩ := x
    have : t = 0 := by simpa using h
    subst this
    exact trivial
  chg := fun {_ _ _ x _} h hi => by
    obtain ⟨t, k, b, f, p, e⟩ := x
    unfold GIs at hi ⊢
    dsimp only at hi ⊢
    split at hi
    case h_11 => simp at h
    all_goals exact hi
  bool := fun {N w x v} h hi => (show GIs M N w x v from hi).t (k := 2) (by simpa using h)
  conOk := conG_is
  pkOk := fun {N w b x y z v} h hi => by
    by_cases c : x.t = 2 ∧ y.t = 2
    · rw [if_pos c] at h; cases h
      cases b
      · exact (show GIs M N w y v from hi).t c.2
      · exact (show GIs M N w x v from hi).t c.1
    · rw [if_neg c] at h; cases h
  ok := fun hG hN h hp hx => gop_ok hG hN h hp hx
end Go.Proofs.YtmmadkghojoniaaGreatDoor
namespace Go.Proofs.YtmmadkghojoniaaGreatDoor
open Go.RowKit Go.Shelf Sx
section
variable {M : Gm} {T : Nat} {w0 : World} {σ : Nat → GV} {ops : Array Oper} {Q : Exit → Act → World → Prop} {id : Nat} {b : Bool}
theorem ga_of {P : Program} {A : Type} {E : Eng P A} {T : Nat} {w0 w : World} {a : Act} (no : A) (ks : List (Nat × A)) (h0 : E.isNo no = true) (hn : E.nw no = false) (hl : Below w0.heap.size w0 w) (hG : E.G w) (hk : ∀ p ∈ ks, E.Is 0 w p.2 (a.eval (.tmp p.1)) ∧ E.nw p.2 = false) (hs : a.tmps.size = T) (hd : a.defers = []) : E.Ga T w0 (upds (fun _ => no) ks) a w := by
  refine ⟨hl, hG, fun d => ?_, fun d => ?_, hs, hd⟩
  · rcases upds_in (σ := fun _ => no) (ks := ks) (x := d) with ⟨p, h1, rfl, h3⟩ | ⟨-, h2⟩
    · rw [h3]; exact (hk p h1).1
    · rw [h2]; exact E.any h0
  · rcases upds_in (σ := fun _ => no) (ks := ks) (x := d) with ⟨p, h1, rfl, h3⟩ | ⟨-, h2⟩
    · rw [h3]; exact (hk p h1).2
    · rw [h2]; exact hn
end
end Go.Proofs.YtmmadkghojoniaaGreatDoor
