/- Straight code over relations in memory is reckoned: what is known of a slot of rc11's functions, and each operation. -/
import Derived.Test.YtlpffpfkapbepaaGreatDoorJ27
import Derived.Test.YtlpffpfkapbepaaGreatDoorJ32
namespace Go.Proofs.YtlpffpfkapbepaaGreatDoor
open Go.RowKit Go.Shelf Sx
set_option maxRecDepth 100000
set_option maxHeartbeats 16000000
set_option linter.unusedSimpArgs false
set_option linter.unusedVariables false
structure PV where
 t : Nat
 k : Nat
 r : List Nat
 l : List (List Nat)
 s : List Bool
 i : List Int
def PV.at (t k : Nat) : PV := ⟨t, k, [], [], [], []⟩
def PV.rl (r : List Nat) : PV := ⟨6, 0, r, [], [], []⟩
def PV.rs (l : List (List Nat)) : PV := ⟨8, 0, [], l, [], []⟩
def PV.st (s : List Bool) : PV := ⟨7, 0, [], [], s, []⟩
def PV.is (i : List Int) : PV := ⟨10, 0, [], [], [], i⟩
structure Md where
 m : Nat
 B : Nat
 V : GrV
 g : Gr
 bs : Nat → Nat
 br : Nat
 bw : Nat
 bf : Nat
 Ls : Nat → List Nat
def NRel (B : Nat) (w : World) (v : Value) (L : List Nat) : Prop := ∃ b c, v = pv b ∧ (B ≤ b ∧ B ≤ c) ∧ IsRel w b c L
theorem NRel.lo {B B' : Nat} {w : World} {v : Value} {L : List Nat} (h : NRel B w v L) (hb : B' ≤ B) : NRel B' w v L := by
 obtain ⟨b, c, h1, h2, h3⟩ := h
 exact ⟨b, c, h1, ⟨Nat.le_trans hb h2.1, Nat.le_trans hb h2.2⟩, h3⟩
theorem NRel.below {B : Nat} {w w' : World} {v : Value} {L : List Nat} (h : NRel B w v L) (hb : Below w.heap.size w w') : NRel B w' v L := by
 obtain ⟨b, c, h1, h2, h3⟩ := h
 exact ⟨b, c, h1, h2, h3.below hb⟩
def Md.fx (M : Md) : Array Value := fxC M.g.evs.length M.bs M.br M.bw M.bf
def PIs (M : Md) (N : Nat) (w : World) (x : PV) (v : Value) : Prop :=
 match x.t with
 | 1 => v = pv M.m
 | 2 => v = .pointer (some ⟨M.m, 8, none⟩)
 | 3 => v = .agg M.fx
 | 4 => ∃ b, v = pv b ∧ Blk w b 85 M.fx
 | 5 => ∃ b, v = .pointer (some ⟨b, x.k, none⟩) ∧ Blk w b 85 M.fx
 | 6 => NRel M.B w v x.r
 | 7 => ∃ b, v = .slice (some ⟨b, 0, none⟩) x.s.length x.s.length ∧ Blk w b 4 (Qao x.s)
 | 8 => ∃ s rs, v = .slice (some ⟨s, 0, none⟩) rs.length rs.length ∧ RelsAt w s rs ∧ rs.map (·.2.2) = x.l
 | 9 => ∃ b, v = pv b ∧ N ≤ b ∧ Blk w b 85 nilF
 | 10 => IntsR w v x.i
 | 11 => v = .pointer (some ⟨M.m, 21, none⟩)
 | 12 => v = .pointer (some ⟨M.m, 21 + x.k, none⟩)
 | 13 => ∃ out, Qej x.r out ∧ w.ownsRow M.B 3 1 v out.length (Qcz out)
 | 14 => v = .pointer (some ⟨M.m, 8 + x.k, none⟩)
 | _ => True
theorem PIs.mono {M : Md} {N : Nat} {w w' : World} {x : PV} {v : Value} (h : PIs M N w x v) (hb : Below w.heap.size w w') : PIs M N w' x v := by
 obtain ⟨t, k, r, l, s, i⟩ := x
 unfold PIs at h ⊢
 dsimp only at h ⊢
 split at h
 ·exact h
 ·exact h
 ·exact h
 ·obtain ⟨b, h1, h2⟩ := h; exact ⟨b, h1, h2.of_below hb⟩
 ·obtain ⟨b, h1, h2⟩ := h; exact ⟨b, h1, h2.of_below hb⟩
 ·exact h.below hb
 ·obtain ⟨b, h1, h2⟩ := h; exact ⟨b, h1, h2.of_below hb⟩
 ·obtain ⟨s, rs, h1, h2, h3⟩ := h; exact ⟨s, rs, h1, h2.below hb, h3⟩
 ·obtain ⟨b, h1, h2, h3⟩ := h; exact ⟨b, h1, h2, h3.of_below hb⟩
 ·exact IntsR.below h hb
 ·exact h
 ·exact h
 ·obtain ⟨o, h1, h2⟩ := h; exact ⟨o, h1, Qai h2 hb⟩
 ·exact h
 ·trivial
structure PG (M : Md) (ρ : Nat → Option (List Nat)) (w : World) : Prop where
 tab : Tab w
 gr : GrR w M.V M.g
 mo : ∃ r, Blk w M.m 87 (moC M.V M.g M.bs M.br M.bw M.bf r) ∧ ∀ j L, ρ j = some L → NRel M.B w (r j) L
 rd : Blk w M.br 4 (Qao (Qct M.g 1))
 wt : Blk w M.bw 4 (Qao (Qct M.g 2))
 fe : Blk w M.bf 4 (Qao (Qct M.g 3))
 E : ∀ i, i < 10 → NRel M.B w (pv (M.bs i)) (M.Ls i)
 hB : M.B ≤ w.heap.size
theorem PG.mono {M : Md} {ρ : Nat → Option (List Nat)} {w w' : World} (h : PG M ρ w) (hb : Below w.heap.size w w') : PG M ρ w' := by
 obtain ⟨r, h1, h2⟩ := h.mo
 exact ⟨h.tab.step' hb, h.gr.below hb, ⟨r, h1.of_below hb, fun j L hj => (h2 j L hj).below hb⟩, h.rd.of_below hb, h.wt.of_below hb, h.fe.of_below hb, fun i hi => (h.E i hi).below hb, Nat.le_trans h.hB hb.size⟩
def pvA (σ : Nat → PV) : Operand → PV
 | .tmp d => σ d
 | _ => .at 0 0
def isK : Operand → Bool
 | .const (.int .i64 _) => true
 | _ => false
def kOf : Operand → Int
 | .const (.int .i64 k) => k
 | _ => 0
def Qf8 (ps : List (Nat × Operand)) : List Int := ps.map (fun p => kOf p.2)
theorem Qra {a : Act} {x : Operand} (h : isK x = true) : a.eval x = .int .i64 (kOf x) := by
 unfold isK at h
 split at h
 ·rfl
 ·cases h
def Qm3 (M : Md) (f : Nat) (l : List PV) : Option PV :=
 match l with
 | [x] => if x.t = 6 then (if f = 88 then some (.rl (Qbr x.r)) else if f = 125 then some (.rl (Qbr (Qa9 x.r))) else if f = 72 then some (.rl (Qa9 x.r)) else if f = 126 then some ⟨13, 0, x.r, [], [], []⟩ else none)
   else if x.t = 8 ∧ f = 31 ∧ x.l.length ≤ 6 then some (.rl (Qal x.l)) else none
 | [x, y] => if x.t = 1 then (if y.t = 7 ∧ f = 86 then some (.rl (Qbg ((M.g.evs.length : Nat) : Int) y.s)) else if y.t = 10 ∧ f = 85 ∧ y.i.length ≤ 6 then some (.rl (Qbg ((M.g.evs.length : Nat) : Int) (mdL M.g y.i))) else none)
   else if x.t = 6 ∧ y.t = 6 then (if f = 89 then some (.rl (Qb9 x.r y.r)) else if f = 87 then some (.rl (Qcj x.r y.r)) else none)
   else if x.t = 6 ∧ y.t = 8 ∧ f = 84 ∧ y.l.length ≤ 6 then some (.rl (Qaz x.r y.l)) else none
 | _ => none
def Qz5 (M : Md) (ρ : Nat → Option (List Nat)) (σ : Nat → PV) : Op → Option PV
 | .nilCheck x => if (pvA σ x).t = 1 then some (.at 1 0) else none
 | .fieldAddr ty x f => if ty = 87 ∧ (pvA σ x).t = 1 then (if f = 1 then some (.at 2 0) else if f = 2 then some (.at 11 0) else none)
   else if ty = 85 ∧ (pvA σ x).t = 4 ∧ f < 13 then some (.at 5 f) else if ty = 85 ∧ (pvA σ x).t = 2 ∧ f < 13 then some (.at 14 f) else if ty = 45 ∧ (pvA σ x).t = 11 ∧ f < 7 then some (.at 12 f) else none
 | .load ty x => if ty = 43 ∧ (pvA σ x).t = 5 then (if (pvA σ x).k < 10 then some (.rl (M.Ls (pvA σ x).k)) else none)
   else if ty = 83 ∧ (pvA σ x).t = 5 then (if (pvA σ x).k = 10 then some (.st (Qct M.g 1)) else if (pvA σ x).k = 11 then some (.st (Qct M.g 2)) else if (pvA σ x).k = 12 then some (.st (Qct M.g 3)) else none)
   else if ty = 43 ∧ (pvA σ x).t = 12 ∧ (pvA σ x).k < 7 then (ρ (pvA σ x).k).map PV.rl
   else if ty = 43 ∧ (pvA σ x).t = 14 ∧ (pvA σ x).k < 10 then some (.rl (M.Ls (pvA σ x).k)) else none
 | .buildSlice ty n ps => if ps.toList.map (·.1) = List.range n ∧ 0 < n ∧ n ≤ 6 then
    (if ty = 57 ∧ ps.toList.all (fun p => (pvA σ p.2).t == 6) = true then some (.rs (ps.toList.map (fun p => (pvA σ p.2).r)))
     else if ty = 35 ∧ ps.toList.all (fun p => isK p.2) = true then some (.is (Qf8 ps.toList)) else none) else none
 | .call ⟨.value (.func f), args, _⟩ => Qm3 M f (args.toList.map (pvA σ))
 | _ => none
section
variable {M : Md} {ρ : Nat → Option (List Nat)} {N : Nat} {w : World} {a : Act} {σ : Nat → PV} {Q : Exit → Act → World → Prop} {dst : Option Tmp} {ty : TypeId} {pos : String} {af : Array Edge} {gd : Option (Nat × Bool)} {x y : Operand}
def Qm4 (M : Md) (N : Nat) (a : Act) (w : World) (d : Option Tmp) (av : PV) : Act → World → Prop := fun a' w' => ∃ v, a' = a.put d v ∧ PIs M N w' av v ∧ Below w.heap.size w w'
theorem Qg9 (h : ∀ d, x = .tmp d → PIs M N w (σ d) (a.eval (.tmp d))) : PIs M N w (pvA σ x) (a.eval x) := by
 unfold pvA
 split
 ·exact h _ rfl
 ·exact trivial
theorem PIs.t {z : PV} {v : Value} {k : Nat} (h : PIs M N w z v) (ht : z.t = k) : PIs M N w ⟨k, z.k, z.r, z.l, z.s, z.i⟩ v := by
 rw [← ht]
 exact h
theorem Qh (b k : Nat) (u : Value) (w : World) (h : w.cell? ⟨b, k, none⟩ = some u) : (Instr.loadAt 43 (.pointer (some ⟨b, k, none⟩))).run Tryz.prog w = .ok u w := by
 go_simp
theorem QEm (b k : Nat) (u : Value) (w : World) (h : w.cell? ⟨b, k, none⟩ = some u) : (Instr.loadAt 83 (.pointer (some ⟨b, k, none⟩))).run Tryz.prog w = .ok u w := by
 go_simp
theorem QEn (n : Nat) (bs : Nat → Nat) (br bw bf : Nat) {k : Nat} (hk : k < 10) : (fxC n bs br bw bf)[k]? = some (pv (bs k)) := by
 match k, hk with
 | 0, _ => rfl
 | 1, _ => rfl
 | 2, _ => rfl
 | 3, _ => rfl
 | 4, _ => rfl
 | 5, _ => rfl
 | 6, _ => rfl
 | 7, _ => rfl
 | 8, _ => rfl
 | 9, _ => rfl
 | n + 10, h => omega
theorem QF5 (V : GrV) (g : Gr) (bs : Nat → Nat) (br bw bf : Nat) (r : Nat → Value) {k : Nat} (hk : k < 10) : (moC V g bs br bw bf r)[8 + k]? = some (pv (bs k)) := by
 match k, hk with
 | 0, _ => rfl
 | 1, _ => rfl
 | 2, _ => rfl
 | 3, _ => rfl
 | 4, _ => rfl
 | 5, _ => rfl
 | 6, _ => rfl
 | 7, _ => rfl
 | 8, _ => rfl
 | 9, _ => rfl
 | n + 10, h => omega
theorem Qxk (V : GrV) (g : Gr) (bs : Nat → Nat) (br bw bf : Nat) (r : Nat → Value) {k : Nat} (hk : k < 7) : (moC V g bs br bw bf r)[21 + k]? = some (r k) := by
 match k, hk with
 | 0, _ => rfl
 | 1, _ => rfl
 | 2, _ => rfl
 | 3, _ => rfl
 | 4, _ => rfl
 | 5, _ => rfl
 | 6, _ => rfl
 | n + 7, h => omega
theorem QEo (l : List Nat) (h : l.length ≤ 6) (h0 : 0 < l.length) (W : World) : (Instr.buildSlice 57 l.length (List.zip (List.range l.length) (l.map pv)).toArray).run Tryz.prog W = .ok (.slice (some ⟨W.heap.size, 0, none⟩) l.length l.length) (W.alloc (.cells (l.map pv).toArray 43)) := by
 match l, h, h0 with
 | [a], _, _ => exact (show _ = _ by kernel_rfl)
 | [a, b], _, _ => exact (show _ = _ by kernel_rfl)
 | [a, b, c], _, _ => exact (show _ = _ by kernel_rfl)
 | [a, b, c, d], _, _ => exact (show _ = _ by kernel_rfl)
 | [a, b, c, d, e], _, _ => exact (show _ = _ by kernel_rfl)
 | [a, b, c, d, e, f], _, _ => exact (show _ = _ by kernel_rfl)
 | a :: b :: c :: d :: e :: f :: g :: l, h, _ => simp at h
theorem Qxl (l : List Int) (h : l.length ≤ 6) (h0 : 0 < l.length) (W : World) : (Instr.buildSlice 35 l.length (List.zip (List.range l.length) (l.map (Value.int .i64))).toArray).run Tryz.prog W = .ok (.slice (some ⟨W.heap.size, 0, none⟩) l.length l.length) (W.alloc (.cells (l.map (Value.int .i64)).toArray 3)) := by
 match l, h, h0 with
 | [a], _, _ => exact (show _ = _ by kernel_rfl)
 | [a, b], _, _ => exact (show _ = _ by kernel_rfl)
 | [a, b, c], _, _ => exact (show _ = _ by kernel_rfl)
 | [a, b, c, d], _, _ => exact (show _ = _ by kernel_rfl)
 | [a, b, c, d, e], _, _ => exact (show _ = _ by kernel_rfl)
 | [a, b, c, d, e, f], _, _ => exact (show _ = _ by kernel_rfl)
 | a :: b :: c :: d :: e :: f :: g :: l, h, _ => simp at h
theorem QF6 {w : World} {m : Nat} {V : GrV} {g : Gr} {bs : Nat → Nat} {br bw bf : Nat} {r : Nat → Value} (h : Blk w m 87 (moC V g bs br bw bf r)) : ∀ j v, (V.gs g)[j]? = some v → w.cell? ⟨m, j, none⟩ = some v := by
 intro j v hj
 match j, hj with
 | 0, hj => exact h.cell hj
 | 1, hj => exact h.cell hj
 | 2, hj => exact h.cell hj
 | 3, hj => exact h.cell hj
 | 4, hj => exact h.cell hj
 | 5, hj => exact h.cell hj
 | 6, hj => exact h.cell hj
 | 7, hj => exact h.cell hj
 | n + 8, hj => simp [GrV.gs] at hj
theorem Qt5 : ∀ (l : List (Nat × Operand)), (∀ p ∈ l, NRel M.B w (a.eval p.2) (pvA σ p.2).r) → ∃ rs : List (Nat × Nat × List Nat), l.map (fun p => a.eval p.2) = (rs.map (·.1)).map pv ∧ rs.map (·.2.2) = l.map (fun p => (pvA σ p.2).r) ∧ Rels w rs
 | [], _ => ⟨[], rfl, rfl, Rels.nil _⟩
 | p :: l, h => by
  obtain ⟨rs, h1, h2, h3⟩ := Qt5 l (fun q hq => h q (List.mem_cons_of_mem _ hq))
  obtain ⟨b, c, e, -, hr⟩ := h p List.mem_cons_self
  exact ⟨(b, c, (pvA σ p.2).r) :: rs, by simp only [List.map_cons, h1, e], by simp only [List.map_cons, h2], h3.cons hr⟩
theorem Qdk {f : FuncId} {args : Array Value} {L : List Nat} (hB : M.B ≤ w.heap.size) (D : Calls Tryz.prog f args w fun e w' => ∃ b c, e = .returned (pv b) ∧ Made w w' b c L) :
  Calls Tryz.prog f args w (fun e w'' => ∃ v, e = .returned v ∧ Qm4 M N a w dst (.rl L) (a.put dst v) w'') :=
 D.mono fun _ _ ⟨b, c, h1, h2⟩ => ⟨pv b, h1, pv b, rfl, ⟨b, c, rfl, ⟨Nat.le_trans hB h2.hb, Nat.le_trans hB h2.hc⟩, h2.rel⟩, h2.below⟩
end
set_option maxRecDepth 100000
section
variable {M : Md} {ρ : Nat → Option (List Nat)} {N : Nat} {w : World} {a : Act} {σ : Nat → PV} {Q : Exit → Act → World → Prop} {dst : Option Tmp} {ty : TypeId} {pos : String} {af : Array Edge} {gd : Option (Nat × Bool)} {x y : Operand} {tys : Array TypeId}
theorem QF7 (m : Nat) (w : World) : (Instr.fieldAt 87 (pv m) 1).run Tryz.prog w = .ok (.pointer (some ⟨m, 8, none⟩)) w := by kernel_rfl
theorem QEp (m : Nat) (w : World) : (Instr.fieldAt 87 (pv m) 2).run Tryz.prog w = .ok (.pointer (some ⟨m, 21, none⟩)) w := by kernel_rfl
theorem QF8 (b : Nat) (w : World) {f : Nat} (hf : f < 13) : (Instr.fieldAt 85 (pv b) f).run Tryz.prog w = .ok (.pointer (some ⟨b, f, none⟩)) w := by
 match f, hf with
 | 0, _ => exact (show _ = _ by kernel_rfl)
 | 1, _ => exact (show _ = _ by kernel_rfl)
 | 2, _ => exact (show _ = _ by kernel_rfl)
 | 3, _ => exact (show _ = _ by kernel_rfl)
 | 4, _ => exact (show _ = _ by kernel_rfl)
 | 5, _ => exact (show _ = _ by kernel_rfl)
 | 6, _ => exact (show _ = _ by kernel_rfl)
 | 7, _ => exact (show _ = _ by kernel_rfl)
 | 8, _ => exact (show _ = _ by kernel_rfl)
 | 9, _ => exact (show _ = _ by kernel_rfl)
 | 10, _ => exact (show _ = _ by kernel_rfl)
 | 11, _ => exact (show _ = _ by kernel_rfl)
 | 12, _ => exact (show _ = _ by kernel_rfl)
 | n + 13, h => omega
theorem QF9 (b : Nat) (w : World) {f : Nat} (hf : f < 13) : (Instr.fieldAt 85 (.pointer (some ⟨b, 8, none⟩)) f).run Tryz.prog w = .ok (.pointer (some ⟨b, 8 + f, none⟩)) w := by
 match f, hf with
 | 0, _ => exact (show _ = _ by kernel_rfl)
 | 1, _ => exact (show _ = _ by kernel_rfl)
 | 2, _ => exact (show _ = _ by kernel_rfl)
 | 3, _ => exact (show _ = _ by kernel_rfl)
 | 4, _ => exact (show _ = _ by kernel_rfl)
 | 5, _ => exact (show _ = _ by kernel_rfl)
 | 6, _ => exact (show _ = _ by kernel_rfl)
 | 7, _ => exact (show _ = _ by kernel_rfl)
 | 8, _ => exact (show _ = _ by kernel_rfl)
 | 9, _ => exact (show _ = _ by kernel_rfl)
 | 10, _ => exact (show _ = _ by kernel_rfl)
 | 11, _ => exact (show _ = _ by kernel_rfl)
 | 12, _ => exact (show _ = _ by kernel_rfl)
 | n + 13, h => omega
theorem QG (b : Nat) (w : World) {f : Nat} (hf : f < 7) : (Instr.fieldAt 45 (.pointer (some ⟨b, 21, none⟩)) f).run Tryz.prog w = .ok (.pointer (some ⟨b, 21 + f, none⟩)) w := by
 match f, hf with
 | 0, _ => exact (show _ = _ by kernel_rfl)
 | 1, _ => exact (show _ = _ by kernel_rfl)
 | 2, _ => exact (show _ = _ by kernel_rfl)
 | 3, _ => exact (show _ = _ by kernel_rfl)
 | 4, _ => exact (show _ = _ by kernel_rfl)
 | 5, _ => exact (show _ = _ by kernel_rfl)
 | 6, _ => exact (show _ = _ by kernel_rfl)
 | n + 7, h => omega
theorem QEq (u v : Value) (w : World) : (callFunc 86 #[u, v]).run Tryz.prog w = .ok (.enter 86 #[u, v]) w := by kernel_rfl
theorem QEr (u v : Value) (w : World) : (callFunc 85 #[u, v]).run Tryz.prog w = .ok (.enter 85 #[u, v]) w := by kernel_rfl
theorem QCx (u v : Value) (w : World) : (callFunc 84 #[u, v]).run Tryz.prog w = .ok (.enter 84 #[u, v]) w := by kernel_rfl
theorem QCy (u v : Value) (w : World) : (callFunc 89 #[u, v]).run Tryz.prog w = .ok (.enter 89 #[u, v]) w := by kernel_rfl
theorem QCz (u v : Value) (w : World) : (callFunc 87 #[u, v]).run Tryz.prog w = .ok (.enter 87 #[u, v]) w := by kernel_rfl
theorem QGa (u : Value) (w : World) : (callFunc 88 #[u]).run Tryz.prog w = .ok (.enter 88 #[u]) w := by kernel_rfl
theorem QEs (u : Value) (w : World) : (callFunc 125 #[u]).run Tryz.prog w = .ok (.enter 125 #[u]) w := by kernel_rfl
theorem QEt (u : Value) (w : World) : (callFunc 72 #[u]).run Tryz.prog w = .ok (.enter 72 #[u]) w := by kernel_rfl
theorem QC0 (u : Value) (w : World) : (callFunc 126 #[u]).run Tryz.prog w = .ok (.enter 126 #[u]) w := by kernel_rfl
theorem QC1 (u : Value) (w : World) : (callFunc 31 #[u]).run Tryz.prog w = .ok (.enter 31 #[u]) w := by kernel_rfl
theorem Qz6 (hG : PG M ρ w) {f : Nat} {av : PV} (h : Qm3 M f [pvA σ x] = some av) (hx : PIs M N w (pvA σ x) (a.eval x)) : Oper.wp Tryz.prog ⟨dst, .call ⟨.value (.func f), #[x], tys⟩, ty, pos, af, gd⟩ a w (Qm4 M N a w dst av) Q := by
 unfold Qm3 at h
 dsimp only at h
 by_cases t : (pvA σ x).t = 6
 ·rw [if_pos t] at h
  obtain ⟨b, c, e, -, hr⟩ : NRel M.B w (a.eval x) (pvA σ x).r := hx.t t
  by_cases e1 : f = 88
  ·subst e1; rw [if_pos rfl] at h; cases h
   exact Qav (Qdm e QGa) (Qdk hG.hB (Qpa b c _ w hr))
  rw [if_neg e1] at h
  by_cases e2 : f = 125
  ·subst e2; rw [if_pos rfl] at h; cases h
   exact Qav (Qdm e QEs) (Qdk hG.hB (Qu0 b c _ w hr))
  rw [if_neg e2] at h
  by_cases e3 : f = 72
  ·subst e3; rw [if_pos rfl] at h; cases h
   exact Qav (Qdm e QEt) (Qdk hG.hB (Qjn b c _ w hr))
  rw [if_neg e3] at h
  by_cases e4 : f = 126
  ·subst e4; rw [if_pos rfl] at h; cases h
   refine Qav (Qdm e QC0) ((Qs5 b c _ w hr hG.tab).mono ?_)
   rintro e w' ⟨v, out, rfl, h2, h3, h4⟩
   exact ⟨v, rfl, v, rfl, ⟨out, h2, Qb0 h3 hG.hB⟩, h4⟩
  rw [if_neg e4] at h; cases h
 ·rw [if_neg t] at h
  by_cases t2 : (pvA σ x).t = 8 ∧ f = 31 ∧ (pvA σ x).l.length ≤ 6
  ·rw [if_pos t2] at h; cases h
   obtain ⟨t2, rfl, hl⟩ := t2
   obtain ⟨s, rs, e, h1, h2⟩ : ∃ (s : Nat) (rs : List (Nat × Nat × List Nat)), a.eval x = .slice (some ⟨s, 0, none⟩) rs.length rs.length ∧ RelsAt w s rs ∧ rs.map (·.2.2) = (pvA σ x).l := hx.t t2
   have hl2 : rs.length ≤ 1000 := by have := congrArg List.length h2; rw [List.length_map] at this; omega
   have D := Qle s rs w h1 hl2
   rw [h2] at D
   exact Qav (Qdm e QC1) (Qdk hG.hB D)
  ·rw [if_neg t2] at h; cases h
theorem Qz7 (hG : PG M ρ w) {f : Nat} {av : PV} (h : Qm3 M f [pvA σ x, pvA σ y] = some av) (hx : PIs M N w (pvA σ x) (a.eval x)) (hy : PIs M N w (pvA σ y) (a.eval y)) : Oper.wp Tryz.prog ⟨dst, .call ⟨.value (.func f), #[x, y], tys⟩, ty, pos, af, gd⟩ a w (Qm4 M N a w dst av) Q := by
 unfold Qm3 at h
 dsimp only at h
 by_cases t : (pvA σ x).t = 1
 ·rw [if_pos t] at h
  have e : a.eval x = pv M.m := hx.t t
  obtain ⟨r, hmo, -⟩ := hG.mo
  obtain ⟨p1, k1, e1, -, -⟩ := hG.gr.ev
  by_cases t2 : (pvA σ y).t = 7 ∧ f = 86
  ·rw [if_pos t2] at h; cases h
   obtain ⟨t2, rfl⟩ := t2
   obtain ⟨b, e2, hb⟩ : ∃ b, a.eval y = .slice (some ⟨b, 0, none⟩) (pvA σ y).s.length (pvA σ y).s.length ∧ Blk w b 4 (Qao (pvA σ y).s) := hy.t t2
   have hc : w.cell? ⟨M.m, 1, none⟩ = some (.slice p1 M.g.evs.length k1) := by rw [← e1]; exact hmo.cell rfl
   exact Qav (Qco e e2 QEq) (Qdk hG.hB (Qj1 M.m _ k1 p1 _ _ w hc (Qt0 hb) hG.tab))
  rw [if_neg t2] at h
  by_cases t3 : (pvA σ y).t = 10 ∧ f = 85 ∧ (pvA σ y).i.length ≤ 6
  ·rw [if_pos t3] at h; cases h
   obtain ⟨t3, rfl, hl⟩ := t3
   have hu : IntsR w (a.eval y) (pvA σ y).i := hy.t t3
   exact Qav (Qco e rfl QEr) (Qdk hG.hB (Qqm M.m M.V M.g _ _ w hG.gr (QF6 hmo) hu (by omega) hG.tab))
  rw [if_neg t3] at h; cases h
 rw [if_neg t] at h
 by_cases t2 : (pvA σ x).t = 6 ∧ (pvA σ y).t = 6
 ·rw [if_pos t2] at h
  obtain ⟨b, c, e, -, hr⟩ : NRel M.B w (a.eval x) (pvA σ x).r := hx.t t2.1
  obtain ⟨b2, c2, e2, -, hr2⟩ : NRel M.B w (a.eval y) (pvA σ y).r := hy.t t2.2
  by_cases e3 : f = 89
  ·subst e3; rw [if_pos rfl] at h; cases h
   exact Qav (Qco e e2 QCy) (Qdk hG.hB (Qth b c b2 c2 _ _ w hr hr2))
  rw [if_neg e3] at h
  by_cases e4 : f = 87
  ·subst e4; rw [if_pos rfl] at h; cases h
   exact Qav (Qco e e2 QCz) (Qdk hG.hB (Qti b c b2 c2 _ _ w hr hr2))
  rw [if_neg e4] at h; cases h
 rw [if_neg t2] at h
 by_cases t3 : (pvA σ x).t = 6 ∧ (pvA σ y).t = 8 ∧ f = 84 ∧ (pvA σ y).l.length ≤ 6
 ·rw [if_pos t3] at h; cases h
  obtain ⟨t3, t4, rfl, hl⟩ := t3
  obtain ⟨b, c, e, hn, hr⟩ : NRel M.B w (a.eval x) (pvA σ x).r := hx.t t3
  obtain ⟨s, rs, e2, h1, h2⟩ : ∃ (s : Nat) (rs : List (Nat × Nat × List Nat)), a.eval y = .slice (some ⟨s, 0, none⟩) rs.length rs.length ∧ RelsAt w s rs ∧ rs.map (·.2.2) = (pvA σ y).l := hy.t t4
  have hl2 : rs.length ≤ 1000 := by have := congrArg List.length h2; rw [List.length_map] at this; omega
  have D := Qpq b c s _ rs w hr h1 hl2 hG.tab M.B ⟨hn.1, hn.2, hG.hB⟩
  rw [h2] at D
  refine Qav (Qco e e2 QCx) (D.mono ?_)
  rintro e w' ⟨b, c, rfl, h4, h5, h6⟩
  exact ⟨pv b, rfl, pv b, rfl, ⟨b, c, rfl, h4, h5⟩, h6⟩
 ·rw [if_neg t3] at h; cases h
theorem QEu (hG : PG M ρ w) {o : Oper} {av : PV} (h : Qz5 M ρ σ o.op = some av) (hx : ∀ d ∈ Qb5 o.op.operands.toList, PIs M N w (σ d) (a.eval (.tmp d))) : o.wp Tryz.prog a w (Qm4 M N a w o.dst av) Q := by
 obtain ⟨dst, op, ty, pos, af, gd⟩ := o
 dsimp only at h hx ⊢
 have hB := Below.refl w.heap.size w
 unfold Qz5 at h
 split at h
 ·rename_i x
  have hi := Qg9 (x := x) (fun d e => hx d (Qae.2 (by simp [Op.operands, e])))
  by_cases t : (pvA σ x).t = 1
  ·rw [if_pos t] at h; cases h
   have e : a.eval x = pv M.m := hi.t t
   refine Qas (v := pv M.m) (w' := w) ?_ ⟨_, rfl, rfl, hB⟩
   generalize a.eval = q at *
   go_simp
  ·rw [if_neg t] at h; cases h
 ·rename_i t x f
  have hi := Qg9 (x := x) (fun d e => hx d (Qae.2 (by simp [Op.operands, e])))
  by_cases c1 : t = 87 ∧ (pvA σ x).t = 1
  ·rw [if_pos c1] at h
   obtain ⟨rfl, c1⟩ := c1
   have e : a.eval x = pv M.m := hi.t c1
   by_cases e1 : f = 1
   ·subst e1; rw [if_pos rfl] at h; cases h
    exact Qbu (s := Instr.fieldAt 87 (a.eval x) 1) rfl (by rw [e]; exact QF7 _ _) ⟨_, rfl, rfl, hB⟩
   rw [if_neg e1] at h
   by_cases e2 : f = 2
   ·subst e2; rw [if_pos rfl] at h; cases h
    exact Qbu (s := Instr.fieldAt 87 (a.eval x) 2) rfl (by rw [e]; exact QEp _ _) ⟨_, rfl, rfl, hB⟩
   rw [if_neg e2] at h; cases h
  rw [if_neg c1] at h
  by_cases c2 : t = 85 ∧ (pvA σ x).t = 4 ∧ f < 13
  ·rw [if_pos c2] at h; cases h
   obtain ⟨rfl, c2, hf⟩ := c2
   obtain ⟨b, e, hb⟩ : ∃ b, a.eval x = pv b ∧ Blk w b 85 M.fx := hi.t c2
   exact Qbu (s := Instr.fieldAt 85 (a.eval x) f) rfl (by rw [e]; exact QF8 _ _ hf) ⟨_, rfl, ⟨b, rfl, hb⟩, hB⟩
  rw [if_neg c2] at h
  by_cases c9 : t = 85 ∧ (pvA σ x).t = 2 ∧ f < 13
  ·rw [if_pos c9] at h; cases h
   obtain ⟨rfl, c9, hf⟩ := c9
   have e : a.eval x = .pointer (some ⟨M.m, 8, none⟩) := hi.t c9
   exact Qbu (s := Instr.fieldAt 85 (a.eval x) f) rfl (by rw [e]; exact QF9 _ _ hf) ⟨_, rfl, rfl, hB⟩
  rw [if_neg c9] at h
  by_cases c3 : t = 45 ∧ (pvA σ x).t = 11 ∧ f < 7
  ·rw [if_pos c3] at h; cases h
   obtain ⟨rfl, c3, hf⟩ := c3
   have e : a.eval x = .pointer (some ⟨M.m, 21, none⟩) := hi.t c3
   exact Qbu (s := Instr.fieldAt 45 (a.eval x) f) rfl (by rw [e]; exact QG _ _ hf) ⟨_, rfl, rfl, hB⟩
  rw [if_neg c3] at h; cases h
 ·rename_i t x
  have hi := Qg9 (x := x) (fun d e => hx d (Qae.2 (by simp [Op.operands, e])))
  by_cases c4 : t = 43 ∧ (pvA σ x).t = 5
  ·rw [if_pos c4] at h
   obtain ⟨rfl, c4⟩ := c4
   obtain ⟨b, e, hb⟩ : ∃ b, a.eval x = .pointer (some ⟨b, (pvA σ x).k, none⟩) ∧ Blk w b 85 M.fx := hi.t c4
   by_cases hk : (pvA σ x).k < 10
   ·rw [if_pos hk] at h; cases h
    exact Qbu (s := Instr.loadAt 43 (a.eval x)) rfl (by rw [e]; exact Qh _ _ _ _ (hb.cell (QEn _ _ _ _ _ hk))) ⟨_, rfl, hG.E _ hk, hB⟩
   ·rw [if_neg hk] at h; cases h
  rw [if_neg c4] at h
  by_cases c5 : t = 83 ∧ (pvA σ x).t = 5
  ·rw [if_pos c5] at h
   obtain ⟨rfl, c5⟩ := c5
   obtain ⟨b, e, hb⟩ : ∃ b, a.eval x = .pointer (some ⟨b, (pvA σ x).k, none⟩) ∧ Blk w b 85 M.fx := hi.t c5
   have key : ∀ (j : Int) (bj : Nat), M.fx[(pvA σ x).k]? = some (.slice (some ⟨bj, 0, none⟩) M.g.evs.length M.g.evs.length) → Blk w bj 4 (Qao (Qct M.g j)) → Oper.wp Tryz.prog ⟨dst, .load 83 x, ty, pos, af, gd⟩ a w (Qm4 M N a w dst (.st (Qct M.g j))) Q := fun j bj h1 h2 =>
    Qbu (s := Instr.loadAt 83 (a.eval x)) rfl (by rw [e]; exact QEm _ _ _ _ (hb.cell h1)) ⟨_, rfl, ⟨bj, by show _ = Value.slice _ (Qct M.g j).length (Qct M.g j).length; rw [Qie], h2⟩, hB⟩
   by_cases k1 : (pvA σ x).k = 10
   ·rw [if_pos k1] at h; cases h
    exact key 1 M.br (by rw [k1]; rfl) hG.rd
   rw [if_neg k1] at h
   by_cases k2 : (pvA σ x).k = 11
   ·rw [if_pos k2] at h; cases h
    exact key 2 M.bw (by rw [k2]; rfl) hG.wt
   rw [if_neg k2] at h
   by_cases k3 : (pvA σ x).k = 12
   ·rw [if_pos k3] at h; cases h
    exact key 3 M.bf (by rw [k3]; rfl) hG.fe
   rw [if_neg k3] at h; cases h
  rw [if_neg c5] at h
  by_cases c6 : t = 43 ∧ (pvA σ x).t = 12 ∧ (pvA σ x).k < 7
  ·rw [if_pos c6] at h
   obtain ⟨rfl, c6, hk⟩ := c6
   have e : a.eval x = .pointer (some ⟨M.m, 21 + (pvA σ x).k, none⟩) := hi.t c6
   obtain ⟨r, hmo, hr⟩ := hG.mo
   cases hρ : ρ (pvA σ x).k with
   | none => rw [hρ] at h; cases h
   | some L =>
    rw [hρ] at h; cases h
    exact Qbu (s := Instr.loadAt 43 (a.eval x)) rfl (by rw [e]; exact Qh _ _ _ _ (hmo.cell (Qxk _ _ _ _ _ _ _ hk))) ⟨_, rfl, hr _ L hρ, hB⟩
  rw [if_neg c6] at h
  by_cases c9 : t = 43 ∧ (pvA σ x).t = 14 ∧ (pvA σ x).k < 10
  ·rw [if_pos c9] at h; cases h
   obtain ⟨rfl, c9, hk⟩ := c9
   have e : a.eval x = .pointer (some ⟨M.m, 8 + (pvA σ x).k, none⟩) := hi.t c9
   obtain ⟨r, hmo, -⟩ := hG.mo
   exact Qbu (s := Instr.loadAt 43 (a.eval x)) rfl (by rw [e]; exact Qh _ _ _ _ (hmo.cell (QF5 _ _ _ _ _ _ _ hk))) ⟨_, rfl, hG.E _ hk, hB⟩
  ·rw [if_neg c9] at h; cases h
 ·rename_i t n ps
  by_cases c7 : ps.toList.map (·.1) = List.range n ∧ 0 < n ∧ n ≤ 6
  ·rw [if_pos c7] at h
   obtain ⟨c1, c2, c3⟩ := c7
   have hln : ps.toList.length = n := by have := congrArg List.length c1; rw [List.length_map, List.length_range] at this; exact this
   by_cases d : t = 57 ∧ ps.toList.all (fun p => (pvA σ p.2).t == 6) = true
   ·rw [if_pos d] at h; cases h
    obtain ⟨rfl, d⟩ := d
    obtain ⟨rs, h1, h2, h3⟩ := Qt5 (M := M) (w := w) (a := a) (σ := σ) ps.toList (fun p hp => by
     have h6 : (pvA σ p.2).t = 6 := by simpa using List.all_eq_true.1 d p hp
     exact PIs.t (k := 6) (Qg9 (M := M) (N := N) (x := p.2) (fun d e => hx d (Qae.2 (by simp [Op.operands]; exact ⟨p.1, by rw [← e]; exact Array.mem_toList_iff.1 hp⟩)))) h6)
    have hl : rs.length = n := by have := congrArg List.length h2; rw [List.length_map, List.length_map] at this; omega
    subst hl
    have hr := QEo (rs.map (·.1)) (by simpa using c3) (by simpa using c2) w
    rw [List.length_map] at hr
    refine Qkc c1 h1 hr ⟨_, rfl, ⟨w.heap.size, rs, rfl, ?_, h2⟩, hB.alloc (Nat.le_refl _) _⟩
    rw [List.map_map]
    exact QCf rs h3
   rw [if_neg d] at h
   by_cases d2 : t = 35 ∧ ps.toList.all (fun p => isK p.2) = true
   ·rw [if_pos d2] at h; cases h
    obtain ⟨rfl, d2⟩ := d2
    have h1 : ps.toList.map (fun p => a.eval p.2) = (Qf8 ps.toList).map (Value.int .i64) := by
     unfold Qf8
     rw [List.map_map]
     exact List.map_congr_left (fun p hp => Qra (List.all_eq_true.1 d2 p hp))
    have hl : (Qf8 ps.toList).length = n := by unfold Qf8; rw [List.length_map]; exact hln
    subst hl
    exact Qkc c1 h1 (Qxl _ c3 c2 w) ⟨_, rfl, Qt1 w _, hB.alloc (Nat.le_refl _) _⟩
   ·rw [if_neg d2] at h; cases h
  ·rw [if_neg c7] at h; cases h
 ·rename_i f args tys
  obtain ⟨l⟩ := args
  match l, h, hx with
  | [], h, _ => cases h
  | [x], h, hx => exact Qz6 hG h (Qg9 (fun d e => hx d (Qae.2 (by simp [Op.operands, Call.operands, e]))))
  | [x, y], h, hx => exact Qz7 hG h (Qg9 (fun d e => hx d (Qae.2 (by simp [Op.operands, Call.operands, e])))) (Qg9 (fun d e => hx d (Qae.2 (by simp [Op.operands, Call.operands, e]))))
  | x :: y :: z :: l, h, _ => cases h
 ·cases h
end
def pE (M : Md) (ws : World) (ρ : Nat → Option (List Nat)) : Eng Tryz.prog PV where
 Is := PIs M
 G w := PG M ρ w ∧ Touch M.m ws w
 isNo x := x.t == 0
 nw x := !(x.t == 0 || (x.t == 1 || (x.t == 4 || x.t == 6)))
 isB _ := false
 bv _ := false
 con _ := .at 0 0
 pk _ _ _ := none
 opR := Qz5 M ρ
 pre _ _ := none
 mono := PIs.mono
 gmono h hb := ⟨h.1.mono hb, h.2.step hb⟩
 any := fun {_ _ x _} h => by
  obtain ⟨t, k, r, l, s, i⟩ := x
  have : t = 0 := by simpa using h
  subst this
  exact trivial
 chg := fun {_ _ _ x _} h hi => by
  obtain ⟨t, k, r, l, s, i⟩ := x
  unfold PIs at hi ⊢
  simp at h
  by_cases e0 : t = 0
  ·subst e0; exact hi
  by_cases e1 : t = 1
  ·subst e1; exact hi
  by_cases e4 : t = 4
  ·subst e4; exact hi
  obtain rfl : t = 6 := by omega
  exact hi
 bool := fun h => by cases h
 conOk := fun _ => trivial
 pkOk := fun h => by cases h
 ok := fun hG _ h _ hx => QEu hG.1 h hx
def Qc8 (ρ : Nat → Option (List Nat)) (j : Nat) (L : List Nat) : Nat → Option (List Nat) := fun x => if x = j then some L else ρ x
theorem Qcq {P : Program} {A : Type} {E : Eng P A} (h : ∀ σ o, E.pre σ o = none) {ops : Array Oper} {τ : Nat → A} : ∀ (l : List Oper) (g : List (List (Nat × Bool))) (σ : Nat → A), E.vcT ops τ l g σ
 | [], _, _ => trivial
 | o :: l, g, σ => by
  unfold Eng.vcT
  rw [h]
  exact Qcq h l _ _
section
variable {M : Md} {ρ : Nat → Option (List Nat)} {T : Nat} {ws w0 w : World} {a : Act} {σ : Nat → PV} {ops : Array Oper} {Q : Exit → Act → World → Prop} {id : Nat} {b : Bool} {c2 : Code}
theorem Qz8 {w : World} {b c m j : Nat} {L : List Nat} {old : Array Value} (h : IsRel w b c L) (hm : Blk w m 87 old) (u : Value) : IsRel (w.setCell ⟨m, j, none⟩ u) b c L :=
 ⟨h.ne, h.head.setOther (a := ⟨m, j, none⟩) (Qap h.head hm (by decide)) u, h.rows.setOther (a := ⟨m, j, none⟩) (Qap h.rows hm (by decide)) u, h.len, h.low⟩
theorem NRel.setM {B : Nat} {w : World} {m j : Nat} {v : Value} {L : List Nat} {old : Array Value} (h : NRel B w v L) (hm : Blk w m 87 old) (u : Value) : NRel B (w.setCell ⟨m, j, none⟩ u) v L := by
 obtain ⟨b, c, h1, h2, h3⟩ := h
 exact ⟨b, c, h1, h2, Qz8 h3 hm u⟩
theorem PG.less {ρ' : Nat → Option (List Nat)} (h : PG M ρ w) (hr : ∀ j L, ρ' j = some L → ρ j = some L) : PG M ρ' w := by
 obtain ⟨r, h1, h2⟩ := h.mo
 exact ⟨h.tab, h.gr, ⟨r, h1, fun j L hj => h2 j L (hr j L hj)⟩, h.rd, h.wt, h.fe, h.E, h.hB⟩
theorem PG.put (h : PG M ρ w) (h0 : GrR w0 M.V M.g) (hT0 : Tab w0) (hm0 : w0.heap.size ≤ M.m) (hlow : Below w0.heap.size w0 w) {j : Nat} (hj : j < 7) {u : Value} {L : List Nat} (hu : NRel M.B w u L) : PG M (Qc8 ρ j L) (w.setCell ⟨M.m, 21 + j, none⟩ u) := by
 obtain ⟨r, hmo, hr⟩ := h.mo
 have hl := hlow.setCell (p := ⟨M.m, 21 + j, none⟩) hm0 u
 refine ⟨hT0.step' hl, h0.below hl, ⟨Qzf r j u, ?_, fun i K hi => ?_⟩, h.rd.setOther (a := ⟨M.m, 21 + j, none⟩) (Qap h.rd hmo (by decide)) u, h.wt.setOther (a := ⟨M.m, 21 + j, none⟩) (Qap h.wt hmo (by decide)) u, h.fe.setOther (a := ⟨M.m, 21 + j, none⟩) (Qap h.fe hmo (by decide)) u, fun i hi => (h.E i hi).setM hmo u, by simpa [World.setCell] using h.hB⟩
 ·have := hmo.set (21 + j) u
  rw [QCg _ _ _ _ _ _ _ j hj] at this
  exact this
 ·unfold Qc8 at hi
  unfold Qzf
  by_cases e : i = j
  ·rw [if_pos e] at hi ⊢
   cases hi
   exact hu.setM hmo u
  ·rw [if_neg e] at hi ⊢
   exact (hr i K hi).setM hmo u
theorem QEv {m k y : Nat} {old : Value} (w : World) (hc : w.cell? ⟨m, k, none⟩ = some old) (hf : w.frozen? ⟨m, k, none⟩ = false) : (Instr.storeAt 43 (.pointer (some ⟨m, k, none⟩)) (pv y)).run Tryz.prog w = .ok () (w.setCell ⟨m, k, none⟩ (pv y)) := by
 go_simp
theorem wp_skip {P : Program} {o : Oper} {w' : World} {K : Act → World → Prop} (h : (execOp a.eval o).run P w = .ok .skip w') (hK : K (a.put o.dst undef) w') : o.wp P a w K Q := by
 unfold Oper.wp
 rw [h]
 exact hK
theorem Qn7 (n j p q : Nat) (L : List Nat) (h0 : GrR w0 M.V M.g) (hT0 : Tab w0) (hm0 : w0.heap.size ≤ M.m) (hj : j < 7) (hm : Tryz.prog.follows .mixedOrders = true) (hs : ops.size = n + 1) (hok : okR ops n (n + 1) T = true) (hC : (pE M ws ρ).sucT ops (ops.toList.take n) σ = true)
  (hL : ∃ ol, ops[n]? = some ol ∧ ol.guard = none ∧ ol.dst = none ∧ ol.op = .store 43 (.tmp p) (.tmp q)) (hW : Qjd ops n = true)
  (hp : (pE M ws ρ).goT (ops.toList.take n) σ p = .at 12 j) (hq : (pE M ws ρ).goT (ops.toList.take n) σ q = .rl L) (hσ : Qfr (pE M ws ρ).isNo ops n [] σ = true)
  (fin : ∀ a w, (pE M ws (Qc8 ρ j L)).Ga T w0 σ a w → Q .normal a w) : ∀ a w, (pE M ws ρ).Ga T w0 σ a w → (Code.region id ops b).wp Tryz.prog Q a w := by
 intro a1 w1 h1
 obtain ⟨ol, k1, k2, k3, k4⟩ := hL
 refine Eng.reg_last hm n hs hok hC (Qcq (fun _ _ => rfl) _ _ _) k1 k2 hW (fun c x y e => by rw [k4] at e; cases e) h1 (fun L' a w hM _ hops => ?_)
 have vp : PIs M w1.heap.size w ((pE M ws ρ).goT (ops.toList.take n) σ p) (a.eval (.tmp p)) := hops p (Qae.2 (by rw [k4]; simp [Op.operands]))
 have vq : PIs M w1.heap.size w ((pE M ws ρ).goT (ops.toList.take n) σ q) (a.eval (.tmp q)) := hops q (Qae.2 (by rw [k4]; simp [Op.operands]))
 rw [hp] at vp
 rw [hq] at vq
 have vp : a.eval (.tmp p) = .pointer (some ⟨M.m, 21 + j, none⟩) := vp
 have vq : NRel M.B w (a.eval (.tmp q)) L := vq
 obtain ⟨bq, cq, e, hn, hr⟩ := vq
 have hG : PG M ρ w := PG.mono h1.g.1 hM.low
 obtain ⟨r, hmo, -⟩ := hG.mo
 have hlow := h1.low.trans (hM.low.mono h1.low.size)
 have run := QEv (y := bq) w (hmo.cell (Qxk _ _ _ _ _ _ _ hj)) (hmo.frozen _)
 obtain ⟨dst, op, ty, pos, af, gd⟩ := ol
 dsimp only at k3 k4
 subst k3 k4
 refine wp_skip (w' := w.setCell ⟨M.m, 21 + j, none⟩ (pv bq)) ?_ (fin _ _ ⟨hlow.setCell (p := ⟨M.m, 21 + j, none⟩) hm0 _, ⟨hG.put h0 hT0 hm0 hlow hj ⟨bq, cq, rfl, hn, hr⟩, (h1.g.2.step hM.low).set _⟩, fun d => ?_, h1.nw, hM.sz, hM.df⟩)
 ·have e2 : (execOp a.eval ⟨none, .store 43 (.tmp p) (.tmp q), ty, pos, af, gd⟩).run Tryz.prog w = (do Instr.storeAt 43 (a.eval (.tmp p)) (a.eval (.tmp q)); pure Next.skip : Sem Next).run Tryz.prog w := rfl
  rw [e2, vp, e, Sem.run_bind, run]
  rfl
 ·show PIs M 0 _ (σ d) (a.eval (.tmp d))
  by_cases hw : ∃ j, j < n ∧ Qbh ops j = some d
  ·obtain ⟨i, hi, hd⟩ := hw
   exact (pE M ws ρ).any (Qf1 hσ hi hd (fun p hp => by cases hp))
  ·rw [hM.rest d (fun i hi _ hd => hw ⟨i, hi, hd⟩)]
   have hi : PIs M 0 w (σ d) (a1.eval (.tmp d)) := PIs.mono (h1.is d) hM.low
   have ht : (!((σ d).t == 0 || ((σ d).t == 1 || ((σ d).t == 4 || (σ d).t == 6)))) = false := h1.nw d
   generalize σ d = x at hi ht ⊢
   generalize a1.eval (.tmp d) = v at hi ⊢
   obtain ⟨t, k, r, l, s, i⟩ := x
   simp at ht
   by_cases e0 : t = 0
   ·subst e0; exact hi
   by_cases e1 : t = 1
   ·subst e1; exact hi
   by_cases e4 : t = 4
   ·subst e4
    obtain ⟨fb, h2, h3⟩ : ∃ b, v = pv b ∧ Blk w b 85 M.fx := hi
    exact ⟨fb, h2, h3.setOther (a := ⟨M.m, 21 + j, none⟩) (Qap h3 hmo (by decide)) _⟩
   obtain rfl : t = 6 := by omega
   have h6 : NRel M.B w v r := hi
   exact h6.setM hmo _
theorem Qew (n j p q : Nat) (L : List Nat) (h0 : GrR w0 M.V M.g) (hT0 : Tab w0) (hm0 : w0.heap.size ≤ M.m) (hj : j < 7) (hm : Tryz.prog.follows .mixedOrders = true) (hs : ops.size = n + 1) (hok : okR ops n (n + 1) T = true) (hC : (pE M ws ρ).sucT ops (ops.toList.take n) σ = true)
  (hL : ∃ ol, ops[n]? = some ol ∧ ol.guard = none ∧ ol.dst = none ∧ ol.op = .store 43 (.tmp p) (.tmp q)) (hW : Qjd ops n = true)
  (hp : (pE M ws ρ).goT (ops.toList.take n) σ p = .at 12 j) (hq : (pE M ws ρ).goT (ops.toList.take n) σ q = .rl L) (hσ : Qfr (pE M ws ρ).isNo ops n [] σ = true)
  (fin : ∀ a w, (pE M ws (Qc8 ρ j L)).Ga T w0 σ a w → c2.wp Tryz.prog Q a w) : ∀ a w, (pE M ws ρ).Ga T w0 σ a w → ((Code.region id ops b).seq c2).wp Tryz.prog Q a w :=
 fun a w h => wp_seq (Qn7 n j p q L h0 hT0 hm0 hj hm hs hok hC hL hW hp hq hσ fin a w h)
end
def Qn8 : Nat → PV := Qbz (fun _ => .at 0 0) [(0, .at 1 0), (2, .at 4 0)]
theorem ga0 {M : Md} {ρ : Nat → Option (List Nat)} {T fb : Nat} {ws w0 w : World} {a : Act} (hl : Below w0.heap.size w0 w) (hG : PG M ρ w) (ht : Touch M.m ws w) (hf : Blk w fb 85 M.fx) (e0 : a.eval (.tmp 0) = pv M.m) (e2 : a.eval (.tmp 2) = pv fb) (hs : a.tmps.size = T) (hd : a.defers = []) : (pE M ws ρ).Ga T w0 Qn8 a w := by
 refine ⟨hl, ⟨hG, ht⟩, fun d => ?_, fun d => ?_, hs, hd⟩
 ·show PIs M 0 w (Qn8 d) _
  unfold Qn8
  rcases Qcd (σ := fun _ => PV.at 0 0) (ks := [(0, .at 1 0), (2, .at 4 0)]) (x := d) with ⟨p, h1, rfl, h3⟩ | ⟨-, h2⟩
  ·rw [h3]
   rcases List.mem_cons.1 h1 with rfl | h1
   ·exact e0
   ·obtain rfl := List.mem_singleton.1 h1
    exact ⟨fb, e2, hf⟩
  ·rw [h2]
   exact trivial
 ·unfold Qn8
  rcases Qcd (σ := fun _ => PV.at 0 0) (ks := [(0, .at 1 0), (2, .at 4 0)]) (x := d) with ⟨p, h1, rfl, h3⟩ | ⟨-, h2⟩
  ·rw [h3]
   rcases List.mem_cons.1 h1 with rfl | h1
   ·rfl
   ·obtain rfl := List.mem_singleton.1 h1
    rfl
  ·rw [h2]
   rfl
section
variable (g : Gr) (Ls : Nat → List Nat)
def wrI : List Nat := Qbg ((g.evs.length : Nat) : Int) (Qct g 2)
def rdI : List Nat := Qbg ((g.evs.length : Nat) : Int) (Qct g 1)
def feI : List Nat := Qbg ((g.evs.length : Nat) : Int) (Qct g 3)
def mrI : List Nat := Qbg ((g.evs.length : Nat) : Int) (mdL g [3, 4, 5])
def maI : List Nat := Qbg ((g.evs.length : Nat) : Int) (mdL g [2, 4, 5])
def urL : List Nat := Qal [wrI g, feI g]
def uaL : List Nat := Qal [rdI g, feI g]
def Ql1 : List Nat := Qaz (mrI g) [urL g]
def Ql2 : List Nat := Qaz (maI g) [uaL g]
def plL : List Nat := Qb9 (Ls 0) (Ls 5)
def rrL : List Nat := Qaz (Ls 1) [Ls 4]
def Qvj : List Nat := Qbr (Qa9 (rrL Ls))
def rsL : List Nat := Qaz (wrI g) [Qbr (plL Ls), wrI g, Qvj Ls]
def fpL : List Nat := Qaz (feI g) [Ls 0]
def pfL : List Nat := Qaz (Ls 0) [feI g]
def swL : List Nat := Qaz (Ql1 g) [Qbr (fpL g Ls), rsL g Ls, Ls 1, rdI g, Qbr (pfL g Ls), Ql2 g]
def uhL : List Nat := Qal [Ls 0, swL g Ls]
def hbL : List Nat := Qa9 (uhL g Ls)
def ueL : List Nat := Qal [Ls 1, Ls 2, Ls 3]
def Qdf : List Nat := Qa9 (ueL Ls)
end
theorem Qtd (M : Md) (w0 w : World) (h0 : GrR w0 M.V M.g) (hT0 : Tab w0) (hm0 : w0.heap.size ≤ M.m) (hlow : Below w0.heap.size w0 w) (hG : PG M (fun _ => none) w) :
  Calls Tryz.prog 79 #[pv M.m] w fun e w' => e = .returned (.tuple #[]) ∧ Below w0.heap.size w0 w' ∧ PG M (Qc8 (Qc8 (Qc8 (Qc8 (fun _ => none) 0 (rsL M.g M.Ls)) 1 (swL M.g M.Ls)) 2 (hbL M.g M.Ls)) 3 (Qdf M.Ls)) w' ∧ Touch M.m w w' := by
 have HL := Qa hlow
 have H0 := Qa h0
 have HT := Qa hT0
 have HM := Qa hm0
 obtain ⟨r, hmo, -⟩ := hG.mo
 have HG := Qa hG
 have C := Qa (fun j v h => hmo.cell (j := j) (v := v) h)
 clear hG hlow h0 hT0 hm0 hmo
 have c0 : w.cell? ⟨M.m, 8, none⟩ = some (pv (M.bs 0)) := C.out 8 _ rfl
 have c1 : w.cell? ⟨M.m, 9, none⟩ = some (pv (M.bs 1)) := C.out 9 _ rfl
 have c2 : w.cell? ⟨M.m, 10, none⟩ = some (pv (M.bs 2)) := C.out 10 _ rfl
 have c3 : w.cell? ⟨M.m, 11, none⟩ = some (pv (M.bs 3)) := C.out 11 _ rfl
 have c4 : w.cell? ⟨M.m, 12, none⟩ = some (pv (M.bs 4)) := C.out 12 _ rfl
 have c5 : w.cell? ⟨M.m, 13, none⟩ = some (pv (M.bs 5)) := C.out 13 _ rfl
 have c6 : w.cell? ⟨M.m, 14, none⟩ = some (pv (M.bs 6)) := C.out 14 _ rfl
 have c7 : w.cell? ⟨M.m, 15, none⟩ = some (pv (M.bs 7)) := C.out 15 _ rfl
 have c8 : w.cell? ⟨M.m, 16, none⟩ = some (pv (M.bs 8)) := C.out 16 _ rfl
 have c9 : w.cell? ⟨M.m, 17, none⟩ = some (pv (M.bs 9)) := C.out 17 _ rfl
 have c10 : w.cell? ⟨M.m, 18, none⟩ = some (.slice (some ⟨M.br, 0, none⟩) M.g.evs.length M.g.evs.length) := C.out 18 _ rfl
 have c11 : w.cell? ⟨M.m, 19, none⟩ = some (.slice (some ⟨M.bw, 0, none⟩) M.g.evs.length M.g.evs.length) := C.out 19 _ rfl
 have c12 : w.cell? ⟨M.m, 20, none⟩ = some (.slice (some ⟨M.bf, 0, none⟩) M.g.evs.length M.g.evs.length) := C.out 20 _ rfl
 go_enter Tryz.func79, Tryz.ntmps79
 go_upto_region 1 with fail
 rename_i hK
 clear c0 c1 c2 c3 c4 c5 c6 c7 c8 c9 c10 c11 c12 C
 have hb : Below w.heap.size w (w.alloc (.cells M.fx 85)) := (Below.refl _ _).alloc (Nat.le_refl _) _
 refine Eng.reg_keep (E := pE M w (fun _ => none)) (T := 118) (w0 := w0) (σ := Qn8) [(3, .rl (wrI M.g)), (4, .rl (rdI M.g)), (5, .rl (feI M.g))] (by as_aux_lemma => kernel_rfl) (by as_aux_lemma => kernel_rfl) (by as_aux_lemma => kernel_rfl) (Qcq (fun _ _ => rfl) _ _ _) (by as_aux_lemma => kernel_rfl) (by as_aux_lemma => kernel_rfl) (by as_aux_lemma => kernel_rfl) (fun a' w' h' => hK a' w' ?_) _ _ (ga0 (T := 118) (HL.out.trans (hb.mono HL.out.size)) (HG.out.mono hb) (Touch.of_below hb) (Blk.new w 85 M.fx) rfl rfl rfl rfl)
 revert a' w' h'
 refine Eng.reg_seq [(6, .rl (Ql1 M.g))] (by as_aux_lemma => kernel_rfl) (by as_aux_lemma => kernel_rfl) (by as_aux_lemma => kernel_rfl) (Qcq (fun _ _ => rfl) _ _ _) (by as_aux_lemma => kernel_rfl) (by as_aux_lemma => kernel_rfl) (by as_aux_lemma => kernel_rfl) ?_
 refine Eng.reg_seq [(7, .rl (Ql2 M.g))] (by as_aux_lemma => kernel_rfl) (by as_aux_lemma => kernel_rfl) (by as_aux_lemma => kernel_rfl) (Qcq (fun _ _ => rfl) _ _ _) (by as_aux_lemma => kernel_rfl) (by as_aux_lemma => kernel_rfl) (by as_aux_lemma => kernel_rfl) ?_
 refine Qew 21 0 62 59 (rsL M.g M.Ls) H0.out HT.out HM.out (by decide) (by as_aux_lemma => kernel_rfl) rfl (by as_aux_lemma => kernel_rfl) (by as_aux_lemma => kernel_rfl) ⟨_, rfl, rfl, rfl, rfl⟩ (by as_aux_lemma => kernel_rfl) (by as_aux_lemma => kernel_rfl) (by as_aux_lemma => kernel_rfl) (by as_aux_lemma => kernel_rfl) ?_
 refine Qew 28 1 90 87 (swL M.g M.Ls) H0.out HT.out HM.out (by decide) (by as_aux_lemma => kernel_rfl) rfl (by as_aux_lemma => kernel_rfl) (by as_aux_lemma => kernel_rfl) ⟨_, rfl, rfl, rfl, rfl⟩ (by as_aux_lemma => kernel_rfl) (by as_aux_lemma => kernel_rfl) (by as_aux_lemma => kernel_rfl) (by as_aux_lemma => kernel_rfl) ?_
 refine Qew 14 2 104 101 (hbL M.g M.Ls) H0.out HT.out HM.out (by decide) (by as_aux_lemma => kernel_rfl) rfl (by as_aux_lemma => kernel_rfl) (by as_aux_lemma => kernel_rfl) ⟨_, rfl, rfl, rfl, rfl⟩ (by as_aux_lemma => kernel_rfl) (by as_aux_lemma => kernel_rfl) (by as_aux_lemma => kernel_rfl) (by as_aux_lemma => kernel_rfl) ?_
 refine Qn7 13 3 117 114 (Qdf M.Ls) H0.out HT.out HM.out (by decide) (by as_aux_lemma => kernel_rfl) rfl (by as_aux_lemma => kernel_rfl) (by as_aux_lemma => kernel_rfl) ⟨_, rfl, rfl, rfl, rfl⟩ (by as_aux_lemma => kernel_rfl) (by as_aux_lemma => kernel_rfl) (by as_aux_lemma => kernel_rfl) (by as_aux_lemma => kernel_rfl) ?_
 intro a w h
 exact ⟨h.df, .tuple #[], by kernel_rfl, rfl, h.low, h.g.1, h.g.2⟩
section
variable (g : Gr) (Ls : Nat → List Nat) (H C : List Nat)
def scI : List Nat := Qbg ((g.evs.length : Nat) : Int) (mdL g [5])
def rwL : List Nat := Qal [rdI g, wrI g]
def acL : List Nat := Qaz (scI g) [rwL g]
def fsL : List Nat := Qaz (scI g) [feI g]
def apL : List Nat := Qcj (Ls 0) (Ls 5)
def ahL : List Nat := Qaz (apL Ls) [H, apL Ls]
def hsL : List Nat := Qb9 H (Ls 5)
def Qha : List Nat := Qal [Ls 0, ahL Ls H, hsL Ls H, Ls 2, Ls 3]
def fhL : List Nat := Qaz (fsL g) [Qbr H]
def Qz9 : List Nat := Qal [acL g, fhL g H]
def hfL : List Nat := Qaz (Qbr H) [fsL g]
def QA : List Nat := Qal [acL g, hfL g H]
def Qfq : List Nat := Qaz (Qz9 g H) [Qha Ls H, QA g H]
def QAa : List Nat := Qaz H [C, H]
def QAb : List Nat := Qal [H, QAa H C]
def Qhb : List Nat := Qaz (fsL g) [QAb H C, fsL g]
end
abbrev Qn9 (A B H C : List Nat) : Nat → Option (List Nat) := Qc8 (Qc8 (Qc8 (Qc8 (fun _ => none) 0 A) 1 B) 2 H) 3 C
theorem Qlb (M : Md) (A B H C : List Nat) (w0 w : World) (h0 : GrR w0 M.V M.g) (hT0 : Tab w0) (hm0 : w0.heap.size ≤ M.m) (hlow : Below w0.heap.size w0 w) (hG : PG M (Qn9 A B H C) w) :
  Calls Tryz.prog 39 #[pv M.m] w fun e w' => e = .returned (.tuple #[]) ∧ Below w0.heap.size w0 w' ∧ PG M (Qc8 (Qc8 (Qc8 (Qn9 A B H C) 4 (Qha M.Ls H)) 5 (Qfq M.g M.Ls H)) 6 (Qhb M.g H C)) w' ∧ Touch M.m w w' := by
 have HL := Qa hlow
 have H0 := Qa h0
 have HT := Qa hT0
 have HM := Qa hm0
 obtain ⟨r, hmo, -⟩ := hG.mo
 have HG := Qa hG
 have C := Qa (fun j v h => hmo.cell (j := j) (v := v) h)
 clear hG hlow h0 hT0 hm0 hmo
 have c0 : w.cell? ⟨M.m, 8, none⟩ = some (pv (M.bs 0)) := C.out 8 _ rfl
 have c1 : w.cell? ⟨M.m, 9, none⟩ = some (pv (M.bs 1)) := C.out 9 _ rfl
 have c2 : w.cell? ⟨M.m, 10, none⟩ = some (pv (M.bs 2)) := C.out 10 _ rfl
 have c3 : w.cell? ⟨M.m, 11, none⟩ = some (pv (M.bs 3)) := C.out 11 _ rfl
 have c4 : w.cell? ⟨M.m, 12, none⟩ = some (pv (M.bs 4)) := C.out 12 _ rfl
 have c5 : w.cell? ⟨M.m, 13, none⟩ = some (pv (M.bs 5)) := C.out 13 _ rfl
 have c6 : w.cell? ⟨M.m, 14, none⟩ = some (pv (M.bs 6)) := C.out 14 _ rfl
 have c7 : w.cell? ⟨M.m, 15, none⟩ = some (pv (M.bs 7)) := C.out 15 _ rfl
 have c8 : w.cell? ⟨M.m, 16, none⟩ = some (pv (M.bs 8)) := C.out 16 _ rfl
 have c9 : w.cell? ⟨M.m, 17, none⟩ = some (pv (M.bs 9)) := C.out 17 _ rfl
 have c10 : w.cell? ⟨M.m, 18, none⟩ = some (.slice (some ⟨M.br, 0, none⟩) M.g.evs.length M.g.evs.length) := C.out 18 _ rfl
 have c11 : w.cell? ⟨M.m, 19, none⟩ = some (.slice (some ⟨M.bw, 0, none⟩) M.g.evs.length M.g.evs.length) := C.out 19 _ rfl
 have c12 : w.cell? ⟨M.m, 20, none⟩ = some (.slice (some ⟨M.bf, 0, none⟩) M.g.evs.length M.g.evs.length) := C.out 20 _ rfl
 go_enter Tryz.func39, Tryz.ntmps39
 go_upto_region 1 with fail
 rename_i hK
 clear c0 c1 c2 c3 c4 c5 c6 c7 c8 c9 c10 c11 c12 C
 have hb : Below w.heap.size w (w.alloc (.cells M.fx 85)) := (Below.refl _ _).alloc (Nat.le_refl _) _
 refine Eng.reg_keep (E := pE M w (Qn9 A B H C)) (T := 132) (w0 := w0) (σ := Qn8) [(3, .rl (acL M.g))] (by as_aux_lemma => kernel_rfl) (by as_aux_lemma => kernel_rfl) (by as_aux_lemma => kernel_rfl) (Qcq (fun _ _ => rfl) _ _ _) (by as_aux_lemma => kernel_rfl) (by as_aux_lemma => kernel_rfl) (by as_aux_lemma => kernel_rfl) (fun a' w' h' => hK a' w' ?_) _ _ (ga0 (T := 132) (HL.out.trans (hb.mono HL.out.size)) (HG.out.mono hb) (Touch.of_below hb) (Blk.new w 85 M.fx) rfl rfl rfl rfl)
 revert a' w' h'
 refine Eng.reg_seq [(4, .rl (fsL M.g))] (by as_aux_lemma => kernel_rfl) (by as_aux_lemma => kernel_rfl) (by as_aux_lemma => kernel_rfl) (Qcq (fun _ _ => rfl) _ _ _) (by as_aux_lemma => kernel_rfl) (by as_aux_lemma => kernel_rfl) (by as_aux_lemma => kernel_rfl) ?_
 refine Eng.reg_seq [(5, .rl (apL M.Ls))] (by as_aux_lemma => kernel_rfl) (by as_aux_lemma => kernel_rfl) (by as_aux_lemma => kernel_rfl) (Qcq (fun _ _ => rfl) _ _ _) (by as_aux_lemma => kernel_rfl) (by as_aux_lemma => kernel_rfl) (by as_aux_lemma => kernel_rfl) ?_
 refine Eng.reg_seq [(6, .rl (Qbr H))] (by as_aux_lemma => kernel_rfl) (by as_aux_lemma => kernel_rfl) (by as_aux_lemma => kernel_rfl) (Qcq (fun _ _ => rfl) _ _ _) (by as_aux_lemma => kernel_rfl) (by as_aux_lemma => kernel_rfl) (by as_aux_lemma => kernel_rfl) ?_
 refine Qew 29 4 74 71 (Qha M.Ls H) H0.out HT.out HM.out (by decide) (by as_aux_lemma => kernel_rfl) rfl (by as_aux_lemma => kernel_rfl) (by as_aux_lemma => kernel_rfl) ⟨_, rfl, rfl, rfl, rfl⟩ (by as_aux_lemma => kernel_rfl) (by as_aux_lemma => kernel_rfl) (by as_aux_lemma => kernel_rfl) (by as_aux_lemma => kernel_rfl) ?_
 refine Qew 25 5 99 96 (Qfq M.g M.Ls H) H0.out HT.out HM.out (by decide) (by as_aux_lemma => kernel_rfl) rfl (by as_aux_lemma => kernel_rfl) (by as_aux_lemma => kernel_rfl) ⟨_, rfl, rfl, rfl, rfl⟩ (by as_aux_lemma => kernel_rfl) (by as_aux_lemma => kernel_rfl) (by as_aux_lemma => kernel_rfl) (by as_aux_lemma => kernel_rfl) ?_
 refine Qn7 32 6 131 128 (Qhb M.g H C) H0.out HT.out HM.out (by decide) (by as_aux_lemma => kernel_rfl) rfl (by as_aux_lemma => kernel_rfl) (by as_aux_lemma => kernel_rfl) ⟨_, rfl, rfl, rfl, rfl⟩ (by as_aux_lemma => kernel_rfl) (by as_aux_lemma => kernel_rfl) (by as_aux_lemma => kernel_rfl) (by as_aux_lemma => kernel_rfl) ?_
 intro a w h
 exact ⟨h.df, .tuple #[], by kernel_rfl, rfl, h.low, h.g.1, h.g.2⟩
theorem Qxm {n : Nat} {F : Nat → Nat → Bool} {L M : List Nat} (h1 : TwR n F L) (h2 : TwR n F M) (w1 : WF L.length L) (w2 : WF M.length M) : L = M := by
 refine List.ext_getElem (by rw [h1.len, h2.len]) (fun i hi hj => ?_)
 have e1 : L[i] = gr L i := by have := Qbi hi; rw [List.getElem?_eq_getElem hi] at this; exact Option.some.inj this
 have e2 : M[i] = gr M i := by have := Qbi hj; rw [List.getElem?_eq_getElem hj] at this; exact Option.some.inj this
 rw [e1, e2]
 refine Nat.eq_of_testBit_eq (fun q => ?_)
 by_cases hq : q < n
 ·rw [← h1.same i q (by rw [← h1.len]; exact hi) hq, ← h2.same i q (by rw [← h2.len]; exact hj) hq]
 ·have f1 : (gr L i).testBit q = false := by
   cases e : (gr L i).testBit q
   ·rfl
   ·exact absurd (w1.low i q e) (by rw [h1.len]; exact hq)
  have f2 : (gr M i).testBit q = false := by
   cases e : (gr M i).testBit q
   ·rfl
   ·exact absurd (w2.low i q e) (by rw [h2.len]; exact hq)
  rw [f1, f2]
def Qo (f : Nat → Bool) : Nat → Nat
 | 0 => 0
 | k + 1 => Qay (Qo f k) k (f k)
theorem Qj8 (f : Nat → Bool) (k q : Nat) : (Qo f k).testBit q = (decide (q < k) && f q) := by
 induction k with
 | zero => simp [Qo]
 | succ k ih =>
  rw [Qo, Qca, ih]
  by_cases h : q = k
  ·subst h; simp
  ·rw [if_neg h]
   by_cases h2 : q < k
   ·rw [decide_eq_true h2, decide_eq_true (show q < k + 1 by omega)]
   ·rw [decide_eq_false h2, decide_eq_false (show ¬ q < k + 1 by omega)]
def Qd0 (n : Nat) (F : Nat → Nat → Bool) : List Nat := (List.range n).map (fun p => Qo (F p) n)
theorem Qbb (n : Nat) (F : Nat → Nat → Bool) : (Qd0 n F).length = n := by simp [Qd0]
theorem Qt6 (n : Nat) (F : Nat → Nat → Bool) {p : Nat} (hp : p < n) : gr (Qd0 n F) p = Qo (F p) n := Qgb (by simp [Qd0, hp])
theorem Qrb (n : Nat) (F : Nat → Nat → Bool) : TwR n F (Qd0 n F) := ⟨Qbb n F, fun p q hp hq => by rw [Qt6 n F hp, Qj8, decide_eq_true hq, Bool.true_and]⟩
theorem Qff (n : Nat) (F : Nat → Nat → Bool) : WF n (Qd0 n F) := by
 refine ⟨Qbb n F, fun p q h => ?_⟩
 have hp := Qbf h
 rw [Qbb] at hp
 unfold hs at h
 rw [Qt6 n F hp, Qj8, Bool.and_eq_true, decide_eq_true_iff] at h
 exact h.1
theorem Qex {w : World} {b c n : Nat} {L : List Nat} {F : Nat → Nat → Bool} (hr : IsRel w b c L) (ht : TwR n F L) : L = Qd0 n F :=
 Qxm ht (Qrb n F) (Qyj hr) (by rw [Qbb]; exact Qff n F)
theorem Rels.at_ {w : World} {E : List (Nat × Nat × List Nat)} (h : Rels w E) {b c : Nat} {L : List Nat} (hx : (b, c, L) ∈ E) : IsRel w b c L := h _ hx
def LG (g : Gr) : Nat → List Nat
 | 0 => Qd0 g.evs.length (poB g.evs)
 | 1 => Qd0 g.evs.length (Qbm g.rf)
 | 2 => Qd0 g.evs.length (coB g)
 | 3 => Qd0 g.evs.length (frB g)
 | 4 => Qd0 g.evs.length (Qbm g.rmw)
 | 5 => Qd0 g.evs.length (Qdw g.evs)
 | 6 => Qd0 g.evs.length (Qj0 g.evs)
 | 7 => Qd0 g.evs.length (Qbm g.addr)
 | 8 => Qd0 g.evs.length (Qbm g.dat)
 | _ => Qd0 g.evs.length (Qbm g.ctrl)
def Qh7 (f : Nat → List Int) : Nat → List Int
 | 0 => []
 | k + 1 => if (Qh7 f k).isEmpty then f k else Qh7 f k
theorem Qge {f : Nat → List Int} : ∀ {k : Nat}, (∀ a, a < k → f a = []) → Qh7 f k = []
 | 0, _ => rfl
 | k + 1, h => by rw [Qh7, Qge (fun a ha => h a (by omega))]; exact h k (by omega)
theorem Qgf {f : Nat → List Int} {i : Nat} (h : ∀ a, a < i → f a = []) (hi : f i ≠ []) : ∀ {k : Nat}, i < k → Qh7 f k = f i
 | 0, hk => by omega
 | k + 1, hk => by
  rw [Qh7]
  by_cases e : i = k
  ·subst e
   rw [Qge h]
   rfl
  ·rw [Qgf h hi (k := k) (by omega)]
   cases hf : f i with
   | nil => exact absurd hf hi
   | cons x t => rfl
def Qg2 (H E : List Nat) (a b : Nat) : List Int := if Qci H ((a : Nat) : Int) ((b : Nat) : Int) && Qci E ((b : Nat) : Int) ((a : Nat) : Int) then [((a : Nat) : Int), ((b : Nat) : Int)] else []
def Qi8 (H E : List Nat) (n a : Nat) : List Int := if Qci H ((a : Nat) : Int) ((a : Nat) : Int) then [((a : Nat) : Int)] else Qh7 (Qg2 H E a) n
def Qhq (H E : List Nat) : List Int := Qh7 (Qi8 H E H.length) H.length
def Qkw (B : List Nat) (p : Int × Int) : List Int := if Qci B p.1 p.2 then [p.1, p.2] else []
def Qq (B : List Nat) (l : List (Int × Int)) (i : Nat) : List Int := Qkw B (l.getD i (0, 0))
def Qkx (B : List Nat) (l : List (Int × Int)) : List Int := Qh7 (Qq B l) l.length
def Ql3 (g : Gr) : List Nat := Qal [Qfq g (LG g) (hbL g (LG g)), Qhb g (hbL g (LG g)) (Qdf (LG g))]
def Qoa (g : Gr) : List Nat := Qal [LG g 0, LG g 1]
def Qh8 (g : Gr) : List Int := Qhq (hbL g (LG g)) (Qdf (LG g))
def Qj9 (g : Gr) : List Int := Qkx (Qbd (LG g 3) (LG g 2)) g.rmw
def upI (l : List Nat) : List Int := l.map (fun x => ((x : Nat) : Int))
def Qvk (g : Gr) (ax : Int) (l : List Int) : Prop :=
 (Qh8 g ≠ [] ∧ ax = 1 ∧ l = Qh8 g) ∨ (Qh8 g = [] ∧ Qj9 g ≠ [] ∧ ax = 2 ∧ l = Qj9 g) ∨
 (Qh8 g = [] ∧ Qj9 g = [] ∧ ∃ o3, Qej (Ql3 g) o3 ∧ ((o3 ≠ [] ∧ ax = 3 ∧ l = upI o3) ∨ (o3 = [] ∧ ∃ o4, Qej (Qoa g) o4 ∧ ((o4 ≠ [] ∧ ax = 4 ∧ l = upI o4) ∨ (o4 = [] ∧ ax = 0 ∧ l = [])))))
def Qf9 (g : Gr) (ax : Int) (l : List Int) (e : Int) : Prop := ((chk g false).1 ≠ 0 ∧ ax = 0 ∧ l = [] ∧ e = 4) ∨ ((chk g false).1 = 0 ∧ e = 0 ∧ Qvk g ax l)
def KeptN (g : Gr) (i : Nat) : Prop := (0 < i → Qh8 g = []) ∧ (1 < i → Qj9 g = []) ∧ (2 < i → Qej (Ql3 g) []) ∧ (3 < i → Qej (Qoa g) [])
def Brk (g : Gr) (i : Nat) (l : List Int) : Prop := (i = 0 → l = Qh8 g) ∧ (i = 1 → l = Qj9 g) ∧ (i = 2 → ∃ o, Qej (Ql3 g) o ∧ l = upI o) ∧ (i = 3 → ∃ o, Qej (Qoa g) o ∧ l = upI o)
theorem Qt7 {o : List Nat} (h : upI o = []) : o = [] := by
 cases o with
 | nil => rfl
 | cons x t => simp [upI] at h
theorem KeptN.zero (g : Gr) : KeptN g 0 := ⟨fun h => absurd h (by omega), fun h => absurd h (by omega), fun h => absurd h (by omega), fun h => absurd h (by omega)⟩
theorem KeptN.next {g : Gr} {i : Nat} (h : KeptN g i) (hi : i < 4) (hb : Brk g i []) : KeptN g (i + 1) := by
 obtain ⟨h0, h1, h2, h3⟩ := h
 obtain ⟨b0, b1, b2, b3⟩ := hb
 refine ⟨fun _ => ?_, fun _ => ?_, fun _ => ?_, fun _ => ?_⟩
 ·by_cases e : i = 0
  ·exact (b0 e).symm
  ·exact h0 (by omega)
 ·by_cases e : i = 1
  ·exact (b1 e).symm
  ·exact h1 (by omega)
 ·by_cases e : i = 2
  ·obtain ⟨o, ho, he⟩ := b2 e
   rw [Qt7 he.symm] at ho
   exact ho
  ·exact h2 (by omega)
 ·have e : i = 3 := by omega
  obtain ⟨o, ho, he⟩ := b3 e
  rw [Qt7 he.symm] at ho
  exact ho
theorem KeptN.told {g : Gr} {i : Nat} (h : KeptN g i) (hi : i < 4) {l : List Int} (hb : Brk g i l) (hl : l ≠ []) : Qvk g (((i : Nat) : Int) + 1) l := by
 obtain ⟨h0, h1, h2, h3⟩ := h
 obtain ⟨b0, b1, b2, b3⟩ := hb
 match i, hi with
 | 0, _ => exact .inl ⟨by rw [← b0 rfl]; exact hl, rfl, b0 rfl⟩
 | 1, _ => exact .inr (.inl ⟨h0 (by omega), by rw [← b1 rfl]; exact hl, rfl, b1 rfl⟩)
 | 2, _ =>
  obtain ⟨o, ho, he⟩ := b2 rfl
  exact .inr (.inr ⟨h0 (by omega), h1 (by omega), o, ho, .inl ⟨fun e => hl (by rw [he, e]; rfl), rfl, he⟩⟩)
 | 3, _ =>
  obtain ⟨o, ho, he⟩ := b3 rfl
  exact .inr (.inr ⟨h0 (by omega), h1 (by omega), [], h2 (by omega), .inr ⟨rfl, o, ho, .inl ⟨fun e => hl (by rw [he, e]; rfl), rfl, he⟩⟩⟩)
theorem KeptN.all {g : Gr} (h : KeptN g 4) : Qvk g 0 [] :=
 .inr (.inr ⟨h.1 (by omega), h.2.1 (by omega), [], h.2.2.1 (by omega), .inr ⟨rfl, [], h.2.2.2 (by omega), .inr ⟨rfl, rfl, rfl⟩⟩⟩)
theorem Qt8 (l : List Nat) : Qaj (upI l) = Qcz l := by simp [Qaj, upI, Qcz]
theorem Qvl {W : World} {base s : Nat} {x : Int} (h : Blk W s 3 #[.int .i64 x]) (hb : base ≤ s) : W.ownsRow base 3 1 (.slice (some ⟨s, 0, none⟩) 1 1) ([x] : List Int).length (Qaj [x]) :=
 ⟨by simp [Qaj], .inr ⟨s, 1, _, rfl, hb, h, Nat.le_refl _, by decide, by simp, by simp [Qaj]⟩⟩
theorem QB1 {W : World} {base s : Nat} {x y : Int} (h : Blk W s 3 #[.int .i64 x, .int .i64 y]) (hb : base ≤ s) : W.ownsRow base 3 1 (.slice (some ⟨s, 0, none⟩) 2 2) ([x, y] : List Int).length (Qaj [x, y]) :=
 ⟨by simp [Qaj], .inr ⟨s, 2, _, rfl, hb, h, Nat.le_refl _, by decide, by simp, by simp [Qaj]⟩⟩
structure Mdl (w0 : World) (V : GrV) (g : Gr) (m : Nat) (bs : Nat → Nat) (br bw bf : Nat) (wk : World) : Prop where
 hm : w0.heap.size ≤ m
 low : Below w0.heap.size w0 wk
 pg : PG ⟨m, w0.heap.size, V, g, bs, br, bw, bf, LG g⟩ (Qn9 (rsL g (LG g)) (swL g (LG g)) (hbL g (LG g)) (Qdf (LG g))) wk
section
variable {w0 wk wk' : World} {V : GrV} {g : Gr} {m : Nat} {bs : Nat → Nat} {br bw bf : Nat}
theorem Mdl.below (h : Mdl w0 V g m bs br bw bf wk) (hb : Below wk.heap.size wk wk') : Mdl w0 V g m bs br bw bf wk' := ⟨h.hm, Qaa h.low h.low.size hb, h.pg.mono hb⟩
theorem Mdl.ne (h : Mdl w0 V g m bs br bw bf wk) {b : Nat} {t : TypeId} {cs : Array Value} (hb : Blk wk b t cs) (ht : t ≠ 87) : b ≠ m := by
 obtain ⟨r, hmo, -⟩ := h.pg.mo
 exact Qap hb hmo ht
end
theorem Qm5 {P : Program} {ops : Array Oper} {rest : List Oper} {o : Oper} {a : Act} {w : World} {Q : Exit → Act → World → Prop} (hg : o.guard = none) (t : TypeId) (parts : Array (Nat × Operand)) (ho : o.op = .build t parts)
  (d : Option Tmp) (hd : o.dst = d) (cells : Array Value) (hf : P.built t (parts.map fun (i, x) => (i, a.eval x)).toList = some cells)
  (h : wpList P ops Q rest (a.put d (.agg cells)) w) : wpList P ops Q (o :: rest) a w := by
 subst hd
 refine wpList_build hg t parts ho (by rw [hf]; rfl) ?_
 rw [hf]
 exact h
theorem QAc {g : Gr} {B : Nat} {v : Nat → Value} {f : Value} {lv : Nat → Nat} {w : World} (h : DerAt g B v f lv w) : ∃ (bs : Nat → Nat) (br bw bf : Nat), Qhf v f = fxC g.evs.length bs br bw bf ∧ (∀ i, i < 10 → NRel B w (pv (bs i)) (LG g i)) ∧
  Blk w br 4 (Qao (Qct g 1)) ∧ Blk w bw 4 (Qao (Qct g 2)) ∧ Blk w bf 4 (Qao (Qct g 3)) := by
 obtain ⟨b0, c0, L0, e0, r0, t0, x0, y0, -, -⟩ := (h.res 0 (by omega)).rel (by omega)
 obtain ⟨b1, c1, L1, e1, r1, t1, x1, y1, -, -⟩ := (h.res 1 (by omega)).rel (by omega)
 obtain ⟨b2, c2, L2, e2, r2, t2, x2, y2, -, -⟩ := (h.res 2 (by omega)).rel (by omega)
 obtain ⟨b3, c3, L3, e3, r3, t3, x3, y3, -, -⟩ := (h.res 3 (by omega)).rel (by omega)
 obtain ⟨b4, c4, L4, e4, r4, t4, x4, y4, -, -⟩ := (h.res 4 (by omega)).rel (by omega)
 obtain ⟨b5, c5, L5, e5, r5, t5, x5, y5, -, -⟩ := (h.res 5 (by omega)).rel (by omega)
 obtain ⟨b6, c6, L6, e6, r6, t6, x6, y6, -, -⟩ := (h.res 6 (by omega)).rel (by omega)
 obtain ⟨b7, c7, L7, e7, r7, t7, x7, y7, -, -⟩ := (h.res 7 (by omega)).rel (by omega)
 obtain ⟨b8, c8, L8, e8, r8, t8, x8, y8, -, -⟩ := (h.res 8 (by omega)).rel (by omega)
 obtain ⟨b9, c9, L9, e9, r9, t9, x9, y9, -, -⟩ := h.fr
 obtain ⟨d1, f1, k1, _⟩ := (h.res 9 (by omega)).tru (by omega)
 obtain ⟨d2, f2, k2, _⟩ := (h.res 10 (by omega)).tru (by omega)
 obtain ⟨d3, f3, k3, _⟩ := (h.res 11 (by omega)).tru (by omega)
 rw [Qie] at f1 f2 f3
 have lo : ∀ i, i < 14 → B ≤ lv i := by
  intro i
  induction i with
  | zero => intro _; exact h.bot
  | succ i ih => intro hi; exact Nat.le_trans (ih (by omega)) (h.mono i (by omega))
 have q0 : L0 = LG g 0 := Qex r0 t0
 have q1 : L1 = LG g 1 := Qex r1 t1
 have q2 : L2 = LG g 2 := Qex r2 t2
 have q3 : L3 = LG g 4 := Qex r3 t3
 have q4 : L4 = LG g 5 := Qex r4 t4
 have q5 : L5 = LG g 6 := Qex r5 t5
 have q6 : L6 = LG g 7 := Qex r6 t6
 have q7 : L7 = LG g 8 := Qex r7 t7
 have q8 : L8 = LG g 9 := Qex r8 t8
 have q9 : L9 = LG g 3 := Qex r9 t9
 rw [q0] at r0
 rw [q1] at r1
 rw [q2] at r2
 rw [q3] at r3
 rw [q4] at r4
 rw [q5] at r5
 rw [q6] at r6
 rw [q7] at r7
 rw [q8] at r8
 rw [q9] at r9
 refine ⟨fun i => [b0, b1, b2, b9, b3, b4, b5, b6, b7, b8].getD i 0, d1, d2, d3, ?_, fun i hi => ?_, k1, k2, k3⟩
 ·unfold Qhf fxC
  rw [e0, e1, e2, e3, e4, e5, e6, e7, e8, e9, f1, f2, f3]
  rfl
 ·match i, hi with
  | 0, _ => exact ⟨b0, c0, rfl, ⟨Nat.le_trans (lo 0 (by omega)) x0, Nat.le_trans (lo 0 (by omega)) y0⟩, r0⟩
  | 1, _ => exact ⟨b1, c1, rfl, ⟨Nat.le_trans (lo 1 (by omega)) x1, Nat.le_trans (lo 1 (by omega)) y1⟩, r1⟩
  | 2, _ => exact ⟨b2, c2, rfl, ⟨Nat.le_trans (lo 2 (by omega)) x2, Nat.le_trans (lo 2 (by omega)) y2⟩, r2⟩
  | 3, _ => exact ⟨b9, c9, rfl, ⟨Nat.le_trans (lo 12 (by omega)) x9, Nat.le_trans (lo 12 (by omega)) y9⟩, r9⟩
  | 4, _ => exact ⟨b3, c3, rfl, ⟨Nat.le_trans (lo 3 (by omega)) x3, Nat.le_trans (lo 3 (by omega)) y3⟩, r3⟩
  | 5, _ => exact ⟨b4, c4, rfl, ⟨Nat.le_trans (lo 4 (by omega)) x4, Nat.le_trans (lo 4 (by omega)) y4⟩, r4⟩
  | 6, _ => exact ⟨b5, c5, rfl, ⟨Nat.le_trans (lo 5 (by omega)) x5, Nat.le_trans (lo 5 (by omega)) y5⟩, r5⟩
  | 7, _ => exact ⟨b6, c6, rfl, ⟨Nat.le_trans (lo 6 (by omega)) x6, Nat.le_trans (lo 6 (by omega)) y6⟩, r6⟩
  | 8, _ => exact ⟨b7, c7, rfl, ⟨Nat.le_trans (lo 7 (by omega)) x7, Nat.le_trans (lo 7 (by omega)) y7⟩, r7⟩
  | 9, _ => exact ⟨b8, c8, rfl, ⟨Nat.le_trans (lo 8 (by omega)) x8, Nat.le_trans (lo 8 (by omega)) y8⟩, r8⟩
  | n + 10, h => omega
def Qob : Nat → Value := fun _ => .pointer none
theorem Qlc (V : GrV) (g : Gr) (w : World) (h : GrR w V g) (hF : Frm w) (hT : Tab w) :
  Calls Tryz.prog 37 #[V.val g] w fun e w' => ((chk g false).1 ≠ 0 ∧ e = .returned (.tuple #[.pointer none, .int .i64 4]) ∧ Below w.heap.size w w') ∨ ((chk g false).1 = 0 ∧ ∃ m bs br bw bf, e = .returned (.tuple #[pv m, .int .i64 0]) ∧ Mdl w V g m bs br bw bf w') := by
 have hg0 := Blk.new w 27 (V.gs g)
 have hB0 : Below w.heap.size w (w.alloc (.cells (V.gs g) 27)) := (Below.refl _ _).alloc (Nat.le_refl _) _
 have e1 : w.alloc (.cells (V.gs g) 27) = w.alloc (.cells #[.int .i64 g.cells, V.ev, V.rf, V.co, V.rmw, V.addr, V.dat, V.ctrl] 27) := rfl
 rw [e1] at hB0 hg0
 have HV := Qa h
 have HF := Qa hF
 have HT := Qa hT
 have HB0 := Qa hB0
 have HG0 := Qa hg0
 unfold GrV.val
 clear h hF hT hB0 hg0 e1
 go_enter Tryz.func37, Tryz.ntmps37
 go_upto_region 1 with fail
 generalize w.alloc (.cells #[.int .i64 g.cells, V.ev, V.rf, V.co, V.rmw, V.addr, V.dat, V.ctrl] 27) = W0 at *
 have D1 := Qa (Qkg V g false W0 (HV.out.below HB0.out) (HF.out.step HB0.out))
 obtain ⟨x1, hx1⟩ : ∃ x, (chk g false).1 = x := ⟨_, rfl⟩
 obtain ⟨y1, hy1⟩ : ∃ x, (chk g false).2 = x := ⟨_, rfl⟩
 rw [hx1, hy1] at D1
 have HX1 := Qa hx1
 clear hx1 hy1
 go_wp2_with (first | refine wpList_load_row rfl 27 _ rfl w.heap.size rfl 27 (V.gs g) (0, 0) _ HG0.out Tryz.underlying27 rfl (by kernel_rfl) ?_)
 refine D1.out.mono ?_
 rintro e w1 ⟨rfl, hB1⟩
 have HB1 : Hid (Below w.heap.size w w1) := Qaa HB0.out HB0.out.size hB1
 have HG1 := Qa (HG0.out.of_below hB1)
 clear hB1 D1 HG0
 by_cases hx0 : x1 = 0
 ·subst hx0
  have hwf : wfB g = true := by unfold wfB; rw [HX1.out]; rfl
  have D3 := Qa (Qp3 V g w1 (HV.out.below HB1.out) (HF.out.step HB1.out) (HT.out.step' HB1.out))
  go_wp2_with (first | refine wpList_load_row rfl 27 _ rfl w.heap.size rfl 27 (V.gs g) (0, 0) _ HG1.out Tryz.underlying27 rfl (by kernel_rfl) ?_)
  refine D3.out.mono ?_
  rintro e w3 (⟨_, v, f, lo, rfl, hD, hB3⟩ | ⟨hf, _⟩)
  case inr => rw [hwf] at hf; cases hf
  clear D3 hwf
  have HB3 : Hid (Below w.heap.size w w3) := Qaa HB1.out HB1.out.size hB3
  have HG3 := Qa (HG1.out.of_below hB3)
  have hall := Qmd hD.res f hD.fr.one
  obtain ⟨bs, br, bw, bf, eO, hE, hrd, hwt, hfe⟩ := QAc hD
  have hE := fun i (hi : i < 10) => (hE i hi).lo HB1.out.size
  rw [eO] at hall ⊢
  clear eO hD hB3 HG1
  have hz := Blk.new w3 85 nilF
  have hB4 : Below w3.heap.size w3 ((w3.alloc (.cells nilF 85)).setRow w3.heap.size (fxC g.evs.length bs br bw bf)) := ((Below.refl w3.heap.size w3).alloc (Nat.le_refl _) _).trans (Qa6 _ (Nat.le_refl _))
  have HFB := Qa (hz.setRow' (fxC g.evs.length bs br bw bf))
  go_upto_region 5 with (first | refine wpList_store_row rfl 85 _ _ rfl w3.heap.size (fxC g.evs.length bs br bw bf) rfl rfl 85 nilF hz (by kernel_rfl) rfl hall ?_)
  have HB4 : Hid (Below w.heap.size w ((w3.alloc (.cells nilF 85)).setRow w3.heap.size (fxC g.evs.length bs br bw bf))) := Qaa HB3.out HB3.out.size hB4
  have HG4 := Qa (HG3.out.of_below hB4)
  have HE := Qa (fun i (hi : i < 10) => (hE i hi).below hB4)
  have HRD := Qa (hrd.of_below hB4)
  have HWT := Qa (hwt.of_below hB4)
  have HFE := Qa (hfe.of_below hB4)
  clear hz hB4 hall hE hrd hwt hfe HB3 HG3 HB1
  generalize (w3.alloc (.cells nilF 85)).setRow w3.heap.size (fxC g.evs.length bs br bw bf) = w4 at *
  generalize w3.heap.size = fb at *
  go_wp2_with (first | refine wpList_load_row rfl 27 _ rfl w.heap.size rfl 27 (V.gs g) (0, 0) _ HG4.out Tryz.underlying27 rfl (by kernel_rfl) ?_ | refine wpList_load_row rfl 85 _ rfl fb rfl 85 (fxC g.evs.length bs br bw bf) (0, 0) _ HFB.out Tryz.underlying85 rfl (by kernel_rfl) ?_ | refine Qm5 rfl 87 _ rfl _ rfl (moC V g bs br bw bf Qob) (by kernel_rfl) ?_)
  have hmo := Blk.new w4 87 (moC V g bs br bw bf Qob)
  have hB5 : Below w4.heap.size w4 (w4.alloc (.cells (moC V g bs br bw bf Qob) 87)) := (Below.refl _ _).alloc (Nat.le_refl _) _
  have HB5 : Hid (Below w.heap.size w (w4.alloc (.cells (moC V g bs br bw bf Qob) 87))) := Qaa HB4.out HB4.out.size hB5
  have HE5 := Qa (fun i (hi : i < 10) => (HE.out i hi).below hB5)
  have HRD5 := Qa (HRD.out.of_below hB5)
  have HWT5 := Qa (HWT.out.of_below hB5)
  have HFE5 := Qa (HFE.out.of_below hB5)
  have HMO := Qa hmo
  have hsz : w.heap.size ≤ w4.heap.size := HB4.out.size
  clear hmo hB5 HE HRD HWT HFE HB4 HG4 HFB
  generalize w4.alloc (.cells (moC V g bs br bw bf Qob) 87) = w5 at *
  generalize w4.heap.size = m at *
  have HPG : Hid (PG ⟨m, w.heap.size, V, g, bs, br, bw, bf, LG g⟩ (fun _ => none) w5) := ⟨HT.out.step' HB5.out, HV.out.below HB5.out, ⟨Qob, HMO.out, fun j L h => by cases h⟩, HRD5.out, HWT5.out, HFE5.out, HE5.out, HB5.out.size⟩
  refine (Qtd ⟨m, w.heap.size, V, g, bs, br, bw, bf, LG g⟩ w w5 HV.out HT.out hsz HB5.out HPG.out).mono ?_
  rintro e w6 ⟨rfl, hB6, hG6, -⟩
  have HB6 := Qa hB6
  have HG6 := Qa hG6
  clear hB6 hG6 HPG
  go_wp2_with fail
  go_ret2
  exact .inr ⟨HX1.out, m, bs, br, bw, bf, rfl, hsz, HB6.out, HG6.out⟩
 ·have q0 : ((x1 : Int) != 0) = true := by simpa using hx0
  go_wp2_with fail
  go_ret2
  exact .inl ⟨by rw [HX1.out]; exact hx0, rfl, HB1.out⟩
def RL (g : Gr) : Nat → List Nat
 | 0 => rsL g (LG g)
 | 1 => swL g (LG g)
 | 2 => hbL g (LG g)
 | 3 => Qdf (LG g)
 | 4 => Qha (LG g) (hbL g (LG g))
 | 5 => Qfq g (LG g) (hbL g (LG g))
 | _ => Qhb g (hbL g (LG g)) (Qdf (LG g))
def Qgp : Array Value := #[.pointer none, .pointer none, .pointer none, .pointer none, .pointer none, .pointer none, .pointer none]
def fcC (ks : Nat → Nat) : Array Value := #[pv (ks 0), pv (ks 1), pv (ks 2), pv (ks 3), pv (ks 4), pv (ks 5), pv (ks 6)]
theorem Qim (V : GrV) (g : Gr) (w : World) (h : GrR w V g) (hF : Frm w) (hT : Tab w) :
  Calls Tryz.prog 17 #[V.val g] w fun e w' => ((chk g false).1 ≠ 0 ∧ e = .returned (.tuple #[.agg Qgp, .int .i64 4]) ∧ Below w.heap.size w w') ∨ ((chk g false).1 = 0 ∧ ∃ ks ls : Nat → Nat, e = .returned (.tuple #[.agg (fcC ks), .int .i64 0]) ∧ (∀ i, i < 7 → IsRel w' (ks i) (ls i) (RL g i) ∧ w.heap.size ≤ ks i ∧ w.heap.size ≤ ls i) ∧ Below w.heap.size w w') := by
 have hg0 := Blk.new w 27 (V.gs g)
 obtain ⟨Wa, hWa⟩ : ∃ Wa, w.alloc (.cells (V.gs g) 27) = Wa := ⟨_, rfl⟩
 rw [hWa] at hg0
 have hBa : Below w.heap.size w Wa := by rw [← hWa]; exact (Below.refl _ _).alloc (Nat.le_refl _) _
 have hsa : Wa.heap.size = w.heap.size + 1 := by rw [← hWa]; simp
 have hr0 := Blk.new Wa 45 Qgp
 have hBb : Below Wa.heap.size Wa (Wa.alloc (.cells Qgp 45)) := (Below.refl _ _).alloc (Nat.le_refl _) _
 generalize hWb : Wa.alloc (.cells Qgp 45) = W0 at *
 rw [hsa] at hr0
 have e2 : Hid ((w.alloc (.cells #[.int .i64 g.cells, V.ev, V.rf, V.co, V.rmw, V.addr, V.dat, V.ctrl] 27)).alloc (.cells #[.pointer none, .pointer none, .pointer none, .pointer none, .pointer none, .pointer none, .pointer none] 45) = W0) := by rw [Hid, ← hWb, ← hWa]; rfl
 have hB0 : Below w.heap.size w W0 := hBa.trans (hBb.mono hBa.size)
 have HV := Qa (h.below hB0)
 have HF := Qa (hF.step hB0)
 have HT := Qa (hT.step' hB0)
 have HB0 := Qa hB0
 have HG0 := Qa (hg0.of_below hBb)
 have HR0 := Qa hr0
 unfold GrV.val
 clear h hF hT hB0 hg0 hr0 hBa hBb hsa hWa hWb
 go_enter Tryz.func17, Tryz.ntmps17
 go_upto_region 1 with fail
 rw [e2.out]
 clear e2
 have hrb : Hid (w.heap.size ≤ w.heap.size + 1) := Nat.le_succ _
 generalize w.heap.size + 1 = rb at *
 go_wp2_with (first | refine wpList_load_row rfl 27 _ rfl w.heap.size rfl 27 (V.gs g) (0, 0) _ HG0.out Tryz.underlying27 rfl (by kernel_rfl) ?_)
 refine (Qlc V g W0 HV.out HF.out HT.out).mono ?_
 rintro e w1 (⟨hc, rfl, hB1⟩ | ⟨hc, m, bs, br, bw, bf, rfl, hM⟩)
 ·have hR := HR0.out.of_below hB1
  go_wp2_with (first | refine wpList_store_row rfl 45 _ _ rfl rb Qgp rfl rfl 45 _ hR (by kernel_rfl) rfl (by kernel_rfl) ?_)
  (try simp only [Exit.inBlock, Exit.then])
  refine bodyPost_ret (Qe6 rfl _ _ rb 45 Qgp (0, 0) _ rfl (hR.setRow' Qgp) Tryz.underlying45 rfl (by kernel_rfl)) rfl ?_
  exact .inl ⟨hc, rfl, (Qaa HB0.out HB0.out.size hB1).trans (Qa6 _ hrb.out)⟩
 ·have D := Qa (Qlb _ _ _ _ _ W0 w1 HV.out HT.out hM.hm hM.low hM.pg)
  have HM := Qa hM
  have HC := Qa hc
  clear hM hc HG0
  go_wp2_with fail
  refine D.out.mono ?_
  rintro e wq ⟨rfl, hl, hG, htc⟩
  obtain ⟨r, hmo, hr⟩ := hG.mo
  have HRB := Qa ((HR0.out.of_below HM.out.low).touch htc (HM.out.ne (HR0.out.of_below HM.out.low) (by decide)))
  have HL := Qa hl
  obtain ⟨k0, l0, e0, n0, r0⟩ := hr 0 _ rfl
  obtain ⟨k1, l1, e1, n1, r1⟩ := hr 1 _ rfl
  obtain ⟨k2, l2, e2, n2, r2⟩ := hr 2 _ rfl
  obtain ⟨k3, l3, e3, n3, r3⟩ := hr 3 _ rfl
  obtain ⟨k4, l4, e4, n4, r4⟩ := hr 4 _ rfl
  obtain ⟨k5, l5, e5, n5, r5⟩ := hr 5 _ rfl
  obtain ⟨k6, l6, e6, n6, r6⟩ := hr 6 _ rfl
  have rr : ∀ {b c : Nat} {L : List Nat}, IsRel wq b c L → W0.heap.size ≤ b ∧ W0.heap.size ≤ c → IsRel (wq.setRow rb #[pv k0, pv k1, pv k2, pv k3, pv k4, pv k5, pv k6]) b c L ∧ w.heap.size ≤ b ∧ w.heap.size ≤ c := fun h hn => ⟨⟨h.ne, h.head.rowOther (Qgh h.head HRB.out (by decide)) _, h.rows.rowOther (Qgh h.rows HRB.out (by decide)) _, h.len, h.low⟩, Nat.le_trans HB0.out.size hn.1, Nat.le_trans HB0.out.size hn.2⟩
  have H : Hid (∀ i, i < 7 → IsRel (wq.setRow rb #[pv k0, pv k1, pv k2, pv k3, pv k4, pv k5, pv k6]) ([k0, k1, k2, k3, k4, k5, k6].getD i 0) ([l0, l1, l2, l3, l4, l5, l6].getD i 0) (RL g i) ∧ w.heap.size ≤ [k0, k1, k2, k3, k4, k5, k6].getD i 0 ∧ w.heap.size ≤ [l0, l1, l2, l3, l4, l5, l6].getD i 0) := fun i hi => by
   match i, hi with
   | 0, _ => exact rr r0 n0
   | 1, _ => exact rr r1 n1
   | 2, _ => exact rr r2 n2
   | 3, _ => exact rr r3 n3
   | 4, _ => exact rr r4 n4
   | 5, _ => exact rr r5 n5
   | 6, _ => exact rr r6 n6
   | n + 7, h => omega
  have x0 : wq.cell? ⟨m, 21, none⟩ = some (pv k0) := by rw [← e0]; exact hmo.cell rfl
  have x1 : wq.cell? ⟨m, 22, none⟩ = some (pv k1) := by rw [← e1]; exact hmo.cell rfl
  have x2 : wq.cell? ⟨m, 23, none⟩ = some (pv k2) := by rw [← e2]; exact hmo.cell rfl
  have x3 : wq.cell? ⟨m, 24, none⟩ = some (pv k3) := by rw [← e3]; exact hmo.cell rfl
  have x4 : wq.cell? ⟨m, 25, none⟩ = some (pv k4) := by rw [← e4]; exact hmo.cell rfl
  have x5 : wq.cell? ⟨m, 26, none⟩ = some (pv k5) := by rw [← e5]; exact hmo.cell rfl
  have x6 : wq.cell? ⟨m, 27, none⟩ = some (pv k6) := by rw [← e6]; exact hmo.cell rfl
  clear hr hmo htc hG hl D HM e0 e1 e2 e3 e4 e5 e6 n0 n1 n2 n3 n4 n5 n6 r0 r1 r2 r3 r4 r5 r6 rr
  go_wp2_with (first | refine wpList_store_row rfl 45 _ _ rfl rb #[pv k0, pv k1, pv k2, pv k3, pv k4, pv k5, pv k6] rfl rfl 45 _ HRB.out (by kernel_rfl) rfl (by kernel_rfl) ?_)
  (try simp only [Exit.inBlock, Exit.then])
  refine bodyPost_ret (Qe6 rfl _ _ rb 45 #[pv k0, pv k1, pv k2, pv k3, pv k4, pv k5, pv k6] (0, 0) _ rfl (HRB.out.setRow' _) Tryz.underlying45 rfl (by kernel_rfl)) rfl ?_
  exact .inr ⟨HC.out, fun i => [k0, k1, k2, k3, k4, k5, k6].getD i 0, fun i => [l0, l1, l2, l3, l4, l5, l6].getD i 0, rfl, H.out, (Qaa HB0.out HB0.out.size HL.out).trans (Qa6 _ hrb.out)⟩
def Qh9 (L Bk : List Nat) (start : Nat) : Nat → Nat → Nat → List Nat
 | 0, _, _ => []
 | f + 1, seen, near => if near = 0 then [] else near :: (if gr L start &&& near = 0 then Qh9 L Bk start f (seen ||| near) (Qc3 (Qaq Bk (Qag near)) (seen ||| near)) else [])
theorem Qrc (L Bk : List Nat) (start : Nat) : ∀ (f seen near : Nat) (ly : List Nat), Qei L Bk start seen near ly → ly.take f = Qh9 L Bk start f seen near
 | 0, _, _, _, _ => by simp [Qh9]
 | f + 1, seen, near, [], h => by
  have h : near = 0 := h
  simp [Qh9, h]
 | f + 1, seen, near, x :: rest, h => by
  obtain ⟨h1, h2, h3, h4⟩ := h
  simp only [Qh9, if_neg h1, List.take_succ_cons, h2]
  by_cases hh : gr L start &&& near = 0
  ·rw [if_pos hh, Qrc L Bk start f _ _ rest (h3 hh)]
  ·rw [if_neg hh, h4 hh]; simp
theorem QEw {L Bk : List Nat} {start f seen near : Nat} {ly : List Nat} (h : Qei L Bk start seen near ly) (hl : (Qh9 L Bk start f seen near).length < f) : ly = Qh9 L Bk start f seen near := by
 have ht := Qrc L Bk start f seen near ly h
 rw [← ht] at hl ⊢
 rw [List.length_take] at hl
 rw [List.take_of_length_le (by omega)]
def Qrd (L : List Nat) (f : Nat) : Option (List Nat) :=
 match Qag (Qdv (Qa9 L)) with
 | [] => some []
 | s :: _ => if (Qh9 L (Qcg L) s f 0 (Qay 0 s true)).length < f then some (s :: Qcr L s (Qcf (Qh9 L (Qcg L) s f 0 (Qay 0 s true)) ((Qh9 L (Qcg L) s f 0 (Qay 0 s true)).length - 1))) else none
theorem Ql4 {L o x : List Nat} (f : Nat) (h : Qej L o) (hv : Qrd L f = some x) : o = x := by
 unfold Qrd at hv
 rcases h with ⟨e, e2⟩ | ⟨s, tl, ly, e, hly, e2⟩
 ·rw [e] at hv
  rw [e2]
  exact Option.some.inj hv
 ·rw [e] at hv
  dsimp only at hv
  split at hv
  ·rename_i hl
   have := QEw hly hl
   rw [← this] at hv
   rw [e2]
   exact Option.some.inj hv
  ·cases hv
theorem QEx {g : Gr} {a b : List Int} (hc : g.cells = 2) (ho : g.co = [a, b]) (h0 : Qa1 a 0 (wrs g 0 g.evs.length) = true) (h1 : Qa1 b 1 (wrs g 1 g.evs.length) = true) : Qdi g = -1 := by
 have k0 : Qaw g 0 = false := by
  unfold Qaw
  rw [ho]
  show (decide (2 ≤ 0) || !Qa1 a 0 (wrs g 0 g.evs.length)) = false
  rw [h0]
  rfl
 have k1 : Qaw g 1 = false := by
  unfold Qaw
  rw [ho]
  show (decide (2 ≤ 1) || !Qa1 b 1 (wrs g 1 g.evs.length)) = false
  rw [h1]
  rfl
 have h2 : Qau (Qaw g) 0 g.cells.toNat = -1 := Qa0 (fun j _ h => by
  rw [hc] at h
  have : (2 : Int).toNat = 2 := rfl
  match j, h with
  | 0, _ => exact k0
  | 1, _ => exact k1
  | j + 2, h => omega)
 unfold Qdi
 rw [if_pos h2, hc, ho]
 rfl
theorem QG8 {g : Gr} {q : Bool} {k : Nat} (h5 : Qdi g = -1) (h : ∀ j, j < k → j ≠ 4 → rl g q j = -1) : ∀ j, j < k → rl g q j = -1 := fun j hj => by
 by_cases e : j = 4
 ·rw [e]; exact h5
 ·exact h j hj e
theorem QEy {l : List Int} (h : l.Pairwise (fun x y => decide (x ≤ y) = true)) : Qdb l = l := by
 unfold Qdb
 exact List.mergeSort_of_pairwise h
theorem Qgg {l : List Int} {c : Int} (h : l.Pairwise (fun x y => decide (x ≤ y) = true)) (h0 : l.getD 0 0 = c) {ws : List Int} (hw : ws = l) : Qa1 l c ws = true := by
 subst hw
 unfold Qa1
 rw [QEy h, h0]
 simp
section
variable {g : Gr} {ax : Int} {l : List Int} {e : Int}
theorem QAd (h : Qf9 g ax l e) (hc : (chk g false).1 = 0) : e = 0 ∧ Qvk g ax l := by
 rcases h with ⟨h0, _⟩ | ⟨_, h⟩
 ·exact absurd hc h0
 ·exact h
theorem QG9 {x : List Int} (h : Qf9 g ax l e) (hc : (chk g false).1 = 0) (h1 : Qh8 g = x) (hx : x ≠ []) : ax = 1 ∧ l = x ∧ e = 0 := by
 obtain ⟨he, h⟩ := QAd h hc
 rcases h with ⟨_, a, b⟩ | ⟨h2, _⟩ | ⟨h2, _⟩
 ·exact ⟨a, b.trans h1, he⟩
 ·exact absurd (h1.symm.trans h2) hx
 ·exact absurd (h1.symm.trans h2) hx
theorem QH {x : List Nat} (f : Nat) (h : Qf9 g ax l e) (hc : (chk g false).1 = 0) (h1 : Qh8 g = []) (h2 : Qj9 g = []) (h3 : Qrd (Ql3 g) f = some x) (hx : x ≠ []) : ax = 3 ∧ l = upI x ∧ e = 0 := by
 obtain ⟨he, h⟩ := QAd h hc
 rcases h with ⟨h4, _⟩ | ⟨_, h4, _⟩ | ⟨_, _, o, ho, h5⟩
 ·exact absurd h1 h4
 ·exact absurd h2 h4
 ·have e2 := Ql4 f ho h3
  subst e2
  rcases h5 with ⟨_, a, b⟩ | ⟨a, _⟩
  ·exact ⟨a, b, he⟩
  ·exact absurd a hx
theorem QEz {x : List Nat} (f : Nat) (h : Qf9 g ax l e) (hc : (chk g false).1 = 0) (h1 : Qh8 g = []) (h2 : Qj9 g = []) (h3 : Qrd (Ql3 g) f = some []) (h4 : Qrd (Qoa g) f = some x) : ax = (if x = [] then 0 else 4) ∧ l = upI x ∧ e = 0 := by
 obtain ⟨he, h⟩ := QAd h hc
 rcases h with ⟨h5, _⟩ | ⟨_, h5, _⟩ | ⟨_, _, o, ho, h5⟩
 ·exact absurd h1 h5
 ·exact absurd h2 h5
 ·have e2 := Ql4 f ho h3
  subst e2
  rcases h5 with ⟨a, _⟩ | ⟨_, o4, ho4, h6⟩
  ·exact absurd rfl a
  ·have e3 := Ql4 f ho4 h4
   subst e3
   rcases h6 with ⟨a, b, c⟩ | ⟨a, b, c⟩
   ·rw [if_neg a]
    exact ⟨b, c, he⟩
   ·rw [if_pos a, a]
    exact ⟨b, c, he⟩
end
def Qoc (evs : List Ev) (rf : List (Int × Int)) (x y : List Int) : Gr := ⟨2, [⟨-1, 2, 0, 0, 1⟩, ⟨-1, 2, 1, 0, 1⟩] ++ evs, rf, [0 :: x, 1 :: y], [], [], [], []⟩
def Qi (w r : Int) : Gr := Qoc [⟨0, 2, 0, 1, w⟩, ⟨0, 1, 1, 0, r⟩, ⟨1, 2, 1, 1, w⟩, ⟨1, 1, 0, 0, r⟩] [(1, 3), (0, 5)] [2] [4]
def Qfb (w r : Int) : Gr := Qoc [⟨0, 2, 0, 1, 1⟩, ⟨0, 2, 1, 1, w⟩, ⟨1, 1, 1, 1, r⟩, ⟨1, 1, 0, 0, 1⟩] [(3, 4), (0, 5)] [2] [3]
theorem Qvm {g : Gr} {a b : List Int} (hc : g.cells = 2) (ho : g.co = [a, b]) (h0 : Qa1 a 0 (wrs g 0 g.evs.length) = true) (h1 : Qa1 b 1 (wrs g 1 g.evs.length) = true) (h : ∀ j, j < 9 → j ≠ 4 → rl g false j = -1) : (chk g false).1 = 0 := by
 rw [Qm (QG8 (QEx hc ho h0 h1) h)]
theorem Qxn : (chk (Qi 1 1) false).1 = 0 := Qvm rfl rfl (Qgg (by decide) rfl (by decide)) (Qgg (by decide) rfl (by decide)) (by decide)
theorem Qxo : (chk (Qi 5 5) false).1 = 0 := Qvm rfl rfl (Qgg (by decide) rfl (by decide)) (Qgg (by decide) rfl (by decide)) (by decide)
theorem Qo9 : (chk (Qfb 3 2) false).1 = 0 := Qvm rfl rfl (Qgg (by decide) rfl (by decide)) (Qgg (by decide) rfl (by decide)) (by decide)
theorem Qxp : (chk (Qfb 3 1) false).1 = 0 := Qvm rfl rfl (Qgg (by decide) rfl (by decide)) (Qgg (by decide) rfl (by decide)) (by decide)
theorem Qxq {ax : Int} {l : List Int} {e : Int} (h : Qf9 (Qi 1 1) ax l e) : ax = 0 ∧ l = [] ∧ e = 0 := QEz (x := []) 9 h Qxn (by decide +kernel) (by decide +kernel) (by decide +kernel) (by decide +kernel)
theorem Qxr {ax : Int} {l : List Int} {e : Int} (h : Qf9 (Qi 5 5) ax l e) : ax = 3 ∧ l = [2, 3, 4, 5] ∧ e = 0 := QH (x := [2, 3, 4, 5]) 9 h Qxo (by decide +kernel) (by decide +kernel) (by decide +kernel) (by decide)
theorem Qxs {ax : Int} {l : List Int} {e : Int} (h : Qf9 (Qfb 3 2) ax l e) : ax = 1 ∧ l = [2, 5] ∧ e = 0 := QG9 h Qo9 (by decide +kernel) (by decide)
theorem Qxt {ax : Int} {l : List Int} {e : Int} (h : Qf9 (Qfb 3 1) ax l e) : ax = 0 ∧ l = [] ∧ e = 0 := QEz (x := []) 9 h Qxp (by decide +kernel) (by decide +kernel) (by decide +kernel) (by decide +kernel)
theorem QE0 : Qeu (swL (Qfb 3 2) (LG (Qfb 3 2))) = [(3, 4)] := by decide +kernel
theorem QAe {H E : List Nat} {a b : Nat} (h : Qci H ((a : Nat) : Int) ((b : Nat) : Int) = false) : Qg2 H E a b = [] := by unfold Qg2; rw [h]; rfl
theorem Qxu {H E : List Nat} {a b : Nat} (h : Qci E ((b : Nat) : Int) ((a : Nat) : Int) = false) : Qg2 H E a b = [] := by unfold Qg2; rw [h, Bool.and_false]; rfl
theorem Qxv {H E : List Nat} {a b : Nat} (h : Qci H ((a : Nat) : Int) ((b : Nat) : Int) = true) (h2 : Qci E ((b : Nat) : Int) ((a : Nat) : Int) = true) : Qg2 H E a b = [((a : Nat) : Int), ((b : Nat) : Int)] := by unfold Qg2; rw [h, h2]; rfl
theorem Qvn {H E : List Nat} {n a : Nat} (h : Qci H ((a : Nat) : Int) ((a : Nat) : Int) = true) : Qi8 H E n a = [((a : Nat) : Int)] := by unfold Qi8; rw [h]; rfl
theorem Qm6 {H E : List Nat} {n a : Nat} (h : Qci H ((a : Nat) : Int) ((a : Nat) : Int) = false) : Qi8 H E n a = Qh7 (Qg2 H E a) n := by unfold Qi8; rw [h]; rfl
theorem Ql5 {f : Nat → List Int} {i : Nat} (h : ∀ a, a < i → f a = []) (hi : f i = []) : ∀ a, a < i + 1 → f a = [] := fun a ha => by
 by_cases e : a = i
 ·rw [e]; exact hi
 ·exact h a (by omega)
theorem Qpu (b c be ce m : Nat) (H E : List Nat) (w : World) (hh : IsRel w b c H) (he : IsRel w be ce E) (c23 : w.cell? ⟨m, 23, none⟩ = some (pv b)) (c24 : w.cell? ⟨m, 24, none⟩ = some (pv be)) :
  Calls Tryz.prog 80 #[pv m] w fun e w' => ∃ v, e = .returned v ∧ w'.ownsRow w.heap.size 3 1 v (Qhq H E).length (Qaj (Qhq H E)) ∧ Below w.heap.size w w' := by
 have HH := Qa hh
 have HE := Qa he
 have hm : m < w.heap.size := block_lt_of_cell c23
 have hn : H.length ≤ 256 := hh.len
 have HM := Qa hm
 have C23 := Qa c23
 have C24 := Qa c24
 clear hh he hm c24
 go_enter Tryz.func80, Tryz.ntmps80
 go_wp2_with fail
 refine (Qg b c H w HH.out).mono ?_
 rintro e w0 ⟨rfl, rfl⟩
 clear c23
 go_wp2_with fail
 go_loopg [11] H.length (fun f v11 wr => ∃ i : Nat, v11 = .int .i64 ((i : Nat) : Int) ∧ i ≤ H.length ∧ Hid (i + f = H.length) ∧ Hid (∀ a, a < i → Qi8 H E H.length a = []) ∧ Hid (Below w.heap.size w wr))
 case atStart => exact ⟨0, rfl, Nat.zero_le _, Nat.zero_add _, (fun a ha => by omega), Below.refl _ _⟩
 case round =>
  obtain ⟨i, rfl, hi, HIF, HALL, HB⟩ := hrel
  by_cases hlt : i < H.length
  ·have I0 : (0 : Int) ≤ ((i : Nat) : Int) := by omega
   have I1 : ((i : Nat) : Int) < ((H.length : Nat) : Int) := by omega
   have k23 := (HB.out.cell (p := ⟨m, 23, none⟩) HM.out).trans C23.out
   obtain ⟨q, hq⟩ : ∃ q, Qci H ((i : Nat) : Int) ((i : Nat) : Int) = q := ⟨_, rfl⟩
   have D1 := Qa (Qgl b c H ((i : Nat) : Int) ((i : Nat) : Int) wr (HH.out.below HB.out))
   rw [hq] at D1
   have HQ := Qa hq
   clear hq
   cases q
   ·go_wp2_with fail
    refine D1.out.mono ?_
    rintro e w1 ⟨rfl, hB1⟩
    have HB1 : Hid (Below w.heap.size w w1) := Qaa HB.out HB.out.size hB1
    clear hB1 D1 k23 HB
    have k23 := (HB1.out.cell (p := ⟨m, 23, none⟩) HM.out).trans C23.out
    go_wp2_with fail
    refine (Qg b c H w1 (HH.out.below HB1.out)).mono ?_
    rintro e w2 ⟨rfl, rfl⟩
    clear k23
    go_wp2_with fail
    go_loopg [30] H.length (fun f v30 wr => ∃ j : Nat, v30 = .int .i64 ((j : Nat) : Int) ∧ j ≤ H.length ∧ Hid (j + f = H.length) ∧ Hid (∀ a, a < j → Qg2 H E i a = []) ∧ Hid (Below w.heap.size w wr))
    case atStart => exact ⟨0, rfl, Nat.zero_le _, Nat.zero_add _, (fun a ha => by omega), HB1.out⟩
    case round =>
     clear HB1
     obtain ⟨j, rfl, hj, HJF, HJ, HB⟩ := hrel
     by_cases hjl : j < H.length
     ·have J0 : (0 : Int) ≤ ((j : Nat) : Int) := by omega
      have J1 : ((j : Nat) : Int) < ((H.length : Nat) : Int) := by omega
      have k23 := (HB.out.cell (p := ⟨m, 23, none⟩) HM.out).trans C23.out
      obtain ⟨q1, hq1⟩ : ∃ q, Qci H ((i : Nat) : Int) ((j : Nat) : Int) = q := ⟨_, rfl⟩
      have D1 := Qa (Qgl b c H ((i : Nat) : Int) ((j : Nat) : Int) wr (HH.out.below HB.out))
      rw [hq1] at D1
      have HQ1 := Qa hq1
      clear hq1
      cases q1
      ·go_wp2_with fail
       refine D1.out.mono ?_
       rintro e w1 ⟨rfl, hB1⟩
       go_wp2_with fail
       go_roundg (H.length - (j + 1))
       case measure => have := HJF.out; omega
       case rel => exact ⟨j + 1, by go_num, by omega, by have := HJF.out; rw [Hid]; omega, Ql5 HJ.out (QAe HQ1.out), Qaa HB.out HB.out.size hB1⟩
      ·go_wp2_with fail
       refine D1.out.mono ?_
       rintro e w1 ⟨rfl, hB1⟩
       have HB1 : Hid (Below w.heap.size w w1) := Qaa HB.out HB.out.size hB1
       clear hB1 D1 k23 HB
       have k24 := (HB1.out.cell (p := ⟨m, 24, none⟩) HM.out).trans C24.out
       obtain ⟨q2, hq2⟩ : ∃ q, Qci E ((j : Nat) : Int) ((i : Nat) : Int) = q := ⟨_, rfl⟩
       have D2 := Qa (Qgl be ce E ((j : Nat) : Int) ((i : Nat) : Int) w1 (HE.out.below HB1.out))
       rw [hq2] at D2
       have HQ2 := Qa hq2
       clear hq2
       cases q2
       ·go_wp2_with fail
        refine D2.out.mono ?_
        rintro e w2 ⟨rfl, hB2⟩
        go_wp2_with fail
        go_roundg (H.length - (j + 1))
        case measure => have := HJF.out; omega
        case rel => exact ⟨j + 1, by go_num, by omega, by have := HJF.out; rw [Hid]; omega, Ql5 HJ.out (Qxu HQ2.out), Qaa HB1.out HB1.out.size hB2⟩
       ·go_wp2_with fail
        refine D2.out.mono ?_
        rintro e w2 ⟨rfl, hB2⟩
        go_wp2_with fail
        go_ret
        have eB := Qxv HQ1.out HQ2.out
        have eA : Qi8 H E H.length i = [((i : Nat) : Int), ((j : Nat) : Int)] := by
         rw [Qm6 HQ.out, Qgf HJ.out (by rw [eB]; simp) hjl, eB]
        have eL : Qhq H E = [((i : Nat) : Int), ((j : Nat) : Int)] := by
         unfold Qhq
         rw [Qgf HALL.out (by rw [eA]; simp) hlt, eA]
        rw [eL]
        have hB3 := Qaa HB1.out HB1.out.size hB2
        exact ⟨_, rfl, QB1 (Blk.new _ _ _) hB3.size, hB3.alloc hB3.size _⟩
     ·obtain rfl : j = H.length := by omega
      go_wp2_with fail
      go_roundg (H.length - (i + 1))
      case measure => have := HIF.out; omega
      case rel => exact ⟨i + 1, by go_num, by omega, by have := HIF.out; rw [Hid]; omega, Ql5 HALL.out (by rw [Qm6 HQ.out]; exact Qge HJ.out), HB.out⟩
   ·go_wp2_with fail
    refine D1.out.mono ?_
    rintro e w1 ⟨rfl, hB1⟩
    go_wp2_with fail
    go_ret
    have eA := Qvn (E := E) (n := H.length) HQ.out
    have eL : Qhq H E = [((i : Nat) : Int)] := by
     unfold Qhq
     rw [Qgf HALL.out (by rw [eA]; simp) hlt, eA]
    rw [eL]
    have hB3 := Qaa HB.out HB.out.size hB1
    exact ⟨_, rfl, Qvl (Blk.new _ _ _) hB3.size, hB3.alloc hB3.size _⟩
  ·obtain rfl : i = H.length := by omega
   go_wp2_with fail
   go_ret
   have eL : Qhq H E = [] := Qge HALL.out
   rw [eL]
   exact ⟨_, rfl, World.ownsRow_nil _ _ _ _, HB.out⟩
def Qvo (g : Gr) : Nat → Option (List Nat) := Qc8 (Qc8 (Qc8 (Qn9 (rsL g (LG g)) (swL g (LG g)) (hbL g (LG g)) (Qdf (LG g))) 4 (Qha (LG g) (hbL g (LG g)))) 5 (Qfq g (LG g) (hbL g (LG g)))) 6 (Qhb g (hbL g (LG g)) (Qdf (LG g)))
theorem Qxw (g : Gr) (j : Nat) (L : List Nat) (h : Qn9 (rsL g (LG g)) (swL g (LG g)) (hbL g (LG g)) (Qdf (LG g)) j = some L) : Qvo g j = some L := by
 by_cases e4 : j = 4
 ·subst e4; cases h
 by_cases e5 : j = 5
 ·subst e5; cases h
 by_cases e6 : j = 6
 ·subst e6; cases h
 rw [Qvo, Qc8, if_neg e6, Qc8, if_neg e5, Qc8, if_neg e4]
 exact h
def Qod : Nat → PV := Qbz (fun _ => .at 0 0) [(0, .at 1 0)]
theorem ga1 {M : Md} {ρ : Nat → Option (List Nat)} {T : Nat} {ws w0 w : World} {a : Act} (hl : Below w0.heap.size w0 w) (hG : PG M ρ w) (ht : Touch M.m ws w) (e0 : a.eval (.tmp 0) = pv M.m) (hs : a.tmps.size = T) (hd : a.defers = []) : (pE M ws ρ).Ga T w0 Qod a w := by
 refine ⟨hl, ⟨hG, ht⟩, fun d => ?_, fun d => ?_, hs, hd⟩
 ·show PIs M 0 w (Qod d) _
  unfold Qod
  rcases Qcd (σ := fun _ => PV.at 0 0) (ks := [(0, .at 1 0)]) (x := d) with ⟨p, h1, rfl, h3⟩ | ⟨-, h2⟩
  ·rw [h3]
   obtain rfl := List.mem_singleton.1 h1
   exact e0
  ·rw [h2]
   exact trivial
 ·unfold Qod
  rcases Qcd (σ := fun _ => PV.at 0 0) (ks := [(0, .at 1 0)]) (x := d) with ⟨p, h1, rfl, h3⟩ | ⟨-, h2⟩
  ·rw [h3]
   obtain rfl := List.mem_singleton.1 h1
   rfl
  ·rw [h2]
   rfl
theorem Qre (w0 w : World) (V : GrV) (g : Gr) (m : Nat) (bs : Nat → Nat) (br bw bf : Nat) (hM : Mdl w0 V g m bs br bw bf w) :
  Calls Tryz.prog 83 #[pv m] w fun e w' => ∃ v out, e = .returned v ∧ Qej (Qoa g) out ∧ w'.ownsRow w0.heap.size 3 1 v out.length (Qcz out) ∧ Mdl w0 V g m bs br bw bf w' ∧ Touch m w w' := by
 have HM := Qa hM
 clear hM
 go_enter Tryz.func83, Tryz.ntmps83
 go_upto_region 1 with fail
 rename_i hK
 refine Eng.reg_ret (E := pE ⟨m, w0.heap.size, V, g, bs, br, bw, bf, LG g⟩ w _) (T := 16) (w0 := w0) (σ := Qod) 2 ⟨13, 0, Qoa g, [], [], []⟩ (by as_aux_lemma => kernel_rfl) (by as_aux_lemma => kernel_rfl) (by as_aux_lemma => kernel_rfl) (Qcq (fun _ _ => rfl) _ _ _) (by as_aux_lemma => kernel_rfl) (by as_aux_lemma => kernel_rfl) rfl (fun a w h => hK a w (wp_ret h)) ?_ _ _ (ga1 HM.out.low HM.out.pg (Touch.of_below (Below.refl _ _)) rfl rfl rfl)
 rintro N w' v hl ⟨hG, ht⟩ ⟨out, h1, h2⟩
 dsimp only at h1 h2
 exact ⟨v, out, rfl, h1, h2, ⟨HM.out.hm, hl, hG⟩, ht⟩
theorem Qte (w0 w : World) (V : GrV) (g : Gr) (m : Nat) (bs : Nat → Nat) (br bw bf : Nat) (h0 : GrR w0 V g) (hT0 : Tab w0) (hM : Mdl w0 V g m bs br bw bf w) :
  Calls Tryz.prog 82 #[pv m] w fun e w' => ∃ v out, e = .returned v ∧ Qej (Ql3 g) out ∧ w'.ownsRow w0.heap.size 3 1 v out.length (Qcz out) ∧ Mdl w0 V g m bs br bw bf w' ∧ Touch m w w' := by
 have D := Qa (Qlb _ _ _ _ _ w0 w h0 hT0 hM.hm hM.low hM.pg)
 have HM := Qa hM
 have HT0 := Qa hT0
 clear h0 hT0 hM
 go_enter Tryz.func82, Tryz.ntmps82
 go_wp2_with fail
 refine D.out.mono ?_
 rintro e wq ⟨rfl, hl, hG, htc⟩
 have hG : PG ⟨m, w0.heap.size, V, g, bs, br, bw, bf, LG g⟩ (Qvo g) wq := hG
 have HTC := Qa htc
 have HG := Qa hG
 have HL := Qa hl
 have Hm := Qa HM.out.hm
 clear htc hG hl
 clear D HM HT0
 go_upto_region 2 with fail
 rename_i hK
 refine Eng.reg_ret (E := pE ⟨m, w0.heap.size, V, g, bs, br, bw, bf, LG g⟩ w (Qvo g)) (T := 18) (w0 := w0) (σ := Qod) 2 ⟨13, 0, Ql3 g, [], [], []⟩ (by as_aux_lemma => kernel_rfl) (by as_aux_lemma => kernel_rfl) (by as_aux_lemma => kernel_rfl) (Qcq (fun _ _ => rfl) _ _ _) (by as_aux_lemma => kernel_rfl) (by as_aux_lemma => kernel_rfl) rfl (fun a w h => hK a w (wp_ret h)) ?_ _ _ (ga1 HL.out HG.out HTC.out rfl rfl rfl)
 rintro N w' v hl ⟨hG, ht⟩ ⟨out, h1, h2⟩
 dsimp only at h1 h2
 exact ⟨v, out, rfl, h1, h2, ⟨Hm.out, hl, hG.less (Qxw g)⟩, ht⟩
theorem QAf {B : List Nat} {p : Int × Int} (h : Qci B p.1 p.2 = false) : Qkw B p = [] := by unfold Qkw; rw [h]; rfl
theorem Qxx {B : List Nat} {p : Int × Int} (h : Qci B p.1 p.2 = true) : Qkw B p = [p.1, p.2] := by unfold Qkw; rw [h]; rfl
theorem Qrf {B : List Nat} {l : List (Int × Int)} {i : Nat} {p : Int × Int} (h : l[i]? = some p) : Qq B l i = Qkw B p := by unfold Qq; rw [List.getD_eq_getElem?_getD, h]; rfl
theorem QAg {f : Nat → List Int} {i : Nat} (h : ∀ a, a < i → f a = []) (hi : f i = []) : ∀ a, a < i + 1 → f a = [] := fun a ha => by
 by_cases e : a = i
 ·rw [e]; exact hi
 ·exact h a (by omega)
theorem Qrg (m b0 c0 b1 c1 : Nat) (A B : List Nat) (u : Value) (l : List (Int × Int)) (w : World) (h0 : IsRel w b0 c0 A) (h1 : IsRel w b1 c1 B) (k11 : w.cell? ⟨m, 11, none⟩ = some (pv b0)) (k10 : w.cell? ⟨m, 10, none⟩ = some (pv b1)) (k4 : w.cell? ⟨m, 4, none⟩ = some u) (hu : PArg w u l) (hT : Tab w) :
  Calls Tryz.prog 81 #[pv m] w fun e w' => ∃ v, e = .returned v ∧ w'.ownsRow w.heap.size 3 1 v (Qkx (Qbd A B) l).length (Qaj (Qkx (Qbd A B) l)) ∧ Below w.heap.size w w' := by
 have hm : m < w.heap.size := block_lt_of_cell k11
 obtain ⟨p, cp, rfl, hp, hl⟩ := Qab hu
 have HCM := Qa (fun W h h' hT' => Qja b0 c0 b1 c1 A B W h h' hT')
 generalize Qbd A B = C at *
 have HA := Qa h0
 have HBb := Qa h1
 have KA := Qa k11
 have KB := Qa k10
 have K4 := Qa k4
 have HT := Qa hT
 have HP := Qa hp
 clear h0 h1 k11 k10 k4 hT hu hp
 go_enter Tryz.func81, Tryz.ntmps81
 go_upto_region 1 with fail
 have hBd : Below w.heap.size w w.drew := (Below.refl _ _).drew
 have HA1 := Qa (HA.out.below hBd)
 have HB1 := Qa (HBb.out.below hBd)
 have HD1 := Qa hBd
 refine wp_region_held_drew (S := fun W => W.cell? ⟨m, 11, none⟩ = some (pv b0) ∧ W.cell? ⟨m, 10, none⟩ = some (pv b1)) (by kernel_rfl) ⟨(hBd.cell (p := ⟨m, 11, none⟩) hm).trans KA.out, (hBd.cell (p := ⟨m, 10, none⟩) hm).trans KB.out⟩ (fun hHeld => ?_)
 clear hBd
 generalize w.drew = W1 at *
 refine tk 0 rfl ?_; simp only [zz]
 refine tk 1 rfl ?_; simp only [zz]
 refine tk 2 rfl ?_; simp only [zz]
 refine tk 3 rfl ?_; simp only [zz]
 refine tk 4 rfl ?_; simp only [zz]
 refine tk 5 rfl ?_; simp only [zz]
 refine tk 6 rfl ?_; simp only [zz]
 refine tk 7 rfl ?_; simp only [zz]
 refine tk 8 rfl ?_; simp only [zz]
 refine tk 9 rfl ?_; simp only [zz]
 refine wpAnyH_ready (rs := [10]) (by kernel_rfl) (by simp) ?_
 refine rdy rfl (fun K hK => ?_) AllReadyH.nil
 simp only [z1, z2, z3]
 go_simp
 refine (HCM.out W1 HA1.out HB1.out (HT.out.step' HD1.out)).mono ?_
 rintro e W2 ⟨b2, c2, rfl, hM2⟩
 have HD2 : Hid (Below w.heap.size w W2) := Qaa HD1.out HD1.out.size hM2.below
 have HC := Qa hM2.rel
 clear hM2 HD1 HA1 HB1 hHeld
 refine hK.out _ _ ⟨(HD2.out.cell (p := ⟨m, 11, none⟩) hm).trans KA.out, (HD2.out.cell (p := ⟨m, 10, none⟩) hm).trans KB.out⟩ (fun hHeld => ?_)
 clear hK K
 try simp only [zz]
 refine tk 11 rfl ?_; simp only [zz]
 refine wpAnyH_done (by kernel_rfl) ?_ _
 clear hHeld
 have x4 := (HD2.out.cell (p := ⟨m, 4, none⟩) hm).trans K4.out
 go_wp2_with fail
 clear x4
 go_loopg [23] l.length (fun f v23 wr => ∃ i : Nat, v23 = .int .i64 ((i : Nat) : Int) ∧ i ≤ l.length ∧ Hid (i + f = l.length) ∧ Hid (∀ a, a < i → Qq C l a = []) ∧ Hid (Below W2.heap.size W2 wr))
 case atStart => exact ⟨0, rfl, Nat.zero_le _, Nat.zero_add _, (fun a ha => by omega), Below.refl _ _⟩
 case round =>
  obtain ⟨i, rfl, hi, HIF, HALL, HB⟩ := hrel
  have HBW : Hid (Below w.heap.size w wr) := Qaa HD2.out HD2.out.size HB.out
  by_cases hlt : i < l.length
  ·have I0 : (0 : Int) ≤ ((i : Nat) : Int) := by omega
   have I1 : ((i : Nat) : Int) < ((l.length : Nat) : Int) := by omega
   obtain ⟨⟨x, y⟩, hx⟩ : ∃ x, l[i]? = some x := ⟨_, List.getElem?_eq_getElem hlt⟩
   obtain ⟨s, o, rfl, hat⟩ := HP.out (by omega)
   have hat' := hat.below HBW.out
   have c0 := hat'.fst i _ hx
   have c1 := hat'.snd i _ hx
   have HX := Qa hx
   obtain ⟨q, hq⟩ : ∃ q, Qci C x y = q := ⟨_, rfl⟩
   have D1 := Qa (fun W hW => Qgl b2 c2 C x y W (HC.out.below (Qaa HB.out HB.out.size hW)))
   rw [hq] at D1
   have HQ := Qa hq
   clear hat hat' hx hq
   cases q
   ·go_wp2_with fail
    refine (D1.out _ ((Below.refl _ _).alloc (Nat.le_refl _) _)).mono ?_
    rintro e w3 ⟨rfl, hB3⟩
    go_wp2_with fail
    go_roundg (l.length - (i + 1))
    case measure => have := HIF.out; omega
    case rel => exact ⟨i + 1, by go_num, by omega, by have := HIF.out; rw [Hid]; omega, QAg HALL.out (by rw [Qrf HX.out]; exact QAf (p := (x, y)) HQ.out), Qaa HB.out HB.out.size (((Below.refl _ _).alloc (Nat.le_refl _) _).trans (hB3.mono (by simp)))⟩
   ·go_wp2_with fail
    have hz := Blk.new wr 34 #[.int .i64 x, .int .i64 y]
    refine (D1.out _ ((Below.refl _ _).alloc (Nat.le_refl _) _)).mono ?_
    rintro e w3 ⟨rfl, hB3⟩
    have hz3 := hz.of_below hB3
    have z0 := hz3.cell (j := 0) rfl
    have z1' := hz3.cell (j := 1) rfl
    have hB4 : Below w.heap.size w w3 := Qaa HBW.out HBW.out.size (((Below.refl _ _).alloc (Nat.le_refl _) _).trans (hB3.mono (by simp)))
    have HB4 := Qa hB4
    clear hz hz3 hB3 hB4 c0 c1
    go_wp2_with fail
    go_ret
    have eP := Qxx (p := (x, y)) HQ.out
    have eL : Qkx C l = [x, y] := by
     unfold Qkx
     have e1 := Qrf (B := C) HX.out
     rw [Qgf HALL.out (by rw [e1, eP]; simp) hlt, e1, eP]
    rw [eL]
    exact ⟨_, rfl, QB1 (Blk.new _ _ _) HB4.out.size, HB4.out.alloc HB4.out.size _⟩
  ·obtain rfl : i = l.length := by omega
   go_wp2_with fail
   go_ret
   have eL : Qkx C l = [] := Qge HALL.out
   rw [eL]
   exact ⟨_, rfl, World.ownsRow_nil _ _ _ _, HBW.out⟩
def axC : Array Value := #[.int .i64 1, .func (.func 80) #[] #[], .int .i64 2, .func (.func 81) #[] #[], .int .i64 3, .func (.func 82) #[] #[], .int .i64 4, .func (.func 83) #[] #[]]
theorem Qoe (w : World) : Calls Tryz.prog 38 #[] w fun e w' => ∃ b, e = .returned (.slice (some ⟨b, 0, none⟩) 4 4) ∧ Blk w' b 82 axC ∧ Below w.heap.size w w' := by
 go_enter Tryz.func38, Tryz.ntmps38
 go_wp2_with fail
 go_ret
 exact ⟨_, rfl, Blk.new _ _ _, (Below.refl _ _).alloc (Nat.le_refl _) _⟩
section
variable {w0 W : World} {V : GrV} {g : Gr} {m : Nat} {bs : Nat → Nat} {br bw bf : Nat}
def Qvp (w0 W : World) (V : GrV) (g : Gr) (m : Nat) (bs : Nat → Nat) (br bw bf : Nat) (i : Nat) (e : Ending) (w' : World) : Prop :=
 ∃ v l, e = .returned v ∧ Brk g i l ∧ w'.ownsRow w0.heap.size 3 1 v l.length (Qaj l) ∧ Mdl w0 V g m bs br bw bf w' ∧ Touch m W w'
theorem QHa (hM : Mdl w0 V g m bs br bw bf W) : Calls Tryz.prog 80 #[pv m] W (Qvp w0 W V g m bs br bw bf 0) := by
 obtain ⟨r, hmo, hr⟩ := hM.pg.mo
 obtain ⟨b2, c2, e2, -, h2⟩ := hr 2 _ rfl
 obtain ⟨b3, c3, e3, -, h3⟩ := hr 3 _ rfl
 have k2 : W.cell? ⟨m, 23, none⟩ = some (pv b2) := by rw [← e2]; exact hmo.cell rfl
 have k3 : W.cell? ⟨m, 24, none⟩ = some (pv b3) := by rw [← e3]; exact hmo.cell rfl
 exact (Qpu b2 c2 b3 c3 m _ _ W h2 h3 k2 k3).mono fun e w' ⟨v, h1, h2, h3⟩ => ⟨v, Qh8 g, h1, ⟨fun _ => rfl, fun h => absurd h (by omega), fun h => absurd h (by omega), fun h => absurd h (by omega)⟩, Qb0 h2 hM.low.size, hM.below h3, Touch.of_below h3⟩
theorem QB2 {B : Nat} {b : Nat} {L : List Nat} (h : NRel B W (pv b) L) : ∃ c, IsRel W b c L := by
 obtain ⟨b', c, e, -, h⟩ := h
 cases e
 exact ⟨c, h⟩
theorem QHb (h0 : GrR w0 V g) (hT : Tab w0) (hM : Mdl w0 V g m bs br bw bf W) : Calls Tryz.prog 81 #[pv m] W (Qvp w0 W V g m bs br bw bf 1) := by
 obtain ⟨r, hmo, -⟩ := hM.pg.mo
 have k2 : W.cell? ⟨m, 11, none⟩ = some (pv (bs 3)) := hmo.cell rfl
 have k3 : W.cell? ⟨m, 10, none⟩ = some (pv (bs 2)) := hmo.cell rfl
 have k4 : W.cell? ⟨m, 4, none⟩ = some V.rmw := hmo.cell rfl
 obtain ⟨c3, h3⟩ := QB2 (hM.pg.E 3 (by omega))
 obtain ⟨c2, h2⟩ := QB2 (hM.pg.E 2 (by omega))
 exact (Qrg m (bs 3) c3 (bs 2) c2 _ _ V.rmw g.rmw W h3 h2 k2 k3 k4 (h0.rmw.below hM.low) (hT.step' hM.low)).mono fun e w' ⟨v, h1, h2, h3⟩ => ⟨v, Qj9 g, h1, ⟨fun h => absurd h (by omega), fun _ => rfl, fun h => absurd h (by omega), fun h => absurd h (by omega)⟩, Qb0 h2 hM.low.size, hM.below h3, Touch.of_below h3⟩
theorem QHc (h0 : GrR w0 V g) (hT : Tab w0) (hM : Mdl w0 V g m bs br bw bf W) : Calls Tryz.prog 82 #[pv m] W (Qvp w0 W V g m bs br bw bf 2) :=
 (Qte w0 W V g m bs br bw bf h0 hT hM).mono fun e w' ⟨v, out, h1, h2, h3, h4, h5⟩ => ⟨v, upI out, h1, ⟨fun h => absurd h (by omega), fun h => absurd h (by omega), fun _ => ⟨out, h2, rfl⟩, fun h => absurd h (by omega)⟩, by rw [Qt8, show (upI out).length = out.length by simp [upI]]; exact h3, h4, h5⟩
theorem QHd (hM : Mdl w0 V g m bs br bw bf W) : Calls Tryz.prog 83 #[pv m] W (Qvp w0 W V g m bs br bw bf 3) :=
 (Qre w0 W V g m bs br bw bf hM).mono fun e w' ⟨v, out, h1, h2, h3, h4, h5⟩ => ⟨v, upI out, h1, ⟨fun h => absurd h (by omega), fun h => absurd h (by omega), fun h => absurd h (by omega), fun _ => ⟨out, h2, rfl⟩⟩, by rw [Qt8, show (upI out).length = out.length by simp [upI]]; exact h3, h4, h5⟩
end
theorem Mdl.alloc {w0 : World} {V : GrV} {g : Gr} {m : Nat} {bs : Nat → Nat} {br bw bf : Nat} {wk : World} (h : Mdl w0 V g m bs br bw bf wk) (o : Obj) : Mdl w0 V g m bs br bw bf (wk.alloc o) := h.below ((Below.refl _ _).alloc (Nat.le_refl _) _)
theorem Qpv (V : GrV) (g : Gr) (w : World) (h : GrR w V g) (hF : Frm w) (hT : Tab w) :
  Calls Tryz.prog 12 #[V.val g] w fun e w' => ∃ ax v l er, e = .returned (.tuple #[.int .i64 ax, v, .int .i64 er]) ∧ Qf9 g ax l er ∧ w'.ownsRow w.heap.size 3 1 v l.length (Qaj l) ∧ Below w.heap.size w w' := by
 have hg0 := Blk.new w 27 (V.gs g)
 have hB0 : Below w.heap.size w (w.alloc (.cells (V.gs g) 27)) := (Below.refl _ _).alloc (Nat.le_refl _) _
 have e1 : w.alloc (.cells (V.gs g) 27) = w.alloc (.cells #[.int .i64 g.cells, V.ev, V.rf, V.co, V.rmw, V.addr, V.dat, V.ctrl] 27) := rfl
 rw [e1] at hB0 hg0
 have HV := Qa (h.below hB0)
 have HF := Qa (hF.step hB0)
 have HT := Qa (hT.step' hB0)
 have HB0 := Qa hB0
 have HG0 := Qa hg0
 unfold GrV.val
 clear h hF hT hB0 hg0 e1
 go_enter Tryz.func12, Tryz.ntmps12
 go_upto_region 1 with fail
 generalize w.alloc (.cells #[.int .i64 g.cells, V.ev, V.rf, V.co, V.rmw, V.addr, V.dat, V.ctrl] 27) = W0 at *
 go_wp2_with (first | refine wpList_load_row rfl 27 _ rfl w.heap.size rfl 27 (V.gs g) (0, 0) _ HG0.out Tryz.underlying27 rfl (by kernel_rfl) ?_)
 refine (Qlc V g W0 HV.out HF.out HT.out).mono ?_
 rintro e w1 (⟨hc, rfl, hB1⟩ | ⟨hc, m, bs, br, bw, bf, rfl, hM⟩)
 ·clear HG0
  go_wp2_with fail
  go_ret3
  exact ⟨0, .slice none 0 0, [], 4, rfl, .inl ⟨hc, rfl, rfl, rfl⟩, World.ownsRow_nil _ _ _ _, Qaa HB0.out HB0.out.size hB1⟩
 ·have HC := Qa hc
  have HM := Qa hM
  clear HG0 hc hM
  go_wp2_with fail
  refine (Qoe w1).mono ?_
  rintro e w2 ⟨ab, rfl, hab, hB2⟩
  have HM2 := Qa (HM.out.below hB2)
  have HAB := Qa hab
  clear hB2 HM hab
  go_wp2_with fail
  go_loopg [18] 4 (fun f v18 wr => ∃ (i : Nat), v18 = .int .i64 ((i : Nat) : Int) ∧ i ≤ 4 ∧ Hid (i + f = 4) ∧ Hid (KeptN g i) ∧ Hid (Blk wr ab 82 axC) ∧ Hid (Mdl W0 V g m bs br bw bf wr))
  case atStart => exact ⟨0, rfl, by omega, Nat.zero_add _, KeptN.zero g, HAB.out, HM2.out⟩
  case round =>
   clear HAB HM2
   obtain ⟨i, rfl, hi, HIF, HKN, HAB, HM⟩ := hrel
   generalize hwq : wr = wa at *
   clear hwq
   match i, hi with
   | 0, _ =>
    have a0 : wa.cell? ⟨ab, 0, none⟩ = some (.int .i64 1) := HAB.out.cell rfl
    have a1 : wa.cell? ⟨ab, 1, none⟩ = some (.func (.func 80) #[] #[]) := HAB.out.cell rfl
    have hz0 := Blk.new wa 82 #[.int .i64 0, .nilFunc]
    have hBz : Below wa.heap.size wa ((wa.alloc (.cells #[.int .i64 0, .nilFunc] 82)).setRow wa.heap.size #[.int .i64 1, .func (.func 80) #[] #[]]) := ((Below.refl wa.heap.size wa).alloc (Nat.le_refl _) _).trans (Qa6 _ (Nat.le_refl _))
    have hz := hz0.setRow' #[.int .i64 1, .func (.func 80) #[] #[]]
    have HM3 := Qa (HM.out.below hBz)
    have HAB3 := Qa (HAB.out.of_below hBz)
    have HBa : Hid (Below w.heap.size w ((wa.alloc (.cells #[.int .i64 0, .nilFunc] 82)).setRow wa.heap.size #[.int .i64 1, .func (.func 80) #[] #[]])) := Qaa HB0.out HB0.out.size HM3.out.low
    clear HM HAB hBz
    go_upto_region 7 with (first | refine wpList_store_row rfl 82 _ _ rfl wa.heap.size #[.int .i64 1, .func (.func 80) #[] #[]] rfl rfl 82 #[.int .i64 0, .nilFunc] hz0 (by kernel_rfl) rfl (by kernel_rfl) ?_)
    clear a0 a1 hz0
    generalize (wa.alloc (.cells #[.int .i64 0, .nilFunc] 82)).setRow wa.heap.size #[.int .i64 1, .func (.func 80) #[] #[]] = wb at *
    generalize wa.heap.size = zb at *
    have x1 := hz.cell (j := 1) rfl
    have HZ := Qa hz
    clear hz
    go_wp2_with fail
    clear x1
    refine (QHa HM3.out).mono ?_
    rintro e wc ⟨v, l, rfl, hb, ho, hM4, ht⟩
    have HZ4 := Qa (HZ.out.touch ht (HM3.out.ne HZ.out (by decide)))
    have HAB4 := Qa (HAB3.out.touch ht (HM3.out.ne HAB3.out (by decide)))
    have HO := Qa (Qb0 ho HB0.out.size)
    have HBR := Qa hb
    have HM4 := Qa hM4
    obtain ⟨pa, ca, rfl⟩ := Qax ho
    clear hb ho hM4 ht HZ HAB3 HM3 HBa
    cases l with
    | nil =>
     go_wp2_with fail
     go_roundg 3
     case measure => have := HIF.out; omega
     case rel => exact ⟨1, by go_num, by omega, by rw [Hid], HKN.out.next (by omega) HBR.out, HAB4.out, HM4.out⟩
    | cons x t =>
     have q0 : ((((x :: t).length : Nat) : Int) > 0) := by simp
     have q1 : decide ((0 : Int) < (((x :: t).length : Nat) : Int)) = true := by simp
     have x0 := HZ4.out.cell (j := 0) rfl
     generalize hlt : x :: t = l at *
     have HL : Hid (l ≠ []) := by rw [Hid, ← hlt]; simp
     clear hlt
     go_wp2_with fail
     go_ret3
     exact ⟨1, _, l, 0, rfl, .inr ⟨HC.out, rfl, HKN.out.told (by omega) HBR.out HL.out⟩, HO.out, Qaa HB0.out HB0.out.size HM4.out.low⟩
   | 1, _ =>
    have a0 : wa.cell? ⟨ab, 2, none⟩ = some (.int .i64 2) := HAB.out.cell rfl
    have a1 : wa.cell? ⟨ab, 3, none⟩ = some (.func (.func 81) #[] #[]) := HAB.out.cell rfl
    have hz0 := Blk.new wa 82 #[.int .i64 0, .nilFunc]
    have hBz : Below wa.heap.size wa ((wa.alloc (.cells #[.int .i64 0, .nilFunc] 82)).setRow wa.heap.size #[.int .i64 2, .func (.func 81) #[] #[]]) := ((Below.refl wa.heap.size wa).alloc (Nat.le_refl _) _).trans (Qa6 _ (Nat.le_refl _))
    have hz := hz0.setRow' #[.int .i64 2, .func (.func 81) #[] #[]]
    have HM3 := Qa (HM.out.below hBz)
    have HAB3 := Qa (HAB.out.of_below hBz)
    have HBa : Hid (Below w.heap.size w ((wa.alloc (.cells #[.int .i64 0, .nilFunc] 82)).setRow wa.heap.size #[.int .i64 2, .func (.func 81) #[] #[]])) := Qaa HB0.out HB0.out.size HM3.out.low
    clear HM HAB hBz
    go_upto_region 7 with (first | refine wpList_store_row rfl 82 _ _ rfl wa.heap.size #[.int .i64 2, .func (.func 81) #[] #[]] rfl rfl 82 #[.int .i64 0, .nilFunc] hz0 (by kernel_rfl) rfl (by kernel_rfl) ?_)
    clear a0 a1 hz0
    generalize (wa.alloc (.cells #[.int .i64 0, .nilFunc] 82)).setRow wa.heap.size #[.int .i64 2, .func (.func 81) #[] #[]] = wb at *
    generalize wa.heap.size = zb at *
    have x1 := hz.cell (j := 1) rfl
    have HZ := Qa hz
    clear hz
    go_wp2_with fail
    clear x1
    refine (QHb HV.out HT.out HM3.out).mono ?_
    rintro e wc ⟨v, l, rfl, hb, ho, hM4, ht⟩
    have HZ4 := Qa (HZ.out.touch ht (HM3.out.ne HZ.out (by decide)))
    have HAB4 := Qa (HAB3.out.touch ht (HM3.out.ne HAB3.out (by decide)))
    have HO := Qa (Qb0 ho HB0.out.size)
    have HBR := Qa hb
    have HM4 := Qa hM4
    obtain ⟨pa, ca, rfl⟩ := Qax ho
    clear hb ho hM4 ht HZ HAB3 HM3 HBa
    cases l with
    | nil =>
     go_wp2_with fail
     go_roundg 2
     case measure => have := HIF.out; omega
     case rel => exact ⟨2, by go_num, by omega, by rw [Hid], HKN.out.next (by omega) HBR.out, HAB4.out, HM4.out⟩
    | cons x t =>
     have q0 : ((((x :: t).length : Nat) : Int) > 0) := by simp
     have q1 : decide ((0 : Int) < (((x :: t).length : Nat) : Int)) = true := by simp
     have x0 := HZ4.out.cell (j := 0) rfl
     generalize hlt : x :: t = l at *
     have HL : Hid (l ≠ []) := by rw [Hid, ← hlt]; simp
     clear hlt
     go_wp2_with fail
     go_ret3
     exact ⟨2, _, l, 0, rfl, .inr ⟨HC.out, rfl, HKN.out.told (by omega) HBR.out HL.out⟩, HO.out, Qaa HB0.out HB0.out.size HM4.out.low⟩
   | 2, _ =>
    have a0 : wa.cell? ⟨ab, 4, none⟩ = some (.int .i64 3) := HAB.out.cell rfl
    have a1 : wa.cell? ⟨ab, 5, none⟩ = some (.func (.func 82) #[] #[]) := HAB.out.cell rfl
    have hz0 := Blk.new wa 82 #[.int .i64 0, .nilFunc]
    have hBz : Below wa.heap.size wa ((wa.alloc (.cells #[.int .i64 0, .nilFunc] 82)).setRow wa.heap.size #[.int .i64 3, .func (.func 82) #[] #[]]) := ((Below.refl wa.heap.size wa).alloc (Nat.le_refl _) _).trans (Qa6 _ (Nat.le_refl _))
    have hz := hz0.setRow' #[.int .i64 3, .func (.func 82) #[] #[]]
    have HM3 := Qa (HM.out.below hBz)
    have HAB3 := Qa (HAB.out.of_below hBz)
    have HBa : Hid (Below w.heap.size w ((wa.alloc (.cells #[.int .i64 0, .nilFunc] 82)).setRow wa.heap.size #[.int .i64 3, .func (.func 82) #[] #[]])) := Qaa HB0.out HB0.out.size HM3.out.low
    clear HM HAB hBz
    go_upto_region 7 with (first | refine wpList_store_row rfl 82 _ _ rfl wa.heap.size #[.int .i64 3, .func (.func 82) #[] #[]] rfl rfl 82 #[.int .i64 0, .nilFunc] hz0 (by kernel_rfl) rfl (by kernel_rfl) ?_)
    clear a0 a1 hz0
    generalize (wa.alloc (.cells #[.int .i64 0, .nilFunc] 82)).setRow wa.heap.size #[.int .i64 3, .func (.func 82) #[] #[]] = wb at *
    generalize wa.heap.size = zb at *
    have x1 := hz.cell (j := 1) rfl
    have HZ := Qa hz
    clear hz
    go_wp2_with fail
    clear x1
    refine (QHc HV.out HT.out HM3.out).mono ?_
    rintro e wc ⟨v, l, rfl, hb, ho, hM4, ht⟩
    have HZ4 := Qa (HZ.out.touch ht (HM3.out.ne HZ.out (by decide)))
    have HAB4 := Qa (HAB3.out.touch ht (HM3.out.ne HAB3.out (by decide)))
    have HO := Qa (Qb0 ho HB0.out.size)
    have HBR := Qa hb
    have HM4 := Qa hM4
    obtain ⟨pa, ca, rfl⟩ := Qax ho
    clear hb ho hM4 ht HZ HAB3 HM3 HBa
    cases l with
    | nil =>
     go_wp2_with fail
     go_roundg 1
     case measure => have := HIF.out; omega
     case rel => exact ⟨3, by go_num, by omega, by rw [Hid], HKN.out.next (by omega) HBR.out, HAB4.out, HM4.out⟩
    | cons x t =>
     have q0 : ((((x :: t).length : Nat) : Int) > 0) := by simp
     have q1 : decide ((0 : Int) < (((x :: t).length : Nat) : Int)) = true := by simp
     have x0 := HZ4.out.cell (j := 0) rfl
     generalize hlt : x :: t = l at *
     have HL : Hid (l ≠ []) := by rw [Hid, ← hlt]; simp
     clear hlt
     go_wp2_with fail
     go_ret3
     exact ⟨3, _, l, 0, rfl, .inr ⟨HC.out, rfl, HKN.out.told (by omega) HBR.out HL.out⟩, HO.out, Qaa HB0.out HB0.out.size HM4.out.low⟩
   | 3, _ =>
    have a0 : wa.cell? ⟨ab, 6, none⟩ = some (.int .i64 4) := HAB.out.cell rfl
    have a1 : wa.cell? ⟨ab, 7, none⟩ = some (.func (.func 83) #[] #[]) := HAB.out.cell rfl
    have hz0 := Blk.new wa 82 #[.int .i64 0, .nilFunc]
    have hBz : Below wa.heap.size wa ((wa.alloc (.cells #[.int .i64 0, .nilFunc] 82)).setRow wa.heap.size #[.int .i64 4, .func (.func 83) #[] #[]]) := ((Below.refl wa.heap.size wa).alloc (Nat.le_refl _) _).trans (Qa6 _ (Nat.le_refl _))
    have hz := hz0.setRow' #[.int .i64 4, .func (.func 83) #[] #[]]
    have HM3 := Qa (HM.out.below hBz)
    have HAB3 := Qa (HAB.out.of_below hBz)
    have HBa : Hid (Below w.heap.size w ((wa.alloc (.cells #[.int .i64 0, .nilFunc] 82)).setRow wa.heap.size #[.int .i64 4, .func (.func 83) #[] #[]])) := Qaa HB0.out HB0.out.size HM3.out.low
    clear HM HAB hBz
    go_upto_region 7 with (first | refine wpList_store_row rfl 82 _ _ rfl wa.heap.size #[.int .i64 4, .func (.func 83) #[] #[]] rfl rfl 82 #[.int .i64 0, .nilFunc] hz0 (by kernel_rfl) rfl (by kernel_rfl) ?_)
    clear a0 a1 hz0
    generalize (wa.alloc (.cells #[.int .i64 0, .nilFunc] 82)).setRow wa.heap.size #[.int .i64 4, .func (.func 83) #[] #[]] = wb at *
    generalize wa.heap.size = zb at *
    have x1 := hz.cell (j := 1) rfl
    have HZ := Qa hz
    clear hz
    go_wp2_with fail
    clear x1
    refine (QHd HM3.out).mono ?_
    rintro e wc ⟨v, l, rfl, hb, ho, hM4, ht⟩
    have HZ4 := Qa (HZ.out.touch ht (HM3.out.ne HZ.out (by decide)))
    have HAB4 := Qa (HAB3.out.touch ht (HM3.out.ne HAB3.out (by decide)))
    have HO := Qa (Qb0 ho HB0.out.size)
    have HBR := Qa hb
    have HM4 := Qa hM4
    obtain ⟨pa, ca, rfl⟩ := Qax ho
    clear hb ho hM4 ht HZ HAB3 HM3 HBa
    cases l with
    | nil =>
     go_wp2_with fail
     go_roundg 0
     case measure => have := HIF.out; omega
     case rel => exact ⟨4, by go_num, by omega, by rw [Hid], HKN.out.next (by omega) HBR.out, HAB4.out, HM4.out⟩
    | cons x t =>
     have q0 : ((((x :: t).length : Nat) : Int) > 0) := by simp
     have q1 : decide ((0 : Int) < (((x :: t).length : Nat) : Int)) = true := by simp
     have x0 := HZ4.out.cell (j := 0) rfl
     generalize hlt : x :: t = l at *
     have HL : Hid (l ≠ []) := by rw [Hid, ← hlt]; simp
     clear hlt
     go_wp2_with fail
     go_ret3
     exact ⟨4, _, l, 0, rfl, .inr ⟨HC.out, rfl, HKN.out.told (by omega) HBR.out HL.out⟩, HO.out, Qaa HB0.out HB0.out.size HM4.out.low⟩
   | 4, _ =>
    go_wp2_with fail
    go_ret3
    exact ⟨0, .slice none 0 0, [], 0, rfl, .inr ⟨HC.out, rfl, HKN.out.all⟩, World.ownsRow_nil _ _ _ _, Qaa HB0.out HB0.out.size HM.out.low⟩
end Go.Proofs.YtlpffpfkapbepaaGreatDoor
