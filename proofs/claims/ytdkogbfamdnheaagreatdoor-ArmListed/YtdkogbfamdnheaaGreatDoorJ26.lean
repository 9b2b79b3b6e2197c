import Derived.Test.YtdkogbfamdnheaaGreatDoorJ24
import Derived.Test.YtdkogbfamdnheaaGreatDoorJ25
namespace Go.Proofs.YtdkogbfamdnheaaGreatDoor
open Go.RowKit Go.Shelf Sx
set_option maxRecDepth 100000
set_option maxHeartbeats 16000000
set_option linter.unusedSimpArgs false
set_option linter.unusedVariables false
structure PV where
 t : Nat
 k : Nat
 r : List Nat
 l : List (List Nat)
 s : List Bool
 i : List Int
def PV.at (t k : Nat) : PV := ⟨t, k, [], [], [], []⟩
def PV.rl (r : List Nat) : PV := ⟨6, 0, r, [], [], []⟩
def PV.rs (l : List (List Nat)) : PV := ⟨8, 0, [], l, [], []⟩
def PV.st (s : List Bool) : PV := ⟨7, 0, [], [], s, []⟩
def PV.is (i : List Int) : PV := ⟨10, 0, [], [], [], i⟩
structure Md where
 m : Nat
 B : Nat
 V : GrV
 g : Gr
 bs : Nat → Nat
 br : Nat
 bw : Nat
 bf : Nat
 Ls : Nat → List Nat
def NRel (B : Nat) (w : World) (v : Value) (L : List Nat) : Prop := ∃ b c, v = pv b ∧ (B ≤ b ∧ B ≤ c) ∧ IsRel w b c L
theorem NRel.lo {B B' : Nat} {w : World} {v : Value} {L : List Nat} (h : NRel B w v L) (hb : B' ≤ B) : NRel B' w v L := by
 obtain ⟨b, c, h1, h2, h3⟩ := h
 exact ⟨b, c, h1, ⟨Nat.le_trans hb h2.1, Nat.le_trans hb h2.2⟩, h3⟩
theorem NRel.below {B : Nat} {w w' : World} {v : Value} {L : List Nat} (h : NRel B w v L) (hb : Below w.heap.size w w') : NRel B w' v L := by
 obtain ⟨b, c, h1, h2, h3⟩ := h
 exact ⟨b, c, h1, h2, h3.below hb⟩
def Md.fx (M : Md) : Array Value := fxC M.g.evs.length M.bs M.br M.bw M.bf
def PIs (M : Md) (N : Nat) (w : World) (x : PV) (v : Value) : Prop :=
 match x.t with
 | 1 => v = pv M.m
 | 2 => v = .pointer (some ⟨M.m, 8, none⟩)
 | 3 => v = .agg M.fx
 | 4 => ∃ b, v = pv b ∧ Blk w b 115 M.fx
 | 5 => ∃ b, v = .pointer (some ⟨b, x.k, none⟩) ∧ Blk w b 115 M.fx
 | 6 => NRel M.B w v x.r
 | 7 => SetAt w v x.s
 | 8 => ∃ s rs, v = .slice (some ⟨s, 0, none⟩) rs.length rs.length ∧ RelsAt w s rs ∧ rs.map (·.2.2) = x.l
 | 9 => ∃ b, v = pv b ∧ N ≤ b ∧ Blk w b 115 nilF
 | 10 => IntsR w v x.i
 | 11 => v = .pointer (some ⟨M.m, 21, none⟩)
 | 12 => v = .pointer (some ⟨M.m, 21 + x.k, none⟩)
 | 13 => ∃ out, Qdg x.r out ∧ w.ownsRow M.B 3 1 v out.length (Qc7 out)
 | 14 => v = .pointer (some ⟨M.m, 8 + x.k, none⟩)
 | _ => True
theorem PIs.mono {M : Md} {N : Nat} {w w' : World} {x : PV} {v : Value} (h : PIs M N w x v) (hb : Below w.heap.size w w') : PIs M N w' x v := by
 obtain ⟨t, k, r, l, s, i⟩ := x
 unfold PIs at h ⊢
 dsimp only at h ⊢
 split at h
 ·exact h
 ·exact h
 ·exact h
 ·obtain ⟨b, h1, h2⟩ := h; exact ⟨b, h1, h2.of_below hb⟩
 ·obtain ⟨b, h1, h2⟩ := h; exact ⟨b, h1, h2.of_below hb⟩
 ·exact h.below hb
 ·exact SetAt.below h hb
 ·obtain ⟨s, rs, h1, h2, h3⟩ := h; exact ⟨s, rs, h1, h2.below hb, h3⟩
 ·obtain ⟨b, h1, h2, h3⟩ := h; exact ⟨b, h1, h2, h3.of_below hb⟩
 ·exact IntsR.below h hb
 ·exact h
 ·exact h
 ·obtain ⟨o, h1, h2⟩ := h; exact ⟨o, h1, Qac h2 hb⟩
 ·exact h
 ·trivial
structure PG (M : Md) (ρ : Nat → Option (List Nat)) (w : World) : Prop where
 tab : Tab w
 gr : GrR w M.V M.g
 mo : ∃ r, Blk w M.m 119 (moC M.V M.g M.bs M.br M.bw M.bf r) ∧ ∀ j L, ρ j = some L → NRel M.B w (r j) L
 rd : Blk w M.br 4 (Qax (Qba M.g 1))
 wt : Blk w M.bw 4 (Qax (Qba M.g 2))
 fe : Blk w M.bf 4 (Qax (Qba M.g 3))
 E : ∀ i, i < 10 → NRel M.B w (pv (M.bs i)) (M.Ls i)
 hB : M.B ≤ w.heap.size
theorem PG.mono {M : Md} {ρ : Nat → Option (List Nat)} {w w' : World} (h : PG M ρ w) (hb : Below w.heap.size w w') : PG M ρ w' := by
 obtain ⟨r, h1, h2⟩ := h.mo
 exact ⟨h.tab.step' hb, h.gr.below hb, ⟨r, h1.of_below hb, fun j L hj => (h2 j L hj).below hb⟩, h.rd.of_below hb, h.wt.of_below hb, h.fe.of_below hb, fun i hi => (h.E i hi).below hb, Nat.le_trans h.hB hb.size⟩
def pvA (σ : Nat → PV) : Operand → PV
 | .tmp d => σ d
 | _ => .at 0 0
def isK : Operand → Bool
 | .const (.int .i64 _) => true
 | _ => false
def kOf : Operand → Int
 | .const (.int .i64 k) => k
 | _ => 0
def Qmi (ps : List (Nat × Operand)) : List Int := ps.map (fun p => kOf p.2)
theorem Qyg {a : Act} {x : Operand} (h : isK x = true) : a.eval x = .int .i64 (kOf x) := by
 unfold isK at h
 split at h
 ·rfl
 ·cases h
def Qmj (M : Md) (f : Nat) (l : List PV) : Option PV :=
 match l with
 | [x] => if x.t = 6 then (if f = 139 then some ⟨13, 0, x.r, [], [], []⟩ else none)
   else if x.t = 8 ∧ f = 29 ∧ x.l.length ≤ 6 then some (.rl (Qa1 x.l)) else none
 | [x, y] => if x.t = 1 then (if y.t = 7 ∧ f = 141 then some (.rl (Qa8 (M.g.evs.length : Int) y.s)) else if y.t = 10 ∧ f = 143 ∧ y.i.length ≤ 6 then some (.rl (Qa8 (M.g.evs.length : Int) (mdL M.g y.i))) else none)
   else if x.t = 6 ∧ y.t = 6 then (if f = 138 then some (.rl (Qc4 x.r y.r)) else if f = 137 then some (.rl (Qen x.r y.r)) else none)
   else if x.t = 6 ∧ y.t = 7 ∧ f = 142 then some (.st (Qf4 x.r y.s)) else if x.t = 6 ∧ y.t = 8 ∧ f = 140 ∧ y.l.length ≤ 6 then some (.rl (Qa7 x.r y.l)) else none
 | _ => none
def Qqk (M : Md) (ρ : Nat → Option (List Nat)) (σ : Nat → PV) : Op → Option PV
 | .nilCheck x => if (pvA σ x).t = 1 then some (.at 1 0) else none
 | .fieldAddr ty x f => if ty = 119 ∧ (pvA σ x).t = 1 then (if f = 1 then some (.at 2 0) else if 2 ≤ f ∧ f < 7 then some (.at 12 (f - 2)) else none)
   else if ty = 115 ∧ (pvA σ x).t = 4 ∧ f < 13 then some (.at 5 f) else if ty = 115 ∧ (pvA σ x).t = 2 ∧ f < 13 then some (.at 14 f) else none
 | .load ty x => if ty = 42 ∧ (pvA σ x).t = 5 then (if (pvA σ x).k < 10 then some (.rl (M.Ls (pvA σ x).k)) else none)
   else if ty = 65 ∧ (pvA σ x).t = 5 then (if (pvA σ x).k = 10 then some (.st (Qba M.g 1)) else if (pvA σ x).k = 11 then some (.st (Qba M.g 2)) else if (pvA σ x).k = 12 then some (.st (Qba M.g 3)) else none)
   else if ty = 42 ∧ (pvA σ x).t = 12 ∧ (pvA σ x).k < 5 then (ρ (pvA σ x).k).map PV.rl
   else if ty = 42 ∧ (pvA σ x).t = 14 ∧ (pvA σ x).k < 10 then some (.rl (M.Ls (pvA σ x).k)) else if ty = 65 ∧ (pvA σ x).t = 14 then (if (pvA σ x).k = 10 then some (.st (Qba M.g 1)) else if (pvA σ x).k = 11 then some (.st (Qba M.g 2)) else if (pvA σ x).k = 12 then some (.st (Qba M.g 3)) else none) else none
 | .buildSlice ty n ps => if ps.toList.map (·.1) = List.range n ∧ 0 < n ∧ n ≤ 6 then
    (if ty = 56 ∧ ps.toList.all (fun p => (pvA σ p.2).t == 6) = true then some (.rs (ps.toList.map (fun p => (pvA σ p.2).r)))
     else if ty = 36 ∧ ps.toList.all (fun p => isK p.2) = true then some (.is (Qmi ps.toList)) else none) else none
 | .call ⟨.value (.func f), args, _⟩ => Qmj M f (args.toList.map (pvA σ))
 | _ => none
section
variable {M : Md} {ρ : Nat → Option (List Nat)} {N : Nat} {w : World} {a : Act} {σ : Nat → PV} {Q : Exit → Act → World → Prop} {dst : Option Tmp} {ty : TypeId} {pos : String} {af : Array Edge} {gd : Option (Nat × Bool)} {x y : Operand}
def Qi2 (M : Md) (N : Nat) (a : Act) (w : World) (d : Option Tmp) (av : PV) : Act → World → Prop := fun a' w' => ∃ v, a' = a.put d v ∧ PIs M N w' av v ∧ Below w.heap.size w w'
theorem Qfx (h : ∀ d, x = .tmp d → PIs M N w (σ d) (a.eval (.tmp d))) : PIs M N w (pvA σ x) (a.eval x) := by
 unfold pvA
 split
 ·exact h _ rfl
 ·exact trivial
theorem PIs.t {z : PV} {v : Value} {k : Nat} (h : PIs M N w z v) (ht : z.t = k) : PIs M N w ⟨k, z.k, z.r, z.l, z.s, z.i⟩ v := by
 rw [← ht]
 exact h
theorem Qql (b k : Nat) (u : Value) (w : World) (h : w.cell? ⟨b, k, none⟩ = some u) : (Instr.loadAt 42 (.pointer (some ⟨b, k, none⟩))).run Tryz.prog w = .ok u w := by
 go_simp
theorem Qwg (b k : Nat) (u : Value) (w : World) (h : w.cell? ⟨b, k, none⟩ = some u) : (Instr.loadAt 65 (.pointer (some ⟨b, k, none⟩))).run Tryz.prog w = .ok u w := by
 go_simp
theorem QBu (n : Nat) (bs : Nat → Nat) (br bw bf : Nat) {k : Nat} (hk : k < 10) : (fxC n bs br bw bf)[k]? = some (pv (bs k)) := by
 match k, hk with
 | 0, _ => rfl
 | 1, _ => rfl
 | 2, _ => rfl
 | 3, _ => rfl
 | 4, _ => rfl
 | 5, _ => rfl
 | 6, _ => rfl
 | 7, _ => rfl
 | 8, _ => rfl
 | 9, _ => rfl
 | n + 10, h => omega
theorem QCz (V : GrV) (g : Gr) (bs : Nat → Nat) (br bw bf : Nat) (r : Nat → Value) {k : Nat} (hk : k < 10) : (moC V g bs br bw bf r)[8 + k]? = some (pv (bs k)) := by
 match k, hk with
 | 0, _ => rfl
 | 1, _ => rfl
 | 2, _ => rfl
 | 3, _ => rfl
 | 4, _ => rfl
 | 5, _ => rfl
 | 6, _ => rfl
 | 7, _ => rfl
 | 8, _ => rfl
 | 9, _ => rfl
 | n + 10, h => omega
theorem QBv (V : GrV) (g : Gr) (bs : Nat → Nat) (br bw bf : Nat) (r : Nat → Value) {k : Nat} (hk : k < 5) : (moC V g bs br bw bf r)[21 + k]? = some (r k) := by
 match k, hk with
 | 0, _ => rfl
 | 1, _ => rfl
 | 2, _ => rfl
 | 3, _ => rfl
 | 4, _ => rfl
 | n + 5, h => omega
theorem QBw (l : List Nat) (h : l.length ≤ 6) (h0 : 0 < l.length) (W : World) : (Instr.buildSlice 56 l.length (List.zip (List.range l.length) (l.map pv)).toArray).run Tryz.prog W = .ok (.slice (some ⟨W.heap.size, 0, none⟩) l.length l.length) (W.alloc (.cells (l.map pv).toArray 42)) := by
 match l, h, h0 with
 | [a], _, _ => exact (show _ = _ by kernel_rfl)
 | [a, b], _, _ => exact (show _ = _ by kernel_rfl)
 | [a, b, c], _, _ => exact (show _ = _ by kernel_rfl)
 | [a, b, c, d], _, _ => exact (show _ = _ by kernel_rfl)
 | [a, b, c, d, e], _, _ => exact (show _ = _ by kernel_rfl)
 | [a, b, c, d, e, f], _, _ => exact (show _ = _ by kernel_rfl)
 | a :: b :: c :: d :: e :: f :: g :: l, h, _ => simp at h
theorem QBx (l : List Int) (h : l.length ≤ 6) (h0 : 0 < l.length) (W : World) : (Instr.buildSlice 36 l.length (List.zip (List.range l.length) (l.map (Value.int .i64))).toArray).run Tryz.prog W = .ok (.slice (some ⟨W.heap.size, 0, none⟩) l.length l.length) (W.alloc (.cells (l.map (Value.int .i64)).toArray 3)) := by
 match l, h, h0 with
 | [a], _, _ => exact (show _ = _ by kernel_rfl)
 | [a, b], _, _ => exact (show _ = _ by kernel_rfl)
 | [a, b, c], _, _ => exact (show _ = _ by kernel_rfl)
 | [a, b, c, d], _, _ => exact (show _ = _ by kernel_rfl)
 | [a, b, c, d, e], _, _ => exact (show _ = _ by kernel_rfl)
 | [a, b, c, d, e, f], _, _ => exact (show _ = _ by kernel_rfl)
 | a :: b :: c :: d :: e :: f :: g :: l, h, _ => simp at h
theorem QC0 {w : World} {m : Nat} {V : GrV} {g : Gr} {bs : Nat → Nat} {br bw bf : Nat} {r : Nat → Value} (h : Blk w m 119 (moC V g bs br bw bf r)) : ∀ j v, (V.gs g)[j]? = some v → w.cell? ⟨m, j, none⟩ = some v := by
 intro j v hj
 match j, hj with
 | 0, hj => exact h.cell hj
 | 1, hj => exact h.cell hj
 | 2, hj => exact h.cell hj
 | 3, hj => exact h.cell hj
 | 4, hj => exact h.cell hj
 | 5, hj => exact h.cell hj
 | 6, hj => exact h.cell hj
 | 7, hj => exact h.cell hj
 | n + 8, hj => simp [GrV.gs] at hj
theorem Qss : ∀ (l : List (Nat × Operand)), (∀ p ∈ l, NRel M.B w (a.eval p.2) (pvA σ p.2).r) → ∃ rs : List (Nat × Nat × List Nat), l.map (fun p => a.eval p.2) = (rs.map (·.1)).map pv ∧ rs.map (·.2.2) = l.map (fun p => (pvA σ p.2).r) ∧ Rels w rs
 | [], _ => ⟨[], rfl, rfl, Rels.nil _⟩
 | p :: l, h => by
  obtain ⟨rs, h1, h2, h3⟩ := Qss l (fun q hq => h q (List.mem_cons_of_mem _ hq))
  obtain ⟨b, c, e, -, hr⟩ := h p List.mem_cons_self
  exact ⟨(b, c, (pvA σ p.2).r) :: rs, by simp only [List.map_cons, h1, e], by simp only [List.map_cons, h2], h3.cons hr⟩
theorem Qfy {f : FuncId} {args : Array Value} {L : List Nat} (hB : M.B ≤ w.heap.size) (D : Calls Tryz.prog f args w fun e w' => ∃ b c, e = .returned (pv b) ∧ Made w w' b c L) :
  Calls Tryz.prog f args w (fun e w'' => ∃ v, e = .returned v ∧ Qi2 M N a w dst (.rl L) (a.put dst v) w'') :=
 D.mono fun _ _ ⟨b, c, h1, h2⟩ => ⟨pv b, h1, pv b, rfl, ⟨b, c, rfl, ⟨Nat.le_trans hB h2.hb, Nat.le_trans hB h2.hc⟩, h2.rel⟩, h2.below⟩
end
set_option maxRecDepth 100000
section
variable {M : Md} {ρ : Nat → Option (List Nat)} {N : Nat} {w : World} {a : Act} {σ : Nat → PV} {Q : Exit → Act → World → Prop} {dst : Option Tmp} {ty : TypeId} {pos : String} {af : Array Edge} {gd : Option (Nat × Bool)} {x y : Operand} {tys : Array TypeId}
theorem Qt5 {W : World} {base : Nat} {v : Value} {l : List Bool} (h : W.ownsRow base 4 1 v l.length (l.map Value.bool)) : SetAt W v l := by
 rcases h.2 with ⟨rfl, e⟩ | ⟨g, cap, cur, rfl, hg, hb, h1, h2, h3, h4⟩
 ·exact .inl ⟨_, _, rfl, List.eq_nil_of_length_eq_zero e⟩
 ·refine .inr ⟨g, 0, cap, rfl, ⟨(Array.getElem?_eq_some_iff.1 hb).1, fun i x hx => ?_⟩⟩
  have hi : i < l.length := (List.getElem?_eq_some_iff.1 hx).1
  have h5 : (l.map Value.bool)[i]? = some (.bool x) := by simp [hx]
  rw [← h4, List.getElem?_take, if_pos oW] at h5
  rw [Nat.zero_add]
  exact Blk.cell hb (by simpa using h5)
theorem QC1 (m : Nat) (w : World) : (Instr.fieldAt 119 (pv m) 1).run Tryz.prog w = .ok (.pointer (some ⟨m, 8, none⟩)) w := by kernel_rfl
theorem QC2 (m : Nat) (w : World) {f : Nat} (h2 : 2 ≤ f) (hf : f < 7) : (Instr.fieldAt 119 (pv m) f).run Tryz.prog w = .ok (.pointer (some ⟨m, 21 + (f - 2), none⟩)) w := by
 match f, h2, hf with
 | 2, _, _ => exact (show _ = _ by kernel_rfl)
 | 3, _, _ => exact (show _ = _ by kernel_rfl)
 | 4, _, _ => exact (show _ = _ by kernel_rfl)
 | 5, _, _ => exact (show _ = _ by kernel_rfl)
 | 6, _, _ => exact (show _ = _ by kernel_rfl)
 | n + 7, _, h => omega
theorem QC3 (b : Nat) (w : World) {f : Nat} (hf : f < 13) : (Instr.fieldAt 115 (pv b) f).run Tryz.prog w = .ok (.pointer (some ⟨b, f, none⟩)) w := by
 match f, hf with
 | 0, _ => exact (show _ = _ by kernel_rfl)
 | 1, _ => exact (show _ = _ by kernel_rfl)
 | 2, _ => exact (show _ = _ by kernel_rfl)
 | 3, _ => exact (show _ = _ by kernel_rfl)
 | 4, _ => exact (show _ = _ by kernel_rfl)
 | 5, _ => exact (show _ = _ by kernel_rfl)
 | 6, _ => exact (show _ = _ by kernel_rfl)
 | 7, _ => exact (show _ = _ by kernel_rfl)
 | 8, _ => exact (show _ = _ by kernel_rfl)
 | 9, _ => exact (show _ = _ by kernel_rfl)
 | 10, _ => exact (show _ = _ by kernel_rfl)
 | 11, _ => exact (show _ = _ by kernel_rfl)
 | 12, _ => exact (show _ = _ by kernel_rfl)
 | n + 13, h => omega
theorem QC4 (b : Nat) (w : World) {f : Nat} (hf : f < 13) : (Instr.fieldAt 115 (.pointer (some ⟨b, 8, none⟩)) f).run Tryz.prog w = .ok (.pointer (some ⟨b, 8 + f, none⟩)) w := by
 match f, hf with
 | 0, _ => exact (show _ = _ by kernel_rfl)
 | 1, _ => exact (show _ = _ by kernel_rfl)
 | 2, _ => exact (show _ = _ by kernel_rfl)
 | 3, _ => exact (show _ = _ by kernel_rfl)
 | 4, _ => exact (show _ = _ by kernel_rfl)
 | 5, _ => exact (show _ = _ by kernel_rfl)
 | 6, _ => exact (show _ = _ by kernel_rfl)
 | 7, _ => exact (show _ = _ by kernel_rfl)
 | 8, _ => exact (show _ = _ by kernel_rfl)
 | 9, _ => exact (show _ = _ by kernel_rfl)
 | 10, _ => exact (show _ = _ by kernel_rfl)
 | 11, _ => exact (show _ = _ by kernel_rfl)
 | 12, _ => exact (show _ = _ by kernel_rfl)
 | n + 13, h => omega
theorem QBy (u v : Value) (w : World) : (callFunc 141 #[u, v]).run Tryz.prog w = .ok (.enter 141 #[u, v]) w := by kernel_rfl
theorem QBz (u v : Value) (w : World) : (callFunc 143 #[u, v]).run Tryz.prog w = .ok (.enter 143 #[u, v]) w := by kernel_rfl
theorem QAa (u v : Value) (w : World) : (callFunc 140 #[u, v]).run Tryz.prog w = .ok (.enter 140 #[u, v]) w := by kernel_rfl
theorem QAb (u v : Value) (w : World) : (callFunc 142 #[u, v]).run Tryz.prog w = .ok (.enter 142 #[u, v]) w := by kernel_rfl
theorem QAc (u v : Value) (w : World) : (callFunc 138 #[u, v]).run Tryz.prog w = .ok (.enter 138 #[u, v]) w := by kernel_rfl
theorem QAd (u v : Value) (w : World) : (callFunc 137 #[u, v]).run Tryz.prog w = .ok (.enter 137 #[u, v]) w := by kernel_rfl
theorem QAe (u : Value) (w : World) : (callFunc 139 #[u]).run Tryz.prog w = .ok (.enter 139 #[u]) w := by kernel_rfl
theorem QAf (u : Value) (w : World) : (callFunc 29 #[u]).run Tryz.prog w = .ok (.enter 29 #[u]) w := by kernel_rfl
theorem Qyh (hG : PG M ρ w) {f : Nat} {av : PV} (h : Qmj M f [pvA σ x] = some av) (hx : PIs M N w (pvA σ x) (a.eval x)) : Oper.wp Tryz.prog ⟨dst, .call ⟨.value (.func f), #[x], tys⟩, ty, pos, af, gd⟩ a w (Qi2 M N a w dst av) Q := by
 unfold Qmj at h
 dsimp only at h
 by_cases t : (pvA σ x).t = 6
 ·rw [if_pos t] at h
  obtain ⟨b, c, e, -, hr⟩ : NRel M.B w (a.eval x) (pvA σ x).r := hx.t t
  by_cases e4 : f = 139
  ·subst e4; rw [if_pos rfl] at h; cases h
   refine Qb6 (Qjz e QAe) ((Qkq b c _ w hr hG.tab).mono ?_)
   rintro e w' ⟨v, out, rfl, h2, h3, h4⟩
   exact ⟨v, rfl, v, rfl, ⟨out, h2, Qa6 h3 hG.hB⟩, h4⟩
  rw [if_neg e4] at h; cases h
 ·rw [if_neg t] at h
  by_cases t2 : (pvA σ x).t = 8 ∧ f = 29 ∧ (pvA σ x).l.length ≤ 6
  ·rw [if_pos t2] at h; cases h
   obtain ⟨t2, rfl, hl⟩ := t2
   obtain ⟨s, rs, e, h1, h2⟩ : ∃ (s : Nat) (rs : List (Nat × Nat × List Nat)), a.eval x = .slice (some ⟨s, 0, none⟩) rs.length rs.length ∧ RelsAt w s rs ∧ rs.map (·.2.2) = (pvA σ x).l := hx.t t2
   have hl2 : rs.length ≤ 1000 := by have := congrArg List.length h2; rw [List.length_map] at this; omega
   have D := Qhp s rs w h1 hl2
   rw [h2] at D
   exact Qb6 (Qjz e QAf) (Qfy hG.hB D)
  ·rw [if_neg t2] at h; cases h
theorem Qyi (hG : PG M ρ w) {f : Nat} {av : PV} (h : Qmj M f [pvA σ x, pvA σ y] = some av) (hx : PIs M N w (pvA σ x) (a.eval x)) (hy : PIs M N w (pvA σ y) (a.eval y)) : Oper.wp Tryz.prog ⟨dst, .call ⟨.value (.func f), #[x, y], tys⟩, ty, pos, af, gd⟩ a w (Qi2 M N a w dst av) Q := by
 unfold Qmj at h
 dsimp only at h
 by_cases t : (pvA σ x).t = 1
 ·rw [if_pos t] at h
  have e : a.eval x = pv M.m := hx.t t
  obtain ⟨r, hmo, -⟩ := hG.mo
  obtain ⟨p1, k1, e1, -, -⟩ := hG.gr.ev
  by_cases t2 : (pvA σ y).t = 7 ∧ f = 141
  ·rw [if_pos t2] at h; cases h
   obtain ⟨t2, rfl⟩ := t2
   have e2 : SetAt w (a.eval y) (pvA σ y).s := hy.t t2
   have hc : w.cell? ⟨M.m, 1, none⟩ = some (.slice p1 M.g.evs.length k1) := by rw [← e1]; exact hmo.cell rfl
   exact Qb6 (Qe2 e rfl QBy) (Qfy hG.hB (Qjy M.m _ k1 p1 _ _ w hc e2 hG.tab))
  rw [if_neg t2] at h
  by_cases t3 : (pvA σ y).t = 10 ∧ f = 143 ∧ (pvA σ y).i.length ≤ 6
  ·rw [if_pos t3] at h; cases h
   obtain ⟨t3, rfl, hl⟩ := t3
   have hu : IntsR w (a.eval y) (pvA σ y).i := hy.t t3
   exact Qb6 (Qe2 e rfl QBz) (Qfy hG.hB (Qp3 M.m M.V M.g _ _ w hG.gr (QC0 hmo) hu oW hG.tab))
  rw [if_neg t3] at h; cases h
 rw [if_neg t] at h
 by_cases t2 : (pvA σ x).t = 6 ∧ (pvA σ y).t = 6
 ·rw [if_pos t2] at h
  obtain ⟨b, c, e, -, hr⟩ : NRel M.B w (a.eval x) (pvA σ x).r := hx.t t2.1
  obtain ⟨b2, c2, e2, -, hr2⟩ : NRel M.B w (a.eval y) (pvA σ y).r := hy.t t2.2
  by_cases e3 : f = 138
  ·subst e3; rw [if_pos rfl] at h; cases h
   exact Qb6 (Qe2 e e2 QAc) (Qfy hG.hB (Qkm b c b2 c2 _ _ w hr hr2))
  rw [if_neg e3] at h
  by_cases e4 : f = 137
  ·subst e4; rw [if_pos rfl] at h; cases h
   exact Qb6 (Qe2 e e2 QAd) (Qfy hG.hB (Qkn b c b2 c2 _ _ w hr hr2))
  rw [if_neg e4] at h; cases h
 rw [if_neg t2] at h
 by_cases t7 : (pvA σ x).t = 6 ∧ (pvA σ y).t = 7 ∧ f = 142
 ·rw [if_pos t7] at h; cases h
  obtain ⟨t3, t4, rfl⟩ := t7
  obtain ⟨b, c, e, -, hr⟩ : NRel M.B w (a.eval x) (pvA σ x).r := hx.t t3
  have e2 : SetAt w (a.eval y) (pvA σ y).s := hy.t t4
  refine Qb6 (Qe2 e rfl QAb) ((Qrg b c _ _ _ w hr e2 hG.tab).mono ?_)
  rintro e w' ⟨v', rfl, ho, hb⟩
  exact ⟨v', rfl, v', rfl, Qt5 ho, hb⟩
 rw [if_neg t7] at h
 by_cases t3 : (pvA σ x).t = 6 ∧ (pvA σ y).t = 8 ∧ f = 140 ∧ (pvA σ y).l.length ≤ 6
 ·rw [if_pos t3] at h; cases h
  obtain ⟨t3, t4, rfl, hl⟩ := t3
  obtain ⟨b, c, e, hn, hr⟩ : NRel M.B w (a.eval x) (pvA σ x).r := hx.t t3
  obtain ⟨s, rs, e2, h1, h2⟩ : ∃ (s : Nat) (rs : List (Nat × Nat × List Nat)), a.eval y = .slice (some ⟨s, 0, none⟩) rs.length rs.length ∧ RelsAt w s rs ∧ rs.map (·.2.2) = (pvA σ y).l := hy.t t4
  have hl2 : rs.length ≤ 1000 := by have := congrArg List.length h2; rw [List.length_map] at this; omega
  have D := Qje b c s _ rs w hr h1 hl2 hG.tab M.B ⟨hn.1, hn.2, hG.hB⟩
  rw [h2] at D
  refine Qb6 (Qe2 e e2 QAa) (D.mono ?_)
  rintro e w' ⟨b, c, rfl, h4, h5, h6⟩
  exact ⟨pv b, rfl, pv b, rfl, ⟨b, c, rfl, h4, h5⟩, h6⟩
 ·rw [if_neg t3] at h; cases h
theorem Qqm (hG : PG M ρ w) {o : Oper} {av : PV} (h : Qqk M ρ σ o.op = some av) (hx : ∀ d ∈ Qcs o.op.operands.toList, PIs M N w (σ d) (a.eval (.tmp d))) : o.wp Tryz.prog a w (Qi2 M N a w o.dst av) Q := by
 obtain ⟨dst, op, ty, pos, af, gd⟩ := o
 dsimp only at h hx ⊢
 have hB := Below.refl w.heap.size w
 unfold Qqk at h
 split at h
 ·rename_i x
  have hi := Qfx (x := x) (fun d e => hx d (Qal.2 (by simp [Op.operands, e])))
  by_cases t : (pvA σ x).t = 1
  ·rw [if_pos t] at h; cases h
   have e : a.eval x = pv M.m := hi.t t
   refine Qbn (v := pv M.m) (w' := w) ?_ ⟨_, rfl, rfl, hB⟩
   generalize a.eval = q at *
   go_simp
  ·rw [if_neg t] at h; cases h
 ·rename_i t x f
  have hi := Qfx (x := x) (fun d e => hx d (Qal.2 (by simp [Op.operands, e])))
  by_cases c1 : t = 119 ∧ (pvA σ x).t = 1
  ·rw [if_pos c1] at h
   obtain ⟨rfl, c1⟩ := c1
   have e : a.eval x = pv M.m := hi.t c1
   by_cases e1 : f = 1
   ·subst e1; rw [if_pos rfl] at h; cases h
    exact Qb1 (s := Instr.fieldAt 119 (a.eval x) 1) rfl (by rw [e]; exact QC1 _ _) ⟨_, rfl, rfl, hB⟩
   rw [if_neg e1] at h
   by_cases e2 : 2 ≤ f ∧ f < 7
   ·rw [if_pos e2] at h; cases h
    exact Qb1 (s := Instr.fieldAt 119 (a.eval x) f) rfl (by rw [e]; exact QC2 _ _ e2.1 e2.2) ⟨_, rfl, rfl, hB⟩
   rw [if_neg e2] at h; cases h
  rw [if_neg c1] at h
  by_cases c2 : t = 115 ∧ (pvA σ x).t = 4 ∧ f < 13
  ·rw [if_pos c2] at h; cases h
   obtain ⟨rfl, c2, hf⟩ := c2
   obtain ⟨b, e, hb⟩ : ∃ b, a.eval x = pv b ∧ Blk w b 115 M.fx := hi.t c2
   exact Qb1 (s := Instr.fieldAt 115 (a.eval x) f) rfl (by rw [e]; exact QC3 _ _ hf) ⟨_, rfl, ⟨b, rfl, hb⟩, hB⟩
  rw [if_neg c2] at h
  by_cases c9 : t = 115 ∧ (pvA σ x).t = 2 ∧ f < 13
  ·rw [if_pos c9] at h; cases h
   obtain ⟨rfl, c9, hf⟩ := c9
   have e : a.eval x = .pointer (some ⟨M.m, 8, none⟩) := hi.t c9
   exact Qb1 (s := Instr.fieldAt 115 (a.eval x) f) rfl (by rw [e]; exact QC4 _ _ hf) ⟨_, rfl, rfl, hB⟩
  rw [if_neg c9] at h
  cases h
 ·rename_i t x
  have hi := Qfx (x := x) (fun d e => hx d (Qal.2 (by simp [Op.operands, e])))
  by_cases c4 : t = 42 ∧ (pvA σ x).t = 5
  ·rw [if_pos c4] at h
   obtain ⟨rfl, c4⟩ := c4
   obtain ⟨b, e, hb⟩ : ∃ b, a.eval x = .pointer (some ⟨b, (pvA σ x).k, none⟩) ∧ Blk w b 115 M.fx := hi.t c4
   by_cases hk : (pvA σ x).k < 10
   ·rw [if_pos hk] at h; cases h
    exact Qb1 (s := Instr.loadAt 42 (a.eval x)) rfl (by rw [e]; exact Qql _ _ _ _ (hb.cell (QBu _ _ _ _ _ hk))) ⟨_, rfl, hG.E _ hk, hB⟩
   ·rw [if_neg hk] at h; cases h
  rw [if_neg c4] at h
  by_cases c5 : t = 65 ∧ (pvA σ x).t = 5
  ·rw [if_pos c5] at h
   obtain ⟨rfl, c5⟩ := c5
   obtain ⟨b, e, hb⟩ : ∃ b, a.eval x = .pointer (some ⟨b, (pvA σ x).k, none⟩) ∧ Blk w b 115 M.fx := hi.t c5
   have key : ∀ (j : Int) (bj : Nat), M.fx[(pvA σ x).k]? = some (.slice (some ⟨bj, 0, none⟩) M.g.evs.length M.g.evs.length) → Blk w bj 4 (Qax (Qba M.g j)) → Oper.wp Tryz.prog ⟨dst, .load 65 x, ty, pos, af, gd⟩ a w (Qi2 M N a w dst (.st (Qba M.g j))) Q := fun j bj h1 h2 =>
    Qb1 (s := Instr.loadAt 65 (a.eval x)) rfl (by rw [e]; exact Qwg _ _ _ _ (hb.cell h1)) ⟨_, rfl, Qsk h2, hB⟩
   by_cases k1 : (pvA σ x).k = 10
   ·rw [if_pos k1] at h; cases h
    exact key 1 M.br (by rw [k1]; rfl) hG.rd
   rw [if_neg k1] at h
   by_cases k2 : (pvA σ x).k = 11
   ·rw [if_pos k2] at h; cases h
    exact key 2 M.bw (by rw [k2]; rfl) hG.wt
   rw [if_neg k2] at h
   by_cases k3 : (pvA σ x).k = 12
   ·rw [if_pos k3] at h; cases h
    exact key 3 M.bf (by rw [k3]; rfl) hG.fe
   rw [if_neg k3] at h; cases h
  rw [if_neg c5] at h
  by_cases c6 : t = 42 ∧ (pvA σ x).t = 12 ∧ (pvA σ x).k < 5
  ·rw [if_pos c6] at h
   obtain ⟨rfl, c6, hk⟩ := c6
   have e : a.eval x = .pointer (some ⟨M.m, 21 + (pvA σ x).k, none⟩) := hi.t c6
   obtain ⟨r, hmo, hr⟩ := hG.mo
   cases hρ : ρ (pvA σ x).k with
   | none => rw [hρ] at h; cases h
   | some L =>
    rw [hρ] at h; cases h
    exact Qb1 (s := Instr.loadAt 42 (a.eval x)) rfl (by rw [e]; exact Qql _ _ _ _ (hmo.cell (QBv _ _ _ _ _ _ _ hk))) ⟨_, rfl, hr _ L hρ, hB⟩
  rw [if_neg c6] at h
  by_cases c9 : t = 42 ∧ (pvA σ x).t = 14 ∧ (pvA σ x).k < 10
  ·rw [if_pos c9] at h; cases h
   obtain ⟨rfl, c9, hk⟩ := c9
   have e : a.eval x = .pointer (some ⟨M.m, 8 + (pvA σ x).k, none⟩) := hi.t c9
   obtain ⟨r, hmo, -⟩ := hG.mo
   exact Qb1 (s := Instr.loadAt 42 (a.eval x)) rfl (by rw [e]; exact Qql _ _ _ _ (hmo.cell (QCz _ _ _ _ _ _ _ hk))) ⟨_, rfl, hG.E _ hk, hB⟩
  rw [if_neg c9] at h
  by_cases c10 : t = 65 ∧ (pvA σ x).t = 14
  ·rw [if_pos c10] at h
   obtain ⟨rfl, c10⟩ := c10
   have e : a.eval x = .pointer (some ⟨M.m, 8 + (pvA σ x).k, none⟩) := hi.t c10
   obtain ⟨r, hmo, -⟩ := hG.mo
   have key : ∀ (j : Int) (bj : Nat), (moC M.V M.g M.bs M.br M.bw M.bf r)[8 + (pvA σ x).k]? = some (.slice (some ⟨bj, 0, none⟩) M.g.evs.length M.g.evs.length) → Blk w bj 4 (Qax (Qba M.g j)) → Oper.wp Tryz.prog ⟨dst, .load 65 x, ty, pos, af, gd⟩ a w (Qi2 M N a w dst (.st (Qba M.g j))) Q := fun j bj h1 h2 =>
    Qb1 (s := Instr.loadAt 65 (a.eval x)) rfl (by rw [e]; exact Qwg _ _ _ _ (hmo.cell h1)) ⟨_, rfl, Qsk h2, hB⟩
   by_cases k1 : (pvA σ x).k = 10
   ·rw [if_pos k1] at h; cases h
    exact key 1 M.br (by rw [k1]; rfl) hG.rd
   rw [if_neg k1] at h
   by_cases k2 : (pvA σ x).k = 11
   ·rw [if_pos k2] at h; cases h
    exact key 2 M.bw (by rw [k2]; rfl) hG.wt
   rw [if_neg k2] at h
   by_cases k3 : (pvA σ x).k = 12
   ·rw [if_pos k3] at h; cases h
    exact key 3 M.bf (by rw [k3]; rfl) hG.fe
   rw [if_neg k3] at h; cases h
  ·rw [if_neg c10] at h; cases h
 ·rename_i t n ps
  by_cases c7 : ps.toList.map (·.1) = List.range n ∧ 0 < n ∧ n ≤ 6
  ·rw [if_pos c7] at h
   obtain ⟨c1, c2, c3⟩ := c7
   have hln : ps.toList.length = n := by have := congrArg List.length c1; rw [List.length_map, List.length_range] at this; exact this
   by_cases d : t = 56 ∧ ps.toList.all (fun p => (pvA σ p.2).t == 6) = true
   ·rw [if_pos d] at h; cases h
    obtain ⟨rfl, d⟩ := d
    obtain ⟨rs, h1, h2, h3⟩ := Qss (M := M) (w := w) (a := a) (σ := σ) ps.toList (fun p hp => by
     have h6 : (pvA σ p.2).t = 6 := by simpa using List.all_eq_true.1 d p hp
     exact PIs.t (k := 6) (Qfx (M := M) (N := N) (x := p.2) (fun d e => hx d (Qal.2 (by simp [Op.operands]; exact ⟨p.1, by rw [← e]; exact Array.mem_toList_iff.1 hp⟩)))) h6)
    have hl : rs.length = n := by have := congrArg List.length h2; rw [List.length_map, List.length_map] at this; omega
    subst hl
    have hr := QBw (rs.map (·.1)) (by simpa using c3) (by simpa using c2) w
    rw [List.length_map] at hr
    refine Qwe c1 h1 hr ⟨_, rfl, ⟨w.heap.size, rs, rfl, ?_, h2⟩, hB.alloc nW _⟩
    rw [List.map_map]
    exact Qm6 rs h3
   rw [if_neg d] at h
   by_cases d2 : t = 36 ∧ ps.toList.all (fun p => isK p.2) = true
   ·rw [if_pos d2] at h; cases h
    obtain ⟨rfl, d2⟩ := d2
    have h1 : ps.toList.map (fun p => a.eval p.2) = (Qmi ps.toList).map (Value.int .i64) := by
     unfold Qmi
     rw [List.map_map]
     exact List.map_congr_left (fun p hp => Qyg (List.all_eq_true.1 d2 p hp))
    have hl : (Qmi ps.toList).length = n := by unfold Qmi; rw [List.length_map]; exact hln
    subst hl
    exact Qwe c1 h1 (QBx _ c3 c2 w) ⟨_, rfl, Qzx w _, hB.alloc nW _⟩
   ·rw [if_neg d2] at h; cases h
  ·rw [if_neg c7] at h; cases h
 ·rename_i f args tys
  obtain ⟨l⟩ := args
  match l, h, hx with
  | [], h, _ => cases h
  | [x], h, hx => exact Qyh hG h (Qfx (fun d e => hx d (Qal.2 (by simp [Op.operands, Call.operands, e]))))
  | [x, y], h, hx => exact Qyi hG h (Qfx (fun d e => hx d (Qal.2 (by simp [Op.operands, Call.operands, e])))) (Qfx (fun d e => hx d (Qal.2 (by simp [Op.operands, Call.operands, e]))))
  | x :: y :: z :: l, h, _ => cases h
 ·cases h
end
def pE (M : Md) (ws : World) (ρ : Nat → Option (List Nat)) : Eng Tryz.prog PV where
 Is := PIs M
 G w := PG M ρ w ∧ Touch M.m ws w
 isNo x := x.t == 0
 nw x := !(x.t == 0 || (x.t == 1 || (x.t == 4 || (x.t == 6 || x.t == 7))))
 isB _ := false
 bv _ := false
 con _ := .at 0 0
 pk _ _ _ := none
 opR := Qqk M ρ
 pre _ _ := none
 mono := PIs.mono
 gmono h hb := ⟨h.1.mono hb, h.2.step hb⟩
 any := fun {_ _ x _} h => by
  obtain ⟨t, k, r, l, s, i⟩ := x
  have : t = 0 := by simpa using h
  subst this
  exact trivial
 chg := fun {_ _ _ x _} h hi => by
  obtain ⟨t, k, r, l, s, i⟩ := x
  unfold PIs at hi ⊢
  simp at h
  by_cases e0 : t = 0
  ·subst e0; exact hi
  by_cases e1 : t = 1
  ·subst e1; exact hi
  by_cases e4 : t = 4
  ·subst e4; exact hi
  by_cases e6 : t = 6
  ·subst e6; exact hi
  obtain rfl : t = 7 := by omega
  exact hi
 bool := fun h => by cases h
 conOk := fun _ => trivial
 pkOk := fun h => by cases h
 ok := fun hG _ h _ hx => Qqm hG.1 h hx
def Qt6 (ρ : Nat → Option (List Nat)) (j : Nat) (L : List Nat) : Nat → Option (List Nat) := fun x => if x = j then some L else ρ x
theorem Qb {P : Program} {A : Type} {E : Eng P A} (h : ∀ σ o, E.pre σ o = none) {ops : Array Oper} {τ : Nat → A} : ∀ (l : List Oper) (g : List (List (Nat × Bool))) (σ : Nat → A), E.vcT ops τ l g σ
 | [], _, _ => trivial
 | o :: l, g, σ => by
  unfold Eng.vcT
  rw [h]
  exact Qb h l _ _
section
variable {M : Md} {ρ : Nat → Option (List Nat)} {T : Nat} {ws w0 w : World} {a : Act} {σ : Nat → PV} {ops : Array Oper} {Q : Exit → Act → World → Prop} {id : Nat} {b : Bool} {c2 : Code}
theorem Qyj {w : World} {b c m j : Nat} {L : List Nat} {old : Array Value} (h : IsRel w b c L) (hm : Blk w m 119 old) (u : Value) : IsRel (w.setCell ⟨m, j, none⟩ u) b c L :=
 ⟨h.ne, h.head.setOther (a := ⟨m, j, none⟩) (Qav h.head hm dW) u, h.rows.setOther (a := ⟨m, j, none⟩) (Qav h.rows hm dW) u, h.len, h.low⟩
theorem NRel.setM {B : Nat} {w : World} {m j : Nat} {v : Value} {L : List Nat} {old : Array Value} (h : NRel B w v L) (hm : Blk w m 119 old) (u : Value) : NRel B (w.setCell ⟨m, j, none⟩ u) v L := by
 obtain ⟨b, c, h1, h2, h3⟩ := h
 exact ⟨b, c, h1, h2, Qyj h3 hm u⟩
theorem PG.less {ρ' : Nat → Option (List Nat)} (h : PG M ρ w) (hr : ∀ j L, ρ' j = some L → ρ j = some L) : PG M ρ' w := by
 obtain ⟨r, h1, h2⟩ := h.mo
 exact ⟨h.tab, h.gr, ⟨r, h1, fun j L hj => h2 j L (hr j L hj)⟩, h.rd, h.wt, h.fe, h.E, h.hB⟩
theorem PG.put (h : PG M ρ w) (h0 : GrR w0 M.V M.g) (hT0 : Tab w0) (hm0 : w0.heap.size ≤ M.m) (hlow : Below w0.heap.size w0 w) {j : Nat} (hj : j < 5) {u : Value} {L : List Nat} (hu : NRel M.B w u L) : PG M (Qt6 ρ j L) (w.setCell ⟨M.m, 21 + j, none⟩ u) := by
 obtain ⟨r, hmo, hr⟩ := h.mo
 have hl := hlow.setCell (p := ⟨M.m, 21 + j, none⟩) hm0 u
 refine ⟨hT0.step' hl, h0.below hl, ⟨Qx2 r j u, ?_, fun i K hi => ?_⟩, h.rd.setOther (a := ⟨M.m, 21 + j, none⟩) (Qav h.rd hmo dW) u, h.wt.setOther (a := ⟨M.m, 21 + j, none⟩) (Qav h.wt hmo dW) u, h.fe.setOther (a := ⟨M.m, 21 + j, none⟩) (Qav h.fe hmo dW) u, fun i hi => (h.E i hi).setM hmo u, by simpa [World.setCell] using h.hB⟩
 ·have := hmo.set (21 + j) u
  rw [Qzy _ _ _ _ _ _ _ j hj] at this
  exact this
 ·unfold Qt6 at hi
  unfold Qx2
  by_cases e : i = j
  ·rw [if_pos e] at hi ⊢
   cases hi
   exact hu.setM hmo u
  ·rw [if_neg e] at hi ⊢
   exact (hr i K hi).setM hmo u
theorem wp_skip {P : Program} {o : Oper} {w' : World} {K : Act → World → Prop} (h : (execOp a.eval o).run P w = .ok .skip w') (hK : K (a.put o.dst undef) w') : o.wp P a w K Q := by
 unfold Oper.wp
 rw [h]
 exact hK
end
def Qcy : Nat → PV := Qb7 (fun _ => .at 0 0) [(0, .at 1 0)]
theorem ga1 {M : Md} {ρ : Nat → Option (List Nat)} {T : Nat} {ws w0 w : World} {a : Act} (hl : Below w0.heap.size w0 w) (hG : PG M ρ w) (ht : Touch M.m ws w) (e0 : a.eval (.tmp 0) = pv M.m) (hs : a.tmps.size = T) (hd : a.defers = []) : (pE M ws ρ).Ga T w0 Qcy a w := by
 refine ⟨hl, ⟨hG, ht⟩, fun d => ?_, fun d => ?_, hs, hd⟩
 ·show PIs M 0 w (Qcy d) _
  unfold Qcy
  rcases Qct (σ := fun _ => PV.at 0 0) (ks := [(0, .at 1 0)]) (x := d) with ⟨p, h1, rfl, h3⟩ | ⟨-, h2⟩
  ·rw [h3]
   obtain rfl := List.mem_singleton.1 h1
   exact e0
  ·rw [h2]
   exact trivial
 ·unfold Qcy
  rcases Qct (σ := fun _ => PV.at 0 0) (ks := [(0, .at 1 0)]) (x := d) with ⟨p, h1, rfl, h3⟩ | ⟨-, h2⟩
  ·rw [h3]
   obtain rfl := List.mem_singleton.1 h1
   rfl
  ·rw [h2]
   rfl
theorem QB0 {n : Nat} {F : Nat → Nat → Bool} {L M : List Nat} (h1 : TwR n F L) (h2 : TwR n F M) (w1 : WF L.length L) (w2 : WF M.length M) : L = M := by
 refine List.ext_getElem (by rw [h1.len, h2.len]) (fun i hi hj => ?_)
 have e1 : L[i] = gr L i := by have := Qbf hi; rw [List.getElem?_eq_getElem hi] at this; exact Option.some.inj this
 have e2 : M[i] = gr M i := by have := Qbf hj; rw [List.getElem?_eq_getElem hj] at this; exact Option.some.inj this
 rw [e1, e2]
 refine Nat.eq_of_testBit_eq (fun q => ?_)
 by_cases hq : q < n
 ·rw [← h1.same i q (by rw [← h1.len]; exact hi) hq, ← h2.same i q (by rw [← h2.len]; exact hj) hq]
 ·have f1 : (gr L i).testBit q = false := by
   cases e : (gr L i).testBit q
   ·rfl
   ·exact absurd (w1.low i q e) (by rw [h1.len]; exact hq)
  have f2 : (gr M i).testBit q = false := by
   cases e : (gr M i).testBit q
   ·rfl
   ·exact absurd (w2.low i q e) (by rw [h2.len]; exact hq)
  rw [f1, f2]
def Qnd (f : Nat → Bool) : Nat → Nat
 | 0 => 0
 | k + 1 => Qat (Qnd f k) k (f k)
theorem Qf (f : Nat → Bool) (k q : Nat) : (Qnd f k).testBit q = (decide (q < k) && f q) := by
 induction k with
 | zero => simp [Qnd]
 | succ k ih =>
  rw [Qnd, Qb2, ih]
  by_cases h : q = k
  ·subst h; simp
  ·rw [if_neg h]
   by_cases h2 : q < k
   ·rw [decide_eq_true h2, decide_eq_true (show q < k + 1 by omega)]
   ·rw [decide_eq_false h2, decide_eq_false (show ¬ q < k + 1 by omega)]
def Qdk (n : Nat) (F : Nat → Nat → Bool) : List Nat := (List.range n).map (fun p => Qnd (F p) n)
theorem Qep (n : Nat) (F : Nat → Nat → Bool) : (Qdk n F).length = n := by simp [Qdk]
theorem Qkg (n : Nat) (F : Nat → Nat → Bool) {p : Nat} (hp : p < n) : gr (Qdk n F) p = Qnd (F p) n := Qge (by simp [Qdk, hp])
theorem Qyk (n : Nat) (F : Nat → Nat → Bool) : TwR n F (Qdk n F) := ⟨Qep n F, fun p q hp hq => by rw [Qkg n F hp, Qf, decide_eq_true hq, Bool.true_and]⟩
theorem Qc8 (n : Nat) (F : Nat → Nat → Bool) : WF n (Qdk n F) := by
 refine ⟨Qep n F, fun p q h => ?_⟩
 have hp := Qa5 h
 rw [Qep] at hp
 unfold hs at h
 rw [Qkg n F hp, Qf, Bool.and_eq_true, decide_eq_true_iff] at h
 exact h.1
theorem Qeq {w : World} {b c n : Nat} {L : List Nat} {F : Nat → Nat → Bool} (hr : IsRel w b c L) (ht : TwR n F L) : L = Qdk n F :=
 QB0 ht (Qyk n F) (Qvh hr) (by rw [Qep]; exact Qc8 n F)
def LG (g : Gr) : Nat → List Nat
 | 0 => Qdk g.evs.length (poB g.evs)
 | 1 => Qdk g.evs.length (Qci g.rf)
 | 2 => Qdk g.evs.length (coB g)
 | 3 => Qdk g.evs.length (frB g)
 | 4 => Qdk g.evs.length (Qci g.rmw)
 | 5 => Qdk g.evs.length (Ql5 g.evs)
 | 6 => Qdk g.evs.length (Qhz g.evs)
 | 7 => Qdk g.evs.length (Qci g.addr)
 | 8 => Qdk g.evs.length (Qci g.dat)
 | _ => Qdk g.evs.length (Qci g.ctrl)
def Qht (f : Nat → List Int) : Nat → List Int
 | 0 => []
 | k + 1 => if (Qht f k).isEmpty then f k else Qht f k
theorem Qj0 {f : Nat → List Int} : ∀ {k : Nat}, (∀ a, a < k → f a = []) → Qht f k = []
 | 0, _ => rfl
 | k + 1, h => by rw [Qht, Qj0 (fun a ha => h a oW)]; exact h k oW
theorem Qoc {f : Nat → List Int} {i : Nat} (h : ∀ a, a < i → f a = []) (hi : f i ≠ []) : ∀ {k : Nat}, i < k → Qht f k = f i
 | 0, hk => by omega
 | k + 1, hk => by
  rw [Qht]
  by_cases e : i = k
  ·subst e
   rw [Qj0 h]
   rfl
  ·rw [Qoc h hi (k := k) oW]
   cases hf : f i with
   | nil => exact absurd hf hi
   | cons x t => rfl
def Qhe (B : List Nat) (p : Int × Int) : List Int := if Qdj B p.1 p.2 then [p.1, p.2] else []
def Qkh (B : List Nat) (l : List (Int × Int)) (i : Nat) : List Int := Qhe B (l.getD i (0, 0))
def Qi3 (B : List Nat) (l : List (Int × Int)) : List Int := Qht (Qkh B l) l.length
def upI (l : List Nat) : List Int := l.map (fun x => ((x : Nat) : Int))
theorem Qst {o : List Nat} (h : upI o = []) : o = [] := by
 cases o with
 | nil => rfl
 | cons x t => simp [upI] at h
theorem Qsu (l : List Nat) : Qaf (upI l) = Qc7 l := by simp [Qaf, upI, Qc7]
theorem Qy8 {W : World} {base s : Nat} {x : Int} (h : Blk W s 3 #[.int .i64 x]) (hb : base ≤ s) : W.ownsRow base 3 1 (.slice (some ⟨s, 0, none⟩) 1 1) ([x] : List Int).length (Qaf [x]) :=
 ⟨by simp [Qaf], .inr ⟨s, 1, _, rfl, hb, h, Nat.le_refl _, by decide, by simp, by simp [Qaf]⟩⟩
theorem QC5 {W : World} {base s : Nat} {x y : Int} (h : Blk W s 3 #[.int .i64 x, .int .i64 y]) (hb : base ≤ s) : W.ownsRow base 3 1 (.slice (some ⟨s, 0, none⟩) 2 2) ([x, y] : List Int).length (Qaf [x, y]) :=
 ⟨by simp [Qaf], .inr ⟨s, 2, _, rfl, hb, h, Nat.le_refl _, by decide, by simp, by simp [Qaf]⟩⟩
section
variable (g : Gr) (Ls : Nat → List Nat)
def wrI : List Nat := Qa8 (g.evs.length : Int) (Qba g 2)
def rdI : List Nat := Qa8 (g.evs.length : Int) (Qba g 1)
def mdI (ms : List Int) : List Nat := Qa8 (g.evs.length : Int) (mdL g ms)
def Qyl : List Nat := Qen (Ls 1) (Ls 6)
def Qym : List Nat := Qen (Ls 2) (Ls 6)
def QB1 : List Nat := Qc4 (Ls 1) (Ls 6)
def Qj1 : List Nat := Qc4 (Ls 2) (Ls 6)
def Qj2 : List Nat := Qc4 (Ls 3) (Ls 6)
def clL : Nat → List Nat
 | 0 => QB1 Ls
 | 1 => Qj1 Ls
 | 2 => Qj2 Ls
 | 3 => Ls 7
 | 4 => Ls 8
 | 5 => Qa7 (Ls 9) [wrI g]
 | 6 => Qa7 (Ls 7) [Ls 0, wrI g]
 | 7 => Qa7 (Qa1 [Ls 9, Ls 8]) [Qym Ls]
 | 8 => Qa7 (Qa1 [Ls 7, Ls 8]) [Qyl Ls]
 | 9 => Ls 4
 | 10 => Qa7 (Qa8 (g.evs.length : Int) (Qf4 (Ls 4) (Qba g 1))) [Qyl Ls, mdI g [12, 16]]
 | 11 => Qa7 (Ls 0) [mdI g [15], Ls 0]
 | 12 => Qa7 (rdI g) [Ls 0, mdI g [14], Ls 0]
 | 13 => Qa7 (mdI g [13]) [Ls 0, mdI g [12]]
 | 14 => Qa7 (mdI g [12, 16]) [Ls 0]
 | 15 => Qa7 (Ls 0) [mdI g [13]]
 | _ => Qa7 (Qa7 (Ls 0) [mdI g [13]]) [Qym Ls]
def Qfa : List Nat := Qa1 [clL g Ls 0, clL g Ls 1, clL g Ls 2]
def Qfj : List Nat := Qa1 [clL g Ls 3, clL g Ls 4, clL g Ls 5, clL g Ls 6, clL g Ls 7, clL g Ls 8]
def Qfk : List Nat := Qa1 [clL g Ls 9, clL g Ls 10]
def Qfl : List Nat := Qa1 [clL g Ls 11, clL g Ls 12, clL g Ls 13, clL g Ls 14, clL g Ls 15, clL g Ls 16]
def obL : List Nat := Qa1 [Qfa g Ls, Qfj g Ls, Qfk g Ls, Qfl g Ls]
def Qey : List Nat := Qa1 [Qc4 (Ls 0) (Ls 5), Ls 1, Ls 2, Ls 3]
def Qaq : Nat → Option (List Nat)
 | 0 => some (Qyl Ls)
 | 1 => some (Qym Ls)
 | 2 => some (QB1 Ls)
 | 3 => some (Qj1 Ls)
 | 4 => some (Qj2 Ls)
 | _ => none
end
def Qi4 (g : Gr) : List Int := Qi3 (Qa7 (Qj2 (LG g)) [Qj1 (LG g)]) g.rmw
def Qi5 (g : Gr) (ax : Int) (l : List Int) : Prop :=
 ∃ o1, Qdg (Qey (LG g)) o1 ∧ ((o1 ≠ [] ∧ ax = 1 ∧ l = upI o1) ∨ (o1 = [] ∧ ∃ o2, Qdg (obL g (LG g)) o2 ∧ ((o2 ≠ [] ∧ ax = 2 ∧ l = upI o2) ∨ (o2 = [] ∧ ((Qi4 g ≠ [] ∧ ax = 3 ∧ l = Qi4 g) ∨ (Qi4 g = [] ∧ ax = 0 ∧ l = []))))))
structure Mdl (w0 : World) (V : GrV) (g : Gr) (m : Nat) (bs : Nat → Nat) (br bw bf : Nat) (wk : World) : Prop where
 hm : w0.heap.size ≤ m
 low : Below w0.heap.size w0 wk
 pg : PG ⟨m, w0.heap.size, V, g, bs, br, bw, bf, LG g⟩ (Qaq (LG g)) wk
section
variable {w0 wk wk' : World} {V : GrV} {g : Gr} {m : Nat} {bs : Nat → Nat} {br bw bf : Nat}
theorem Mdl.below (h : Mdl w0 V g m bs br bw bf wk) (hb : Below wk.heap.size wk wk') : Mdl w0 V g m bs br bw bf wk' := ⟨h.hm, Qaa h.low h.low.size hb, h.pg.mono hb⟩
end
theorem QAg {g : Gr} (h : (chk g true).1 = 0) : wfB g = true := by
 unfold wfB
 rw [h]
 simp
theorem Qmk {P : Program} {ops : Array Oper} {rest : List Oper} {o : Oper} {a : Act} {w : World} {Q : Exit → Act → World → Prop} (hg : o.guard = none) (t : TypeId) (parts : Array (Nat × Operand)) (ho : o.op = .build t parts)
  (d : Option Tmp) (hd : o.dst = d) (cells : Array Value) (hf : P.built t (parts.map fun (i, x) => (i, a.eval x)).toList = some cells)
  (h : wpList P ops Q rest (a.put d (.agg cells)) w) : wpList P ops Q (o :: rest) a w := by
 subst hd
 refine wpList_build hg t parts ho (by rw [hf]; rfl) ?_
 rw [hf]
 exact h
theorem Qyn {g : Gr} {B : Nat} {v : Nat → Value} {f : Value} {lv : Nat → Nat} {w : World} (h : DerAt g B v f lv w) : ∃ (bs : Nat → Nat) (br bw bf : Nat), Qgq v f = fxC g.evs.length bs br bw bf ∧ (∀ i, i < 10 → NRel B w (pv (bs i)) (LG g i)) ∧
  Blk w br 4 (Qax (Qba g 1)) ∧ Blk w bw 4 (Qax (Qba g 2)) ∧ Blk w bf 4 (Qax (Qba g 3)) := by
 obtain ⟨b0, c0, L0, e0, r0, t0, x0, y0, -, -⟩ := (h.res 0 oW).rel oW
 obtain ⟨b1, c1, L1, e1, r1, t1, x1, y1, -, -⟩ := (h.res 1 oW).rel oW
 obtain ⟨b2, c2, L2, e2, r2, t2, x2, y2, -, -⟩ := (h.res 2 oW).rel oW
 obtain ⟨b3, c3, L3, e3, r3, t3, x3, y3, -, -⟩ := (h.res 3 oW).rel oW
 obtain ⟨b4, c4, L4, e4, r4, t4, x4, y4, -, -⟩ := (h.res 4 oW).rel oW
 obtain ⟨b5, c5, L5, e5, r5, t5, x5, y5, -, -⟩ := (h.res 5 oW).rel oW
 obtain ⟨b6, c6, L6, e6, r6, t6, x6, y6, -, -⟩ := (h.res 6 oW).rel oW
 obtain ⟨b7, c7, L7, e7, r7, t7, x7, y7, -, -⟩ := (h.res 7 oW).rel oW
 obtain ⟨b8, c8, L8, e8, r8, t8, x8, y8, -, -⟩ := (h.res 8 oW).rel oW
 obtain ⟨b9, c9, L9, e9, r9, t9, x9, y9, -, -⟩ := h.fr
 obtain ⟨d1, f1, k1, _⟩ := (h.res 9 oW).tru oW
 obtain ⟨d2, f2, k2, _⟩ := (h.res 10 oW).tru oW
 obtain ⟨d3, f3, k3, _⟩ := (h.res 11 oW).tru oW
 rw [Qhl] at f1 f2 f3
 have lo : ∀ i, i < 14 → B ≤ lv i := by
  intro i
  induction i with
  | zero => intro _; exact h.bot
  | succ i ih => intro hi; exact Nat.le_trans (ih oW) (h.mono i oW)
 have q0 : L0 = LG g 0 := Qeq r0 t0
 have q1 : L1 = LG g 1 := Qeq r1 t1
 have q2 : L2 = LG g 2 := Qeq r2 t2
 have q3 : L3 = LG g 4 := Qeq r3 t3
 have q4 : L4 = LG g 5 := Qeq r4 t4
 have q5 : L5 = LG g 6 := Qeq r5 t5
 have q6 : L6 = LG g 7 := Qeq r6 t6
 have q7 : L7 = LG g 8 := Qeq r7 t7
 have q8 : L8 = LG g 9 := Qeq r8 t8
 have q9 : L9 = LG g 3 := Qeq r9 t9
 rw [q0] at r0
 rw [q1] at r1
 rw [q2] at r2
 rw [q3] at r3
 rw [q4] at r4
 rw [q5] at r5
 rw [q6] at r6
 rw [q7] at r7
 rw [q8] at r8
 rw [q9] at r9
 refine ⟨fun i => [b0, b1, b2, b9, b3, b4, b5, b6, b7, b8].getD i 0, d1, d2, d3, ?_, fun i hi => ?_, k1, k2, k3⟩
 ·unfold Qgq fxC
  rw [e0, e1, e2, e3, e4, e5, e6, e7, e8, e9, f1, f2, f3]
  rfl
 ·match i, hi with
  | 0, _ => exact ⟨b0, c0, rfl, ⟨Nat.le_trans (lo 0 oW) x0, Nat.le_trans (lo 0 oW) y0⟩, r0⟩
  | 1, _ => exact ⟨b1, c1, rfl, ⟨Nat.le_trans (lo 1 oW) x1, Nat.le_trans (lo 1 oW) y1⟩, r1⟩
  | 2, _ => exact ⟨b2, c2, rfl, ⟨Nat.le_trans (lo 2 oW) x2, Nat.le_trans (lo 2 oW) y2⟩, r2⟩
  | 3, _ => exact ⟨b9, c9, rfl, ⟨Nat.le_trans (lo 12 oW) x9, Nat.le_trans (lo 12 oW) y9⟩, r9⟩
  | 4, _ => exact ⟨b3, c3, rfl, ⟨Nat.le_trans (lo 3 oW) x3, Nat.le_trans (lo 3 oW) y3⟩, r3⟩
  | 5, _ => exact ⟨b4, c4, rfl, ⟨Nat.le_trans (lo 4 oW) x4, Nat.le_trans (lo 4 oW) y4⟩, r4⟩
  | 6, _ => exact ⟨b5, c5, rfl, ⟨Nat.le_trans (lo 5 oW) x5, Nat.le_trans (lo 5 oW) y5⟩, r5⟩
  | 7, _ => exact ⟨b6, c6, rfl, ⟨Nat.le_trans (lo 6 oW) x6, Nat.le_trans (lo 6 oW) y6⟩, r6⟩
  | 8, _ => exact ⟨b7, c7, rfl, ⟨Nat.le_trans (lo 7 oW) x7, Nat.le_trans (lo 7 oW) y7⟩, r7⟩
  | 9, _ => exact ⟨b8, c8, rfl, ⟨Nat.le_trans (lo 8 oW) x8, Nat.le_trans (lo 8 oW) y8⟩, r8⟩
  | n + 10, h => omega
def Qne : Nat → Value := fun _ => .pointer none
theorem Qf5 (M : Md) (ρ : Nat → Option (List Nat)) (v : Value) (L : List Nat) (w : World) (hG : PG M ρ w) (hr : NRel M.B w v L) :
  Calls Tryz.prog 75 #[pv M.m, v] w fun e w' => ∃ v1 v2, e = .returned (.tuple #[v1, v2]) ∧ NRel M.B w' v1 (Qen L (M.Ls 6)) ∧ NRel M.B w' v2 (Qc4 L (M.Ls 6)) ∧ Below w.heap.size w w' := by
 obtain ⟨b, c, rfl, hbc, hR⟩ := hr
 obtain ⟨b6, c6, e6, -, hE⟩ := hG.E 6 oW
 obtain ⟨r, hmo, -⟩ := hG.mo
 have HC : Hid (∀ W, Below w.heap.size w W → W.cell? ⟨M.m, 14, none⟩ = some (pv b6)) := fun W hW => by
  rw [← e6]
  exact (hmo.below hW hmo.lt).cell rfl
 have HR := Qa hR
 have HE := Qa hE
 have HBZ := Qa hG.hB
 clear hG hmo hR hE e6
 have hS0 := HC.out w bW
 go_enter Tryz.func75, Tryz.ntmps75
 go_upto_region 1 with fail
 go_region_held3 (fun W => W.cell? ⟨M.m, 14, none⟩ = some (pv b6)) (first | assumption | exact hS0 | exact hS1 | exact hS2) (first | (go_at_call 137; refine (Qkn b c b6 c6 _ _ _ (HR.out.below bW.drew) (HE.out.below bW.drew)).mono ?_; rintro e w1 ⟨b1, k1, rfl, hM1⟩; have HB1 := Qa (Qaa (Below.refl w.heap.size w).drew nW hM1.below); have hS1 := HC.out w1 HB1.out; have HM1 := Qa hM1; clear hM1) | (go_at_call 138; refine (Qkm b c b6 c6 _ _ _ (HR.out.below HB1.out) (HE.out.below HB1.out)).mono ?_; rintro e w2 ⟨b2, k2, rfl, hM2⟩; have HB2 := Qa (Qaa HB1.out HB1.out.size hM2.below); have hS2 := HC.out w2 HB2.out; have HM2 := Qa hM2; clear hM2))
 clear hS0 hS1 hS2
 go_wp2_with fail
 go_ret2
 exact ⟨pv b1, pv b2, rfl, ⟨b1, k1, rfl, ⟨Nat.le_trans HBZ.out HM1.out.hb, Nat.le_trans HBZ.out HM1.out.hc⟩, HM1.out.rel.below HM2.out.below⟩, ⟨b2, k2, rfl, ⟨Nat.le_trans HBZ.out (Nat.le_trans HB1.out.size HM2.out.hb), Nat.le_trans HBZ.out (Nat.le_trans HB1.out.size HM2.out.hc)⟩, HM2.out.rel⟩, HB2.out⟩
theorem Qwh {M : Md} {ρ : Nat → Option (List Nat)} {w0 w6 : World} (hP : PG M ρ w6) (h0 : GrR w0 M.V M.g) (hT0 : Tab w0) (hm0 : w0.heap.size ≤ M.m) (hlow : Below w0.heap.size w0 w6) {i j : Nat} (hi : i < 5) (hj : j < 5) {x1 x2 : Value} {L1 L2 : List Nat} (h1 : NRel M.B w6 x1 L1) (h2 : NRel M.B w6 x2 L2) :
  PG M (Qt6 (Qt6 ρ i L1) j L2) ((w6.setCell ⟨M.m, 21 + i, none⟩ x1).setCell ⟨M.m, 21 + j, none⟩ x2) ∧ Below w0.heap.size w0 ((w6.setCell ⟨M.m, 21 + i, none⟩ x1).setCell ⟨M.m, 21 + j, none⟩ x2) := by
 obtain ⟨r, hmo, -⟩ := hP.mo
 have hl := hlow.setCell (p := ⟨M.m, 21 + i, none⟩) hm0 x1
 exact ⟨(hP.put h0 hT0 hm0 hlow hi h1).put h0 hT0 hm0 hl hj (h2.setM hmo x1), hl.setCell (p := ⟨M.m, 21 + j, none⟩) hm0 x2⟩
theorem Qkv (V : GrV) (g : Gr) (w : World) (h : GrR w V g) (hF : Frm w) (hT : Tab w) :
  Calls Tryz.prog 34 #[V.val g] w fun e w' => ((chk g true).1 ≠ 0 ∧ e = .returned (.tuple #[.pointer none, .int .i64 4]) ∧ Below w.heap.size w w') ∨ ((chk g true).1 = 0 ∧ ∃ m bs br bw bf, e = .returned (.tuple #[pv m, .int .i64 0]) ∧ Mdl w V g m bs br bw bf w') := by
 have hg0 := Blk.new w 27 (V.gs g)
 have hB0 : Below w.heap.size w (w.alloc (.cells (V.gs g) 27)) := bW.alloc nW _
 have e1 : w.alloc (.cells (V.gs g) 27) = w.alloc (.cells #[.int .i64 g.cells, V.ev, V.rf, V.co, V.rmw, V.addr, V.dat, V.ctrl] 27) := rfl
 rw [e1] at hB0 hg0
 have HV := Qa h
 have HF := Qa hF
 have HT := Qa hT
 have HB0 := Qa hB0
 have HG0 := Qa hg0
 unfold GrV.val
 clear h hF hT hB0 hg0 e1
 go_enter Tryz.func34, Tryz.ntmps34
 go_upto_region 1 with fail
 generalize w.alloc (.cells #[.int .i64 g.cells, V.ev, V.rf, V.co, V.rmw, V.addr, V.dat, V.ctrl] 27) = W0 at *
 have D1 := Qa (Qjr V g true W0 (HV.out.below HB0.out) (HF.out.step HB0.out))
 obtain ⟨x1, hx1⟩ : ∃ x, (chk g true).1 = x := ⟨_, rfl⟩
 obtain ⟨y1, hy1⟩ : ∃ x, (chk g true).2 = x := ⟨_, rfl⟩
 rw [hx1, hy1] at D1
 have HX1 := Qa hx1
 clear hx1 hy1
 go_wp2_with (first | refine wpList_load_row rfl 27 _ rfl w.heap.size rfl 27 (V.gs g) (0, 0) _ HG0.out Tryz.underlying27 rfl kW ?_)
 refine D1.out.mono ?_
 rintro e w1 ⟨rfl, hB1⟩
 have HB1 : Hid (Below w.heap.size w w1) := Qaa HB0.out HB0.out.size hB1
 have HG1 := Qa (HG0.out.of_below hB1)
 clear hB1 D1 HG0
 by_cases hx0 : x1 = 0
 ·subst hx0
  have hwf : wfB g = true := QAg HX1.out
  have D3 := Qa (Qol V g w1 (HV.out.below HB1.out) (HF.out.step HB1.out) (HT.out.step' HB1.out))
  go_wp2_with (first | refine wpList_load_row rfl 27 _ rfl w.heap.size rfl 27 (V.gs g) (0, 0) _ HG1.out Tryz.underlying27 rfl kW ?_)
  refine D3.out.mono ?_
  rintro e w3 (⟨_, v, f, lo, rfl, hD, hB3⟩ | ⟨hf, _⟩)
  case inr => rw [hwf] at hf; cases hf
  clear D3 hwf
  have HB3 : Hid (Below w.heap.size w w3) := Qaa HB1.out HB1.out.size hB3
  have HG3 := Qa (HG1.out.of_below hB3)
  have hall := Ql hD.res f hD.fr.one
  obtain ⟨bs, br, bw, bf, eO, hE, hrd, hwt, hfe⟩ := Qyn hD
  have hE := fun i (hi : i < 10) => (hE i hi).lo HB1.out.size
  rw [eO] at hall ⊢
  clear eO hD hB3 HG1
  have hz := Blk.new w3 115 nilF
  have hB4 : Below w3.heap.size w3 ((w3.alloc (.cells nilF 115)).setRow w3.heap.size (fxC g.evs.length bs br bw bf)) := ((Below.refl w3.heap.size w3).alloc nW _).trans (Qan _ nW)
  have HFB := Qa (hz.setRow' (fxC g.evs.length bs br bw bf))
  go_upto_region 5 with (first | refine wpList_store_row rfl 115 _ _ rfl w3.heap.size (fxC g.evs.length bs br bw bf) rfl rfl 115 nilF hz kW rfl hall ?_)
  have HB4 : Hid (Below w.heap.size w ((w3.alloc (.cells nilF 115)).setRow w3.heap.size (fxC g.evs.length bs br bw bf))) := Qaa HB3.out HB3.out.size hB4
  have HG4 := Qa (HG3.out.of_below hB4)
  have HE := Qa (fun i (hi : i < 10) => (hE i hi).below hB4)
  have HRD := Qa (hrd.of_below hB4)
  have HWT := Qa (hwt.of_below hB4)
  have HFE := Qa (hfe.of_below hB4)
  clear hz hB4 hall hE hrd hwt hfe HB3 HG3 HB1
  generalize (w3.alloc (.cells nilF 115)).setRow w3.heap.size (fxC g.evs.length bs br bw bf) = w4 at *
  generalize w3.heap.size = fb at *
  go_upto_region 8 with (first | refine wpList_load_row rfl 27 _ rfl w.heap.size rfl 27 (V.gs g) (0, 0) _ HG4.out Tryz.underlying27 rfl kW ?_ | refine wpList_load_row rfl 115 _ rfl fb rfl 115 (fxC g.evs.length bs br bw bf) (0, 0) _ HFB.out Tryz.underlying115 rfl kW ?_ | refine Qmk rfl 119 _ rfl _ rfl (moC V g bs br bw bf Qne) kW ?_)
  have hmo := Blk.new w4 119 (moC V g bs br bw bf Qne)
  have hB5 : Below w4.heap.size w4 (w4.alloc (.cells (moC V g bs br bw bf Qne) 119)) := bW.alloc nW _
  have HB5 : Hid (Below w.heap.size w (w4.alloc (.cells (moC V g bs br bw bf Qne) 119))) := Qaa HB4.out HB4.out.size hB5
  have HE5 := Qa (fun i (hi : i < 10) => (HE.out i hi).below hB5)
  have HRD5 := Qa (HRD.out.of_below hB5)
  have HWT5 := Qa (HWT.out.of_below hB5)
  have HFE5 := Qa (HFE.out.of_below hB5)
  have HMO := Qa hmo
  have HFB5 := Qa (HFB.out.of_below hB5)
  have hsz : w.heap.size ≤ w4.heap.size := HB4.out.size
  clear hmo hB5 HE HRD HWT HFE HB4 HG4 HFB
  generalize w4.alloc (.cells (moC V g bs br bw bf Qne) 119) = w5 at *
  generalize w4.heap.size = m at *
  have HPG : Hid (PG ⟨m, w.heap.size, V, g, bs, br, bw, bf, LG g⟩ (fun _ => none) w5) := ⟨HT.out.step' HB5.out, HV.out.below HB5.out, ⟨Qne, HMO.out, fun j L h => by cases h⟩, HRD5.out, HWT5.out, HFE5.out, HE5.out, HB5.out.size⟩
  have c1 : w5.cell? ⟨fb, 1, none⟩ = some (pv (bs 1)) := HFB5.out.cell rfl
  go_upto_region 9 with (go_at_call 75; refine (Qf5 ⟨m, w.heap.size, V, g, bs, br, bw, bf, LG g⟩ _ _ _ w5 HPG.out (HPG.out.E 1 oW)).mono ?_; rintro e wa0 ⟨v1, v2, rfl, hn1, hn2, hB6⟩; obtain ⟨x1, y1, rfl, z1, hr1⟩ := hn1; obtain ⟨x2, y2, rfl, z2, hr2⟩ := hn2; have HP6 := Qa (HPG.out.mono hB6); have HL6 := Qa (Qaa HB5.out HB5.out.size hB6); have HF6 := Qa (HFB5.out.of_below hB6); have HN1 := Qa (show NRel w.heap.size wa0 (pv x1) _ from ⟨x1, y1, rfl, z1, hr1⟩); have HN2 := Qa (show NRel w.heap.size wa0 (pv x2) _ from ⟨x2, y2, rfl, z2, hr2⟩); obtain ⟨r6, hmo6, -⟩ := HP6.out.mo; have d1 := hmo6.cell (j := 21) rfl; have d2 := hmo6.cell (j := 23) rfl; have f1 := hmo6.frozen 21; have f2 := hmo6.frozen 23; have HMO6 := Qa hmo6; clear hmo6 hB6 z1 hr1 z2 hr2)
  have hPB := Qwh (M := ⟨m, w.heap.size, V, g, bs, br, bw, bf, LG g⟩) (i := 0) (j := 2) HP6.out HV.out HT.out hsz HL6.out dW dW HN1.out HN2.out
  have HF7 := Qa ((HF6.out.setOther (a := ⟨m, 21, none⟩) (Qav HF6.out HMO6.out dW) (pv x1)).setOther (a := ⟨m, 23, none⟩) (Qav HF6.out HMO6.out dW) (pv x2))
  have hPB : PG ⟨m, w.heap.size, V, g, bs, br, bw, bf, LG g⟩ _ ((wa0.setCell ⟨m, 21, none⟩ (pv x1)).setCell ⟨m, 23, none⟩ (pv x2)) ∧ Below w.heap.size w ((wa0.setCell ⟨m, 21, none⟩ (pv x1)).setCell ⟨m, 23, none⟩ (pv x2)) := hPB
  have HP7 := Qa hPB.1
  have HB7 := Qa hPB.2
  clear hPB HP6 HL6 HF6 HN1 HN2 HMO6 d1 d2 f1 f2 c1 HPG HB5 HFB5
  generalize (wa0.setCell ⟨m, 21, none⟩ (pv x1)).setCell ⟨m, 23, none⟩ (pv x2) = wb0 at *
  have HPG0 := HP7
  have HBx0 := HB7
  have HFx0 := HF7
  clear HP7 HB7 HF7
  have c1 : wb0.cell? ⟨fb, 2, none⟩ = some (pv (bs 2)) := HFx0.out.cell rfl
  go_upto_region 10 with (go_at_call 75; refine (Qf5 ⟨m, w.heap.size, V, g, bs, br, bw, bf, LG g⟩ _ _ _ wb0 HPG0.out (HPG0.out.E 2 oW)).mono ?_; rintro e wa1 ⟨v1, v2, rfl, hn1, hn2, hB6⟩; obtain ⟨x1, y1, rfl, z1, hr1⟩ := hn1; obtain ⟨x2, y2, rfl, z2, hr2⟩ := hn2; have HP6 := Qa (HPG0.out.mono hB6); have HL6 := Qa (Qaa HBx0.out HBx0.out.size hB6); have HF6 := Qa (HFx0.out.of_below hB6); have HN1 := Qa (show NRel w.heap.size wa1 (pv x1) _ from ⟨x1, y1, rfl, z1, hr1⟩); have HN2 := Qa (show NRel w.heap.size wa1 (pv x2) _ from ⟨x2, y2, rfl, z2, hr2⟩); obtain ⟨r6, hmo6, -⟩ := HP6.out.mo; have d1 := hmo6.cell (j := 22) rfl; have d2 := hmo6.cell (j := 24) rfl; have f1 := hmo6.frozen 22; have f2 := hmo6.frozen 24; have HMO6 := Qa hmo6; clear hmo6 hB6 z1 hr1 z2 hr2)
  have hPB := Qwh (M := ⟨m, w.heap.size, V, g, bs, br, bw, bf, LG g⟩) (i := 1) (j := 3) HP6.out HV.out HT.out hsz HL6.out dW dW HN1.out HN2.out
  have HF7 := Qa ((HF6.out.setOther (a := ⟨m, 22, none⟩) (Qav HF6.out HMO6.out dW) (pv x1)).setOther (a := ⟨m, 24, none⟩) (Qav HF6.out HMO6.out dW) (pv x2))
  have hPB : PG ⟨m, w.heap.size, V, g, bs, br, bw, bf, LG g⟩ _ ((wa1.setCell ⟨m, 22, none⟩ (pv x1)).setCell ⟨m, 24, none⟩ (pv x2)) ∧ Below w.heap.size w ((wa1.setCell ⟨m, 22, none⟩ (pv x1)).setCell ⟨m, 24, none⟩ (pv x2)) := hPB
  have HP7 := Qa hPB.1
  have HB7 := Qa hPB.2
  clear hPB HP6 HL6 HF6 HN1 HN2 HMO6 d1 d2 f1 f2 c1 HPG0 HBx0 HFx0
  generalize (wa1.setCell ⟨m, 22, none⟩ (pv x1)).setCell ⟨m, 24, none⟩ (pv x2) = wb1 at *
  have HPG1 := HP7
  have HBx1 := HB7
  have HFx1 := HF7
  clear HP7 HB7 HF7
  have c1 : wb1.cell? ⟨fb, 3, none⟩ = some (pv (bs 3)) := HFx1.out.cell rfl
  go_upto_region 11 with (go_at_call 75; refine (Qf5 ⟨m, w.heap.size, V, g, bs, br, bw, bf, LG g⟩ _ _ _ wb1 HPG1.out (HPG1.out.E 3 oW)).mono ?_; rintro e wa2 ⟨v1, v2, rfl, -, hn2, hB6⟩; obtain ⟨x2, y2, rfl, z2, hr2⟩ := hn2; have HP6 := Qa (HPG1.out.mono hB6); have HL6 := Qa (Qaa HBx1.out HBx1.out.size hB6); have HN2 := Qa (show NRel w.heap.size wa2 (pv x2) _ from ⟨x2, y2, rfl, z2, hr2⟩); obtain ⟨r6, hmo6, -⟩ := HP6.out.mo; have d2 := hmo6.cell (j := 25) rfl; have f2 := hmo6.frozen 25; clear hmo6 hB6 z2 hr2)
  have hP7 : PG ⟨m, w.heap.size, V, g, bs, br, bw, bf, LG g⟩ _ (wa2.setCell ⟨m, 25, none⟩ (pv x2)) := HP6.out.put HV.out HT.out hsz HL6.out (j := 4) dW HN2.out
  have hB7 : Below w.heap.size w (wa2.setCell ⟨m, 25, none⟩ (pv x2)) := HL6.out.setCell (p := ⟨m, 25, none⟩) hsz (pv x2)
  have HP7 := Qa hP7
  have HB7 := Qa hB7
  clear hP7 hB7 HP6 HL6 HN2 d2 f2 c1 HPG1 HBx1 HFx1
  generalize wa2.setCell ⟨m, 25, none⟩ (pv x2) = wb2 at *
  go_wp2_with fail
  go_ret2
  refine .inr ⟨HX1.out, m, bs, br, bw, bf, rfl, hsz, HB7.out, HP7.out.less (fun j L hj => ?_)⟩
  match j, hj with
  | 0, hj | 1, hj | 2, hj | 3, hj | 4, hj => exact hj
  | n + 5, hj => cases hj
 ·have q0 : ((x1 : Int) != 0) = true := by simpa using hx0
  go_wp2_with fail
  go_ret2
  exact .inl ⟨by rw [HX1.out]; exact hx0, rfl, HB1.out⟩
theorem Qt7 (M : Md) (w : World) (hG : PG M (Qaq M.Ls) w) :
  Calls Tryz.prog 80 #[pv M.m] w fun e w' => ∃ v, e = .returned v ∧ NRel M.B w' v (clL M.g M.Ls 0) ∧ Below w.heap.size w w' := by
 have HG := Qa hG
 clear hG
 go_enter Tryz.func80, Tryz.ntmps80
 go_upto_region 1 with fail
 rename_i hK
 refine Eng.reg_ret (E := pE M w (Qaq M.Ls)) (T := 7) (w0 := w) (σ := Qcy) 2 (.rl (clL M.g M.Ls 0)) byK byK byK (Qb (fun _ _ => rfl) _ _ _) byK byK rfl (fun a w h => hK a w (wp_ret h)) ?_ _ _ (ga1 bW HG.out (Touch.of_below bW) rfl rfl rfl)
 rintro N w' v hl - hv
 exact ⟨v, rfl, hv, hl⟩
theorem Qt8 (M : Md) (w : World) (hG : PG M (Qaq M.Ls) w) :
  Calls Tryz.prog 81 #[pv M.m] w fun e w' => ∃ v, e = .returned v ∧ NRel M.B w' v (clL M.g M.Ls 1) ∧ Below w.heap.size w w' := by
 have HG := Qa hG
 clear hG
 go_enter Tryz.func81, Tryz.ntmps81
 go_upto_region 1 with fail
 rename_i hK
 refine Eng.reg_ret (E := pE M w (Qaq M.Ls)) (T := 7) (w0 := w) (σ := Qcy) 2 (.rl (clL M.g M.Ls 1)) byK byK byK (Qb (fun _ _ => rfl) _ _ _) byK byK rfl (fun a w h => hK a w (wp_ret h)) ?_ _ _ (ga1 bW HG.out (Touch.of_below bW) rfl rfl rfl)
 rintro N w' v hl - hv
 exact ⟨v, rfl, hv, hl⟩
theorem Qt9 (M : Md) (w : World) (hG : PG M (Qaq M.Ls) w) :
  Calls Tryz.prog 82 #[pv M.m] w fun e w' => ∃ v, e = .returned v ∧ NRel M.B w' v (clL M.g M.Ls 2) ∧ Below w.heap.size w w' := by
 have HG := Qa hG
 clear hG
 go_enter Tryz.func82, Tryz.ntmps82
 go_upto_region 1 with fail
 rename_i hK
 refine Eng.reg_ret (E := pE M w (Qaq M.Ls)) (T := 7) (w0 := w) (σ := Qcy) 2 (.rl (clL M.g M.Ls 2)) byK byK byK (Qb (fun _ _ => rfl) _ _ _) byK byK rfl (fun a w h => hK a w (wp_ret h)) ?_ _ _ (ga1 bW HG.out (Touch.of_below bW) rfl rfl rfl)
 rintro N w' v hl - hv
 exact ⟨v, rfl, hv, hl⟩
theorem Qu (M : Md) (w : World) (hG : PG M (Qaq M.Ls) w) :
  Calls Tryz.prog 83 #[pv M.m] w fun e w' => ∃ v, e = .returned v ∧ NRel M.B w' v (clL M.g M.Ls 3) ∧ Below w.heap.size w w' := by
 have HG := Qa hG
 clear hG
 go_enter Tryz.func83, Tryz.ntmps83
 go_upto_region 1 with fail
 rename_i hK
 refine Eng.reg_ret (E := pE M w (Qaq M.Ls)) (T := 8) (w0 := w) (σ := Qcy) 2 (.rl (clL M.g M.Ls 3)) byK byK byK (Qb (fun _ _ => rfl) _ _ _) byK byK rfl (fun a w h => hK a w (wp_ret h)) ?_ _ _ (ga1 bW HG.out (Touch.of_below bW) rfl rfl rfl)
 rintro N w' v hl - hv
 exact ⟨v, rfl, hv, hl⟩
theorem Qua (M : Md) (w : World) (hG : PG M (Qaq M.Ls) w) :
  Calls Tryz.prog 84 #[pv M.m] w fun e w' => ∃ v, e = .returned v ∧ NRel M.B w' v (clL M.g M.Ls 4) ∧ Below w.heap.size w w' := by
 have HG := Qa hG
 clear hG
 go_enter Tryz.func84, Tryz.ntmps84
 go_upto_region 1 with fail
 rename_i hK
 refine Eng.reg_ret (E := pE M w (Qaq M.Ls)) (T := 8) (w0 := w) (σ := Qcy) 2 (.rl (clL M.g M.Ls 4)) byK byK byK (Qb (fun _ _ => rfl) _ _ _) byK byK rfl (fun a w h => hK a w (wp_ret h)) ?_ _ _ (ga1 bW HG.out (Touch.of_below bW) rfl rfl rfl)
 rintro N w' v hl - hv
 exact ⟨v, rfl, hv, hl⟩
theorem Qub (M : Md) (w : World) (hG : PG M (Qaq M.Ls) w) :
  Calls Tryz.prog 85 #[pv M.m] w fun e w' => ∃ v, e = .returned v ∧ NRel M.B w' v (clL M.g M.Ls 5) ∧ Below w.heap.size w w' := by
 have HG := Qa hG
 clear hG
 go_enter Tryz.func85, Tryz.ntmps85
 go_upto_region 1 with fail
 rename_i hK
 refine Eng.reg_ret (E := pE M w (Qaq M.Ls)) (T := 17) (w0 := w) (σ := Qcy) 2 (.rl (clL M.g M.Ls 5)) byK byK byK (Qb (fun _ _ => rfl) _ _ _) byK byK rfl (fun a w h => hK a w (wp_ret h)) ?_ _ _ (ga1 bW HG.out (Touch.of_below bW) rfl rfl rfl)
 rintro N w' v hl - hv
 exact ⟨v, rfl, hv, hl⟩
theorem Quc (M : Md) (w : World) (hG : PG M (Qaq M.Ls) w) :
  Calls Tryz.prog 86 #[pv M.m] w fun e w' => ∃ v, e = .returned v ∧ NRel M.B w' v (clL M.g M.Ls 6) ∧ Below w.heap.size w w' := by
 have HG := Qa hG
 clear hG
 go_enter Tryz.func86, Tryz.ntmps86
 go_upto_region 1 with fail
 rename_i hK
 refine Eng.reg_ret (E := pE M w (Qaq M.Ls)) (T := 22) (w0 := w) (σ := Qcy) 2 (.rl (clL M.g M.Ls 6)) byK byK byK (Qb (fun _ _ => rfl) _ _ _) byK byK rfl (fun a w h => hK a w (wp_ret h)) ?_ _ _ (ga1 bW HG.out (Touch.of_below bW) rfl rfl rfl)
 rintro N w' v hl - hv
 exact ⟨v, rfl, hv, hl⟩
theorem Qud (M : Md) (w : World) (hG : PG M (Qaq M.Ls) w) :
  Calls Tryz.prog 87 #[pv M.m] w fun e w' => ∃ v, e = .returned v ∧ NRel M.B w' v (clL M.g M.Ls 7) ∧ Below w.heap.size w w' := by
 have HG := Qa hG
 clear hG
 go_enter Tryz.func87, Tryz.ntmps87
 go_upto_region 1 with fail
 rename_i hK
 refine Eng.reg_ret (E := pE M w (Qaq M.Ls)) (T := 21) (w0 := w) (σ := Qcy) 2 (.rl (clL M.g M.Ls 7)) byK byK byK (Qb (fun _ _ => rfl) _ _ _) byK byK rfl (fun a w h => hK a w (wp_ret h)) ?_ _ _ (ga1 bW HG.out (Touch.of_below bW) rfl rfl rfl)
 rintro N w' v hl - hv
 exact ⟨v, rfl, hv, hl⟩
theorem Que (M : Md) (w : World) (hG : PG M (Qaq M.Ls) w) :
  Calls Tryz.prog 88 #[pv M.m] w fun e w' => ∃ v, e = .returned v ∧ NRel M.B w' v (clL M.g M.Ls 8) ∧ Below w.heap.size w w' := by
 have HG := Qa hG
 clear hG
 go_enter Tryz.func88, Tryz.ntmps88
 go_upto_region 1 with fail
 rename_i hK
 refine Eng.reg_ret (E := pE M w (Qaq M.Ls)) (T := 21) (w0 := w) (σ := Qcy) 2 (.rl (clL M.g M.Ls 8)) byK byK byK (Qb (fun _ _ => rfl) _ _ _) byK byK rfl (fun a w h => hK a w (wp_ret h)) ?_ _ _ (ga1 bW HG.out (Touch.of_below bW) rfl rfl rfl)
 rintro N w' v hl - hv
 exact ⟨v, rfl, hv, hl⟩
theorem Quf (M : Md) (w : World) (hG : PG M (Qaq M.Ls) w) :
  Calls Tryz.prog 89 #[pv M.m] w fun e w' => ∃ v, e = .returned v ∧ NRel M.B w' v (clL M.g M.Ls 9) ∧ Below w.heap.size w w' := by
 have HG := Qa hG
 clear hG
 go_enter Tryz.func89, Tryz.ntmps89
 go_upto_region 1 with fail
 rename_i hK
 refine Eng.reg_ret (E := pE M w (Qaq M.Ls)) (T := 8) (w0 := w) (σ := Qcy) 2 (.rl (clL M.g M.Ls 9)) byK byK byK (Qb (fun _ _ => rfl) _ _ _) byK byK rfl (fun a w h => hK a w (wp_ret h)) ?_ _ _ (ga1 bW HG.out (Touch.of_below bW) rfl rfl rfl)
 rintro N w' v hl - hv
 exact ⟨v, rfl, hv, hl⟩
theorem Qrj (M : Md) (w : World) (hG : PG M (Qaq M.Ls) w) :
  Calls Tryz.prog 91 #[pv M.m] w fun e w' => ∃ v, e = .returned v ∧ NRel M.B w' v (clL M.g M.Ls 11) ∧ Below w.heap.size w w' := by
 have HG := Qa hG
 clear hG
 go_enter Tryz.func91, Tryz.ntmps91
 go_upto_region 1 with fail
 rename_i hK
 refine Eng.reg_ret (E := pE M w (Qaq M.Ls)) (T := 18) (w0 := w) (σ := Qcy) 2 (.rl (clL M.g M.Ls 11)) byK byK byK (Qb (fun _ _ => rfl) _ _ _) byK byK rfl (fun a w h => hK a w (wp_ret h)) ?_ _ _ (ga1 bW HG.out (Touch.of_below bW) rfl rfl rfl)
 rintro N w' v hl - hv
 exact ⟨v, rfl, hv, hl⟩
theorem Qrk (M : Md) (w : World) (hG : PG M (Qaq M.Ls) w) :
  Calls Tryz.prog 92 #[pv M.m] w fun e w' => ∃ v, e = .returned v ∧ NRel M.B w' v (clL M.g M.Ls 12) ∧ Below w.heap.size w w' := by
 have HG := Qa hG
 clear hG
 go_enter Tryz.func92, Tryz.ntmps92
 go_upto_region 1 with fail
 rename_i hK
 refine Eng.reg_ret (E := pE M w (Qaq M.Ls)) (T := 25) (w0 := w) (σ := Qcy) 2 (.rl (clL M.g M.Ls 12)) byK byK byK (Qb (fun _ _ => rfl) _ _ _) byK byK rfl (fun a w h => hK a w (wp_ret h)) ?_ _ _ (ga1 bW HG.out (Touch.of_below bW) rfl rfl rfl)
 rintro N w' v hl - hv
 exact ⟨v, rfl, hv, hl⟩
theorem Qrl (M : Md) (w : World) (hG : PG M (Qaq M.Ls) w) :
  Calls Tryz.prog 93 #[pv M.m] w fun e w' => ∃ v, e = .returned v ∧ NRel M.B w' v (clL M.g M.Ls 13) ∧ Below w.heap.size w w' := by
 have HG := Qa hG
 clear hG
 go_enter Tryz.func93, Tryz.ntmps93
 go_upto_region 1 with fail
 rename_i hK
 refine Eng.reg_ret (E := pE M w (Qaq M.Ls)) (T := 16) (w0 := w) (σ := Qcy) 2 (.rl (clL M.g M.Ls 13)) byK byK byK (Qb (fun _ _ => rfl) _ _ _) byK byK rfl (fun a w h => hK a w (wp_ret h)) ?_ _ _ (ga1 bW HG.out (Touch.of_below bW) rfl rfl rfl)
 rintro N w' v hl - hv
 exact ⟨v, rfl, hv, hl⟩
theorem Qrm (M : Md) (w : World) (hG : PG M (Qaq M.Ls) w) :
  Calls Tryz.prog 94 #[pv M.m] w fun e w' => ∃ v, e = .returned v ∧ NRel M.B w' v (clL M.g M.Ls 14) ∧ Below w.heap.size w w' := by
 have HG := Qa hG
 clear hG
 go_enter Tryz.func94, Tryz.ntmps94
 go_upto_region 1 with fail
 rename_i hK
 refine Eng.reg_ret (E := pE M w (Qaq M.Ls)) (T := 13) (w0 := w) (σ := Qcy) 2 (.rl (clL M.g M.Ls 14)) byK byK byK (Qb (fun _ _ => rfl) _ _ _) byK byK rfl (fun a w h => hK a w (wp_ret h)) ?_ _ _ (ga1 bW HG.out (Touch.of_below bW) rfl rfl rfl)
 rintro N w' v hl - hv
 exact ⟨v, rfl, hv, hl⟩
theorem Qkw (M : Md) (w : World) (hG : PG M (Qaq M.Ls) w) :
  Calls Tryz.prog 95 #[pv M.m] w fun e w' => ∃ v, e = .returned v ∧ NRel M.B w' v (clL M.g M.Ls 15) ∧ Below w.heap.size w w' := by
 have HG := Qa hG
 clear hG
 go_enter Tryz.func95, Tryz.ntmps95
 go_upto_region 1 with fail
 rename_i hK
 refine Eng.reg_ret (E := pE M w (Qaq M.Ls)) (T := 13) (w0 := w) (σ := Qcy) 2 (.rl (clL M.g M.Ls 15)) byK byK byK (Qb (fun _ _ => rfl) _ _ _) byK byK rfl (fun a w h => hK a w (wp_ret h)) ?_ _ _ (ga1 bW HG.out (Touch.of_below bW) rfl rfl rfl)
 rintro N w' v hl - hv
 exact ⟨v, rfl, hv, hl⟩
theorem Qrn (M : Md) (w : World) (hG : PG M (Qaq M.Ls) w) :
  Calls Tryz.prog 90 #[pv M.m] w fun e w' => ∃ v, e = .returned v ∧ NRel M.B w' v (clL M.g M.Ls 10) ∧ Below w.heap.size w w' := by
 have HG := Qa hG
 clear hG
 go_enter Tryz.func90, Tryz.ntmps90
 go_upto_region 1 with fail
 rename_i hK
 refine Eng.reg_keep (E := pE M w (Qaq M.Ls)) (T := 27) (w0 := w) (σ := Qcy) [(3, .st (Qf4 (M.Ls 4) (Qba M.g 1)))] byK byK byK (Qb (fun _ _ => rfl) _ _ _) byK byK byK (fun a' w' h' => hK a' w' ?_) _ _ (ga1 bW HG.out (Touch.of_below bW) rfl rfl rfl)
 revert a' w' h'
 refine fun a' w' h' => wp_seq (Eng.reg_ret (E := pE M w (Qaq M.Ls)) (T := 27) (w0 := w) 2 (PV.rl (clL M.g M.Ls 10)) byK byK byK (Qb (fun _ _ => rfl) _ _ _) byK byK rfl (fun a w h => wp_ret h) ?_ a' w' h')
 rintro N w' v hl - hv
 exact ⟨v, rfl, hv, hl⟩
def Qug (M : Md) (σ : Nat → PV) (op : Op) : Option PV :=
 match op with
 | .call ⟨.value (.func f), args, _⟩ => if f = 95 ∧ args.toList.map (fun x => (pvA σ x).t) = [1] then some (.rl (clL M.g M.Ls 15)) else Qqk M (Qaq M.Ls) σ op
 | _ => Qqk M (Qaq M.Ls) σ op
theorem QB2 (u : Value) (w : World) : (callFunc 95 #[u]).run Tryz.prog w = .ok (.enter 95 #[u]) w := by kernel_rfl
theorem QAh {M : Md} {N : Nat} {w : World} {a : Act} {σ : Nat → PV} {Q : Exit → Act → World → Prop} (hG : PG M (Qaq M.Ls) w) {o : Oper} {av : PV} (h : Qug M σ o.op = some av) (hx : ∀ d ∈ Qcs o.op.operands.toList, PIs M N w (σ d) (a.eval (.tmp d))) : o.wp Tryz.prog a w (Qi2 M N a w o.dst av) Q := by
 obtain ⟨dst, op, ty, pos, af, gd⟩ := o
 dsimp only at h hx ⊢
 unfold Qug at h
 split at h
 ·rename_i f args tys
  split at h
  ·rename_i hc
   cases h
   obtain ⟨rfl, ha⟩ := hc
   obtain ⟨l⟩ := args
   match l, ha, hx with
   | [x], ha, hx =>
    have t : (pvA σ x).t = 1 := by simpa using ha
    have e : a.eval x = pv M.m := PIs.t (Qfx (M := M) (N := N) (x := x) (fun d e => hx d (Qal.2 (by simp [Op.operands, Call.operands, e])))) t
    refine Qb6 (Qjz e QB2) ((Qkw M w hG).mono ?_)
    rintro e w' ⟨v, rfl, hn, hB⟩
    exact ⟨v, rfl, v, rfl, hn, hB⟩
   | [], ha, _ => simp at ha
   | x :: y :: l, ha, _ => simp at ha
  ·exact Qqm (o := ⟨dst, _, ty, pos, af, gd⟩) hG h hx
 ·exact Qqm (o := ⟨dst, _, ty, pos, af, gd⟩) hG h hx
def pE2 (M : Md) (ws : World) : Eng Tryz.prog PV :=
 { pE M ws (Qaq M.Ls) with
  opR := Qug M
  ok := fun hG _ h _ hx => QAh hG.1 h hx }
theorem ga2 {M : Md} {T : Nat} {ws w0 w : World} {a : Act} {σ : Nat → PV} (h : (pE M ws (Qaq M.Ls)).Ga T w0 σ a w) : (pE2 M ws).Ga T w0 σ a w := ⟨h.low, h.g, h.is, h.nw, h.sz, h.df⟩
theorem Qro (M : Md) (w : World) (hG : PG M (Qaq M.Ls) w) :
  Calls Tryz.prog 96 #[pv M.m] w fun e w' => ∃ v, e = .returned v ∧ NRel M.B w' v (clL M.g M.Ls 16) ∧ Below w.heap.size w w' := by
 have HG := Qa hG
 clear hG
 go_enter Tryz.func96, Tryz.ntmps96
 go_upto_region 1 with fail
 rename_i hK
 refine Eng.reg_ret (E := pE2 M w) (T := 11) (w0 := w) (σ := Qcy) 2 (.rl (clL M.g M.Ls 16)) byK byK byK (Qb (fun _ _ => rfl) _ _ _) byK byK rfl (fun a w h => hK a w (wp_ret h)) ?_ _ _ (ga2 (ga1 bW HG.out (Touch.of_below bW) rfl rfl rfl))
 rintro N w' v hl - hv
 exact ⟨v, rfl, hv, hl⟩
theorem Tryz.infoptr : (Tryz.prog.info? 42).map (fun i => (i.zero, i.size, i.bytes)) = some (some (.pointer none), 1, 8) := by kernel_rfl
theorem Qa3 (w : World) (t : TypeId) (v : Value) : ∀ j u, ([v] : List Value)[j]? = some u → (w.alloc (.cells #[v] t)).cell? ((⟨w.heap.size, 0, none⟩ : Addr).add j) = some u := by
 intro j u hj
 rw [Addr.add_lit, Nat.zero_add]
 exact (Blk.new w t #[v]).cell (by simpa using hj)
theorem Qgh {W : World} {base cap n : Nat} {oa : Option Addr} {rs : List (Nat × Nat × List Nat)} (h : W.ownsRow base 42 1 (.slice oa n cap) n (rs.map fun r => pv r.1)) (hl : rs.length = n) (hn : 0 < n) (hr : ∀ r ∈ rs, IsRel W r.1 r.2.1 r.2.2) : ∃ g, oa = some ⟨g, 0, none⟩ ∧ RelsAt W g rs := by
 rcases h.2 with ⟨-, e⟩ | ⟨g, c, cur, e, h4, h5, h6, h7, h8, h9⟩
 ·omega
 ·injection e with e1 e2 e3
  refine ⟨g, e1, fun i r hi => ?_, (Array.getElem?_eq_some_iff.1 h5).1, fun i r hi => hr r (List.mem_of_getElem? hi)⟩
  have hi2 : i < rs.length := (List.getElem?_eq_some_iff.1 hi).1
  have h10 : (rs.map fun r => pv r.1)[i]? = some (pv r.1) := by simp [hi]
  rw [← h9, List.getElem?_take, if_pos oW] at h10
  exact Blk.cell h5 (by simpa using h10)
def Mds (B : Nat) (w : World) (rs : List (Nat × Nat × List Nat)) : Prop := ∀ r ∈ rs, (B ≤ r.1 ∧ B ≤ r.2.1) ∧ IsRel w r.1 r.2.1 r.2.2
theorem Mds.below {B : Nat} {w w' : World} {rs : List (Nat × Nat × List Nat)} (h : Mds B w rs) (hb : Below w.heap.size w w') : Mds B w' rs := fun r hr => ⟨(h r hr).1, (h r hr).2.below hb⟩
theorem Mds.snoc {B b c : Nat} {L : List Nat} {w : World} {rs : List (Nat × Nat × List Nat)} (h : Mds B w rs) (hb : B ≤ b ∧ B ≤ c) (hr : IsRel w b c L) : Mds B w (rs ++ [(b, c, L)]) := fun r hx => by
 rcases List.mem_append.1 hx with hx | hx
 ·exact h r hx
 ·rw [List.mem_singleton.1 hx]; exact ⟨hb, hr⟩
theorem Qod {W1 W2 : World} {b : Nat} {t e : TypeId} {cs : Array Value} {base size n : Nat} {v : Value} {xs : List Value} {o : Obj} (h : Blk W1 b t cs) (ho : W1.ownsRow base e size v n xs) (hg : (W1.alloc o).grownBy W2 v.ownBlock) (ht : t ≠ e) : Blk W2 b t cs := by
 refine (hg.block b (by rw [World.size_alloc]; have := h.lt; omega) (fun eq => ?_)).trans (h.alloc o)
 rcases ho.2 with ⟨rfl, _⟩ | ⟨g, cap, cur, rfl, _, hb, _⟩
 ·simp [Value.ownBlock] at eq
 ·simp [Value.ownBlock] at eq
  exact Qav h hb ht eq
theorem Qrp {W1 W2 : World} {b c : Nat} {L : List Nat} {base size n : Nat} {v : Value} {xs : List Value} {o : Obj} (h : IsRel W1 b c L) (ho : W1.ownsRow base 42 size v n xs) (hg : (W1.alloc o).grownBy W2 v.ownBlock) : IsRel W2 b c L :=
 ⟨h.ne, Qod h.head ho hg dW, Qod h.rows ho hg dW, h.len, h.low⟩
structure UAt (M : Md) (w : World) (off k : Nat) (rs : List (Nat × Nat × List Nat)) (av : Value) (W : World) : Prop where
 len : rs.length = k
 eq : rs.map (·.2.2) = (List.range k).map fun j => clL M.g M.Ls (off + j)
 md : Mds M.B W rs
 own : W.ownsRow w.heap.size 42 1 av k (rs.map fun r => pv r.1)
 bel : Below w.heap.size w W
theorem UAt.next {M : Md} {w W W1 W2 : World} {off k x y : Nat} {rs : List (Nat × Nat × List Nat)} {av v' : Value} {o : Obj} (h : UAt M w off k rs av W) (hB : Below W.heap.size W W1) (hz : M.B ≤ x ∧ M.B ≤ y) (hr : IsRel W1 x y (clL M.g M.Ls (off + k))) (ho1 : W1.ownsRow w.heap.size 42 1 av k (rs.map fun r => pv r.1)) (hg : (W1.alloc o).grownBy W2 av.ownBlock) (ho : W2.ownsRow w.heap.size 42 1 v' (k + 1) (rs.map (fun r => pv r.1) ++ [pv x])) :
  UAt M w off (k + 1) (rs ++ [(x, y, clL M.g M.Ls (off + k))]) v' W2 := by
 have hb1 := Qaa h.bel h.bel.size hB
 refine ⟨by rw [List.length_append, h.len]; rfl, ?_, fun r hx => ?_, by rw [List.map_append]; exact ho, (hb1.alloc hb1.size o).grown hg (by have := hb1.size; simp; omega) (fun q e => (ho1.lt q e).1)⟩
 ·rw [List.map_append, h.eq, List.range_succ, List.map_append]
  rfl
 ·have hm := (h.md.below hB).snoc hz hr r hx
  exact ⟨hm.1, Qrp hm.2 ho1 hg⟩
theorem Quh (M : Md) (s : Nat) (w : World) (hG : PG M (Qaq M.Ls) w) (hs : s < w.heap.size) (h0 : w.cell? ⟨s, 0, none⟩ = some (.func (.func 80) #[pv M.m] #[])) (h1 : w.cell? ⟨s, 1, none⟩ = some (.func (.func 81) #[pv M.m] #[])) (h2 : w.cell? ⟨s, 2, none⟩ = some (.func (.func 82) #[pv M.m] #[])) :
  Calls Tryz.prog 79 #[.slice (some ⟨s, 0, none⟩) 3 3] w fun e w' => ∃ v, e = .returned v ∧ NRel M.B w' v (Qfa M.g M.Ls) ∧ Below w.heap.size w w' := by
 obtain ⟨i0, hi, hz0, hz1, hz2⟩ := info_parts Tryz.infoptr
 have HG := Qa hG
 have HS := Qa hs
 have H0 := Qa h0
 have H1 := Qa h1
 have H2 := Qa h2
 clear hG hs h0 h1 h2
 go_enter Tryz.func79, Tryz.ntmps79
 go_upto_region 3 with fail
 go_loopw [3, 8] (fun av i wr => ∃ (k : Nat) (rs : List (Nat × Nat × List Nat)), k ≤ 3 ∧ i = .int .i64 k ∧ Hid (UAt M w 0 k rs av wr)) (fun _ i _ => 3 - (intOf i).toNat)
 case atStart => exact ⟨0, [], oW, rfl, rfl, rfl, (fun r hr => by cases hr), World.ownsRow_nil _ _ _ _, Below.refl _ _⟩
 case round =>
  obtain ⟨k, rs, hk, rfl, HU⟩ := hrel
  obtain ⟨oa, ocap, rfl⟩ := Qag HU.out.own
  by_cases hlt : k < 3
  ·rcases (by omega : k = 0 ∨ k = 1 ∨ k = 2) with rfl | rfl | rfl
   ·have c0 : wr.cell? ⟨s, 0, none⟩ = some (.func (.func 80) #[pv M.m] #[]) := (HU.out.bel.cell (p := ⟨s, 0, none⟩) HS.out).trans H0.out
    go_wp2_with fail
    refine (Qt7 M _ (HG.out.mono HU.out.bel)).mono ?_
    rintro e w1 ⟨v1, rfl, hn1, hB1⟩
    obtain ⟨x1, y1, rfl, z1, hr1⟩ := hn1
    have HB1 := Qa hB1
    have HR1 := Qa hr1
    have HZ1 := Qa z1
    have HO1 := Qa (Qac HU.out.own hB1)
    clear hB1 hr1 z1 c0
    go_wp2_with (at_builtin; refine wpList_append_own_at _ rfl _ _ 56 rfl w.heap.size 42 i0 (.pointer none) 1 8 Tryz.underlying56 hi hz0 hz1 hz2 rfl dW (.slice oa 0 ocap) 0 _ rfl (HO1.out.alloc _) ⟨_, 0, none⟩ 1 1 [pv x1] rfl rfl (Qa3 _ 42 (pv x1)) (by simp [Value.oneCell']) (by unfold maxLen; omega) oW (by have := HU.out.bel.size; have := HB1.out.size; simp; omega) ?_; intro v7 w7 hown7 hgrow7 _ _)
    exact ⟨⟨1, _, oW, by go_num, Qa (HU.out.next HB1.out HZ1.out HR1.out HO1.out hgrow7 hown7)⟩, by simp [intOf]⟩
   ·have c0 : wr.cell? ⟨s, 1, none⟩ = some (.func (.func 81) #[pv M.m] #[]) := (HU.out.bel.cell (p := ⟨s, 1, none⟩) HS.out).trans H1.out
    go_wp2_with fail
    refine (Qt8 M _ (HG.out.mono HU.out.bel)).mono ?_
    rintro e w1 ⟨v1, rfl, hn1, hB1⟩
    obtain ⟨x1, y1, rfl, z1, hr1⟩ := hn1
    have HB1 := Qa hB1
    have HR1 := Qa hr1
    have HZ1 := Qa z1
    have HO1 := Qa (Qac HU.out.own hB1)
    clear hB1 hr1 z1 c0
    go_wp2_with (at_builtin; refine wpList_append_own_at _ rfl _ _ 56 rfl w.heap.size 42 i0 (.pointer none) 1 8 Tryz.underlying56 hi hz0 hz1 hz2 rfl dW (.slice oa 1 ocap) 1 _ rfl (HO1.out.alloc _) ⟨_, 0, none⟩ 1 1 [pv x1] rfl rfl (Qa3 _ 42 (pv x1)) (by simp [Value.oneCell']) (by unfold maxLen; omega) oW (by have := HU.out.bel.size; have := HB1.out.size; simp; omega) ?_; intro v7 w7 hown7 hgrow7 _ _)
    exact ⟨⟨2, _, oW, by go_num, Qa (HU.out.next HB1.out HZ1.out HR1.out HO1.out hgrow7 hown7)⟩, by simp [intOf]⟩
   ·have c0 : wr.cell? ⟨s, 2, none⟩ = some (.func (.func 82) #[pv M.m] #[]) := (HU.out.bel.cell (p := ⟨s, 2, none⟩) HS.out).trans H2.out
    go_wp2_with fail
    refine (Qt9 M _ (HG.out.mono HU.out.bel)).mono ?_
    rintro e w1 ⟨v1, rfl, hn1, hB1⟩
    obtain ⟨x1, y1, rfl, z1, hr1⟩ := hn1
    have HB1 := Qa hB1
    have HR1 := Qa hr1
    have HZ1 := Qa z1
    have HO1 := Qa (Qac HU.out.own hB1)
    clear hB1 hr1 z1 c0
    go_wp2_with (at_builtin; refine wpList_append_own_at _ rfl _ _ 56 rfl w.heap.size 42 i0 (.pointer none) 1 8 Tryz.underlying56 hi hz0 hz1 hz2 rfl dW (.slice oa 2 ocap) 2 _ rfl (HO1.out.alloc _) ⟨_, 0, none⟩ 1 1 [pv x1] rfl rfl (Qa3 _ 42 (pv x1)) (by simp [Value.oneCell']) (by unfold maxLen; omega) oW (by have := HU.out.bel.size; have := HB1.out.size; simp; omega) ?_; intro v7 w7 hown7 hgrow7 _ _)
    exact ⟨⟨3, _, oW, by go_num, Qa (HU.out.next HB1.out HZ1.out HR1.out HO1.out hgrow7 hown7)⟩, by simp [intOf]⟩
  ·obtain rfl : k = 3 := by omega
   obtain ⟨g, rfl, hra⟩ := Qgh HU.out.own HU.out.len oW (fun r hr => (HU.out.md r hr).2)
   have D := Qdo g ocap rs wr hra (by rw [HU.out.len]; decide)
   rw [HU.out.len, HU.out.eq] at D
   have D := Qa D
   clear hra
   go_wp2_with fail
   refine D.out.mono ?_
   rintro e w1 ⟨b, c, rfl, hM⟩
   go_wp2_with fail
   go_ret
   have hz := Nat.le_trans HG.out.hB HU.out.bel.size
   exact ⟨pv b, rfl, ⟨b, c, rfl, ⟨Nat.le_trans hz hM.hb, Nat.le_trans hz hM.hc⟩, hM.rel⟩, Qaa HU.out.bel HU.out.bel.size hM.below⟩
theorem Qui (M : Md) (s : Nat) (w : World) (hG : PG M (Qaq M.Ls) w) (hs : s < w.heap.size) (h0 : w.cell? ⟨s, 0, none⟩ = some (.func (.func 83) #[pv M.m] #[])) (h1 : w.cell? ⟨s, 1, none⟩ = some (.func (.func 84) #[pv M.m] #[])) (h2 : w.cell? ⟨s, 2, none⟩ = some (.func (.func 85) #[pv M.m] #[])) (h3 : w.cell? ⟨s, 3, none⟩ = some (.func (.func 86) #[pv M.m] #[])) (h4 : w.cell? ⟨s, 4, none⟩ = some (.func (.func 87) #[pv M.m] #[])) (h5 : w.cell? ⟨s, 5, none⟩ = some (.func (.func 88) #[pv M.m] #[])) :
  Calls Tryz.prog 79 #[.slice (some ⟨s, 0, none⟩) 6 6] w fun e w' => ∃ v, e = .returned v ∧ NRel M.B w' v (Qfj M.g M.Ls) ∧ Below w.heap.size w w' := by
 obtain ⟨i0, hi, hz0, hz1, hz2⟩ := info_parts Tryz.infoptr
 have HG := Qa hG
 have HS := Qa hs
 have H0 := Qa h0
 have H1 := Qa h1
 have H2 := Qa h2
 have H3 := Qa h3
 have H4 := Qa h4
 have H5 := Qa h5
 clear hG hs h0 h1 h2 h3 h4 h5
 go_enter Tryz.func79, Tryz.ntmps79
 go_upto_region 3 with fail
 go_loopw [3, 8] (fun av i wr => ∃ (k : Nat) (rs : List (Nat × Nat × List Nat)), k ≤ 6 ∧ i = .int .i64 k ∧ Hid (UAt M w 3 k rs av wr)) (fun _ i _ => 6 - (intOf i).toNat)
 case atStart => exact ⟨0, [], oW, rfl, rfl, rfl, (fun r hr => by cases hr), World.ownsRow_nil _ _ _ _, Below.refl _ _⟩
 case round =>
  obtain ⟨k, rs, hk, rfl, HU⟩ := hrel
  obtain ⟨oa, ocap, rfl⟩ := Qag HU.out.own
  by_cases hlt : k < 6
  ·rcases (by omega : k = 0 ∨ k = 1 ∨ k = 2 ∨ k = 3 ∨ k = 4 ∨ k = 5) with rfl | rfl | rfl | rfl | rfl | rfl
   ·have c0 : wr.cell? ⟨s, 0, none⟩ = some (.func (.func 83) #[pv M.m] #[]) := (HU.out.bel.cell (p := ⟨s, 0, none⟩) HS.out).trans H0.out
    go_wp2_with fail
    refine (Qu M _ (HG.out.mono HU.out.bel)).mono ?_
    rintro e w1 ⟨v1, rfl, hn1, hB1⟩
    obtain ⟨x1, y1, rfl, z1, hr1⟩ := hn1
    have HB1 := Qa hB1
    have HR1 := Qa hr1
    have HZ1 := Qa z1
    have HO1 := Qa (Qac HU.out.own hB1)
    clear hB1 hr1 z1 c0
    go_wp2_with (at_builtin; refine wpList_append_own_at _ rfl _ _ 56 rfl w.heap.size 42 i0 (.pointer none) 1 8 Tryz.underlying56 hi hz0 hz1 hz2 rfl dW (.slice oa 0 ocap) 0 _ rfl (HO1.out.alloc _) ⟨_, 0, none⟩ 1 1 [pv x1] rfl rfl (Qa3 _ 42 (pv x1)) (by simp [Value.oneCell']) (by unfold maxLen; omega) oW (by have := HU.out.bel.size; have := HB1.out.size; simp; omega) ?_; intro v7 w7 hown7 hgrow7 _ _)
    exact ⟨⟨1, _, oW, by go_num, Qa (HU.out.next HB1.out HZ1.out HR1.out HO1.out hgrow7 hown7)⟩, by simp [intOf]⟩
   ·have c0 : wr.cell? ⟨s, 1, none⟩ = some (.func (.func 84) #[pv M.m] #[]) := (HU.out.bel.cell (p := ⟨s, 1, none⟩) HS.out).trans H1.out
    go_wp2_with fail
    refine (Qua M _ (HG.out.mono HU.out.bel)).mono ?_
    rintro e w1 ⟨v1, rfl, hn1, hB1⟩
    obtain ⟨x1, y1, rfl, z1, hr1⟩ := hn1
    have HB1 := Qa hB1
    have HR1 := Qa hr1
    have HZ1 := Qa z1
    have HO1 := Qa (Qac HU.out.own hB1)
    clear hB1 hr1 z1 c0
    go_wp2_with (at_builtin; refine wpList_append_own_at _ rfl _ _ 56 rfl w.heap.size 42 i0 (.pointer none) 1 8 Tryz.underlying56 hi hz0 hz1 hz2 rfl dW (.slice oa 1 ocap) 1 _ rfl (HO1.out.alloc _) ⟨_, 0, none⟩ 1 1 [pv x1] rfl rfl (Qa3 _ 42 (pv x1)) (by simp [Value.oneCell']) (by unfold maxLen; omega) oW (by have := HU.out.bel.size; have := HB1.out.size; simp; omega) ?_; intro v7 w7 hown7 hgrow7 _ _)
    exact ⟨⟨2, _, oW, by go_num, Qa (HU.out.next HB1.out HZ1.out HR1.out HO1.out hgrow7 hown7)⟩, by simp [intOf]⟩
   ·have c0 : wr.cell? ⟨s, 2, none⟩ = some (.func (.func 85) #[pv M.m] #[]) := (HU.out.bel.cell (p := ⟨s, 2, none⟩) HS.out).trans H2.out
    go_wp2_with fail
    refine (Qub M _ (HG.out.mono HU.out.bel)).mono ?_
    rintro e w1 ⟨v1, rfl, hn1, hB1⟩
    obtain ⟨x1, y1, rfl, z1, hr1⟩ := hn1
    have HB1 := Qa hB1
    have HR1 := Qa hr1
    have HZ1 := Qa z1
    have HO1 := Qa (Qac HU.out.own hB1)
    clear hB1 hr1 z1 c0
    go_wp2_with (at_builtin; refine wpList_append_own_at _ rfl _ _ 56 rfl w.heap.size 42 i0 (.pointer none) 1 8 Tryz.underlying56 hi hz0 hz1 hz2 rfl dW (.slice oa 2 ocap) 2 _ rfl (HO1.out.alloc _) ⟨_, 0, none⟩ 1 1 [pv x1] rfl rfl (Qa3 _ 42 (pv x1)) (by simp [Value.oneCell']) (by unfold maxLen; omega) oW (by have := HU.out.bel.size; have := HB1.out.size; simp; omega) ?_; intro v7 w7 hown7 hgrow7 _ _)
    exact ⟨⟨3, _, oW, by go_num, Qa (HU.out.next HB1.out HZ1.out HR1.out HO1.out hgrow7 hown7)⟩, by simp [intOf]⟩
   ·have c0 : wr.cell? ⟨s, 3, none⟩ = some (.func (.func 86) #[pv M.m] #[]) := (HU.out.bel.cell (p := ⟨s, 3, none⟩) HS.out).trans H3.out
    go_wp2_with fail
    refine (Quc M _ (HG.out.mono HU.out.bel)).mono ?_
    rintro e w1 ⟨v1, rfl, hn1, hB1⟩
    obtain ⟨x1, y1, rfl, z1, hr1⟩ := hn1
    have HB1 := Qa hB1
    have HR1 := Qa hr1
    have HZ1 := Qa z1
    have HO1 := Qa (Qac HU.out.own hB1)
    clear hB1 hr1 z1 c0
    go_wp2_with (at_builtin; refine wpList_append_own_at _ rfl _ _ 56 rfl w.heap.size 42 i0 (.pointer none) 1 8 Tryz.underlying56 hi hz0 hz1 hz2 rfl dW (.slice oa 3 ocap) 3 _ rfl (HO1.out.alloc _) ⟨_, 0, none⟩ 1 1 [pv x1] rfl rfl (Qa3 _ 42 (pv x1)) (by simp [Value.oneCell']) (by unfold maxLen; omega) oW (by have := HU.out.bel.size; have := HB1.out.size; simp; omega) ?_; intro v7 w7 hown7 hgrow7 _ _)
    exact ⟨⟨4, _, oW, by go_num, Qa (HU.out.next HB1.out HZ1.out HR1.out HO1.out hgrow7 hown7)⟩, by simp [intOf]⟩
   ·have c0 : wr.cell? ⟨s, 4, none⟩ = some (.func (.func 87) #[pv M.m] #[]) := (HU.out.bel.cell (p := ⟨s, 4, none⟩) HS.out).trans H4.out
    go_wp2_with fail
    refine (Qud M _ (HG.out.mono HU.out.bel)).mono ?_
    rintro e w1 ⟨v1, rfl, hn1, hB1⟩
    obtain ⟨x1, y1, rfl, z1, hr1⟩ := hn1
    have HB1 := Qa hB1
    have HR1 := Qa hr1
    have HZ1 := Qa z1
    have HO1 := Qa (Qac HU.out.own hB1)
    clear hB1 hr1 z1 c0
    go_wp2_with (at_builtin; refine wpList_append_own_at _ rfl _ _ 56 rfl w.heap.size 42 i0 (.pointer none) 1 8 Tryz.underlying56 hi hz0 hz1 hz2 rfl dW (.slice oa 4 ocap) 4 _ rfl (HO1.out.alloc _) ⟨_, 0, none⟩ 1 1 [pv x1] rfl rfl (Qa3 _ 42 (pv x1)) (by simp [Value.oneCell']) (by unfold maxLen; omega) oW (by have := HU.out.bel.size; have := HB1.out.size; simp; omega) ?_; intro v7 w7 hown7 hgrow7 _ _)
    exact ⟨⟨5, _, oW, by go_num, Qa (HU.out.next HB1.out HZ1.out HR1.out HO1.out hgrow7 hown7)⟩, by simp [intOf]⟩
   ·have c0 : wr.cell? ⟨s, 5, none⟩ = some (.func (.func 88) #[pv M.m] #[]) := (HU.out.bel.cell (p := ⟨s, 5, none⟩) HS.out).trans H5.out
    go_wp2_with fail
    refine (Que M _ (HG.out.mono HU.out.bel)).mono ?_
    rintro e w1 ⟨v1, rfl, hn1, hB1⟩
    obtain ⟨x1, y1, rfl, z1, hr1⟩ := hn1
    have HB1 := Qa hB1
    have HR1 := Qa hr1
    have HZ1 := Qa z1
    have HO1 := Qa (Qac HU.out.own hB1)
    clear hB1 hr1 z1 c0
    go_wp2_with (at_builtin; refine wpList_append_own_at _ rfl _ _ 56 rfl w.heap.size 42 i0 (.pointer none) 1 8 Tryz.underlying56 hi hz0 hz1 hz2 rfl dW (.slice oa 5 ocap) 5 _ rfl (HO1.out.alloc _) ⟨_, 0, none⟩ 1 1 [pv x1] rfl rfl (Qa3 _ 42 (pv x1)) (by simp [Value.oneCell']) (by unfold maxLen; omega) oW (by have := HU.out.bel.size; have := HB1.out.size; simp; omega) ?_; intro v7 w7 hown7 hgrow7 _ _)
    exact ⟨⟨6, _, oW, by go_num, Qa (HU.out.next HB1.out HZ1.out HR1.out HO1.out hgrow7 hown7)⟩, by simp [intOf]⟩
  ·obtain rfl : k = 6 := by omega
   obtain ⟨g, rfl, hra⟩ := Qgh HU.out.own HU.out.len oW (fun r hr => (HU.out.md r hr).2)
   have D := Qdo g ocap rs wr hra (by rw [HU.out.len]; decide)
   rw [HU.out.len, HU.out.eq] at D
   have D := Qa D
   clear hra
   go_wp2_with fail
   refine D.out.mono ?_
   rintro e w1 ⟨b, c, rfl, hM⟩
   go_wp2_with fail
   go_ret
   have hz := Nat.le_trans HG.out.hB HU.out.bel.size
   exact ⟨pv b, rfl, ⟨b, c, rfl, ⟨Nat.le_trans hz hM.hb, Nat.le_trans hz hM.hc⟩, hM.rel⟩, Qaa HU.out.bel HU.out.bel.size hM.below⟩
theorem Quj (M : Md) (s : Nat) (w : World) (hG : PG M (Qaq M.Ls) w) (hs : s < w.heap.size) (h0 : w.cell? ⟨s, 0, none⟩ = some (.func (.func 89) #[pv M.m] #[])) (h1 : w.cell? ⟨s, 1, none⟩ = some (.func (.func 90) #[pv M.m] #[])) :
  Calls Tryz.prog 79 #[.slice (some ⟨s, 0, none⟩) 2 2] w fun e w' => ∃ v, e = .returned v ∧ NRel M.B w' v (Qfk M.g M.Ls) ∧ Below w.heap.size w w' := by
 obtain ⟨i0, hi, hz0, hz1, hz2⟩ := info_parts Tryz.infoptr
 have HG := Qa hG
 have HS := Qa hs
 have H0 := Qa h0
 have H1 := Qa h1
 clear hG hs h0 h1
 go_enter Tryz.func79, Tryz.ntmps79
 go_upto_region 3 with fail
 go_loopw [3, 8] (fun av i wr => ∃ (k : Nat) (rs : List (Nat × Nat × List Nat)), k ≤ 2 ∧ i = .int .i64 k ∧ Hid (UAt M w 9 k rs av wr)) (fun _ i _ => 2 - (intOf i).toNat)
 case atStart => exact ⟨0, [], oW, rfl, rfl, rfl, (fun r hr => by cases hr), World.ownsRow_nil _ _ _ _, Below.refl _ _⟩
 case round =>
  obtain ⟨k, rs, hk, rfl, HU⟩ := hrel
  obtain ⟨oa, ocap, rfl⟩ := Qag HU.out.own
  by_cases hlt : k < 2
  ·rcases (by omega : k = 0 ∨ k = 1) with rfl | rfl
   ·have c0 : wr.cell? ⟨s, 0, none⟩ = some (.func (.func 89) #[pv M.m] #[]) := (HU.out.bel.cell (p := ⟨s, 0, none⟩) HS.out).trans H0.out
    go_wp2_with fail
    refine (Quf M _ (HG.out.mono HU.out.bel)).mono ?_
    rintro e w1 ⟨v1, rfl, hn1, hB1⟩
    obtain ⟨x1, y1, rfl, z1, hr1⟩ := hn1
    have HB1 := Qa hB1
    have HR1 := Qa hr1
    have HZ1 := Qa z1
    have HO1 := Qa (Qac HU.out.own hB1)
    clear hB1 hr1 z1 c0
    go_wp2_with (at_builtin; refine wpList_append_own_at _ rfl _ _ 56 rfl w.heap.size 42 i0 (.pointer none) 1 8 Tryz.underlying56 hi hz0 hz1 hz2 rfl dW (.slice oa 0 ocap) 0 _ rfl (HO1.out.alloc _) ⟨_, 0, none⟩ 1 1 [pv x1] rfl rfl (Qa3 _ 42 (pv x1)) (by simp [Value.oneCell']) (by unfold maxLen; omega) oW (by have := HU.out.bel.size; have := HB1.out.size; simp; omega) ?_; intro v7 w7 hown7 hgrow7 _ _)
    exact ⟨⟨1, _, oW, by go_num, Qa (HU.out.next HB1.out HZ1.out HR1.out HO1.out hgrow7 hown7)⟩, by simp [intOf]⟩
   ·have c0 : wr.cell? ⟨s, 1, none⟩ = some (.func (.func 90) #[pv M.m] #[]) := (HU.out.bel.cell (p := ⟨s, 1, none⟩) HS.out).trans H1.out
    go_wp2_with fail
    refine (Qrn M _ (HG.out.mono HU.out.bel)).mono ?_
    rintro e w1 ⟨v1, rfl, hn1, hB1⟩
    obtain ⟨x1, y1, rfl, z1, hr1⟩ := hn1
    have HB1 := Qa hB1
    have HR1 := Qa hr1
    have HZ1 := Qa z1
    have HO1 := Qa (Qac HU.out.own hB1)
    clear hB1 hr1 z1 c0
    go_wp2_with (at_builtin; refine wpList_append_own_at _ rfl _ _ 56 rfl w.heap.size 42 i0 (.pointer none) 1 8 Tryz.underlying56 hi hz0 hz1 hz2 rfl dW (.slice oa 1 ocap) 1 _ rfl (HO1.out.alloc _) ⟨_, 0, none⟩ 1 1 [pv x1] rfl rfl (Qa3 _ 42 (pv x1)) (by simp [Value.oneCell']) (by unfold maxLen; omega) oW (by have := HU.out.bel.size; have := HB1.out.size; simp; omega) ?_; intro v7 w7 hown7 hgrow7 _ _)
    exact ⟨⟨2, _, oW, by go_num, Qa (HU.out.next HB1.out HZ1.out HR1.out HO1.out hgrow7 hown7)⟩, by simp [intOf]⟩
  ·obtain rfl : k = 2 := by omega
   obtain ⟨g, rfl, hra⟩ := Qgh HU.out.own HU.out.len oW (fun r hr => (HU.out.md r hr).2)
   have D := Qdo g ocap rs wr hra (by rw [HU.out.len]; decide)
   rw [HU.out.len, HU.out.eq] at D
   have D := Qa D
   clear hra
   go_wp2_with fail
   refine D.out.mono ?_
   rintro e w1 ⟨b, c, rfl, hM⟩
   go_wp2_with fail
   go_ret
   have hz := Nat.le_trans HG.out.hB HU.out.bel.size
   exact ⟨pv b, rfl, ⟨b, c, rfl, ⟨Nat.le_trans hz hM.hb, Nat.le_trans hz hM.hc⟩, hM.rel⟩, Qaa HU.out.bel HU.out.bel.size hM.below⟩
theorem Quk (M : Md) (s : Nat) (w : World) (hG : PG M (Qaq M.Ls) w) (hs : s < w.heap.size) (h0 : w.cell? ⟨s, 0, none⟩ = some (.func (.func 91) #[pv M.m] #[])) (h1 : w.cell? ⟨s, 1, none⟩ = some (.func (.func 92) #[pv M.m] #[])) (h2 : w.cell? ⟨s, 2, none⟩ = some (.func (.func 93) #[pv M.m] #[])) (h3 : w.cell? ⟨s, 3, none⟩ = some (.func (.func 94) #[pv M.m] #[])) (h4 : w.cell? ⟨s, 4, none⟩ = some (.func (.func 95) #[pv M.m] #[])) (h5 : w.cell? ⟨s, 5, none⟩ = some (.func (.func 96) #[pv M.m] #[])) :
  Calls Tryz.prog 79 #[.slice (some ⟨s, 0, none⟩) 6 6] w fun e w' => ∃ v, e = .returned v ∧ NRel M.B w' v (Qfl M.g M.Ls) ∧ Below w.heap.size w w' := by
 obtain ⟨i0, hi, hz0, hz1, hz2⟩ := info_parts Tryz.infoptr
 have HG := Qa hG
 have HS := Qa hs
 have H0 := Qa h0
 have H1 := Qa h1
 have H2 := Qa h2
 have H3 := Qa h3
 have H4 := Qa h4
 have H5 := Qa h5
 clear hG hs h0 h1 h2 h3 h4 h5
 go_enter Tryz.func79, Tryz.ntmps79
 go_upto_region 3 with fail
 go_loopw [3, 8] (fun av i wr => ∃ (k : Nat) (rs : List (Nat × Nat × List Nat)), k ≤ 6 ∧ i = .int .i64 k ∧ Hid (UAt M w 11 k rs av wr)) (fun _ i _ => 6 - (intOf i).toNat)
 case atStart => exact ⟨0, [], oW, rfl, rfl, rfl, (fun r hr => by cases hr), World.ownsRow_nil _ _ _ _, Below.refl _ _⟩
 case round =>
  obtain ⟨k, rs, hk, rfl, HU⟩ := hrel
  obtain ⟨oa, ocap, rfl⟩ := Qag HU.out.own
  by_cases hlt : k < 6
  ·rcases (by omega : k = 0 ∨ k = 1 ∨ k = 2 ∨ k = 3 ∨ k = 4 ∨ k = 5) with rfl | rfl | rfl | rfl | rfl | rfl
   ·have c0 : wr.cell? ⟨s, 0, none⟩ = some (.func (.func 91) #[pv M.m] #[]) := (HU.out.bel.cell (p := ⟨s, 0, none⟩) HS.out).trans H0.out
    go_wp2_with fail
    refine (Qrj M _ (HG.out.mono HU.out.bel)).mono ?_
    rintro e w1 ⟨v1, rfl, hn1, hB1⟩
    obtain ⟨x1, y1, rfl, z1, hr1⟩ := hn1
    have HB1 := Qa hB1
    have HR1 := Qa hr1
    have HZ1 := Qa z1
    have HO1 := Qa (Qac HU.out.own hB1)
    clear hB1 hr1 z1 c0
    go_wp2_with (at_builtin; refine wpList_append_own_at _ rfl _ _ 56 rfl w.heap.size 42 i0 (.pointer none) 1 8 Tryz.underlying56 hi hz0 hz1 hz2 rfl dW (.slice oa 0 ocap) 0 _ rfl (HO1.out.alloc _) ⟨_, 0, none⟩ 1 1 [pv x1] rfl rfl (Qa3 _ 42 (pv x1)) (by simp [Value.oneCell']) (by unfold maxLen; omega) oW (by have := HU.out.bel.size; have := HB1.out.size; simp; omega) ?_; intro v7 w7 hown7 hgrow7 _ _)
    exact ⟨⟨1, _, oW, by go_num, Qa (HU.out.next HB1.out HZ1.out HR1.out HO1.out hgrow7 hown7)⟩, by simp [intOf]⟩
   ·have c0 : wr.cell? ⟨s, 1, none⟩ = some (.func (.func 92) #[pv M.m] #[]) := (HU.out.bel.cell (p := ⟨s, 1, none⟩) HS.out).trans H1.out
    go_wp2_with fail
    refine (Qrk M _ (HG.out.mono HU.out.bel)).mono ?_
    rintro e w1 ⟨v1, rfl, hn1, hB1⟩
    obtain ⟨x1, y1, rfl, z1, hr1⟩ := hn1
    have HB1 := Qa hB1
    have HR1 := Qa hr1
    have HZ1 := Qa z1
    have HO1 := Qa (Qac HU.out.own hB1)
    clear hB1 hr1 z1 c0
    go_wp2_with (at_builtin; refine wpList_append_own_at _ rfl _ _ 56 rfl w.heap.size 42 i0 (.pointer none) 1 8 Tryz.underlying56 hi hz0 hz1 hz2 rfl dW (.slice oa 1 ocap) 1 _ rfl (HO1.out.alloc _) ⟨_, 0, none⟩ 1 1 [pv x1] rfl rfl (Qa3 _ 42 (pv x1)) (by simp [Value.oneCell']) (by unfold maxLen; omega) oW (by have := HU.out.bel.size; have := HB1.out.size; simp; omega) ?_; intro v7 w7 hown7 hgrow7 _ _)
    exact ⟨⟨2, _, oW, by go_num, Qa (HU.out.next HB1.out HZ1.out HR1.out HO1.out hgrow7 hown7)⟩, by simp [intOf]⟩
   ·have c0 : wr.cell? ⟨s, 2, none⟩ = some (.func (.func 93) #[pv M.m] #[]) := (HU.out.bel.cell (p := ⟨s, 2, none⟩) HS.out).trans H2.out
    go_wp2_with fail
    refine (Qrl M _ (HG.out.mono HU.out.bel)).mono ?_
    rintro e w1 ⟨v1, rfl, hn1, hB1⟩
    obtain ⟨x1, y1, rfl, z1, hr1⟩ := hn1
    have HB1 := Qa hB1
    have HR1 := Qa hr1
    have HZ1 := Qa z1
    have HO1 := Qa (Qac HU.out.own hB1)
    clear hB1 hr1 z1 c0
    go_wp2_with (at_builtin; refine wpList_append_own_at _ rfl _ _ 56 rfl w.heap.size 42 i0 (.pointer none) 1 8 Tryz.underlying56 hi hz0 hz1 hz2 rfl dW (.slice oa 2 ocap) 2 _ rfl (HO1.out.alloc _) ⟨_, 0, none⟩ 1 1 [pv x1] rfl rfl (Qa3 _ 42 (pv x1)) (by simp [Value.oneCell']) (by unfold maxLen; omega) oW (by have := HU.out.bel.size; have := HB1.out.size; simp; omega) ?_; intro v7 w7 hown7 hgrow7 _ _)
    exact ⟨⟨3, _, oW, by go_num, Qa (HU.out.next HB1.out HZ1.out HR1.out HO1.out hgrow7 hown7)⟩, by simp [intOf]⟩
   ·have c0 : wr.cell? ⟨s, 3, none⟩ = some (.func (.func 94) #[pv M.m] #[]) := (HU.out.bel.cell (p := ⟨s, 3, none⟩) HS.out).trans H3.out
    go_wp2_with fail
    refine (Qrm M _ (HG.out.mono HU.out.bel)).mono ?_
    rintro e w1 ⟨v1, rfl, hn1, hB1⟩
    obtain ⟨x1, y1, rfl, z1, hr1⟩ := hn1
    have HB1 := Qa hB1
    have HR1 := Qa hr1
    have HZ1 := Qa z1
    have HO1 := Qa (Qac HU.out.own hB1)
    clear hB1 hr1 z1 c0
    go_wp2_with (at_builtin; refine wpList_append_own_at _ rfl _ _ 56 rfl w.heap.size 42 i0 (.pointer none) 1 8 Tryz.underlying56 hi hz0 hz1 hz2 rfl dW (.slice oa 3 ocap) 3 _ rfl (HO1.out.alloc _) ⟨_, 0, none⟩ 1 1 [pv x1] rfl rfl (Qa3 _ 42 (pv x1)) (by simp [Value.oneCell']) (by unfold maxLen; omega) oW (by have := HU.out.bel.size; have := HB1.out.size; simp; omega) ?_; intro v7 w7 hown7 hgrow7 _ _)
    exact ⟨⟨4, _, oW, by go_num, Qa (HU.out.next HB1.out HZ1.out HR1.out HO1.out hgrow7 hown7)⟩, by simp [intOf]⟩
   ·have c0 : wr.cell? ⟨s, 4, none⟩ = some (.func (.func 95) #[pv M.m] #[]) := (HU.out.bel.cell (p := ⟨s, 4, none⟩) HS.out).trans H4.out
    go_wp2_with fail
    refine (Qkw M _ (HG.out.mono HU.out.bel)).mono ?_
    rintro e w1 ⟨v1, rfl, hn1, hB1⟩
    obtain ⟨x1, y1, rfl, z1, hr1⟩ := hn1
    have HB1 := Qa hB1
    have HR1 := Qa hr1
    have HZ1 := Qa z1
    have HO1 := Qa (Qac HU.out.own hB1)
    clear hB1 hr1 z1 c0
    go_wp2_with (at_builtin; refine wpList_append_own_at _ rfl _ _ 56 rfl w.heap.size 42 i0 (.pointer none) 1 8 Tryz.underlying56 hi hz0 hz1 hz2 rfl dW (.slice oa 4 ocap) 4 _ rfl (HO1.out.alloc _) ⟨_, 0, none⟩ 1 1 [pv x1] rfl rfl (Qa3 _ 42 (pv x1)) (by simp [Value.oneCell']) (by unfold maxLen; omega) oW (by have := HU.out.bel.size; have := HB1.out.size; simp; omega) ?_; intro v7 w7 hown7 hgrow7 _ _)
    exact ⟨⟨5, _, oW, by go_num, Qa (HU.out.next HB1.out HZ1.out HR1.out HO1.out hgrow7 hown7)⟩, by simp [intOf]⟩
   ·have c0 : wr.cell? ⟨s, 5, none⟩ = some (.func (.func 96) #[pv M.m] #[]) := (HU.out.bel.cell (p := ⟨s, 5, none⟩) HS.out).trans H5.out
    go_wp2_with fail
    refine (Qro M _ (HG.out.mono HU.out.bel)).mono ?_
    rintro e w1 ⟨v1, rfl, hn1, hB1⟩
    obtain ⟨x1, y1, rfl, z1, hr1⟩ := hn1
    have HB1 := Qa hB1
    have HR1 := Qa hr1
    have HZ1 := Qa z1
    have HO1 := Qa (Qac HU.out.own hB1)
    clear hB1 hr1 z1 c0
    go_wp2_with (at_builtin; refine wpList_append_own_at _ rfl _ _ 56 rfl w.heap.size 42 i0 (.pointer none) 1 8 Tryz.underlying56 hi hz0 hz1 hz2 rfl dW (.slice oa 5 ocap) 5 _ rfl (HO1.out.alloc _) ⟨_, 0, none⟩ 1 1 [pv x1] rfl rfl (Qa3 _ 42 (pv x1)) (by simp [Value.oneCell']) (by unfold maxLen; omega) oW (by have := HU.out.bel.size; have := HB1.out.size; simp; omega) ?_; intro v7 w7 hown7 hgrow7 _ _)
    exact ⟨⟨6, _, oW, by go_num, Qa (HU.out.next HB1.out HZ1.out HR1.out HO1.out hgrow7 hown7)⟩, by simp [intOf]⟩
  ·obtain rfl : k = 6 := by omega
   obtain ⟨g, rfl, hra⟩ := Qgh HU.out.own HU.out.len oW (fun r hr => (HU.out.md r hr).2)
   have D := Qdo g ocap rs wr hra (by rw [HU.out.len]; decide)
   rw [HU.out.len, HU.out.eq] at D
   have D := Qa D
   clear hra
   go_wp2_with fail
   refine D.out.mono ?_
   rintro e w1 ⟨b, c, rfl, hM⟩
   go_wp2_with fail
   go_ret
   have hz := Nat.le_trans HG.out.hB HU.out.bel.size
   exact ⟨pv b, rfl, ⟨b, c, rfl, ⟨Nat.le_trans hz hM.hb, Nat.le_trans hz hM.hc⟩, hM.rel⟩, Qaa HU.out.bel HU.out.bel.size hM.below⟩
theorem Qoe {w : World} {b c m : Nat} {L : List Nat} {old : Array Value} (h : IsRel w b c L) (hm : Blk w m 44 old) (cs : Array Value) : IsRel (w.setRow m cs) b c L :=
 ⟨h.ne, h.head.rowOther (Qav h.head hm dW) cs, h.rows.rowOther (Qav h.rows hm dW) cs, h.len, h.low⟩
theorem Qul {w : World} {b c m j : Nat} {L : List Nat} {old : Array Value} (h : IsRel w b c L) (hm : Blk w m 44 old) (u : Value) : IsRel (w.setCell ⟨m, j, none⟩ u) b c L :=
 ⟨h.ne, h.head.setOther (a := ⟨m, j, none⟩) (Qav h.head hm dW) u, h.rows.setOther (a := ⟨m, j, none⟩) (Qav h.rows hm dW) u, h.len, h.low⟩
theorem NRel.row {B m : Nat} {w : World} {v : Value} {L : List Nat} {old : Array Value} (h : NRel B w v L) (hm : Blk w m 44 old) (cs : Array Value) : NRel B (w.setRow m cs) v L := by
 obtain ⟨b, c, h1, h2, h3⟩ := h
 exact ⟨b, c, h1, h2, Qoe h3 hm cs⟩
theorem NRel.cellF {B m j : Nat} {w : World} {v : Value} {L : List Nat} {old : Array Value} (h : NRel B w v L) (hm : Blk w m 44 old) (u : Value) : NRel B (w.setCell ⟨m, j, none⟩ u) v L := by
 obtain ⟨b, c, h1, h2, h3⟩ := h
 exact ⟨b, c, h1, h2, Qul h3 hm u⟩
theorem Qqn (a b c d e : Value) (ha : a.oneCell' = true) (hb : b.oneCell' = true) (hc : c.oneCell' = true) (hd : d.oneCell' = true) (he : e.oneCell' = true) : (#[a, b, c, d, e] : Array Value).all (·.oneCell') = true := by simp [ha, hb, hc, hd, he]
theorem QB3 (g : Gr) (Ls : Nat → List Nat) : obL g Ls = Qa1 [Qfa g Ls, Qfj g Ls, Qfk g Ls, Qfl g Ls] := rfl
theorem QAi {B : Nat} {w : World} {a0 a1 a2 a3 : Nat} {L0 L1 L2 L3 : List Nat} (h0 : NRel B w (pv a0) L0) (h1 : NRel B w (pv a1) L1) (h2 : NRel B w (pv a2) L2) (h3 : NRel B w (pv a3) L3) : ∃ k0 k1 k2 k3, Rels w [(a0, k0, L0), (a1, k1, L1), (a2, k2, L2), (a3, k3, L3)] := by
 obtain ⟨b0, c0, e0, -, r0⟩ := h0
 obtain ⟨b1, c1, e1, -, r1⟩ := h1
 obtain ⟨b2, c2, e2, -, r2⟩ := h2
 obtain ⟨b3, c3, e3, -, r3⟩ := h3
 cases e0; cases e1; cases e2; cases e3
 exact ⟨c0, c1, c2, c3, ((((Rels.nil w).cons r3).cons r2).cons r1).cons r0⟩
theorem Qjg (M : Md) (w : World) (hG : PG M (Qaq M.Ls) w) :
  Calls Tryz.prog 36 #[pv M.m] w fun e w' => ∃ v0 v1 v2 v3 v4, e = .returned (.agg #[v0, v1, v2, v3, v4]) ∧ NRel M.B w' v0 (Qfa M.g M.Ls) ∧ NRel M.B w' v1 (Qfj M.g M.Ls) ∧ NRel M.B w' v2 (Qfk M.g M.Ls) ∧ NRel M.B w' v3 (Qfl M.g M.Ls) ∧ NRel M.B w' v4 (obL M.g M.Ls) ∧ Below w.heap.size w w' := by
 have HGd : Hid (∀ W, Below w.heap.size w W → PG M (Qaq M.Ls) W) := fun W hW => hG.mono hW
 have HZ := Qa hG.hB
 have HA1 := Qa (Blk.new w 44 #[.pointer none, .pointer none, .pointer none, .pointer none, .pointer none])
 have HB1 := Qa ((Below.refl w.heap.size w).alloc nW (.cells #[.pointer none, .pointer none, .pointer none, .pointer none, .pointer none] 44))
 clear hG
 go_enter Tryz.func36, Tryz.ntmps36
 go_upto_region 1 with fail
 generalize w.alloc (.cells #[.pointer none, .pointer none, .pointer none, .pointer none, .pointer none] 44) = w1 at *
 go_upto_region 2 with (first | (go_at_call 79; refine (Quh M _ _ (HGd.out _ (HB1.out.alloc HB1.out.size _)) sW ((Blk.new _ _ _).cell rfl) ((Blk.new _ _ _).cell rfl) ((Blk.new _ _ _).cell rfl)).mono ?_; rintro e w2 ⟨v, rfl, hn, hB0⟩; have hB := Qaa ((Below.refl w1.heap.size w1).alloc nW _) sW hB0; obtain ⟨a0, k0, rfl, z0, r0⟩ := hn; have HB2 := Qa (Qaa HB1.out HB1.out.size hB); have HN0 := Qa (show NRel M.B w2 (pv a0) _ from ⟨a0, k0, rfl, z0, r0⟩); have HA2 := Qa (HA1.out.of_below hB); clear HB1 HA1 hB hB0 z0 r0) | (go_at_call 79; refine (Qui M _ _ (HGd.out _ (HB2.out.alloc HB2.out.size _)) sW ((Blk.new _ _ _).cell rfl) ((Blk.new _ _ _).cell rfl) ((Blk.new _ _ _).cell rfl) ((Blk.new _ _ _).cell rfl) ((Blk.new _ _ _).cell rfl) ((Blk.new _ _ _).cell rfl)).mono ?_; rintro e w3 ⟨v, rfl, hn, hB0⟩; have hB := Qaa ((Below.refl w2.heap.size w2).alloc nW _) sW hB0; obtain ⟨a1, k1, rfl, z1, r1⟩ := hn; have HB3 := Qa (Qaa HB2.out HB2.out.size hB); have HN0 := Qa (HN0.out.below hB); have HN1 := Qa (show NRel M.B w3 (pv a1) _ from ⟨a1, k1, rfl, z1, r1⟩); have HA3 := Qa (HA2.out.of_below hB); clear HB2 HA2 hB hB0 z1 r1) | (go_at_call 79; refine (Quj M _ _ (HGd.out _ (HB3.out.alloc HB3.out.size _)) sW ((Blk.new _ _ _).cell rfl) ((Blk.new _ _ _).cell rfl)).mono ?_; rintro e w4 ⟨v, rfl, hn, hB0⟩; have hB := Qaa ((Below.refl w3.heap.size w3).alloc nW _) sW hB0; obtain ⟨a2, k2, rfl, z2, r2⟩ := hn; have HB4 := Qa (Qaa HB3.out HB3.out.size hB); have HN0 := Qa (HN0.out.below hB); have HN1 := Qa (HN1.out.below hB); have HN2 := Qa (show NRel M.B w4 (pv a2) _ from ⟨a2, k2, rfl, z2, r2⟩); have HA4 := Qa (HA3.out.of_below hB); clear HB3 HA3 hB hB0 z2 r2) | (go_at_call 79; refine (Quk M _ _ (HGd.out _ (HB4.out.alloc HB4.out.size _)) sW ((Blk.new _ _ _).cell rfl) ((Blk.new _ _ _).cell rfl) ((Blk.new _ _ _).cell rfl) ((Blk.new _ _ _).cell rfl) ((Blk.new _ _ _).cell rfl) ((Blk.new _ _ _).cell rfl)).mono ?_; rintro e w5 ⟨v, rfl, hn, hB0⟩; have hB := Qaa ((Below.refl w4.heap.size w4).alloc nW _) sW hB0; obtain ⟨a3, k3, rfl, z3, r3⟩ := hn; have HB5 := Qa (Qaa HB4.out HB4.out.size hB); have HN0 := Qa (HN0.out.below hB); have HN1 := Qa (HN1.out.below hB); have HN2 := Qa (HN2.out.below hB); have HN3 := Qa (show NRel M.B w5 (pv a3) _ from ⟨a3, k3, rfl, z3, r3⟩); have HA5 := Qa (HA4.out.of_below hB); clear HB4 HA4 hB hB0 z3 r3) | (refine wpList_store_row rfl 44 _ _ rfl w5.heap.size #[pv a0, pv a1, pv a2, pv a3, .pointer none] rfl rfl 44 #[.pointer none, .pointer none, .pointer none, .pointer none, .pointer none] (Blk.new w5 _ _) kW rfl (Qqn _ _ _ _ _ rfl rfl rfl rfl rfl) ?_))
 have hb6 := (Blk.new w5 44 #[.pointer none, .pointer none, .pointer none, .pointer none, .pointer none]).setRow' #[pv a0, pv a1, pv a2, pv a3, .pointer none]
 have hB6 : Below w5.heap.size w5 ((w5.alloc (.cells #[.pointer none, .pointer none, .pointer none, .pointer none, .pointer none] 44)).setRow w5.heap.size #[pv a0, pv a1, pv a2, pv a3, .pointer none]) := (bW.alloc nW _).trans (Qan _ nW)
 have HF6 := Qa hb6
 have HN0 := Qa (HN0.out.below hB6)
 have HN1 := Qa (HN1.out.below hB6)
 have HN2 := Qa (HN2.out.below hB6)
 have HN3 := Qa (HN3.out.below hB6)
 have HA6 := Qa (HA5.out.of_below hB6)
 have HB6 := Qa (Qaa HB5.out HB5.out.size hB6)
 have HL6 : Hid (w.heap.size < w5.heap.size) := Blk.lt HA5.out
 clear hb6 hB6 HA5 HB5
 generalize (w5.alloc (.cells #[.pointer none, .pointer none, .pointer none, .pointer none, .pointer none] 44)).setRow w5.heap.size #[pv a0, pv a1, pv a2, pv a3, .pointer none] = w6 at *
 generalize w5.heap.size = fb at *
 have d0 := HF6.out.cell (j := 0) (v := pv a0) rfl
 have d1 := HF6.out.cell (j := 1) (v := pv a1) rfl
 have d2 := HF6.out.cell (j := 2) (v := pv a2) rfl
 have d3 := HF6.out.cell (j := 3) (v := pv a3) rfl
 obtain ⟨q0, q1, q2, q3, hRS⟩ := QAi HN0.out HN1.out HN2.out HN3.out
 have HUN : Hid (Calls Tryz.prog 29 #[.slice (some ⟨w6.heap.size, 0, none⟩) 4 4] (w6.alloc (.cells #[pv a0, pv a1, pv a2, pv a3] 42)) fun e w' => ∃ b c, e = .returned (pv b) ∧ Made (w6.alloc (.cells #[pv a0, pv a1, pv a2, pv a3] 42)) w' b c (Qa1 [Qfa M.g M.Ls, Qfj M.g M.Ls, Qfk M.g M.Ls, Qfl M.g M.Ls])) := Qrf w6.heap.size [(a0, q0, Qfa M.g M.Ls), (a1, q1, Qfj M.g M.Ls), (a2, q2, Qfk M.g M.Ls), (a3, q3, Qfl M.g M.Ls)] _ (Qha (Qha (Qha (Qha Qx3)))) _ (Qm6 _ hRS) sW
 clear hRS
 go_upto_region 3 with (go_at_call 29; refine HUN.out.mono ?_; rintro e w7 ⟨x, y, rfl, hM⟩; have hB7 := Qaa ((Below.refl w6.heap.size w6).alloc nW _) sW hM.below; have HB7 := Qa (Qaa HB6.out HB6.out.size hB7); have HF7 := Qa (HF6.out.of_below hB7); have HA7 := Qa (HA6.out.of_below hB7); have HN0 := Qa (HN0.out.below hB7); have HN1 := Qa (HN1.out.below hB7); have HN2 := Qa (HN2.out.below hB7); have HN3 := Qa (HN3.out.below hB7); have HN4 : Hid (NRel M.B w7 (pv x) (Qa1 [Qfa M.g M.Ls, Qfj M.g M.Ls, Qfk M.g M.Ls, Qfl M.g M.Ls])) := ⟨x, y, rfl, ⟨Nat.le_trans HZ.out (Nat.le_trans HB6.out.size (Nat.le_trans sW hM.hb)), Nat.le_trans HZ.out (Nat.le_trans HB6.out.size (Nat.le_trans sW hM.hc))⟩, hM.rel⟩; have d4 := HF7.out.cell (j := 4) (v := .pointer none) rfl; have f4 := HF7.out.frozen 4; clear hM hB7)
 rw [← QB3] at HN4
 have HF8 : Hid (Blk (w7.setCell ⟨fb, 4, none⟩ (pv x)) fb 44 #[pv a0, pv a1, pv a2, pv a3, pv x]) := HF7.out.set 4 (pv x)
 have HN0 := Qa (HN0.out.cellF (j := 4) HF7.out (pv x))
 have HN1 := Qa (HN1.out.cellF (j := 4) HF7.out (pv x))
 have HN2 := Qa (HN2.out.cellF (j := 4) HF7.out (pv x))
 have HN3 := Qa (HN3.out.cellF (j := 4) HF7.out (pv x))
 have HN4 := Qa (HN4.out.cellF (j := 4) HF7.out (pv x))
 have HA8 := Qa (HA7.out.setOther (a := ⟨fb, 4, none⟩) (by have := HL6.out; have h2 := HA6.out; show w.heap.size ≠ fb; omega) (pv x))
 have HB8 := Qa (HB7.out.setCell (p := ⟨fb, 4, none⟩) (by have := HL6.out; show w.heap.size ≤ fb; omega) (pv x))
 clear d0 d1 d2 d3 d4 f4 HF7 HA7 HB7 HF6 HA6 HB6
 generalize w7.setCell ⟨fb, 4, none⟩ (pv x) = w8 at *
 go_wp2_with (first | refine wpList_load_row rfl 44 _ rfl fb rfl 44 #[pv a0, pv a1, pv a2, pv a3, pv x] (0, 0) _ HF8.out Tryz.underlying44 rfl kW ?_ | refine wpList_store_row rfl 44 _ _ rfl w.heap.size #[pv a0, pv a1, pv a2, pv a3, pv x] rfl rfl 44 #[.pointer none, .pointer none, .pointer none, .pointer none, .pointer none] HA8.out kW rfl (Qqn _ _ _ _ _ rfl rfl rfl rfl rfl) ?_)
 exact bodyPost_ret (results_cell_row rfl _ _ w.heap.size 44 #[pv a0, pv a1, pv a2, pv a3, pv x] (0, 0) _ rfl (HA8.out.setRow' #[pv a0, pv a1, pv a2, pv a3, pv x]) Tryz.underlying44 rfl kW) rfl ⟨pv a0, pv a1, pv a2, pv a3, pv x, rfl, HN0.out.row HA8.out _, HN1.out.row HA8.out _, HN2.out.row HA8.out _, HN3.out.row HA8.out _, HN4.out.row HA8.out _, HB8.out.trans (Qan _ nW)⟩
theorem Qyo {B : List Nat} {p : Int × Int} (h : Qdj B p.1 p.2 = false) : Qhe B p = [] := by unfold Qhe; rw [h]; rfl
theorem Qwi {B : List Nat} {p : Int × Int} (h : Qdj B p.1 p.2 = true) : Qhe B p = [p.1, p.2] := by unfold Qhe; rw [h]; rfl
theorem Qqo {B : List Nat} {l : List (Int × Int)} {i : Nat} {p : Int × Int} (h : l[i]? = some p) : Qkh B l i = Qhe B p := by unfold Qkh; rw [List.getD_eq_getElem?_getD, h]; rfl
theorem Qyp {f : Nat → List Int} {i : Nat} (h : ∀ a, a < i → f a = []) (hi : f i = []) : ∀ a, a < i + 1 → f a = [] := fun a ha => by
 by_cases e : a = i
 ·rw [e]; exact hi
 ·exact h a oW
def sgA : Nat → PV := Qb7 (fun _ => .at 0 0) [(0, .at 1 0), (3, .at 4 0)]
theorem gaA {M : Md} {ρ : Nat → Option (List Nat)} {T fb : Nat} {ws w0 w : World} {a : Act} (hl : Below w0.heap.size w0 w) (hG : PG M ρ w) (ht : Touch M.m ws w) (hf : Blk w fb 115 M.fx) (e0 : a.eval (.tmp 0) = pv M.m) (e2 : a.eval (.tmp 3) = pv fb) (hs : a.tmps.size = T) (hd : a.defers = []) : (pE M ws ρ).Ga T w0 sgA a w := by
 refine ⟨hl, ⟨hG, ht⟩, fun d => ?_, fun d => ?_, hs, hd⟩
 ·show PIs M 0 w (sgA d) _
  unfold sgA
  rcases Qct (σ := fun _ => PV.at 0 0) (ks := [(0, .at 1 0), (3, .at 4 0)]) (x := d) with ⟨p, h1, rfl, h3⟩ | ⟨-, h2⟩
  ·rw [h3]
   rcases List.mem_cons.1 h1 with rfl | h1
   ·exact e0
   ·obtain rfl := List.mem_singleton.1 h1
    exact ⟨fb, e2, hf⟩
  ·rw [h2]
   exact trivial
 ·unfold sgA
  rcases Qct (σ := fun _ => PV.at 0 0) (ks := [(0, .at 1 0), (3, .at 4 0)]) (x := d) with ⟨p, h1, rfl, h3⟩ | ⟨-, h2⟩
  ·rw [h3]
   rcases List.mem_cons.1 h1 with rfl | h1
   ·rfl
   ·obtain rfl := List.mem_singleton.1 h1
    rfl
  ·rw [h2]
   rfl
theorem Qow (M : Md) (w : World) (hG : PG M (Qaq M.Ls) w) :
  Calls Tryz.prog 76 #[pv M.m] w fun e w' => ∃ v out, e = .returned v ∧ Qdg (Qey M.Ls) out ∧ w'.ownsRow M.B 3 1 v out.length (Qc7 out) ∧ Below w.heap.size w w' := by
 obtain ⟨r, hmo, -⟩ := hG.mo
 have HG := Qa hG
 have C := Qa (fun j v h => hmo.cell (j := j) (v := v) h)
 clear hG hmo
 have c0 : w.cell? ⟨M.m, 8, none⟩ = some (pv (M.bs 0)) := C.out 8 _ rfl
 have c1 : w.cell? ⟨M.m, 9, none⟩ = some (pv (M.bs 1)) := C.out 9 _ rfl
 have c2 : w.cell? ⟨M.m, 10, none⟩ = some (pv (M.bs 2)) := C.out 10 _ rfl
 have c3 : w.cell? ⟨M.m, 11, none⟩ = some (pv (M.bs 3)) := C.out 11 _ rfl
 have c4 : w.cell? ⟨M.m, 12, none⟩ = some (pv (M.bs 4)) := C.out 12 _ rfl
 have c5 : w.cell? ⟨M.m, 13, none⟩ = some (pv (M.bs 5)) := C.out 13 _ rfl
 have c6 : w.cell? ⟨M.m, 14, none⟩ = some (pv (M.bs 6)) := C.out 14 _ rfl
 have c7 : w.cell? ⟨M.m, 15, none⟩ = some (pv (M.bs 7)) := C.out 15 _ rfl
 have c8 : w.cell? ⟨M.m, 16, none⟩ = some (pv (M.bs 8)) := C.out 16 _ rfl
 have c9 : w.cell? ⟨M.m, 17, none⟩ = some (pv (M.bs 9)) := C.out 17 _ rfl
 have c10 : w.cell? ⟨M.m, 18, none⟩ = some (.slice (some ⟨M.br, 0, none⟩) M.g.evs.length M.g.evs.length) := C.out 18 _ rfl
 have c11 : w.cell? ⟨M.m, 19, none⟩ = some (.slice (some ⟨M.bw, 0, none⟩) M.g.evs.length M.g.evs.length) := C.out 19 _ rfl
 have c12 : w.cell? ⟨M.m, 20, none⟩ = some (.slice (some ⟨M.bf, 0, none⟩) M.g.evs.length M.g.evs.length) := C.out 20 _ rfl
 go_enter Tryz.func76, Tryz.ntmps76
 go_upto_region 2 with fail
 rename_i hK
 clear c0 c1 c2 c3 c4 c5 c6 c7 c8 c9 c10 c11 c12 C
 have hb : Below w.heap.size w (w.alloc (.cells M.fx 115)) := bW.alloc nW _
 refine Eng.reg_ret (E := pE M w (Qaq M.Ls)) (T := 22) (w0 := w) (σ := sgA) 2 ⟨13, 0, Qey M.Ls, [], [], []⟩ byK byK byK (Qb (fun _ _ => rfl) _ _ _) byK byK rfl (fun a w h => hK a w (wp_ret h)) ?_ _ _ (gaA hb (HG.out.mono hb) (Touch.of_below hb) (Blk.new w 115 M.fx) rfl rfl rfl rfl)
 rintro N w' v hl - ⟨out, h1, h2⟩
 dsimp only at h1 h2
 exact ⟨v, out, rfl, h1, h2, hl⟩
theorem QB4 (v0 v1 v2 v3 : Value) (b : Nat) (W : World) : (Instr.field 44 (.agg #[v0, v1, v2, v3, pv b]) 4).run Tryz.prog W = .ok (pv b) W := by kernel_rfl
theorem Qox (M : Md) (w : World) (hG : PG M (Qaq M.Ls) w) :
  Calls Tryz.prog 77 #[pv M.m] w fun e w' => ∃ v out, e = .returned v ∧ Qdg (obL M.g M.Ls) out ∧ w'.ownsRow M.B 3 1 v out.length (Qc7 out) ∧ Below w.heap.size w w' := by
 have HG := Qa hG
 clear hG
 have hfl := QB4
 go_enter Tryz.func77, Tryz.ntmps77
 go_wp2_with (first | (go_at_call 36; refine (Qjg M w HG.out).mono ?_; rintro e w1 ⟨v0, v1, v2, v3, v4, rfl, -, -, -, -, hn, hB⟩; obtain ⟨b, c, rfl, -, hr⟩ := hn; have HR := Qa hr; have HB := Qa hB; clear hr hB) | (go_at_call 139; refine (Qkq b c _ _ HR.out (HG.out.mono HB.out).tab).mono ?_; rintro e w2 ⟨v, out, rfl, h2, h3, h4⟩; have H2 := Qa h2; have H3 := Qa h3; have H4 := Qa h4; clear h2 h3 h4))
 go_ret
 exact ⟨v, out, rfl, H2.out, Qa6 H3.out (Nat.le_trans HG.out.hB HB.out.size), Qaa HB.out HB.out.size H4.out⟩
theorem Qqp (m b0 c0 b1 c1 : Nat) (A B : List Nat) (u : Value) (l : List (Int × Int)) (w : World) (h0 : IsRel w b0 c0 A) (h1 : IsRel w b1 c1 B) (k11 : w.cell? ⟨m, 25, none⟩ = some (pv b0)) (k10 : w.cell? ⟨m, 24, none⟩ = some (pv b1)) (k4 : w.cell? ⟨m, 4, none⟩ = some u) (hu : PArg w u l) (hT : Tab w) :
  Calls Tryz.prog 78 #[pv m] w fun e w' => ∃ v, e = .returned v ∧ w'.ownsRow w.heap.size 3 1 v (Qi3 (Qa7 A [B]) l).length (Qaf (Qi3 (Qa7 A [B]) l)) ∧ Below w.heap.size w w' := by
 have hm : m < w.heap.size := block_lt_of_cell k11
 obtain ⟨p, cp, rfl, hp, hl⟩ := Qae hu
 have HCM : Hid (∀ W, IsRel W b0 c0 A → IsRel W b1 c1 B → Tab W → ∀ s, s = W.heap.size → Calls Tryz.prog 140 #[pv b0, .slice (some ⟨s, 0, none⟩) 1 1] (W.alloc (.cells #[pv b1] 42)) fun e w' => ∃ b c, e = .returned (pv b) ∧ IsRel w' b c (Qa7 A [B]) ∧ Below W.heap.size W w') := fun W h h' hT' s hs => by
  subst hs
  have hb := (Below.refl W.heap.size W).alloc nW (.cells #[pv b1] 42)
  refine (Qje b0 c0 W.heap.size A [(b1, c1, B)] _ (h.below hb) (Qm6 [(b1, c1, B)] (fun x hx => by rw [List.mem_singleton.1 hx]; exact h')) sW (hT'.step' hb) 0 ⟨Nat.zero_le _, Nat.zero_le _, Nat.zero_le _⟩).mono ?_
  rintro e w' ⟨b, c, rfl, -, hr, hB⟩
  exact ⟨b, c, rfl, hr, Qaa hb sW hB⟩
 generalize Qa7 A [B] = C at *
 have HA := Qa h0
 have HBb := Qa h1
 have KA := Qa k11
 have KB := Qa k10
 have K4 := Qa k4
 have HT := Qa hT
 have HP := Qa hp
 have hS0 := And.intro k11 k10
 clear h0 h1 k11 k10 k4 hT hu hp
 go_enter Tryz.func78, Tryz.ntmps78
 go_upto_region 1 with fail
 have hBd : Below w.heap.size w w.drew := bW.drew
 have HA1 := Qa (HA.out.below hBd)
 have HB1 := Qa (HBb.out.below hBd)
 have HD1 := Qa hBd
 refine wp_region_held_drew (S := fun W => W.cell? ⟨m, 25, none⟩ = some (pv b0) ∧ W.cell? ⟨m, 24, none⟩ = some (pv b1)) kW ⟨(hBd.cell (p := ⟨m, 25, none⟩) hm).trans KA.out, (hBd.cell (p := ⟨m, 24, none⟩) hm).trans KB.out⟩ (fun hHeld => ?_)
 clear hBd hS0
 generalize w.drew = W1 at *
 refine tzW 0 rfl ?_
 refine tzW 1 rfl ?_
 refine tzW 2 rfl ?_
 refine tzW 3 rfl ?_
 refine tzW 4 rfl ?_
 refine tzW 5 rfl ?_
 refine tzW 6 rfl ?_
 refine tzW 7 rfl ?_
 refine wpAnyH_ready (rs := [8]) kW sW ?_
 refine rdy rfl (fun K hK => ?_) AllReadyH.nil
 simp only [z1, z2, z3]
 go_simp
 have hBq : Below W1.heap.size W1 (W1.alloc (.cells #[pv b1] 42)) := bW.alloc nW _
 have hBq2 : Below w.heap.size w (W1.alloc (.cells #[pv b1] 42)) := Qaa HD1.out HD1.out.size hBq
 refine hK.out _ _ ⟨(hBq2.cell (p := ⟨m, 25, none⟩) hm).trans KA.out, (hBq2.cell (p := ⟨m, 24, none⟩) hm).trans KB.out⟩ (fun hHeld => ?_)
 clear hK K hBq hBq2
 try simp only [zz]
 refine wpAnyH_ready (rs := [9]) kW sW ?_
 refine rdy rfl (fun K hK => ?_) AllReadyH.nil
 simp only [z1, z2, z3]
 go_simp
 refine (HCM.out W1 HA1.out HB1.out (HT.out.step' HD1.out) _ rfl).mono ?_
 rintro e W2 ⟨b2, c2, rfl, hC, hB2⟩
 have HD2 : Hid (Below w.heap.size w W2) := Qaa HD1.out HD1.out.size hB2
 have HC := Qa hC
 clear hC hB2 HD1 HA1 HB1 hHeld
 refine hK.out _ _ ⟨(HD2.out.cell (p := ⟨m, 25, none⟩) hm).trans KA.out, (HD2.out.cell (p := ⟨m, 24, none⟩) hm).trans KB.out⟩ (fun hHeld => ?_)
 clear hK K
 try simp only [zz]
 refine tzW 10 rfl ?_
 refine wpAnyH_done kW ?_ _
 clear hHeld
 have x4 := (HD2.out.cell (p := ⟨m, 4, none⟩) hm).trans K4.out
 go_wp2_with fail
 clear x4
 go_loopg [22] l.length (fun f v22 wr => ∃ i : Nat, v22 = .int .i64 ((i : Nat) : Int) ∧ i ≤ l.length ∧ Hid (i + f = l.length) ∧ Hid (∀ a, a < i → Qkh C l a = []) ∧ Hid (Below W2.heap.size W2 wr))
 case atStart => exact ⟨0, rfl, Nat.zero_le _, Nat.zero_add _, (fun a ha => by omega), Below.refl _ _⟩
 case round =>
  obtain ⟨i, rfl, hi, HIF, HALL, HB⟩ := hrel
  have HBW : Hid (Below w.heap.size w wr) := Qaa HD2.out HD2.out.size HB.out
  by_cases hlt : i < l.length
  ·have I0 : (0 : Int) ≤ (i : Int) := by omega
   have I1 : (i : Int) < (l.length : Int) := by omega
   obtain ⟨⟨x, y⟩, hx⟩ : ∃ x, l[i]? = some x := ⟨_, List.getElem?_eq_getElem hlt⟩
   obtain ⟨s, o, rfl, hat⟩ := HP.out oW
   have hat' := hat.below HBW.out
   have c0 := hat'.fst i _ hx
   have c1 := hat'.snd i _ hx
   have HX := Qa hx
   obtain ⟨q, hq⟩ : ∃ q, Qdj C x y = q := ⟨_, rfl⟩
   have D1 := Qa (fun W hW => Qwc b2 c2 C x y W (HC.out.below (Qaa HB.out HB.out.size hW)))
   rw [hq] at D1
   have HQ := Qa hq
   clear hat hat' hx hq
   cases q
   ·go_wp2_with fail
    refine (D1.out _ (bW.alloc nW _)).mono ?_
    rintro e w3 ⟨rfl, hB3⟩
    go_wp2_with fail
    go_roundg (l.length - (i + 1))
    case measure => have := HIF.out; omega
    case rel => exact ⟨i + 1, by go_num, oW, by have := HIF.out; rw [Hid]; omega, Qyp HALL.out (by rw [Qqo HX.out]; exact Qyo (p := (x, y)) HQ.out), Qaa HB.out HB.out.size ((bW.alloc nW _).trans (hB3.mono sW))⟩
   ·go_wp2_with fail
    have hz := Blk.new wr 30 #[.int .i64 x, .int .i64 y]
    refine (D1.out _ (bW.alloc nW _)).mono ?_
    rintro e w3 ⟨rfl, hB3⟩
    have hz3 := hz.of_below hB3
    have z0 := hz3.cell (j := 0) rfl
    have z1' := hz3.cell (j := 1) rfl
    have hB4 : Below w.heap.size w w3 := Qaa HBW.out HBW.out.size ((bW.alloc nW _).trans (hB3.mono sW))
    have HB4 := Qa hB4
    clear hz hz3 hB3 hB4 c0 c1
    go_wp2_with fail
    go_ret
    have eP := Qwi (p := (x, y)) HQ.out
    have eL : Qi3 C l = [x, y] := by
     unfold Qi3
     have e1 := Qqo (B := C) HX.out
     rw [Qoc HALL.out (by rw [e1, eP]; simp) hlt, e1, eP]
    rw [eL]
    exact ⟨_, rfl, QC5 (Blk.new _ _ _) HB4.out.size, HB4.out.alloc HB4.out.size _⟩
  ·obtain rfl : i = l.length := by omega
   go_wp2_with fail
   go_ret
   have eL : Qi3 C l = [] := Qj0 HALL.out
   rw [eL]
   exact ⟨_, rfl, World.ownsRow_nil _ _ _ _, HBW.out⟩
def axC (m : Nat) : Array Value := #[.int .i64 1, .func (.func 76) #[pv m] #[], .int .i64 2, .func (.func 77) #[pv m] #[], .int .i64 3, .func (.func 78) #[pv m] #[]]
theorem Qnf (m : Nat) (w : World) : Calls Tryz.prog 35 #[pv m] w fun e w' => ∃ b, e = .returned (.slice (some ⟨b, 0, none⟩) 3 3) ∧ Blk w' b 82 (axC m) ∧ Below w.heap.size w w' := by
 go_enter Tryz.func35, Tryz.ntmps35
 go_wp2_with fail
 go_ret
 exact ⟨_, rfl, Blk.new _ _ _, bW.alloc nW _⟩
def Qgi (g : Gr) (ax : Int) (l : List Int) (e : Int) : Prop := ((chk g true).1 ≠ 0 ∧ ax = 0 ∧ l = [] ∧ e = 4) ∨ ((chk g true).1 = 0 ∧ e = 0 ∧ Qi5 g ax l)
def KeptN (g : Gr) (i : Nat) : Prop := (0 < i → Qdg (Qey (LG g)) []) ∧ (1 < i → Qdg (obL g (LG g)) []) ∧ (2 < i → Qi4 g = [])
def Brk (g : Gr) (i : Nat) (l : List Int) : Prop := (i = 0 → ∃ o, Qdg (Qey (LG g)) o ∧ l = upI o) ∧ (i = 1 → ∃ o, Qdg (obL g (LG g)) o ∧ l = upI o) ∧ (i = 2 → l = Qi4 g)
theorem KeptN.zero (g : Gr) : KeptN g 0 := ⟨fun h => absurd h oW, fun h => absurd h oW, fun h => absurd h oW⟩
theorem KeptN.next {g : Gr} {i : Nat} (h : KeptN g i) (hi : i < 3) (hb : Brk g i []) : KeptN g (i + 1) := by
 obtain ⟨h0, h1, h2⟩ := h
 obtain ⟨b0, b1, b2⟩ := hb
 refine ⟨fun _ => ?_, fun _ => ?_, fun _ => ?_⟩
 ·by_cases e : i = 0
  ·obtain ⟨o, ho, he⟩ := b0 e
   rw [Qst he.symm] at ho
   exact ho
  ·exact h0 oW
 ·by_cases e : i = 1
  ·obtain ⟨o, ho, he⟩ := b1 e
   rw [Qst he.symm] at ho
   exact ho
  ·exact h1 oW
 ·by_cases e : i = 2
  ·exact (b2 e).symm
  ·exact h2 oW
theorem KeptN.told {g : Gr} {i : Nat} (h : KeptN g i) (hi : i < 3) {l : List Int} (hb : Brk g i l) (hl : l ≠ []) : Qi5 g (((i : Nat) : Int) + 1) l := by
 obtain ⟨h0, h1, h2⟩ := h
 obtain ⟨b0, b1, b2⟩ := hb
 match i, hi with
 | 0, _ =>
  obtain ⟨o, ho, he⟩ := b0 rfl
  exact ⟨o, ho, .inl ⟨fun e => hl (by rw [he, e]; rfl), rfl, he⟩⟩
 | 1, _ =>
  obtain ⟨o, ho, he⟩ := b1 rfl
  exact ⟨[], h0 oW, .inr ⟨rfl, o, ho, .inl ⟨fun e => hl (by rw [he, e]; rfl), rfl, he⟩⟩⟩
 | 2, _ => exact ⟨[], h0 oW, .inr ⟨rfl, [], h1 oW, .inr ⟨rfl, .inl ⟨by rw [← b2 rfl]; exact hl, rfl, b2 rfl⟩⟩⟩⟩
theorem KeptN.all {g : Gr} (h : KeptN g 3) : Qi5 g 0 [] := ⟨[], h.1 oW, .inr ⟨rfl, [], h.2.1 oW, .inr ⟨rfl, .inr ⟨h.2.2 oW, rfl, rfl⟩⟩⟩⟩
section
variable {w0 W : World} {V : GrV} {g : Gr} {m : Nat} {bs : Nat → Nat} {br bw bf : Nat}
def Qyq (w0 W : World) (V : GrV) (g : Gr) (m : Nat) (bs : Nat → Nat) (br bw bf : Nat) (i : Nat) (e : Ending) (w' : World) : Prop :=
 ∃ v l, e = .returned v ∧ Brk g i l ∧ w'.ownsRow w0.heap.size 3 1 v l.length (Qaf l) ∧ Mdl w0 V g m bs br bw bf w' ∧ Below W.heap.size W w'
theorem QD (hM : Mdl w0 V g m bs br bw bf W) : Calls Tryz.prog 76 #[pv m] W (Qyq w0 W V g m bs br bw bf 0) :=
 (Qow ⟨m, w0.heap.size, V, g, bs, br, bw, bf, LG g⟩ W hM.pg).mono fun e w' ⟨v, out, h1, h2, h3, h4⟩ => ⟨v, upI out, h1, ⟨fun _ => ⟨out, h2, rfl⟩, fun h => absurd h oW, fun h => absurd h oW⟩, by rw [Qsu, show (upI out).length = out.length by simp [upI]]; exact h3, hM.below h4, h4⟩
theorem QDa (hM : Mdl w0 V g m bs br bw bf W) : Calls Tryz.prog 77 #[pv m] W (Qyq w0 W V g m bs br bw bf 1) :=
 (Qox ⟨m, w0.heap.size, V, g, bs, br, bw, bf, LG g⟩ W hM.pg).mono fun e w' ⟨v, out, h1, h2, h3, h4⟩ => ⟨v, upI out, h1, ⟨fun h => absurd h oW, fun _ => ⟨out, h2, rfl⟩, fun h => absurd h oW⟩, by rw [Qsu, show (upI out).length = out.length by simp [upI]]; exact h3, hM.below h4, h4⟩
theorem QDb (h0 : GrR w0 V g) (hT : Tab w0) (hM : Mdl w0 V g m bs br bw bf W) : Calls Tryz.prog 78 #[pv m] W (Qyq w0 W V g m bs br bw bf 2) := by
 obtain ⟨r, hmo, hr⟩ := hM.pg.mo
 obtain ⟨b4, c4, e4, -, h4⟩ := hr 4 _ rfl
 obtain ⟨b3, c3, e3, -, h3⟩ := hr 3 _ rfl
 have k4 : W.cell? ⟨m, 25, none⟩ = some (pv b4) := by rw [← e4]; exact hmo.cell rfl
 have k3 : W.cell? ⟨m, 24, none⟩ = some (pv b3) := by rw [← e3]; exact hmo.cell rfl
 have kr : W.cell? ⟨m, 4, none⟩ = some V.rmw := hmo.cell rfl
 exact (Qqp m b4 c4 b3 c3 _ _ V.rmw g.rmw W h4 h3 k4 k3 kr (h0.rmw.below hM.low) (hT.step' hM.low)).mono fun e w' ⟨v, h1, h2, h3⟩ => ⟨v, Qi4 g, h1, ⟨fun h => absurd h oW, fun h => absurd h oW, fun _ => rfl⟩, Qa6 h2 hM.low.size, hM.below h3, h3⟩
end
theorem Qf6 (V : GrV) (g : Gr) (w : World) (h : GrR w V g) (hF : Frm w) (hT : Tab w) :
  Calls Tryz.prog 14 #[V.val g] w fun e w' => ∃ ax v l er, e = .returned (.tuple #[.int .i64 ax, v, .int .i64 er]) ∧ Qgi g ax l er ∧ w'.ownsRow w.heap.size 3 1 v l.length (Qaf l) ∧ Below w.heap.size w w' := by
 have hg0 := Blk.new w 27 (V.gs g)
 have hB0 : Below w.heap.size w (w.alloc (.cells (V.gs g) 27)) := bW.alloc nW _
 have e1 : w.alloc (.cells (V.gs g) 27) = w.alloc (.cells #[.int .i64 g.cells, V.ev, V.rf, V.co, V.rmw, V.addr, V.dat, V.ctrl] 27) := rfl
 rw [e1] at hB0 hg0
 have HV := Qa (h.below hB0)
 have HF := Qa (hF.step hB0)
 have HT := Qa (hT.step' hB0)
 have HB0 := Qa hB0
 have HG0 := Qa hg0
 unfold GrV.val
 clear h hF hT hB0 hg0 e1
 go_enter Tryz.func14, Tryz.ntmps14
 go_upto_region 1 with fail
 generalize w.alloc (.cells #[.int .i64 g.cells, V.ev, V.rf, V.co, V.rmw, V.addr, V.dat, V.ctrl] 27) = W0 at *
 go_wp2_with (first | refine wpList_load_row rfl 27 _ rfl w.heap.size rfl 27 (V.gs g) (0, 0) _ HG0.out Tryz.underlying27 rfl kW ?_)
 refine (Qkv V g W0 HV.out HF.out HT.out).mono ?_
 rintro e w1 (⟨hc, rfl, hB1⟩ | ⟨hc, m, bs, br, bw, bf, rfl, hM⟩)
 ·clear HG0
  go_wp2_with fail
  go_ret3
  exact ⟨0, .slice none 0 0, [], 4, rfl, .inl ⟨hc, rfl, rfl, rfl⟩, World.ownsRow_nil _ _ _ _, Qaa HB0.out HB0.out.size hB1⟩
 ·have HC := Qa hc
  have HM := Qa hM
  clear HG0 hc hM
  go_wp2_with fail
  refine (Qnf m w1).mono ?_
  rintro e w2 ⟨ab, rfl, hab, hB2⟩
  have HM2 := Qa (HM.out.below hB2)
  have HAB := Qa hab
  clear hB2 HM hab
  go_upto_region 5 with fail
  go_loopg [19] 3 (fun f v19 wr => ∃ (i : Nat), v19 = .int .i64 ((i : Nat) : Int) ∧ i ≤ 3 ∧ Hid (i + f = 3) ∧ Hid (KeptN g i) ∧ Hid (Blk wr ab 82 (axC m)) ∧ Hid (Mdl W0 V g m bs br bw bf wr))
  case atStart => exact ⟨0, rfl, oW, Nat.zero_add _, KeptN.zero g, HAB.out, HM2.out⟩
  case round =>
   clear HAB HM2
   obtain ⟨i, rfl, hi, HIF, HKN, HAB, HM⟩ := hrel
   generalize hwq : wr = wa at *
   clear hwq
   match i, hi with
   | 0, _ =>
    have a0 : wa.cell? ⟨ab, 0, none⟩ = some (.int .i64 1) := HAB.out.cell rfl
    have a1 : wa.cell? ⟨ab, 1, none⟩ = some (.func (.func 76) #[pv m] #[]) := HAB.out.cell rfl
    have hz0 := Blk.new wa 82 #[.int .i64 0, .nilFunc]
    have hBz : Below wa.heap.size wa ((wa.alloc (.cells #[.int .i64 0, .nilFunc] 82)).setRow wa.heap.size #[.int .i64 1, .func (.func 76) #[pv m] #[]]) := ((Below.refl wa.heap.size wa).alloc nW _).trans (Qan _ nW)
    have hz := hz0.setRow' #[.int .i64 1, .func (.func 76) #[pv m] #[]]
    have HM3 := Qa (HM.out.below hBz)
    have HAB3 := Qa (HAB.out.of_below hBz)
    clear HM HAB hBz
    go_upto_region 7 with (first | refine wpList_store_row rfl 82 _ _ rfl wa.heap.size #[.int .i64 1, .func (.func 76) #[pv m] #[]] rfl rfl 82 #[.int .i64 0, .nilFunc] hz0 kW rfl kW ?_)
    clear a0 a1 hz0
    generalize (wa.alloc (.cells #[.int .i64 0, .nilFunc] 82)).setRow wa.heap.size #[.int .i64 1, .func (.func 76) #[pv m] #[]] = wb at *
    generalize wa.heap.size = zb at *
    have x1 := hz.cell (j := 1) rfl
    have HZ := Qa hz
    clear hz
    go_wp2_with fail
    clear x1
    refine (QD HM3.out).mono ?_
    rintro e wc ⟨v, l, rfl, hb, ho, hM4, ht⟩
    have HZ4 := Qa (HZ.out.of_below ht)
    have HAB4 := Qa (HAB3.out.of_below ht)
    have HO := Qa (Qa6 ho HB0.out.size)
    have HBR := Qa hb
    have HM4 := Qa hM4
    obtain ⟨pa, ca, rfl⟩ := Qag ho
    clear hb ho hM4 ht HZ HAB3 HM3
    cases l with
    | nil =>
     go_wp2_with fail
     go_roundg 2
     case measure => have := HIF.out; omega
     case rel => exact ⟨1, by go_num, oW, by rw [Hid], HKN.out.next oW HBR.out, HAB4.out, HM4.out⟩
    | cons x t =>
     have q0 : ((((x :: t).length : Nat) : Int) > 0) := by simp
     have q1 : decide ((0 : Int) < (((x :: t).length : Nat) : Int)) = true := by simp
     have x0 := HZ4.out.cell (j := 0) rfl
     generalize hlt : x :: t = l at *
     have HL : Hid (l ≠ []) := by rw [Hid, ← hlt]; simp
     clear hlt
     go_wp2_with fail
     go_ret3
     exact ⟨1, _, l, 0, rfl, .inr ⟨HC.out, rfl, HKN.out.told oW HBR.out HL.out⟩, HO.out, Qaa HB0.out HB0.out.size HM4.out.low⟩
   | 1, _ =>
    have a0 : wa.cell? ⟨ab, 2, none⟩ = some (.int .i64 2) := HAB.out.cell rfl
    have a1 : wa.cell? ⟨ab, 3, none⟩ = some (.func (.func 77) #[pv m] #[]) := HAB.out.cell rfl
    have hz0 := Blk.new wa 82 #[.int .i64 0, .nilFunc]
    have hBz : Below wa.heap.size wa ((wa.alloc (.cells #[.int .i64 0, .nilFunc] 82)).setRow wa.heap.size #[.int .i64 2, .func (.func 77) #[pv m] #[]]) := ((Below.refl wa.heap.size wa).alloc nW _).trans (Qan _ nW)
    have hz := hz0.setRow' #[.int .i64 2, .func (.func 77) #[pv m] #[]]
    have HM3 := Qa (HM.out.below hBz)
    have HAB3 := Qa (HAB.out.of_below hBz)
    clear HM HAB hBz
    go_upto_region 7 with (first | refine wpList_store_row rfl 82 _ _ rfl wa.heap.size #[.int .i64 2, .func (.func 77) #[pv m] #[]] rfl rfl 82 #[.int .i64 0, .nilFunc] hz0 kW rfl kW ?_)
    clear a0 a1 hz0
    generalize (wa.alloc (.cells #[.int .i64 0, .nilFunc] 82)).setRow wa.heap.size #[.int .i64 2, .func (.func 77) #[pv m] #[]] = wb at *
    generalize wa.heap.size = zb at *
    have x1 := hz.cell (j := 1) rfl
    have HZ := Qa hz
    clear hz
    go_wp2_with fail
    clear x1
    refine (QDa HM3.out).mono ?_
    rintro e wc ⟨v, l, rfl, hb, ho, hM4, ht⟩
    have HZ4 := Qa (HZ.out.of_below ht)
    have HAB4 := Qa (HAB3.out.of_below ht)
    have HO := Qa (Qa6 ho HB0.out.size)
    have HBR := Qa hb
    have HM4 := Qa hM4
    obtain ⟨pa, ca, rfl⟩ := Qag ho
    clear hb ho hM4 ht HZ HAB3 HM3
    cases l with
    | nil =>
     go_wp2_with fail
     go_roundg 1
     case measure => have := HIF.out; omega
     case rel => exact ⟨2, by go_num, oW, by rw [Hid], HKN.out.next oW HBR.out, HAB4.out, HM4.out⟩
    | cons x t =>
     have q0 : ((((x :: t).length : Nat) : Int) > 0) := by simp
     have q1 : decide ((0 : Int) < (((x :: t).length : Nat) : Int)) = true := by simp
     have x0 := HZ4.out.cell (j := 0) rfl
     generalize hlt : x :: t = l at *
     have HL : Hid (l ≠ []) := by rw [Hid, ← hlt]; simp
     clear hlt
     go_wp2_with fail
     go_ret3
     exact ⟨2, _, l, 0, rfl, .inr ⟨HC.out, rfl, HKN.out.told oW HBR.out HL.out⟩, HO.out, Qaa HB0.out HB0.out.size HM4.out.low⟩
   | 2, _ =>
    have a0 : wa.cell? ⟨ab, 4, none⟩ = some (.int .i64 3) := HAB.out.cell rfl
    have a1 : wa.cell? ⟨ab, 5, none⟩ = some (.func (.func 78) #[pv m] #[]) := HAB.out.cell rfl
    have hz0 := Blk.new wa 82 #[.int .i64 0, .nilFunc]
    have hBz : Below wa.heap.size wa ((wa.alloc (.cells #[.int .i64 0, .nilFunc] 82)).setRow wa.heap.size #[.int .i64 3, .func (.func 78) #[pv m] #[]]) := ((Below.refl wa.heap.size wa).alloc nW _).trans (Qan _ nW)
    have hz := hz0.setRow' #[.int .i64 3, .func (.func 78) #[pv m] #[]]
    have HM3 := Qa (HM.out.below hBz)
    have HAB3 := Qa (HAB.out.of_below hBz)
    clear HM HAB hBz
    go_upto_region 7 with (first | refine wpList_store_row rfl 82 _ _ rfl wa.heap.size #[.int .i64 3, .func (.func 78) #[pv m] #[]] rfl rfl 82 #[.int .i64 0, .nilFunc] hz0 kW rfl kW ?_)
    clear a0 a1 hz0
    generalize (wa.alloc (.cells #[.int .i64 0, .nilFunc] 82)).setRow wa.heap.size #[.int .i64 3, .func (.func 78) #[pv m] #[]] = wb at *
    generalize wa.heap.size = zb at *
    have x1 := hz.cell (j := 1) rfl
    have HZ := Qa hz
    clear hz
    go_wp2_with fail
    clear x1
    refine (QDb HV.out HT.out HM3.out).mono ?_
    rintro e wc ⟨v, l, rfl, hb, ho, hM4, ht⟩
    have HZ4 := Qa (HZ.out.of_below ht)
    have HAB4 := Qa (HAB3.out.of_below ht)
    have HO := Qa (Qa6 ho HB0.out.size)
    have HBR := Qa hb
    have HM4 := Qa hM4
    obtain ⟨pa, ca, rfl⟩ := Qag ho
    clear hb ho hM4 ht HZ HAB3 HM3
    cases l with
    | nil =>
     go_wp2_with fail
     go_roundg 0
     case measure => have := HIF.out; omega
     case rel => exact ⟨3, by go_num, oW, by rw [Hid], HKN.out.next oW HBR.out, HAB4.out, HM4.out⟩
    | cons x t =>
     have q0 : ((((x :: t).length : Nat) : Int) > 0) := by simp
     have q1 : decide ((0 : Int) < (((x :: t).length : Nat) : Int)) = true := by simp
     have x0 := HZ4.out.cell (j := 0) rfl
     generalize hlt : x :: t = l at *
     have HL : Hid (l ≠ []) := by rw [Hid, ← hlt]; simp
     clear hlt
     go_wp2_with fail
     go_ret3
     exact ⟨3, _, l, 0, rfl, .inr ⟨HC.out, rfl, HKN.out.told oW HBR.out HL.out⟩, HO.out, Qaa HB0.out HB0.out.size HM4.out.low⟩
   | 3, _ =>
    go_wp2_with fail
    go_ret3
    exact ⟨0, .slice none 0 0, [], 0, rfl, .inr ⟨HC.out, rfl, HKN.out.all⟩, World.ownsRow_nil _ _ _ _, Qaa HB0.out HB0.out.size HM.out.low⟩
   | n + 4, h => omega
def RL (g : Gr) : Nat → List Nat
 | 0 => Qfa g (LG g)
 | 1 => Qfj g (LG g)
 | 2 => Qfk g (LG g)
 | 3 => Qfl g (LG g)
 | _ => obL g (LG g)
def Qls : Array Value := #[.pointer none, .pointer none, .pointer none, .pointer none, .pointer none]
def fcC (ks : Nat → Nat) : Array Value := #[pv (ks 0), pv (ks 1), pv (ks 2), pv (ks 3), pv (ks 4)]
theorem Qml (g : Gr) : RL g 0 = Qfa g (LG g) ∧ RL g 1 = Qfj g (LG g) ∧ RL g 2 = Qfk g (LG g) ∧ RL g 3 = Qfl g (LG g) ∧ RL g 4 = obL g (LG g) := ⟨rfl, rfl, rfl, rfl, rfl⟩
theorem Qng (V : GrV) (g : Gr) (w : World) (h : GrR w V g) (hF : Frm w) (hT : Tab w) :
  Calls Tryz.prog 17 #[V.val g] w fun e w' => ((chk g true).1 ≠ 0 ∧ e = .returned (.tuple #[.agg Qls, .int .i64 4]) ∧ Below w.heap.size w w') ∨ ((chk g true).1 = 0 ∧ ∃ ks ls : Nat → Nat, e = .returned (.tuple #[.agg (fcC ks), .int .i64 0]) ∧ (∀ i, i < 5 → IsRel w' (ks i) (ls i) (RL g i) ∧ w.heap.size ≤ ks i ∧ w.heap.size ≤ ls i) ∧ Below w.heap.size w w') := by
 have hg0 := Blk.new w 27 (V.gs g)
 obtain ⟨Wa, hWa⟩ : ∃ Wa, w.alloc (.cells (V.gs g) 27) = Wa := ⟨_, rfl⟩
 rw [hWa] at hg0
 have hBa : Below w.heap.size w Wa := by rw [← hWa]; exact bW.alloc nW _
 have hsa : Wa.heap.size = w.heap.size + 1 := by rw [← hWa]; simp
 have hr0 := Blk.new Wa 44 Qls
 have hBb : Below Wa.heap.size Wa (Wa.alloc (.cells Qls 44)) := bW.alloc nW _
 generalize hWb : Wa.alloc (.cells Qls 44) = W0 at *
 rw [hsa] at hr0
 have e2 : Hid ((w.alloc (.cells #[.int .i64 g.cells, V.ev, V.rf, V.co, V.rmw, V.addr, V.dat, V.ctrl] 27)).alloc (.cells #[.pointer none, .pointer none, .pointer none, .pointer none, .pointer none] 44) = W0) := by rw [Hid, ← hWb, ← hWa]; rfl
 have hB0 : Below w.heap.size w W0 := hBa.trans (hBb.mono hBa.size)
 have HV := Qa (h.below hB0)
 have HF := Qa (hF.step hB0)
 have HT := Qa (hT.step' hB0)
 have HB0 := Qa hB0
 have HG0 := Qa (hg0.of_below hBb)
 have HR0 := Qa hr0
 unfold GrV.val
 clear h hF hT hB0 hg0 hr0 hBa hBb hsa hWa hWb
 go_enter Tryz.func17, Tryz.ntmps17
 go_upto_region 1 with fail
 rw [e2.out]
 clear e2
 have hrb : Hid (w.heap.size ≤ w.heap.size + 1) := Nat.le_succ _
 generalize w.heap.size + 1 = rb at *
 go_wp2_with (first | refine wpList_load_row rfl 27 _ rfl w.heap.size rfl 27 (V.gs g) (0, 0) _ HG0.out Tryz.underlying27 rfl kW ?_)
 refine (Qkv V g W0 HV.out HF.out HT.out).mono ?_
 rintro e w1 (⟨hc, rfl, hB1⟩ | ⟨hc, m, bs, br, bw, bf, rfl, hM⟩)
 ·have hR := HR0.out.of_below hB1
  go_wp2_with (first | refine wpList_store_row rfl 44 _ _ rfl rb Qls rfl rfl 44 _ hR kW rfl kW ?_)
  (try simp only [Exit.inBlock, Exit.then])
  refine bodyPost_ret (Qes rfl _ _ rb 44 Qls (0, 0) _ rfl (hR.setRow' Qls) Tryz.underlying44 rfl kW) rfl ?_
  exact .inl ⟨hc, rfl, (Qaa HB0.out HB0.out.size hB1).trans (Qan _ hrb.out)⟩
 ·have D := Qa (Qjg ⟨m, W0.heap.size, V, g, bs, br, bw, bf, LG g⟩ w1 hM.pg)
  have HM := Qa hM
  have HC := Qa hc
  clear hM hc HG0
  go_wp2_with fail
  refine D.out.mono ?_
  rintro e wq ⟨v0, v1, v2, v3, v4, rfl, q0, q1, q2, q3, q4, hBq⟩
  obtain ⟨k0, l0, rfl, n0, r0⟩ := q0
  obtain ⟨k1, l1, rfl, n1, r1⟩ := q1
  obtain ⟨k2, l2, rfl, n2, r2⟩ := q2
  obtain ⟨k3, l3, rfl, n3, r3⟩ := q3
  obtain ⟨k4, l4, rfl, n4, r4⟩ := q4
  have HRB := Qa ((HR0.out.of_below HM.out.low).of_below hBq)
  have HL : Hid (Below W0.heap.size W0 wq) := Qaa HM.out.low HM.out.low.size hBq
  have rr : ∀ {b c : Nat} {L : List Nat}, IsRel wq b c L → W0.heap.size ≤ b ∧ W0.heap.size ≤ c → IsRel (wq.setRow rb #[pv k0, pv k1, pv k2, pv k3, pv k4]) b c L ∧ w.heap.size ≤ b ∧ w.heap.size ≤ c := fun h hn => ⟨Qoe h HRB.out _, Nat.le_trans HB0.out.size hn.1, Nat.le_trans HB0.out.size hn.2⟩
  have H : Hid (∀ i, i < 5 → IsRel (wq.setRow rb #[pv k0, pv k1, pv k2, pv k3, pv k4]) ([k0, k1, k2, k3, k4].getD i 0) ([l0, l1, l2, l3, l4].getD i 0) (RL g i) ∧ w.heap.size ≤ [k0, k1, k2, k3, k4].getD i 0 ∧ w.heap.size ≤ [l0, l1, l2, l3, l4].getD i 0) := fun i hi => by
   match i, hi with
   | 0, _ => exact rr (by rw [(Qml g).1]; exact r0) n0
   | 1, _ => exact rr (by rw [(Qml g).2.1]; exact r1) n1
   | 2, _ => exact rr (by rw [(Qml g).2.2.1]; exact r2) n2
   | 3, _ => exact rr (by rw [(Qml g).2.2.2.1]; exact r3) n3
   | 4, _ => exact rr (by rw [(Qml g).2.2.2.2]; exact r4) n4
   | n + 5, h => omega
  clear hBq D HM n0 n1 n2 n3 n4 r0 r1 r2 r3 r4 rr
  go_wp2_with (first | refine wpList_store_row rfl 44 _ _ rfl rb #[pv k0, pv k1, pv k2, pv k3, pv k4] rfl rfl 44 _ HRB.out kW rfl kW ?_)
  (try simp only [Exit.inBlock, Exit.then])
  refine bodyPost_ret (Qes rfl _ _ rb 44 #[pv k0, pv k1, pv k2, pv k3, pv k4] (0, 0) _ rfl (HRB.out.setRow' _) Tryz.underlying44 rfl kW) rfl ?_
  exact .inr ⟨HC.out, fun i => [k0, k1, k2, k3, k4].getD i 0, fun i => [l0, l1, l2, l3, l4].getD i 0, rfl, H.out, (Qaa HB0.out HB0.out.size HL.out).trans (Qan _ hrb.out)⟩
def Qhu (L Bk : List Nat) (start : Nat) : Nat → Nat → Nat → List Nat
 | 0, _, _ => []
 | f + 1, seen, near => if near = 0 then [] else near :: (if gr L start &&& near = 0 then Qhu L Bk start f (seen ||| near) (Qcx (Qaj Bk (Qad near)) (seen ||| near)) else [])
theorem Qqq (L Bk : List Nat) (start : Nat) : ∀ (f seen near : Nat) (ly : List Nat), Qee L Bk start seen near ly → ly.take f = Qhu L Bk start f seen near
 | 0, _, _, _, _ => by simp [Qhu]
 | f + 1, seen, near, [], h => by
  have h : near = 0 := h
  simp [Qhu, h]
 | f + 1, seen, near, x :: rest, h => by
  obtain ⟨h1, h2, h3, h4⟩ := h
  simp only [Qhu, if_neg h1, List.take_succ_cons, h2]
  by_cases hh : gr L start &&& near = 0
  ·rw [if_pos hh, Qqq L Bk start f _ _ rest (h3 hh)]
  ·rw [if_neg hh, h4 hh]; simp
theorem QB5 {L Bk : List Nat} {start f seen near : Nat} {ly : List Nat} (h : Qee L Bk start seen near ly) (hl : (Qhu L Bk start f seen near).length < f) : ly = Qhu L Bk start f seen near := by
 have ht := Qqq L Bk start f seen near ly h
 rw [← ht] at hl ⊢
 rw [List.length_take] at hl
 rw [List.take_of_length_le oW]
def Qnh (L : List Nat) (f : Nat) : Option (List Nat) :=
 match Qad (Qc (Qdw L)) with
 | [] => some []
 | s :: _ => if (Qhu L (Qb4 L) s f 0 (Qat 0 s true)).length < f then some (s :: Qcl L s (Qb5 (Qhu L (Qb4 L) s f 0 (Qat 0 s true)) ((Qhu L (Qb4 L) s f 0 (Qat 0 s true)).length - 1))) else none
theorem Qi6 {L o x : List Nat} (f : Nat) (h : Qdg L o) (hv : Qnh L f = some x) : o = x := by
 unfold Qnh at hv
 rcases h with ⟨e, e2⟩ | ⟨s, tl, ly, e, hly, e2⟩
 ·rw [e] at hv
  rw [e2]
  exact Option.some.inj hv
 ·rw [e] at hv
  dsimp only at hv
  split at hv
  ·rename_i hl
   have := QB5 hly hl
   rw [← this] at hv
   rw [e2]
   exact Option.some.inj hv
  ·cases hv
theorem QB6 {g : Gr} {a b : List Int} (hc : g.cells = 2) (ho : g.co = [a, b]) (h0 : Qau a 0 (wrs g 0 g.evs.length) = true) (h1 : Qau b 1 (wrs g 1 g.evs.length) = true) : Qbq g = -1 := by
 have k0 : Qao g 0 = false := by
  unfold Qao
  rw [ho]
  show (decide (2 ≤ 0) || !Qau a 0 (wrs g 0 g.evs.length)) = false
  rw [h0]
  rfl
 have k1 : Qao g 1 = false := by
  unfold Qao
  rw [ho]
  show (decide (2 ≤ 1) || !Qau b 1 (wrs g 1 g.evs.length)) = false
  rw [h1]
  rfl
 have h2 : Qak (Qao g) 0 g.cells.toNat = -1 := Qai (fun j _ h => by
  rw [hc] at h
  have : (2 : Int).toNat = 2 := rfl
  match j, h with
  | 0, _ => exact k0
  | 1, _ => exact k1
  | j + 2, h => omega)
 unfold Qbq
 rw [if_pos h2, hc, ho]
 rfl
theorem QDc {g : Gr} {q : Bool} {k : Nat} (h5 : Qbq g = -1) (h : ∀ j, j < k → j ≠ 4 → rl g q j = -1) : ∀ j, j < k → rl g q j = -1 := fun j hj => by
 by_cases e : j = 4
 ·rw [e]; exact h5
 ·exact h j hj e
theorem QB7 {l : List Int} (h : l.Pairwise (fun x y => decide (x ≤ y) = true)) : Qc1 l = l := by
 unfold Qc1
 exact List.mergeSort_of_pairwise h
theorem Qfz {l : List Int} {c : Int} (h : l.Pairwise (fun x y => decide (x ≤ y) = true)) (h0 : l.getD 0 0 = c) {ws : List Int} (hw : ws = l) : Qau l c ws = true := by
 subst hw
 unfold Qau
 rw [QB7 h, h0]
 simp
section
variable {g : Gr} {ax : Int} {l : List Int} {e : Int}
theorem Qum (h : Qgi g ax l e) (hc : (chk g true).1 = 0) : e = 0 ∧ Qi5 g ax l := by
 rcases h with ⟨h0, _⟩ | ⟨_, h⟩
 ·exact absurd hc h0
 ·exact h
theorem QB8 {x : List Nat} (f : Nat) (h : Qgi g ax l e) (hc : (chk g true).1 = 0) (h1 : Qnh (Qey (LG g)) f = some []) (h2 : Qnh (obL g (LG g)) f = some x) (hx : x ≠ []) : ax = 2 ∧ l = upI x ∧ e = 0 := by
 obtain ⟨he, o, ho, h⟩ := Qum h hc
 have e2 := Qi6 f ho h1
 subst e2
 rcases h with ⟨a, _⟩ | ⟨_, o2, ho2, h⟩
 ·exact absurd rfl a
 ·have e3 := Qi6 f ho2 h2
  subst e3
  rcases h with ⟨_, a, b⟩ | ⟨a, _⟩
  ·exact ⟨a, b, he⟩
  ·exact absurd a hx
theorem QB9 {x : List Int} (f : Nat) (h : Qgi g ax l e) (hc : (chk g true).1 = 0) (h1 : Qnh (Qey (LG g)) f = some []) (h2 : Qnh (obL g (LG g)) f = some []) (h3 : Qi4 g = x) : ax = (if x = [] then 0 else 3) ∧ l = x ∧ e = 0 := by
 subst h3
 obtain ⟨he, o, ho, h⟩ := Qum h hc
 have e2 := Qi6 f ho h1
 subst e2
 rcases h with ⟨a, _⟩ | ⟨_, o2, ho2, h⟩
 ·exact absurd rfl a
 ·have e3 := Qi6 f ho2 h2
  subst e3
  rcases h with ⟨a, _⟩ | ⟨_, h⟩
  ·exact absurd rfl a
  ·rcases h with ⟨a, b, c⟩ | ⟨a, b, c⟩
   ·rw [if_neg a]; exact ⟨b, c, he⟩
   ·rw [if_pos a, a]; exact ⟨b, c, he⟩
end
def Qni (evs : List Ev) (rf : List (Int × Int)) (x y : List Int) : Gr := ⟨2, [⟨-1, 2, 0, 0, 11⟩, ⟨-1, 2, 1, 0, 11⟩] ++ evs, rf, [0 :: x, 1 :: y], [], [], [], []⟩
def Qhv (w r : Int) : Gr := Qni [⟨0, 2, 0, 1, w⟩, ⟨0, 1, 1, 0, r⟩, ⟨1, 2, 1, 1, w⟩, ⟨1, 1, 0, 0, r⟩] [(1, 3), (0, 5)] [2] [4]
def Qez (w r : Int) : Gr := Qni [⟨0, 2, 0, 1, 11⟩, ⟨0, 2, 1, 1, w⟩, ⟨1, 1, 1, 1, r⟩, ⟨1, 1, 0, 0, 11⟩] [(3, 4), (0, 5)] [2] [3]
theorem Qun {g : Gr} {a b : List Int} (hc : g.cells = 2) (ho : g.co = [a, b]) (h0 : Qau a 0 (wrs g 0 g.evs.length) = true) (h1 : Qau b 1 (wrs g 1 g.evs.length) = true) (h : ∀ j, j < 9 → j ≠ 4 → rl g true j = -1) : (chk g true).1 = 0 := by
 rw [Qk8 (QDc (QB6 hc ho h0 h1) h)]
theorem Qwj : (chk (Qhv 11 11) true).1 = 0 := Qun rfl rfl (Qfz dW rfl dW) (Qfz dW rfl dW) dW
theorem Qrq : (chk (Qhv 13 12) true).1 = 0 := Qun rfl rfl (Qfz dW rfl dW) (Qfz dW rfl dW) dW
theorem Qwk : (chk (Qez 11 11) true).1 = 0 := Qun rfl rfl (Qfz dW rfl dW) (Qfz dW rfl dW) dW
theorem Qkx : (chk (Qez 13 12) true).1 = 0 := Qun rfl rfl (Qfz dW rfl dW) (Qfz dW rfl dW) dW
theorem Qwl {ax : Int} {l : List Int} {e : Int} (h : Qgi (Qhv 11 11) ax l e) : ax = 0 ∧ l = [] ∧ e = 0 := QB9 (x := []) 9 h Qwj (by decide +kernel) (by decide +kernel) (by decide +kernel)
theorem Qwm {ax : Int} {l : List Int} {e : Int} (h : Qgi (Qez 11 11) ax l e) : ax = 0 ∧ l = [] ∧ e = 0 := QB9 (x := []) 9 h Qwk (by decide +kernel) (by decide +kernel) (by decide +kernel)
theorem Qrr {ax : Int} {l : List Int} {e : Int} (h : Qgi (Qhv 13 12) ax l e) : ax = 2 ∧ l = [2, 3, 4, 5] ∧ e = 0 := QB8 (x := [2, 3, 4, 5]) 9 h Qrq (by decide +kernel) (by decide +kernel) dW
theorem Qrs {ax : Int} {l : List Int} {e : Int} (h : Qgi (Qez 13 12) ax l e) : ax = 2 ∧ l = [2, 3, 4, 5] ∧ e = 0 := QB8 (x := [2, 3, 4, 5]) 9 h Qkx (by decide +kernel) (by decide +kernel) dW
theorem QAj : Qia (Qfa (Qez 13 12) (LG (Qez 13 12))) = [(0, 2), (0, 5), (1, 3), (3, 4), (5, 2)] := by decide +kernel
end Go.Proofs.YtdkogbfamdnheaaGreatDoor
