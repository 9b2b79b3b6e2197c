/- Code over a graph, its relations and their lists in memory is reckoned: gE and more. -/
import Derived.Test.YtmmadkghojoniaaGreatDoorJ27
import Derived.Test.YtmmadkghojoniaaGreatDoorJ29
import Derived.Test.YtmmadkghojoniaaGreatDoorJ09
import Derived.Test.YtmmadkghojoniaaGreatDoorJ15
namespace Go.Proofs.YtmmadkghojoniaaGreatDoor
open Go.RowKit Go.Shelf Sx
structure LV where
  g : GV
  s : Nat
  n : Nat
  r : List Nat
  l : List (List Nat)
  i : List Int
def LV.b (x : GV) : LV := ⟨x, 0, 0, [], [], []⟩
def LV.x (s n : Nat) : LV := ⟨GV.at 0 0, s, n, [], [], []⟩
def LV.rl (r : List Nat) : LV := ⟨GV.at 0 0, 3, 0, r, [], []⟩
def LV.is (l : List Int) : LV := ⟨GV.at 0 0, 6, 0, [], [], l⟩
def LV.nu (k : Int) : LV := .b (.nu k)
def LV.bo (q : Bool) : LV := .b (.bo q)
structure Lm where
  m : Gm
  nf : Nat
  fb : Nat
  fx : Nat → List Nat
def IsRl (w : World) (v : Value) (L : List Nat) : Prop := ∃ b c, v = pv b ∧ IsRel w b c L
theorem IsRl.below {w w' : World} {v : Value} {L : List Nat} (h : IsRl w v L) (hb : Below w.heap.size w w') : IsRl w' v L := by
  obtain ⟨b, c, h1, h2⟩ := h
  exact ⟨b, c, h1, h2.below hb⟩
def IsOrd (w : World) (v : Value) (l : List Int) : Prop := IntsR w v l ∧ l.length ≤ 9223372036854775807 ∧ ∃ p c, v = .slice p l.length c ∧ l.length ≤ c
theorem IsOrd.below {w w' : World} {v : Value} {l : List Int} (h : IsOrd w v l) (hb : Below w.heap.size w w') : IsOrd w' v l := ⟨h.1.below hb, h.2⟩
def XIs (M : Lm) (w : World) (x : LV) (v : Value) : Prop :=
  match x.s with
  | 1 => v = pv M.fb
  | 2 => v = .pointer (some ⟨M.fb, x.n, none⟩)
  | 3 => IsRl w v x.r
  | 4 => v = M.m.V.co
  | 5 => ∃ b o u, v = .pointer (some ⟨b, o, none⟩) ∧ b < w.heap.size ∧ w.cell? ⟨b, o, none⟩ = some u ∧ IsOrd w u (M.m.g.co.getD x.n [])
  | 6 => IsOrd w v x.i
  | 7 => ∃ s rs, v = .slice (some ⟨s, 0, none⟩) rs.length rs.length ∧ RelsAt w s rs ∧ rs.map (·.2.2) = x.l
  | _ => True
theorem XIs.mono {M : Lm} {w w' : World} {x : LV} {v : Value} (h : XIs M w x v) (hb : Below w.heap.size w w') : XIs M w' x v := by
  obtain ⟨g, s, n, r, l, i⟩ := x
  unfold XIs at h ⊢
  dsimp only at h ⊢
  split at h
  · exact h
  · exact h
  · exact h.below hb
  · exact h
  · obtain ⟨b, o, u, h1, h2, h3, h4⟩ := h
    exact ⟨b, o, u, h1, Nat.lt_of_lt_of_le h2 hb.size, (hb.cell (p := ⟨b, o, none⟩) h2).trans h3, h4.below hb⟩
  · exact h.below hb
  · obtain ⟨s, rs, h1, h2, h3⟩ := h; exact ⟨s, rs, h1, h2.below hb, h3⟩
  · trivial
def LIs (M : Lm) (N : Nat) (w : World) (x : LV) (v : Value) : Prop := GIs M.m N w x.g v ∧ XIs M w x v
structure LGm (M : Lm) (w : World) : Prop where
  g : GG M.m w
  f : 0 < M.nf → M.nf = 5 ∧ ∃ ks : Nat → Nat, Blk w M.fb 44 (fcC ks) ∧ ∀ i, i < 5 → IsRl w (pv (ks i)) (M.fx i)
  frm : Frm w
  tab : Tab w
theorem LGm.mono {M : Lm} {w w' : World} (h : LGm M w) (hb : Below w.heap.size w w') : LGm M w' := by
  refine ⟨h.g.mono hb, fun h0 => ?_, h.frm.step hb, h.tab.step' hb⟩
  obtain ⟨e, ks, h1, h2⟩ := h.f h0
  exact ⟨e, ks, h1.of_below hb, fun i hi => (h2 i hi).below hb⟩
def lvA (σ : Nat → LV) : Operand → LV
  | .tmp d => σ d
  | x => .b (conG x)
def isNil : Operand → Bool
  | .const (.pointer none) => true
  | _ => false
def lcall (f : Nat) (l : List LV) : Option LV :=
  match l with
  | [] => if f = 9 then some (.bo true) else none
  | [x] => if x.s = 3 ∧ f = 30 then some (.bo (loopsL (plusL x.r) == 0)) else if x.s = 7 ∧ f = 29 ∧ x.l.length ≤ 6 then some (.rl (unionL x.l)) else none
  | [x, y] => if x.s = 3 ∧ y.s = 3 ∧ f = 28 then some (.bo (x.r == y.r)) else none
  | [x, y, z] => if x.s = 3 ∧ y.g.t = 1 ∧ z.g.t = 1 ∧ f = 23 then some (.bo (hasP x.r y.g.k z.g.k)) else none
  | _ => none
def xopR (M : Lm) (σ : Nat → LV) : Op → Option LV
  | .fieldAddr ty x f => if ty = 44 ∧ (lvA σ x).s = 1 ∧ f < M.nf then some (.x 2 f) else none
  | .load ty x => if ty = 42 ∧ (lvA σ x).s = 2 ∧ (lvA σ x).n < M.nf then some (.rl (M.fx (lvA σ x).n))
      else if ty = 25 ∧ (lvA σ x).g.t = 4 ∧ (lvA σ x).g.f = 3 then some (.x 4 0)
      else if ty = 36 ∧ (lvA σ x).s = 5 then some (.is (M.m.g.co.getD (lvA σ x).n [])) else none
  | .indexAddr ty x i => if ty = 25 ∧ (lvA σ x).s = 4 ∧ (lvA σ i).g.t = 1 then some (.x 5 (lvA σ i).g.k.toNat)
      else if ty = 36 ∧ (lvA σ x).s = 6 ∧ (lvA σ i).g.t = 1 then some (.b (.ip ((lvA σ x).i.getD (lvA σ i).g.k.toNat 0))) else none
  | .binOp op ty x y _ => if op = .eql ∧ ty = 42 ∧ (lvA σ x).s = 3 ∧ isNil y = true then some (.bo false) else none
  | .buildSlice ty n ps => if ps.toList.map (·.1) = List.range n ∧ 0 < n ∧ n ≤ 6 ∧ ty = 56 ∧ ps.toList.all (fun p => (lvA σ p.2).s == 3) = true then some ⟨GV.at 0 0, 7, 0, [], ps.toList.map (fun p => (lvA σ p.2).r), []⟩ else none
  | .call ⟨.builtin .len, args, tys⟩ => match args.toList with
      | [x] => if tys = #[25] ∧ (lvA σ x).s = 4 then some (.nu ((M.m.g.co.length : Nat) : Int)) else if tys = #[36] ∧ (lvA σ x).s = 6 then some (.nu (((lvA σ x).i.length : Nat) : Int)) else none
      | _ => none
  | .call ⟨.value (.func f), args, _⟩ => lcall f (args.toList.map (lvA σ))
  | _ => none
def xpre (M : Lm) (σ : Nat → LV) : Op → Option Prop
  | .indexAddr ty x i => if ty = 25 then some (0 ≤ (lvA σ i).g.k ∧ (lvA σ i).g.k < ((M.m.g.co.length : Nat) : Int)) else some (0 ≤ (lvA σ i).g.k ∧ (lvA σ i).g.k < (((lvA σ x).i.length : Nat) : Int))
  | _ => none
def lopR (M : Lm) (σ : Nat → LV) (o : Op) : Option LV :=
  match gopR M.m (fun d => (σ d).g) o with
  | some av => some (.b av)
  | none => xopR M σ o
def lpre (M : Lm) (σ : Nat → LV) (o : Op) : Option Prop :=
  match gopR M.m (fun d => (σ d).g) o with
  | some _ => gpre M.m (fun d => (σ d).g) o
  | none => xpre M σ o
set_option maxRecDepth 100000
section
variable {M : Lm} {N : Nat} {w : World} {a : Act} {σ : Nat → LV} {Q : Exit → Act → World → Prop} {dst : Option Tmp} {ty : TypeId} {pos : String} {af : Array Edge} {gd : Option (Nat × Bool)} {x y : Operand} {tys : Array TypeId}
def LSaid (M : Lm) (N : Nat) (a : Act) (w : World) (d : Option Tmp) (av : LV) : Act → World → Prop := fun a' w' => ∃ v, a' = a.put d v ∧ LIs M N w' av v ∧ Below w.heap.size w w'
theorem lvA_is (h : ∀ d, x = .tmp d → LIs M N w (σ d) (a.eval (.tmp d))) : LIs M N w (lvA σ x) (a.eval x) := by
  unfold lvA
  split
  · exact h _ rfl
  · rename_i y hy
    exact ⟨conG_is hy, trivial⟩
theorem XIs.t {z : LV} {v : Value} {k : Nat} (h : XIs M w z v) (ht : z.s = k) : XIs M w ⟨z.g, k, z.n, z.r, z.l, z.i⟩ v := by
  rw [← ht]
  exact h
theorem l_of {v : Value} {z : LV} (hg : z.g = GV.at 0 0) (h : XIs M w z v) : LIs M N w z v := ⟨by unfold GIs; rw [hg]; exact trivial, h⟩
theorem l_bo {q : Bool} : LIs M N w (.bo q) (.bool q) := ⟨rfl, trivial⟩
theorem fa_af (b : Nat) (w : World) {f : Nat} (hf : f < 5) : (Instr.fieldAt 44 (pv b) f).run Tryz.prog w = .ok (.pointer (some ⟨b, f, none⟩)) w := by
  match f, hf with
  | 0, _ => exact (show _ = _ by kernel_rfl)
  | 1, _ => exact (show _ = _ by kernel_rfl)
  | 2, _ => exact (show _ = _ by kernel_rfl)
  | 3, _ => exact (show _ = _ by kernel_rfl)
  | 4, _ => exact (show _ = _ by kernel_rfl)
  | n + 5, h => omega
theorem fc_at (ks : Nat → Nat) {k : Nat} (hk : k < 5) : (fcC ks)[k]? = some (pv (ks k)) := by
  match k, hk with
  | 0, _ => rfl
  | 1, _ => rfl
  | 2, _ => rfl
  | 3, _ => rfl
  | 4, _ => rfl
  | n + 5, h => omega
theorem ld_iss (b k : Nat) (u : Value) (w : World) (h : w.cell? ⟨b, k, none⟩ = some u) : (Instr.loadAt 25 (.pointer (some ⟨b, k, none⟩))).run Tryz.prog w = .ok u w := by
  go_simp
theorem ld_is (b k : Nat) (u : Value) (w : World) (h : w.cell? ⟨b, k, none⟩ = some u) : (Instr.loadAt 36 (.pointer (some ⟨b, k, none⟩))).run Tryz.prog w = .ok u w := by
  go_simp
theorem ix_iss (s o n c : Nat) (k : Int) (w : World) (h0 : 0 ≤ k) (h1 : k < ((n : Nat) : Int)) : (Instr.indexAt 25 (.slice (some ⟨s, o, none⟩) n c) (.int .i64 k)).run Tryz.prog w = .ok (.pointer (some ⟨s, o + k.toNat, none⟩)) w := by
  go_simp
theorem ix_is (s o n c : Nat) (k : Int) (w : World) (h0 : 0 ≤ k) (h1 : k < ((n : Nat) : Int)) : (Instr.indexAt 36 (.slice (some ⟨s, o, none⟩) n c) (.int .i64 k)).run Tryz.prog w = .ok (.pointer (some ⟨s, o + k.toNat, none⟩)) w := by
  go_simp
theorem len_runI {p : Option Addr} {n c : Nat} {t : TypeId} (ht : t = 25 ∨ t = 36) (hx : a.eval x = .slice p n c) : (execOp a.eval ⟨dst, .call ⟨.builtin .len, #[x], #[t]⟩, ty, pos, af, gd⟩).run Tryz.prog w = .ok (.value (.int .i64 ((n : Nat) : Int))) w := by
  rcases ht with rfl | rfl
  · generalize a.eval = q at *
    go_simp
  · generalize a.eval = q at *
    go_simp
theorem nil_run {b : Nat} (yt : TypeId) (hx : a.eval x = pv b) (hy : a.eval y = .pointer none) : (execOp a.eval ⟨dst, .binOp .eql 42 x y yt, ty, pos, af, gd⟩).run Tryz.prog w = .ok (.value (.bool false)) w := by
  have e : (execOp a.eval ⟨dst, .binOp .eql 42 x y yt, ty, pos, af, gd⟩).run Tryz.prog w = (do pure (Next.value (← (do eqGuard .eql 42 x y (a.eval x) (a.eval y); binOp .eql 42 (a.eval x) (a.eval y)))) : Sem Next).run Tryz.prog w := by kernel_rfl
  rw [e, hx, hy]
  exact (show _ = _ by kernel_rfl)
theorem isNil_eval (h : isNil x = true) : a.eval x = .pointer none := by
  unfold isNil at h
  split at h
  · rfl
  · cases h
theorem bsl_run (l : List Nat) (h : l.length ≤ 6) (h0 : 0 < l.length) (W : World) : (Instr.buildSlice 56 l.length (List.zip (List.range l.length) (l.map pv)).toArray).run Tryz.prog W = .ok (.slice (some ⟨W.heap.size, 0, none⟩) l.length l.length) (W.alloc (.cells (l.map pv).toArray 42)) := bs_run l h h0 W
theorem c_acy (u : Value) (w : World) : (callFunc 30 #[u]).run Tryz.prog w = .ok (.enter 30 #[u]) w := by kernel_rfl
theorem c_uni (u : Value) (w : World) : (callFunc 29 #[u]).run Tryz.prog w = .ok (.enter 29 #[u]) w := by kernel_rfl
theorem c_equ (u v : Value) (w : World) : (callFunc 28 #[u, v]).run Tryz.prog w = .ok (.enter 28 #[u, v]) w := by kernel_rfl
theorem c_has (u v s : Value) (w : World) : (callFunc 23 #[u, v, s]).run Tryz.prog w = .ok (.enter 23 #[u, v, s]) w := by kernel_rfl
theorem c_liv (w : World) : (callFunc 9 #[]).run Tryz.prog w = .ok (.enter 9 #[]) w := by kernel_rfl
theorem run_call0 {f : Nat} (h : ∀ w, (callFunc f #[]).run Tryz.prog w = .ok (.enter f #[]) w) : (execOp a.eval ⟨dst, .call ⟨.value (.func f), #[], tys⟩, ty, pos, af, gd⟩).run Tryz.prog w = .ok (.enter f #[]) w := by
  have e : (execOp a.eval ⟨dst, .call ⟨.value (.func f), #[], tys⟩, ty, pos, af, gd⟩).run Tryz.prog w = (callFunc f #[]).run Tryz.prog w := by kernel_rfl
  rw [e]
  exact h w
theorem said_l {f : FuncId} {args : Array Value} {q : Bool} (D : Calls Tryz.prog f args w fun r w' => r = .returned (.bool q) ∧ Below w.heap.size w w') : Calls Tryz.prog f args w (fun e w'' => ∃ v, e = .returned v ∧ LSaid M N a w dst (.bo q) (a.put dst v) w'') :=
  D.mono fun _ _ ⟨h1, h2⟩ => ⟨_, h1, _, rfl, l_bo, h2⟩
theorem rels_ofL : ∀ (l : List (Nat × Operand)), l.all (fun p => (lvA σ p.2).s == 3) = true → (∀ p ∈ l, XIs M w (lvA σ p.2) (a.eval p.2)) → ∃ rs : List (Nat × Nat × List Nat), l.map (fun p => a.eval p.2) = rs.map (fun r => pv r.1) ∧ (∀ r ∈ rs, IsRel w r.1 r.2.1 r.2.2) ∧ rs.map (·.2.2) = l.map (fun p => (lvA σ p.2).r)
  | [], _, _ => ⟨[], rfl, (fun r hr => by cases hr), rfl⟩
  | p :: l, h, hx => by
    rw [List.all_cons, Bool.and_eq_true] at h
    obtain ⟨rs, h1, h2, h3⟩ := rels_ofL l h.2 (fun q hq => hx q (List.mem_cons_of_mem _ hq))
    obtain ⟨b, c, e, hr⟩ : IsRl w (a.eval p.2) (lvA σ p.2).r := (hx p List.mem_cons_self).t (k := 3) (by simpa using h.1)
    refine ⟨(b, c, (lvA σ p.2).r) :: rs, by rw [List.map_cons, List.map_cons, h1, e], fun r hr' => ?_, by rw [List.map_cons, List.map_cons, h3]⟩
    rcases List.mem_cons.1 hr' with rfl | h
    · exact hr
    · exact h2 r h
theorem xop_ok (hG : LGm M w) {o : Oper} {av : LV} (h : xopR M σ o.op = some av) (hp : ∀ p, xpre M σ o.op = some p → p) (hx : ∀ d ∈ slotsOf o.op.operands.toList, LIs M N w (σ d) (a.eval (.tmp d))) : o.wp Tryz.prog a w (LSaid M N a w o.dst av) Q := by
  obtain ⟨dst, op, ty, pos, af, gd⟩ := o
  dsimp only at h hp hx ⊢
  have hB := Below.refl w.heap.size w
  unfold xopR at h
  split at h
  · rename_i t x f
    have hi := (lvA_is (x := x) (fun d e => hx d (slots_of.2 (by simp [Op.operands, e])))).2
    by_cases c1 : t = 44 ∧ (lvA σ x).s = 1 ∧ f < M.nf
    · rw [if_pos c1] at h; cases h
      obtain ⟨rfl, c, hf⟩ := c1
      have e : a.eval x = pv M.fb := hi.t c
      have hf : f < 5 := by have := (hG.f (by omega)).1; omega
      exact wp_v (s := Instr.fieldAt 44 (a.eval x) f) rfl (by rw [e]; exact fa_af _ _ hf) ⟨_, rfl, l_of rfl rfl, hB⟩
    rw [if_neg c1] at h; cases h
  · rename_i t x
    have hl := lvA_is (x := x) (fun d e => hx d (slots_of.2 (by simp [Op.operands, e])))
    have hi := hl.2
    by_cases c1 : t = 42 ∧ (lvA σ x).s = 2 ∧ (lvA σ x).n < M.nf
    · rw [if_pos c1] at h; cases h
      obtain ⟨rfl, c, hf⟩ := c1
      have e : a.eval x = .pointer (some ⟨M.fb, (lvA σ x).n, none⟩) := hi.t c
      obtain ⟨e5, ks, h1, h2⟩ := hG.f (by omega)
      have hf : (lvA σ x).n < 5 := by omega
      exact wp_v (s := Instr.loadAt 42 (a.eval x)) rfl (by rw [e]; exact ld_ptr _ _ _ _ (h1.cell (fc_at ks hf))) ⟨_, rfl, l_of rfl (h2 _ hf), hB⟩
    rw [if_neg c1] at h
    by_cases c2 : t = 25 ∧ (lvA σ x).g.t = 4 ∧ (lvA σ x).g.f = 3
    · rw [if_pos c2] at h; cases h
      obtain ⟨rfl, c, hf⟩ := c2
      have e : a.eval x = .pointer (some ⟨M.m.gb, (lvA σ x).g.f, none⟩) := hl.1.t c
      exact wp_v (v := M.m.V.co) (s := Instr.loadAt 25 (a.eval x)) rfl (by rw [e, hf]; exact ld_iss _ _ _ _ (hG.g.bx.cell rfl)) ⟨_, rfl, l_of rfl rfl, hB⟩
    rw [if_neg c2] at h
    by_cases c3 : t = 36 ∧ (lvA σ x).s = 5
    · rw [if_pos c3] at h; cases h
      obtain ⟨rfl, c⟩ := c3
      obtain ⟨b, o, u, e, h1, h2, h3⟩ : ∃ b o u, a.eval x = .pointer (some ⟨b, o, none⟩) ∧ b < w.heap.size ∧ w.cell? ⟨b, o, none⟩ = some u ∧ IsOrd w u (M.m.g.co.getD (lvA σ x).n []) := hi.t c
      exact wp_v (s := Instr.loadAt 36 (a.eval x)) rfl (by rw [e]; exact ld_is _ _ _ _ h2) ⟨_, rfl, l_of rfl h3, hB⟩
    rw [if_neg c3] at h; cases h
  · rename_i t x i
    have hi := (lvA_is (x := x) (fun d e => hx d (slots_of.2 (by simp [Op.operands, e])))).2
    have hj := (lvA_is (x := i) (fun d e => hx d (slots_of.2 (by simp [Op.operands, e])))).1
    by_cases c1 : t = 25 ∧ (lvA σ x).s = 4 ∧ (lvA σ i).g.t = 1
    · rw [if_pos c1] at h; cases h
      obtain ⟨rfl, c, d⟩ := c1
      have e : a.eval x = M.m.V.co := hi.t c
      have e2 : a.eval i = .int .i64 (lvA σ i).g.k := hj.t d
      obtain ⟨q0, q1⟩ : 0 ≤ (lvA σ i).g.k ∧ (lvA σ i).g.k < ((M.m.g.co.length : Nat) : Int) := hp _ (by unfold xpre; exact if_pos rfl)
      obtain ⟨p, cap, e3, -, vs, h1, h2, h3⟩ := hG.g.gr.co
      generalize (lvA σ i).g.k = k at *
      obtain ⟨s, o, rfl, hs, hat⟩ := h2 (by omega)
      have e : a.eval x = .slice (some ⟨s, o, none⟩) M.m.g.co.length cap := e.trans e3
      obtain ⟨u, hu⟩ : ∃ u, vs[k.toNat]? = some u := ⟨_, List.getElem?_eq_getElem (by omega)⟩
      obtain ⟨l, hl⟩ : ∃ l, M.m.g.co[k.toNat]? = some l := ⟨_, List.getElem?_eq_getElem (by omega)⟩
      have hgd : M.m.g.co.getD k.toNat [] = l := by rw [List.getD_eq_getElem?_getD, hl]; rfl
      exact wp_v (s := Instr.indexAt 25 (a.eval x) (a.eval i)) rfl (by rw [e, e2]; exact ix_iss _ _ _ _ _ _ q0 q1) ⟨_, rfl, l_of rfl ⟨s, o + k.toNat, u, rfl, hs, hat _ _ hu, by show IsOrd w u (M.m.g.co.getD k.toNat []); rw [hgd]; exact h3 _ _ _ hu hl⟩, hB⟩
    rw [if_neg c1] at h
    by_cases c2 : t = 36 ∧ (lvA σ x).s = 6 ∧ (lvA σ i).g.t = 1
    · rw [if_pos c2] at h; cases h
      obtain ⟨rfl, c, d⟩ := c2
      have e : IsOrd w (a.eval x) (lvA σ x).i := hi.t c
      have e2 : a.eval i = .int .i64 (lvA σ i).g.k := hj.t d
      obtain ⟨q0, q1⟩ : 0 ≤ (lvA σ i).g.k ∧ (lvA σ i).g.k < (((lvA σ x).i.length : Nat) : Int) := hp _ (by unfold xpre; exact if_neg (by decide))
      generalize (lvA σ i).g.k = k at *
      generalize (lvA σ x).i = l at *
      obtain ⟨p, cap, e3, hat0⟩ := intsR_form e.1
      obtain ⟨s, o, rfl, hs, hat⟩ := hat0 (by omega)
      obtain ⟨z, hz⟩ : ∃ z, l[k.toNat]? = some z := ⟨_, List.getElem?_eq_getElem (by omega)⟩
      have hgd : l.getD k.toNat 0 = z := by rw [List.getD_eq_getElem?_getD, hz]; rfl
      exact wp_v (s := Instr.indexAt 36 (a.eval x) (a.eval i)) rfl (by rw [e3, e2]; exact ix_is _ _ _ _ _ _ q0 q1) ⟨_, rfl, ⟨⟨s, o + k.toNat, rfl, hs, by show w.cell? _ = some (.int .i64 (l.getD k.toNat 0)); rw [hgd]; exact hat _ _ hz⟩, trivial⟩, hB⟩
    rw [if_neg c2] at h; cases h
  · rename_i op t x y yt
    have hi := (lvA_is (x := x) (fun d e => hx d (slots_of.2 (by simp [Op.operands, e])))).2
    by_cases c : op = .eql ∧ t = 42 ∧ (lvA σ x).s = 3 ∧ isNil y = true
    · rw [if_pos c] at h; cases h
      obtain ⟨rfl, rfl, c1, c2⟩ := c
      obtain ⟨b, c, e, -⟩ : IsRl w (a.eval x) (lvA σ x).r := hi.t c1
      exact wp_value (nil_run yt e (isNil_eval c2)) ⟨_, rfl, l_bo, hB⟩
    rw [if_neg c] at h; cases h
  · rename_i t n ps
    by_cases c : ps.toList.map (·.1) = List.range n ∧ 0 < n ∧ n ≤ 6 ∧ t = 56 ∧ ps.toList.all (fun p => (lvA σ p.2).s == 3) = true
    · rw [if_pos c] at h; cases h
      obtain ⟨c1, c2, c3, rfl, c5⟩ := c
      obtain ⟨rs, h1, h2, h3⟩ := rels_ofL (M := M) (w := w) (a := a) (σ := σ) ps.toList c5 (fun p hp => (lvA_is (x := p.2) (fun d e => hx d (slots_of.2 (by
        simp only [Op.operands, List.mem_map]
        exact ⟨p, hp, e⟩)))).2)
      have hlen : rs.length = n := by
        have := congrArg List.length h1
        rw [List.length_map, List.length_map] at this
        have e2 := congrArg List.length c1
        rw [List.length_map, List.length_range] at e2
        omega
      subst hlen
      have hr := bsl_run (rs.map (·.1)) (by simpa using c3) (by simpa using c2) w
      rw [List.length_map, List.map_map] at hr
      refine wp_bld c1 h1 hr ⟨_, rfl, l_of rfl ⟨w.heap.size, rs, rfl, ?_, h3⟩, hB.alloc (Nat.le_refl _) _⟩
      exact rels_at rs h2
    rw [if_neg c] at h; cases h
  · rename_i args tys
    obtain ⟨l⟩ := args
    match l, h, hx with
    | [], h, _ => cases h
    | [x], h, hx =>
      have hi := (lvA_is (x := x) (fun d e => hx d (slots_of.2 (by simp [Op.operands, Call.operands, e])))).2
      dsimp only at h
      by_cases c1 : tys = #[25] ∧ (lvA σ x).s = 4
      · rw [if_pos c1] at h; cases h
        obtain ⟨rfl, c1⟩ := c1
        have e : a.eval x = M.m.V.co := hi.t c1
        obtain ⟨p, cap, e3, -⟩ := hG.g.gr.co
        exact wp_value (len_runI (.inl rfl) (e.trans e3)) ⟨_, rfl, ⟨rfl, trivial⟩, hB⟩
      rw [if_neg c1] at h
      by_cases c2 : tys = #[36] ∧ (lvA σ x).s = 6
      · rw [if_pos c2] at h; cases h
        obtain ⟨rfl, c2⟩ := c2
        have e : IsOrd w (a.eval x) (lvA σ x).i := hi.t c2
        obtain ⟨-, -, p, c, e3, -⟩ := e
        exact wp_value (len_runI (.inr rfl) e3) ⟨_, rfl, ⟨rfl, trivial⟩, hB⟩
      rw [if_neg c2] at h; cases h
    | x :: y :: l, h, _ => cases h
  · rename_i f args tys
    obtain ⟨l⟩ := args
    match l, h, hx with
    | [], h, _ =>
      simp only [List.map_nil, lcall] at h
      by_cases e : f = 9
      · subst e; rw [if_pos rfl] at h; cases h
        exact wp_enter (run_call0 c_liv) (said_l (l11lives_calls w hG.frm hG.tab))
      rw [if_neg e] at h; cases h
    | [x], h, hx =>
      have hi := (lvA_is (x := x) (fun d e => hx d (slots_of.2 (by simp [Op.operands, Call.operands, e])))).2
      simp only [List.map_cons, List.map_nil, lcall] at h
      by_cases c1 : (lvA σ x).s = 3 ∧ f = 30
      · rw [if_pos c1] at h; cases h
        obtain ⟨c1, rfl⟩ := c1
        obtain ⟨b, c, e, hr⟩ : IsRl w (a.eval x) (lvA σ x).r := hi.t c1
        exact wp_enter (run_call1 e c_acy) (said_l (Acyclic_calls b c _ w hr))
      rw [if_neg c1] at h
      by_cases c2 : (lvA σ x).s = 7 ∧ f = 29 ∧ (lvA σ x).l.length ≤ 6
      · rw [if_pos c2] at h; cases h
        obtain ⟨c2, rfl, c3⟩ := c2
        obtain ⟨s, rs, e, h1, h2⟩ : ∃ (s : Nat) (rs : List (Nat × Nat × List Nat)), a.eval x = .slice (some ⟨s, 0, none⟩) rs.length rs.length ∧ RelsAt w s rs ∧ rs.map (·.2.2) = (lvA σ x).l := hi.t c2
        refine wp_enter (run_call1 e c_uni) ((Union_named s rs _ h2 w h1 (by rw [← h2, List.length_map] at c3; omega)).mono ?_)
        rintro e w' ⟨b, c, rfl, hM⟩
        exact ⟨_, rfl, _, rfl, l_of rfl ⟨b, c, rfl, hM.rel⟩, hM.below⟩
      rw [if_neg c2] at h; cases h
    | [x, y], h, hx =>
      have hi := (lvA_is (x := x) (fun d e => hx d (slots_of.2 (by simp [Op.operands, Call.operands, e])))).2
      have hj := (lvA_is (x := y) (fun d e => hx d (slots_of.2 (by simp [Op.operands, Call.operands, e])))).2
      simp only [List.map_cons, List.map_nil, lcall] at h
      by_cases c1 : (lvA σ x).s = 3 ∧ (lvA σ y).s = 3 ∧ f = 28
      · rw [if_pos c1] at h; cases h
        obtain ⟨c1, c2, rfl⟩ := c1
        obtain ⟨b, c, e, hr⟩ : IsRl w (a.eval x) (lvA σ x).r := hi.t c1
        obtain ⟨b2, c2, e2, hr2⟩ : IsRl w (a.eval y) (lvA σ y).r := hj.t c2
        exact wp_enter (run_call2 e e2 c_equ) (said_l (Equal_calls b c b2 c2 _ _ w hr hr2))
      rw [if_neg c1] at h; cases h
    | [x, y, z], h, hx =>
      have hi := (lvA_is (x := x) (fun d e => hx d (slots_of.2 (by simp [Op.operands, Call.operands, e])))).2
      have hj := (lvA_is (x := y) (fun d e => hx d (slots_of.2 (by simp [Op.operands, Call.operands, e])))).1
      have hk := (lvA_is (x := z) (fun d e => hx d (slots_of.2 (by simp [Op.operands, Call.operands, e])))).1
      simp only [List.map_cons, List.map_nil, lcall] at h
      by_cases c1 : (lvA σ x).s = 3 ∧ (lvA σ y).g.t = 1 ∧ (lvA σ z).g.t = 1 ∧ f = 23
      · rw [if_pos c1] at h; cases h
        obtain ⟨c1, c2, c3, rfl⟩ := c1
        obtain ⟨b, c, e, hr⟩ : IsRl w (a.eval x) (lvA σ x).r := hi.t c1
        exact wp_enter (run_call3 e (hj.t c2) (hk.t c3) c_has) (said_l (Has_calls b c _ _ _ w hr))
      rw [if_neg c1] at h; cases h
    | x :: y :: z :: u :: l, h, _ =>
      simp only [List.map_cons, lcall] at h
      cases h
  · cases h
theorem lop_ok (hG : LGm M w) (hN : N ≤ w.heap.size) {o : Oper} {av : LV} (h : lopR M σ o.op = some av) (hp : ∀ p, lpre M σ o.op = some p → p) (hx : ∀ d ∈ slotsOf o.op.operands.toList, LIs M N w (σ d) (a.eval (.tmp d))) : o.wp Tryz.prog a w (LSaid M N a w o.dst av) Q := by
  unfold lopR at h
  unfold lpre at hp
  cases hg : gopR M.m (fun d => (σ d).g) o.op with
  | some ag =>
    rw [hg] at h hp
    cases h
    refine Oper.wp_mono (fun a' w' h => ?_) (gop_ok hG.g hN hg hp (fun d hd => (hx d hd).1))
    obtain ⟨v, h1, h2, h3⟩ := h
    exact ⟨v, h1, ⟨h2, trivial⟩, h3⟩
  | none =>
    rw [hg] at h hp
    exact xop_ok hG h hp hx
end
def lE (M : Lm) : Eng Tryz.prog LV where
  Is := LIs M
  G := LGm M
  isNo x := x.g.t == 0 && x.s == 0
  nw x := x.g.t == 12
  isB x := x.g.t == 2
  bv x := x.g.b
  con x := .b (conG x)
  pk b x y := if x.g.t = 2 ∧ y.g.t = 2 then some (.bo (if b then x.g.b else y.g.b)) else none
  opR := lopR M
  pre := lpre M
  mono := fun h hb => ⟨GIs.mono h.1 hb, h.2.mono hb⟩
  gmono := LGm.mono
  any := fun {_ _ x _} h => by
    rw [Bool.and_eq_true, beq_iff_eq, beq_iff_eq] at h
    exact ⟨by unfold GIs; rw [h.1]; trivial, by unfold XIs; rw [h.2]; trivial⟩
  chg := fun {_ _ _ x _} h hi => by
    refine ⟨?_, hi.2⟩
    obtain ⟨⟨t, k, b, f, p, e⟩, s, n, r, l, i⟩ := x
    have hi := hi.1
    unfold GIs at hi ⊢
    dsimp only at hi ⊢
    split at hi
    case h_11 => simp at h
    all_goals exact hi
  bool := fun {N w x v} h hi => hi.1.t (k := 2) (by simpa using h)
  conOk := fun h => ⟨conG_is h, trivial⟩
  pkOk := fun {N w b x y z v} h hi => by
    by_cases c : x.g.t = 2 ∧ y.g.t = 2
    · rw [if_pos c] at h; cases h
      refine ⟨?_, trivial⟩
      cases b
      · exact (show GIs M.m N w y.g v from hi.1).t c.2
      · exact (show GIs M.m N w x.g v from hi.1).t c.1
    · rw [if_neg c] at h; cases h
  ok := fun hG hN h hp hx => lop_ok hG hN h hp hx
theorem Eng.Ga.to {P : Program} {A : Type} {E : Eng P A} {T : Nat} {w0 w : World} {σ : Nat → A} {a : Act} (no : A) (ks : List (Nat × A)) (h : E.Ga T w0 σ a w) (h0 : E.isNo no = true) (hn : E.nw no = false) (hk : ks.map (fun p => σ p.1) = ks.map (·.2)) : E.Ga T w0 (upds (fun _ => no) ks) a w := by
  refine h.less (fun d => ?_)
  rcases upds_in (σ := fun _ => no) (ks := ks) (x := d) with ⟨p, h1, rfl, h3⟩ | ⟨_, h2⟩
  · exact .inr (h3.trans (List.map_inj_left.1 hk p h1).symm)
  · exact .inl (by rw [h2]; exact ⟨h0, hn⟩)
theorem Eng.condk {P : Program} {A : Type} {E : Eng P A} {T : Nat} {w0 : World} {σ : Nat → A} {Q : Exit → Act → World → Prop} (d : Nat) (r q : Bool) (hd : E.isB (σ d) = true) (hq : E.bv (σ d) = r) (hr : r = q) {x y : Code} (h1 : q = true → ∀ a w, E.Ga T w0 σ a w → x.wp P Q a w) (h2 : q = false → ∀ a w, E.Ga T w0 σ a w → y.wp P Q a w) :
    ∀ a w, E.Ga T w0 σ a w → (Code.cond (.tmp d) x y).wp P Q a w := Eng.cond d q hd (hq.trans hr) h1 h2
theorem lE_bo {M : Lm} {T : Nat} {w0 w : World} {σ : Nat → LV} {a : Act} (h : (lE M).Ga T w0 σ a w) (d : Nat) (q : Bool) (e : σ d = LV.bo q) : a.eval (.tmp d) = .bool q := by
  have h1 : LIs M 0 w (σ d) (a.eval (.tmp d)) := h.is d
  rw [e] at h1
  exact h1.1
theorem lE_rt {M : Lm} {N : Nat} {w : World} {q : Bool} {v : Value} (h : (lE M).Is N w (LV.bo q) v) : v = .bool q := (show LIs M N w (LV.bo q) v from h).1
theorem viaP {p q : Prop} (e : p = q) (h : p) : q := e ▸ h
end Go.Proofs.YtmmadkghojoniaaGreatDoor
