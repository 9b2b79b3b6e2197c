/- Code over a graph of our own that is written to is reckoned: gE and more. -/
import Derived.Test.YtmmadkghojoniaaGreatDoorArLE
import Derived.Test.YtmmadkghojoniaaGreatDoorJ33
import Derived.Test.YtmmadkghojoniaaGreatDoorArSm
import Derived.Test.YtmmadkghojoniaaGreatDoorJ26
import Derived.Test.YtmmadkghojoniaaGreatDoorJ27
namespace Go.Proofs.YtmmadkghojoniaaGreatDoor
open Go.RowKit Go.Shelf Sx
structure WV where
  g : GV
  s : Nat
  n : Nat
  p : List (Int × Int)
def WV.b (x : GV) : WV := ⟨x, 0, 0, []⟩
def WV.x (s n : Nat) : WV := ⟨GV.at 0 0, s, n, []⟩
def WV.ps (l : List (Int × Int)) : WV := ⟨GV.at 0 0, 10, 0, l⟩
def WV.nu (k : Int) : WV := .b (.nu k)
def WV.bo (q : Bool) : WV := .b (.bo q)
structure Wm where
  m : Gm
  base : Nat
  es : Nat
  kv : Value
  ks : List Bool
  wv : Value
  ws : List Int
def YIs (M : Wm) (w : World) (x : WV) (v : Value) : Prop :=
  match x.s with
  | 6 => v = M.wv
  | 9 => v = M.kv
  | 10 => w.ownsRow M.base 30 2 v x.p.length (encPI x.p)
  | 11 => ∃ u, v = .tuple #[.int .i64 (axT M.m.g), u, .int .i64 (erV M.m.g)]
  | 12 => v = .pointer (some ⟨M.es, x.n * 5, none⟩)
  | 13 => v = .pointer (some ⟨M.es, x.n * 5 + 4, none⟩)
  | _ => True
theorem YIs.mono {M : Wm} {w w' : World} {x : WV} {v : Value} (h : YIs M w x v) (hb : Below w.heap.size w w') : YIs M w' x v := by
  obtain ⟨g, s, n, p⟩ := x
  unfold YIs at h ⊢
  dsimp only at h ⊢
  split at h
  · exact h
  · exact h
  · exact owns_below' h hb
  · exact h
  · exact h
  · exact h
  · trivial
def WIs (M : Wm) (N : Nat) (w : World) (x : WV) (v : Value) : Prop := GIs M.m N w x.g v ∧ YIs M w x v
structure WG (M : Wm) (w : World) : Prop where
  g : GG M.m w
  own : OwnG w M.base M.m.V M.m.g
  ev : 0 < M.m.g.evs.length → ∃ c, M.m.V.ev = .slice (some ⟨M.es, 0, none⟩) M.m.g.evs.length c
  k : SetAt w M.kv M.ks
  kl : M.ks.length ≤ 9223372036854775807
  wi : IsOrd w M.wv M.ws
  b : GrB M.m.g
  hB : M.base ≤ w.heap.size
  frm : Frm w
  tab : Tab w
theorem WG.mono {M : Wm} {w w' : World} (h : WG M w) (hb : Below w.heap.size w w') : WG M w' :=
  ⟨h.g.mono hb, h.own.below hb, h.ev, SetAt.below h.k hb, h.kl, h.wi.below hb, h.b, Nat.le_trans h.hB hb.size, h.frm.step hb, h.tab.step' hb⟩
def wvA (σ : Nat → WV) : Operand → WV
  | .tmp d => σ d
  | x => .b (conG x)
def zopR (M : Wm) (σ : Nat → WV) : Op → Option WV
  | .indexAddr ty x i => if ty = 23 ∧ (wvA σ x).g.t = 5 ∧ (wvA σ x).g.f = 1 ∧ (wvA σ i).g.t = 1 then some ⟨.ep (M.m.g.evs.getD (wvA σ i).g.k.toNat Ev.zero), 12, (wvA σ i).g.k.toNat, []⟩ else none
  | .fieldAddr ty x f => if ty = 34 ∧ (wvA σ x).g.t = 8 ∧ (wvA σ x).s = 12 ∧ f = 4 then some ⟨.ip (wvA σ x).g.e.m, 13, (wvA σ x).n, []⟩ else none
  | _ => none
def zpre (M : Wm) (σ : Nat → WV) : Op → Option Prop
  | .indexAddr _ _ i => some (0 ≤ (wvA σ i).g.k ∧ (wvA σ i).g.k < ((M.m.g.evs.length : Nat) : Int))
  | _ => none
def wcall (M : Wm) (f : Nat) (l : List WV) : Option WV :=
  match l with
  | [] => if f = 9 then some (.bo true) else none
  | [x] => if x.g.t = 10 ∧ f = 14 then some (.x 11 0) else none
  | [x, y] => if x.g.t = 5 ∧ isPl x.g.f = true ∧ x.g.f < 8 ∧ x.g.f ≠ 2 ∧ x.g.f ≠ 4 ∧ y.s = 9 ∧ f = 27 then some (.ps (someL (M.m.pl x.g.f) M.ks)) else none
  | _ => none
def yopR (M : Wm) (σ : Nat → WV) : Op → Option WV
  | .indexAddr ty x i => if ty = 36 ∧ (wvA σ x).s = 6 ∧ (wvA σ i).g.t = 1 then some (.b (.ip (M.ws.getD (wvA σ i).g.k.toNat 0))) else none
  | .binOp op ty x y _ => if ty = 38 ∧ (wvA σ x).g.t = 1 ∧ (wvA σ y).g.t = 1 ∧ op = .eql then some (.bo ((wvA σ x).g.k == (wvA σ y).g.k)) else none
  | .extract x k => if (wvA σ x).s = 11 then (if k = 0 then some (.nu (axT M.m.g)) else if k = 1 then some (.x 0 0) else if k = 2 then some (.nu (erV M.m.g)) else none) else none
  | .call ⟨.builtin .len, args, tys⟩ => match args.toList with
      | [x] => if tys = #[36] ∧ (wvA σ x).s = 6 then some (.nu ((M.ws.length : Nat) : Int)) else none
      | _ => none
  | .call ⟨.value (.func f), args, _⟩ => wcall M f (args.toList.map (wvA σ))
  | _ => none
def ypre (M : Wm) (σ : Nat → WV) : Op → Option Prop
  | .indexAddr _ _ i => some (0 ≤ (wvA σ i).g.k ∧ (wvA σ i).g.k < ((M.ws.length : Nat) : Int))
  | _ => none
def wopR (M : Wm) (σ : Nat → WV) (o : Op) : Option WV :=
  match zopR M σ o with
  | some av => some av
  | none => match gopR M.m (fun d => (σ d).g) o with
    | some av => some (.b av)
    | none => yopR M σ o
def wpre (M : Wm) (σ : Nat → WV) (o : Op) : Option Prop :=
  match zopR M σ o with
  | some _ => zpre M σ o
  | none => match gopR M.m (fun d => (σ d).g) o with
    | some _ => gpre M.m (fun d => (σ d).g) o
    | none => ypre M σ o
set_option maxRecDepth 100000
section
variable {M : Wm} {N : Nat} {w : World} {a : Act} {σ : Nat → WV} {Q : Exit → Act → World → Prop} {dst : Option Tmp} {ty : TypeId} {pos : String} {af : Array Edge} {gd : Option (Nat × Bool)} {x y : Operand} {tys : Array TypeId}
def WSaid (M : Wm) (N : Nat) (a : Act) (w : World) (d : Option Tmp) (av : WV) : Act → World → Prop := fun a' w' => ∃ v, a' = a.put d v ∧ WIs M N w' av v ∧ Below w.heap.size w w'
theorem wvA_is (h : ∀ d, x = .tmp d → WIs M N w (σ d) (a.eval (.tmp d))) : WIs M N w (wvA σ x) (a.eval x) := by
  unfold wvA
  split
  · exact h _ rfl
  · rename_i y hy
    exact ⟨conG_is hy, trivial⟩
theorem YIs.t {z : WV} {v : Value} {k : Nat} (h : YIs M w z v) (ht : z.s = k) : YIs M w ⟨z.g, k, z.n, z.p⟩ v := by
  rw [← ht]
  exact h
theorem w_of {v : Value} {z : WV} (hg : z.g = GV.at 0 0) (h : YIs M w z v) : WIs M N w z v := ⟨by unfold GIs; rw [hg]; exact trivial, h⟩
theorem w_bo {q : Bool} : WIs M N w (.bo q) (.bool q) := ⟨rfl, trivial⟩
theorem eqe_run {k l : Int} (yt : TypeId) (hx : a.eval x = .int .i64 k) (hy : a.eval y = .int .i64 l) : (execOp a.eval ⟨dst, .binOp .eql 38 x y yt, ty, pos, af, gd⟩).run Tryz.prog w = .ok (.value (.bool (k == l))) w := by
  have e : (execOp a.eval ⟨dst, .binOp .eql 38 x y yt, ty, pos, af, gd⟩).run Tryz.prog w = (do pure (Next.value (← (do eqGuard .eql 38 x y (a.eval x) (a.eval y); binOp .eql 38 (a.eval x) (a.eval y)))) : Sem Next).run Tryz.prog w := by kernel_rfl
  rw [e, hx, hy]
  exact (show _ = _ by kernel_rfl)
theorem ex_run {k : Nat} {l : Array Value} {v : Value} (hx : a.eval x = .tuple l) (hk : l[k]? = some v) : (execOp a.eval ⟨dst, .extract x k, ty, pos, af, gd⟩).run Tryz.prog w = .ok (.value v) w := by
  have e : (execOp a.eval ⟨dst, .extract x k, ty, pos, af, gd⟩).run Tryz.prog w = (do pure (Next.value (← Instr.extract (a.eval x) k)) : Sem Next).run Tryz.prog w := by kernel_rfl
  rw [e, hx]
  unfold Instr.extract
  simp only [hk]
  rfl
theorem c_chk (u : Value) (w : World) : (callFunc 14 #[u]).run Tryz.prog w = .ok (.enter 14 #[u]) w := by kernel_rfl
theorem c_som (u v : Value) (w : World) : (callFunc 27 #[u, v]).run Tryz.prog w = .ok (.enter 27 #[u, v]) w := by kernel_rfl
theorem said_w {f : FuncId} {args : Array Value} {q : Bool} (D : Calls Tryz.prog f args w fun r w' => r = .returned (.bool q) ∧ Below w.heap.size w w') : Calls Tryz.prog f args w (fun e w'' => ∃ v, e = .returned v ∧ WSaid M N a w dst (.bo q) (a.put dst v) w'') :=
  D.mono fun _ _ ⟨h1, h2⟩ => ⟨_, h1, _, rfl, w_bo, h2⟩
theorem yop_ok (hG : WG M w) {o : Oper} {av : WV} (h : yopR M σ o.op = some av) (hp : ∀ p, ypre M σ o.op = some p → p) (hx : ∀ d ∈ slotsOf o.op.operands.toList, WIs M N w (σ d) (a.eval (.tmp d))) : o.wp Tryz.prog a w (WSaid M N a w o.dst av) Q := by
  obtain ⟨dst, op, ty, pos, af, gd⟩ := o
  dsimp only at h hp hx ⊢
  have hB := Below.refl w.heap.size w
  unfold yopR at h
  split at h
  · rename_i t x i
    have hi := (wvA_is (x := x) (fun d e => hx d (slots_of.2 (by simp [Op.operands, e])))).2
    have hj := (wvA_is (x := i) (fun d e => hx d (slots_of.2 (by simp [Op.operands, e])))).1
    by_cases c2 : t = 36 ∧ (wvA σ x).s = 6 ∧ (wvA σ i).g.t = 1
    · rw [if_pos c2] at h; cases h
      obtain ⟨rfl, c, d⟩ := c2
      have ev : a.eval x = M.wv := hi.t c
      have e : IsOrd w (a.eval x) M.ws := by rw [ev]; exact hG.wi
      have e2 : a.eval i = .int .i64 (wvA σ i).g.k := hj.t d
      obtain ⟨q0, q1⟩ : 0 ≤ (wvA σ i).g.k ∧ (wvA σ i).g.k < ((M.ws.length : Nat) : Int) := hp _ rfl
      generalize (wvA σ i).g.k = k at *
      generalize M.ws = l at *
      obtain ⟨p, cap, e3, hat0⟩ := intsR_form e.1
      obtain ⟨s, o, rfl, hs, hat⟩ := hat0 (by omega)
      obtain ⟨z, hz⟩ : ∃ z, l[k.toNat]? = some z := ⟨_, List.getElem?_eq_getElem (by omega)⟩
      have hgd : l.getD k.toNat 0 = z := by rw [List.getD_eq_getElem?_getD, hz]; rfl
      exact wp_v (s := Instr.indexAt 36 (a.eval x) (a.eval i)) rfl (by rw [e3, e2]; exact ix_is _ _ _ _ _ _ q0 q1) ⟨_, rfl, ⟨⟨s, o + k.toNat, rfl, hs, by show w.cell? _ = some (.int .i64 (l.getD k.toNat 0)); rw [hgd]; exact hat _ _ hz⟩, trivial⟩, hB⟩
    rw [if_neg c2] at h; cases h
  · rename_i op t x y yt
    have hi := (wvA_is (x := x) (fun d e => hx d (slots_of.2 (by simp [Op.operands, e])))).1
    have hj := (wvA_is (x := y) (fun d e => hx d (slots_of.2 (by simp [Op.operands, e])))).1
    by_cases c : t = 38 ∧ (wvA σ x).g.t = 1 ∧ (wvA σ y).g.t = 1 ∧ op = .eql
    · rw [if_pos c] at h; cases h
      obtain ⟨rfl, c1, c2, rfl⟩ := c
      exact wp_value (eqe_run yt (hi.t c1) (hj.t c2)) ⟨_, rfl, w_bo, hB⟩
    rw [if_neg c] at h; cases h
  · rename_i x k
    have hi := (wvA_is (x := x) (fun d e => hx d (slots_of.2 (by simp [Op.operands, e])))).2
    by_cases c : (wvA σ x).s = 11
    · rw [if_pos c] at h
      obtain ⟨u, e⟩ : ∃ u, a.eval x = .tuple #[.int .i64 (axT M.m.g), u, .int .i64 (erV M.m.g)] := hi.t c
      by_cases k0 : k = 0
      · subst k0; rw [if_pos rfl] at h; cases h
        exact wp_value (ex_run e rfl) ⟨_, rfl, ⟨rfl, trivial⟩, hB⟩
      rw [if_neg k0] at h
      by_cases k1 : k = 1
      · subst k1; rw [if_pos rfl] at h; cases h
        exact wp_value (ex_run e rfl) ⟨_, rfl, ⟨trivial, trivial⟩, hB⟩
      rw [if_neg k1] at h
      by_cases k2 : k = 2
      · subst k2; rw [if_pos rfl] at h; cases h
        exact wp_value (ex_run e rfl) ⟨_, rfl, ⟨rfl, trivial⟩, hB⟩
      rw [if_neg k2] at h; cases h
    rw [if_neg c] at h; cases h
  · rename_i args tys
    obtain ⟨l⟩ := args
    match l, h, hx with
    | [], h, _ => cases h
    | [x], h, hx =>
      have hi := (wvA_is (x := x) (fun d e => hx d (slots_of.2 (by simp [Op.operands, Call.operands, e])))).2
      dsimp only at h
      by_cases c2 : tys = #[36] ∧ (wvA σ x).s = 6
      · rw [if_pos c2] at h; cases h
        obtain ⟨rfl, c2⟩ := c2
        have ev : a.eval x = M.wv := hi.t c2
        have e : IsOrd w (a.eval x) M.ws := by rw [ev]; exact hG.wi
        obtain ⟨-, -, p, c, e3, -⟩ := e
        exact wp_value (len_runI (.inr rfl) e3) ⟨_, rfl, ⟨rfl, trivial⟩, hB⟩
      rw [if_neg c2] at h; cases h
    | x :: y :: l, h, _ => cases h
  · rename_i f args tys
    obtain ⟨l⟩ := args
    match l, h, hx with
    | [], h, _ =>
      simp only [List.map_nil, wcall] at h
      by_cases e : f = 9
      · subst e; rw [if_pos rfl] at h; cases h
        exact wp_enter (run_call0 c_liv) (said_w (l11lives_calls w hG.frm hG.tab))
      rw [if_neg e] at h; cases h
    | [x], h, hx =>
      have hi := (wvA_is (x := x) (fun d e => hx d (slots_of.2 (by simp [Op.operands, Call.operands, e])))).1
      simp only [List.map_cons, List.map_nil, wcall] at h
      by_cases c1 : (wvA σ x).g.t = 10 ∧ f = 14
      · rw [if_pos c1] at h; cases h
        obtain ⟨c1, rfl⟩ := c1
        have e : a.eval x = M.m.V.val M.m.g := hi.t c1
        refine wp_enter (run_call1 e c_chk) ((arCheck_calls M.m.V M.m.g w hG.g.gr hG.frm hG.tab).mono ?_)
        rintro e w' ⟨ax, v, l, er, rfl, hans, _, hb⟩
        obtain ⟨rfl, rfl⟩ := ans_of hans
        exact ⟨_, rfl, _, rfl, w_of rfl ⟨v, rfl⟩, hb⟩
      rw [if_neg c1] at h; cases h
    | [x, y], h, hx =>
      have hi := (wvA_is (x := x) (fun d e => hx d (slots_of.2 (by simp [Op.operands, Call.operands, e])))).1
      have hj := (wvA_is (x := y) (fun d e => hx d (slots_of.2 (by simp [Op.operands, Call.operands, e])))).2
      simp only [List.map_cons, List.map_nil, wcall] at h
      by_cases c1 : (wvA σ x).g.t = 5 ∧ isPl (wvA σ x).g.f = true ∧ (wvA σ x).g.f < 8 ∧ (wvA σ x).g.f ≠ 2 ∧ (wvA σ x).g.f ≠ 4 ∧ (wvA σ y).s = 9 ∧ f = 27
      · rw [if_pos c1] at h; cases h
        obtain ⟨c1, c2, c3, c4, c5, c6, rfl⟩ := c1
        have e : a.eval x = M.m.lv (wvA σ x).g.f := hi.t c1
        have e2 : a.eval y = M.kv := hj.t c6
        have hP := hG.g.pls c2
        have hlen : (M.m.pl (wvA σ x).g.f).length * 16 ≤ 140737488355328 := by
          obtain ⟨b1, b2, b3, b4, b5, -⟩ := hG.b
          generalize (wvA σ x).g.f = f at *
          match f, c3, c2, c4, c5 with
          | 0, _, c, _, _ => cases c
          | 1, _, c, _, _ => cases c
          | 2, _, _, c, _ => exact absurd rfl c
          | 3, _, c, _, _ => cases c
          | 4, _, _, _, c => exact absurd rfl c
          | 5, _, _, _, _ => exact b3
          | 6, _, _, _, _ => exact b4
          | 7, _, _, _, _ => exact b5
          | n + 8, h, _, _, _ => omega
        refine wp_enter (run_call2 e e2 c_som) ((l11some_calls _ _ _ _ w hP hG.k hlen hG.kl).mono ?_)
        rintro e w' ⟨v, rfl, ho, hb⟩
        exact ⟨v, rfl, v, rfl, w_of rfl (owns_lower ho hG.hB), hb⟩
      rw [if_neg c1] at h; cases h
    | x :: y :: z :: l, h, _ =>
      simp only [List.map_cons, wcall] at h
      cases h
  · cases h
theorem zop_ok (hG : WG M w) {o : Oper} {av : WV} (h : zopR M σ o.op = some av) (hp : ∀ p, zpre M σ o.op = some p → p) (hx : ∀ d ∈ slotsOf o.op.operands.toList, WIs M N w (σ d) (a.eval (.tmp d))) : o.wp Tryz.prog a w (WSaid M N a w o.dst av) Q := by
  obtain ⟨dst, op, ty, pos, af, gd⟩ := o
  dsimp only at h hp hx ⊢
  have hB := Below.refl w.heap.size w
  unfold zopR at h
  split at h
  · rename_i t x i
    have hi := (wvA_is (x := x) (fun d e => hx d (slots_of.2 (by simp [Op.operands, e])))).1
    have hj := (wvA_is (x := i) (fun d e => hx d (slots_of.2 (by simp [Op.operands, e])))).1
    by_cases c2 : t = 23 ∧ (wvA σ x).g.t = 5 ∧ (wvA σ x).g.f = 1 ∧ (wvA σ i).g.t = 1
    · rw [if_pos c2] at h; cases h
      obtain ⟨rfl, c, hf, d⟩ := c2
      have e : a.eval x = M.m.lv (wvA σ x).g.f := hi.t c
      rw [hf] at e
      have e2 : a.eval i = .int .i64 (wvA σ i).g.k := hj.t d
      obtain ⟨q0, q1⟩ : 0 ≤ (wvA σ i).g.k ∧ (wvA σ i).g.k < ((M.m.g.evs.length : Nat) : Int) := hp _ rfl
      obtain ⟨p, cap, e3, hat0, -, -⟩ := hG.g.gr.ev
      generalize (wvA σ i).g.k = k at *
      obtain ⟨s, o, rfl, hat⟩ := hat0 (by omega)
      obtain ⟨c4, e4⟩ := hG.ev (by omega)
      rw [e4] at e3
      injection e3 with e5 e6 e7
      injection e5 with e5
      injection e5 with e5 e8 _
      subst e5 e8 e7
      have e : a.eval x = .slice (some ⟨M.es, 0, none⟩) M.m.g.evs.length c4 := e.trans e4
      obtain ⟨ev, hpk⟩ : ∃ p, M.m.g.evs[k.toNat]? = some p := ⟨_, List.getElem?_eq_getElem (by omega)⟩
      have hgd : M.m.g.evs.getD k.toNat Ev.zero = ev := by rw [List.getD_eq_getElem?_getD, hpk]; rfl
      rw [hgd]
      refine wp_v (s := Instr.indexAt 23 (a.eval x) (a.eval i)) rfl (by rw [e, e2]; exact ix_ev _ _ _ _ _ _ q0 q1) ⟨_, rfl, ⟨⟨M.es, 0 + k.toNat * 5, rfl, hat.lt, hat.c0 _ _ hpk, hat.c1 _ _ hpk, hat.c2 _ _ hpk, hat.c4 _ _ hpk⟩, ?_⟩, hB⟩
      show _ = _
      rw [Nat.zero_add]
    rw [if_neg c2] at h; cases h
  · rename_i t x f
    have hl := wvA_is (x := x) (fun d e => hx d (slots_of.2 (by simp [Op.operands, e])))
    by_cases c3 : t = 34 ∧ (wvA σ x).g.t = 8 ∧ (wvA σ x).s = 12 ∧ f = 4
    · rw [if_pos c3] at h; cases h
      obtain ⟨rfl, c, c2, rfl⟩ := c3
      have e : a.eval x = .pointer (some ⟨M.es, (wvA σ x).n * 5, none⟩) := hl.2.t c2
      obtain ⟨b, o, e2, h1, h2, h3, h4, h5⟩ : ∃ b o, a.eval x = .pointer (some ⟨b, o, none⟩) ∧ b < w.heap.size ∧ CellI w b o (wvA σ x).g.e.t ∧ CellI w b (o + 1) (wvA σ x).g.e.k ∧ CellI w b (o + 2) (wvA σ x).g.e.l ∧ CellI w b (o + 4) (wvA σ x).g.e.m := hl.1.t c
      rw [e] at e2
      injection e2 with e5
      injection e5 with e5
      injection e5 with e5 e8 _
      subst e5 e8
      exact wp_v (s := Instr.fieldAt 34 (a.eval x) 4) rfl (by rw [e]; exact fa_ev _ _ _ (.inr rfl)) ⟨_, rfl, ⟨⟨M.es, (wvA σ x).n * 5 + 4, rfl, h1, h5⟩, rfl⟩, hB⟩
    rw [if_neg c3] at h; cases h
  · cases h
theorem wop_ok (hG : WG M w) (hN : N ≤ w.heap.size) {o : Oper} {av : WV} (h : wopR M σ o.op = some av) (hp : ∀ p, wpre M σ o.op = some p → p) (hx : ∀ d ∈ slotsOf o.op.operands.toList, WIs M N w (σ d) (a.eval (.tmp d))) : o.wp Tryz.prog a w (WSaid M N a w o.dst av) Q := by
  unfold wopR at h
  unfold wpre at hp
  cases hz : zopR M σ o.op with
  | some az =>
    rw [hz] at h hp
    cases h
    exact zop_ok hG hz hp hx
  | none =>
    rw [hz] at h hp
    dsimp only at h hp
    cases hg : gopR M.m (fun d => (σ d).g) o.op with
    | some ag =>
      rw [hg] at h hp
      cases h
      refine Oper.wp_mono (fun a' w' h => ?_) (gop_ok hG.g hN hg hp (fun d hd => (hx d hd).1))
      obtain ⟨v, h1, h2, h3⟩ := h
      exact ⟨v, h1, ⟨h2, trivial⟩, h3⟩
    | none =>
      rw [hg] at h hp
      exact yop_ok hG h hp hx
end
def wE (M : Wm) : Eng Tryz.prog WV where
  Is := WIs M
  G := WG M
  isNo x := x.g.t == 0 && x.s == 0
  nw x := x.g.t == 12
  isB x := x.g.t == 2
  bv x := x.g.b
  con x := .b (conG x)
  pk b x y := if x.g.t = 2 ∧ y.g.t = 2 then some (.bo (if b then x.g.b else y.g.b)) else none
  opR := wopR M
  pre := wpre M
  mono := fun h hb => ⟨GIs.mono h.1 hb, h.2.mono hb⟩
  gmono := WG.mono
  any := fun {_ _ x _} h => by
    rw [Bool.and_eq_true, beq_iff_eq, beq_iff_eq] at h
    exact ⟨by unfold GIs; rw [h.1]; trivial, by unfold YIs; rw [h.2]; trivial⟩
  chg := fun {_ _ _ x _} h hi => by
    refine ⟨?_, hi.2⟩
    obtain ⟨⟨t, k, b, f, p, e⟩, s, n, q⟩ := x
    have hi := hi.1
    unfold GIs at hi ⊢
    dsimp only at hi ⊢
    split at hi
    case h_11 => simp at h
    all_goals exact hi
  bool := fun {N w x v} h hi => hi.1.t (k := 2) (by simpa using h)
  conOk := fun h => ⟨conG_is h, trivial⟩
  pkOk := fun {N w b x y z v} h hi => by
    by_cases c : x.g.t = 2 ∧ y.g.t = 2
    · rw [if_pos c] at h; cases h
      refine ⟨?_, trivial⟩
      cases b
      · exact (show GIs M.m N w y.g v from hi.1).t c.2
      · exact (show GIs M.m N w x.g v from hi.1).t c.1
    · rw [if_neg c] at h; cases h
  ok := fun hG hN h hp hx => wop_ok hG hN h hp hx
theorem wE_bo {M : Wm} {T : Nat} {w0 w : World} {σ : Nat → WV} {a : Act} (h : (wE M).Ga T w0 σ a w) (d : Nat) (q : Bool) (e : σ d = WV.bo q) : a.eval (.tmp d) = .bool q := by
  have h1 : WIs M 0 w (σ d) (a.eval (.tmp d)) := h.is d
  rw [e] at h1
  exact h1.1
theorem wE_rt {M : Wm} {N : Nat} {w : World} {q : Bool} {v : Value} (h : (wE M).Is N w (WV.bo q) v) : v = .bool q := (show WIs M N w (WV.bo q) v from h).1
end Go.Proofs.YtmmadkghojoniaaGreatDoor
namespace Go.Proofs.YtmmadkghojoniaaGreatDoor
open Go.RowKit Go.Shelf Sx
theorem OwnG.gr {w : World} {base : Nat} {U : GrV} {g : Gr} (h : OwnG w base U g) (hb : GrB g) (he : g.evs.length * 40 ≤ 140737488355328) : GrR w U g := by
  obtain ⟨B, vs, h1, h2⟩ := h.co
  obtain ⟨b1, b2, b3, b4, b5, b6, b7⟩ := hb
  exact ⟨owns_evarg h.ev he, owns_pargI h.rf b1, h2.coarg (by omega) (fun i l hl => by have := b7 l (List.mem_of_getElem? hl); omega), owns_pargI h.rmw b2, owns_pargI h.addr b3, owns_pargI h.dat b4, owns_pargI h.ctrl b5⟩
def setM (g : Gr) (i : Nat) (m : Int) : Gr := { g with evs := g.evs.set i { g.ev i with m := m } }
theorem setM_len (g : Gr) (i : Nat) (m : Int) : (setM g i m).evs.length = g.evs.length := by simp [setM]
theorem setM_at {g : Gr} {i j : Nat} {m : Int} (hi : i < g.evs.length) : (setM g i m).ev j = if j = i then { g.ev i with m := m } else g.ev j := by
  unfold setM Gr.ev
  dsimp only
  rw [List.getD_eq_getElem?_getD, List.getElem?_set]
  by_cases h1 : i = j
  · subst h1
    simp [hi]
  · rw [if_neg h1, if_neg (fun e => h1 e.symm), List.getD_eq_getElem?_getD]
theorem encEv_set1 : ∀ (l : List Ev) (i : Nat) (m : Int), i < l.length → encEv (l.set i { l.getD i Ev.zero with m := m }) = (encEv l).set (i * 5 + 4) (.int .i64 m)
  | [], i, m, h => by simp at h
  | x :: l, 0, m, _ => by simp [encEv_cons]
  | x :: l, i + 1, m, h => by
    have ih := encEv_set1 l i m (by simpa using h)
    rw [show (x :: l).getD (i + 1) Ev.zero = l.getD i Ev.zero by simp, List.set_cons_succ, encEv_cons, ih, encEv_cons]
    rw [show (i + 1) * 5 + 4 = i * 5 + 4 + 5 by omega]
    simp only [List.set_cons_succ]
theorem own_set1 {W : World} {base es cap : Nat} {l : List Ev} (h : W.ownsRow base 34 5 (.slice (some ⟨es, 0, none⟩) l.length cap) l.length (encEv l)) {i : Nat} (hi : i < l.length) (m : Int) :
    (W.setCell ⟨es, i * 5 + 4, none⟩ (.int .i64 m)).ownsRow base 34 5 (.slice (some ⟨es, 0, none⟩) (l.set i { l.getD i Ev.zero with m := m }).length cap) (l.set i { l.getD i Ev.zero with m := m }).length (encEv (l.set i { l.getD i Ev.zero with m := m })) ∧ base ≤ es ∧ ∃ u, W.cell? ⟨es, i * 5 + 4, none⟩ = some u ∧ W.frozen? ⟨es, i * 5 + 4, none⟩ = false := by
  rcases h.2 with ⟨h2, _⟩ | ⟨g, cap', cur, h2, hb, hg, hc, hm, hs, ht⟩
  · cases h2
  · have h3 : es = g ∧ cap = cap' := by simpa using h2
    obtain ⟨rfl, rfl⟩ := h3
    have hB : Blk W es 34 cur := hg
    have hlt : i * 5 + 4 < cur.size := by
      rw [hs]
      have := Nat.mul_le_mul_right 5 (show i + 1 ≤ cap by omega)
      omega
    refine ⟨?_, hb, _, hB.cell (j := i * 5 + 4) (v := cur[i * 5 + 4]) (by simp [hlt]), hB.frozen _⟩
    rw [List.length_set]
    refine ⟨by rw [encEv_length, List.length_set], .inr ⟨es, cap, _, rfl, hb, hB.set (i * 5 + 4) (.int .i64 m), hc, hm, by simp [hs], ?_⟩⟩
    rw [encEv_set1 l i m hi, ← ht]
    simp only [Array.toList_setIfInBounds, List.take_set]
theorem OwnG.putM {w : World} {base es cap : Nat} {U : GrV} {g : Gr} (h : OwnG w base U g) (hU : U.ev = .slice (some ⟨es, 0, none⟩) g.evs.length cap) {i : Nat} (hi : i < g.evs.length) (m : Int) : OwnG (w.setCell ⟨es, i * 5 + 4, none⟩ (.int .i64 m)) base U (setM g i m) := by
  have hE := h.ev
  rw [hU] at hE
  obtain ⟨cur, hB⟩ := zk_blk hE (g := es) rfl
  obtain ⟨B, vs, h1, h2⟩ := h.co
  refine ⟨?_, zk_set h.rf hB (by decide) _, ⟨B, vs, h1, zk_set h2.own hB (by decide) _, h2.rows.len, fun k x l hx hl => zk_set (h2.rows.row k x l hx hl) hB (by decide) _, h2.rows.apart⟩, zk_set h.rmw hB (by decide) _, zk_set h.addr hB (by decide) _, zk_set h.dat hB (by decide) _, zk_set h.ctrl hB (by decide) _⟩
  rw [hU]
  have := (own_set1 hE hi m).1
  rw [List.length_set] at this
  show World.ownsRow _ _ _ _ _ (g.evs.set i { g.ev i with m := m }).length (encEv (g.evs.set i { g.ev i with m := m }))
  rw [List.length_set]
  exact this
def setL (g : Gr) (f : Nat) (p : List (Int × Int)) : Gr := if f = 5 then { g with addr := p } else if f = 6 then { g with dat := p } else { g with ctrl := p }
def setU (U : GrV) (f : Nat) (v : Value) : GrV := if f = 5 then { U with addr := v } else if f = 6 then { U with dat := v } else { U with ctrl := v }
def gl (g : Gr) (f : Nat) : List (Int × Int) := if f = 5 then g.addr else if f = 6 then g.dat else g.ctrl
theorem f567 {f : Nat} (h : 5 ≤ f) (h8 : f < 8) : f = 5 ∨ f = 6 ∨ f = 7 := by omega
theorem OwnG.putL {w : World} {base gb : Nat} {U : GrV} {g : Gr} {cs : Array Value} (h : OwnG w base U g) (hG : Blk w gb 27 cs) {f : Nat} (h5 : 5 ≤ f) (h8 : f < 8) {v : Value} {p : List (Int × Int)} (ho : w.ownsRow base 30 2 v p.length (encPI p)) : OwnG (w.setCell ⟨gb, f, none⟩ v) base (setU U f v) (setL g f p) := by
  obtain ⟨B, vs, h1, h2⟩ := h.co
  have k1 := zk_set (j := f) h.ev hG (by decide) v
  have k2 := zk_set (j := f) h.rf hG (by decide) v
  have k3 : ∃ B vs, base ≤ B ∧ ClR (w.setCell ⟨gb, f, none⟩ v) B U.co vs g.co := ⟨B, vs, h1, zk_set h2.own hG (by decide) _, h2.rows.len, fun k x l hx hl => zk_set (h2.rows.row k x l hx hl) hG (by decide) _, h2.rows.apart⟩
  have k4 := zk_set (j := f) h.rmw hG (by decide) v
  have k5 := zk_set (j := f) h.addr hG (by decide) v
  have k6 := zk_set (j := f) h.dat hG (by decide) v
  have k7 := zk_set (j := f) h.ctrl hG (by decide) v
  have k8 := zk_set (j := f) ho hG (by decide) v
  rcases f567 h5 h8 with rfl | rfl | rfl
  · exact ⟨k1, k2, k3, k4, k8, k6, k7⟩
  · exact ⟨k1, k2, k3, k4, k5, k8, k7⟩
  · exact ⟨k1, k2, k3, k4, k5, k6, k8⟩
theorem gs_setL (U : GrV) (g : Gr) {f : Nat} (h5 : 5 ≤ f) (h8 : f < 8) (v : Value) (p : List (Int × Int)) : (U.gs g).setIfInBounds f v = (setU U f v).gs (setL g f p) := by
  rcases f567 h5 h8 with rfl | rfl | rfl <;> rfl
theorem grB_setL {g : Gr} (h : GrB g) {f : Nat} (h5 : 5 ≤ f) (h8 : f < 8) {p : List (Int × Int)} (hp : p.length ≤ (gl g f).length) : GrB (setL g f p) := by
  obtain ⟨b1, b2, b3, b4, b5, b6, b7⟩ := h
  rcases f567 h5 h8 with rfl | rfl | rfl
  · exact ⟨b1, b2, by have hp : p.length ≤ g.addr.length := hp; show p.length * 16 ≤ _; omega, b4, b5, b6, b7⟩
  · exact ⟨b1, b2, b3, by have hp : p.length ≤ g.dat.length := hp; show p.length * 16 ≤ _; omega, b5, b6, b7⟩
  · exact ⟨b1, b2, b3, b4, by have hp : p.length ≤ g.ctrl.length := hp; show p.length * 16 ≤ _; omega, b6, b7⟩
abbrev wM (hb : Nat) (U : GrV) (h : Gr) (base es : Nat) (kv : Value) (ks : List Bool) (wv : Value) (ws : List Int) : Wm := ⟨⟨hb, U, h, U.rf, h.rf⟩, base, es, kv, ks, wv, ws⟩
structure WS (w0 : World) (kv : Value) (ks : List Bool) (wv : Value) (ws : List Int) : Prop where
  k : SetAt w0 kv ks
  kl : ks.length ≤ 9223372036854775807
  wi : IsOrd w0 wv ws
  frm : Frm w0
  tab : Tab w0
section
variable {hb base es : Nat} {U : GrV} {h : Gr} {kv wv : Value} {ks : List Bool} {ws : List Int} {w0 w : World}
theorem WG.mk_ (hS : WS w0 kv ks wv ws) (hlow : Below w0.heap.size w0 w) (hO : OwnG w base U h) (hbx : Blk w hb 27 (U.gs h)) (hn : h.evs.length ≤ 256) (hev : 0 < h.evs.length → ∃ c, U.ev = .slice (some ⟨es, 0, none⟩) h.evs.length c) (hB : GrB h) (hbs : base ≤ w.heap.size) : WG (wM hb U h base es kv ks wv ws) w := by
  have hgr := hO.gr hB (by omega)
  exact ⟨⟨hgr, hbx, hgr.rf, hn⟩, hO, hev, SetAt.below hS.k hlow, hS.kl, hS.wi.below hlow, hB, hbs, hS.frm.step hlow, hS.tab.step' hlow⟩
theorem WG.putM (hG : WG (wM hb U h base es kv ks wv ws) w) (hS : WS w0 kv ks wv ws) (hlow : Below w0.heap.size w0 w) (hbs : w0.heap.size ≤ base) {i : Nat} (hi : i < h.evs.length) (m : Int) :
    WG (wM hb U (setM h i m) base es kv ks wv ws) (w.setCell ⟨es, i * 5 + 4, none⟩ (.int .i64 m)) ∧ Below w0.heap.size w0 (w.setCell ⟨es, i * 5 + 4, none⟩ (.int .i64 m)) ∧ ∃ u, w.cell? ⟨es, i * 5 + 4, none⟩ = some u ∧ w.frozen? ⟨es, i * 5 + 4, none⟩ = false := by
  obtain ⟨c, hU⟩ := hG.ev (show 0 < h.evs.length by omega)
  have hU : U.ev = .slice (some ⟨es, 0, none⟩) h.evs.length c := hU
  have hO : OwnG w base U h := hG.own
  have hE := hO.ev
  rw [hU] at hE
  obtain ⟨cur, hBl⟩ := zk_blk hE (g := es) rfl
  obtain ⟨-, hle, u, hc, hf⟩ := own_set1 hE hi m
  have hl2 := hlow.setCell (p := ⟨es, i * 5 + 4, none⟩) (Nat.le_trans hbs hle) (.int .i64 m)
  have hbx : Blk w hb 27 (U.gs h) := hG.g.bx
  refine ⟨WG.mk_ hS hl2 (hO.putM hU hi m) (hbx.setOther (a := ⟨es, i * 5 + 4, none⟩) (blk_ne2 hbx hBl (by decide)) _) (by rw [setM_len]; exact hG.g.n) (fun _ => ⟨c, by rw [setM_len]; exact hU⟩) hG.b ?_, hl2, u, hc, hf⟩
  have := hG.hB
  simpa using this
theorem WG.putL (hG : WG (wM hb U h base es kv ks wv ws) w) (hS : WS w0 kv ks wv ws) (hlow : Below w0.heap.size w0 w) (hbs : w0.heap.size ≤ hb) {f : Nat} (h5 : 5 ≤ f) (h8 : f < 8) {v : Value} {p : List (Int × Int)} (ho : w.ownsRow base 30 2 v p.length (encPI p)) (hp : p.length ≤ (gl h f).length) :
    WG (wM hb (setU U f v) (setL h f p) base es kv ks wv ws) (w.setCell ⟨hb, f, none⟩ v) ∧ Below w0.heap.size w0 (w.setCell ⟨hb, f, none⟩ v) ∧ ∃ u, w.cell? ⟨hb, f, none⟩ = some u ∧ w.frozen? ⟨hb, f, none⟩ = false := by
  have hO : OwnG w base U h := hG.own
  have hbx : Blk w hb 27 (U.gs h) := hG.g.bx
  have hl2 := hlow.setCell (p := ⟨hb, f, none⟩) hbs v
  have ee : (setL h f p).evs = h.evs ∧ (setU U f v).ev = U.ev := by rcases f567 h5 h8 with rfl | rfl | rfl <;> exact ⟨rfl, rfl⟩
  refine ⟨WG.mk_ hS hl2 (hO.putL hbx h5 h8 ho) ?_ (by rw [ee.1]; exact hG.g.n) (by rw [ee.1, ee.2]; exact hG.ev) (grB_setL hG.b h5 h8 hp) ?_, hl2, ?_⟩
  · have := hbx.set f v
    rw [gs_setL U h h5 h8 v p] at this
    exact this
  · have := hG.hB
    simpa using this
  · have : ∃ u, (U.gs h)[f]? = some u := by rcases f567 h5 h8 with rfl | rfl | rfl <;> exact ⟨_, rfl⟩
    obtain ⟨u, hu⟩ := this
    exact ⟨u, hbx.cell hu, hbx.frozen _⟩
end
def okK (x : WV) : Bool := (x.g.t == 0 || (x.g.t == 1 || (x.g.t == 2 || x.g.t == 3))) && (x.s == 0 || (x.s == 6 || x.s == 9))
theorem okK_is {hb base es base' es' : Nat} {U U' : GrV} {h h' : Gr} {kv wv : Value} {ks : List Bool} {ws : List Int} {N N' : Nat} {w w' : World} {x : WV} {v : Value} (hk : okK x = true) (hi : WIs (wM hb U h base es kv ks wv ws) N w x v) : WIs (wM hb U' h' base' es' kv ks wv ws) N' w' x v := by
  obtain ⟨⟨t, k, b, f, p, e⟩, s, n, q⟩ := x
  obtain ⟨h1, h2⟩ := hi
  unfold okK at hk
  simp only [Bool.and_eq_true, Bool.or_eq_true, beq_iff_eq] at hk
  obtain ⟨k1, k2⟩ := hk
  refine ⟨?_, ?_⟩
  · rcases k1 with e | e | e | e <;> subst e
    · show True
      exact trivial
    · have h2 : v = .int .i64 k := h1
      show v = .int .i64 k
      exact h2
    · have h2 : v = .bool b := h1
      show v = .bool b
      exact h2
    · have h2 : v = pv hb := h1
      show v = pv hb
      exact h2
  · rcases k2 with e | e | e <;> subst e
    · show True
      exact trivial
    · have h3 : v = wv := h2
      show v = wv
      exact h3
    · have h3 : v = kv := h2
      show v = kv
      exact h3
def keptB (ops : Array Oper) (n : Nat) (kk : List (Nat × WV)) : Bool := kk.all (fun p => okK p.2 && (List.range n).all (fun j => dstA ops j != some p.1))
section
variable {hb base es : Nat} {U : GrV} {h : Gr} {kv wv : Value} {ks : List Bool} {ws : List Int} {w0 : World} {T : Nat} {ops : Array Oper} {Q : Exit → Act → World → Prop} {id : Nat} {b : Bool}
theorem okK_nw {x : WV} (h : okK x = true) : (x.g.t == 12) = false := by
  unfold okK at h
  simp only [Bool.and_eq_true, Bool.or_eq_true, beq_iff_eq] at h
  rcases h.1 with e | e | e | e <;> rw [e] <;> rfl
theorem ga_kept {base' es' : Nat} {U' : GrV} {h' : Gr} {kk : List (Nat × WV)} {n : Nat} {a1 a : Act} {w1 w w' : World} {L : Nat → Bool} {τ : Nat → WV} (hkk : keptB ops n kk = true) (h1 : (wE (wM hb U h base es kv ks wv ws)).Ga T w0 (upds (fun _ => WV.x 0 0) kk) a1 w1)
    (hM : (wE (wM hb U h base es kv ks wv ws)).Mid T ops (gds ops) n τ a1 w1 L a w) (hG : WG (wM hb U' h' base' es' kv ks wv ws) w') (hl : Below w0.heap.size w0 w') : (wE (wM hb U' h' base' es' kv ks wv ws)).Ga T w0 (upds (fun _ => WV.x 0 0) kk) a w' := by
  refine ⟨hl, hG, fun d => ?_, fun d => ?_, hM.sz, hM.df⟩
  · rcases upds_in (σ := fun _ => WV.x 0 0) (ks := kk) (x := d) with ⟨p, h2, rfl, h4⟩ | ⟨_, h3⟩
    · have k := List.all_eq_true.1 hkk p h2
      rw [Bool.and_eq_true] at k
      have e : a.eval (.tmp p.1) = a1.eval (.tmp p.1) := hM.rest p.1 (fun j hj _ hd => by
        have := List.all_eq_true.1 k.2 j (List.mem_range.2 hj)
        rw [hd] at this
        simp at this)
      have h5 : WIs (wM hb U h base es kv ks wv ws) 0 w1 (upds (fun _ => WV.x 0 0) kk p.1) (a1.eval (.tmp p.1)) := h1.is p.1
      rw [h4] at h5
      rw [h4, e]
      exact okK_is k.1 h5
    · rw [h3]
      exact (wE _).any rfl
  · rcases upds_in (σ := fun _ => WV.x 0 0) (ks := kk) (x := d) with ⟨p, h2, rfl, h4⟩ | ⟨_, h3⟩
    · have k := List.all_eq_true.1 hkk p h2
      rw [Bool.and_eq_true] at k
      rw [h4]
      exact okK_nw k.1
    · rw [h3]
      rfl
set_option maxRecDepth 100000 in
theorem st_int (b k : Nat) (u : Value) (m : Int) (w : World) (h : w.cell? ⟨b, k, none⟩ = some u) (hf : w.frozen? ⟨b, k, none⟩ = false) : (Instr.storeAt 3 (.pointer (some ⟨b, k, none⟩)) (.int .i64 m)).run Tryz.prog w = .ok () (w.setCell ⟨b, k, none⟩ (.int .i64 m)) := by
  go_simp
set_option maxRecDepth 100000 in
theorem st_prs (b k : Nat) (u : Value) (p : Option Addr) (n c : Nat) (w : World) (h : w.cell? ⟨b, k, none⟩ = some u) (hf : w.frozen? ⟨b, k, none⟩ = false) : (Instr.storeAt 24 (.pointer (some ⟨b, k, none⟩)) (.slice p n c)).run Tryz.prog w = .ok () (w.setCell ⟨b, k, none⟩ (.slice p n c)) := by
  go_simp
theorem reg_mode (n d i : Nat) (m : Int) (kk : List (Nat × WV)) (hS : WS w0 kv ks wv ws) (hbs : w0.heap.size ≤ base) (hi : i < h.evs.length) (hs : ops.size = n + 1) (hok : okR ops n (n + 1) T = true)
    (hC : (wE (wM hb U h base es kv ks wv ws)).sucT ops (ops.toList.take n) (upds (fun _ => WV.x 0 0) kk) = true) (hV : (wE (wM hb U h base es kv ks wv ws)).vcT ops ((wE (wM hb U h base es kv ks wv ws)).goT (ops.toList.take n) (upds (fun _ => WV.x 0 0) kk)) (ops.toList.take n) (gds ops) (upds (fun _ => WV.x 0 0) kk))
    (hL : ∃ ol, ops[n]? = some ol ∧ ol.guard = none ∧ ol.dst = none ∧ ol.op = .store 3 (.tmp d) (.const (.int .i64 m))) (hW : waits ops n = true)
    (hd1 : ((wE (wM hb U h base es kv ks wv ws)).goT (ops.toList.take n) (upds (fun _ => WV.x 0 0) kk) d).s = 13) (hd2 : ((wE (wM hb U h base es kv ks wv ws)).goT (ops.toList.take n) (upds (fun _ => WV.x 0 0) kk) d).n = i) (hkk : keptB ops n kk = true)
    (fin : ∀ a w, (wE (wM hb U (setM h i m) base es kv ks wv ws)).Ga T w0 (upds (fun _ => WV.x 0 0) kk) a w → Q .normal a w) : ∀ a w, (wE (wM hb U h base es kv ks wv ws)).Ga T w0 (upds (fun _ => WV.x 0 0) kk) a w → (Code.region id ops b).wp Tryz.prog Q a w := by
  intro a1 w1 h1
  obtain ⟨ol, k1, k2, k3, k4⟩ := hL
  refine Eng.reg_last (by kernel_rfl) n hs hok hC hV k1 k2 hW (fun c x y e => by rw [k4] at e; cases e) h1 (fun L' a w hM _ hops => ?_)
  have vd : WIs (wM hb U h base es kv ks wv ws) w1.heap.size w _ (a.eval (.tmp d)) := hops d (slots_of.2 (by rw [k4]; simp [Op.operands]))
  have vd := vd.2.t hd1
  have vd : a.eval (.tmp d) = .pointer (some ⟨es, i * 5 + 4, none⟩) := by rw [← hd2]; exact vd
  have hlow := h1.low.trans (hM.low.mono h1.low.size)
  obtain ⟨hG, hl2, u, hc, hf⟩ := WG.putM ((wE _).gmono h1.g hM.low) hS hlow hbs hi m
  obtain ⟨dst, op, ty, pos, af, gd⟩ := ol
  dsimp only at k3 k4
  subst k3 k4
  refine wp_skip (w' := w.setCell ⟨es, i * 5 + 4, none⟩ (.int .i64 m)) ?_ (fin _ _ (ga_kept hkk h1 hM hG hl2))
  have e2 : (execOp a.eval ⟨none, .store 3 (.tmp d) (.const (.int .i64 m)), ty, pos, af, gd⟩).run Tryz.prog w = (do Instr.storeAt 3 (a.eval (.tmp d)) (.int .i64 m); pure Next.skip : Sem Next).run Tryz.prog w := rfl
  rw [e2, vd, Sem.run_bind, st_int _ _ u _ w hc hf]
  rfl
theorem reg_list (n d k f : Nat) (p : List (Int × Int)) (kk : List (Nat × WV)) (hS : WS w0 kv ks wv ws) (hbs : w0.heap.size ≤ hb) (h5 : 5 ≤ f) (h8 : f < 8) (hp : p.length ≤ (gl h f).length) (hs : ops.size = n + 1) (hok : okR ops n (n + 1) T = true)
    (hC : (wE (wM hb U h base es kv ks wv ws)).sucT ops (ops.toList.take n) (upds (fun _ => WV.x 0 0) kk) = true) (hV : (wE (wM hb U h base es kv ks wv ws)).vcT ops ((wE (wM hb U h base es kv ks wv ws)).goT (ops.toList.take n) (upds (fun _ => WV.x 0 0) kk)) (ops.toList.take n) (gds ops) (upds (fun _ => WV.x 0 0) kk))
    (hL : ∃ ol, ops[n]? = some ol ∧ ol.guard = none ∧ ol.dst = none ∧ ol.op = .store 24 (.tmp d) (.tmp k)) (hW : waits ops n = true)
    (hd : (wE (wM hb U h base es kv ks wv ws)).goT (ops.toList.take n) (upds (fun _ => WV.x 0 0) kk) d = .b (.at 4 f)) (hk : (wE (wM hb U h base es kv ks wv ws)).goT (ops.toList.take n) (upds (fun _ => WV.x 0 0) kk) k = .ps p) (hkk : keptB ops n kk = true)
    (fin : ∀ a w v, (wE (wM hb (setU U f v) (setL h f p) base es kv ks wv ws)).Ga T w0 (upds (fun _ => WV.x 0 0) kk) a w → Q .normal a w) : ∀ a w, (wE (wM hb U h base es kv ks wv ws)).Ga T w0 (upds (fun _ => WV.x 0 0) kk) a w → (Code.region id ops b).wp Tryz.prog Q a w := by
  intro a1 w1 h1
  obtain ⟨ol, k1, k2, k3, k4⟩ := hL
  refine Eng.reg_last (by kernel_rfl) n hs hok hC hV k1 k2 hW (fun c x y e => by rw [k4] at e; cases e) h1 (fun L' a w hM _ hops => ?_)
  have vd : WIs (wM hb U h base es kv ks wv ws) w1.heap.size w _ (a.eval (.tmp d)) := hops d (slots_of.2 (by rw [k4]; simp [Op.operands]))
  have vk : WIs (wM hb U h base es kv ks wv ws) w1.heap.size w _ (a.eval (.tmp k)) := hops k (slots_of.2 (by rw [k4]; simp [Op.operands]))
  rw [hd] at vd
  rw [hk] at vk
  have vd : a.eval (.tmp d) = .pointer (some ⟨hb, f, none⟩) := vd.1
  have vk : w.ownsRow base 30 2 (a.eval (.tmp k)) p.length (encPI p) := vk.2
  have hlow := h1.low.trans (hM.low.mono h1.low.size)
  obtain ⟨hG, hl2, u, hc, hf⟩ := WG.putL ((wE _).gmono h1.g hM.low) hS hlow hbs h5 h8 vk hp
  obtain ⟨q, c, ev⟩ := owns_len vk
  rw [ev] at hG hl2
  obtain ⟨dst, op, ty, pos, af, gd⟩ := ol
  dsimp only at k3 k4
  subst k3 k4
  refine wp_skip (w' := w.setCell ⟨hb, f, none⟩ (.slice q p.length c)) ?_ (fin _ _ _ (ga_kept hkk h1 hM hG hl2))
  have e2 : (execOp a.eval ⟨none, .store 24 (.tmp d) (.tmp k), ty, pos, af, gd⟩).run Tryz.prog w = (do Instr.storeAt 24 (a.eval (.tmp d)) (a.eval (.tmp k)); pure Next.skip : Sem Next).run Tryz.prog w := rfl
  rw [e2, vd, ev, Sem.run_bind, st_prs _ _ u _ _ _ w hc hf]
  rfl
end
end Go.Proofs.YtmmadkghojoniaaGreatDoor
namespace Go.Proofs.YtmmadkghojoniaaGreatDoor
open Go.RowKit Go.Shelf Sx
theorem gs_one2 {w : World} {V : GrV} {g : Gr} (h : GrR w V g) : (V.gs g).all (·.oneCell') = true := by
  obtain ⟨Ve, Vr, Vc, Vm, Va, Vd, Vt⟩ := V
  obtain ⟨p1, k1, e1, _, _⟩ := h.ev
  obtain ⟨p2, k2, e2, _, _⟩ := parg_form h.rf
  obtain ⟨p4, k4, e4, _, _⟩ := parg_form h.rmw
  obtain ⟨p5, k5, e5, _, _⟩ := parg_form h.addr
  obtain ⟨p6, k6, e6, _, _⟩ := parg_form h.dat
  obtain ⟨p7, k7, e7, _, _⟩ := parg_form h.ctrl
  obtain ⟨p3, k3, e3, _, _⟩ := coarg_form h.co
  dsimp only at e1 e2 e3 e4 e5 e6 e7
  subst e1 e2 e3 e4 e5 e6 e7
  kernel_rfl
structure LpA (g : Gr) (i : Nat) (h : Gr) : Prop where
  wa : Wa g h
  a : h.addr = g.addr
  d : h.dat = g.dat
  c : h.ctrl = g.ctrl
  rest : ∀ j, i ≤ j → h.ev j = g.ev j
theorem LpA.zero (g : Gr) : LpA g 0 g := ⟨⟨rfl, rfl, rfl, rfl, List.Sublist.refl _, List.Sublist.refl _, List.Sublist.refl _, rfl, fun _ _ => ⟨rfl, rfl, rfl, rfl, Mw.refl _⟩⟩, rfl, rfl, rfl, fun _ _ => rfl⟩
theorem LpA.next {g h : Gr} {i : Nat} (l : LpA g i h) (hi : i < g.evs.length) {m : Int} (hm : Mw m (g.ev i).m) : LpA g (i + 1) (setM h i m) := by
  have hi2 : i < h.evs.length := by rw [l.wa.len]; exact hi
  refine ⟨⟨l.wa.cells, l.wa.rf, l.wa.co, l.wa.rmw, l.wa.addr, l.wa.dat, l.wa.ctrl, by rw [setM_len]; exact l.wa.len, fun j hj => ?_⟩, l.a, l.d, l.c, fun j hj => ?_⟩
  · rw [setM_at hi2]
    by_cases e : j = i
    · rw [if_pos e, e, l.rest i (Nat.le_refl _)]
      exact ⟨rfl, rfl, rfl, rfl, hm⟩
    · rw [if_neg e]
      exact l.wa.ev j hj
  · rw [setM_at hi2, if_neg (by omega)]
    exact l.rest j (by omega)
theorem setM_same {h : Gr} {i : Nat} (hi : i < h.evs.length) : setM h i (h.ev i).m = h := by
  have e : h.evs.set i (h.ev i) = h.evs := by
    have := Gr.ev_at hi
    rw [List.getElem?_eq_getElem hi] at this
    rw [← Option.some.inj this]
    exact List.set_getElem_self hi
  unfold setM
  rw [show ({ h.ev i with m := (h.ev i).m } : Ev) = h.ev i from rfl, e]
theorem setM_twice {h : Gr} {i : Nat} (hi : i < h.evs.length) (m m' : Int) : setM (setM h i m) i m' = setM h i m' := by
  unfold setM
  have : ({ h with evs := h.evs.set i { h.ev i with m := m } } : Gr).ev i = { h.ev i with m := m } := by
    have := setM_at (g := h) (i := i) (j := i) (m := m) hi
    rw [if_pos rfl] at this
    exact this
  rw [this]
  dsimp only
  rw [List.set_set]
theorem setM_m {h : Gr} {i : Nat} (hi : i < h.evs.length) (m : Int) : ((setM h i m).evs.getD i Ev.zero).m = m := by
  have := setM_at (g := h) (i := i) (j := i) (m := m) hi
  rw [if_pos rfl] at this
  have e : (setM h i m).evs.getD i Ev.zero = (setM h i m).ev i := rfl
  rw [e, this]
theorem v56_t {x m : Int} (h : (if (x == 1) then (m == 12) else false) = true) : x = 1 ∧ m = 12 := by
  by_cases e : x = 1 <;> simp_all
theorem v93_t {x m : Int} (h : (if (x == 2) then (if (if (m == 12) then true else (m == 13)) then true else (m == 16)) else false) = true) : x = 2 ∧ (m = 12 ∨ m = 13 ∨ m = 16) := by
  by_cases e : x = 2
  · refine ⟨e, ?_⟩
    by_cases e1 : m = 12
    · exact .inl e1
    · by_cases e2 : m = 13
      · exact .inr (.inl e2)
      · simp_all
  · simp_all
theorem v112_t {x m : Int} (h : (if decide (x > 0) then (m == 15) else false) = true) : m = 15 := by
  by_cases e : x > 0 <;> simp_all
theorem meet_n {P : Program} {c : Code} {Q : Exit → Act → World → Prop} {a : Act} {w : World} (F : Act → World → Prop) (hk : ∀ a w, F a w → Q .normal a w) (h : (∀ a w, F a w → Q .normal a w) → c.wp P Q a w) : c.wp P Q a w := h hk
theorem wa_lists {g h : Gr} {n : Nat} (l : LpA g n h) (ks : List Bool) : Wa g (setL (setL (setL h 5 (someL h.addr ks)) 6 (someL h.dat ks)) 7 (someL h.ctrl ks)) :=
  ⟨l.wa.cells, l.wa.rf, l.wa.co, l.wa.rmw, (someL_sub _ _).trans l.wa.addr, (someL_sub _ _).trans l.wa.dat, (someL_sub _ _).trans l.wa.ctrl, l.wa.len, l.wa.ev⟩
set_option linter.unusedSimpArgs false in
set_option maxRecDepth 100000 in
set_option maxHeartbeats 32000000 in
theorem ArmWeaker_calls (V : GrV) (g : Gr) (vm : Value) (ms : List Int) (vk : Value) (ks : List Bool) (w : World) (h : GrR w V g) (hgb : GrB g) (hms : IsOrd w vm ms) (hks : SetAt w vk ks) (hkl : ks.length ≤ 9223372036854775807) (hF : Frm w) (hT : Tab w) : Calls Tryz.prog 6 #[V.val g, vm, vk] w fun r w' => r = .returned (.bool true) ∧ Below w.heap.size w w' := by
  have hlen : g.evs.length * 40 ≤ 140737488355328 := by obtain ⟨_, _, _, _, k, _⟩ := h.ev; exact k
  have hg0 := Blk.new w 27 (V.gs g)
  have hB0 : Below w.heap.size w (w.alloc (.cells (V.gs g) 27)) := (Below.refl _ _).alloc (Nat.le_refl _) _
  have e1 : w.alloc (.cells (V.gs g) 27) = w.alloc (.cells #[.int .i64 g.cells, V.ev, V.rf, V.co, V.rmw, V.addr, V.dat, V.ctrl] 27) := rfl
  rw [e1] at hB0 hg0
  have HV := hid_of (h.below hB0)
  have HS : Hid (WS (w.alloc (.cells #[.int .i64 g.cells, V.ev, V.rf, V.co, V.rmw, V.addr, V.dat, V.ctrl] 27)) vk ks vm ms) := ⟨SetAt.below hks hB0, hkl, hms.below hB0, hF.step hB0, hT.step' hB0⟩
  have HB0 := hid_of hB0
  have HG0 := hid_of hg0
  have HGB := hid_of hgb
  obtain ⟨-, -, pm, cm, em, -⟩ := hms
  obtain ⟨pk, ck, ek, -⟩ := setat_form hks
  have HEM := hid_of em
  have HEK := hid_of ek
  unfold GrV.val
  clear h hF hT hB0 hg0 e1 hgb hks em ek
  go_enter Tryz.func6, Tryz.ntmps6
  go_upto_region 1 with fail
  generalize w.alloc (.cells #[.int .i64 g.cells, V.ev, V.rf, V.co, V.rmw, V.addr, V.dat, V.ctrl] 27) = W0 at *
  go_wp2_with (first | refine wpList_load_row rfl 27 _ rfl w.heap.size rfl 27 (V.gs g) (0, 0) _ HG0.out Tryz.underlying27 rfl (by kernel_rfl) ?_)
  refine (arCheck_calls V g W0 HV.out HS.out.frm HS.out.tab).mono ?_
  rintro e w1 ⟨ax, v, l, er, rfl, hans, hown, hB1⟩
  obtain ⟨pz, cz, rfl⟩ := owns_len hown
  have HA1 := hid_of hB1
  have HG1 := hid_of (HG0.out.of_below hB1)
  clear hown hB1
  rcases hans with ⟨hc, rfl, rfl, rfl⟩ | ⟨hc, rfl, hok⟩
  · go_wp2_with fail
    refine (l11lives_calls w1 (HS.out.frm.step HA1.out) (HS.out.tab.step' HA1.out)).mono ?_
    rintro e w3 ⟨rfl, hB3⟩
    go_wp2_with fail
    go_ret
    exact ⟨rfl, below_step HB0.out HB0.out.size (below_step HA1.out HA1.out.size hB3)⟩
  · have hn : g.evs.length ≤ 256 := wf_len (show wfB g = true by unfold wfB; rw [hc]; simp)
    have HN := hid_of hn
    have HOK := hid_of hok
    have HC := hid_of hc
    clear hok hc hn
    go_wp2_with (first | refine wpList_load_row rfl 27 _ rfl w.heap.size rfl 27 (V.gs g) (0, 0) _ HG1.out Tryz.underlying27 rfl (by kernel_rfl) ?_)
    refine (r8CopiedO_calls V g w1 (HV.out.below HA1.out) HGB.out).mono ?_
    rintro e w2 ⟨U, rfl, hO, hB2⟩
    have hA2 : Below W0.heap.size W0 w2 := below_step HA1.out HA1.out.size hB2
    have hz := Blk.new w2 27 #[.int .i64 0, .slice none 0 0, .slice none 0 0, .slice none 0 0, .slice none 0 0, .slice none 0 0, .slice none 0 0, .slice none 0 0]
    have hBz : Below w2.heap.size w2 ((w2.alloc (.cells #[.int .i64 0, .slice none 0 0, .slice none 0 0, .slice none 0 0, .slice none 0 0, .slice none 0 0, .slice none 0 0, .slice none 0 0] 27)).setRow w2.heap.size (U.gs g)) := ((Below.refl w2.heap.size w2).alloc (Nat.le_refl _) _).trans (below_row _ (Nat.le_refl _))
    have hone := gs_one2 (hO.gr HGB.out hlen)
    have HLOW : Hid (Below W0.heap.size W0 ((w2.alloc (.cells #[.int .i64 0, .slice none 0 0, .slice none 0 0, .slice none 0 0, .slice none 0 0, .slice none 0 0, .slice none 0 0, .slice none 0 0] 27)).setRow w2.heap.size (U.gs g))) := below_step hA2 hA2.size hBz
    have HO := hid_of (hO.below hBz)
    have HBX := hid_of (hz.setRow' (U.gs g))
    have HBS : Hid (W0.heap.size ≤ w1.heap.size) := HA1.out.size
    have HHB : Hid (W0.heap.size ≤ w2.heap.size) := hA2.size
    have HBL : Hid (w1.heap.size ≤ ((w2.alloc (.cells #[.int .i64 0, .slice none 0 0, .slice none 0 0, .slice none 0 0, .slice none 0 0, .slice none 0 0, .slice none 0 0, .slice none 0 0] 27)).setRow w2.heap.size (U.gs g)).heap.size) := Nat.le_trans hB2.size hBz.size
    have HES : Hid (∃ es, 0 < g.evs.length → ∃ c, U.ev = .slice (some ⟨es, 0, none⟩) g.evs.length c) := by
      rcases hO.ev.2 with ⟨k, e⟩ | ⟨es, cap, cur, k, _⟩
      · exact ⟨0, fun h => by omega⟩
      · exact ⟨es, fun _ => ⟨cap, k⟩⟩
    go_upto_region 5 with (first | refine wpList_store_row rfl 27 _ _ rfl w2.heap.size (U.gs g) rfl rfl 27 #[.int .i64 0, .slice none 0 0, .slice none 0 0, .slice none 0 0, .slice none 0 0, .slice none 0 0, .slice none 0 0, .slice none 0 0] hz (by kernel_rfl) rfl hone ?_)
    clear hz hBz hA2 hO hB2 HA1 HG0 HG1 hone
    generalize (w2.alloc (.cells #[.int .i64 0, .slice none 0 0, .slice none 0 0, .slice none 0 0, .slice none 0 0, .slice none 0 0, .slice none 0 0, .slice none 0 0] 27)).setRow w2.heap.size (U.gs g) = w3 at *
    generalize w2.heap.size = hb at *
    generalize w1.heap.size = base at *
    obtain ⟨es, hes⟩ := HES.out
    have HGA : Hid (WG (wM hb U g base es vk ks vm ms) w3) := WG.mk_ HS.out HLOW.out HO.out HBX.out HN.out hes HGB.out HBL.out
    rename_i K1 hF K hK
    refine Eng.reg_keep (E := wE (wM hb U g base es vk ks vm ms)) (T := 152) (w0 := W0) (σ := upds (fun _ => WV.x 0 0) [(1, WV.x 6 0), (2, WV.x 9 0), (7, WV.nu ax), (10, WV.b (GV.at 3 0))]) [(11, WV.nu ((0 : Nat) : Int))] (by as_aux_lemma => kernel_rfl) (by as_aux_lemma => kernel_rfl) (by as_aux_lemma => kernel_rfl) (viaP (p := True) (by as_aux_lemma => kernel_rfl) trivial) (by as_aux_lemma => kernel_rfl) (by as_aux_lemma => kernel_rfl) (by as_aux_lemma => kernel_rfl) (fun a w1 h => hK a w1 ?_) _ _
      (ga_of (E := wE (wM hb U g base es vk ks vm ms)) (WV.x 0 0) [(1, WV.x 6 0), (2, WV.x 9 0), (7, WV.nu ax), (10, WV.b (GV.at 3 0))] rfl rfl HLOW.out HGA.out (by intro p hp; simp only [List.mem_cons, List.not_mem_nil, or_false] at hp; rcases hp with rfl | rfl | rfl | rfl <;> first | exact ⟨⟨rfl, trivial⟩, rfl⟩ | exact ⟨⟨trivial, rfl⟩, rfl⟩) rfl rfl)
    clear hK HGA HO HBX HLOW HBL
    refine wp_for g.evs.length (fun i a w1 => ∃ h, LpA g i h ∧ (wE (wM hb U h base es vk ks vm ms)).Ga 152 W0 (upds (fun _ => WV.x 0 0) [(1, WV.x 6 0), (2, WV.x 9 0), (7, WV.nu ax), (10, WV.b (GV.at 3 0)), (11, WV.nu ((i : Nat) : Int))]) a w1) ⟨g, LpA.zero g, h.to (WV.x 0 0) [(1, WV.x 6 0), (2, WV.x 9 0), (7, WV.nu ax), (10, WV.b (GV.at 3 0)), (11, WV.nu ((0 : Nat) : Int))] rfl rfl (by as_aux_lemma => kernel_rfl)⟩ ?_
    clear h a w1
    rintro i a w1 hi ⟨h, hl, hga⟩
    have hwl : h.evs.length = g.evs.length := hl.wa.len
    refine Eng.reg_keep (E := wE (wM hb U h base es vk ks vm ms)) [(40, WV.bo (if decide (((i : Nat) : Int) < ((h.evs.length : Nat) : Int)) then decide (((i : Nat) : Int) < ((ms.length : Nat) : Int)) else false))] (by as_aux_lemma => kernel_rfl) (by as_aux_lemma => kernel_rfl) (by as_aux_lemma => kernel_rfl) (viaP (p := True) (by as_aux_lemma => kernel_rfl) trivial) (by as_aux_lemma => kernel_rfl) (by as_aux_lemma => kernel_rfl) (by as_aux_lemma => kernel_rfl) (fun a w1 hga => ?_) a w1 hga
    refine ⟨_, wE_bo hga 40 (if decide (((i : Nat) : Int) < ((h.evs.length : Nat) : Int)) then decide (((i : Nat) : Int) < ((ms.length : Nat) : Int)) else false) (by as_aux_lemma => kernel_rfl), fun hq => ?_, fun hq => ?_⟩
    case refine_2 =>
      have hil : i < g.evs.length := by rw [hwl] at hq; by_cases e : i < g.evs.length; exact e; simp [e] at hq
      have him : i < ms.length := by by_cases e : i < ms.length; exact e; simp [e] at hq
      have hil2 : i < h.evs.length := by omega
      refine ⟨hil, ?_⟩
      replace hga := hga.to (WV.x 0 0) [(1, WV.x 6 0), (2, WV.x 9 0), (7, WV.nu ax), (10, WV.b (GV.at 3 0)), (11, WV.nu ((i : Nat) : Int))] rfl rfl (by as_aux_lemma => kernel_rfl)
      rw [← setM_same hil2] at hga
      have hm0 : (h.ev i).m = (g.ev i).m := by rw [hl.rest i (Nat.le_refl _)]
      generalize hmm : (h.ev i).m = m0 at hga
      have hm0 : m0 = (g.ev i).m := by rw [← hmm]; exact hm0
      clear hmm
      obtain ⟨m, hm⟩ : ∃ m, m = m0 := ⟨_, rfl⟩
      rw [← hm] at hga
      refine wp_seq ?_
      refine Eng.reg_seq (E := wE (wM hb U (setM h i m) base es vk ks vm ms)) [(56, WV.bo (if ((ms.getD i 0) == 1) then (((setM h i m).evs.getD i Ev.zero).m == 12) else false))] (by as_aux_lemma => kernel_rfl) (by as_aux_lemma => kernel_rfl) (by as_aux_lemma => kernel_rfl) (viaP (p := (true = true → (0 ≤ ((i : Nat) : Int) ∧ ((i : Nat) : Int) < ((ms.length : Nat) : Int))) ∧ ((((ms.getD i 0) == 1) == true && true) = true → (0 ≤ ((i : Nat) : Int) ∧ ((i : Nat) : Int) < (((setM h i m).evs.length : Nat) : Int))) ∧ True) (by as_aux_lemma => kernel_rfl) ⟨fun _ => ⟨by omega, by omega⟩, fun _ => ⟨by omega, by rw [setM_len]; omega⟩, trivial⟩) (by as_aux_lemma => kernel_rfl) (by as_aux_lemma => kernel_rfl) (by as_aux_lemma => kernel_rfl) (fun a w1 hga => ?_) a w1 hga
      refine meet_n (fun a w1 => ∃ m, (m = m0 ∨ ((ms.getD i 0) = 1 ∧ m0 = 12 ∧ m = 16)) ∧ (wE (wM hb U (setM h i m) base es vk ks vm ms)).Ga 152 W0 (upds (fun _ => WV.x 0 0) [(1, WV.x 6 0), (2, WV.x 9 0), (7, WV.nu ax), (10, WV.b (GV.at 3 0)), (11, WV.nu ((i : Nat) : Int))]) a w1) ?_ (fun k2 => ?_)
      case refine_2 =>
        refine Eng.condk (E := wE (wM hb U (setM h i m) base es vk ks vm ms)) 56 (if ((ms.getD i 0) == 1) then (((setM h i m).evs.getD i Ev.zero).m == 12) else false) (if ((ms.getD i 0) == 1) then (((setM h i m).evs.getD i Ev.zero).m == 12) else false) (by as_aux_lemma => kernel_rfl) (by as_aux_lemma => kernel_rfl) rfl (fun hq a w1 hga => ?_) (fun hq a w1 hga => Go.wp_skip ?_) a w1 hga
        case refine_1 =>
          replace hga := hga.to (WV.x 0 0) [(1, WV.x 6 0), (2, WV.x 9 0), (7, WV.nu ax), (10, WV.b (GV.at 3 0)), (11, WV.nu ((i : Nat) : Int))] rfl rfl (by as_aux_lemma => kernel_rfl)
          rw [setM_m hil2] at hq
          have hx : (ms.getD i 0) = 1 ∧ m = 12 := v56_t hq
          refine reg_mode 5 61 i 16 [(1, WV.x 6 0), (2, WV.x 9 0), (7, WV.nu ax), (10, WV.b (GV.at 3 0)), (11, WV.nu ((i : Nat) : Int))] HS.out HBS.out (by rw [setM_len]; exact hil2) rfl (by as_aux_lemma => kernel_rfl) (by as_aux_lemma => kernel_rfl) (viaP (p := (true = true → (0 ≤ ((i : Nat) : Int) ∧ ((i : Nat) : Int) < (((setM h i m).evs.length : Nat) : Int))) ∧ True) (by as_aux_lemma => kernel_rfl) ⟨fun _ => ⟨by omega, by rw [setM_len]; omega⟩, trivial⟩) ⟨_, rfl, rfl, rfl, rfl⟩ (by as_aux_lemma => kernel_rfl) (by as_aux_lemma => kernel_rfl) (by as_aux_lemma => kernel_rfl) (by as_aux_lemma => kernel_rfl) (fun a w1 hga => ?_) a w1 hga
          rw [setM_twice hil2] at hga
          exact k2 a w1 ⟨16, (by omega), hga⟩
        case refine_2 =>
          replace hga := hga.to (WV.x 0 0) [(1, WV.x 6 0), (2, WV.x 9 0), (7, WV.nu ax), (10, WV.b (GV.at 3 0)), (11, WV.nu ((i : Nat) : Int))] rfl rfl (by as_aux_lemma => kernel_rfl)
          exact k2 a w1 ⟨m, (.inl hm), hga⟩
      rintro a w1 ⟨m, hm, hga⟩
      refine wp_seq ?_
      refine Eng.reg_seq (E := wE (wM hb U (setM h i m) base es vk ks vm ms)) [(93, WV.bo (if ((ms.getD i 0) == 2) then (if (if (((setM h i m).evs.getD i Ev.zero).m == 12) then true else (((setM h i m).evs.getD i Ev.zero).m == 13)) then true else (((setM h i m).evs.getD i Ev.zero).m == 16)) else false))] (by as_aux_lemma => kernel_rfl) (by as_aux_lemma => kernel_rfl) (by as_aux_lemma => kernel_rfl) (viaP (p := (true = true → (0 ≤ ((i : Nat) : Int) ∧ ((i : Nat) : Int) < ((ms.length : Nat) : Int))) ∧ ((((ms.getD i 0) == 2) == true && true) = true → (0 ≤ ((i : Nat) : Int) ∧ ((i : Nat) : Int) < (((setM h i m).evs.length : Nat) : Int))) ∧ (((((setM h i m).evs.getD i Ev.zero).m == 12) == false && (((ms.getD i 0) == 2) == true && true)) = true → (0 ≤ ((i : Nat) : Int) ∧ ((i : Nat) : Int) < (((setM h i m).evs.length : Nat) : Int))) ∧ (((if (((setM h i m).evs.getD i Ev.zero).m == 12) then true else (((setM h i m).evs.getD i Ev.zero).m == 13)) == false && (((ms.getD i 0) == 2) == true && true)) = true → (0 ≤ ((i : Nat) : Int) ∧ ((i : Nat) : Int) < (((setM h i m).evs.length : Nat) : Int))) ∧ True) (by as_aux_lemma => kernel_rfl) ⟨fun _ => ⟨by omega, by omega⟩, fun _ => ⟨by omega, by rw [setM_len]; omega⟩, fun _ => ⟨by omega, by rw [setM_len]; omega⟩, fun _ => ⟨by omega, by rw [setM_len]; omega⟩, trivial⟩) (by as_aux_lemma => kernel_rfl) (by as_aux_lemma => kernel_rfl) (by as_aux_lemma => kernel_rfl) (fun a w1 hga => ?_) a w1 hga
      refine meet_n (fun a w1 => ∃ m, (m = m0 ∨ (m0 = 12 ∧ m = 16) ∨ (m = 11 ∧ (m0 = 12 ∨ m0 = 13 ∨ m0 = 16))) ∧ (wE (wM hb U (setM h i m) base es vk ks vm ms)).Ga 152 W0 (upds (fun _ => WV.x 0 0) [(1, WV.x 6 0), (2, WV.x 9 0), (7, WV.nu ax), (10, WV.b (GV.at 3 0)), (11, WV.nu ((i : Nat) : Int))]) a w1) ?_ (fun k3 => ?_)
      case refine_2 =>
        refine Eng.condk (E := wE (wM hb U (setM h i m) base es vk ks vm ms)) 93 (if ((ms.getD i 0) == 2) then (if (if (((setM h i m).evs.getD i Ev.zero).m == 12) then true else (((setM h i m).evs.getD i Ev.zero).m == 13)) then true else (((setM h i m).evs.getD i Ev.zero).m == 16)) else false) (if ((ms.getD i 0) == 2) then (if (if (((setM h i m).evs.getD i Ev.zero).m == 12) then true else (((setM h i m).evs.getD i Ev.zero).m == 13)) then true else (((setM h i m).evs.getD i Ev.zero).m == 16)) else false) (by as_aux_lemma => kernel_rfl) (by as_aux_lemma => kernel_rfl) rfl (fun hq a w1 hga => ?_) (fun hq a w1 hga => Go.wp_skip ?_) a w1 hga
        case refine_1 =>
          replace hga := hga.to (WV.x 0 0) [(1, WV.x 6 0), (2, WV.x 9 0), (7, WV.nu ax), (10, WV.b (GV.at 3 0)), (11, WV.nu ((i : Nat) : Int))] rfl rfl (by as_aux_lemma => kernel_rfl)
          rw [setM_m hil2] at hq
          have hx : (ms.getD i 0) = 2 ∧ (m = 12 ∨ m = 13 ∨ m = 16) := v93_t hq
          refine reg_mode 5 98 i 11 [(1, WV.x 6 0), (2, WV.x 9 0), (7, WV.nu ax), (10, WV.b (GV.at 3 0)), (11, WV.nu ((i : Nat) : Int))] HS.out HBS.out (by rw [setM_len]; exact hil2) rfl (by as_aux_lemma => kernel_rfl) (by as_aux_lemma => kernel_rfl) (viaP (p := (true = true → (0 ≤ ((i : Nat) : Int) ∧ ((i : Nat) : Int) < (((setM h i m).evs.length : Nat) : Int))) ∧ True) (by as_aux_lemma => kernel_rfl) ⟨fun _ => ⟨by omega, by rw [setM_len]; omega⟩, trivial⟩) ⟨_, rfl, rfl, rfl, rfl⟩ (by as_aux_lemma => kernel_rfl) (by as_aux_lemma => kernel_rfl) (by as_aux_lemma => kernel_rfl) (by as_aux_lemma => kernel_rfl) (fun a w1 hga => ?_) a w1 hga
          rw [setM_twice hil2] at hga
          exact k3 a w1 ⟨11, (by omega), hga⟩
        case refine_2 =>
          replace hga := hga.to (WV.x 0 0) [(1, WV.x 6 0), (2, WV.x 9 0), (7, WV.nu ax), (10, WV.b (GV.at 3 0)), (11, WV.nu ((i : Nat) : Int))] rfl rfl (by as_aux_lemma => kernel_rfl)
          exact k3 a w1 ⟨m, (by omega), hga⟩
      rintro a w1 ⟨m, hm, hga⟩
      refine Eng.reg_seq (E := wE (wM hb U (setM h i m) base es vk ks vm ms)) [(112, WV.bo (if decide ((ms.getD i 0) > 0) then (((setM h i m).evs.getD i Ev.zero).m == 15) else false))] (by as_aux_lemma => kernel_rfl) (by as_aux_lemma => kernel_rfl) (by as_aux_lemma => kernel_rfl) (viaP (p := (true = true → (0 ≤ ((i : Nat) : Int) ∧ ((i : Nat) : Int) < ((ms.length : Nat) : Int))) ∧ ((decide ((ms.getD i 0) > 0) == true && true) = true → (0 ≤ ((i : Nat) : Int) ∧ ((i : Nat) : Int) < (((setM h i m).evs.length : Nat) : Int))) ∧ True) (by as_aux_lemma => kernel_rfl) ⟨fun _ => ⟨by omega, by omega⟩, fun _ => ⟨by omega, by rw [setM_len]; omega⟩, trivial⟩) (by as_aux_lemma => kernel_rfl) (by as_aux_lemma => kernel_rfl) (by as_aux_lemma => kernel_rfl) (fun a w1 hga => ?_) a w1 hga
      refine meet_n (fun a w1 => ∃ m, Mw m m0 ∧ (wE (wM hb U (setM h i m) base es vk ks vm ms)).Ga 152 W0 (upds (fun _ => WV.x 0 0) [(1, WV.x 6 0), (2, WV.x 9 0), (7, WV.nu ax), (10, WV.b (GV.at 3 0)), (11, WV.nu ((i : Nat) : Int))]) a w1) ?_ (fun k4 => ?_)
      case refine_2 =>
        refine Eng.condk (E := wE (wM hb U (setM h i m) base es vk ks vm ms)) 112 (if decide ((ms.getD i 0) > 0) then (((setM h i m).evs.getD i Ev.zero).m == 15) else false) (if decide ((ms.getD i 0) > 0) then (((setM h i m).evs.getD i Ev.zero).m == 15) else false) (by as_aux_lemma => kernel_rfl) (by as_aux_lemma => kernel_rfl) rfl (fun hq a w1 hga => ?_) (fun hq a w1 hga => Go.wp_skip ?_) a w1 hga
        case refine_1 =>
          replace hga := hga.to (WV.x 0 0) [(1, WV.x 6 0), (2, WV.x 9 0), (7, WV.nu ax), (10, WV.b (GV.at 3 0)), (11, WV.nu ((i : Nat) : Int))] rfl rfl (by as_aux_lemma => kernel_rfl)
          rw [setM_m hil2] at hq
          have hx : m = 15 := v112_t hq
          refine reg_mode 5 117 i 14 [(1, WV.x 6 0), (2, WV.x 9 0), (7, WV.nu ax), (10, WV.b (GV.at 3 0)), (11, WV.nu ((i : Nat) : Int))] HS.out HBS.out (by rw [setM_len]; exact hil2) rfl (by as_aux_lemma => kernel_rfl) (by as_aux_lemma => kernel_rfl) (viaP (p := (true = true → (0 ≤ ((i : Nat) : Int) ∧ ((i : Nat) : Int) < (((setM h i m).evs.length : Nat) : Int))) ∧ True) (by as_aux_lemma => kernel_rfl) ⟨fun _ => ⟨by omega, by rw [setM_len]; omega⟩, trivial⟩) ⟨_, rfl, rfl, rfl, rfl⟩ (by as_aux_lemma => kernel_rfl) (by as_aux_lemma => kernel_rfl) (by as_aux_lemma => kernel_rfl) (by as_aux_lemma => kernel_rfl) (fun a w1 hga => ?_) a w1 hga
          rw [setM_twice hil2] at hga
          exact k4 a w1 ⟨14, (by unfold Mw; omega), hga⟩
        case refine_2 =>
          replace hga := hga.to (WV.x 0 0) [(1, WV.x 6 0), (2, WV.x 9 0), (7, WV.nu ax), (10, WV.b (GV.at 3 0)), (11, WV.nu ((i : Nat) : Int))] rfl rfl (by as_aux_lemma => kernel_rfl)
          exact k4 a w1 ⟨m, (by unfold Mw; omega), hga⟩
      rintro a w1 ⟨m, hm, hga⟩
      refine Eng.reg_keep (E := wE (wM hb U (setM h i m) base es vk ks vm ms)) [(11, WV.nu (((i + 1) : Nat) : Int))] (by as_aux_lemma => kernel_rfl) (by as_aux_lemma => kernel_rfl) (by as_aux_lemma => kernel_rfl) (viaP (p := (true = true → (-9223372036854775808 ≤ ((i : Nat) : Int) + 1 ∧ ((i : Nat) : Int) + 1 < 9223372036854775808)) ∧ True) (by as_aux_lemma => kernel_rfl) ⟨fun _ => ⟨by omega, by have := HN.out; omega⟩, trivial⟩) (by as_aux_lemma => kernel_rfl) (by as_aux_lemma => kernel_rfl) (by as_aux_lemma => kernel_rfl) (fun a w1 hga => ?_) a w1 hga
      exact ⟨setM h i m, hl.next hil (by rw [← hm0]; exact hm), hga.to (WV.x 0 0) [(1, WV.x 6 0), (2, WV.x 9 0), (7, WV.nu ax), (10, WV.b (GV.at 3 0)), (11, WV.nu (((i + 1) : Nat) : Int))] rfl rfl (by as_aux_lemma => kernel_rfl)⟩
    case refine_1 =>
      replace hga := hga.to (WV.x 0 0) [(1, WV.x 6 0), (2, WV.x 9 0), (7, WV.nu ax), (10, WV.b (GV.at 3 0))] rfl rfl (by as_aux_lemma => kernel_rfl)
      refine hF a w1 ?_
      clear hF
      have hwa := wa_lists hl ks
      refine wp_seq (reg_list 5 122 121 5 (someL h.addr ks) [(1, WV.x 6 0), (2, WV.x 9 0), (7, WV.nu ax), (10, WV.b (GV.at 3 0))] HS.out HHB.out (by decide) (by decide) (someL_sub _ _).length_le rfl (by as_aux_lemma => kernel_rfl) (by as_aux_lemma => kernel_rfl) (viaP (p := True) (by as_aux_lemma => kernel_rfl) trivial) ⟨_, rfl, rfl, rfl, rfl⟩ (by as_aux_lemma => kernel_rfl) (by as_aux_lemma => kernel_rfl) (by as_aux_lemma => kernel_rfl) (by as_aux_lemma => kernel_rfl) (fun a w1 v5 hga => ?_) a w1 hga)
      refine wp_seq (reg_list 5 127 126 6 (someL (setL h 5 (someL h.addr ks)).dat ks) [(1, WV.x 6 0), (2, WV.x 9 0), (7, WV.nu ax), (10, WV.b (GV.at 3 0))] HS.out HHB.out (by decide) (by decide) (someL_sub _ _).length_le rfl (by as_aux_lemma => kernel_rfl) (by as_aux_lemma => kernel_rfl) (viaP (p := True) (by as_aux_lemma => kernel_rfl) trivial) ⟨_, rfl, rfl, rfl, rfl⟩ (by as_aux_lemma => kernel_rfl) (by as_aux_lemma => kernel_rfl) (by as_aux_lemma => kernel_rfl) (by as_aux_lemma => kernel_rfl) (fun a w1 v6 hga => ?_) a w1 hga)
      refine wp_seq (reg_list 5 132 131 7 (someL (setL (setL h 5 (someL h.addr ks)) 6 (someL (setL h 5 (someL h.addr ks)).dat ks)).ctrl ks) [(1, WV.x 6 0), (2, WV.x 9 0), (7, WV.nu ax), (10, WV.b (GV.at 3 0))] HS.out HHB.out (by decide) (by decide) (someL_sub _ _).length_le rfl (by as_aux_lemma => kernel_rfl) (by as_aux_lemma => kernel_rfl) (viaP (p := True) (by as_aux_lemma => kernel_rfl) trivial) ⟨_, rfl, rfl, rfl, rfl⟩ (by as_aux_lemma => kernel_rfl) (by as_aux_lemma => kernel_rfl) (by as_aux_lemma => kernel_rfl) (by as_aux_lemma => kernel_rfl) (fun a w1 v7 hga => ?_) a w1 hga)
      have hln : g.evs.length ≤ 256 := HN.out
      have hchk := hwa.ck HC.out
      have hh : (setL (setL (setL h 5 (someL h.addr ks)) 6 (someL (setL h 5 (someL h.addr ks)).dat ks)) 7 (someL (setL (setL h 5 (someL h.addr ks)) 6 (someL (setL h 5 (someL h.addr ks)).dat ks)).ctrl ks)) = (setL (setL (setL h 5 (someL h.addr ks)) 6 (someL h.dat ks)) 7 (someL h.ctrl ks)) := rfl
      rw [hh] at hga
      have her : (erV (setL (setL (setL h 5 (someL h.addr ks)) 6 (someL h.dat ks)) 7 (someL h.ctrl ks)) == 0) = true := by unfold erV; rw [if_pos hchk]; rfl
      have hax : (if (ax != 0) then true else (axT (setL (setL (setL h 5 (someL h.addr ks)) 6 (someL h.dat ks)) 7 (someL h.ctrl ks)) == 0)) = true := by
        by_cases e : ax = 0
        · subst e
          obtain ⟨hI, hO, hT⟩ := ok_zero HOK.out
          have : axT (setL (setL (setL h 5 (someL h.addr ks)) 6 (someL h.dat ks)) 7 (someL h.ctrl ks)) = 0 := by
            unfold axT
            rw [if_pos hchk]
            exact hwa.axz hln hI hO hT
          rw [this]
          rfl
        · rw [if_pos (by simpa using e)]
      generalize (setL (setL (setL h 5 (someL h.addr ks)) 6 (someL h.dat ks)) 7 (someL h.ctrl ks)) = h3 at *
      refine Eng.reg_seq (E := wE (wM hb (setU (setU (setU U 5 v5) 6 v6) 7 v7) h3 base es vk ks vm ms)) [(12, WV.nu (axT h3)), (14, WV.nu (erV h3))] (by as_aux_lemma => kernel_rfl) (by as_aux_lemma => kernel_rfl) (by as_aux_lemma => kernel_rfl) (viaP (p := True) (by as_aux_lemma => kernel_rfl) trivial) (by as_aux_lemma => kernel_rfl) (by as_aux_lemma => kernel_rfl) (by as_aux_lemma => kernel_rfl) (fun a w1 hga => ?_) a w1 hga
      refine wp_seq (Eng.reg_ret (E := wE (wM hb (setU (setU (setU U 5 v5) 6 v6) 7 v7) h3 base es vk ks vm ms)) (fn := Tryz.f6) (R := fun r w' => r = .returned (.bool true) ∧ Below w.heap.size w w') 6 (WV.bo (if (if (erV h3 == 0) then (if (ax != 0) then true else (axT h3 == 0)) else false) then true else false)) (by as_aux_lemma => kernel_rfl) (by as_aux_lemma => kernel_rfl) (by as_aux_lemma => kernel_rfl) (viaP (p := True) (by as_aux_lemma => kernel_rfl) trivial) (by as_aux_lemma => kernel_rfl) (by as_aux_lemma => kernel_rfl) rfl (fun a w h => by exact wp_ret h) (fun N w' v hl hG hv => ⟨by rw [wE_rt hv, her, hax]; rfl, below_step HB0.out HB0.out.size hl⟩) a w1 hga)
end Go.Proofs.YtmmadkghojoniaaGreatDoor
