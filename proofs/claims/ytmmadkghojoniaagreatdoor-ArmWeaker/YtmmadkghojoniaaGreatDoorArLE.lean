/- Code over a graph, its relations and their lists in memory is reckoned: gE and more. -/
import Derived.Test.YtmmadkghojoniaaGreatDoorJ27
import Derived.Test.YtmmadkghojoniaaGreatDoorJ29
import Derived.Test.YtmmadkghojoniaaGreatDoorJ09
import Derived.Test.YtmmadkghojoniaaGreatDoorJ15
namespace Go.Proofs.YtmmadkghojoniaaGreatDoor
open Go.RowKit Go.Shelf Sx
structure LV where
  g : GV
  s : Nat
  n : Nat
  r : List Nat
  l : List (List Nat)
  i : List Int
def LV.b (x : GV) : LV := ⟨x, 0, 0, [], [], []⟩
def LV.x (s n : Nat) : LV := ⟨GV.at 0 0, s, n, [], [], []⟩
def LV.rl (r : List Nat) : LV := ⟨GV.at 0 0, 3, 0, r, [], []⟩
def LV.is (l : List Int) : LV := ⟨GV.at 0 0, 6, 0, [], [], l⟩
def LV.nu (k : Int) : LV := .b (.nu k)
def LV.bo (q : Bool) : LV := .b (.bo q)
structure Lm where
  m : Gm
  nf : Nat
  fb : Nat
  fx : Nat → List Nat
def IsRl (w : World) (v : Value) (L : List Nat) : Prop := ∃ b c, v = pv b ∧ IsRel w b c L
theorem IsRl.below {w w' : World} {v : Value} {L : List Nat} (h : IsRl w v L) (hb : Below w.heap.size w w') : IsRl w' v L := by
  obtain ⟨b, c, h1, h2⟩ := h
  exact ⟨b, c, h1, h2.below hb⟩
def IsOrd (w : World) (v : Value) (l : List Int) : Prop := IntsR w v l ∧ l.length ≤ 9223372036854775807 ∧ ∃ p c, v = .slice p l.length c ∧ l.length ≤ c
theorem IsOrd.below {w w' : World} {v : Value} {l : List Int} (h : IsOrd w v l) (hb : Below w.heap.size w w') : IsOrd w' v l := ⟨h.1.below hb, h.2⟩
def XIs (M : Lm) (w : World) (x : LV) (v : Value) : Prop :=
  match x.s with
  | 1 => v = pv M.fb
  | 2 => v = .pointer (some ⟨M.fb, x.n, none⟩)
  | 3 => IsRl w v x.r
  | 4 => v = M.m.V.co
  | 5 => ∃ b o u, v = .pointer (some ⟨b, o, none⟩) ∧ b < w.heap.size ∧ w.cell? ⟨b, o, none⟩ = some u ∧ IsOrd w u (M.m.g.co.getD x.n [])
  | 6 => IsOrd w v x.i
  | 7 => ∃ s rs, v = .slice (some ⟨s, 0, none⟩) rs.length rs.length ∧ RelsAt w s rs ∧ rs.map (·.2.2) = x.l
  | _ => True
theorem XIs.mono {M : Lm} {w w' : World} {x : LV} {v : Value} (h : XIs M w x v) (hb : Below w.heap.size w w') : XIs M w' x v := by
  obtain ⟨g, s, n, r, l, i⟩ := x
  unfold XIs at h ⊢
  dsimp only at h ⊢
  split at h
  · exact h
  · exact h
  · exact h.below hb
  · exact h
  · obtain ⟨b, o, u, h1, h2, h3, h4⟩ := h
    exact ⟨b, o, u, h1, Nat.lt_of_lt_of_le h2 hb.size, (hb.cell (p := ⟨b, o, none⟩) h2).trans h3, h4.below hb⟩
  · exact h.below hb
  · obtain ⟨s, rs, h1, h2, h3⟩ := h; exact ⟨s, rs, h1, h2.below hb, h3⟩
  · trivial
structure LGm (M : Lm) (w : World) : Prop where
  g : GG M.m w
  f : 0 < M.nf → M.nf = 5 ∧ ∃ ks : Nat → Nat, Blk w M.fb 44 (fcC ks) ∧ ∀ i, i < 5 → IsRl w (pv (ks i)) (M.fx i)
  frm : Frm w
  tab : Tab w
theorem LGm.mono {M : Lm} {w w' : World} (h : LGm M w) (hb : Below w.heap.size w w') : LGm M w' := by
  refine ⟨h.g.mono hb, fun h0 => ?_, h.frm.step hb, h.tab.step' hb⟩
  obtain ⟨e, ks, h1, h2⟩ := h.f h0
  exact ⟨e, ks, h1.of_below hb, fun i hi => (h2 i hi).below hb⟩
set_option maxRecDepth 100000
section
variable {M : Lm} {N : Nat} {w : World} {a : Act} {σ : Nat → LV} {Q : Exit → Act → World → Prop} {dst : Option Tmp} {ty : TypeId} {pos : String} {af : Array Edge} {gd : Option (Nat × Bool)} {x y : Operand} {tys : Array TypeId}
theorem XIs.t {z : LV} {v : Value} {k : Nat} (h : XIs M w z v) (ht : z.s = k) : XIs M w ⟨z.g, k, z.n, z.r, z.l, z.i⟩ v := by
  rw [← ht]
  exact h
theorem ix_is (s o n c : Nat) (k : Int) (w : World) (h0 : 0 ≤ k) (h1 : k < ((n : Nat) : Int)) : (Instr.indexAt 36 (.slice (some ⟨s, o, none⟩) n c) (.int .i64 k)).run Tryz.prog w = .ok (.pointer (some ⟨s, o + k.toNat, none⟩)) w := by
  go_simp
theorem len_runI {p : Option Addr} {n c : Nat} {t : TypeId} (ht : t = 25 ∨ t = 36) (hx : a.eval x = .slice p n c) : (execOp a.eval ⟨dst, .call ⟨.builtin .len, #[x], #[t]⟩, ty, pos, af, gd⟩).run Tryz.prog w = .ok (.value (.int .i64 ((n : Nat) : Int))) w := by
  rcases ht with rfl | rfl
  · generalize a.eval = q at *
    go_simp
  · generalize a.eval = q at *
    go_simp
theorem c_liv (w : World) : (callFunc 9 #[]).run Tryz.prog w = .ok (.enter 9 #[]) w := by kernel_rfl
theorem run_call0 {f : Nat} (h : ∀ w, (callFunc f #[]).run Tryz.prog w = .ok (.enter f #[]) w) : (execOp a.eval ⟨dst, .call ⟨.value (.func f), #[], tys⟩, ty, pos, af, gd⟩).run Tryz.prog w = .ok (.enter f #[]) w := by
  have e : (execOp a.eval ⟨dst, .call ⟨.value (.func f), #[], tys⟩, ty, pos, af, gd⟩).run Tryz.prog w = (callFunc f #[]).run Tryz.prog w := by kernel_rfl
  rw [e]
  exact h w
end
theorem Eng.Ga.to {P : Program} {A : Type} {E : Eng P A} {T : Nat} {w0 w : World} {σ : Nat → A} {a : Act} (no : A) (ks : List (Nat × A)) (h : E.Ga T w0 σ a w) (h0 : E.isNo no = true) (hn : E.nw no = false) (hk : ks.map (fun p => σ p.1) = ks.map (·.2)) : E.Ga T w0 (upds (fun _ => no) ks) a w := by
  refine h.less (fun d => ?_)
  rcases upds_in (σ := fun _ => no) (ks := ks) (x := d) with ⟨p, h1, rfl, h3⟩ | ⟨_, h2⟩
  · exact .inr (h3.trans (List.map_inj_left.1 hk p h1).symm)
  · exact .inl (by rw [h2]; exact ⟨h0, hn⟩)
theorem Eng.condk {P : Program} {A : Type} {E : Eng P A} {T : Nat} {w0 : World} {σ : Nat → A} {Q : Exit → Act → World → Prop} (d : Nat) (r q : Bool) (hd : E.isB (σ d) = true) (hq : E.bv (σ d) = r) (hr : r = q) {x y : Code} (h1 : q = true → ∀ a w, E.Ga T w0 σ a w → x.wp P Q a w) (h2 : q = false → ∀ a w, E.Ga T w0 σ a w → y.wp P Q a w) :
    ∀ a w, E.Ga T w0 σ a w → (Code.cond (.tmp d) x y).wp P Q a w := Eng.cond d q hd (hq.trans hr) h1 h2
theorem viaP {p q : Prop} (e : p = q) (h : p) : q := e ▸ h
end Go.Proofs.YtmmadkghojoniaaGreatDoor
