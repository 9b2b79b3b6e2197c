import Derived.Test.YtdkogbfamdnheaaGreatDoorJ20
import Derived.Maps.GroupsBeside
namespace Go.Proofs.YtdkogbfamdnheaaGreatDoor
open Go.RowKit Go.Shelf Go.Maps Go.ChangeShapes Sx
set_option maxRecDepth 100000
set_option maxHeartbeats 16000000
set_option linter.unusedSimpArgs false
set_option linter.unusedVariables false
def Qc2 (g : Gr) (c : Int) (i : Nat) : Bool := decide ((g.ev i).k = 2) && decide ((g.ev i).l = c)
def wrs (g : Gr) (c : Int) (k : Nat) : List Int := ((List.range k).filter (Qc2 g c)).map (fun i => ((i : Nat) : Int))
theorem Qw9 (g : Gr) (c : Int) : wrs g c 0 = [] := rfl
theorem Qmv {g : Gr} {c : Int} {k : Nat} (h : Qc2 g c k = true) : wrs g c (k + 1) = wrs g c k ++ [((k : Nat) : Int)] := by
 unfold wrs
 rw [List.range_succ, List.filter_append, List.map_append]
 simp [h]
theorem Qk6 {g : Gr} {c : Int} {k : Nat} (h : Qc2 g c k = false) : wrs g c (k + 1) = wrs g c k := by
 unfold wrs
 rw [List.range_succ, List.filter_append, List.map_append]
 simp [h]
theorem Qsc (g : Gr) (c : Int) (k : Nat) : (wrs g c k).length ≤ k := by
 unfold wrs
 rw [List.length_map]
 exact Nat.le_trans (List.length_filter_le _ _) sW
theorem Qdr {g : Gr} {c : Int} {k : Nat} {x : Int} : x ∈ wrs g c k ↔ ∃ i : Nat, x = ((i : Nat) : Int) ∧ i < k ∧ Qc2 g c i = true := by
 unfold wrs
 simp only [List.mem_map, List.mem_filter, List.mem_range]
 constructor
 ·rintro ⟨i, ⟨h1, h2⟩, rfl⟩; exact ⟨i, rfl, h1, h2⟩
 ·rintro ⟨i, rfl, h1, h2⟩; exact ⟨i, ⟨h1, h2⟩, rfl⟩
def Qao (g : Gr) (c : Nat) : Bool := decide (g.co.length ≤ c) || !Qau (g.co.getD c []) ((c : Nat) : Int) (wrs g ((c : Nat) : Int) g.evs.length)
def Qbq (g : Gr) : Int := if Qak (Qao g) 0 g.cells.toNat = -1 then (if (g.co.length : Int) ≤ g.cells then -1 else g.cells) else Qak (Qao g) 0 g.cells.toNat
theorem Qjp {g : Gr} {q : Bool} (h : Qcg g q = -1) {c : Nat} (hc : ((c : Nat) : Int) < g.cells) : g.ev c = Qdl c q := by
 unfold Qcg at h
 rcases Qd (fun i => @decide (g.ev i ≠ Qdl i q) (Ev.ndec _ _)) g.cells.toNat 0 with ⟨_, h2⟩ | ⟨i, h1, _⟩
 ·have := h2 c (Nat.zero_le _) oW
  exact Ev.ndec_false this
 ·rw [h1] at h; omega
theorem Ql2 {g : Gr} {q : Bool} (h : Qdc g q = -1) {i : Nat} (h1 : g.cells ≤ ((i : Nat) : Int)) (h2 : i < g.evs.length) : Qbm g.cells (g.ev i) q = true := by
 unfold Qdc at h
 rcases Qd (fun i => !Qbm g.cells (g.ev i) q) (g.evs.length - g.cells.toNat) g.cells.toNat with ⟨_, h3⟩ | ⟨j, h3, _⟩
 ·have := h3 i oW oW
  simpa using this
 ·rw [h3] at h; omega
theorem Qx {cells : Int} {e : Ev} {q : Bool} (h : Qbm cells e q = true) (hk : e.k = 2) : 0 ≤ e.l ∧ e.l < cells := by
 unfold Qbm at h
 rw [hk] at h
 simp at h
 omega
theorem Qsd {g : Gr} {q : Bool} (h2 : Qcg g q = -1) (h3 : Qdc g q = -1) {i : Nat} (hi : i < g.evs.length) (hk : (g.ev i).k = 2) : 0 ≤ (g.ev i).l ∧ (g.ev i).l < g.cells := by
 by_cases hc : (i : Int) < g.cells
 ·rw [Qjp h2 hc]
  exact ⟨by simp [Qdl], by simpa [Qdl] using hc⟩
 ·exact Qx (Ql2 h3 oW hi) hk
theorem Qxa {g : Gr} {q : Bool} (h2 : Qcg g q = -1) (h3 : Qdc g q = -1) {c : Int} (h : wrs g c g.evs.length ≠ []) : 0 ≤ c ∧ c < g.cells := by
 obtain ⟨x, hx⟩ := List.exists_mem_of_ne_nil _ h
 obtain ⟨i, rfl, hi, hw⟩ := Qdr.1 hx
 simp [Qc2] at hw
 have := Qsd h2 h3 hi hw.1
 rw [hw.2] at this
 exact this
theorem Qmw {g : Gr} {q : Bool} (h1 : Qar g = false) (h2 : Qcg g q = -1) {c : Nat} (hc : ((c : Nat) : Int) < g.cells) : wrs g ((c : Nat) : Int) g.evs.length ≠ [] := by
 have hl : g.cells ≤ (g.evs.length : Int) := by simp [Qar] at h1; omega
 have : (c : Int) ∈ wrs g (c : Int) g.evs.length := by
  refine Qdr.2 ⟨c, rfl, oW, ?_⟩
  rw [Qc2, Qjp h2 hc]
  simp [Qdl]
 intro e
 rw [e] at this
 cases this
structure GD (g : Gr) (k : Nat) (D : DataW Unit) : Prop where
 map : IsMap D
 none : ∀ c : Int, wrs g c k = [] → has D (.int .i64 c) = false
 some : ∀ c : Int, wrs g c k ≠ [] → ∀ z, D.atKey (.int .i64 c) z = .slice (lits .i64 (wrs g c k)) []
theorem GD.zero (g : Gr) : GD g 0 (.map []) := ⟨isMap_empty, fun _ _ => rfl, fun c h => absurd (Qw9 g c) h⟩
theorem Qxb {a b : List Int} (h : lits (H := Unit) .i64 a = lits .i64 b) : a = b := by
 unfold lits at h
 exact (List.map_inj_right (fun x y hxy => by cases hxy; rfl)).1 h
theorem GD.at {g : Gr} {k : Nat} {D : DataW Unit} (h : GD g k D) {w : World} {base : Nat} {c : Int} {v : Value} {zs : List Int} (hat : D.atKey (.int .i64 c) .nil = rowDatum .i64 v zs) (ho : w.ownsInts base 3 .i64 v zs) : zs = wrs g c k := by
 by_cases e : wrs g c k = []
 ·rw [atKey_of_not_has (h.none c e)] at hat
  rcases ho.datum (H := Unit) with ⟨_, h2⟩ | h2
  ·rw [h2, e]
  ·rw [h2] at hat; cases hat
 ·rw [h.some c e] at hat
  rcases ho.datum (H := Unit) with ⟨h1, _⟩ | h2
  ·rw [h1] at hat; cases hat
  ·rw [h2] at hat
   exact (Qxb (by simpa using hat)).symm
theorem GD.put {g : Gr} {k : Nat} {D : DataW Unit} (h : GD g k D) {w : World} {base : Nat} {c : Int} {v : Value} {zs : List Int} (hk : (g.ev k).k = 2) (hc : (g.ev k).l = c) (hz : zs = wrs g c k ++ [((k : Nat) : Int)]) (ho : w.ownsInts base 3 .i64 v zs) : GD g (k + 1) (D.put (.int .i64 c) (rowDatum .i64 v zs)) := by
 have hit : Qc2 g c k = true := by simp [Qc2, hk, hc]
 have hd : rowDatum (H := Unit) .i64 v zs = .slice (lits .i64 (wrs g c (k + 1))) [] := by
  rw [ho.datum_pos (by rw [hz]; simp), hz, Qmv hit]
 have hne : wrs g c (k + 1) ≠ [] := by rw [Qmv hit]; simp
 have miss : ∀ d : Int, d ≠ c → wrs g d (k + 1) = wrs g d k := fun d hd => Qk6 (by simp [Qc2, hk, hc]; omega)
 have kne : ∀ d : Int, d ≠ c → (Lit.int .i64 d) ≠ (Lit.int .i64 c) := fun d hd e => hd (by injection e)
 have kc : WideAt.IsKeyLit (Lit.int .i64 c) := by trivial
 refine ⟨h.map.put _ _, fun d h0 => ?_, fun d h0 z => ?_⟩
 ·by_cases e : d = c
  ·subst e; exact absurd h0 hne
  ·rw [has_put_other (kne d e)]
   exact h.none d (by rw [← miss d e]; exact h0)
 ·by_cases e : d = c
  ·subst e; rw [atKey_put_same h.map kc, hd]
  ·rw [atKey_put_other (kne d e), miss d e]
   exact h.some d (by rw [← miss d e]; exact h0) z
theorem GD.skip {g : Gr} {k : Nat} {D : DataW Unit} (h : GD g k D) (hk : (g.ev k).k ≠ 2) : GD g (k + 1) D := by
 have miss : ∀ d : Int, wrs g d (k + 1) = wrs g d k := fun d => Qk6 (by simp [Qc2, hk])
 exact ⟨h.map, fun d h0 => h.none d (by rw [← miss d]; exact h0), fun d h0 z => by rw [miss d]; exact h.some d (by rw [← miss d]; exact h0) z⟩
theorem Qc3 {a b : World} (h : Below a.heap.size a b) : a.grownBy b none := ⟨h.os, h.tape, h.output, h.size, fun k hk _ => h.block k hk⟩
theorem Ql3 {a b : World} (h : a.grownBy b none) : Below a.heap.size a b := ⟨h.os, h.tape, h.output, h.size, fun k hk => h.block k hk sW⟩
theorem Qgp {w w' : World} {P : Program} {k e : TypeId} {base b n : Nat} {D : DataW Unit} (h : w.ownsGroups P k base e .i64 b n D) (hb : Below w.heap.size w w') : w'.ownsGroups P k base e .i64 b n D :=
 h.kept (Qc3 hb) sW (fun _ _ _ x _ => Classical.em _)
theorem Qoj {w : World} {P : Program} {k e : TypeId} {base b n : Nat} {D : DataW Unit} (h : w.ownsGroups P k base e .i64 b n D) : w.ownsGroups P k base e .i64 b (n + 1) D := by
 obtain ⟨es, clock, h1, h2, h3, h4, h5, h6, h7⟩ := h
 exact ⟨es, clock, h1, h2, oW, h4, h5, fun x hx zs ho => Nat.le_succ_of_le (h6 x hx zs ho), h7⟩
theorem Qta {w : World} {P : Program} {k e : TypeId} {base b n : Nat} {D : DataW Unit} (h : w.ownsGroups P k base e .i64 b n D) : w.ownsMap P k (rowElem w base e .i64) b n D := by
 obtain ⟨es, clock, h1, h2, h3, h4, _⟩ := h
 exact ⟨es, clock, h1, h2, h3, h4⟩
theorem Qk7 (w : World) : (zeroValue 36).run Tryz.prog w = .ok (.slice none 0 0) w := by kernel_rfl
theorem Qjq : Keyed Tryz.prog 3 := int_keyed Tryz.underlying3
theorem Ql4 {P : Program} {ops : Array Oper} {o : Oper} {a : Act} {K : Act → World → Prop} {Q : Exit → Act → World → Prop} {E : Prop} (w : World) (hgd : o.guard = none) (s x : Operand) (t : TypeId)
  (ho : o.op = .call { callee := .builtin .append, args := #[s, x], argTypes := #[t, t] }) (v u v' : Value) (w' : World) (hs : a.eval s = v) (hx : a.eval x = u)
  (hr : (Builtin.append_ #[t, t] o.type #[v, u]).run P w = .ok v' w') (h : K (a.put o.dst v') w') :
  if Region.wanted o (yielded ops a.tmps) = true then Oper.wp P o a w K Q else E := by
 have hw : Region.wanted o (yielded ops a.tmps) = true := by simp [Region.wanted, hgd]
 rw [if_pos hw]
 unfold Oper.wp execOp
 simp only [ho, resolve, invoke, builtin, Sem.run_bind, Sem.run_pure, Result.andThen_ok, List.map_toArray, List.map_cons, List.map_nil, hs, hx, hr]
 exact h
theorem Qu7 {w w1 : World} {base b n : Nat} {D : DataW Unit} {c : Int} (hwf : (Lit.int .i64 c).wf = true) (h : w.ownsGroups Tryz.prog 3 base 3 .i64 b n D) (hb : Below w.heap.size w w1) {v : Value} (hv : (Instr.lookup 161 (.map (some b)) (.int .i64 c) false).run Tryz.prog w = .ok v w) :
  (Instr.lookup 161 (.map (some b)) (.int .i64 c) false).run Tryz.prog w1 = .ok v w1 := by
 obtain ⟨es, clock, hh, F, _⟩ := h
 have hlt := (Array.getElem?_eq_some_iff.1 hh).1
 have hh1 : w1.heap[b]? = some (.map es clock) := (hb.block b hlt).trans hh
 have hkey := keyOf_int_mk Tryz.underlying3 hwf
 rcases Maps.fit_look false Qjq Tryz.underlying161 (Qk7 w) hh F hkey with ⟨r1, n1, _⟩ | ⟨e0, y, m0, k0, r1, _⟩ <;> rcases Maps.fit_look false Qjq Tryz.underlying161 (Qk7 w1) hh1 F hkey with ⟨r2, n2, _⟩ | ⟨e1, y1, m1, k1, r2, _⟩
 ·rw [hv] at r1
  rw [r2]
  simp at r1 ⊢
  exact r1.symm
 ·exact absurd k1 (n1 e1 m1)
 ·exact absurd k0 (n2 e0 m0)
 ·obtain rfl := entry_eq_of_key ((MapKept.stamped_iff es clock).1 F.stamped).2.2 m0 m1 (k0.trans k1.symm)
  rw [hv] at r1
  rw [r2]
  simp at r1 ⊢
  exact r1.symm
theorem QBf (w : World) (base b n : Nat) (D : DataW Unit) (c : Int) (hwf : (Lit.int .i64 c).wf = true) (h : w.ownsGroups Tryz.prog 3 base 3 .i64 b n D) (hn : n ≤ 256) (hbase : base ≤ w.heap.size) (B : Nat) (hB : B ≤ b) :
  ∃ v zs, (Instr.lookup 161 (.map (some b)) (.int .i64 c) false).run Tryz.prog w = .ok v w ∧ D.atKey (.int .i64 c) .nil = rowDatum .i64 v zs ∧ w.ownsInts base 3 .i64 v zs ∧
   ∀ (w1 : World) (ad : Nat) (x : Int), (Lit.int .i64 x).wf = true → Below w.heap.size w w1 → w1.cell? ⟨ad, 0, none⟩ = some (.int .i64 x) → ∀ ty, ∃ v' w2 w3, (Builtin.append_ #[36, 36] ty #[v, .slice (some ⟨ad, 0, none⟩) 1 1]).run Tryz.prog w1 = .ok v' w2 ∧
    (Instr.mapUpdate 161 (.map (some b)) (.int .i64 c) v').run Tryz.prog w2 = .ok () w3 ∧ w3.ownsGroups Tryz.prog 3 base 3 .i64 b (n + 1) (D.put (.int .i64 c) (rowDatum .i64 v' (zs ++ [x]))) ∧ w2.ownsInts base 3 .i64 v' (zs ++ [x]) ∧ Below B w w3 ∧ ∀ (j : Nat) (t : TypeId) (cs : Array Value), t ≠ 3 → Blk w j t cs → Blk w2 j t cs ∧ Blk w3 j t cs := by
 obtain ⟨i0, hi, hz0, hz1, hz2⟩ := info_parts Tryz.infoint
 obtain ⟨v, zs, hl, hat, hoi, hzl, hback⟩ := h.at Qjq Tryz.underlying161 (Qk7 w) (by unfold maxLen; omega) (keyOf_int_mk Tryz.underlying3 hwf)
 refine ⟨v, zs, hl, hat, hoi, fun w1 ad x hx hb hc ty => ?_⟩
 have hoi1 := hoi.kept (Qc3 hb) (Classical.em _)
 have hbb : b < base := by obtain ⟨_, _, _, _, _, _, h6, _⟩ := h; exact h6
 obtain ⟨v', w2, hr, h2, h3, _, h5⟩ := run_append_own_at (P := Tryz.prog) w1 base 36 ty 3 i0 (.int .i64 0) 1 8 Tryz.underlying36 hi hz0 hz1 hz2 rfl dW v zs.length (zs.map (Value.int .i64)) hoi1.1 ⟨ad, 0, none⟩ 1 1 [.int .i64 x] rfl
  (fun j u hj => by
   match j, hj with
   | 0, hj => simp at hj; subst hj; simpa [Addr.add] using hc)
  (by simp [Value.oneCell']) (by unfold maxLen; omega) oW (Nat.le_trans hbase hb.size)
 have hoi' := hoi1.appended h2 hx
 have hg : w.grownBy w2 v.ownBlock := ((Qc3 hb).but _).trans h3
 obtain ⟨w3, hm, h6, h7⟩ := hback w2 v' (zs ++ [x]) hg hoi' (by simp; omega) (by
  rcases h5 with h5 | h5
  ·exact Or.inl h5
  ·exact Or.inr ⟨_, h5, hb.size⟩)
 refine ⟨v', w2, w3, hr, hm, h6, hoi', ?_⟩
 have hbw : b < w.heap.size := by obtain ⟨_, _, hh, _⟩ := h; exact (Array.getElem?_eq_some_iff.1 hh).1
 refine ⟨RowKit.Below.groups (Below.refl B w) hoi hg h7 oW oW hB, fun j t cs ht hj => ?_⟩
 have hj2 : Blk w2 j t cs := by
  refine (hg.block j hj.lt (fun e => ?_)).trans hj
  rcases hoi.1.2 with ⟨rfl, _⟩ | ⟨a, cap, cur, rfl, _, hh, _⟩
  ·cases e
  ·simp only [Value.ownBlock, Option.some.injEq] at e
   subst e
   unfold Blk at hj
   rw [hh] at hj
   simp at hj
   exact ht hj.2.symm
 refine ⟨hj2, (h7.block j hj2.lt (fun e => ?_)).trans hj2⟩
 obtain ⟨es, clock, hh, _⟩ := h
 cases e
 unfold Blk at hj
 rw [hh] at hj
 cases hj
end Go.Proofs.YtdkogbfamdnheaaGreatDoor
namespace Go.Proofs.YtdkogbfamdnheaaGreatDoor
open Go.RowKit Go.Shelf Go.Maps Sx
set_option maxRecDepth 100000
set_option maxHeartbeats 16000000
set_option linter.unusedSimpArgs false
set_option linter.unusedVariables false
theorem Qde {w : World} {v : Value} {ls : List (List Int)} (h : CoArg w v ls) : ∃ p cap, v = .slice p ls.length cap ∧ ls.length ≤ 9223372036854775807 ∧ ∀ (i : Nat) (l : List Int), ls[i]? = some l → ∃ s o u, p = some ⟨s, o, none⟩ ∧ s < w.heap.size ∧ w.cell? ⟨s, o + i, none⟩ = some u ∧ IntsR w u l ∧ l.length ≤ 9223372036854775807 := by
 obtain ⟨p, cap, e, hl, vs, h1, h2, h3⟩ := h
 refine ⟨p, cap, e, hl, fun i l hi => ?_⟩
 have hlt := (List.getElem?_eq_some_iff.1 hi).1
 obtain ⟨s, o, e2, h4, h5⟩ := h2 oW
 obtain ⟨u, hu⟩ : ∃ u, vs[i]? = some u := ⟨_, List.getElem?_eq_getElem oW⟩
 exact ⟨s, o, u, e2, h4, h5 i u hu, (h3 i u l hu hi).1, (h3 i u l hu hi).2.1⟩
theorem Qpn {x : Int} (h0 : 0 ≤ x) (h1 : x ≤ 4096) : (Lit.int .i64 x).wf = true := by
 simp only [Lit.wf, Bool.and_eq_true, decide_eq_true_eq]
 have a : (IntKind.i64).min ≤ 0 := by decide
 have b : (4096 : Int) ≤ (IntKind.i64).max := by decide
 omega
theorem QBg : ∀ key kl, keyOf Tryz.prog 3 key = some kl → ∃ x, key = Value.int .i64 x := fun key kl h => by
 obtain ⟨x, rfl, _⟩ := Maps.keyOf_int_inv Tryz.underlying3 h
 exact ⟨x, rfl⟩
def Qxc (p : Option Addr × Nat × Nat) : Value := .slice p.1 p.2.1 p.2.2
theorem QBh (w : World) (base : Nat) : ∀ (v : Value) (y : DataW Unit × List MemPlace), rowElem w base 3 .i64 v = some y → ∃ c, v = Qxc c := fun v y h => by
 obtain ⟨zs, ho, _⟩ := rowElem_inv h
 rcases ho.1.2 with ⟨rfl, _⟩ | ⟨a, cap, cur, rfl, _⟩
 ·exact ⟨(none, 0, 0), rfl⟩
 ·exact ⟨(some ⟨a, 0, none⟩, zs.length, cap), rfl⟩
theorem Qxd {g : Gr} {q : Bool} {D : DataW Unit} {w : World} {base : Nat} {x : Int} {kl : Lit} {v : Value} {y : DataW Unit × List MemPlace} (hD : GD g g.evs.length D) (h2 : Qcg g q = -1) (h3 : Qdc g q = -1)
  (hkey : keyOf Tryz.prog 3 (.int .i64 x) = some kl) (hv : rowElem w base 3 .i64 v = some y) (hat : ∀ zd, D.atKey kl zd = y.1) :
  kl = .int .i64 x ∧ ∃ c : Nat, x = ((c : Nat) : Int) ∧ ((c : Nat) : Int) < g.cells ∧ IntsR w v (wrs g ((c : Nat) : Int) g.evs.length) ∧ 0 < (wrs g ((c : Nat) : Int) g.evs.length).length := by
 obtain ⟨x', ex, rfl, hwf⟩ := Maps.keyOf_int_inv Tryz.underlying3 hkey
 cases ex
 have hhas := has_true_of_atKey hat
 have hne : wrs g x g.evs.length ≠ [] := fun e => by rw [hD.none x e] at hhas; cases hhas
 have hc := Qxa h2 h3 hne
 obtain ⟨zs, ho, rfl⟩ := rowElem_inv hv
 have hz := hD.at (hat .nil) ho
 obtain ⟨c, rfl⟩ : ∃ c : Nat, x = ((c : Nat) : Int) := ⟨x.toNat, oW⟩
 refine ⟨rfl, c, rfl, hc.2, ?_, List.length_pos_iff.2 hne⟩
 rw [← hz]
 exact Qgg ho.1
theorem Qtb {left : Lit → Bool} {c d : Nat} (h : (left (.int .i64 ((d : Nat) : Int)) && !(Lit.int .i64 ((d : Nat) : Int)).sameKey (.int .i64 ((c : Nat) : Int))) = false) : left (.int .i64 ((d : Nat) : Int)) = false ∨ d = c := by
 by_cases e : d = c
 ·exact Or.inr e
 ·rw [Maps.sameKey_ne (by intro h2; injection h2; omega)] at h
  simp at h
  exact Or.inl h
theorem Qse {g : Gr} {fi : Int} {n c : Nat} (h : fi = (n : Int) ∨ Qao g fi.toNat = true) (hc : Qao g c = true) : min fi ((c : Nat) : Int) = (n : Int) ∨ Qao g (min fi ((c : Nat) : Int)).toNat = true := by
 by_cases e : fi ≤ (c : Int)
 ·rw [Int.min_eq_left e]; exact h
 ·rw [Int.min_eq_right oW]; right; simpa using hc
theorem Qok (b : Nat) (V : GrV) (g : Gr) (q : Bool) (w : World) (h : BkR w b V g q) (h1 : Qar g = false) (h2 : Qcg g q = -1) (h3 : Qdc g q = -1) :
  Calls Tryz.prog 120 #[pv b] w fun r w' => r = .returned (.int .i64 (Qbq g)) ∧ Below w.heap.size w w' := by
 have hsz : 0 ≤ g.cells ∧ g.cells ≤ (g.evs.length : Int) ∧ g.evs.length ≤ 256 := by
  simp [Qar] at h1
  omega
 obtain ⟨n, hn⟩ : ∃ n : Nat, g.cells = (n : Int) := ⟨g.cells.toNat, oW⟩
 obtain ⟨p, cap, ep, hp, _⟩ := h.gr.ev
 obtain ⟨pc, cc, ec, hcl, _⟩ := Qde h.gr.co
 have hl256 := hsz.2.2
 have hnl : n ≤ g.evs.length := by omega
 have hb5 : Qbq g = (if Qak (Qao g) 0 n = -1 then (if (g.co.length : Int) ≤ (n : Int) then -1 else (n : Int)) else Qak (Qao g) 0 n) := by unfold Qbq; rw [hn, Int.toNat_natCast]
 generalize hr : Qbq g = r at *
 have HR := Qa hb5
 have HP := Qa hp
 have H := Qa h
 have H1 := Qa h1
 have H2 := Qa h2
 have H3 := Qa h3
 have HN := Qa hn
 have c1 := h.evs
 rw [ep] at c1
 clear hb5 hr hp h h1 h2 h3 hsz hn
 have hmm := @run_makeMap Tryz.prog
 have c1' : (w.alloc (.map #[] 0)).cell? ⟨b, 1, none⟩ = some (.slice p g.evs.length cap) := (((Below.refl w.heap.size w).alloc nW _).cell (p := ⟨b, 1, none⟩) H.out.blk.lt).trans c1
 go_enter Tryz.func120, Tryz.ntmps120
 go_wp2_with fail
 clear c1 c1' hmm
 go_loopg [16] g.evs.length (fun f i wr => ∃ (k : Nat) (D : DataW Unit), i = .int .i64 ((k : Nat) : Int) ∧ k ≤ g.evs.length ∧ Hid (k + f = g.evs.length) ∧ Hid (GD g k D) ∧ Hid (wr.ownsGroups Tryz.prog 3 (w.heap.size + 1) 3 .i64 w.heap.size k D) ∧ Hid (Below w.heap.size w wr) ∧ Hid (w.heap.size + 1 ≤ wr.heap.size))
 case atStart => exact ⟨0, .map [], rfl, Nat.zero_le _, Nat.zero_add _, GD.zero g, World.ownsGroups_made w _ _ _ _, bW.alloc nW _, by rw [Hid]; simp⟩
 case round =>
  obtain ⟨k, D, rfl, hk, HKF, HD, HO, HB, HW⟩ := hrel
  by_cases hlt : k < g.evs.length
  ·obtain ⟨s, o, rfl, hat⟩ := HP.out oW
   have hat' := hat.below HB.out
   have he := Gr.ev_at hlt
   have x0 := hat'.c0 k _ he
   have x1 := hat'.c1 k _ he
   have x2 := hat'.c2 k _ he
   have x3 := hat'.c3 k _ he
   have x4 := hat'.c4 k _ he
   have K0 : (0 : Int) ≤ (k : Int) := by omega
   have K1 : (k : Int) < (g.evs.length : Int) := by omega
   have HLOC : Hid ((g.ev k).k = 2 → 0 ≤ (g.ev k).l ∧ (g.ev k).l < g.cells) := fun h => Qsd H2.out H3.out hlt h
   have HPUT : Hid ((g.ev k).k = 2 → ∀ (W : World) (v : Value) (zs : List Int), zs = wrs g (g.ev k).l k ++ [((k : Nat) : Int)] → W.ownsInts (w.heap.size + 1) 3 .i64 v zs → GD g (k + 1) (D.put (.int .i64 (g.ev k).l) (rowDatum .i64 v zs))) := fun h W v zs hz ho => HD.out.put h rfl hz ho
   have HSKIP : Hid ((g.ev k).k ≠ 2 → GD g (k + 1) D) := fun h => HD.out.skip h
   clear he hat hat'
   generalize hge : g.ev k = ek at *
   clear hge
   obtain ⟨et, ek', el, ev, em⟩ := ek
   dsimp only at x0 x1 x2 x3 x4 HLOC HPUT HSKIP
   have hb := Blk.new wr 34 #[.int .i64 et, .int .i64 ek', .int .i64 el, .int .u64 ev, .int .i64 em]
   have HB2 : Hid (Below wr.heap.size wr (wr.alloc (.cells #[.int .i64 et, .int .i64 ek', .int .i64 el, .int .u64 ev, .int .i64 em] 34))) := bW.alloc nW _
   have HPB := Qa hb
   clear hb
   by_cases hk2 : ek' = 2
   ·subst hk2
    go_upto_region 6 with fail
    clear x0 x1 x2 x3 x4
    generalize hw2 : wr.alloc (.cells #[.int .i64 et, .int .i64 2, .int .i64 el, .int .u64 ev, .int .i64 em] 34) = w2 at *
    generalize hgp : wr.heap.size = gp at *
    clear hw2
    have y2 : w2.cell? ⟨gp, 2, none⟩ = some (.int .i64 el) := HPB.out.cell rfl
    have hloc := HLOC.out rfl
    rw [HN.out] at hloc
    have HOW : Hid (w2.drew.ownsGroups Tryz.prog 3 (w.heap.size + 1) 3 .i64 w.heap.size k D) := Qgp (Qgp HO.out (by rw [hgp]; exact HB2.out)) bW.drew
    have hwf : (Lit.int .i64 el).wf = true := Qpn hloc.1 oW
    have hkwf : (Lit.int .i64 (k : Int)).wf = true := Qpn oW oW
    have hw2s : gp < w2.heap.size := HPB.out.lt
    obtain ⟨v0, zs, hl, hat0, hoi, hstep⟩ := QBf w2.drew (w.heap.size + 1) w.heap.size k D el hwf HOW.out oW (by show w.heap.size + 1 ≤ w2.heap.size; have := HW.out; omega) w.heap.size nW
    have hba0 : Below w2.heap.size w2 (w2.alloc (.cells #[.int .i64 (k : Int)] 3)) := bW.alloc nW _
    have hba : Below w2.drew.heap.size w2.drew (w2.alloc (.cells #[.int .i64 (k : Int)] 3)).drew := ⟨hba0.os, hba0.tape, hba0.output, hba0.size, hba0.block⟩
    have hl2 := Qu7 hwf HOW.out hba hl
    obtain ⟨v', w4, w5, hap, hup, ho5, hi5, hb5, hblk⟩ := hstep (w2.alloc (.cells #[.int .i64 ((k : Nat) : Int)] 3)).drew w2.heap.size ((k : Nat) : Int) hkwf hba ((Blk.new w2 3 #[.int .i64 ((k : Nat) : Int)]).drew.cell rfl) 36
    have hz := HD.out.at hat0 hoi
    have hgd5 := HPUT.out rfl w4 v' (zs ++ [(k : Int)]) (by rw [hz]) hi5
    have y3 := (hblk gp _ _ dW HPB.out.drew).1.cell (j := 2) (v := .int .i64 el) rfl
    have y4 := (hblk gp _ _ dW HPB.out.drew).2.cell (j := 2) (v := .int .i64 el) rfl
    have y5 : (w2.alloc (.cells #[.int .i64 (k : Int)] 3)).cell? ⟨gp, 2, none⟩ = some (.int .i64 el) := (HPB.out.alloc _).cell rfl
    have HG5 := Qa hgd5
    have HO5 := Qa ho5
    have HB5 : Hid (Below w.heap.size w w5) := (Qaa HB.out HB.out.size (by rw [hgp]; exact HB2.out)).drew.trans hb5
    have HS5 : Hid (w.heap.size + 1 ≤ w5.heap.size) := by
     have := hb5.size
     have : w2.drew.heap.size = w2.heap.size := rfl
     have := HW.out
     rw [Hid]
     omega
    clear hgd5 ho5 hb5 hi5 hstep hat0 hoi hblk hz hba hba0 hgp
    clear hw2s hloc HLOC HPUT HSKIP
    go_region_held3 (fun w' => w'.cell? ⟨gp, 2, none⟩ = some (.int .i64 el)) (first | assumption) (first | (refine Ql4 _ rfl (.tmp 30) (.tmp 32) 36 rfl v0 (.slice (some ⟨w2.heap.size, 0, none⟩) 1 1) v' w4 (by simp [Act.eval, Act.put]) (by simp [Act.eval, Act.put]) hap ?_))
    all_goals go_wp2_with fail
    all_goals go_roundg (g.evs.length - (k + 1))
    case measure => have := HKF.out; omega
    case rel => exact ⟨k + 1, _, by go_num, oW, by have := HKF.out; rw [Hid]; omega, HG5.out, HO5.out, HB5.out, HS5.out⟩
    case measure => have := HKF.out; omega
    case rel => exact ⟨k + 1, _, by go_num, oW, by have := HKF.out; rw [Hid]; omega, HG5.out, HO5.out, HB5.out, HS5.out⟩
   ·clear HLOC HPUT
    go_wp2_with fail
    go_roundg (g.evs.length - (k + 1))
    case measure => have := HKF.out; omega
    case rel => exact ⟨k + 1, D, by go_num, oW, by have := HKF.out; rw [Hid]; omega, HSKIP.out hk2, Qoj (Qgp HO.out HB2.out), Qaa HB.out HB.out.size HB2.out, Nat.le_trans HW.out HB2.out.size⟩
  ·obtain rfl : k = g.evs.length := by omega
   clear hlt hk
   generalize hwf : wr = wf at *
   clear hwf
   have c0 := (H.out.below HB.out).cells
   rw [HN.out] at c0
   go_wp2_with (first | (at_range; refine wpList_range_own _ rfl _ 161 rfl 3 36 Qjq Tryz.underlying161 _ w.heap.size g.evs.length D rfl (Qta HO.out) ?_; intro w0 hrg0 hg0 hs0))
   go_frame
   have HRG0 := Qa hrg0
   have HB0 : Hid (Below wf.heap.size wf w0) := Ql3 hg0
   clear hrg0 hg0 hs0 c0
   go_loopg [6] (Maps.size D) (fun f v6 w2 => ∃ (fi : Int) (left : Lit → Bool), v6 = .int .i64 fi ∧ Hid (w2.ranges Tryz.prog 3 (rowElem (H := Unit) wf (w.heap.size + 1) 3 .i64) w.heap.size wf.heap.size g.evs.length D left f) ∧ 0 ≤ fi ∧ fi ≤ (n : Int) ∧ Hid (fi = (n : Int) ∨ Qao g fi.toNat = true) ∧ Hid (∀ c : Nat, c < n → left (.int .i64 ((c : Nat) : Int)) = false → Qao g c = true → fi ≤ ((c : Nat) : Int)) ∧ Hid (Below wf.heap.size wf w2))
   case atStart =>
    refine ⟨n, Maps.has D, rfl, HRG0.out, oW, Int.le_refl _, Or.inl rfl, fun c hc hl => ?_, HB0.out⟩
    have := Qmw H1.out H2.out (c := c) (by rw [HN.out]; omega)
    rw [has_true_of_atKey (HD.out.some _ this)] at hl
    cases hl
   case round =>
    obtain ⟨fi, left, rfl, HRG, hf0, hf1, HFB, HFL, HB2⟩ := hrel
    go_wp2_with (first | (at_next; refine wpList_next_ranges _ rfl _ rfl 3 Qjq (rowElem (H := Unit) wf (w.heap.size + 1) 3 .i64) (Value.int .i64) Qxc QBg (QBh wf _) w.heap.size wf.heap.size g.evs.length D left _ rfl HRG.out ?_ ?_))
    ·intro hc0 hl0
     have HMIN : Hid (∀ c : Nat, c < n → Qao g c = true → fi ≤ ((c : Nat) : Int)) := fun c hc hb => HFL.out c hc (hl0 _) hb
     clear hc0 hl0 HFL HRG
     have HBW : Hid (Below w.heap.size w wr) := HB.out.trans (HB2.out.mono HB.out.size)
     have c0 := (H.out.below HBW.out).cells
     rw [HN.out] at c0
     have c3 := (H.out.below HBW.out).cos
     rw [ec] at c3
     by_cases hfn : fi = (n : Int)
     ·subst hfn
      have er1 : Qak (Qao g) 0 n = -1 := Qai (fun j _ h2 => by
       cases e : Qao g j
       ·rfl
       ·have := HMIN.out j oW e; omega)
      have d1 : ((n : Int) == (n : Int)) = true := by simp
      by_cases hle : (g.co.length : Int) ≤ (n : Int)
      ·obtain rfl : r = -1 := by rw [HR.out, if_pos er1, if_pos hle]
       have d2 : decide ((g.co.length : Int) ≤ (n : Int)) = true := decide_eq_true hle
       go_wp2_with fail
       go_quiet (fail)
       all_goals (go_wp2_with fail; go_ret; exact ⟨rfl, Qab HBW.out _⟩)
      ·obtain rfl : r = (n : Int) := by rw [HR.out, if_pos er1, if_neg hle]
       have d2 : decide ((g.co.length : Int) ≤ (n : Int)) = false := decide_eq_false hle
       go_wp2_with fail
       go_quiet (fail)
       all_goals (go_wp2_with fail; go_ret; exact ⟨rfl, Qab HBW.out _⟩)
     ·obtain rfl : r = fi := by
       have hb := HFB.out.resolve_left hfn
       have : Qak (Qao g) 0 n = fi := by
        have := Qaz (P := Qao g) (a := 0) (f := n) (i := fi.toNat) (Nat.zero_le _) oW (fun j _ h2 => by
         cases e : Qao g j
         ·rfl
         ·have := HMIN.out j oW e; omega) hb
        rw [this]; omega
       rw [HR.out, this, if_neg oW]
      have d1 : ((r : Int) == (n : Int)) = false := by rw [beq_eq_false_iff_ne]; exact hfn
      go_wp2_with fail
      go_quiet (fail)
      all_goals (go_wp2_with fail; go_ret; exact ⟨rfl, Qab HBW.out _⟩)
    ·intro x pv1 pv2 pv3 kl y1 y2 w3 cnt3 hkey hlk hv hat hrg3 hlt3 hgr3 hsz3 hen
     obtain ⟨rfl, c, rfl, hc, hir, hpos⟩ := Qxd HD.out H2.out H3.out hkey hv hat
     rw [HN.out] at hc
     have HB3 : Hid (Below wf.heap.size wf w3) := HB2.out.grown hgr3 (HB2.out.size) (fun k hk => by cases hk; exact Nat.le_refl _)
     have HBW : Hid (Below w.heap.size w w3) := HB.out.trans (HB3.out.mono HB.out.size)
     simp only [Qxc] at hen hir
     have HIR := Qa (hir.below HB3.out)
     have HPOS := Qa hpos
     have HRG3 := Qa hrg3
     have HLT3 := Qa hlt3
     clear hkey hlk hv hat hrg3 hlt3 hgr3 hsz3 hir hpos HRG
     have c3 := (H.out.below HBW.out).cos
     rw [ec] at c3
     obtain ⟨pc', cc', ec', _, hco⟩ := Qde (H.out.below HBW.out).gr.co
     rw [ec] at ec'
     obtain ⟨rfl, _, rfl⟩ : pc = pc' ∧ g.co.length = g.co.length ∧ cc = cc' := by simpa using ec'
     have HNXT : Hid (∀ fi' : Int, fi' ≤ fi → (Qao g c = true → fi' ≤ ((c : Nat) : Int)) → ∀ d : Nat, d < n → (left (.int .i64 ((d : Nat) : Int)) && !(Lit.int .i64 ((d : Nat) : Int)).sameKey (.int .i64 ((c : Nat) : Int))) = false → Qao g d = true → fi' ≤ ((d : Nat) : Int)) := fun fi' h1 h2 d hd hl hb => by
      rcases Qtb hl with h4 | rfl
      ·exact Int.le_trans h1 (HFL.out d hd h4 hb)
      ·exact h2 hb
     by_cases hlc : c < g.co.length
     ·obtain ⟨l, hl⟩ : ∃ l, g.co[c]? = some l := ⟨_, List.getElem?_eq_getElem hlc⟩
      obtain ⟨s, o, u, rfl, hs, hcu, hiu, hul⟩ := hco c l hl
      have d1 : ¬ ((g.co.length : Int) ≤ (c : Int)) := by omega
      have K0 : (0 : Int) ≤ (c : Int) := by omega
      have K1 : (c : Int) < (g.co.length : Int) := by omega
      have hgd : g.co.getD c [] = l := by rw [List.getD_eq_getElem?_getD, hl]; rfl
      have hb5 : Qao g c = !Qau l (c : Int) (wrs g (c : Int) g.evs.length) := by
       rw [Qao, hgd, decide_eq_false oW]; rfl
      have HB5 := Qa hb5
      have HC := Qa (Qmu u (.slice pv1 pv2 pv3) l (wrs g (c : Int) g.evs.length) (c : Int) w3 hiu HIR.out HPOS.out (Nat.le_trans (Qsc _ _ _) oW) hul)
      clear hl hgd hb5 hiu hco ec'
      cases hok : Qau l ((c : Nat) : Int) (wrs g ((c : Nat) : Int) g.evs.length)
      ·rw [hok] at HC HB5
       clear hok
       go_wp2_with (first | (go_at_call 149; refine HC.out.mono ?_; rintro e w5 ⟨rfl, hB5⟩))
       go_roundg cnt3
       case measure => exact HLT3.out
       case rel => exact ⟨_, _, rfl, HRG3.out.kept (Qc3 hB5) sW sW, oW, oW, Qse HFB.out HB5.out, HNXT.out _ oW (fun _ => by omega), HB3.out.trans (hB5.mono HB3.out.size)⟩
      ·rw [hok] at HC HB5
       clear hok
       go_wp2_with (first | (go_at_call 149; refine HC.out.mono ?_; rintro e w5 ⟨rfl, hB5⟩))
       go_roundg cnt3
       case measure => exact HLT3.out
       case rel => exact ⟨fi, _, rfl, HRG3.out.kept (Qc3 hB5) sW sW, hf0, hf1, HFB.out, HNXT.out fi (Int.le_refl _) (fun h => by rw [HB5.out] at h; cases h), HB3.out.trans (hB5.mono HB3.out.size)⟩
     ·have HB5 : Hid (Qao g c = true) := by rw [Hid, Qao, decide_eq_true (show g.co.length ≤ c by omega)]; rfl
      have d1 : ((g.co.length : Int) ≤ (c : Int)) := by omega
      go_wp2_with fail
      go_roundg cnt3
      case measure => exact HLT3.out
      case rel => exact ⟨_, _, rfl, HRG3.out, oW, oW, Qse HFB.out HB5.out, HNXT.out _ oW (fun _ => by omega), HB3.out⟩
end Go.Proofs.YtdkogbfamdnheaaGreatDoor
namespace Go.Proofs.YtdkogbfamdnheaaGreatDoor
open Go.RowKit Go.Shelf Sx
set_option maxRecDepth 100000
set_option maxHeartbeats 16000000
set_option linter.unusedSimpArgs false
set_option linter.unusedVariables false
def rl (g : Gr) (q : Bool) : Nat → Int
 | 0 => if Qar g then 0 else -1
 | 1 => Qcg g q
 | 2 => Qdc g q
 | 3 => Qbt g
 | 4 => Qbq g
 | 5 => Qdb g
 | 6 => Qcf g.evs q g.addr [1, 2]
 | 7 => Qcf g.evs q g.dat [2]
 | _ => Qcf g.evs q g.ctrl [1, 2, 3]
def Qij (g : Gr) (q : Bool) : Nat → Nat → Int × Int
 | _, 0 => (0, 0)
 | i, f + 1 => if rl g q i = -1 then Qij g q (i + 1) f else (((i : Nat) : Int) + 1, rl g q i)
def chk (g : Gr) (q : Bool) : Int × Int := Qij g q 0 9
theorem Qg2 {g : Gr} {q : Bool} : ∀ {i f k : Nat}, (∀ j, i ≤ j → j < i + k → rl g q j = -1) → Qij g q i (f + k) = Qij g q (i + k) f
 | i, f, 0, _ => rfl
 | i, f, k + 1, h => by
  show Qij g q i ((f + k) + 1) = _
  rw [Qij, if_pos (h i nW oW), Qg2 (i := i + 1) (f := f) (k := k) (fun j h1 h2 => h j oW oW)]
  rw [show i + 1 + k = i + (k + 1) by omega]
theorem Qj9 {g : Gr} {q : Bool} {k : Nat} (hk : k < 9) (h : ∀ j, j < k → rl g q j = -1) (hn : rl g q k ≠ -1) : chk g q = (((k : Nat) : Int) + 1, rl g q k) := by
 unfold chk
 have := Qg2 (g := g) (q := q) (i := 0) (f := 9 - k) (k := k) (fun j _ h2 => h j oW)
 rw [show 9 - k + k = 9 by omega, Nat.zero_add] at this
 rw [this]
 obtain ⟨m, hm⟩ : ∃ m, 9 - k = m + 1 := ⟨8 - k, oW⟩
 rw [hm, Qij, if_neg hn]
theorem Qk8 {g : Gr} {q : Bool} (h : ∀ j, j < 9 → rl g q j = -1) : chk g q = (0, 0) := by
 unfold chk
 have := Qg2 (g := g) (q := q) (i := 0) (f := 0) (k := 9) (fun j _ h2 => h j oW)
 rw [Nat.zero_add] at this
 rw [this]
 rfl
theorem rl0 {g : Gr} {q : Bool} (h : rl g q 0 = -1) : Qar g = false := by
 unfold rl at h
 cases e : Qar g
 ·rfl
 ·rw [e] at h; simp at h
theorem Qpo {g : Gr} (h : Qar g = false) : g.evs.length ≤ 256 := by
 simp [Qar] at h
 omega
theorem Qcu {w : World} {m j : Nat} {t : TypeId} {cs : Array Value} (h : Blk w m t cs) (hj : j < cs.size) (v : Value) (hv : v.oneCell' = true) :
  ∃ w', (store ⟨m, j, none⟩ v).run Tryz.prog w = .ok () w' ∧ Blk w' m t (cs.setIfInBounds j v) ∧ ∀ B, B ≤ m → Below B w w' := by
 refine ⟨w.setCell ⟨m, j, none⟩ v, ?_, h.set j v, fun B hB => ?_⟩
 ·rw [run_store _ _ _ _ _ hv, h.cell (Array.getElem?_eq_getElem hj)]
  simp [h.frozen j]
 ·exact (Below.refl B w).setCell (by simpa using hB) _
theorem Qu8 (W : World) : (Instr.index 140 (.agg #[.func (.func 116) #[] #[], .func (.func 117) #[] #[], .func (.func 118) #[] #[], .func (.func 119) #[] #[], .func (.func 120) #[] #[], .func (.func 121) #[] #[], .func (.func 122) #[] #[], .func (.func 123) #[] #[], .func (.func 124) #[] #[]]) (.int .i64 0)).run Tryz.prog W = .ok (.func (.func 116) #[] #[]) W := by kernel_rfl
theorem Qu9 (W : World) : (Instr.index 140 (.agg #[.func (.func 116) #[] #[], .func (.func 117) #[] #[], .func (.func 118) #[] #[], .func (.func 119) #[] #[], .func (.func 120) #[] #[], .func (.func 121) #[] #[], .func (.func 122) #[] #[], .func (.func 123) #[] #[], .func (.func 124) #[] #[]]) (.int .i64 1)).run Tryz.prog W = .ok (.func (.func 117) #[] #[]) W := by kernel_rfl
theorem Qv (W : World) : (Instr.index 140 (.agg #[.func (.func 116) #[] #[], .func (.func 117) #[] #[], .func (.func 118) #[] #[], .func (.func 119) #[] #[], .func (.func 120) #[] #[], .func (.func 121) #[] #[], .func (.func 122) #[] #[], .func (.func 123) #[] #[], .func (.func 124) #[] #[]]) (.int .i64 2)).run Tryz.prog W = .ok (.func (.func 118) #[] #[]) W := by kernel_rfl
theorem Qva (W : World) : (Instr.index 140 (.agg #[.func (.func 116) #[] #[], .func (.func 117) #[] #[], .func (.func 118) #[] #[], .func (.func 119) #[] #[], .func (.func 120) #[] #[], .func (.func 121) #[] #[], .func (.func 122) #[] #[], .func (.func 123) #[] #[], .func (.func 124) #[] #[]]) (.int .i64 3)).run Tryz.prog W = .ok (.func (.func 119) #[] #[]) W := by kernel_rfl
theorem Qvb (W : World) : (Instr.index 140 (.agg #[.func (.func 116) #[] #[], .func (.func 117) #[] #[], .func (.func 118) #[] #[], .func (.func 119) #[] #[], .func (.func 120) #[] #[], .func (.func 121) #[] #[], .func (.func 122) #[] #[], .func (.func 123) #[] #[], .func (.func 124) #[] #[]]) (.int .i64 4)).run Tryz.prog W = .ok (.func (.func 120) #[] #[]) W := by kernel_rfl
theorem Qvc (W : World) : (Instr.index 140 (.agg #[.func (.func 116) #[] #[], .func (.func 117) #[] #[], .func (.func 118) #[] #[], .func (.func 119) #[] #[], .func (.func 120) #[] #[], .func (.func 121) #[] #[], .func (.func 122) #[] #[], .func (.func 123) #[] #[], .func (.func 124) #[] #[]]) (.int .i64 5)).run Tryz.prog W = .ok (.func (.func 121) #[] #[]) W := by kernel_rfl
theorem Qvd (W : World) : (Instr.index 140 (.agg #[.func (.func 116) #[] #[], .func (.func 117) #[] #[], .func (.func 118) #[] #[], .func (.func 119) #[] #[], .func (.func 120) #[] #[], .func (.func 121) #[] #[], .func (.func 122) #[] #[], .func (.func 123) #[] #[], .func (.func 124) #[] #[]]) (.int .i64 6)).run Tryz.prog W = .ok (.func (.func 122) #[] #[]) W := by kernel_rfl
theorem Qve (W : World) : (Instr.index 140 (.agg #[.func (.func 116) #[] #[], .func (.func 117) #[] #[], .func (.func 118) #[] #[], .func (.func 119) #[] #[], .func (.func 120) #[] #[], .func (.func 121) #[] #[], .func (.func 122) #[] #[], .func (.func 123) #[] #[], .func (.func 124) #[] #[]]) (.int .i64 7)).run Tryz.prog W = .ok (.func (.func 123) #[] #[]) W := by kernel_rfl
theorem Qvf (W : World) : (Instr.index 140 (.agg #[.func (.func 116) #[] #[], .func (.func 117) #[] #[], .func (.func 118) #[] #[], .func (.func 119) #[] #[], .func (.func 120) #[] #[], .func (.func 121) #[] #[], .func (.func 122) #[] #[], .func (.func 123) #[] #[], .func (.func 124) #[] #[]]) (.int .i64 8)).run Tryz.prog W = .ok (.func (.func 124) #[] #[]) W := by kernel_rfl
theorem Qjr (V : GrV) (g : Gr) (q : Bool) (w : World) (h : GrR w V g) (hF : Frm w) :
  Calls Tryz.prog 73 #[V.val g, .bool q] w fun r w' => r = .returned (.tuple #[.int .i64 (chk g q).1, .int .i64 (chk g q).2]) ∧ Below w.heap.size w w' := by
 generalize hr : chk g q = r
 obtain ⟨r1, r2⟩ := r
 have HR := Qa hr
 have H := Qa h
 have HF := Qa hF
 clear hr h hF
 unfold GrV.val
 obtain ⟨Wb, hWb⟩ : ∃ Wb, (w.alloc (.cells #[.int .i64 g.cells, V.ev, V.rf, V.co, V.rmw, V.addr, V.dat, V.ctrl] 27)).alloc (.cells #[.int .i64 g.cells, V.ev, V.rf, V.co, V.rmw, V.addr, V.dat, V.ctrl, .bool q] 138) = Wb := ⟨_, rfl⟩
 have hBb : Below w.heap.size w Wb := by rw [← hWb]; exact (bW.alloc nW _).alloc sW _
 have hsb : Wb.heap.size = w.heap.size + 1 + 1 := by rw [← hWb]; simp
 have hbk : Blk Wb (w.heap.size + 1) 138 (V.cs g q) := by
  rw [← hWb]
  have := Blk.new (w.alloc (.cells #[.int .i64 g.cells, V.ev, V.rf, V.co, V.rmw, V.addr, V.dat, V.ctrl] 27)) 138 #[.int .i64 g.cells, V.ev, V.rf, V.co, V.rmw, V.addr, V.dat, V.ctrl, .bool q]
  simpa [GrV.cs] using this
 have b0 := Blk.new Wb 140 #[.nilFunc, .nilFunc, .nilFunc, .nilFunc, .nilFunc, .nilFunc, .nilFunc, .nilFunc, .nilFunc]
 have hB0 : Below Wb.heap.size Wb (Wb.alloc (.cells #[.nilFunc, .nilFunc, .nilFunc, .nilFunc, .nilFunc, .nilFunc, .nilFunc, .nilFunc, .nilFunc] 140)) := bW.alloc nW _
 have e0 : Hid (Wb.alloc (.cells #[.nilFunc, .nilFunc, .nilFunc, .nilFunc, .nilFunc, .nilFunc, .nilFunc, .nilFunc, .nilFunc] 140) = ((w.alloc (.cells #[.int .i64 g.cells, V.ev, V.rf, V.co, V.rmw, V.addr, V.dat, V.ctrl] 27)).alloc (.cells #[.int .i64 g.cells, V.ev, V.rf, V.co, V.rmw, V.addr, V.dat, V.ctrl, .bool q] 138)).alloc (.cells #[.nilFunc, .nilFunc, .nilFunc, .nilFunc, .nilFunc, .nilFunc, .nilFunc, .nilFunc, .nilFunc] 140)) := by rw [Hid, hWb]
 obtain ⟨W1, s1, b1, l1⟩ := Qcu (j := 0) b0 sW (.func (.func 116) #[] #[]) rfl
 have hB1 := hB0.trans (l1 _ nW)
 rw [hsb] at s1
 obtain ⟨W2, s2, b2, l2⟩ := Qcu (j := 1) b1 sW (.func (.func 117) #[] #[]) rfl
 have hB2 := hB1.trans (l2 _ nW)
 rw [hsb] at s2
 obtain ⟨W3, s3, b3, l3⟩ := Qcu (j := 2) b2 sW (.func (.func 118) #[] #[]) rfl
 have hB3 := hB2.trans (l3 _ nW)
 rw [hsb] at s3
 obtain ⟨W4, s4, b4, l4⟩ := Qcu (j := 3) b3 sW (.func (.func 119) #[] #[]) rfl
 have hB4 := hB3.trans (l4 _ nW)
 rw [hsb] at s4
 obtain ⟨W5, s5, b5, l5⟩ := Qcu (j := 4) b4 sW (.func (.func 120) #[] #[]) rfl
 have hB5 := hB4.trans (l5 _ nW)
 rw [hsb] at s5
 obtain ⟨W6, s6, b6, l6⟩ := Qcu (j := 5) b5 sW (.func (.func 121) #[] #[]) rfl
 have hB6 := hB5.trans (l6 _ nW)
 rw [hsb] at s6
 obtain ⟨W7, s7, b7, l7⟩ := Qcu (j := 6) b6 sW (.func (.func 122) #[] #[]) rfl
 have hB7 := hB6.trans (l7 _ nW)
 rw [hsb] at s7
 obtain ⟨W8, s8, b8, l8⟩ := Qcu (j := 7) b7 sW (.func (.func 123) #[] #[]) rfl
 have hB8 := hB7.trans (l8 _ nW)
 rw [hsb] at s8
 obtain ⟨W9, s9, b9, l9⟩ := Qcu (j := 8) b8 sW (.func (.func 124) #[] #[]) rfl
 have hB9 := hB8.trans (l9 _ nW)
 rw [hsb] at s9
 rw [e0.out] at s1
 simp only [List.setIfInBounds_toArray, List.set_cons_zero, List.set_cons_succ] at b9
 have c0 : W9.cell? ⟨w.heap.size + 1 + 1, 0, none⟩ = some (.func (.func 116) #[] #[]) := by have := b9.cell (j := 0) rfl; rwa [hsb] at this
 have c1 : W9.cell? ⟨w.heap.size + 1 + 1, 1, none⟩ = some (.func (.func 117) #[] #[]) := by have := b9.cell (j := 1) rfl; rwa [hsb] at this
 have c2 : W9.cell? ⟨w.heap.size + 1 + 1, 2, none⟩ = some (.func (.func 118) #[] #[]) := by have := b9.cell (j := 2) rfl; rwa [hsb] at this
 have c3 : W9.cell? ⟨w.heap.size + 1 + 1, 3, none⟩ = some (.func (.func 119) #[] #[]) := by have := b9.cell (j := 3) rfl; rwa [hsb] at this
 have c4 : W9.cell? ⟨w.heap.size + 1 + 1, 4, none⟩ = some (.func (.func 120) #[] #[]) := by have := b9.cell (j := 4) rfl; rwa [hsb] at this
 have c5 : W9.cell? ⟨w.heap.size + 1 + 1, 5, none⟩ = some (.func (.func 121) #[] #[]) := by have := b9.cell (j := 5) rfl; rwa [hsb] at this
 have c6 : W9.cell? ⟨w.heap.size + 1 + 1, 6, none⟩ = some (.func (.func 122) #[] #[]) := by have := b9.cell (j := 6) rfl; rwa [hsb] at this
 have c7 : W9.cell? ⟨w.heap.size + 1 + 1, 7, none⟩ = some (.func (.func 123) #[] #[]) := by have := b9.cell (j := 7) rfl; rwa [hsb] at this
 have c8 : W9.cell? ⟨w.heap.size + 1 + 1, 8, none⟩ = some (.func (.func 124) #[] #[]) := by have := b9.cell (j := 8) rfl; rwa [hsb] at this
 have HB9 : Hid (Below w.heap.size w W9) := hBb.trans (hB9.mono hBb.size)
 have HK9 : Hid (BkR W9 (w.heap.size + 1) V g q) := ⟨hbk.below hB9 (by rw [hsb]; omega), H.out.below HB9.out⟩
 have HF9 : Hid (Frm W9) := HF.out.step HB9.out
 clear b0 hB0 b1 l1 hB1 b2 l2 hB2 b3 l3 hB3 b4 l4 hB4 b5 l5 hB5 b6 l6 hB6 b7 l7 hB7 b8 l8 hB8 b9 l9 hB9 hBb hbk hWb hsb e0
 go_enter Tryz.func73, Tryz.ntmps73
 go_wp2_with fail
 clear s1 s2 s3 s4 s5 s6 s7 s8 s9 c0 c1 c2 c3 c4 c5 c6 c7 c8
 generalize hbkk : w.heap.size + 1 = bk at *
 clear hbkk
 go_loopg [16] 9 (fun f i wr => ∃ k : Nat, i = .int .i64 ((k : Nat) : Int) ∧ k ≤ 9 ∧ Hid (k + f = 9) ∧ Hid (∀ j, j < k → rl g q j = -1) ∧ Hid (Below W9.heap.size W9 wr))
 case atStart => exact ⟨0, rfl, oW, Nat.zero_add _, (fun j h1 => by omega), Below.refl _ _⟩
 case round =>
  obtain ⟨k, rfl, hk, HKF, HALL, HB⟩ := hrel
  have HBK := Qa (HK9.out.below HB.out)
  have HFW := Qa (HF9.out.step HB.out)
  have HBW : Hid (Below w.heap.size w wr) := Qaa HB9.out HB9.out.size HB.out
  by_cases hlt : k < 9
  ·have HNX : Hid (rl g q k = -1 → ∀ j, j < k + 1 → rl g q j = -1) := fun h j hj => by
    by_cases e : j = k
    ·rw [e]; exact h
    ·exact HALL.out j oW
   have HHIT : Hid (rl g q k ≠ -1 → r1 = ((k : Nat) : Int) + 1 ∧ r2 = rl g q k) := fun h => by
    have := HR.out.symm.trans (Qj9 hlt HALL.out h)
    exact ⟨congrArg Prod.fst this, congrArg Prod.snd this⟩
   by_cases k0 : k = 0
   ·subst k0
    have HC := Qa (show Calls Tryz.prog 116 #[pv bk] wr (fun r w' => r = .returned (.int .i64 (rl g q 0)) ∧ Below wr.heap.size wr w') from (Qqz bk V g q wr HBK.out).mono (by rintro e w1 ⟨rfl, rfl⟩; exact ⟨rfl, Below.refl _ _⟩))
    generalize rl g q 0 = x at HC HNX HHIT
    clear HALL
    have hix := Qu8 wr
    by_cases hx : x = -1
    ·subst hx
     have HNX2 := Qa (HNX.out rfl)
     go_wp2_with (first | (go_at_call 116; refine HC.out.mono ?_; rintro e w1 ⟨rfl, hB1⟩))
     go_roundg (9 - (0 + 1))
     case measure => have := HKF.out; omega
     case rel => exact ⟨0 + 1, by go_num, oW, by rw [Hid], HNX2.out, Qaa HB.out HB.out.size hB1⟩
    ·obtain ⟨rfl, rfl⟩ := HHIT.out hx
     have hxq : ((r2 : Int) == -1) = false := by rw [beq_eq_false_iff_ne]; exact hx
     go_wp2_with (first | (go_at_call 116; refine HC.out.mono ?_; rintro e w1 ⟨rfl, hB1⟩))
     go_ret2
     exact ⟨by simp, Qaa HBW.out HBW.out.size hB1⟩
   by_cases k1 : k = 1
   ·subst k1
    have HC := Qa (show Calls Tryz.prog 117 #[pv bk] wr (fun r w' => r = .returned (.int .i64 (rl g q 1)) ∧ Below wr.heap.size wr w') from Qmq bk V g q wr HBK.out (rl0 (HALL.out 0 oW)))
    generalize rl g q 1 = x at HC HNX HHIT
    clear HALL
    have hix := Qu9 wr
    by_cases hx : x = -1
    ·subst hx
     have HNX2 := Qa (HNX.out rfl)
     go_wp2_with (first | (go_at_call 117; refine HC.out.mono ?_; rintro e w1 ⟨rfl, hB1⟩))
     go_roundg (9 - (1 + 1))
     case measure => have := HKF.out; omega
     case rel => exact ⟨1 + 1, by go_num, oW, by rw [Hid], HNX2.out, Qaa HB.out HB.out.size hB1⟩
    ·obtain ⟨rfl, rfl⟩ := HHIT.out hx
     have hxq : ((r2 : Int) == -1) = false := by rw [beq_eq_false_iff_ne]; exact hx
     go_wp2_with (first | (go_at_call 117; refine HC.out.mono ?_; rintro e w1 ⟨rfl, hB1⟩))
     go_ret2
     exact ⟨by simp, Qaa HBW.out HBW.out.size hB1⟩
   by_cases k2 : k = 2
   ·subst k2
    have HC := Qa (show Calls Tryz.prog 118 #[pv bk] wr (fun r w' => r = .returned (.int .i64 (rl g q 2)) ∧ Below wr.heap.size wr w') from Qo3 bk V g q wr HBK.out HFW.out (rl0 (HALL.out 0 oW)))
    generalize rl g q 2 = x at HC HNX HHIT
    clear HALL
    have hix := Qv wr
    by_cases hx : x = -1
    ·subst hx
     have HNX2 := Qa (HNX.out rfl)
     go_wp2_with (first | (go_at_call 118; refine HC.out.mono ?_; rintro e w1 ⟨rfl, hB1⟩))
     go_roundg (9 - (2 + 1))
     case measure => have := HKF.out; omega
     case rel => exact ⟨2 + 1, by go_num, oW, by rw [Hid], HNX2.out, Qaa HB.out HB.out.size hB1⟩
    ·obtain ⟨rfl, rfl⟩ := HHIT.out hx
     have hxq : ((r2 : Int) == -1) = false := by rw [beq_eq_false_iff_ne]; exact hx
     go_wp2_with (first | (go_at_call 118; refine HC.out.mono ?_; rintro e w1 ⟨rfl, hB1⟩))
     go_ret2
     exact ⟨by simp, Qaa HBW.out HBW.out.size hB1⟩
   by_cases k3 : k = 3
   ·subst k3
    have HC := Qa (show Calls Tryz.prog 119 #[pv bk] wr (fun r w' => r = .returned (.int .i64 (rl g q 3)) ∧ Below wr.heap.size wr w') from Qnk bk V g q wr HBK.out)
    generalize rl g q 3 = x at HC HNX HHIT
    clear HALL
    have hix := Qva wr
    by_cases hx : x = -1
    ·subst hx
     have HNX2 := Qa (HNX.out rfl)
     go_wp2_with (first | (go_at_call 119; refine HC.out.mono ?_; rintro e w1 ⟨rfl, hB1⟩))
     go_roundg (9 - (3 + 1))
     case measure => have := HKF.out; omega
     case rel => exact ⟨3 + 1, by go_num, oW, by rw [Hid], HNX2.out, Qaa HB.out HB.out.size hB1⟩
    ·obtain ⟨rfl, rfl⟩ := HHIT.out hx
     have hxq : ((r2 : Int) == -1) = false := by rw [beq_eq_false_iff_ne]; exact hx
     go_wp2_with (first | (go_at_call 119; refine HC.out.mono ?_; rintro e w1 ⟨rfl, hB1⟩))
     go_ret2
     exact ⟨by simp, Qaa HBW.out HBW.out.size hB1⟩
   by_cases k4 : k = 4
   ·subst k4
    have HC := Qa (show Calls Tryz.prog 120 #[pv bk] wr (fun r w' => r = .returned (.int .i64 (rl g q 4)) ∧ Below wr.heap.size wr w') from Qok bk V g q wr HBK.out (rl0 (HALL.out 0 oW)) (HALL.out 1 oW) (HALL.out 2 oW))
    generalize rl g q 4 = x at HC HNX HHIT
    clear HALL
    have hix := Qvb wr
    by_cases hx : x = -1
    ·subst hx
     have HNX2 := Qa (HNX.out rfl)
     go_wp2_with (first | (go_at_call 120; refine HC.out.mono ?_; rintro e w1 ⟨rfl, hB1⟩))
     go_roundg (9 - (4 + 1))
     case measure => have := HKF.out; omega
     case rel => exact ⟨4 + 1, by go_num, oW, by rw [Hid], HNX2.out, Qaa HB.out HB.out.size hB1⟩
    ·obtain ⟨rfl, rfl⟩ := HHIT.out hx
     have hxq : ((r2 : Int) == -1) = false := by rw [beq_eq_false_iff_ne]; exact hx
     go_wp2_with (first | (go_at_call 120; refine HC.out.mono ?_; rintro e w1 ⟨rfl, hB1⟩))
     go_ret2
     exact ⟨by simp, Qaa HBW.out HBW.out.size hB1⟩
   by_cases k5 : k = 5
   ·subst k5
    have HC := Qa (show Calls Tryz.prog 121 #[pv bk] wr (fun r w' => r = .returned (.int .i64 (rl g q 5)) ∧ Below wr.heap.size wr w') from Qnl bk V g q wr HBK.out (Qpo (rl0 (HALL.out 0 oW))))
    generalize rl g q 5 = x at HC HNX HHIT
    clear HALL
    have hix := Qvc wr
    by_cases hx : x = -1
    ·subst hx
     have HNX2 := Qa (HNX.out rfl)
     go_wp2_with (first | (go_at_call 121; refine HC.out.mono ?_; rintro e w1 ⟨rfl, hB1⟩))
     go_roundg (9 - (5 + 1))
     case measure => have := HKF.out; omega
     case rel => exact ⟨5 + 1, by go_num, oW, by rw [Hid], HNX2.out, Qaa HB.out HB.out.size hB1⟩
    ·obtain ⟨rfl, rfl⟩ := HHIT.out hx
     have hxq : ((r2 : Int) == -1) = false := by rw [beq_eq_false_iff_ne]; exact hx
     go_wp2_with (first | (go_at_call 121; refine HC.out.mono ?_; rintro e w1 ⟨rfl, hB1⟩))
     go_ret2
     exact ⟨by simp, Qaa HBW.out HBW.out.size hB1⟩
   by_cases k6 : k = 6
   ·subst k6
    have HC := Qa (show Calls Tryz.prog 122 #[pv bk] wr (fun r w' => r = .returned (.int .i64 (rl g q 6)) ∧ Below wr.heap.size wr w') from Qlu bk V g q wr HBK.out)
    generalize rl g q 6 = x at HC HNX HHIT
    clear HALL
    have hix := Qvd wr
    by_cases hx : x = -1
    ·subst hx
     have HNX2 := Qa (HNX.out rfl)
     go_wp2_with (first | (go_at_call 122; refine HC.out.mono ?_; rintro e w1 ⟨rfl, hB1⟩))
     go_roundg (9 - (6 + 1))
     case measure => have := HKF.out; omega
     case rel => exact ⟨6 + 1, by go_num, oW, by rw [Hid], HNX2.out, Qaa HB.out HB.out.size hB1⟩
    ·obtain ⟨rfl, rfl⟩ := HHIT.out hx
     have hxq : ((r2 : Int) == -1) = false := by rw [beq_eq_false_iff_ne]; exact hx
     go_wp2_with (first | (go_at_call 122; refine HC.out.mono ?_; rintro e w1 ⟨rfl, hB1⟩))
     go_ret2
     exact ⟨by simp, Qaa HBW.out HBW.out.size hB1⟩
   by_cases k7 : k = 7
   ·subst k7
    have HC := Qa (show Calls Tryz.prog 123 #[pv bk] wr (fun r w' => r = .returned (.int .i64 (rl g q 7)) ∧ Below wr.heap.size wr w') from Qoy bk V g q wr HBK.out)
    generalize rl g q 7 = x at HC HNX HHIT
    clear HALL
    have hix := Qve wr
    by_cases hx : x = -1
    ·subst hx
     have HNX2 := Qa (HNX.out rfl)
     go_wp2_with (first | (go_at_call 123; refine HC.out.mono ?_; rintro e w1 ⟨rfl, hB1⟩))
     go_roundg (9 - (7 + 1))
     case measure => have := HKF.out; omega
     case rel => exact ⟨7 + 1, by go_num, oW, by rw [Hid], HNX2.out, Qaa HB.out HB.out.size hB1⟩
    ·obtain ⟨rfl, rfl⟩ := HHIT.out hx
     have hxq : ((r2 : Int) == -1) = false := by rw [beq_eq_false_iff_ne]; exact hx
     go_wp2_with (first | (go_at_call 123; refine HC.out.mono ?_; rintro e w1 ⟨rfl, hB1⟩))
     go_ret2
     exact ⟨by simp, Qaa HBW.out HBW.out.size hB1⟩
   by_cases k8 : k = 8
   ·subst k8
    have HC := Qa (show Calls Tryz.prog 124 #[pv bk] wr (fun r w' => r = .returned (.int .i64 (rl g q 8)) ∧ Below wr.heap.size wr w') from Qmn bk V g q wr HBK.out)
    generalize rl g q 8 = x at HC HNX HHIT
    clear HALL
    have hix := Qvf wr
    by_cases hx : x = -1
    ·subst hx
     have HNX2 := Qa (HNX.out rfl)
     go_wp2_with (first | (go_at_call 124; refine HC.out.mono ?_; rintro e w1 ⟨rfl, hB1⟩))
     go_roundg (9 - (8 + 1))
     case measure => have := HKF.out; omega
     case rel => exact ⟨8 + 1, by go_num, oW, by rw [Hid], HNX2.out, Qaa HB.out HB.out.size hB1⟩
    ·obtain ⟨rfl, rfl⟩ := HHIT.out hx
     have hxq : ((r2 : Int) == -1) = false := by rw [beq_eq_false_iff_ne]; exact hx
     go_wp2_with (first | (go_at_call 124; refine HC.out.mono ?_; rintro e w1 ⟨rfl, hB1⟩))
     go_ret2
     exact ⟨by simp, Qaa HBW.out HBW.out.size hB1⟩
   omega
  ·obtain rfl : k = 9 := by omega
   have e9 := HR.out.symm.trans (Qk8 HALL.out)
   obtain ⟨rfl, rfl⟩ : r1 = 0 ∧ r2 = 0 := ⟨congrArg Prod.fst e9, congrArg Prod.snd e9⟩
   clear e9
   go_wp2_with fail
   go_ret2
   exact ⟨rfl, HBW.out⟩
def wfB (g : Gr) : Bool := decide ((chk g false).1 = 0) || decide ((chk g true).1 = 0)
def GrV.gs (V : GrV) (g : Gr) : Array Value := #[.int .i64 g.cells, V.ev, V.rf, V.co, V.rmw, V.addr, V.dat, V.ctrl]
theorem Qq8 (V : GrV) (g : Gr) (w : World) (h : GrR w V g) (hF : Frm w) :
  Calls Tryz.prog 125 #[V.val g] w fun r w' => r = .returned (.bool (wfB g)) ∧ Below w.heap.size w w' := by
 generalize hr : wfB g = r
 have HR := Qa hr
 have H := Qa h
 have HF := Qa hF
 have hgb := Blk.new w 27 (V.gs g)
 obtain ⟨W1, hW1⟩ : ∃ W1, w.alloc (.cells (V.gs g) 27) = W1 := ⟨_, rfl⟩
 have hB1 : Below w.heap.size w W1 := by rw [← hW1]; exact bW.alloc nW _
 rw [hW1] at hgb
 have hs1 : W1.heap.size = w.heap.size + 1 := by rw [← hW1]; simp
 have hbb := Blk.new W1 4 #[.bool false, .bool true]
 have hB2 : Below W1.heap.size W1 (W1.alloc (.cells #[.bool false, .bool true] 4)) := bW.alloc nW _
 generalize hW2 : W1.alloc (.cells #[.bool false, .bool true] 4) = W2 at *
 have e2 : Hid ((w.alloc (.cells #[.int .i64 g.cells, V.ev, V.rf, V.co, V.rmw, V.addr, V.dat, V.ctrl] 27)).alloc (.cells #[.bool false, .bool true] 4) = W2) := by rw [Hid, ← hW2, ← hW1]; rfl
 have HB2 : Hid (Below w.heap.size w W2) := hB1.trans (hB2.mono hB1.size)
 rw [hs1] at hbb
 have HBB := Qa hbb
 have HGB := Qa (hgb.of_below hB2)
 clear hr h hF hgb hbb hB1 hB2 hs1 hW1 hW2
 unfold GrV.val
 go_enter Tryz.func125, Tryz.ntmps125
 go_wp2_with fail
 rw [e2.out]
 clear e2
 generalize hgp : w.heap.size + 1 = bp at *
 clear hgp
 go_loopg [9] 2 (fun f i wr => ∃ k : Nat, i = .int .i64 ((k : Nat) : Int) ∧ k ≤ 2 ∧ Hid (k + f = 2) ∧ Hid (1 ≤ k → (chk g false).1 ≠ 0) ∧ Hid (2 ≤ k → (chk g true).1 ≠ 0) ∧ Hid (Below W2.heap.size W2 wr))
 case atStart => exact ⟨0, rfl, oW, Nat.zero_add _, (fun h => by omega), (fun h => by omega), Below.refl _ _⟩
 case round =>
  obtain ⟨k, rfl, hk, HKF, HA, HT, HB⟩ := hrel
  have HBW : Hid (Below w.heap.size w wr) := Qaa HB2.out HB2.out.size HB.out
  have hg := HGB.out.of_below HB.out
  have x0 : wr.cell? ⟨w.heap.size, 0, none⟩ = some (.int .i64 g.cells) := hg.cell rfl
  have x1 : wr.cell? ⟨w.heap.size, 1, none⟩ = some V.ev := hg.cell rfl
  have x2 : wr.cell? ⟨w.heap.size, 2, none⟩ = some V.rf := hg.cell rfl
  have x3 : wr.cell? ⟨w.heap.size, 3, none⟩ = some V.co := hg.cell rfl
  have x4 : wr.cell? ⟨w.heap.size, 4, none⟩ = some V.rmw := hg.cell rfl
  have x5 : wr.cell? ⟨w.heap.size, 5, none⟩ = some V.addr := hg.cell rfl
  have x6 : wr.cell? ⟨w.heap.size, 6, none⟩ = some V.dat := hg.cell rfl
  have x7 : wr.cell? ⟨w.heap.size, 7, none⟩ = some V.ctrl := hg.cell rfl
  have hc := fun q => Qjr V g q wr (H.out.below HBW.out) (HF.out.step HBW.out)
  unfold GrV.val at hc
  have hbw := HBB.out.of_below HB.out
  clear hg
  match k, hk with
  | 0, _ =>
   have y : wr.cell? ⟨bp, 0, none⟩ = some (.bool false) := hbw.cell rfl
   have HC := Qa (hc false)
   clear hc hbw
   generalize hx : (chk g false).1 = x at HC
   generalize (chk g false).2 = x' at HC
   have HX := Qa hx
   clear hx
   by_cases hx0 : x = 0
   ·subst hx0
    obtain rfl : r = true := by rw [← HR.out, wfB, HX.out]; rfl
    go_wp2_with (first | (go_at_call 73; refine HC.out.mono ?_; rintro e w1 ⟨rfl, hB1⟩))
    go_ret
    exact ⟨rfl, Qaa HBW.out HBW.out.size hB1⟩
   ·have q0 : ((x : Int) == 0) = false := by rw [beq_eq_false_iff_ne]; exact hx0
    go_wp2_with (first | (go_at_call 73; refine HC.out.mono ?_; rintro e w1 ⟨rfl, hB1⟩))
    go_roundg 1
    case measure => have := HKF.out; omega
    case rel => exact ⟨1, by go_num, oW, by rw [Hid], (fun _ => by rw [HX.out]; exact hx0), (fun h => by omega), Qaa HB.out HB.out.size hB1⟩
  | 1, _ =>
   have y : wr.cell? ⟨bp, 1, none⟩ = some (.bool true) := hbw.cell rfl
   have HC := Qa (hc true)
   clear hc hbw
   generalize hx : (chk g true).1 = x at HC
   generalize (chk g true).2 = x' at HC
   have HX := Qa hx
   clear hx
   by_cases hx0 : x = 0
   ·subst hx0
    obtain rfl : r = true := by rw [← HR.out, wfB, HX.out]; simp
    go_wp2_with (first | (go_at_call 73; refine HC.out.mono ?_; rintro e w1 ⟨rfl, hB1⟩))
    go_ret
    exact ⟨rfl, Qaa HBW.out HBW.out.size hB1⟩
   ·have q0 : ((x : Int) == 0) = false := by rw [beq_eq_false_iff_ne]; exact hx0
    go_wp2_with (first | (go_at_call 73; refine HC.out.mono ?_; rintro e w1 ⟨rfl, hB1⟩))
    go_roundg 0
    case measure => have := HKF.out; omega
    case rel => exact ⟨2, by go_num, oW, by rw [Hid], (fun _ => HA.out oW), (fun h => by rw [HX.out]; exact hx0), Qaa HB.out HB.out.size hB1⟩
  | 2, _ =>
   obtain rfl : r = false := by
    rw [← HR.out, wfB, decide_eq_false (HA.out oW), decide_eq_false (HT.out oW)]; rfl
   clear hc hbw
   go_wp2_with fail
   go_ret
   exact ⟨rfl, HBW.out⟩
theorem Qnv {g : Gr} {q : Bool} : ∀ {f i : Nat}, (Qij g q i f).1 = 0 → ∀ j, i ≤ j → j < i + f → rl g q j = -1
 | 0, i, _, j, h1, h2 => by omega
 | f + 1, i, h, j, h1, h2 => by
  rw [Qij] at h
  by_cases e : rl g q i = -1
  ·rw [if_pos e] at h
   by_cases ej : j = i
   ·rw [ej]; exact e
   ·exact Qnv h j oW oW
  ·rw [if_neg e] at h
   have : (i : Int) + 1 = 0 := h
   omega
theorem Qk9 {g : Gr} {q : Bool} (h : (chk g q).1 = 0) : ∀ j, j < 9 → rl g q j = -1 := fun j hj => Qnv h j (Nat.zero_le _) oW
theorem Qzi {g : Gr} (h : wfB g = true) : ∃ q, ∀ j, j < 9 → rl g q j = -1 := by
 simp [wfB] at h
 rcases h with h | h
 ·exact ⟨false, Qk9 h⟩
 ·exact ⟨true, Qk9 h⟩
theorem Qik {l : List Int} {x : Int} : x ∈ Qc1 l ↔ x ∈ l := by unfold Qc1; exact (List.mergeSort_perm l _).mem_iff
theorem Qg3 {l : List Int} {c : Int} {ws : List Int} (h : Qau l c ws = true) : l.length = ws.length ∧ l.getD 0 0 = c ∧ Qc1 l = ws := by
 simp [Qau] at h
 exact ⟨h.1.1, by simpa using h.1.2, h.2⟩
theorem ok5 {g : Gr} {q : Bool} (h : ∀ j, j < 9 → rl g q j = -1) : (g.co.length : Int) = g.cells ∧ ∀ (c : Nat) (l : List Int), g.co[c]? = some l → Qau l ((c : Nat) : Int) (wrs g ((c : Nat) : Int) g.evs.length) = true := by
 have h1 := rl0 (h 0 oW)
 have h5 : Qbq g = -1 := h 4 oW
 have hsz : 0 ≤ g.cells := by simp [Qar] at h1; omega
 unfold Qbq at h5
 rcases Qd (Qao g) g.cells.toNat 0 with ⟨e, hall⟩ | ⟨i, e, _⟩
 ·rw [if_pos e] at h5
  have hle : (g.co.length : Int) ≤ g.cells := by
   by_cases hle : (g.co.length : Int) ≤ g.cells
   ·exact hle
   ·rw [if_neg hle] at h5; omega
  have hge : g.cells ≤ (g.co.length : Int) := by
   by_cases hge : g.cells ≤ (g.co.length : Int)
   ·exact hge
   ·have := hall g.co.length (Nat.zero_le _) oW
    simp [Qao] at this
  refine ⟨oW, fun c l hl => ?_⟩
  have hc := (List.getElem?_eq_some_iff.1 hl).1
  have := hall c (Nat.zero_le _) oW
  rw [Qao, List.getD_eq_getElem?_getD, hl] at this
  simp at this
  exact this.2
 ·rw [e] at h5
  rw [if_neg oW] at h5
  omega
theorem Qmx {g : Gr} {q : Bool} (h : ∀ j, j < 9 → rl g q j = -1) {c : Nat} {l : List Int} (hl : g.co[c]? = some l) : 0 < l.length ∧ ∀ x ∈ l, ∃ i : Nat, x = ((i : Nat) : Int) ∧ i < g.evs.length ∧ (g.ev i).k = 2 ∧ (g.ev i).l = ((c : Nat) : Int) := by
 obtain ⟨h1, h2⟩ := ok5 h
 obtain ⟨e1, _, e3⟩ := Qg3 (h2 c l hl)
 have hc := (List.getElem?_eq_some_iff.1 hl).1
 have hn := Qmw (rl0 (h 0 oW)) (h 1 oW) (c := c) oW
 refine ⟨by rw [e1]; exact List.length_pos_iff.2 hn, fun x hx => ?_⟩
 have hx' := Qik.2 hx
 rw [e3] at hx'
 obtain ⟨i, rfl, hi, hw⟩ := Qdr.1 hx'
 simp [Qc2] at hw
 exact ⟨i, rfl, hi, hw.1, hw.2⟩
theorem Qvg {g : Gr} (h : wfB g = true) : g.evs.length ≤ 256 := by
 obtain ⟨q, hq⟩ := Qzi h
 exact Qpo (rl0 (hq 0 oW))
theorem Qjs {P : Program} {ops : Array Oper} {Q : Exit → Act → World → Prop} {md : Region.Mode} {S : World → Prop} (cs : List Nat) (al f0 : Nat) (L : Nat → Bool → Array Bool) (Inv : Nat → Bool → Act → World → Prop)
  (hset : ∀ j, j < cs.length → ∀ fl, (L j fl).setIfInBounds (cs.getD j 0) true = L (j + 1) fl)
  (hsetA : ∀ j, j ≤ cs.length → (L j false).setIfInBounds al true = L j true)
  (hready : ∀ j, j < cs.length → Region.ready md ops (L j true) = [cs.getD j 0])
  (hreadyA : ∀ j, j < cs.length → Region.ready md ops (L j false) = [cs.getD j 0, al])
  (hreadyE : Region.ready md ops (L cs.length false) = [al])
  (step : ∀ j, j < cs.length → ∀ fl a w, Inv j fl a w → S w → wpOp P ops Q (cs.getD j 0) (fun a' w' => S w' ∧ Inv (j + 1) fl a' w') a w)
  (stepA : ∀ j, j ≤ cs.length → ∀ a w, Inv j false a w → S w → wpOp P ops Q al (fun a' w' => S w' ∧ Inv j true a' w') a w)
  (fin : ∀ a w, Inv cs.length true a w → S w → wpAnyH P md ops Q S f0 (L cs.length true) a w) :
  ∀ (m j : Nat), j + m = cs.length → ∀ (a : Act) (w : World), S w → (Inv j true a w → wpAnyH P md ops Q S (f0 + m) (L j true) a w) ∧ (Inv j false a w → wpAnyH P md ops Q S (f0 + m + 1) (L j false) a w)
 | 0, j, hj, a, w, hS => by
  obtain rfl : j = cs.length := by omega
  refine ⟨fun h => fin a w h hS, fun h => ?_⟩
  refine wpAnyH_all hreadyE sW (fun i hi => ?_)
  obtain rfl : i = al := by simpa using hi
  refine wpOp_mono (fun a' w' h' => ⟨h'.1, ?_⟩) (stepA _ nW a w h hS)
  rw [hsetA _ nW]
  exact fin a' w' h'.2 h'.1
 | m + 1, j, hj, a, w, hS => by
  have hlt : j < cs.length := by omega
  have ih := Qjs cs al f0 L Inv hset hsetA hready hreadyA hreadyE step stepA fin m (j + 1) oW
  have h1 : ∀ a w, S w → Inv j true a w → wpAnyH P md ops Q S (f0 + (m + 1)) (L j true) a w := fun a w hS h => by
   refine wpAnyH_all (hready j hlt) sW (fun i hi => ?_)
   obtain rfl : i = cs.getD j 0 := by simpa using hi
   refine wpOp_mono (fun a' w' h' => ⟨h'.1, ?_⟩) (step j hlt true a w h hS)
   rw [hset j hlt]
   exact (ih a' w' h'.1).1 h'.2
  refine ⟨h1 a w hS, fun h => ?_⟩
  refine wpAnyH_all (hreadyA j hlt) sW (fun i hi => ?_)
  have hi' : i = cs.getD j 0 ∨ i = al := by simpa using hi
  rcases hi' with rfl | rfl
  ·refine wpOp_mono (fun a' w' h' => ⟨h'.1, ?_⟩) (step j hlt false a w h hS)
   rw [hset j hlt]
   exact (ih a' w' h'.1).2 h'.2
  ·refine wpOp_mono (fun a' w' h' => ⟨h'.1, ?_⟩) (stepA j (Nat.le_of_lt hlt) a w h hS)
   rw [hsetA j (Nat.le_of_lt hlt)]
   exact h1 a' w' h'.1 h'.2
theorem Qes {P : Program} {fn : Func} {p u : Tmp} {ty : TypeId} (h : fn.results = #[.cell p ty, .tmp u]) (tmps : Array Value) (w : World) (g : Nat) (t : TypeId) (cs : Array Value) (fr : Nat × Nat) (d : TypeDesc)
  (hp : tmps.getD p undef = .pointer (some ⟨g, 0, none⟩)) (hg : w.heap[g]? = some (.cells cs t fr))
  (hu : P.underlying ty = some d) (hd : (match d with | .struct _ | .array _ _ => true | _ => false) = true) (hi : (P.info? ty).map (·.size) = some cs.size) :
  (results fn tmps).run P w = .ok (.tuple #[.agg cs, tmps.getD u undef]) w := by
 have hp' : tmps[p]?.getD undef = .pointer (some ⟨g, 0, none⟩) := by simpa using hp
 simp [results, h, hp', asAddr, run_loadVar_row w g t ty cs fr d hg hu hd hi]
def RelIn (w : World) (lo hi : Nat) (v : Value) (n : Nat) (F : Nat → Nat → Bool) : Prop := ∃ b c L, v = pv b ∧ IsRel w b c L ∧ TwR n F L ∧ lo ≤ b ∧ lo ≤ c ∧ b < hi ∧ c < hi
def TruIn (w : World) (lo hi : Nat) (v : Value) (l : List Bool) : Prop := ∃ b, v = .slice (some ⟨b, 0, none⟩) l.length l.length ∧ Blk w b 4 (Qax l) ∧ lo ≤ b ∧ b < hi
theorem RelIn.below {w w' : World} {lo hi : Nat} {v : Value} {n : Nat} {F : Nat → Nat → Bool} (h : RelIn w lo hi v n F) (hb : Below w.heap.size w w') : RelIn w' lo hi v n F := by
 obtain ⟨b, c, L, h1, h2, h3⟩ := h
 exact ⟨b, c, L, h1, h2.below hb, h3⟩
theorem TruIn.below {w w' : World} {lo hi : Nat} {v : Value} {l : List Bool} (h : TruIn w lo hi v l) (hb : Below w.heap.size w w') : TruIn w' lo hi v l := by
 obtain ⟨b, h1, h2, h3⟩ := h
 exact ⟨b, h1, h2.of_below hb, h3⟩
theorem RelIn.one {w : World} {lo hi : Nat} {v : Value} {n : Nat} {F : Nat → Nat → Bool} (h : RelIn w lo hi v n F) : v.oneCell' = true := by
 obtain ⟨b, c, L, rfl, _⟩ := h
 rfl
theorem TruIn.one {w : World} {lo hi : Nat} {v : Value} {l : List Bool} (h : TruIn w lo hi v l) : v.oneCell' = true := by
 obtain ⟨b, rfl, _⟩ := h
 rfl
def Qci (l : List (Int × Int)) (p q : Nat) : Bool := decide ((((p : Nat) : Int), ((q : Nat) : Int)) ∈ l)
def coB (g : Gr) (p q : Nat) : Bool := decide ((((p : Nat) : Int), ((q : Nat) : Int)) ∈ Qbo g.co g.co.length)
def Ql5 (l : List Ev) (a b : Nat) : Bool := Qet (l.getD a Ev.zero) (l.getD b Ev.zero)
def Qxe (g : Gr) : Nat → Nat → Nat → Bool
 | 0 => poB g.evs
 | 1 => Qci g.rf
 | 2 => coB g
 | 3 => Qci g.rmw
 | 4 => Ql5 g.evs
 | 5 => Qhz g.evs
 | 6 => Qci g.addr
 | 7 => Qci g.dat
 | _ => Qci g.ctrl
def frB (g : Gr) (p q : Nat) : Bool := (List.range g.evs.length).any (fun m => Qci g.rf m p && coB g m q)
def Qba (g : Gr) (x : Int) : List Bool := Qd8 (fun e => e.k == x) g.evs
theorem Qhl (g : Gr) (x : Int) : (Qba g x).length = g.evs.length := by simp [Qba, Qd8]
def RES (g : Gr) (i : Nat) (v : Value) (w : World) (lo hi : Nat) : Prop := if i < 9 then RelIn w lo hi v g.evs.length (Qxe g i) else TruIn w lo hi v (Qba g ((i : Nat) - 8 : Int))
theorem RES.below {g : Gr} {i : Nat} {v : Value} {w w' : World} {lo hi : Nat} (h : RES g i v w lo hi) (hb : Below w.heap.size w w') : RES g i v w' lo hi := by
 unfold RES at h ⊢
 by_cases e : i < 9
 ·rw [if_pos e] at h ⊢; exact h.below hb
 ·rw [if_neg e] at h ⊢; exact h.below hb
theorem RES.one {g : Gr} {i : Nat} {v : Value} {w : World} {lo hi : Nat} (h : RES g i v w lo hi) : v.oneCell' = true := by
 unfold RES at h
 by_cases e : i < 9
 ·rw [if_pos e] at h; exact h.one
 ·rw [if_neg e] at h; exact h.one
theorem RES.lo {g : Gr} {i : Nat} {v : Value} {w : World} {lo lo' hi : Nat} (h : RES g i v w lo hi) (hl : lo' ≤ lo) : RES g i v w lo' hi := by
 unfold RES at h ⊢
 by_cases e : i < 9
 ·rw [if_pos e] at h ⊢
  obtain ⟨b, c, L, h1, h2, h3, h4, h5, h6⟩ := h
  exact ⟨b, c, L, h1, h2, h3, Nat.le_trans hl h4, Nat.le_trans hl h5, h6⟩
 ·rw [if_neg e] at h ⊢
  obtain ⟨b, h1, h2, h3, h4⟩ := h
  exact ⟨b, h1, h2, Nat.le_trans hl h3, h4⟩
theorem RES.rel {g : Gr} {i : Nat} {v : Value} {w : World} {lo hi : Nat} (hi9 : i < 9) (h : RES g i v w lo hi) : RelIn w lo hi v g.evs.length (Qxe g i) := by
 unfold RES at h
 rwa [if_pos hi9] at h
theorem RES.tru {g : Gr} {i : Nat} {v : Value} {w : World} {lo hi : Nat} (hi9 : 9 ≤ i) (h : RES g i v w lo hi) : TruIn w lo hi v (Qba g ((i : Nat) - 8 : Int)) := by
 unfold RES at h
 rwa [if_neg oW] at h
theorem RES.mkRel {g : Gr} {i : Nat} {w w' : World} {b c : Nat} {L : List Nat} (hi9 : i < 9) (hM : Made w w' b c L) (hT : TwR g.evs.length (Qxe g i) L) : RES g i (pv b) w' w.heap.size w'.heap.size := by
 unfold RES
 rw [if_pos hi9]
 exact ⟨b, c, L, rfl, hM.rel, hT, hM.hb, hM.hc, hM.rel.head.lt, hM.rel.rows.lt⟩
theorem RES.mkTru {g : Gr} {i : Nat} {w w' : World} {b : Nat} (hi9 : 9 ≤ i) (x : Int) (hx : x = ((i : Nat) - 8 : Int)) (hb : Blk w' b 4 (Qax (Qd8 (fun e => e.k == x) g.evs))) (hl : w.heap.size ≤ b) : RES g i (.slice (some ⟨b, 0, none⟩) g.evs.length g.evs.length) w' w.heap.size w'.heap.size := by
 unfold RES
 rw [if_neg oW, ← hx]
 exact ⟨b, by rw [Qhl], hb, hl, hb.lt⟩
theorem Qel {n : Nat} (h : n ≤ 256) : Qbi ((n : Nat) : Int) = n := by unfold Qbi; omega
theorem Qh5 {n : Nat} (h : n ≤ 256) (l : List (Int × Int)) : TwR n (Qci l) (ofL ((n : Nat) : Int) l) := by
 have e : ofL (n : Int) l = puts n l := by unfold ofL; rw [Qel h]; rfl
 rw [e]
 exact Qqy n l
theorem Qvh {w : World} {b c : Nat} {L : List Nat} (hr : IsRel w b c L) : WF L.length L := by
 refine ⟨rfl, fun p q h => ?_⟩
 have hp := Qa5 h
 unfold hs at h
 apply Nat.lt_of_not_le
 intro hle
 have hm : gr L p ∈ L := List.mem_of_getElem? (Qbf hp)
 rw [Nat.testBit_lt_two_pow (Nat.lt_of_lt_of_le (hr.low _ hm) (Nat.pow_le_pow_right oW hle))] at h
 cases h
theorem Qpp {n : Nat} {F : Nat → Nat → Bool} {L : List Nat} {w : World} {b c : Nat} (h : TwR n F L) (hr : IsRel w b c L) : Twin n F L := by
 have hw := Qvh hr
 rw [h.len] at hw
 exact ⟨hw, fun p q hp hq => by rw [h.same p q hp hq]; exact Iff.rfl⟩
theorem QBi {g : Gr} {A B : List Nat} (hn : g.evs.length ≤ 256) (ha : Twin g.evs.length (Qci g.rf) A) (hb : Twin g.evs.length (coB g) B) : TwR g.evs.length (frB g) (Qe4 (Qb4 A) B) := by
 refine ⟨(Qas hn (Qv0 hn ha.wf) hb.wf).len, fun p q hp hq => ?_⟩
 have h1 := Qap hn (Qv0 hn ha.wf) hb.wf p q
 unfold hs at h1
 rw [Bool.eq_iff_iff, h1]
 unfold frB
 rw [List.any_eq_true]
 constructor
 ·rintro ⟨m, hm, h2⟩
  have hm' := List.mem_range.1 hm
  rw [Bool.and_eq_true] at h2
  exact ⟨m, (Qp1 hn ha.wf p m).2 ((ha.same m p hm' hp).1 h2.1), (hb.same m q hm' hq).1 h2.2⟩
 ·rintro ⟨m, h2, h3⟩
  have h2' := (Qp1 hn ha.wf p m).1 h2
  have hm := (ha.low h2').1
  refine ⟨m, List.mem_range.2 hm, ?_⟩
  rw [Bool.and_eq_true]
  exact ⟨(ha.same m p hm hp).2 h2', (hb.same m q hm hq).2 h3⟩
abbrev Qtc (x : Nat → Value) : Array Value := #[x 0, x 1, x 2, x 3, x 4, x 5, x 6, x 7, x 8, x 9, x 10, x 11, x 12, x 13, x 14, x 15, x 16, x 17, x 18, x 19, x 20, x 21, x 22, x 23, x 24, x 25, x 26, x 27, x 28, x 29, x 30, x 31, x 32, x 33, x 34, x 35, x 36, x 37, x 38, x 39, x 40, x 41, x 42, x 43, x 44, x 45, x 46, x 47, x 48, x 49, x 50, x 51, x 52, x 53, x 54, x 55, x 56, x 57, x 58, x 59, x 60, x 61, x 62]
def slD : Nat → Nat
 | 0 => 17
 | 1 => 21
 | 2 => 25
 | 3 => 29
 | 4 => 32
 | 5 => 35
 | 6 => 39
 | 7 => 43
 | 8 => 47
 | 9 => 49
 | 10 => 51
 | 11 => 53
 | _ => 54
def Qpq (x : Nat → Value) (s : Nat) (v : Value) : Nat → Value := fun i => if i = s then v else x i
def Qbd (V : GrV) (g : Gr) (gb lb rb : Nat) : List (Nat × Value) := [(15, .int .i64 (g.evs.length : Int)), (16, .func (.func 127) #[] #[pv lb]), (18, .int .i64 (g.evs.length : Int)), (20, V.rf), (22, .int .i64 (g.evs.length : Int)), (24, V.co), (26, .int .i64 (g.evs.length : Int)), (28, V.rmw), (30, .int .i64 (g.evs.length : Int)), (31, .func (.func 131) #[] #[pv lb]), (33, .int .i64 (g.evs.length : Int)), (34, .func (.func 133) #[] #[pv lb]), (36, .int .i64 (g.evs.length : Int)), (38, V.addr), (40, .int .i64 (g.evs.length : Int)), (42, V.dat), (44, .int .i64 (g.evs.length : Int)), (46, V.ctrl), (48, V.ev), (50, V.ev), (52, V.ev), (0, V.val g), (1, pv gb), (2, pv rb), (3, .int .i64 0), (4, pv lb), (5, .int .i64 (g.evs.length : Int))]
abbrev nilF : Array Value := #[.pointer none, .pointer none, .pointer none, .pointer none, .pointer none, .pointer none, .pointer none, .pointer none, .pointer none, .pointer none, .slice none 0 0, .slice none 0 0, .slice none 0 0]
theorem Qxf : nilF.all (·.oneCell') = true := by simp [nilF, Value.oneCell']
def Qmy (x : Nat → Value) : Array Value := #[x 17, x 21, x 25, .pointer none, x 29, x 32, x 35, x 39, x 43, x 47, x 49, x 51, x 53]
structure DInv (V : GrV) (g : Gr) (gb lb rb : Nat) (W0 : World) (j : Nat) (fl : Bool) (x : Nat → Value) (lo : Nat → Nat) (w : World) : Prop where
 fix : ∀ p ∈ Qbd V g gb lb rb, x p.1 = p.2
 res : ∀ i, i < j → i < 12 → RES g i (x (slD i)) w (lo i) (lo (i + 1))
 mono : ∀ i, i < j → i < 12 → lo i ≤ lo (i + 1)
 top : lo (min j 12) ≤ w.heap.size
 bot : lo 0 = W0.heap.size
 bel : Below W0.heap.size W0 w
 bld : j = 13 → x 54 = .agg (Qmy x)
 alc : fl = true → ∃ m, x 6 = pv m ∧ Blk w m 115 nilF ∧ W0.heap.size ≤ m
def DAct (V : GrV) (g : Gr) (gb lb rb : Nat) (W0 : World) (j : Nat) (fl : Bool) (a : Act) (w : World) : Prop := ∃ x lo, a = ⟨Qtc x, []⟩ ∧ DInv V g gb lb rb W0 j fl x lo w
theorem QBj : ∀ j, j < 12 → ∀ i, i < j → slD i ≠ slD j := by decide
theorem Qzj : ∀ j, j < 12 → ∀ k ∈ [15, 16, 18, 20, 22, 24, 26, 28, 30, 31, 33, 34, 36, 38, 40, 42, 44, 46, 48, 50, 52, 0, 1, 2, 3, 4, 5], k ≠ slD j := by decide
theorem Qy3 : ∀ j, j < 12 → (6 : Nat) ≠ slD j ∧ slD j ≠ 6 := by decide
theorem Qjt {V : GrV} {g : Gr} {gb lb rb : Nat} {p : Nat × Value} (h : p ∈ Qbd V g gb lb rb) : p.1 ∈ [15, 16, 18, 20, 22, 24, 26, 28, 30, 31, 33, 34, 36, 38, 40, 42, 44, 46, 48, 50, 52, 0, 1, 2, 3, 4, 5] := by
 have : p.1 ∈ (Qbd V g gb lb rb).map (·.1) := List.mem_map.2 ⟨p, h, rfl⟩
 simpa [Qbd] using this
theorem Qe0 {x : Nat → Value} {s i : Nat} {v : Value} (h : i ≠ s) : Qpq x s v i = x i := if_neg h
theorem Qmz {x : Nat → Value} {s : Nat} {v : Value} : Qpq x s v s = v := if_pos rfl
theorem DInv.call {V : GrV} {g : Gr} {gb lb rb : Nat} {W0 : World} {j : Nat} {fl : Bool} {x : Nat → Value} {lo : Nat → Nat} {w w' : World} {v : Value} (h : DInv V g gb lb rb W0 j fl x lo w) (hj : j < 12) (hr : RES g j v w' w.heap.size w'.heap.size) (hb : Below w.heap.size w w') :
  DInv V g gb lb rb W0 (j + 1) fl (Qpq x (slD j) v) (fun i => if i ≤ j then lo i else w'.heap.size) w' := by
 have htop : lo j ≤ w.heap.size := by have := h.top; rwa [Nat.min_eq_left oW] at this
 refine ⟨fun p hp => ?_, fun i hi h12 => ?_, fun i hi h12 => ?_, ?_, ?_, h.bel.trans (hb.mono h.bel.size), fun e => by omega, fun e => ?_⟩
 ·rw [Qe0 (Qzj j hj _ (Qjt hp))]; exact h.fix p hp
 ·by_cases e : i = j
  ·subst e
   rw [Qmz, if_pos nW, if_neg oW]
   exact hr.lo htop
  ·rw [Qe0 (QBj j hj i oW), if_pos oW, if_pos oW]
   exact (h.res i oW h12).below hb
 ·by_cases e : i = j
  ·subst e
   rw [if_pos nW, if_neg oW]
   exact Nat.le_trans htop hb.size
  ·rw [if_pos oW, if_pos oW]
   exact h.mono i oW h12
 ·rw [Nat.min_eq_left oW, if_neg oW]
  exact Nat.le_refl _
 ·rw [if_pos (Nat.zero_le _)]; exact h.bot
 ·obtain ⟨m, h1, h2, h3⟩ := h.alc e
  exact ⟨m, by rw [Qe0 (Qy3 j hj).1]; exact h1, h2.of_below hb, h3⟩
theorem DInv.alloc {V : GrV} {g : Gr} {gb lb rb : Nat} {W0 : World} {j : Nat} {x : Nat → Value} {lo : Nat → Nat} {w : World} (h : DInv V g gb lb rb W0 j false x lo w) :
  DInv V g gb lb rb W0 j true (Qpq x 6 (pv w.heap.size)) lo (w.alloc (.cells nilF 115)) := by
 have hb : Below w.heap.size w (w.alloc (.cells nilF 115)) := bW.alloc nW _
 refine ⟨fun p hp => ?_, fun i hi h12 => ?_, h.mono, Nat.le_trans h.top hb.size, h.bot, h.bel.trans (hb.mono h.bel.size), fun e => ?_, fun _ => ⟨_, Qmz, Blk.new w _ _, h.bel.size⟩⟩
 ·rw [Qe0 (fun e => by have := Qjt hp; rw [e] at this; revert this; decide)]; exact h.fix p hp
 ·rw [Qe0 (Qy3 i h12).2]
  exact (h.res i hi h12).below hb
 ·show x 54 = _
  exact h.bld e
theorem DAct.start {V : GrV} {g : Gr} {gb lb rb : Nat} {W0 w : World} {t : Array Value} (ht : t = Qtc (fun i => t.getD i undef)) (hf : ∀ p ∈ Qbd V g gb lb rb, t.getD p.1 undef = p.2) (hb : Below W0.heap.size W0 w) : DAct V g gb lb rb W0 0 false ⟨t, []⟩ w :=
 ⟨fun i => t.getD i undef, fun _ => W0.heap.size, by rw [← ht], hf, (fun i hi => by omega), (fun i hi => by omega), hb.size, rfl, hb, (fun e => by omega), (fun e => by cases e)⟩
theorem DInv.build {V : GrV} {g : Gr} {gb lb rb : Nat} {W0 : World} {fl : Bool} {x : Nat → Value} {lo : Nat → Nat} {w : World} (h : DInv V g gb lb rb W0 12 fl x lo w) : DInv V g gb lb rb W0 13 fl (Qpq x 54 (.agg (Qmy x))) lo w := by
 refine ⟨fun p hp => ?_, fun i hi h12 => ?_, fun i hi h12 => h.mono i h12 h12, h.top, h.bot, h.bel, fun _ => ?_, fun e => ?_⟩
 ·rw [Qe0 (fun e => by have := Qjt hp; rw [e] at this; revert this; decide)]; exact h.fix p hp
 ·rw [Qe0 (by revert i; decide)]
  exact h.res i h12 h12
 ·rw [Qmz]; rfl
 ·obtain ⟨m, h1, h2, h3⟩ := h.alc e
  exact ⟨m, by rw [Qe0 dW]; exact h1, h2, h3⟩
def callD : List Nat := [2, 6, 10, 14, 17, 20, 24, 28, 32, 34, 36, 38, 39]
def LD (j : Nat) (fl : Bool) : Array Bool := ((List.range 42).map (fun i => ([0, 1, 3, 4, 5, 7, 8, 9, 11, 12, 13, 15, 16, 18, 19, 21, 22, 23, 25, 26, 27, 29, 30, 31, 33, 35, 37] : List Nat).contains i || (callD.take j).contains i || (fl && i == 40))).toArray
theorem QBk : ∀ j, j < 13 → ∀ fl, (LD j fl).setIfInBounds (callD.getD j 0) true = LD (j + 1) fl := by decide +kernel
theorem Qzk : ∀ j, j ≤ 13 → (LD j false).setIfInBounds 40 true = LD j true := by decide +kernel
def Qgq (v : Nat → Value) (f : Value) : Array Value := #[v 0, v 1, v 2, f, v 3, v 4, v 5, v 6, v 7, v 8, v 9, v 10, v 11]
structure DMid (g : Gr) (W0 : World) (m : Nat) (v : Nat → Value) (lo : Nat → Nat) (w : World) : Prop where
 blk : Blk w m 115 (Qgq v (.pointer none))
 res : ∀ i, i < 12 → RES g i (v i) w (lo i) (lo (i + 1))
 mono : ∀ i, i < 12 → lo i ≤ lo (i + 1)
 top : lo 12 ≤ w.heap.size
 bot : lo 0 = W0.heap.size
 bel : Below W0.heap.size W0 w
 hm : W0.heap.size ≤ m
structure DEnd (g : Gr) (W0 : World) (m : Nat) (v : Nat → Value) (f : Value) (lo lo3 : Nat → Nat) (w : World) : Prop where
 blk : Blk w m 115 (Qgq v f)
 res : ∀ i, i < 12 → RES g i (v i) w (lo3 i) (lo3 (i + 1))
 fr : RelIn w (lo3 12) (lo3 13) f g.evs.length (frB g)
 mono : ∀ i, i < 13 → lo3 i ≤ lo3 (i + 1)
 top : lo3 13 ≤ w.heap.size
 bot : lo3 0 = W0.heap.size
 bel : Below W0.heap.size W0 w
 hm : W0.heap.size ≤ m
structure DerAt (g : Gr) (B : Nat) (v : Nat → Value) (f : Value) (lo : Nat → Nat) (w : World) : Prop where
 res : ∀ i, i < 12 → RES g i (v i) w (lo i) (lo (i + 1))
 fr : RelIn w (lo 12) (lo 13) f g.evs.length (frB g)
 mono : ∀ i, i < 13 → lo i ≤ lo (i + 1)
 top : lo 13 ≤ w.heap.size
 bot : B ≤ lo 0
def QC8 (g : Gr) (w : World) (r : Ending) (w' : World) : Prop := (wfB g = true ∧ ∃ v f lo, r = .returned (.tuple #[.agg (Qgq v f), .int .i64 0]) ∧ DerAt g w.heap.size v f lo w' ∧ Below w.heap.size w w') ∨ (wfB g = false ∧ r = .returned (.tuple #[.agg nilF, .int .i64 4]) ∧ Below w.heap.size w w')
theorem Ql {g : Gr} {v : Nat → Value} {lo : Nat → Nat} {w : World} (h : ∀ i, i < 12 → RES g i (v i) w (lo i) (lo (i + 1))) (f : Value) (hf : f.oneCell' = true) : (Qgq v f).all (·.oneCell') = true := by
 unfold Qgq
 simp only [List.all_toArray, List.all_cons, List.all_nil, hf, (h 0 oW).one, (h 1 oW).one, (h 2 oW).one, (h 3 oW).one, (h 4 oW).one, (h 5 oW).one, (h 6 oW).one, (h 7 oW).one, (h 8 oW).one, (h 9 oW).one, (h 10 oW).one, (h 11 oW).one]
 rfl
theorem Blk.setRow' {w : World} {m : Nat} {t : TypeId} {old : Array Value} (h : Blk w m t old) (cs : Array Value) : Blk (w.setRow m cs) m t cs := setRow_heap w m old cs t (0, 0) h
theorem Qan {B m : Nat} {w : World} (cs : Array Value) (hm : B ≤ m) : Below B w (w.setRow m cs) := ⟨rfl, rfl, rfl, by rw [setRow_size]; exact Nat.le_refl _, fun k hk => setRow_other w m k cs oW⟩
theorem Blk.rowOther {w : World} {m b : Nat} {t : TypeId} {cs' : Array Value} (h : Blk w b t cs') (hne : b ≠ m) (cs : Array Value) : Blk (w.setRow m cs) b t cs' := (setRow_other w m b cs hne).trans h
theorem Qh6 {w : World} {b g : Nat} {t u : TypeId} {cs ds : Array Value} (h : Blk w b t cs) (hg : Blk w g u ds) (ht : t ≠ u) : b ≠ g := by
 intro e
 subst e
 have := h.symm.trans hg
 simp at this
 exact ht this.2
theorem RelIn.row {w : World} {lo hi m : Nat} {v : Value} {n : Nat} {F : Nat → Nat → Bool} {old : Array Value} (h : RelIn w lo hi v n F) (hm : Blk w m 115 old) (cs : Array Value) : RelIn (w.setRow m cs) lo hi v n F := by
 obtain ⟨b, c, L, h1, h2, h3⟩ := h
 exact ⟨b, c, L, h1, ⟨h2.ne, h2.head.rowOther (Qh6 h2.head hm dW) cs, h2.rows.rowOther (Qh6 h2.rows hm dW) cs, h2.len, h2.low⟩, h3⟩
theorem RES.row {g : Gr} {i : Nat} {w : World} {lo hi m : Nat} {v : Value} {old : Array Value} (h : RES g i v w lo hi) (hm : Blk w m 115 old) (cs : Array Value) : RES g i v (w.setRow m cs) lo hi := by
 unfold RES at h ⊢
 by_cases e : i < 9
 ·rw [if_pos e] at h ⊢; exact h.row hm cs
 ·rw [if_neg e] at h ⊢
  obtain ⟨b, h1, h2, h3⟩ := h
  exact ⟨b, h1, h2.rowOther (Qh6 h2 hm dW) cs, h3⟩
theorem RelIn.cell {w : World} {lo hi m : Nat} {v : Value} {n : Nat} {F : Nat → Nat → Bool} {old : Array Value} (h : RelIn w lo hi v n F) (hm : Blk w m 115 old) (j : Nat) (u : Value) : RelIn (w.setCell ⟨m, j, none⟩ u) lo hi v n F := by
 obtain ⟨b, c, L, h1, h2, h3⟩ := h
 exact ⟨b, c, L, h1, ⟨h2.ne, h2.head.setOther (a := ⟨m, j, none⟩) (Qh6 h2.head hm dW) u, h2.rows.setOther (a := ⟨m, j, none⟩) (Qh6 h2.rows hm dW) u, h2.len, h2.low⟩, h3⟩
theorem RES.cell {g : Gr} {i : Nat} {w : World} {lo hi m : Nat} {v : Value} {old : Array Value} (h : RES g i v w lo hi) (hm : Blk w m 115 old) (j : Nat) (u : Value) : RES g i v (w.setCell ⟨m, j, none⟩ u) lo hi := by
 unfold RES at h ⊢
 by_cases e : i < 9
 ·rw [if_pos e] at h ⊢; exact h.cell hm j u
 ·rw [if_neg e] at h ⊢
  obtain ⟨b, h1, h2, h3⟩ := h
  exact ⟨b, h1, h2.setOther (a := ⟨m, j, none⟩) (Qh6 h2 hm dW) u, h3⟩
theorem DMid.fin {g : Gr} {W0 wb w5 w6 : World} {m : Nat} {v : Nat → Value} {lo : Nat → Nat} {b6 c6 : Nat} {L : List Nat} (h : DMid g W0 m v lo wb) (h5 : Below wb.heap.size wb w5) (hM : Made w5 w6 b6 c6 L) (ht : TwR g.evs.length (frB g) L) :
  DEnd g W0 m v (pv b6) lo (fun i => if i ≤ 12 then lo i else w6.heap.size) (w6.setCell ⟨m, 3, none⟩ (pv b6)) := by
 have h6 : Below wb.heap.size wb w6 := Qaa h5 h5.size hM.below
 have hm := h.blk.of_below h6
 have hs : (w6.setCell ⟨m, 3, none⟩ (pv b6)).heap.size = w6.heap.size := by simp [World.setCell]
 refine ⟨?_, fun i hi => ?_, ?_, fun i hi => ?_, ?_, ?_, ?_, h.hm⟩
 ·have := hm.set 3 (pv b6)
  simpa [Qgq] using this
 ·rw [if_pos oW, if_pos oW]
  exact ((h.res i hi).below h6).cell hm 3 _
 ·rw [if_pos oW, if_neg oW]
  refine RelIn.cell ⟨b6, c6, L, rfl, hM.rel, ht, ?_, ?_, hM.rel.head.lt, hM.rel.rows.lt⟩ hm 3 _
  ·exact Nat.le_trans h.top (Nat.le_trans h5.size hM.hb)
  ·exact Nat.le_trans h.top (Nat.le_trans h5.size hM.hc)
 ·by_cases e : i = 12
  ·subst e
   rw [if_pos oW, if_neg oW]
   exact Nat.le_trans h.top h6.size
  ·rw [if_pos oW, if_pos oW]
   exact h.mono i oW
 ·rw [if_neg oW, hs]
  exact Nat.le_refl _
 ·rw [if_pos oW]; exact h.bot
 ·exact (h.bel.trans (h6.mono h.bel.size)).setCell h.hm _
theorem Tab.step' {w w' : World} (h : Tab w) (hb : Below w.heap.size w w') : Tab w' := h.below (n := 1) (hb.mono (by have := h.pos; omega)) oW
theorem Qvi {g : Gr} {x : Nat → Value} {lo : Nat → Nat} {w : World} (h : ∀ i, i < 12 → RES g i (x (slD i)) w (lo i) (lo (i + 1))) (W : World) :
  (Instr.build 115 #[(0, x 17), (1, x 21), (2, x 25), (4, x 29), (5, x 32), (6, x 35), (7, x 39), (8, x 43), (9, x 47), (10, x 49), (11, x 51), (12, x 53)]).run Tryz.prog W = .ok (.agg (Qmy x)) W := by
 obtain ⟨b0, _, _, e0, _⟩ := (h 0 oW).rel oW
 obtain ⟨b1, _, _, e1, _⟩ := (h 1 oW).rel oW
 obtain ⟨b2, _, _, e2, _⟩ := (h 2 oW).rel oW
 obtain ⟨b3, _, _, e3, _⟩ := (h 3 oW).rel oW
 obtain ⟨b4, _, _, e4, _⟩ := (h 4 oW).rel oW
 obtain ⟨b5, _, _, e5, _⟩ := (h 5 oW).rel oW
 obtain ⟨b6, _, _, e6, _⟩ := (h 6 oW).rel oW
 obtain ⟨b7, _, _, e7, _⟩ := (h 7 oW).rel oW
 obtain ⟨b8, _, _, e8, _⟩ := (h 8 oW).rel oW
 obtain ⟨b9, e9, _⟩ := (h 9 oW).tru oW
 obtain ⟨b10, e10, _⟩ := (h 10 oW).tru oW
 obtain ⟨b11, e11, _⟩ := (h 11 oW).tru oW
 simp only [slD] at e0 e1 e2 e3 e4 e5 e6 e7 e8 e9 e10 e11
 unfold Qmy
 rw [e0, e1, e2, e3, e4, e5, e6, e7, e8, e9, e10, e11]
 generalize (Qba g _).length = n9
 generalize (Qba g _).length = n10
 generalize (Qba g _).length = n11
 kernel_rfl
theorem Qbj {P : Program} {f : FuncId} {xs ys : Array Value} {w : World} {R : Ending → World → Prop} (h : xs = ys) (hc : Calls P f ys w R) : Calls P f xs w R := h ▸ hc
theorem Qxg {P : Program} {o : Oper} {a : Act} {w : World} {K : Act → World → Prop} {Q : Exit → Act → World → Prop} {t : TypeId} {parts : Array (Nat × Operand)} {ps : Array (Nat × Value)} {v : Value} (ho : o.op = .build t parts)
  (hp : (parts.map fun (i, x) => (i, a.eval x)) = ps) (hr : (Instr.build t ps).run P w = .ok v w) (h : K (a.put o.dst v) w) : o.wp P a w K Q := by
 unfold Oper.wp execOp
 simp only [ho, hp, hr, Sem.run_bind, Sem.run_pure, Result.andThen_ok]
 exact h
structure DBase (V : GrV) (g : Gr) (w : World) (gb lb : Nat) (W0 : World) : Prop where
 gr : GrR w V g
 bel : Below w.heap.size w W0
 gblk : Blk W0 gb 27 (V.gs g)
 lblk : Blk W0 lb 23 #[V.ev]
 hn : g.evs.length ≤ 256
theorem DBase.belW {V : GrV} {g : Gr} {w : World} {gb lb : Nat} {W0 W : World} (h : DBase V g w gb lb W0) (hb : Below W0.heap.size W0 W) : Below w.heap.size w W := Qaa h.bel h.bel.size hb
def DS (V : GrV) (gb lb : Nat) (w : World) : Prop := w.cell? ⟨gb, 2, none⟩ = some V.rf ∧ w.cell? ⟨gb, 3, none⟩ = some V.co ∧ w.cell? ⟨gb, 4, none⟩ = some V.rmw ∧ w.cell? ⟨gb, 5, none⟩ = some V.addr ∧ w.cell? ⟨gb, 6, none⟩ = some V.dat ∧ w.cell? ⟨gb, 7, none⟩ = some V.ctrl ∧ w.cell? ⟨lb, 0, none⟩ = some V.ev
theorem DBase.s {V : GrV} {g : Gr} {w : World} {gb lb : Nat} {W0 W : World} (h : DBase V g w gb lb W0) (hb : Below W0.heap.size W0 W) : DS V gb lb W :=
 ⟨(h.gblk.of_below hb).cell rfl, (h.gblk.of_below hb).cell rfl, (h.gblk.of_below hb).cell rfl, (h.gblk.of_below hb).cell rfl, (h.gblk.of_below hb).cell rfl, (h.gblk.of_below hb).cell rfl, (h.lblk.of_below hb).cell rfl⟩
theorem Qol (V : GrV) (g : Gr) (w : World) (h : GrR w V g) (hF : Frm w) (hT : Tab w) :
  Calls Tryz.prog 74 #[V.val g] w (QC8 g w) := by
 obtain ⟨Ve, Vr, Vc, Vm, Va, Vd, Vt⟩ := V
 obtain ⟨pe, ce, ee, hp, _⟩ := h.ev
 dsimp only at ee
 subst ee
 have hgb0 := Blk.new w 27 (GrV.gs ⟨.slice pe g.evs.length ce, Vr, Vc, Vm, Va, Vd, Vt⟩ g)
 obtain ⟨Wa, hWa⟩ : ∃ Wa, w.alloc (.cells (GrV.gs ⟨.slice pe g.evs.length ce, Vr, Vc, Vm, Va, Vd, Vt⟩ g) 27) = Wa := ⟨_, rfl⟩
 rw [hWa] at hgb0
 have hBa : Below w.heap.size w Wa := by rw [← hWa]; exact bW.alloc nW _
 have hsa : Wa.heap.size = w.heap.size + 1 := by rw [← hWa]; simp
 have hrb0 := Blk.new Wa 115 nilF
 have hBb : Below Wa.heap.size Wa (Wa.alloc (.cells nilF 115)) := bW.alloc nW _
 generalize hWb : Wa.alloc (.cells nilF 115) = Wb at *
 rw [hsa] at hrb0
 have e2 : Hid ((w.alloc (.cells #[.int .i64 g.cells, .slice pe g.evs.length ce, Vr, Vc, Vm, Va, Vd, Vt] 27)).alloc (.cells #[.pointer none, .pointer none, .pointer none, .pointer none, .pointer none, .pointer none, .pointer none, .pointer none, .pointer none, .pointer none, .slice none 0 0, .slice none 0 0, .slice none 0 0] 115) = Wb) := by rw [Hid, ← hWb, ← hWa]; rfl
 have HBb : Hid (Below w.heap.size w Wb) := hBa.trans (hBb.mono hBa.size)
 have hw := Qq8 _ g Wb (h.below HBb.out) (hF.step HBb.out)
 unfold GrV.val at hw
 dsimp only at hw
 have HGB := Qa (hgb0.of_below hBb)
 have HRB := Qa hrb0
 generalize hwf : wfB g = q at hw
 have HWF := Qa hwf
 have HW := Qa hw
 have H := Qa h
 have HT := Qa hT
 clear hwf hw hp h hF hT hgb0 hrb0 hBa hBb hsa hWa hWb
 have x0 : Wb.cell? ⟨w.heap.size, 0, none⟩ = some (.int .i64 g.cells) := HGB.out.cell rfl
 have x1 : Wb.cell? ⟨w.heap.size, 1, none⟩ = some (.slice pe g.evs.length ce) := HGB.out.cell rfl
 have x2 : Wb.cell? ⟨w.heap.size, 2, none⟩ = some Vr := HGB.out.cell rfl
 have x3 : Wb.cell? ⟨w.heap.size, 3, none⟩ = some Vc := HGB.out.cell rfl
 have x4 : Wb.cell? ⟨w.heap.size, 4, none⟩ = some Vm := HGB.out.cell rfl
 have x5 : Wb.cell? ⟨w.heap.size, 5, none⟩ = some Va := HGB.out.cell rfl
 have x6 : Wb.cell? ⟨w.heap.size, 6, none⟩ = some Vd := HGB.out.cell rfl
 have x7 : Wb.cell? ⟨w.heap.size, 7, none⟩ = some Vt := HGB.out.cell rfl
 have hgw : w.heap.size < Wb.heap.size := HGB.out.lt
 unfold GrV.val
 dsimp only
 go_enter Tryz.func74, Tryz.ntmps74
 go_upto_region 1 with fail
 rw [e2.out]
 clear e2
 have hrbw : w.heap.size + 1 < Wb.heap.size := HRB.out.lt
 have hrbn : Hid (w.heap.size < w.heap.size + 1) := Nat.lt_succ_self _
 generalize w.heap.size + 1 = rb at *
 cases q
 ·go_upto_region 2 with (first | (go_at_call 125; refine HW.out.mono ?_; rintro e w1 ⟨rfl, hB2⟩))
  have hR := HRB.out.of_below hB2
  go_wp2_with (first | refine wpList_store_row rfl 115 _ _ rfl rb nilF rfl rfl 115 _ hR kW rfl Qxf ?_)
  (try simp only [Exit.inBlock, Exit.then])
  refine bodyPost_ret (Qes rfl _ _ rb 115 nilF (0, 0) _ rfl (hR.setRow' nilF) Tryz.underlying115 rfl kW) rfl ?_
  exact .inr ⟨HWF.out, rfl, (Qaa HBb.out HBb.out.size hB2).trans (Qan _ (by have := hrbn.out; omega))⟩
 ·have hn := Qvg HWF.out
  go_upto_region 5 with (first | (go_at_call 125; refine HW.out.mono ?_; rintro e w1 ⟨rfl, hB2⟩; have y1 := (HGB.out.of_below hB2).cell (j := 1) (v := .slice pe g.evs.length ce) rfl))
  have hlb := Blk.new w1 23 #[.slice pe g.evs.length ce]
  have hBl : Below w1.heap.size w1 (w1.alloc (.cells #[.slice pe g.evs.length ce] 23)) := bW.alloc nW _
  have hrb2 : Blk (w1.alloc (.cells #[.slice pe g.evs.length ce] 23)) rb 115 nilF := (HRB.out.of_below hB2).alloc _
  have hgb2 := (HGB.out.of_below hB2).alloc (.cells #[.slice pe g.evs.length ce] 23)
  have hBW := Qaa (Qaa HBb.out HBb.out.size hB2) (Qaa HBb.out HBb.out.size hB2).size hBl
  generalize w1.alloc (.cells #[.slice pe g.evs.length ce] 23) = W0 at *
  generalize w1.heap.size = lb at *
  have HBASE : Hid (DBase ⟨.slice pe g.evs.length ce, Vr, Vc, Vm, Va, Vd, Vt⟩ g w w.heap.size lb W0) := ⟨H.out, hBW, hgb2, hlb, hn⟩
  have HRB2 := Qa hrb2
  have HBW := Qa hBW
  clear hlb hBl hrb2 hgb2 hBW y1 x0 x1 x2 x3 x4 x5 x6 x7 hB2 HW
  go_cut [6] (fun v6 wx => ∃ m v lo, v6 = pv m ∧ Hid (DMid g W0 m v lo wx))
  case first =>
   refine wp_region_held_drew (S := (fun w' => w'.cell? ⟨w.heap.size, 2, none⟩ = some Vr ∧ w'.cell? ⟨w.heap.size, 3, none⟩ = some Vc ∧ w'.cell? ⟨w.heap.size, 4, none⟩ = some Vm ∧ w'.cell? ⟨w.heap.size, 5, none⟩ = some Va ∧ w'.cell? ⟨w.heap.size, 6, none⟩ = some Vd ∧ w'.cell? ⟨w.heap.size, 7, none⟩ = some Vt ∧ w'.cell? ⟨lb, 0, none⟩ = some (.slice pe g.evs.length ce))) kW (HBASE.out.s bW.drew) (fun hHeld => ?_)
   refine tzW 0 rfl ?_
   refine tzW 1 rfl ?_
   refine tzW 3 rfl ?_
   refine tzW 4 rfl ?_
   refine tzW 5 rfl ?_
   refine tzW 7 rfl ?_
   refine tzW 8 rfl ?_
   refine tzW 9 rfl ?_
   refine tzW 11 rfl ?_
   refine tzW 12 rfl ?_
   refine tzW 13 rfl ?_
   refine tzW 15 rfl ?_
   refine tzW 16 rfl ?_
   refine tzW 18 rfl ?_
   refine tzW 19 rfl ?_
   refine tzW 21 rfl ?_
   refine tzW 22 rfl ?_
   refine tzW 23 rfl ?_
   refine tzW 25 rfl ?_
   refine tzW 26 rfl ?_
   refine tzW 27 rfl ?_
   refine tzW 29 rfl ?_
   refine tzW 30 rfl ?_
   refine tzW 31 rfl ?_
   refine tzW 33 rfl ?_
   refine tzW 35 rfl ?_
   refine tzW 37 rfl ?_
   refine (Qjs callD 40 1 LD (DAct ⟨.slice pe g.evs.length ce, Vr, Vc, Vm, Va, Vd, Vt⟩ g w.heap.size lb rb W0) QBk Qzk (by decide +kernel) (by decide +kernel) kW ?step ?stepA ?fin 13 0 rfl _ _ hHeld).2 ?start
   case start => exact DAct.start rfl (by simp only [Qbd, List.forall_mem_cons]; exact ⟨rfl, rfl, rfl, rfl, rfl, rfl, rfl, rfl, rfl, rfl, rfl, rfl, rfl, rfl, rfl, rfl, rfl, rfl, rfl, rfl, rfl, rfl, rfl, rfl, rfl, rfl, rfl, fun _ h => by cases h⟩) bW.drew
   case step =>
    intro j hj fl a wj hA hS
    obtain ⟨x, lo, rfl, hI⟩ := hA
    match j, hj with
    | 0, _ =>
     have h15 : x 15 = .int .i64 (g.evs.length : Int) := hI.fix (15, _) (by simp [Qbd])
     have h16 : x 16 = .func (.func 127) #[] #[pv lb] := hI.fix (16, _) (by simp [Qbd])
     have HC := Qa (Qo0 (.slice pe g.evs.length ce) g.evs lb wj (HBASE.out.lblk.of_below hI.bel) (HBASE.out.gr.ev.below (HBASE.out.belW hI.bel)) hn)
     have HC2 := Qa (Qbj (xs := #[x 15, x 16]) (by rw [h15, h16]) HC.out)
     clear HC h15 h16
     refine wpOp_step (i := 2) rfl (fun K' hK => ?_)
     have HK := Qa hK
     clear hK
     simp only [z1, z2, z3]
     go_simp
     refine HC2.out.mono ?_
     rintro e w' ⟨b2, c2, L, rfl, hM, hTw⟩
     exact HK.out _ _ ⟨HBASE.out.s (hI.bel.trans (hM.below.mono hI.bel.size)), _, _, rfl, hI.call (v := pv b2) oW (RES.mkRel oW hM hTw) hM.below⟩
    | 1, _ =>
     have h18 : x 18 = .int .i64 (g.evs.length : Int) := hI.fix (18, _) (by simp [Qbd])
     have h20 : x 20 = Vr := hI.fix (20, _) (by simp [Qbd])
     have HC := Qa (OfT (g.evs.length : Int) Vr g.rf wj (HBASE.out.gr.rf.below (HBASE.out.belW hI.bel)))
     have HC2 := Qa (Qbj (xs := #[x 18, x 20]) (by rw [h18, h20]) HC.out)
     clear HC h18 h20
     refine wpOp_step (i := 6) rfl (fun K' hK => ?_)
     have HK := Qa hK
     clear hK
     simp only [z1, z2, z3]
     go_simp
     refine HC2.out.mono ?_
     rintro e w' ⟨b2, c2, rfl, hM⟩
     exact HK.out _ _ ⟨HBASE.out.s (hI.bel.trans (hM.below.mono hI.bel.size)), _, _, rfl, hI.call (v := pv b2) oW (RES.mkRel oW hM (Qh5 hn _)) hM.below⟩
    | 2, _ =>
     have h22 : x 22 = .int .i64 (g.evs.length : Int) := hI.fix (22, _) (by simp [Qbd])
     have h24 : x 24 = Vc := hI.fix (24, _) (by simp [Qbd])
     have HC := Qa (Qnn g.evs.length Vc g.co wj (HBASE.out.gr.co.below (HBASE.out.belW hI.bel)) hn)
     have HC2 := Qa (Qbj (xs := #[x 22, x 24]) (by rw [h22, h24]) HC.out)
     clear HC h22 h24
     refine wpOp_step (i := 10) rfl (fun K' hK => ?_)
     have HK := Qa hK
     clear hK
     simp only [z1, z2, z3]
     go_simp
     refine HC2.out.mono ?_
     rintro e w' ⟨b2, c2, L, rfl, hM, hTw⟩
     exact HK.out _ _ ⟨HBASE.out.s (hI.bel.trans (hM.below.mono hI.bel.size)), _, _, rfl, hI.call (v := pv b2) oW (RES.mkRel oW hM hTw) hM.below⟩
    | 3, _ =>
     have h26 : x 26 = .int .i64 (g.evs.length : Int) := hI.fix (26, _) (by simp [Qbd])
     have h28 : x 28 = Vm := hI.fix (28, _) (by simp [Qbd])
     have HC := Qa (OfT (g.evs.length : Int) Vm g.rmw wj (HBASE.out.gr.rmw.below (HBASE.out.belW hI.bel)))
     have HC2 := Qa (Qbj (xs := #[x 26, x 28]) (by rw [h26, h28]) HC.out)
     clear HC h26 h28
     refine wpOp_step (i := 14) rfl (fun K' hK => ?_)
     have HK := Qa hK
     clear hK
     simp only [z1, z2, z3]
     go_simp
     refine HC2.out.mono ?_
     rintro e w' ⟨b2, c2, rfl, hM⟩
     exact HK.out _ _ ⟨HBASE.out.s (hI.bel.trans (hM.below.mono hI.bel.size)), _, _, rfl, hI.call (v := pv b2) oW (RES.mkRel oW hM (Qh5 hn _)) hM.below⟩
    | 4, _ =>
     have h30 : x 30 = .int .i64 (g.evs.length : Int) := hI.fix (30, _) (by simp [Qbd])
     have h31 : x 31 = .func (.func 131) #[] #[pv lb] := hI.fix (31, _) (by simp [Qbd])
     have HC := Qa (Qo1 (.slice pe g.evs.length ce) g.evs lb wj (HBASE.out.lblk.of_below hI.bel) (HBASE.out.gr.ev.below (HBASE.out.belW hI.bel)) hn)
     have HC2 := Qa (Qbj (xs := #[x 30, x 31]) (by rw [h30, h31]) HC.out)
     clear HC h30 h31
     refine wpOp_step (i := 17) rfl (fun K' hK => ?_)
     have HK := Qa hK
     clear hK
     simp only [z1, z2, z3]
     go_simp
     refine HC2.out.mono ?_
     rintro e w' ⟨b2, c2, L, rfl, hM, hTw⟩
     exact HK.out _ _ ⟨HBASE.out.s (hI.bel.trans (hM.below.mono hI.bel.size)), _, _, rfl, hI.call (v := pv b2) oW (RES.mkRel oW hM hTw) hM.below⟩
    | 5, _ =>
     have h33 : x 33 = .int .i64 (g.evs.length : Int) := hI.fix (33, _) (by simp [Qbd])
     have h34 : x 34 = .func (.func 133) #[] #[pv lb] := hI.fix (34, _) (by simp [Qbd])
     have HC := Qa (Qo2 (.slice pe g.evs.length ce) g.evs lb wj (HBASE.out.lblk.of_below hI.bel) (HBASE.out.gr.ev.below (HBASE.out.belW hI.bel)) hn)
     have HC2 := Qa (Qbj (xs := #[x 33, x 34]) (by rw [h33, h34]) HC.out)
     clear HC h33 h34
     refine wpOp_step (i := 20) rfl (fun K' hK => ?_)
     have HK := Qa hK
     clear hK
     simp only [z1, z2, z3]
     go_simp
     refine HC2.out.mono ?_
     rintro e w' ⟨b2, c2, L, rfl, hM, hTw⟩
     exact HK.out _ _ ⟨HBASE.out.s (hI.bel.trans (hM.below.mono hI.bel.size)), _, _, rfl, hI.call (v := pv b2) oW (RES.mkRel oW hM hTw) hM.below⟩
    | 6, _ =>
     have h36 : x 36 = .int .i64 (g.evs.length : Int) := hI.fix (36, _) (by simp [Qbd])
     have h38 : x 38 = Va := hI.fix (38, _) (by simp [Qbd])
     have HC := Qa (OfT (g.evs.length : Int) Va g.addr wj (HBASE.out.gr.addr.below (HBASE.out.belW hI.bel)))
     have HC2 := Qa (Qbj (xs := #[x 36, x 38]) (by rw [h36, h38]) HC.out)
     clear HC h36 h38
     refine wpOp_step (i := 24) rfl (fun K' hK => ?_)
     have HK := Qa hK
     clear hK
     simp only [z1, z2, z3]
     go_simp
     refine HC2.out.mono ?_
     rintro e w' ⟨b2, c2, rfl, hM⟩
     exact HK.out _ _ ⟨HBASE.out.s (hI.bel.trans (hM.below.mono hI.bel.size)), _, _, rfl, hI.call (v := pv b2) oW (RES.mkRel oW hM (Qh5 hn _)) hM.below⟩
    | 7, _ =>
     have h40 : x 40 = .int .i64 (g.evs.length : Int) := hI.fix (40, _) (by simp [Qbd])
     have h42 : x 42 = Vd := hI.fix (42, _) (by simp [Qbd])
     have HC := Qa (OfT (g.evs.length : Int) Vd g.dat wj (HBASE.out.gr.dat.below (HBASE.out.belW hI.bel)))
     have HC2 := Qa (Qbj (xs := #[x 40, x 42]) (by rw [h40, h42]) HC.out)
     clear HC h40 h42
     refine wpOp_step (i := 28) rfl (fun K' hK => ?_)
     have HK := Qa hK
     clear hK
     simp only [z1, z2, z3]
     go_simp
     refine HC2.out.mono ?_
     rintro e w' ⟨b2, c2, rfl, hM⟩
     exact HK.out _ _ ⟨HBASE.out.s (hI.bel.trans (hM.below.mono hI.bel.size)), _, _, rfl, hI.call (v := pv b2) oW (RES.mkRel oW hM (Qh5 hn _)) hM.below⟩
    | 8, _ =>
     have h44 : x 44 = .int .i64 (g.evs.length : Int) := hI.fix (44, _) (by simp [Qbd])
     have h46 : x 46 = Vt := hI.fix (46, _) (by simp [Qbd])
     have HC := Qa (OfT (g.evs.length : Int) Vt g.ctrl wj (HBASE.out.gr.ctrl.below (HBASE.out.belW hI.bel)))
     have HC2 := Qa (Qbj (xs := #[x 44, x 46]) (by rw [h44, h46]) HC.out)
     clear HC h44 h46
     refine wpOp_step (i := 32) rfl (fun K' hK => ?_)
     have HK := Qa hK
     clear hK
     simp only [z1, z2, z3]
     go_simp
     refine HC2.out.mono ?_
     rintro e w' ⟨b2, c2, rfl, hM⟩
     exact HK.out _ _ ⟨HBASE.out.s (hI.bel.trans (hM.below.mono hI.bel.size)), _, _, rfl, hI.call (v := pv b2) oW (RES.mkRel oW hM (Qh5 hn _)) hM.below⟩
    | 9, _ =>
     have h48 : x 48 = .slice pe g.evs.length ce := hI.fix (48, _) (by simp [Qbd])
     have HC := Qa (Qf7 (.slice pe g.evs.length ce) g.evs 1 wj (HBASE.out.gr.ev.below (HBASE.out.belW hI.bel)))
     have HC2 := Qa (Qbj (xs := #[x 48, .int .i64 1]) (by rw [h48]) HC.out)
     clear HC h48
     refine wpOp_step (i := 34) rfl (fun K' hK => ?_)
     have HK := Qa hK
     clear hK
     simp only [z1, z2, z3]
     go_simp
     refine HC2.out.mono ?_
     rintro e w' ⟨b2, rfl, hk2, hl2, hB2⟩
     exact HK.out _ _ ⟨HBASE.out.s (hI.bel.trans (hB2.mono hI.bel.size)), _, _, rfl, hI.call (v := .slice (some ⟨b2, 0, none⟩) g.evs.length g.evs.length) oW (RES.mkTru oW 1 oW hk2 hl2) hB2⟩
    | 10, _ =>
     have h50 : x 50 = .slice pe g.evs.length ce := hI.fix (50, _) (by simp [Qbd])
     have HC := Qa (Qf7 (.slice pe g.evs.length ce) g.evs 2 wj (HBASE.out.gr.ev.below (HBASE.out.belW hI.bel)))
     have HC2 := Qa (Qbj (xs := #[x 50, .int .i64 2]) (by rw [h50]) HC.out)
     clear HC h50
     refine wpOp_step (i := 36) rfl (fun K' hK => ?_)
     have HK := Qa hK
     clear hK
     simp only [z1, z2, z3]
     go_simp
     refine HC2.out.mono ?_
     rintro e w' ⟨b2, rfl, hk2, hl2, hB2⟩
     exact HK.out _ _ ⟨HBASE.out.s (hI.bel.trans (hB2.mono hI.bel.size)), _, _, rfl, hI.call (v := .slice (some ⟨b2, 0, none⟩) g.evs.length g.evs.length) oW (RES.mkTru oW 2 oW hk2 hl2) hB2⟩
    | 11, _ =>
     have h52 : x 52 = .slice pe g.evs.length ce := hI.fix (52, _) (by simp [Qbd])
     have HC := Qa (Qf7 (.slice pe g.evs.length ce) g.evs 3 wj (HBASE.out.gr.ev.below (HBASE.out.belW hI.bel)))
     have HC2 := Qa (Qbj (xs := #[x 52, .int .i64 3]) (by rw [h52]) HC.out)
     clear HC h52
     refine wpOp_step (i := 38) rfl (fun K' hK => ?_)
     have HK := Qa hK
     clear hK
     simp only [z1, z2, z3]
     go_simp
     refine HC2.out.mono ?_
     rintro e w' ⟨b2, rfl, hk2, hl2, hB2⟩
     exact HK.out _ _ ⟨HBASE.out.s (hI.bel.trans (hB2.mono hI.bel.size)), _, _, rfl, hI.call (v := .slice (some ⟨b2, 0, none⟩) g.evs.length g.evs.length) oW (RES.mkTru oW 3 oW hk2 hl2) hB2⟩
    | 12, _ =>
     have hbr := Qvi (fun i hi => hI.res i hi hi) wj
     refine wpOp_step (i := 39) rfl (fun K' hK => ?_)
     have HK := Qa hK
     clear hK
     rw [if_pos (by rfl)]
     refine Qxg rfl (by simp [Act.eval]) hbr ?_
     exact HK.out _ _ ⟨hS, _, lo, rfl, hI.build⟩
   case stepA =>
    intro j hj a wj hA hS
    obtain ⟨x, lo, rfl, hI⟩ := hA
    refine wpOp_step (i := 40) rfl (fun K' hK => ?_)
    have HK := Qa hK
    clear hK
    simp only [z1, z2, z3]
    go_simp
    exact HK.out _ _ ⟨HBASE.out.s (hI.bel.trans ((Below.refl wj.heap.size wj).alloc nW _ |>.mono hI.bel.size)), _, _, rfl, hI.alloc⟩
   case fin =>
    intro a wj hA hS
    obtain ⟨x, lo, rfl, hI⟩ := hA
    obtain ⟨m, h6, hm, hm2⟩ := hI.alc rfl
    have h54 := hI.bld rfl
    refine wpAnyH_ready (rs := [41]) kW sW ?_
    refine AllReadyH.cons rfl (fun K hK => ?_) AllReadyH.nil
    rw [if_pos (by rfl)]
    refine wp_store_row 115 (.tmp 6) (.tmp 54) rfl m (Qmy x) h6 h54 115 _ hm kW rfl (Ql (v := fun i => x (slD i)) (fun i hi => hI.res i (Nat.lt_of_lt_of_le hi dW) hi) _ rfl) ?_
    refine hK.out _ _ (HBASE.out.s (hI.bel.trans (Qan _ hm2))) (fun _ => ?_)
    refine wpAnyH_done kW ?_ _
    have g0 : x 0 = .agg #[.int .i64 g.cells, .slice pe g.evs.length ce, Vr, Vc, Vm, Va, Vd, Vt] := hI.fix (0, _) (by simp [Qbd, GrV.val])
    have g1 : x 1 = .pointer (some ⟨w.heap.size, 0, none⟩) := hI.fix (1, _) (by simp [Qbd])
    have g2 : x 2 = .pointer (some ⟨rb, 0, none⟩) := hI.fix (2, _) (by simp [Qbd])
    have g3 : x 3 = .int .i64 0 := hI.fix (3, _) (by simp [Qbd])
    have g4 : x 4 = .pointer (some ⟨lb, 0, none⟩) := hI.fix (4, _) (by simp [Qbd])
    have g5 : x 5 = .int .i64 (g.evs.length : Int) := hI.fix (5, _) (by simp [Qbd])
    have HMM : Hid (DMid g W0 m (fun i => x (slD i)) lo (wj.setRow m (Qmy x))) := ⟨hm.setRow' _, fun i hi => (hI.res i (Nat.lt_of_lt_of_le hi dW) hi).row hm _, fun i hi => hI.mono i (Nat.lt_of_lt_of_le hi dW) hi, by rw [setRow_size]; exact hI.top, hI.bot, hI.bel.trans (Qan _ hm2), hm2⟩
    show Exit.then _ _ Exit.normal ⟨Qtc x, []⟩ _
    simp only [Qtc, g0, g1, g2, g3, g4, g5, h6]
    go_step
    go_step
    go_meet
    case rel => exact ⟨m, _, lo, rfl, HMM⟩
  case rest =>
   obtain ⟨m, v, lo, rfl, HM⟩ := hcut
   obtain ⟨b1, c1, L1, e1, hr1, ht1, _⟩ := (HM.out.res 1 oW).rel oW
   obtain ⟨b2, c2, L2, e2, hr2, ht2, _⟩ := (HM.out.res 2 oW).rel oW
   generalize hwb : wc = wb at *
   clear hwb
   have y1 : wb.cell? ⟨m, 1, none⟩ = some (pv b1) := HM.out.blk.cell (by rw [← e1]; rfl)
   have y2 : wb.cell? ⟨m, 2, none⟩ = some (pv b2) := HM.out.blk.cell (by rw [← e2]; rfl)
   have HBWb : Hid (Below w.heap.size w wb) := Qaa HBW.out HBW.out.size HM.out.bel
   have HI := Qa (Qja b1 c1 L1 wb.drew hr1.drew (HT.out.step' (HBWb.out.drew)))
   have HR2 := Qa hr2
   have HTW : Hid (∀ W, Below wb.heap.size wb W → Tab W) := fun W hW => HT.out.step' (Qaa HBWb.out HBWb.out.size hW)
   have HFR := Qa (QBi hn (Qpp ht1 hr1) (Qpp ht2 hr2))
   have hmw : m < wb.heap.size := HM.out.blk.lt
   have E1 := Qa e1
   have E2 := Qa e2
   clear e1 e2 hr1 hr2 ht1 ht2
   go_upto_region 6 with fail
   go_cut [] (fun wx => ∃ f lo3, Hid (DEnd g W0 m v f lo lo3 wx))
   case first =>
    go_region_held3 (fun w' => w'.cell? ⟨m, 1, none⟩ = some (pv b1) ∧ w'.cell? ⟨m, 2, none⟩ = some (pv b2)) (first | assumption | exact ⟨y1, y2⟩)
     (first
     | (go_at_call 136; refine HI.out.mono ?_; rintro e w5 ⟨b5, c5, rfl, hM5⟩; have hB5 : Below wb.heap.size wb w5 := ((Below.refl wb.heap.size wb).drew).trans hM5.below; have K5 : w5.cell? ⟨m, 1, none⟩ = some (pv b1) ∧ w5.cell? ⟨m, 2, none⟩ = some (pv b2) := ⟨(hB5.cell (p := ⟨m, 1, none⟩) hmw).trans y1, (hB5.cell (p := ⟨m, 2, none⟩) hmw).trans y2⟩; have HC5 := Qa (Ql6 b5 c5 b2 c2 _ L2 w5 hM5.rel (HR2.out.below hB5) (HTW.out w5 hB5)))
     | (go_at_call 135; refine HC5.out.mono ?_; rintro e w6 ⟨b6, c6, rfl, hM6⟩; have hB6 : Below wb.heap.size wb w6 := Qaa hB5 hB5.size hM6.below; have K6 : w6.cell? ⟨m, 1, none⟩ = some (pv b1) ∧ w6.cell? ⟨m, 2, none⟩ = some (pv b2) := ⟨(hB6.cell (p := ⟨m, 1, none⟩) hmw).trans y1, (hB6.cell (p := ⟨m, 2, none⟩) hmw).trans y2⟩; have z3 : w6.cell? ⟨m, 3, none⟩ = some (.pointer none) := (HM.out.blk.of_below hB6).cell rfl; have z3f : w6.frozen? ⟨m, 3, none⟩ = false := (HM.out.blk.of_below hB6).frozen 3; have K7 : (w6.setCell ⟨m, 3, none⟩ (.pointer (some ⟨b6, 0, none⟩))).cell? ⟨m, 1, none⟩ = some (pv b1) ∧ (w6.setCell ⟨m, 3, none⟩ (.pointer (some ⟨b6, 0, none⟩))).cell? ⟨m, 2, none⟩ = some (pv b2) := ⟨((HM.out.blk.of_below hB6).set 3 (pv b6)).cell (by rw [← E1.out]; rfl), ((HM.out.blk.of_below hB6).set 3 (pv b6)).cell (by rw [← E2.out]; rfl)⟩))
    go_wp2_with fail
    go_meet
    case rel => exact ⟨pv b6, _, HM.out.fin hB5 hM6 HFR.out⟩
   case rest =>
    obtain ⟨f, lo3, HE⟩ := hcut
    have hb1 := HE.out.blk
    have hb2 := HRB2.out.of_below HE.out.bel
    go_wp2_with (first | refine wpList_load_row rfl 115 _ rfl m rfl 115 (Qgq v f) (0, 0) _ hb1 Tryz.underlying115 rfl kW ?_ | refine wpList_store_row rfl 115 _ _ rfl rb (Qgq v f) rfl rfl 115 _ hb2 kW rfl (Ql HE.out.res f HE.out.fr.one) ?_)
    (try simp only [Exit.inBlock, Exit.then])
    refine bodyPost_ret (Qes rfl _ _ rb 115 (Qgq v f) (0, 0) _ rfl (hb2.setRow' _) Tryz.underlying115 rfl kW) rfl ?_
    refine .inl ⟨HWF.out, v, f, lo3, rfl, ⟨fun i hi => (HE.out.res i hi).row hb2 _, HE.out.fr.row hb2 _, HE.out.mono, by rw [setRow_size]; exact HE.out.top, by rw [HE.out.bot]; exact HBW.out.size⟩, ?_⟩
    exact (Qaa HBW.out HBW.out.size HE.out.bel).trans (Qan _ (Nat.le_of_lt hrbn.out))
def ListR {α : Type} (enc : α → Value) (w : World) (v : Value) (l : List α) : Prop := ∃ p cap, v = .slice p l.length cap ∧ (0 < l.length → ∃ s o, p = some ⟨s, o, none⟩ ∧ s < w.heap.size ∧ ∀ (i : Nat) (x : α), l[i]? = some x → w.cell? ⟨s, o + i, none⟩ = some (enc x))
abbrev Qfo : Int → Value := fun x => .int .i64 x
theorem ListR.below {α : Type} {enc : α → Value} {w w' : World} {v : Value} {l : List α} (h : ListR enc w v l) (hb : Below w.heap.size w w') : ListR enc w' v l := by
 obtain ⟨p, cap, e, h1⟩ := h
 refine ⟨p, cap, e, fun h0 => ?_⟩
 obtain ⟨s, o, e2, h2, h3⟩ := h1 h0
 exact ⟨s, o, e2, Nat.lt_of_lt_of_le h2 hb.size, fun i x hx => (hb.cell (p := ⟨s, o + i, none⟩) h2).trans (h3 i x hx)⟩
theorem ListR.ints {w : World} {v : Value} {l : List Int} (h : ListR Qfo w v l) : IntsR w v l := by
 obtain ⟨p, cap, rfl, h1⟩ := h
 by_cases h0 : 0 < l.length
 ·obtain ⟨s, o, rfl, h2, h3⟩ := h1 h0
  exact .inr ⟨s, o, cap, rfl, h2, h3⟩
 ·have : l = [] := List.eq_nil_of_length_eq_zero oW
  subst this
  exact .inl ⟨p, cap, rfl, rfl⟩
theorem Qnw {α : Type} {enc : α → Value} {w : World} {base : Nat} {e : TypeId} {v : Value} {l : List α} (h : w.ownsRow base e 1 v l.length (l.map enc)) : ListR enc w v l := by
 by_cases h0 : 0 < l.length
 ·obtain ⟨s, cap, rfl, h1, h2⟩ := Qgj h sW h0
  exact ⟨_, _, rfl, fun _ => ⟨s, 0, rfl, h1, fun i x hx => by rw [Nat.zero_add]; exact h2 i _ (by simp [hx])⟩⟩
 ·rcases h.2 with ⟨rfl, _⟩ | ⟨g, cap, cur, rfl, _⟩
  ·have : l = [] := List.eq_nil_of_length_eq_zero oW
   subst this
   exact ⟨_, _, rfl, fun h => by simp at h⟩
  ·exact ⟨_, _, rfl, fun h => absurd h h0⟩
theorem Qpr {α : Type} {enc : α → Value} {w : World} {b : Nat} {t : TypeId} {l : List α} {cap : Nat} (h : Blk w b t (l.map enc).toArray) : ListR enc w (.slice (some ⟨b, 0, none⟩) l.length cap) l :=
 ⟨_, _, rfl, fun _ => ⟨b, 0, rfl, h.lt, fun i x hx => h.cell (by simp [hx])⟩⟩
theorem Qom (u v : Value) (l m : List Int) (w : World) (h1 : ListR Qfo w u l) (h2 : ListR Qfo w v m) (hl : l.length ≤ 9223372036854775807) :
  Calls Tryz.prog 26 #[u, v] w fun r w' => r = .returned (.bool (decide (l = m))) ∧ Below w.heap.size w w' := by
 obtain ⟨p1, c1, rfl, hp1⟩ := h1
 obtain ⟨p2, c2, rfl, hp2⟩ := h2
 have HP1 := Qa hp1
 have HP2 := Qa hp2
 generalize hr : decide (l = m) = r
 have HR := Qa hr
 clear hp1 hp2 hr
 go_enter Tryz.func26, Tryz.ntmps26
 by_cases hlm : l.length = m.length
 ·rw [← hlm]
  have HLM := Qa hlm
  clear hlm
  go_wp2_with fail
  go_loopg [5] l.length (fun f i wr => ∃ k : Nat, i = .int .i64 ((k : Nat) : Int) ∧ k ≤ l.length ∧ Hid (k + f = l.length) ∧ Hid (∀ j, j < k → l[j]? = m[j]?) ∧ Hid (Below w.heap.size w wr))
  case atStart => exact ⟨0, rfl, Nat.zero_le _, Nat.zero_add _, (fun j h => by omega), Below.refl _ _⟩
  case round =>
   obtain ⟨k, rfl, hk, HKF, HALL, HB⟩ := hrel
   by_cases hkl : k < l.length
   ·obtain ⟨s1, o1, rfl, hs1, k1⟩ := HP1.out oW
    obtain ⟨s2, o2, rfl, hs2, k2⟩ := HP2.out (by have := HLM.out; omega)
    obtain ⟨x, hx⟩ : ∃ x, l[k]? = some x := ⟨_, List.getElem?_eq_getElem hkl⟩
    obtain ⟨y, hy⟩ : ∃ y, m[k]? = some y := ⟨_, List.getElem?_eq_getElem (by have := HLM.out; omega)⟩
    have x0 := (HB.out.cell (p := ⟨s1, o1 + k, none⟩) hs1).trans (k1 k x hx)
    have y0 := (HB.out.cell (p := ⟨s2, o2 + k, none⟩) hs2).trans (k2 k y hy)
    dsimp only [Qfo] at x0 y0
    have K0 : (0 : Int) ≤ (k : Int) := by omega
    have K1 : (k : Int) < (l.length : Int) := by omega
    have HX := Qa hx
    have HY := Qa hy
    clear k1 k2 hx hy
    by_cases hxy : x = y
    ·subst hxy
     have q1 : ((x : Int) != x) = false := by simp
     go_upto_region 6 with fail
     go_quiet (fail)
     go_wp2_with fail
     go_roundg (l.length - (k + 1))
     all_goals skip
     case measure => have := HKF.out; omega
     case rel =>
      refine ⟨k + 1, by go_num, oW, by have := HKF.out; rw [Hid]; omega, fun j hj => ?_, Qab HB.out _⟩
      by_cases e : j = k
      ·subst e; rw [HX.out, HY.out]
      ·exact HALL.out j oW
    ·have q1 : ((x : Int) != y) = true := by simp [hxy]
     obtain rfl : r = false := by
      rw [← HR.out]
      exact decide_eq_false (fun e => hxy (by have := HX.out; rw [e, HY.out] at this; exact (Option.some.inj this).symm))
     go_upto_region 6 with fail
     go_quiet (fail)
     go_wp2_with fail
     go_ret
     exact ⟨rfl, Qab HB.out _⟩
   ·obtain rfl : k = l.length := by omega
    obtain rfl : r = true := by
     rw [← HR.out]
     refine decide_eq_true (List.ext_getElem? (fun j => ?_))
     by_cases hj : j < l.length
     ·exact HALL.out j hj
     ·rw [List.getElem?_eq_none oW, List.getElem?_eq_none (by have := HLM.out; omega)]
    go_wp2_with fail
    go_ret
    exact ⟨rfl, HB.out⟩
 ·have q0 : (((l.length : Int)) != (m.length : Int)) = true := by rw [bne_iff_ne]; omega
  obtain rfl : r = false := by
   rw [← HR.out]
   exact decide_eq_false (fun e => hlm (by rw [e]))
  go_wp2_with fail
  go_ret
  exact ⟨rfl, Below.refl _ _⟩
theorem Qm0 (u v : Value) (l m : List (Int × Int)) (w : World) (h1 : PArg w u l) (h2 : PArg w v m) :
  Calls Tryz.prog 32 #[u, v] w fun r w' => r = .returned (.bool (decide (l = m))) ∧ Below w.heap.size w w' := by
 obtain ⟨p1, c1, rfl, hp1, hl⟩ := Qae h1
 obtain ⟨p2, c2, rfl, hp2, _⟩ := Qae h2
 have HP1 := Qa hp1
 have HP2 := Qa hp2
 generalize hr : decide (l = m) = r
 have HR := Qa hr
 clear hp1 hp2 hr h1 h2
 go_enter Tryz.func32, Tryz.ntmps32
 by_cases hlm : l.length = m.length
 ·rw [← hlm]
  have HLM := Qa hlm
  clear hlm
  go_wp2_with fail
  go_loopg [5] l.length (fun f i wr => ∃ k : Nat, i = .int .i64 ((k : Nat) : Int) ∧ k ≤ l.length ∧ Hid (k + f = l.length) ∧ Hid (∀ j, j < k → l[j]? = m[j]?) ∧ Hid (Below w.heap.size w wr))
  case atStart => exact ⟨0, rfl, Nat.zero_le _, Nat.zero_add _, (fun j h => by omega), Below.refl _ _⟩
  case round =>
   obtain ⟨k, rfl, hk, HKF, HALL, HB⟩ := hrel
   by_cases hkl : k < l.length
   ·obtain ⟨s1, o1, rfl, k1⟩ := HP1.out oW
    obtain ⟨s2, o2, rfl, k2⟩ := HP2.out (by have := HLM.out; omega)
    obtain ⟨⟨xa, xb⟩, hx⟩ : ∃ x, l[k]? = some x := ⟨_, List.getElem?_eq_getElem hkl⟩
    obtain ⟨⟨ya, yb⟩, hy⟩ : ∃ y, m[k]? = some y := ⟨_, List.getElem?_eq_getElem (by have := HLM.out; omega)⟩
    have x0 := (k1.below HB.out).fst k _ hx
    have x1 := (k1.below HB.out).snd k _ hx
    have y0 := (k2.below HB.out).fst k _ hy
    have y1 := (k2.below HB.out).snd k _ hy
    dsimp only at x0 x1 y0 y1
    have K0 : (0 : Int) ≤ (k : Int) := by omega
    have K1 : (k : Int) < (l.length : Int) := by omega
    have HX := Qa hx
    have HY := Qa hy
    have HNE : Hid (¬ (xa = ya ∧ xb = yb) → r = false) := fun h => by
     rw [← HR.out]
     exact decide_eq_false (fun e => h (by have := HX.out; rw [e, HY.out] at this; have := Option.some.inj this; exact ⟨(congrArg Prod.fst this).symm, (congrArg Prod.snd this).symm⟩))
    clear k1 k2 hx hy
    by_cases hxa : xa = ya
    ·subst hxa
     by_cases hxb : xb = yb
     ·subst hxb
      go_upto_region 6 with fail
      go_quiet (fail)
      go_wp2_with fail
      go_roundg (l.length - (k + 1))
      case measure => have := HKF.out; omega
      case rel =>
       refine ⟨k + 1, by go_num, oW, by have := HKF.out; rw [Hid]; omega, fun j hj => ?_, Qab HB.out _⟩
       by_cases e : j = k
       ·subst e; rw [HX.out, HY.out]
       ·exact HALL.out j oW
     ·have q1 : ((xb : Int) == yb) = false := by rw [beq_eq_false_iff_ne]; exact hxb
      obtain rfl := HNE.out (fun h => hxb h.2)
      go_upto_region 6 with fail
      go_quiet (fail)
      go_wp2_with fail
      go_ret
      exact ⟨rfl, Qab HB.out _⟩
    ·have q1 : ((xa : Int) == ya) = false := by rw [beq_eq_false_iff_ne]; exact hxa
     obtain rfl := HNE.out (fun h => hxa h.1)
     go_upto_region 6 with fail
     go_quiet (fail)
     go_wp2_with fail
     go_ret
     exact ⟨rfl, Qab HB.out _⟩
   ·obtain rfl : k = l.length := by omega
    obtain rfl : r = true := by
     rw [← HR.out]
     refine decide_eq_true (List.ext_getElem? (fun j => ?_))
     by_cases hj : j < l.length
     ·exact HALL.out j hj
     ·rw [List.getElem?_eq_none oW, List.getElem?_eq_none (by have := HLM.out; omega)]
    go_wp2_with fail
    go_ret
    exact ⟨rfl, HB.out⟩
 ·have q0 : (((l.length : Int)) != (m.length : Int)) = true := by rw [bne_iff_ne]; omega
  obtain rfl : r = false := by
   rw [← HR.out]
   exact decide_eq_false (fun e => hlm (by rw [e]))
  go_wp2_with fail
  go_ret
  exact ⟨rfl, Below.refl _ _⟩
def Qil (k m : Int) (q : Bool) : Bool :=
 if q then (k == 1 && (m == 11 || m == 12 || m == 16)) || (k == 2 && (m == 11 || m == 13)) || (k == 3 && (m == 14 || m == 15))
 else (k == 1 && (m == 1 || m == 2 || m == 5)) || (k == 2 && (m == 1 || m == 3 || m == 5)) || (k == 3 && (m == 2 || m == 3 || m == 4 || m == 5))
theorem Qgk (N : Nat) (hN : N < 2 ^ 17) (l : List Nat) (h : ∀ i, i < 17 → N.testBit i = l.contains i) (hl : ∀ x ∈ l, x < 17) (m : Int) (hm : 0 ≤ m) : N.testBit m.toNat = l.any (fun x => m == (x : Int)) := by
 by_cases hlt : m.toNat < 17
 ·rw [h _ hlt, Bool.eq_iff_iff, List.contains_iff_mem, List.any_eq_true]
  constructor
  ·intro hx; exact ⟨_, hx, by simp; omega⟩
  ·rintro ⟨x, hx, e⟩
   have : m = (x : Int) := by simpa using e
   rw [show m.toNat = x by omega]; exact hx
 ·rw [Nat.testBit_lt_two_pow (Nat.lt_of_lt_of_le hN (Nat.pow_le_pow_right oW oW)), eq_comm, List.any_eq_false]
  intro x hx e
  have := hl x hx
  have : m = (x : Int) := by simpa using e
  omega
theorem Qxh (k m : Int) (q : Bool) : Qil k m q = (decide (1 ≤ k) && decide (k ≤ 3) && Qf3 k m q) := by
 unfold Qil Qf3
 by_cases hm : 0 ≤ m
 ·rw [decide_eq_true hm, Bool.true_and]
  by_cases h1 : k = 1
  ·subst h1
   cases q
   ·rw [show Qg6 1 false = 38 from rfl, Qgk 38 dW [1, 2, 5] dW dW m hm]; simp [Bool.or_assoc]
   ·rw [show Qg6 1 true = 71680 from rfl, Qgk 71680 dW [11, 12, 16] dW dW m hm]; simp [Bool.or_assoc]
  ·by_cases h2 : k = 2
   ·subst h2
    cases q
    ·rw [show Qg6 2 false = 42 from rfl, Qgk 42 dW [1, 3, 5] dW dW m hm]; simp [Bool.or_assoc]
    ·rw [show Qg6 2 true = 10240 from rfl, Qgk 10240 dW [11, 13] dW dW m hm]; simp [Bool.or_assoc]
   ·by_cases h3 : k = 3
    ·subst h3
     cases q
     ·rw [show Qg6 3 false = 60 from rfl, Qgk 60 dW [2, 3, 4, 5] dW dW m hm]; simp [Bool.or_assoc]
     ·rw [show Qg6 3 true = 49152 from rfl, Qgk 49152 dW [14, 15] dW dW m hm]; simp [Bool.or_assoc]
    ·have : (decide (1 ≤ k) && decide (k ≤ 3)) = false := by
      rw [Bool.and_eq_false_iff, decide_eq_false_iff_not, decide_eq_false_iff_not]; omega
     rw [this, Bool.false_and]
     have e1 : ((k : Int) == 1) = false := by rw [beq_eq_false_iff_ne]; exact h1
     have e2 : ((k : Int) == 2) = false := by rw [beq_eq_false_iff_ne]; exact h2
     have e3 : ((k : Int) == 3) = false := by rw [beq_eq_false_iff_ne]; exact h3
     rw [e1, e2, e3]; cases q <;> rfl
 ·rw [decide_eq_false hm, Bool.false_and, Bool.and_false]
  have ne : ∀ c : Int, 0 ≤ c → ((m : Int) == c) = false := fun c hc => by rw [beq_eq_false_iff_ne]; omega
  rw [ne 11 dW, ne 12 dW, ne 16 dW, ne 13 dW, ne 14 dW, ne 15 dW, ne 1 dW, ne 2 dW, ne 5 dW, ne 3 dW, ne 4 dW]
  cases q <;> simp
theorem Qxi (cells : Int) (e : Ev) (q : Bool) : Qbm cells e q = (decide (0 ≤ e.t) && decide (e.t ≤ 63) && Qil e.k e.m q && (if e.k = 3 then decide (e.l = -1) && decide (e.v = 0) else decide (0 ≤ e.l) && decide (e.l < cells))) := by
 rw [Qxh]
 unfold Qbm
 have : decide (e.t < 64) = decide (e.t ≤ 63) := by rw [decide_eq_decide]; omega
 rw [this]
 cases decide (0 ≤ e.t) <;> cases decide (e.t ≤ 63) <;> cases decide (1 ≤ e.k) <;> cases decide (e.k ≤ 3) <;> cases Qf3 e.k e.m q <;> simp
theorem Qps (k m : Int) (q : Bool) (w : World) : Calls Tryz.prog 97 #[.int .i64 k, .int .i64 m, .bool q] w fun r w' => r = .returned (.bool (Qil k m q)) ∧ w' = w := by
 generalize hr : Qil k m q = r
 unfold Qil at hr
 have HR := Qa hr
 clear hr
 go_enter Tryz.func97, Tryz.ntmps97
 cases q
 ·by_cases k1 : k = 1
  ·subst k1
   by_cases m1 : m = 1
   ·subst m1
    obtain rfl : r = true := by rw [← HR.out]; simp
    go_wp2_with fail
    go_ret
    exact ⟨rfl, rfl⟩
   ·have f1 : ((m : Int) == 1) = false := by rw [beq_eq_false_iff_ne]; exact m1
    by_cases m2 : m = 2
    ·subst m2
     obtain rfl : r = true := by rw [← HR.out]; simp
     go_wp2_with fail
     go_ret
     exact ⟨rfl, rfl⟩
    ·have f2 : ((m : Int) == 2) = false := by rw [beq_eq_false_iff_ne]; exact m2
     by_cases m5 : m = 5
     ·subst m5
      obtain rfl : r = true := by rw [← HR.out]; simp
      go_wp2_with fail
      go_ret
      exact ⟨rfl, rfl⟩
     ·have f5 : ((m : Int) == 5) = false := by rw [beq_eq_false_iff_ne]; exact m5
      obtain rfl : r = false := by rw [← HR.out]; simp [m1, m2, m5]
      go_wp2_with fail
      go_ret
      exact ⟨rfl, rfl⟩
  ·have g1 : ((k : Int) == 1) = false := by rw [beq_eq_false_iff_ne]; exact k1
   by_cases k2 : k = 2
   ·subst k2
    by_cases m1 : m = 1
    ·subst m1
     obtain rfl : r = true := by rw [← HR.out]; simp
     go_wp2_with fail
     go_ret
     exact ⟨rfl, rfl⟩
    ·have f1 : ((m : Int) == 1) = false := by rw [beq_eq_false_iff_ne]; exact m1
     by_cases m3 : m = 3
     ·subst m3
      obtain rfl : r = true := by rw [← HR.out]; simp
      go_wp2_with fail
      go_ret
      exact ⟨rfl, rfl⟩
     ·have f3 : ((m : Int) == 3) = false := by rw [beq_eq_false_iff_ne]; exact m3
      by_cases m5 : m = 5
      ·subst m5
       obtain rfl : r = true := by rw [← HR.out]; simp
       go_wp2_with fail
       go_ret
       exact ⟨rfl, rfl⟩
      ·have f5 : ((m : Int) == 5) = false := by rw [beq_eq_false_iff_ne]; exact m5
       obtain rfl : r = false := by rw [← HR.out]; simp [m1, m3, m5]
       go_wp2_with fail
       go_ret
       exact ⟨rfl, rfl⟩
   ·have g2 : ((k : Int) == 2) = false := by rw [beq_eq_false_iff_ne]; exact k2
    by_cases k3 : k = 3
    ·subst k3
     by_cases m2 : m = 2
     ·subst m2
      obtain rfl : r = true := by rw [← HR.out]; simp
      go_wp2_with fail
      go_ret
      exact ⟨rfl, rfl⟩
     ·have f2 : ((m : Int) == 2) = false := by rw [beq_eq_false_iff_ne]; exact m2
      by_cases m3 : m = 3
      ·subst m3
       obtain rfl : r = true := by rw [← HR.out]; simp
       go_wp2_with fail
       go_ret
       exact ⟨rfl, rfl⟩
      ·have f3 : ((m : Int) == 3) = false := by rw [beq_eq_false_iff_ne]; exact m3
       by_cases m4 : m = 4
       ·subst m4
        obtain rfl : r = true := by rw [← HR.out]; simp
        go_wp2_with fail
        go_ret
        exact ⟨rfl, rfl⟩
       ·have f4 : ((m : Int) == 4) = false := by rw [beq_eq_false_iff_ne]; exact m4
        by_cases m5 : m = 5
        ·subst m5
         obtain rfl : r = true := by rw [← HR.out]; simp
         go_wp2_with fail
         go_ret
         exact ⟨rfl, rfl⟩
        ·have f5 : ((m : Int) == 5) = false := by rw [beq_eq_false_iff_ne]; exact m5
         obtain rfl : r = false := by rw [← HR.out]; simp [m2, m3, m4, m5]
         go_wp2_with fail
         go_ret
         exact ⟨rfl, rfl⟩
    ·have g3 : ((k : Int) == 3) = false := by rw [beq_eq_false_iff_ne]; exact k3
     obtain rfl : r = false := by rw [← HR.out]; simp [k1, k2, k3]
     go_wp2_with fail
     go_ret
     exact ⟨rfl, rfl⟩
 ·by_cases k1 : k = 1
  ·subst k1
   by_cases m11 : m = 11
   ·subst m11
    obtain rfl : r = true := by rw [← HR.out]; simp
    go_wp2_with fail
    go_ret
    exact ⟨rfl, rfl⟩
   ·have f11 : ((m : Int) == 11) = false := by rw [beq_eq_false_iff_ne]; exact m11
    by_cases m12 : m = 12
    ·subst m12
     obtain rfl : r = true := by rw [← HR.out]; simp
     go_wp2_with fail
     go_ret
     exact ⟨rfl, rfl⟩
    ·have f12 : ((m : Int) == 12) = false := by rw [beq_eq_false_iff_ne]; exact m12
     by_cases m16 : m = 16
     ·subst m16
      obtain rfl : r = true := by rw [← HR.out]; simp
      go_wp2_with fail
      go_ret
      exact ⟨rfl, rfl⟩
     ·have f16 : ((m : Int) == 16) = false := by rw [beq_eq_false_iff_ne]; exact m16
      obtain rfl : r = false := by rw [← HR.out]; simp [m11, m12, m16]
      go_wp2_with fail
      go_ret
      exact ⟨rfl, rfl⟩
  ·have g1 : ((k : Int) == 1) = false := by rw [beq_eq_false_iff_ne]; exact k1
   by_cases k2 : k = 2
   ·subst k2
    by_cases m11 : m = 11
    ·subst m11
     obtain rfl : r = true := by rw [← HR.out]; simp
     go_wp2_with fail
     go_ret
     exact ⟨rfl, rfl⟩
    ·have f11 : ((m : Int) == 11) = false := by rw [beq_eq_false_iff_ne]; exact m11
     by_cases m13 : m = 13
     ·subst m13
      obtain rfl : r = true := by rw [← HR.out]; simp
      go_wp2_with fail
      go_ret
      exact ⟨rfl, rfl⟩
     ·have f13 : ((m : Int) == 13) = false := by rw [beq_eq_false_iff_ne]; exact m13
      obtain rfl : r = false := by rw [← HR.out]; simp [m11, m13]
      go_wp2_with fail
      go_ret
      exact ⟨rfl, rfl⟩
   ·have g2 : ((k : Int) == 2) = false := by rw [beq_eq_false_iff_ne]; exact k2
    by_cases k3 : k = 3
    ·subst k3
     by_cases m14 : m = 14
     ·subst m14
      obtain rfl : r = true := by rw [← HR.out]; simp
      go_wp2_with fail
      go_ret
      exact ⟨rfl, rfl⟩
     ·have f14 : ((m : Int) == 14) = false := by rw [beq_eq_false_iff_ne]; exact m14
      by_cases m15 : m = 15
      ·subst m15
       obtain rfl : r = true := by rw [← HR.out]; simp
       go_wp2_with fail
       go_ret
       exact ⟨rfl, rfl⟩
      ·have f15 : ((m : Int) == 15) = false := by rw [beq_eq_false_iff_ne]; exact m15
       obtain rfl : r = false := by rw [← HR.out]; simp [m14, m15]
       go_wp2_with fail
       go_ret
       exact ⟨rfl, rfl⟩
    ·have g3 : ((k : Int) == 3) = false := by rw [beq_eq_false_iff_ne]; exact k3
     obtain rfl : r = false := by rw [← HR.out]; simp [k1, k2, k3]
     go_wp2_with fail
     go_ret
     exact ⟨rfl, rfl⟩
theorem Qtd (V : GrV) (g : Gr) (i kind : Int) (w : World) (h : GrR w V g) : Calls Tryz.prog 98 #[V.val g, .int .i64 i, .int .i64 kind] w fun r w' => r = .returned (.bool (isB g.evs i [kind])) ∧ Below w.heap.size w w' := by
 obtain ⟨Ve, Vr, Vc, Vm, Va, Vd, Vt⟩ := V
 obtain ⟨pe, ce, ee, hp, _⟩ := h.ev
 dsimp only at ee
 subst ee
 have HP := Qa hp
 generalize hr : isB g.evs i [kind] = r
 unfold isB at hr
 have HR := Qa hr
 have HB : Hid (Below w.heap.size w (w.alloc (.cells #[.int .i64 g.cells, .slice pe g.evs.length ce, Vr, Vc, Vm, Va, Vd, Vt] 27))) := bW.alloc nW _
 have hb := Blk.new w 27 #[.int .i64 g.cells, .slice pe g.evs.length ce, Vr, Vc, Vm, Va, Vd, Vt]
 have c1 : (w.alloc (.cells #[.int .i64 g.cells, .slice pe g.evs.length ce, Vr, Vc, Vm, Va, Vd, Vt] 27)).cell? ⟨w.heap.size, 1, none⟩ = some (.slice pe g.evs.length ce) := hb.cell rfl
 clear hr hp h hb
 unfold GrV.val
 dsimp only
 go_enter Tryz.func98, Tryz.ntmps98
 by_cases h0 : 0 ≤ i
 ·by_cases h1 : i < (g.evs.length : Int)
  ·obtain ⟨n, rfl⟩ : ∃ n : Nat, i = (n : Int) := ⟨i.toNat, oW⟩
   obtain ⟨s, o, rfl, hat⟩ := HP.out oW
   have he := Gr.ev_at (g := g) (i := n) oW
   have x1 := (hat.below HB.out).c1 n _ he
   have HG : Hid (g.evs.getD n Ev.zero = g.ev n) := rfl
   have hrr : r = ((g.ev n).k == kind) := by rw [← HR.out, Int.toNat_natCast, HG.out, decide_eq_true h0, decide_eq_true h1, Bool.eq_iff_iff]; simp
   clear he hat HR
   by_cases hk : (g.ev n).k = kind
   ·have hq : (((g.ev n).k : Int) == kind) = true := by rw [beq_iff_eq]; exact hk
    obtain rfl : r = true := by rw [hrr, hq]
    clear hrr hk
    go_wp2_with fail
    go_ret
    exact ⟨rfl, HB.out⟩
   ·have hq : (((g.ev n).k : Int) == kind) = false := by rw [beq_eq_false_iff_ne]; exact hk
    obtain rfl : r = false := by rw [hrr, hq]
    clear hrr hk
    go_wp2_with fail
    go_ret
    exact ⟨rfl, HB.out⟩
  ·obtain rfl : r = false := by rw [← HR.out, decide_eq_false h1]; simp
   go_wp2_with fail
   go_ret
   exact ⟨rfl, HB.out⟩
 ·obtain rfl : r = false := by rw [← HR.out, decide_eq_false h0]; simp
  go_wp2_with fail
  go_ret
  exact ⟨rfl, HB.out⟩
theorem Qon (V : GrV) (g : Gr) (e : Ev) (q : Bool) (w : World) : Calls Tryz.prog 37 #[V.val g, e.val, .bool q] w fun r w' => r = .returned (.bool (Qbm g.cells e q)) ∧ Below w.heap.size w w' := by
 generalize hr : Qbm g.cells e q = r
 rw [Qxi] at hr
 have HR := Qa hr
 clear hr
 obtain ⟨et, ek, el, ev, em⟩ := e
 dsimp only at HR
 obtain ⟨Ve, Vr, Vc, Vm, Va, Vd, Vt⟩ := V
 unfold GrV.val Ev.val
 dsimp only
 have HB : Hid (Below w.heap.size w ((w.alloc (.cells #[.int .i64 g.cells, Ve, Vr, Vc, Vm, Va, Vd, Vt] 27)).alloc (.cells #[.int .i64 et, .int .i64 ek, .int .i64 el, .int .u64 ev, .int .i64 em] 34))) := (bW.alloc nW _).alloc sW _
 have hb1 := (Blk.new w 27 #[.int .i64 g.cells, Ve, Vr, Vc, Vm, Va, Vd, Vt]).alloc (.cells #[.int .i64 et, .int .i64 ek, .int .i64 el, .int .u64 ev, .int .i64 em] 34)
 have hb2 := Blk.new2 w (.cells #[.int .i64 g.cells, Ve, Vr, Vc, Vm, Va, Vd, Vt] 27) 34 #[.int .i64 et, .int .i64 ek, .int .i64 el, .int .u64 ev, .int .i64 em]
 have c0 := hb1.cell (j := 0) (v := .int .i64 g.cells) rfl
 have x0 := hb2.cell (j := 0) (v := .int .i64 et) rfl
 have x1 := hb2.cell (j := 1) (v := .int .i64 ek) rfl
 have x2 := hb2.cell (j := 2) (v := .int .i64 el) rfl
 have x3 := hb2.cell (j := 3) (v := .int .u64 ev) rfl
 have x4 := hb2.cell (j := 4) (v := .int .i64 em) rfl
 have hm := Qps ek em q ((w.alloc (.cells #[.int .i64 g.cells, Ve, Vr, Vc, Vm, Va, Vd, Vt] 27)).alloc (.cells #[.int .i64 et, .int .i64 ek, .int .i64 el, .int .u64 ev, .int .i64 em] 34))
 generalize hmm : Qil ek em q = b at hm HR
 have HM := Qa hm
 clear hm hmm hb1 hb2
 go_enter Tryz.func37, Tryz.ntmps37
 by_cases h0 : 0 ≤ et
 ·by_cases h1 : et ≤ 63
  ·rw [decide_eq_true h0, decide_eq_true h1, Bool.true_and, Bool.true_and] at HR
   cases b
   ·obtain rfl : r = false := HR.out.symm
    go_wp2_with (first | (go_at_call 97; refine HM.out.mono ?_; rintro e w1 ⟨rfl, rfl⟩))
    go_ret
    exact ⟨rfl, HB.out⟩
   ·rw [Bool.true_and] at HR
    by_cases hk : ek = 3
    ·subst hk
     rw [if_pos rfl] at HR
     by_cases hl : el = -1
     ·subst hl
      by_cases hv : ev = 0
      ·subst hv
       obtain rfl : r = true := HR.out.symm
       go_wp2_with (first | (go_at_call 97; refine HM.out.mono ?_; rintro e w1 ⟨rfl, rfl⟩))
       go_ret
       exact ⟨rfl, HB.out⟩
      ·have q1 : ((ev : Int) == 0) = false := by rw [beq_eq_false_iff_ne]; exact hv
       obtain rfl : r = false := by rw [← HR.out, decide_eq_false hv]; rfl
       go_wp2_with (first | (go_at_call 97; refine HM.out.mono ?_; rintro e w1 ⟨rfl, rfl⟩))
       go_ret
       exact ⟨rfl, HB.out⟩
     ·have q1 : ((el : Int) == -1) = false := by rw [beq_eq_false_iff_ne]; exact hl
      obtain rfl : r = false := by rw [← HR.out, decide_eq_false hl]; rfl
      go_wp2_with (first | (go_at_call 97; refine HM.out.mono ?_; rintro e w1 ⟨rfl, rfl⟩))
      go_ret
      exact ⟨rfl, HB.out⟩
    ·have q1 : ((ek : Int) == 3) = false := by rw [beq_eq_false_iff_ne]; exact hk
     rw [if_neg hk] at HR
     by_cases hl : 0 ≤ el
     ·by_cases hc : el < g.cells
      ·obtain rfl : r = true := by rw [← HR.out, decide_eq_true hl, decide_eq_true hc]; rfl
       go_wp2_with (first | (go_at_call 97; refine HM.out.mono ?_; rintro e w1 ⟨rfl, rfl⟩))
       go_ret
       exact ⟨by simp [hc], HB.out⟩
      ·obtain rfl : r = false := by rw [← HR.out, decide_eq_false hc, Bool.and_false]
       go_wp2_with (first | (go_at_call 97; refine HM.out.mono ?_; rintro e w1 ⟨rfl, rfl⟩))
       go_ret
       exact ⟨by simp [hc], HB.out⟩
     ·obtain rfl : r = false := by rw [← HR.out, decide_eq_false hl]; rfl
      go_wp2_with (first | (go_at_call 97; refine HM.out.mono ?_; rintro e w1 ⟨rfl, rfl⟩))
      go_ret
      exact ⟨rfl, HB.out⟩
  ·obtain rfl : r = false := by rw [← HR.out, decide_eq_false h1]; simp
   go_wp2_with fail
   go_ret
   exact ⟨rfl, HB.out⟩
 ·obtain rfl : r = false := by rw [← HR.out, decide_eq_false h0]; simp
  go_wp2_with fail
  go_ret
  exact ⟨rfl, HB.out⟩
def Qej (evs : List Ev) (a b : Int) : Bool := decide (0 ≤ a) && (decide (a < b) && (decide (b < evs.length) && (decide (0 ≤ (evs.getD a.toNat Ev.zero).t) && decide ((evs.getD a.toNat Ev.zero).t = (evs.getD b.toNat Ev.zero).t))))
theorem Qh7 (V : GrV) (g : Gr) (a b : Int) (w : World) (h : GrR w V g) : Calls Tryz.prog 100 #[V.val g, .int .i64 a, .int .i64 b] w fun r w' => r = .returned (.bool (Qej g.evs a b)) ∧ Below w.heap.size w w' := by
 obtain ⟨Ve, Vr, Vc, Vm, Va, Vd, Vt⟩ := V
 obtain ⟨pe, ce, ee, hp, _⟩ := h.ev
 dsimp only at ee
 subst ee
 have HP := Qa hp
 generalize hr : Qej g.evs a b = r
 unfold Qej at hr
 have HR := Qa hr
 have HB : Hid (Below w.heap.size w (w.alloc (.cells #[.int .i64 g.cells, .slice pe g.evs.length ce, Vr, Vc, Vm, Va, Vd, Vt] 27))) := bW.alloc nW _
 have hb := Blk.new w 27 #[.int .i64 g.cells, .slice pe g.evs.length ce, Vr, Vc, Vm, Va, Vd, Vt]
 have c1 : (w.alloc (.cells #[.int .i64 g.cells, .slice pe g.evs.length ce, Vr, Vc, Vm, Va, Vd, Vt] 27)).cell? ⟨w.heap.size, 1, none⟩ = some (.slice pe g.evs.length ce) := hb.cell rfl
 clear hr hp h hb
 unfold GrV.val
 dsimp only
 go_enter Tryz.func100, Tryz.ntmps100
 go_upto_region 1 with fail
 by_cases h0 : 0 ≤ a
 ·have d0 : decide (0 ≤ a) = true := decide_eq_true h0
  by_cases h1 : a < b
  ·have d1 : decide (a < b) = true := decide_eq_true h1
   by_cases h2 : b < (g.evs.length : Int)
   ·have d2 : decide (b < (g.evs.length : Int)) = true := decide_eq_true h2
    obtain ⟨n, rfl⟩ : ∃ n : Nat, a = (n : Int) := ⟨a.toNat, oW⟩
    obtain ⟨m, rfl⟩ : ∃ m : Nat, b = (m : Int) := ⟨b.toNat, oW⟩
    obtain ⟨s, o, rfl, hat⟩ := HP.out oW
    have x0 := (hat.below HB.out).c0 n _ (Gr.ev_at (g := g) (i := n) oW)
    have y0 := (hat.below HB.out).c0 m _ (Gr.ev_at (g := g) (i := m) oW)
    have hn1 : (n : Int) < (g.evs.length : Int) := by omega
    have hm0 : (0 : Int) ≤ (m : Int) := by omega
    rw [d0, d1, d2, Bool.true_and, Bool.true_and, Bool.true_and, Int.toNat_natCast, Int.toNat_natCast] at HR
    have HR2 : Hid ((decide (0 ≤ (g.ev n).t) && decide ((g.ev n).t = (g.ev m).t)) = r) := HR.out
    clear hat HR
    generalize (g.ev n).t = ta at *
    generalize (g.ev m).t = tb at *
    by_cases h3 : 0 ≤ ta
    ·have d3 : decide (0 ≤ ta) = true := decide_eq_true h3
     by_cases h4 : ta = tb
     ·have q4 : ((ta : Int) == tb) = true := by rw [beq_iff_eq]; exact h4
      obtain rfl : r = true := by rw [← HR2.out, d3, decide_eq_true h4]; rfl
      clear h4
      go_quiet (fail)
      all_goals (go_wp2_with fail; go_ret; exact ⟨rfl, Qab HB.out _⟩)
     ·have q4 : ((ta : Int) == tb) = false := by rw [beq_eq_false_iff_ne]; exact h4
      obtain rfl : r = false := by rw [← HR2.out, d3, decide_eq_false h4]; rfl
      clear h4
      go_quiet (fail)
      all_goals (go_wp2_with fail; go_ret; exact ⟨rfl, Qab HB.out _⟩)
    ·have d3 : decide (0 ≤ ta) = false := decide_eq_false h3
     obtain rfl : r = false := by rw [← HR2.out, d3]; rfl
     go_quiet (fail)
     all_goals (go_wp2_with fail; go_ret; exact ⟨rfl, Qab HB.out _⟩)
   ·have d2 : decide (b < (g.evs.length : Int)) = false := decide_eq_false h2
    obtain rfl : r = false := by rw [← HR.out, d2]; simp
    go_quiet (fail)
    all_goals (go_wp2_with fail; go_ret; exact ⟨rfl, Qab HB.out _⟩)
  ·have d1 : decide (a < b) = false := decide_eq_false h1
   obtain rfl : r = false := by rw [← HR.out, d1]; simp
   go_quiet (fail)
   all_goals (go_wp2_with fail; go_ret; exact ⟨rfl, Qab HB.out _⟩)
 ·have d0 : decide (0 ≤ a) = false := decide_eq_false h0
  obtain rfl : r = false := by rw [← HR.out, d0]; simp
  go_quiet (fail)
  all_goals (go_wp2_with fail; go_ret; exact ⟨rfl, Qab HB.out _⟩)
def Qhm (evs : List Ev) (a _b k : Nat) : Bool := (List.range k).any (fun j => (evs.getD (a + 1 + j) Ev.zero).t == (evs.getD a Ev.zero).t)
theorem Qxj {evs : List Ev} {a b : Nat} (hb : b ≤ evs.length) (h : a + 1 ≤ b) : Qhm evs a b (b - (a + 1)) = (Qda evs a b).any (fun e => e.t == (evs.getD a Ev.zero).t) := by
 rw [Bool.eq_iff_iff]
 unfold Qhm
 rw [List.any_eq_true, List.any_eq_true]
 constructor
 ·rintro ⟨j, hj, e⟩
  have hj' := List.mem_range.1 hj
  refine ⟨evs.getD (a + 1 + j) Ev.zero, ?_, e⟩
  refine List.mem_of_getElem? (i := j) ?_
  unfold Qda
  rw [List.getElem?_drop, List.getElem?_take, if_pos oW, List.getD_eq_getElem?_getD, List.getElem?_eq_getElem oW]
  rfl
 ·rintro ⟨x, hx, e⟩
  obtain ⟨j, hj, hx'⟩ := List.mem_iff_getElem.1 hx
  rw [Qhy hb] at hj
  refine ⟨j, List.mem_range.2 hj, ?_⟩
  have : (Qda evs a b)[j]? = some x := by rw [List.getElem?_eq_getElem (by rw [Qhy hb]; exact hj), hx']
  unfold Qda at this
  rw [List.getElem?_drop, List.getElem?_take, if_pos oW] at this
  rw [List.getD_eq_getElem?_getD, this]
  exact e
def Qim (evs : List Ev) (a b : Int) : Bool := Qej evs a b && !((Qda evs a.toNat b.toNat).any (fun e => e.t == (evs.getD a.toNat Ev.zero).t))
theorem Qla {evs : List Ev} {a b : Int} (h : Qej evs a b = true) : ∃ n m : Nat, a = (n : Int) ∧ b = (m : Int) ∧ n < m ∧ m < evs.length := by
 unfold Qej at h
 simp only [Bool.and_eq_true, decide_eq_true_eq] at h
 exact ⟨a.toNat, b.toNat, oW, oW, oW, oW⟩
theorem Qpt (V : GrV) (g : Gr) (a b : Int) (w : World) (h : GrR w V g) (hl256 : g.evs.length ≤ 256) : Calls Tryz.prog 99 #[V.val g, .int .i64 a, .int .i64 b] w fun r w' => r = .returned (.bool (Qim g.evs a b)) ∧ Below w.heap.size w w' := by
 obtain ⟨Ve, Vr, Vc, Vm, Va, Vd, Vt⟩ := V
 obtain ⟨pe, ce, ee, hp, _⟩ := h.ev
 dsimp only at ee
 subst ee
 have HP := Qa hp
 generalize hr : Qim g.evs a b = r
 have HR := Qa hr
 have hB : Below w.heap.size w (w.alloc (.cells #[.int .i64 g.cells, .slice pe g.evs.length ce, Vr, Vc, Vm, Va, Vd, Vt] 27)) := bW.alloc nW _
 have HB := Qa hB
 have hb := Blk.new w 27 #[.int .i64 g.cells, .slice pe g.evs.length ce, Vr, Vc, Vm, Va, Vd, Vt]
 have HG := Qa hb
 have hc := Qh7 _ g a b _ (h.below hB)
 generalize hbf : Qej g.evs a b = q at hc
 have HBF := Qa hbf
 unfold GrV.val at hc ⊢
 dsimp only at hc ⊢
 have HC := Qa hc
 have x0 := hb.cell (j := 0) rfl
 have x1 := hb.cell (j := 1) rfl
 have x2 := hb.cell (j := 2) rfl
 have x3 := hb.cell (j := 3) rfl
 have x4 := hb.cell (j := 4) rfl
 have x5 := hb.cell (j := 5) rfl
 have x6 := hb.cell (j := 6) rfl
 have x7 := hb.cell (j := 7) rfl
 clear hr hp h hb hB hc hbf
 go_enter Tryz.func99, Tryz.ntmps99
 cases q
 ·obtain rfl : r = false := by rw [← HR.out, Qim, HBF.out]; rfl
  go_wp2_with (first | (go_at_call 100; refine HC.out.mono ?_; rintro e w1 ⟨rfl, hB1⟩))
  go_ret
  exact ⟨rfl, Qaa HB.out HB.out.size hB1⟩
 ·obtain ⟨n, m, rfl, rfl, hnm, hml⟩ := Qla HBF.out
  obtain ⟨s, o, rfl, hat⟩ := HP.out oW
  have HAT := Qa hat
  have HRR : Hid (r = !(Qhm g.evs n m (m - (n + 1)))) := by rw [Hid, ← HR.out, Qim, HBF.out, Int.toNat_natCast, Int.toNat_natCast, Qxj oW oW, Bool.true_and]
  clear hat HR
  go_wp2_with (first | (go_at_call 100; refine HC.out.mono ?_; rintro e w1 ⟨rfl, hB1⟩))
  have HB1 : Hid (Below w.heap.size w w1) := Qaa HB.out HB.out.size hB1
  have HG1 := Qa (HG.out.of_below hB1)
  clear x0 x1 x2 x3 x4 x5 x6 x7 hB1 HC
  go_loopg [7] (m - (n + 1)) (fun f i wr => ∃ k : Nat, i = .int .i64 ((k : Nat) : Int) ∧ n + 1 ≤ k ∧ k ≤ m ∧ Hid (k + f = m) ∧ Hid (Qhm g.evs n m (k - (n + 1)) = false) ∧ Hid (Below w1.heap.size w1 wr))
  case atStart => exact ⟨n + 1, by go_num, Nat.le_refl _, oW, by rw [Hid]; omega, by rw [Hid, Nat.sub_self]; rfl, Below.refl _ _⟩
  case round =>
   obtain ⟨k, rfl, hk0, hk, HKF, HNG, HW1⟩ := hrel
   have HB2 : Hid (Below w.heap.size w wr) := Qaa HB1.out HB1.out.size HW1.out
   by_cases hlt : k < m
   ·have z0 : wr.cell? ⟨s, o + k * 5, none⟩ = some (.int .i64 (g.ev k).t) := (HAT.out.below HB2.out).c0 k _ (Gr.ev_at (g := g) (i := k) oW)
    have y0 : wr.cell? ⟨s, o + n * 5, none⟩ = some (.int .i64 (g.ev n).t) := (HAT.out.below HB2.out).c0 n _ (Gr.ev_at (g := g) (i := n) oW)
    have c1 : wr.cell? ⟨w.heap.size, 1, none⟩ = some (.slice (some ⟨s, o, none⟩) g.evs.length ce) := (HG1.out.of_below HW1.out).cell rfl
    have K0 : (0 : Int) ≤ (k : Int) := by omega
    have K1 : (k : Int) < (g.evs.length : Int) := by omega
    have N0 : (0 : Int) ≤ (n : Int) := by omega
    have N1 : (n : Int) < (g.evs.length : Int) := by omega
    have hsuc : Qhm g.evs n m (k + 1 - (n + 1)) = (Qhm g.evs n m (k - (n + 1)) || ((g.ev k).t == (g.ev n).t)) := by
     rw [show k + 1 - (n + 1) = (k - (n + 1)) + 1 by omega]
     unfold Qhm
     rw [List.range_succ, List.any_append]
     simp only [List.any_cons, List.any_nil, Bool.or_false]
     rw [show n + 1 + (k - (n + 1)) = k by omega]
     rfl
    rw [HNG.out, Bool.false_or] at hsuc
    have HS := Qa hsuc
    have HMON : Hid (Qhm g.evs n m (k + 1 - (n + 1)) = true → Qhm g.evs n m (m - (n + 1)) = true) := fun h => by
     unfold Qhm at h ⊢
     rw [List.any_eq_true] at h ⊢
     obtain ⟨j, hj, e⟩ := h
     exact ⟨j, List.mem_range.2 (by have := List.mem_range.1 hj; omega), e⟩
    clear hsuc
    by_cases he : (g.ev k).t = (g.ev n).t
    ·have q1 : (((g.ev k).t : Int) == (g.ev n).t) = true := by rw [beq_iff_eq]; exact he
     obtain rfl : r = false := by rw [HRR.out, HMON.out (by rw [HS.out, q1])]; rfl
     clear he
     go_upto_region 6 with fail
     go_quiet (fail)
     all_goals (go_wp2_with fail; go_ret; exact ⟨rfl, Qab HB2.out _⟩)
    ·have q1 : (((g.ev k).t : Int) == (g.ev n).t) = false := by rw [beq_eq_false_iff_ne]; exact he
     clear he
     go_upto_region 6 with fail
     go_quiet (fail)
     go_wp2_with fail
     go_roundg (m - (k + 1))
     case measure => have := HKF.out; omega
     case rel => exact ⟨k + 1, by go_num, oW, oW, by have := HKF.out; rw [Hid]; omega, by rw [Hid, HS.out, q1], Qab HW1.out _⟩
   ·obtain rfl : k = m := by omega
    obtain rfl : r = true := by rw [HRR.out, HNG.out]; rfl
    go_wp2_with fail
    go_ret
    exact ⟨rfl, HB2.out⟩
end Go.Proofs.YtdkogbfamdnheaaGreatDoor
