/- The book's rule 5, its maths: the writes of each cell, the map of them. -/
import Derived.Test.YthiijcappjaagaaGreatDoorJ17
import Derived.Test.YthiijcappjaagaaGreatDoorJ14
import Derived.Maps.GroupsBeside
import Derived.Maps.RangeWalk
import Derived.BigQuiet
namespace Go.Proofs.YthiijcappjaagaaGreatDoor
open Go.RowKit Go.Shelf Go.Maps Go.ChangeShapes Sx
def isWr (g : Gr) (c : Int) (i : Nat) : Bool := decide ((g.ev i).k = 2) && decide ((g.ev i).l = c)
def wrs (g : Gr) (c : Int) (k : Nat) : List Int := ((List.range k).filter (isWr g c)).map (fun i => ((i : Nat) : Int))
theorem wrs_zero (g : Gr) (c : Int) : wrs g c 0 = [] := rfl
theorem wrs_hit {g : Gr} {c : Int} {k : Nat} (h : isWr g c k = true) : wrs g c (k + 1) = wrs g c k ++ [((k : Nat) : Int)] := by
  unfold wrs
  rw [List.range_succ, List.filter_append, List.map_append]
  simp [h]
theorem wrs_miss {g : Gr} {c : Int} {k : Nat} (h : isWr g c k = false) : wrs g c (k + 1) = wrs g c k := by
  unfold wrs
  rw [List.range_succ, List.filter_append, List.map_append]
  simp [h]
theorem wrs_len (g : Gr) (c : Int) (k : Nat) : (wrs g c k).length ≤ k := by
  unfold wrs
  rw [List.length_map]
  exact Nat.le_trans (List.length_filter_le _ _) (by simp)
theorem mem_wrs {g : Gr} {c : Int} {k : Nat} {x : Int} : x ∈ wrs g c k ↔ ∃ i : Nat, x = ((i : Nat) : Int) ∧ i < k ∧ isWr g c i = true := by
  unfold wrs
  simp only [List.mem_map, List.mem_filter, List.mem_range]
  constructor
  · rintro ⟨i, ⟨h1, h2⟩, rfl⟩; exact ⟨i, rfl, h1, h2⟩
  · rintro ⟨i, rfl, h1, h2⟩; exact ⟨i, ⟨h1, h2⟩, rfl⟩
def bad5c (g : Gr) (c : Nat) : Bool := decide (g.co.length ≤ c) || !isOrdB (g.co.getD c []) ((c : Nat) : Int) (wrs g ((c : Nat) : Int) g.evs.length)
def bad5 (g : Gr) : Int := if fstBad (bad5c g) 0 g.cells.toNat = -1 then (if (g.co.length : Int) ≤ g.cells then -1 else g.cells) else fstBad (bad5c g) 0 g.cells.toNat
theorem ok2_ev {g : Gr} {q : Bool} (h : bad2 g q = -1) {c : Nat} (hc : ((c : Nat) : Int) < g.cells) : g.ev c = iniEv c q := by
  unfold bad2 at h
  rcases fstBad_cases (fun i => @decide (g.ev i ≠ iniEv i q) (Ev.ndec _ _)) g.cells.toNat 0 with ⟨_, h2⟩ | ⟨i, h1, _⟩
  · have := h2 c (Nat.zero_le _) (by omega)
    exact Ev.ndec_false this
  · rw [h1] at h; omega
theorem ok3_ev {g : Gr} {q : Bool} (h : bad3 g q = -1) {i : Nat} (h1 : g.cells ≤ ((i : Nat) : Int)) (h2 : i < g.evs.length) : okEv g.cells (g.ev i) q = true := by
  unfold bad3 at h
  rcases fstBad_cases (fun i => !okEv g.cells (g.ev i) q) (g.evs.length - g.cells.toNat) g.cells.toNat with ⟨_, h3⟩ | ⟨j, h3, _⟩
  · have := h3 i (by omega) (by omega)
    simpa using this
  · rw [h3] at h; omega
theorem okEv_loc {cells : Int} {e : Ev} {q : Bool} (h : okEv cells e q = true) (hk : e.k = 2) : 0 ≤ e.l ∧ e.l < cells := by
  unfold okEv at h
  rw [hk] at h
  simp at h
  omega
theorem wr_cell {g : Gr} {q : Bool} (h2 : bad2 g q = -1) (h3 : bad3 g q = -1) {i : Nat} (hi : i < g.evs.length) (hk : (g.ev i).k = 2) : 0 ≤ (g.ev i).l ∧ (g.ev i).l < g.cells := by
  by_cases hc : ((i : Nat) : Int) < g.cells
  · rw [ok2_ev h2 hc]
    exact ⟨by simp [iniEv], by simpa [iniEv] using hc⟩
  · exact okEv_loc (ok3_ev h3 (by omega) hi) hk
theorem wrs_cell {g : Gr} {q : Bool} (h2 : bad2 g q = -1) (h3 : bad3 g q = -1) {c : Int} (h : wrs g c g.evs.length ≠ []) : 0 ≤ c ∧ c < g.cells := by
  obtain ⟨x, hx⟩ := List.exists_mem_of_ne_nil _ h
  obtain ⟨i, rfl, hi, hw⟩ := mem_wrs.1 hx
  simp [isWr] at hw
  have := wr_cell h2 h3 hi hw.1
  rw [hw.2] at this
  exact this
theorem wrs_ini {g : Gr} {q : Bool} (h1 : bad1 g = false) (h2 : bad2 g q = -1) {c : Nat} (hc : ((c : Nat) : Int) < g.cells) : wrs g ((c : Nat) : Int) g.evs.length ≠ [] := by
  have hl : g.cells ≤ (g.evs.length : Int) := by simp [bad1] at h1; omega
  have : ((c : Nat) : Int) ∈ wrs g ((c : Nat) : Int) g.evs.length := by
    refine mem_wrs.2 ⟨c, rfl, by omega, ?_⟩
    rw [isWr, ok2_ev h2 hc]
    simp [iniEv]
  intro e
  rw [e] at this
  cases this
structure GD (g : Gr) (k : Nat) (D : DataW Unit) : Prop where
  map : IsMap D
  none : ∀ c : Int, wrs g c k = [] → has D (.int .i64 c) = false
  some : ∀ c : Int, wrs g c k ≠ [] → ∀ z, D.atKey (.int .i64 c) z = .slice (lits .i64 (wrs g c k)) []
theorem GD.zero (g : Gr) : GD g 0 (.map []) := ⟨isMap_empty, fun _ _ => rfl, fun c h => absurd (wrs_zero g c) h⟩
theorem lits_inj {a b : List Int} (h : lits (H := Unit) .i64 a = lits .i64 b) : a = b := by
  unfold lits at h
  exact (List.map_inj_right (fun x y hxy => by cases hxy; rfl)).1 h
theorem GD.at {g : Gr} {k : Nat} {D : DataW Unit} (h : GD g k D) {w : World} {base : Nat} {c : Int} {v : Value} {zs : List Int} (hat : D.atKey (.int .i64 c) .nil = rowDatum .i64 v zs) (ho : w.ownsInts base 3 .i64 v zs) : zs = wrs g c k := by
  by_cases e : wrs g c k = []
  · rw [atKey_of_not_has (h.none c e)] at hat
    rcases ho.datum (H := Unit) with ⟨_, h2⟩ | h2
    · rw [h2, e]
    · rw [h2] at hat; cases hat
  · rw [h.some c e] at hat
    rcases ho.datum (H := Unit) with ⟨h1, _⟩ | h2
    · rw [h1] at hat; cases hat
    · rw [h2] at hat
      exact (lits_inj (by simpa using hat)).symm
theorem GD.put {g : Gr} {k : Nat} {D : DataW Unit} (h : GD g k D) {w : World} {base : Nat} {c : Int} {v : Value} {zs : List Int} (hk : (g.ev k).k = 2) (hc : (g.ev k).l = c) (hz : zs = wrs g c k ++ [((k : Nat) : Int)]) (ho : w.ownsInts base 3 .i64 v zs) : GD g (k + 1) (D.put (.int .i64 c) (rowDatum .i64 v zs)) := by
  have hit : isWr g c k = true := by simp [isWr, hk, hc]
  have hd : rowDatum (H := Unit) .i64 v zs = .slice (lits .i64 (wrs g c (k + 1))) [] := by
    rw [ho.datum_pos (by rw [hz]; simp), hz, wrs_hit hit]
  have hne : wrs g c (k + 1) ≠ [] := by rw [wrs_hit hit]; simp
  have miss : ∀ d : Int, d ≠ c → wrs g d (k + 1) = wrs g d k := fun d hd => wrs_miss (by simp [isWr, hk, hc]; omega)
  have kne : ∀ d : Int, d ≠ c → (Lit.int .i64 d) ≠ (Lit.int .i64 c) := fun d hd e => hd (by injection e)
  have kc : WideAt.IsKeyLit (Lit.int .i64 c) := by trivial
  refine ⟨h.map.put _ _, fun d h0 => ?_, fun d h0 z => ?_⟩
  · by_cases e : d = c
    · subst e; exact absurd h0 hne
    · rw [has_put_other (kne d e)]
      exact h.none d (by rw [← miss d e]; exact h0)
  · by_cases e : d = c
    · subst e; rw [atKey_put_same h.map kc, hd]
    · rw [atKey_put_other (kne d e), miss d e]
      exact h.some d (by rw [← miss d e]; exact h0) z
theorem GD.skip {g : Gr} {k : Nat} {D : DataW Unit} (h : GD g k D) (hk : (g.ev k).k ≠ 2) : GD g (k + 1) D := by
  have miss : ∀ d : Int, wrs g d (k + 1) = wrs g d k := fun d => wrs_miss (by simp [isWr, hk])
  exact ⟨h.map, fun d h0 => h.none d (by rw [← miss d]; exact h0), fun d h0 z => by rw [miss d]; exact h.some d (by rw [← miss d]; exact h0) z⟩
theorem grown_of_below {a b : World} (h : Below a.heap.size a b) : a.grownBy b none := ⟨h.os, h.tape, h.output, h.size, fun k hk _ => h.block k hk⟩
theorem below_of_grownN {a b : World} (h : a.grownBy b none) : Below a.heap.size a b := ⟨h.os, h.tape, h.output, h.size, fun k hk => h.block k hk (by simp)⟩
theorem groups_below {w w' : World} {P : Program} {k e : TypeId} {base b n : Nat} {D : DataW Unit} (h : w.ownsGroups P k base e .i64 b n D) (hb : Below w.heap.size w w') : w'.ownsGroups P k base e .i64 b n D :=
  h.kept (grown_of_below hb) (by simp) (fun _ _ _ x _ => Classical.em _)
theorem ownsGroups_up {w : World} {P : Program} {k e : TypeId} {base b n : Nat} {D : DataW Unit} (h : w.ownsGroups P k base e .i64 b n D) : w.ownsGroups P k base e .i64 b (n + 1) D := by
  obtain ⟨es, clock, h1, h2, h3, h4, h5, h6, h7⟩ := h
  exact ⟨es, clock, h1, h2, by omega, h4, h5, fun x hx zs ho => Nat.le_succ_of_le (h6 x hx zs ho), h7⟩
theorem groups_map {w : World} {P : Program} {k e : TypeId} {base b n : Nat} {D : DataW Unit} (h : w.ownsGroups P k base e .i64 b n D) : w.ownsMap P k (rowElem w base e .i64) b n D := by
  obtain ⟨es, clock, h1, h2, h3, h4, _⟩ := h
  exact ⟨es, clock, h1, h2, h3, h4⟩
theorem zeroInts (w : World) : (zeroValue 45).run Tryz.prog w = .ok (.slice none 0 0) w := by kernel_rfl
theorem lawInt : Keyed Tryz.prog 3 := int_keyed Tryz.underlying3
theorem step_append_run {P : Program} {ops : Array Oper} {o : Oper} {a : Act} {K : Act → World → Prop} {Q : Exit → Act → World → Prop} {E : Prop} (w : World) (hgd : o.guard = none) (s x : Operand) (t : TypeId)
    (ho : o.op = .call { callee := .builtin .append, args := #[s, x], argTypes := #[t, t] }) (v u v' : Value) (w' : World) (hs : a.eval s = v) (hx : a.eval x = u)
    (hr : (Builtin.append_ #[t, t] o.type #[v, u]).run P w = .ok v' w') (h : K (a.put o.dst v') w') :
    if Region.wanted o (yielded ops a.tmps) = true then Oper.wp P o a w K Q else E := by
  have hw : Region.wanted o (yielded ops a.tmps) = true := by simp [Region.wanted, hgd]
  rw [if_pos hw]
  unfold Oper.wp execOp
  simp only [ho, resolve, invoke, builtin, Sem.run_bind, Sem.run_pure, Result.andThen_ok, List.map_toArray, List.map_cons, List.map_nil, hs, hx, hr]
  exact h
theorem look_same {w w1 : World} {base b n : Nat} {D : DataW Unit} {c : Int} (hwf : (Lit.int .i64 c).wf = true) (h : w.ownsGroups Tryz.prog 3 base 3 .i64 b n D) (hb : Below w.heap.size w w1) {v : Value} (hv : (Instr.lookup 109 (.map (some b)) (.int .i64 c) false).run Tryz.prog w = .ok v w) :
    (Instr.lookup 109 (.map (some b)) (.int .i64 c) false).run Tryz.prog w1 = .ok v w1 := by
  obtain ⟨es, clock, hh, F, _⟩ := h
  have hlt := (Array.getElem?_eq_some_iff.1 hh).1
  have hh1 : w1.heap[b]? = some (.map es clock) := (hb.block b hlt).trans hh
  have hkey := keyOf_int_mk Tryz.underlying3 hwf
  rcases Maps.fit_look false lawInt Tryz.underlying109 (zeroInts w) hh F hkey with ⟨r1, n1, _⟩ | ⟨e0, y, m0, k0, r1, _⟩ <;> rcases Maps.fit_look false lawInt Tryz.underlying109 (zeroInts w1) hh1 F hkey with ⟨r2, n2, _⟩ | ⟨e1, y1, m1, k1, r2, _⟩
  · rw [hv] at r1
    rw [r2]
    simp at r1 ⊢
    exact r1.symm
  · exact absurd k1 (n1 e1 m1)
  · exact absurd k0 (n2 e0 m0)
  · obtain rfl := entry_eq_of_key ((MapKept.stamped_iff es clock).1 F.stamped).2.2 m0 m1 (k0.trans k1.symm)
    rw [hv] at r1
    rw [r2]
    simp at r1 ⊢
    exact r1.symm
theorem grp_at (w : World) (base b n : Nat) (D : DataW Unit) (c : Int) (hwf : (Lit.int .i64 c).wf = true) (h : w.ownsGroups Tryz.prog 3 base 3 .i64 b n D) (hn : n ≤ 256) (hbase : base ≤ w.heap.size) (B : Nat) (hB : B ≤ b) :
    ∃ v zs, (Instr.lookup 109 (.map (some b)) (.int .i64 c) false).run Tryz.prog w = .ok v w ∧ D.atKey (.int .i64 c) .nil = rowDatum .i64 v zs ∧ w.ownsInts base 3 .i64 v zs ∧
      ∀ (w1 : World) (ad : Nat) (x : Int), (Lit.int .i64 x).wf = true → Below w.heap.size w w1 → w1.cell? ⟨ad, 0, none⟩ = some (.int .i64 x) → ∀ ty, ∃ v' w2 w3, (Builtin.append_ #[45, 45] ty #[v, .slice (some ⟨ad, 0, none⟩) 1 1]).run Tryz.prog w1 = .ok v' w2 ∧
        (Instr.mapUpdate 109 (.map (some b)) (.int .i64 c) v').run Tryz.prog w2 = .ok () w3 ∧ w3.ownsGroups Tryz.prog 3 base 3 .i64 b (n + 1) (D.put (.int .i64 c) (rowDatum .i64 v' (zs ++ [x]))) ∧ w2.ownsInts base 3 .i64 v' (zs ++ [x]) ∧ Below B w w3 ∧ ∀ (j : Nat) (t : TypeId) (cs : Array Value), t ≠ 3 → Blk w j t cs → Blk w2 j t cs ∧ Blk w3 j t cs := by
  obtain ⟨i0, hi, hz0, hz1, hz2⟩ := info_parts Tryz.infoint
  obtain ⟨v, zs, hl, hat, hoi, hzl, hback⟩ := h.at lawInt Tryz.underlying109 (zeroInts w) (by unfold maxLen; omega) (keyOf_int_mk Tryz.underlying3 hwf)
  refine ⟨v, zs, hl, hat, hoi, fun w1 ad x hx hb hc ty => ?_⟩
  have hoi1 := hoi.kept (grown_of_below hb) (Classical.em _)
  have hbb : b < base := by obtain ⟨_, _, _, _, _, _, h6, _⟩ := h; exact h6
  obtain ⟨v', w2, hr, h2, h3, _, h5⟩ := run_append_own_at (P := Tryz.prog) w1 base 45 ty 3 i0 (.int .i64 0) 1 8 Tryz.underlying45 hi hz0 hz1 hz2 rfl (by decide) v zs.length (zs.map (Value.int .i64)) hoi1.1 ⟨ad, 0, none⟩ 1 1 [.int .i64 x] rfl
    (fun j u hj => by
      match j, hj with
      | 0, hj => simp at hj; subst hj; simpa [Addr.add] using hc)
    (by simp [Value.oneCell']) (by unfold maxLen; omega) (by omega) (Nat.le_trans hbase hb.size)
  have hoi' := hoi1.appended h2 hx
  have hg : w.grownBy w2 v.ownBlock := ((grown_of_below hb).but _).trans h3
  obtain ⟨w3, hm, h6, h7⟩ := hback w2 v' (zs ++ [x]) hg hoi' (by simp; omega) (by
    rcases h5 with h5 | h5
    · exact Or.inl h5
    · exact Or.inr ⟨_, h5, hb.size⟩)
  refine ⟨v', w2, w3, hr, hm, h6, hoi', ?_⟩
  have hbw : b < w.heap.size := by obtain ⟨_, _, hh, _⟩ := h; exact (Array.getElem?_eq_some_iff.1 hh).1
  refine ⟨RowKit.Below.groups (Below.refl B w) hoi hg h7 (by omega) (by omega) hB, fun j t cs ht hj => ?_⟩
  have hj2 : Blk w2 j t cs := by
    refine (hg.block j hj.lt (fun e => ?_)).trans hj
    rcases hoi.1.2 with ⟨rfl, _⟩ | ⟨a, cap, cur, rfl, _, hh, _⟩
    · cases e
    · simp only [Value.ownBlock, Option.some.injEq] at e
      subst e
      unfold Blk at hj
      rw [hh] at hj
      simp at hj
      exact ht hj.2.symm
  refine ⟨hj2, (h7.block j hj2.lt (fun e => ?_)).trans hj2⟩
  obtain ⟨es, clock, hh, _⟩ := h
  cases e
  unfold Blk at hj
  rw [hh] at hj
  cases hj
end Go.Proofs.YthiijcappjaagaaGreatDoor
namespace Go.Proofs.YthiijcappjaagaaGreatDoor
open Go.RowKit Go.Shelf Go.Maps Sx
theorem coarg_form {w : World} {v : Value} {ls : List (List Int)} (h : CoArg w v ls) : ∃ p cap, v = .slice p ls.length cap ∧ ls.length ≤ 9223372036854775807 ∧ ∀ (i : Nat) (l : List Int), ls[i]? = some l → ∃ s o u, p = some ⟨s, o, none⟩ ∧ s < w.heap.size ∧ w.cell? ⟨s, o + i, none⟩ = some u ∧ IntsR w u l ∧ l.length ≤ 9223372036854775807 := by
  obtain ⟨p, cap, e, hl, vs, h1, h2, h3⟩ := h
  refine ⟨p, cap, e, hl, fun i l hi => ?_⟩
  have hlt := (List.getElem?_eq_some_iff.1 hi).1
  obtain ⟨s, o, e2, h4, h5⟩ := h2 (by omega)
  obtain ⟨u, hu⟩ : ∃ u, vs[i]? = some u := ⟨_, List.getElem?_eq_getElem (by omega)⟩
  exact ⟨s, o, u, e2, h4, h5 i u hu, (h3 i u l hu hi).1, (h3 i u l hu hi).2.1⟩
theorem wf_small {x : Int} (h0 : 0 ≤ x) (h1 : x ≤ 4096) : (Lit.int .i64 x).wf = true := by
  simp only [Lit.wf, Bool.and_eq_true, decide_eq_true_eq]
  have a : (IntKind.i64).min ≤ 0 := by decide
  have b : (4096 : Int) ≤ (IntKind.i64).max := by decide
  omega
theorem invInt : ∀ key kl, keyOf Tryz.prog 3 key = some kl → ∃ x, key = Value.int .i64 x := fun key kl h => by
  obtain ⟨x, rfl, _⟩ := Maps.keyOf_int_inv Tryz.underlying3 h
  exact ⟨x, rfl⟩
def mkSl (p : Option Addr × Nat × Nat) : Value := .slice p.1 p.2.1 p.2.2
theorem invRow (w : World) (base : Nat) : ∀ (v : Value) (y : DataW Unit × List MemPlace), rowElem w base 3 .i64 v = some y → ∃ c, v = mkSl c := fun v y h => by
  obtain ⟨zs, ho, _⟩ := rowElem_inv h
  rcases ho.1.2 with ⟨rfl, _⟩ | ⟨a, cap, cur, rfl, _⟩
  · exact ⟨(none, 0, 0), rfl⟩
  · exact ⟨(some ⟨a, 0, none⟩, zs.length, cap), rfl⟩
theorem entry_is {g : Gr} {q : Bool} {D : DataW Unit} {w : World} {base : Nat} {x : Int} {kl : Lit} {v : Value} {y : DataW Unit × List MemPlace} (hD : GD g g.evs.length D) (h2 : bad2 g q = -1) (h3 : bad3 g q = -1)
    (hkey : keyOf Tryz.prog 3 (.int .i64 x) = some kl) (hv : rowElem w base 3 .i64 v = some y) (hat : ∀ zd, D.atKey kl zd = y.1) :
    kl = .int .i64 x ∧ ∃ c : Nat, x = ((c : Nat) : Int) ∧ ((c : Nat) : Int) < g.cells ∧ IntsR w v (wrs g ((c : Nat) : Int) g.evs.length) ∧ 0 < (wrs g ((c : Nat) : Int) g.evs.length).length := by
  obtain ⟨x', ex, rfl, hwf⟩ := Maps.keyOf_int_inv Tryz.underlying3 hkey
  cases ex
  have hhas := has_true_of_atKey hat
  have hne : wrs g x g.evs.length ≠ [] := fun e => by rw [hD.none x e] at hhas; cases hhas
  have hc := wrs_cell h2 h3 hne
  obtain ⟨zs, ho, rfl⟩ := rowElem_inv hv
  have hz := hD.at (hat .nil) ho
  obtain ⟨c, rfl⟩ : ∃ c : Nat, x = ((c : Nat) : Int) := ⟨x.toNat, by omega⟩
  refine ⟨rfl, c, rfl, hc.2, ?_, List.length_pos_iff.2 hne⟩
  rw [← hz]
  exact owns_intsR ho.1
theorem left_after {left : Lit → Bool} {c d : Nat} (h : (left (.int .i64 ((d : Nat) : Int)) && !(Lit.int .i64 ((d : Nat) : Int)).sameKey (.int .i64 ((c : Nat) : Int))) = false) : left (.int .i64 ((d : Nat) : Int)) = false ∨ d = c := by
  by_cases e : d = c
  · exact Or.inr e
  · rw [Maps.sameKey_ne (by intro h2; injection h2; omega)] at h
    simp at h
    exact Or.inl h
theorem min_bad {g : Gr} {fi : Int} {n c : Nat} (h : fi = (n : Int) ∨ bad5c g fi.toNat = true) (hc : bad5c g c = true) : min fi ((c : Nat) : Int) = (n : Int) ∨ bad5c g (min fi ((c : Nat) : Int)).toNat = true := by
  by_cases e : fi ≤ ((c : Nat) : Int)
  · rw [Int.min_eq_left e]; exact h
  · rw [Int.min_eq_right (by omega)]; right; simpa using hc
set_option linter.unusedSimpArgs false in
set_option maxRecDepth 100000 in
set_option maxHeartbeats 8000000 in
theorem gOrders_calls (b : Nat) (V : GrV) (g : Gr) (q : Bool) (w : World) (h : BkR w b V g q) (h1 : bad1 g = false) (h2 : bad2 g q = -1) (h3 : bad3 g q = -1) :
    Calls Tryz.prog 36 #[pv b] w fun r w' => r = .returned (.int .i64 (bad5 g)) ∧ Below w.heap.size w w' := by
  have hsz : 0 ≤ g.cells ∧ g.cells ≤ (g.evs.length : Int) ∧ g.evs.length ≤ 256 := by
    simp [bad1] at h1
    omega
  obtain ⟨n, hn⟩ : ∃ n : Nat, g.cells = (n : Int) := ⟨g.cells.toNat, by omega⟩
  obtain ⟨p, cap, ep, hp, _⟩ := h.gr.ev
  obtain ⟨pc, cc, ec, hcl, _⟩ := coarg_form h.gr.co
  have hl256 := hsz.2.2
  have hnl : n ≤ g.evs.length := by omega
  have hb5 : bad5 g = (if fstBad (bad5c g) 0 n = -1 then (if (g.co.length : Int) ≤ (n : Int) then -1 else (n : Int)) else fstBad (bad5c g) 0 n) := by unfold bad5; rw [hn, Int.toNat_natCast]
  generalize hr : bad5 g = r at *
  have HR := hid_of hb5
  have HP := hid_of hp
  have H := hid_of h
  have H1 := hid_of h1
  have H2 := hid_of h2
  have H3 := hid_of h3
  have HN := hid_of hn
  have c1 := h.evs
  rw [ep] at c1
  clear hb5 hr hp h h1 h2 h3 hsz hn
  have hmm := @run_makeMap Tryz.prog
  have c1' : (w.alloc (.map #[] 0)).cell? ⟨b, 1, none⟩ = some (.slice p g.evs.length cap) := (((Below.refl w.heap.size w).alloc (Nat.le_refl _) _).cell (p := ⟨b, 1, none⟩) H.out.blk.lt).trans c1
  go_enter Tryz.func36, Tryz.ntmps36
  go_wp2_with fail
  clear c1 c1' hmm
  go_loopg [16] g.evs.length (fun f i wr => ∃ (k : Nat) (D : DataW Unit), i = .int .i64 ((k : Nat) : Int) ∧ k ≤ g.evs.length ∧ Hid (k + f = g.evs.length) ∧ Hid (GD g k D) ∧ Hid (wr.ownsGroups Tryz.prog 3 (w.heap.size + 1) 3 .i64 w.heap.size k D) ∧ Hid (Below w.heap.size w wr) ∧ Hid (w.heap.size + 1 ≤ wr.heap.size))
  case atStart => exact ⟨0, .map [], rfl, Nat.zero_le _, Nat.zero_add _, GD.zero g, World.ownsGroups_made w _ _ _ _, (Below.refl _ _).alloc (Nat.le_refl _) _, by rw [Hid]; simp⟩
  case round =>
    obtain ⟨k, D, rfl, hk, HKF, HD, HO, HB, HW⟩ := hrel
    by_cases hlt : k < g.evs.length
    · obtain ⟨s, o, rfl, hat⟩ := HP.out (by omega)
      have hat' := hat.below HB.out
      have he := Gr.ev_at hlt
      have x0 := hat'.c0 k _ he
      have x1 := hat'.c1 k _ he
      have x2 := hat'.c2 k _ he
      have x3 := hat'.c3 k _ he
      have x4 := hat'.c4 k _ he
      have K0 : (0 : Int) ≤ ((k : Nat) : Int) := by omega
      have K1 : ((k : Nat) : Int) < ((g.evs.length : Nat) : Int) := by omega
      have HLOC : Hid ((g.ev k).k = 2 → 0 ≤ (g.ev k).l ∧ (g.ev k).l < g.cells) := fun h => wr_cell H2.out H3.out hlt h
      have HPUT : Hid ((g.ev k).k = 2 → ∀ (W : World) (v : Value) (zs : List Int), zs = wrs g (g.ev k).l k ++ [((k : Nat) : Int)] → W.ownsInts (w.heap.size + 1) 3 .i64 v zs → GD g (k + 1) (D.put (.int .i64 (g.ev k).l) (rowDatum .i64 v zs))) := fun h W v zs hz ho => HD.out.put h rfl hz ho
      have HSKIP : Hid ((g.ev k).k ≠ 2 → GD g (k + 1) D) := fun h => HD.out.skip h
      clear he hat hat'
      generalize hge : g.ev k = ek at *
      clear hge
      obtain ⟨et, ek', el, ev, em⟩ := ek
      dsimp only at x0 x1 x2 x3 x4 HLOC HPUT HSKIP
      have hb := Blk.new wr 63 #[.int .i64 et, .int .i64 ek', .int .i64 el, .int .u64 ev, .int .i64 em]
      have HB2 : Hid (Below wr.heap.size wr (wr.alloc (.cells #[.int .i64 et, .int .i64 ek', .int .i64 el, .int .u64 ev, .int .i64 em] 63))) := (Below.refl _ _).alloc (Nat.le_refl _) _
      have HPB := hid_of hb
      clear hb
      by_cases hk2 : ek' = 2
      · subst hk2
        go_upto_region 6 with fail
        clear x0 x1 x2 x3 x4
        generalize hw2 : wr.alloc (.cells #[.int .i64 et, .int .i64 2, .int .i64 el, .int .u64 ev, .int .i64 em] 63) = w2 at *
        generalize hgp : wr.heap.size = gp at *
        clear hw2
        have y2 : w2.cell? ⟨gp, 2, none⟩ = some (.int .i64 el) := HPB.out.cell rfl
        have hloc := HLOC.out rfl
        rw [HN.out] at hloc
        have HOW : Hid (w2.drew.ownsGroups Tryz.prog 3 (w.heap.size + 1) 3 .i64 w.heap.size k D) := groups_below (groups_below HO.out (by rw [hgp]; exact HB2.out)) (Below.refl _ _).drew
        have hwf : (Lit.int .i64 el).wf = true := wf_small hloc.1 (by omega)
        have hkwf : (Lit.int .i64 ((k : Nat) : Int)).wf = true := wf_small (by omega) (by omega)
        have hw2s : gp < w2.heap.size := HPB.out.lt
        obtain ⟨v0, zs, hl, hat0, hoi, hstep⟩ := grp_at w2.drew (w.heap.size + 1) w.heap.size k D el hwf HOW.out (by omega) (by show w.heap.size + 1 ≤ w2.heap.size; have := HW.out; omega) w.heap.size (Nat.le_refl _)
        have hba0 : Below w2.heap.size w2 (w2.alloc (.cells #[.int .i64 ((k : Nat) : Int)] 3)) := (Below.refl _ _).alloc (Nat.le_refl _) _
        have hba : Below w2.drew.heap.size w2.drew (w2.alloc (.cells #[.int .i64 ((k : Nat) : Int)] 3)).drew := ⟨hba0.os, hba0.tape, hba0.output, hba0.size, hba0.block⟩
        have hl2 := look_same hwf HOW.out hba hl
        obtain ⟨v', w4, w5, hap, hup, ho5, hi5, hb5, hblk⟩ := hstep (w2.alloc (.cells #[.int .i64 ((k : Nat) : Int)] 3)).drew w2.heap.size ((k : Nat) : Int) hkwf hba ((Blk.new w2 3 #[.int .i64 ((k : Nat) : Int)]).drew.cell rfl) 45
        have hz := HD.out.at hat0 hoi
        have hgd5 := HPUT.out rfl w4 v' (zs ++ [((k : Nat) : Int)]) (by rw [hz]) hi5
        have y3 := (hblk gp _ _ (by decide) HPB.out.drew).1.cell (j := 2) (v := .int .i64 el) rfl
        have y4 := (hblk gp _ _ (by decide) HPB.out.drew).2.cell (j := 2) (v := .int .i64 el) rfl
        have y5 : (w2.alloc (.cells #[.int .i64 ((k : Nat) : Int)] 3)).cell? ⟨gp, 2, none⟩ = some (.int .i64 el) := (HPB.out.alloc _).cell rfl
        have HG5 := hid_of hgd5
        have HO5 := hid_of ho5
        have HB5 : Hid (Below w.heap.size w w5) := (below_step HB.out HB.out.size (by rw [hgp]; exact HB2.out)).drew.trans hb5
        have HS5 : Hid (w.heap.size + 1 ≤ w5.heap.size) := by
          have := hb5.size
          have : w2.drew.heap.size = w2.heap.size := rfl
          have := HW.out
          rw [Hid]
          omega
        clear hgd5 ho5 hb5 hi5 hstep hat0 hoi hblk hz hba hba0 hgp
        clear hw2s hloc HLOC HPUT HSKIP
        go_region_held3 (fun w' => w'.cell? ⟨gp, 2, none⟩ = some (.int .i64 el)) (first | assumption) (first | (refine step_append_run _ rfl (.tmp 30) (.tmp 32) 45 rfl v0 (.slice (some ⟨w2.heap.size, 0, none⟩) 1 1) v' w4 (by simp [Act.eval, Act.put]) (by simp [Act.eval, Act.put]) hap ?_))
        all_goals go_wp2_with fail
        all_goals go_roundg (g.evs.length - (k + 1))
        case measure => have := HKF.out; omega
        case rel => exact ⟨k + 1, _, by go_num, by omega, by have := HKF.out; rw [Hid]; omega, HG5.out, HO5.out, HB5.out, HS5.out⟩
        case measure => have := HKF.out; omega
        case rel => exact ⟨k + 1, _, by go_num, by omega, by have := HKF.out; rw [Hid]; omega, HG5.out, HO5.out, HB5.out, HS5.out⟩
      · clear HLOC HPUT
        go_wp2_with fail
        go_roundg (g.evs.length - (k + 1))
        case measure => have := HKF.out; omega
        case rel => exact ⟨k + 1, D, by go_num, by omega, by have := HKF.out; rw [Hid]; omega, HSKIP.out hk2, ownsGroups_up (groups_below HO.out HB2.out), below_step HB.out HB.out.size HB2.out, Nat.le_trans HW.out HB2.out.size⟩
    · obtain rfl : k = g.evs.length := by omega
      clear hlt hk
      generalize hwf : wr = wf at *
      clear hwf
      have c0 := (H.out.below HB.out).cells
      rw [HN.out] at c0
      go_wp2_with (first | (at_range; refine wpList_range_own _ rfl _ 109 rfl 3 45 lawInt Tryz.underlying109 _ w.heap.size g.evs.length D rfl (groups_map HO.out) ?_; intro w0 hrg0 hg0 hs0))
      go_frame
      have HRG0 := hid_of hrg0
      have HB0 : Hid (Below wf.heap.size wf w0) := below_of_grownN hg0
      clear hrg0 hg0 hs0 c0
      go_loopg [6] (Maps.size D) (fun f v6 w2 => ∃ (fi : Int) (left : Lit → Bool), v6 = .int .i64 fi ∧ Hid (w2.ranges Tryz.prog 3 (rowElem (H := Unit) wf (w.heap.size + 1) 3 .i64) w.heap.size wf.heap.size g.evs.length D left f) ∧ 0 ≤ fi ∧ fi ≤ (n : Int) ∧ Hid (fi = (n : Int) ∨ bad5c g fi.toNat = true) ∧ Hid (∀ c : Nat, c < n → left (.int .i64 ((c : Nat) : Int)) = false → bad5c g c = true → fi ≤ ((c : Nat) : Int)) ∧ Hid (Below wf.heap.size wf w2))
      case atStart =>
        refine ⟨n, Maps.has D, rfl, HRG0.out, by omega, Int.le_refl _, Or.inl rfl, fun c hc hl => ?_, HB0.out⟩
        have := wrs_ini H1.out H2.out (c := c) (by rw [HN.out]; omega)
        rw [has_true_of_atKey (HD.out.some _ this)] at hl
        cases hl
      case round =>
        obtain ⟨fi, left, rfl, HRG, hf0, hf1, HFB, HFL, HB2⟩ := hrel
        go_wp2_with (first | (at_next; refine wpList_next_ranges _ rfl _ rfl 3 lawInt (rowElem (H := Unit) wf (w.heap.size + 1) 3 .i64) (Value.int .i64) mkSl invInt (invRow wf _) w.heap.size wf.heap.size g.evs.length D left _ rfl HRG.out ?_ ?_))
        · intro hc0 hl0
          have HMIN : Hid (∀ c : Nat, c < n → bad5c g c = true → fi ≤ ((c : Nat) : Int)) := fun c hc hb => HFL.out c hc (hl0 _) hb
          clear hc0 hl0 HFL HRG
          have HBW : Hid (Below w.heap.size w wr) := HB.out.trans (HB2.out.mono HB.out.size)
          have c0 := (H.out.below HBW.out).cells
          rw [HN.out] at c0
          have c3 := (H.out.below HBW.out).cos
          rw [ec] at c3
          by_cases hfn : fi = (n : Int)
          · subst hfn
            have er1 : fstBad (bad5c g) 0 n = -1 := fstBad_none (fun j _ h2 => by
              cases e : bad5c g j
              · rfl
              · have := HMIN.out j (by omega) e; omega)
            have d1 : (((n : Nat) : Int) == ((n : Nat) : Int)) = true := by simp
            by_cases hle : (g.co.length : Int) ≤ (n : Int)
            · obtain rfl : r = -1 := by rw [HR.out, if_pos er1, if_pos hle]
              have d2 : decide (((g.co.length : Nat) : Int) ≤ ((n : Nat) : Int)) = true := decide_eq_true hle
              go_wp2_with fail
              go_quiet (fail)
              all_goals (go_wp2_with fail; go_ret; exact ⟨rfl, below_drewN HBW.out _⟩)
            · obtain rfl : r = (n : Int) := by rw [HR.out, if_pos er1, if_neg hle]
              have d2 : decide (((g.co.length : Nat) : Int) ≤ ((n : Nat) : Int)) = false := decide_eq_false hle
              go_wp2_with fail
              go_quiet (fail)
              all_goals (go_wp2_with fail; go_ret; exact ⟨rfl, below_drewN HBW.out _⟩)
          · obtain rfl : r = fi := by
              have hb := HFB.out.resolve_left hfn
              have : fstBad (bad5c g) 0 n = fi := by
                have := fstBad_hit (P := bad5c g) (a := 0) (f := n) (i := fi.toNat) (Nat.zero_le _) (by omega) (fun j _ h2 => by
                  cases e : bad5c g j
                  · rfl
                  · have := HMIN.out j (by omega) e; omega) hb
                rw [this]; omega
              rw [HR.out, this, if_neg (by omega)]
            have d1 : ((r : Int) == ((n : Nat) : Int)) = false := by rw [beq_eq_false_iff_ne]; exact hfn
            go_wp2_with fail
            go_quiet (fail)
            all_goals (go_wp2_with fail; go_ret; exact ⟨rfl, below_drewN HBW.out _⟩)
        · intro x pv1 pv2 pv3 kl y1 y2 w3 cnt3 hkey hlk hv hat hrg3 hlt3 hgr3 hsz3 hen
          obtain ⟨rfl, c, rfl, hc, hir, hpos⟩ := entry_is HD.out H2.out H3.out hkey hv hat
          rw [HN.out] at hc
          have HB3 : Hid (Below wf.heap.size wf w3) := HB2.out.grown hgr3 (HB2.out.size) (fun k hk => by cases hk; exact Nat.le_refl _)
          have HBW : Hid (Below w.heap.size w w3) := HB.out.trans (HB3.out.mono HB.out.size)
          simp only [mkSl] at hen hir
          have HIR := hid_of (hir.below HB3.out)
          have HPOS := hid_of hpos
          have HRG3 := hid_of hrg3
          have HLT3 := hid_of hlt3
          clear hkey hlk hv hat hrg3 hlt3 hgr3 hsz3 hir hpos HRG
          have c3 := (H.out.below HBW.out).cos
          rw [ec] at c3
          obtain ⟨pc', cc', ec', _, hco⟩ := coarg_form (H.out.below HBW.out).gr.co
          rw [ec] at ec'
          obtain ⟨rfl, _, rfl⟩ : pc = pc' ∧ g.co.length = g.co.length ∧ cc = cc' := by simpa using ec'
          have HNXT : Hid (∀ fi' : Int, fi' ≤ fi → (bad5c g c = true → fi' ≤ ((c : Nat) : Int)) → ∀ d : Nat, d < n → (left (.int .i64 ((d : Nat) : Int)) && !(Lit.int .i64 ((d : Nat) : Int)).sameKey (.int .i64 ((c : Nat) : Int))) = false → bad5c g d = true → fi' ≤ ((d : Nat) : Int)) := fun fi' h1 h2 d hd hl hb => by
            rcases left_after hl with h4 | rfl
            · exact Int.le_trans h1 (HFL.out d hd h4 hb)
            · exact h2 hb
          by_cases hlc : c < g.co.length
          · obtain ⟨l, hl⟩ : ∃ l, g.co[c]? = some l := ⟨_, List.getElem?_eq_getElem hlc⟩
            obtain ⟨s, o, u, rfl, hs, hcu, hiu, hul⟩ := hco c l hl
            have d1 : ¬ (((g.co.length : Nat) : Int) ≤ ((c : Nat) : Int)) := by omega
            have K0 : (0 : Int) ≤ ((c : Nat) : Int) := by omega
            have K1 : ((c : Nat) : Int) < ((g.co.length : Nat) : Int) := by omega
            have hgd : g.co.getD c [] = l := by rw [List.getD_eq_getElem?_getD, hl]; rfl
            have hb5 : bad5c g c = !isOrdB l ((c : Nat) : Int) (wrs g ((c : Nat) : Int) g.evs.length) := by
              rw [bad5c, hgd, decide_eq_false (by omega)]; rfl
            have HB5 := hid_of hb5
            have HC := hid_of (gIsOrder_calls u (.slice pv1 pv2 pv3) l (wrs g ((c : Nat) : Int) g.evs.length) ((c : Nat) : Int) w3 hiu HIR.out HPOS.out (Nat.le_trans (wrs_len _ _ _) (by omega)) hul)
            clear hl hgd hb5 hiu hco ec'
            cases hok : isOrdB l ((c : Nat) : Int) (wrs g ((c : Nat) : Int) g.evs.length)
            · rw [hok] at HC HB5
              clear hok
              go_wp2_with (first | (go_at_call 89; refine HC.out.mono ?_; rintro e w5 ⟨rfl, hB5⟩))
              go_roundg cnt3
              case measure => exact HLT3.out
              case rel => exact ⟨_, _, rfl, HRG3.out.kept (grown_of_below hB5) (by simp) (by simp), by omega, by omega, min_bad HFB.out HB5.out, HNXT.out _ (by omega) (fun _ => by omega), HB3.out.trans (hB5.mono HB3.out.size)⟩
            · rw [hok] at HC HB5
              clear hok
              go_wp2_with (first | (go_at_call 89; refine HC.out.mono ?_; rintro e w5 ⟨rfl, hB5⟩))
              go_roundg cnt3
              case measure => exact HLT3.out
              case rel => exact ⟨fi, _, rfl, HRG3.out.kept (grown_of_below hB5) (by simp) (by simp), hf0, hf1, HFB.out, HNXT.out fi (Int.le_refl _) (fun h => by rw [HB5.out] at h; cases h), HB3.out.trans (hB5.mono HB3.out.size)⟩
          · have HB5 : Hid (bad5c g c = true) := by rw [Hid, bad5c, decide_eq_true (show g.co.length ≤ c by omega)]; rfl
            have d1 : (((g.co.length : Nat) : Int) ≤ ((c : Nat) : Int)) := by omega
            go_wp2_with fail
            go_roundg cnt3
            case measure => exact HLT3.out
            case rel => exact ⟨_, _, rfl, HRG3.out, by omega, by omega, min_bad HFB.out HB5.out, HNXT.out _ (by omega) (fun _ => by omega), HB3.out⟩
end Go.Proofs.YthiijcappjaagaaGreatDoor
namespace Go.Proofs.YthiijcappjaagaaGreatDoor
open Go.RowKit Go.Shelf Sx
def rl (g : Gr) (q : Bool) : Nat → Int
  | 0 => if bad1 g then 0 else -1
  | 1 => bad2 g q
  | 2 => bad3 g q
  | 3 => bad4 g
  | 4 => bad5 g
  | 5 => bad6 g
  | 6 => badD g.evs q g.addr [1, 2]
  | 7 => badD g.evs q g.dat [2]
  | _ => badD g.evs q g.ctrl [1, 2, 3]
def chkF (g : Gr) (q : Bool) : Nat → Nat → Int × Int
  | _, 0 => (0, 0)
  | i, f + 1 => if rl g q i = -1 then chkF g q (i + 1) f else (((i : Nat) : Int) + 1, rl g q i)
def chk (g : Gr) (q : Bool) : Int × Int := chkF g q 0 9
theorem chkF_skip {g : Gr} {q : Bool} : ∀ {i f k : Nat}, (∀ j, i ≤ j → j < i + k → rl g q j = -1) → chkF g q i (f + k) = chkF g q (i + k) f
  | i, f, 0, _ => rfl
  | i, f, k + 1, h => by
    show chkF g q i ((f + k) + 1) = _
    rw [chkF, if_pos (h i (Nat.le_refl _) (by omega)), chkF_skip (i := i + 1) (f := f) (k := k) (fun j h1 h2 => h j (by omega) (by omega))]
    rw [show i + 1 + k = i + (k + 1) by omega]
theorem chk_hit {g : Gr} {q : Bool} {k : Nat} (hk : k < 9) (h : ∀ j, j < k → rl g q j = -1) (hn : rl g q k ≠ -1) : chk g q = (((k : Nat) : Int) + 1, rl g q k) := by
  unfold chk
  have := chkF_skip (g := g) (q := q) (i := 0) (f := 9 - k) (k := k) (fun j _ h2 => h j (by omega))
  rw [show 9 - k + k = 9 by omega, Nat.zero_add] at this
  rw [this]
  obtain ⟨m, hm⟩ : ∃ m, 9 - k = m + 1 := ⟨8 - k, by omega⟩
  rw [hm, chkF, if_neg hn]
theorem chk_none {g : Gr} {q : Bool} (h : ∀ j, j < 9 → rl g q j = -1) : chk g q = (0, 0) := by
  unfold chk
  have := chkF_skip (g := g) (q := q) (i := 0) (f := 0) (k := 9) (fun j _ h2 => h j (by omega))
  rw [Nat.zero_add] at this
  rw [this]
  rfl
theorem rl0 {g : Gr} {q : Bool} (h : rl g q 0 = -1) : bad1 g = false := by
  unfold rl at h
  cases e : bad1 g
  · rfl
  · rw [e] at h; simp at h
theorem bad1_len {g : Gr} (h : bad1 g = false) : g.evs.length ≤ 256 := by
  simp [bad1] at h
  omega
theorem store_blk {w : World} {m j : Nat} {t : TypeId} {cs : Array Value} (h : Blk w m t cs) (hj : j < cs.size) (v : Value) (hv : v.oneCell' = true) :
    ∃ w', (store ⟨m, j, none⟩ v).run Tryz.prog w = .ok () w' ∧ Blk w' m t (cs.setIfInBounds j v) ∧ ∀ B, B ≤ m → Below B w w' := by
  refine ⟨w.setCell ⟨m, j, none⟩ v, ?_, h.set j v, fun B hB => ?_⟩
  · rw [run_store _ _ _ _ _ hv, h.cell (Array.getElem?_eq_getElem hj)]
    simp [h.frozen j]
  · exact (Below.refl B w).setCell (by simpa using hB) _
theorem rules_at0 (W : World) : (Instr.index 68 (.agg #[.func (.func 32) #[] #[], .func (.func 33) #[] #[], .func (.func 34) #[] #[], .func (.func 35) #[] #[], .func (.func 36) #[] #[], .func (.func 37) #[] #[], .func (.func 38) #[] #[], .func (.func 39) #[] #[], .func (.func 40) #[] #[]]) (.int .i64 0)).run Tryz.prog W = .ok (.func (.func 32) #[] #[]) W := by kernel_rfl
theorem rules_at1 (W : World) : (Instr.index 68 (.agg #[.func (.func 32) #[] #[], .func (.func 33) #[] #[], .func (.func 34) #[] #[], .func (.func 35) #[] #[], .func (.func 36) #[] #[], .func (.func 37) #[] #[], .func (.func 38) #[] #[], .func (.func 39) #[] #[], .func (.func 40) #[] #[]]) (.int .i64 1)).run Tryz.prog W = .ok (.func (.func 33) #[] #[]) W := by kernel_rfl
theorem rules_at2 (W : World) : (Instr.index 68 (.agg #[.func (.func 32) #[] #[], .func (.func 33) #[] #[], .func (.func 34) #[] #[], .func (.func 35) #[] #[], .func (.func 36) #[] #[], .func (.func 37) #[] #[], .func (.func 38) #[] #[], .func (.func 39) #[] #[], .func (.func 40) #[] #[]]) (.int .i64 2)).run Tryz.prog W = .ok (.func (.func 34) #[] #[]) W := by kernel_rfl
theorem rules_at3 (W : World) : (Instr.index 68 (.agg #[.func (.func 32) #[] #[], .func (.func 33) #[] #[], .func (.func 34) #[] #[], .func (.func 35) #[] #[], .func (.func 36) #[] #[], .func (.func 37) #[] #[], .func (.func 38) #[] #[], .func (.func 39) #[] #[], .func (.func 40) #[] #[]]) (.int .i64 3)).run Tryz.prog W = .ok (.func (.func 35) #[] #[]) W := by kernel_rfl
theorem rules_at4 (W : World) : (Instr.index 68 (.agg #[.func (.func 32) #[] #[], .func (.func 33) #[] #[], .func (.func 34) #[] #[], .func (.func 35) #[] #[], .func (.func 36) #[] #[], .func (.func 37) #[] #[], .func (.func 38) #[] #[], .func (.func 39) #[] #[], .func (.func 40) #[] #[]]) (.int .i64 4)).run Tryz.prog W = .ok (.func (.func 36) #[] #[]) W := by kernel_rfl
theorem rules_at5 (W : World) : (Instr.index 68 (.agg #[.func (.func 32) #[] #[], .func (.func 33) #[] #[], .func (.func 34) #[] #[], .func (.func 35) #[] #[], .func (.func 36) #[] #[], .func (.func 37) #[] #[], .func (.func 38) #[] #[], .func (.func 39) #[] #[], .func (.func 40) #[] #[]]) (.int .i64 5)).run Tryz.prog W = .ok (.func (.func 37) #[] #[]) W := by kernel_rfl
theorem rules_at6 (W : World) : (Instr.index 68 (.agg #[.func (.func 32) #[] #[], .func (.func 33) #[] #[], .func (.func 34) #[] #[], .func (.func 35) #[] #[], .func (.func 36) #[] #[], .func (.func 37) #[] #[], .func (.func 38) #[] #[], .func (.func 39) #[] #[], .func (.func 40) #[] #[]]) (.int .i64 6)).run Tryz.prog W = .ok (.func (.func 38) #[] #[]) W := by kernel_rfl
theorem rules_at7 (W : World) : (Instr.index 68 (.agg #[.func (.func 32) #[] #[], .func (.func 33) #[] #[], .func (.func 34) #[] #[], .func (.func 35) #[] #[], .func (.func 36) #[] #[], .func (.func 37) #[] #[], .func (.func 38) #[] #[], .func (.func 39) #[] #[], .func (.func 40) #[] #[]]) (.int .i64 7)).run Tryz.prog W = .ok (.func (.func 39) #[] #[]) W := by kernel_rfl
theorem rules_at8 (W : World) : (Instr.index 68 (.agg #[.func (.func 32) #[] #[], .func (.func 33) #[] #[], .func (.func 34) #[] #[], .func (.func 35) #[] #[], .func (.func 36) #[] #[], .func (.func 37) #[] #[], .func (.func 38) #[] #[], .func (.func 39) #[] #[], .func (.func 40) #[] #[]]) (.int .i64 8)).run Tryz.prog W = .ok (.func (.func 40) #[] #[]) W := by kernel_rfl
set_option linter.unusedSimpArgs false in
set_option maxRecDepth 100000 in
set_option maxHeartbeats 8000000 in
theorem gCheck_calls (V : GrV) (g : Gr) (q : Bool) (w : World) (h : GrR w V g) (hF : Frm w) :
    Calls Tryz.prog 8 #[V.val g, .bool q] w fun r w' => r = .returned (.tuple #[.int .i64 (chk g q).1, .int .i64 (chk g q).2]) ∧ Below w.heap.size w w' := by
  generalize hr : chk g q = r
  obtain ⟨r1, r2⟩ := r
  have HR := hid_of hr
  have H := hid_of h
  have HF := hid_of hF
  clear hr h hF
  unfold GrV.val
  obtain ⟨Wb, hWb⟩ : ∃ Wb, (w.alloc (.cells #[.int .i64 g.cells, V.ev, V.rf, V.co, V.rmw, V.addr, V.dat, V.ctrl] 26)).alloc (.cells #[.int .i64 g.cells, V.ev, V.rf, V.co, V.rmw, V.addr, V.dat, V.ctrl, .bool q] 66) = Wb := ⟨_, rfl⟩
  have hBb : Below w.heap.size w Wb := by rw [← hWb]; exact ((Below.refl _ _).alloc (Nat.le_refl _) _).alloc (by simp) _
  have hsb : Wb.heap.size = w.heap.size + 1 + 1 := by rw [← hWb]; simp
  have hbk : Blk Wb (w.heap.size + 1) 66 (V.cs g q) := by
    rw [← hWb]
    have := Blk.new (w.alloc (.cells #[.int .i64 g.cells, V.ev, V.rf, V.co, V.rmw, V.addr, V.dat, V.ctrl] 26)) 66 #[.int .i64 g.cells, V.ev, V.rf, V.co, V.rmw, V.addr, V.dat, V.ctrl, .bool q]
    simpa [GrV.cs] using this
  have b0 := Blk.new Wb 68 #[.nilFunc, .nilFunc, .nilFunc, .nilFunc, .nilFunc, .nilFunc, .nilFunc, .nilFunc, .nilFunc]
  have hB0 : Below Wb.heap.size Wb (Wb.alloc (.cells #[.nilFunc, .nilFunc, .nilFunc, .nilFunc, .nilFunc, .nilFunc, .nilFunc, .nilFunc, .nilFunc] 68)) := (Below.refl _ _).alloc (Nat.le_refl _) _
  have e0 : Hid (Wb.alloc (.cells #[.nilFunc, .nilFunc, .nilFunc, .nilFunc, .nilFunc, .nilFunc, .nilFunc, .nilFunc, .nilFunc] 68) = ((w.alloc (.cells #[.int .i64 g.cells, V.ev, V.rf, V.co, V.rmw, V.addr, V.dat, V.ctrl] 26)).alloc (.cells #[.int .i64 g.cells, V.ev, V.rf, V.co, V.rmw, V.addr, V.dat, V.ctrl, .bool q] 66)).alloc (.cells #[.nilFunc, .nilFunc, .nilFunc, .nilFunc, .nilFunc, .nilFunc, .nilFunc, .nilFunc, .nilFunc] 68)) := by rw [Hid, hWb]
  obtain ⟨W1, s1, b1, l1⟩ := store_blk (j := 0) b0 (by simp) (.func (.func 32) #[] #[]) rfl
  have hB1 := hB0.trans (l1 _ (Nat.le_refl _))
  rw [hsb] at s1
  obtain ⟨W2, s2, b2, l2⟩ := store_blk (j := 1) b1 (by simp) (.func (.func 33) #[] #[]) rfl
  have hB2 := hB1.trans (l2 _ (Nat.le_refl _))
  rw [hsb] at s2
  obtain ⟨W3, s3, b3, l3⟩ := store_blk (j := 2) b2 (by simp) (.func (.func 34) #[] #[]) rfl
  have hB3 := hB2.trans (l3 _ (Nat.le_refl _))
  rw [hsb] at s3
  obtain ⟨W4, s4, b4, l4⟩ := store_blk (j := 3) b3 (by simp) (.func (.func 35) #[] #[]) rfl
  have hB4 := hB3.trans (l4 _ (Nat.le_refl _))
  rw [hsb] at s4
  obtain ⟨W5, s5, b5, l5⟩ := store_blk (j := 4) b4 (by simp) (.func (.func 36) #[] #[]) rfl
  have hB5 := hB4.trans (l5 _ (Nat.le_refl _))
  rw [hsb] at s5
  obtain ⟨W6, s6, b6, l6⟩ := store_blk (j := 5) b5 (by simp) (.func (.func 37) #[] #[]) rfl
  have hB6 := hB5.trans (l6 _ (Nat.le_refl _))
  rw [hsb] at s6
  obtain ⟨W7, s7, b7, l7⟩ := store_blk (j := 6) b6 (by simp) (.func (.func 38) #[] #[]) rfl
  have hB7 := hB6.trans (l7 _ (Nat.le_refl _))
  rw [hsb] at s7
  obtain ⟨W8, s8, b8, l8⟩ := store_blk (j := 7) b7 (by simp) (.func (.func 39) #[] #[]) rfl
  have hB8 := hB7.trans (l8 _ (Nat.le_refl _))
  rw [hsb] at s8
  obtain ⟨W9, s9, b9, l9⟩ := store_blk (j := 8) b8 (by simp) (.func (.func 40) #[] #[]) rfl
  have hB9 := hB8.trans (l9 _ (Nat.le_refl _))
  rw [hsb] at s9
  rw [e0.out] at s1
  simp only [List.setIfInBounds_toArray, List.set_cons_zero, List.set_cons_succ] at b9
  have c0 : W9.cell? ⟨w.heap.size + 1 + 1, 0, none⟩ = some (.func (.func 32) #[] #[]) := by have := b9.cell (j := 0) rfl; rwa [hsb] at this
  have c1 : W9.cell? ⟨w.heap.size + 1 + 1, 1, none⟩ = some (.func (.func 33) #[] #[]) := by have := b9.cell (j := 1) rfl; rwa [hsb] at this
  have c2 : W9.cell? ⟨w.heap.size + 1 + 1, 2, none⟩ = some (.func (.func 34) #[] #[]) := by have := b9.cell (j := 2) rfl; rwa [hsb] at this
  have c3 : W9.cell? ⟨w.heap.size + 1 + 1, 3, none⟩ = some (.func (.func 35) #[] #[]) := by have := b9.cell (j := 3) rfl; rwa [hsb] at this
  have c4 : W9.cell? ⟨w.heap.size + 1 + 1, 4, none⟩ = some (.func (.func 36) #[] #[]) := by have := b9.cell (j := 4) rfl; rwa [hsb] at this
  have c5 : W9.cell? ⟨w.heap.size + 1 + 1, 5, none⟩ = some (.func (.func 37) #[] #[]) := by have := b9.cell (j := 5) rfl; rwa [hsb] at this
  have c6 : W9.cell? ⟨w.heap.size + 1 + 1, 6, none⟩ = some (.func (.func 38) #[] #[]) := by have := b9.cell (j := 6) rfl; rwa [hsb] at this
  have c7 : W9.cell? ⟨w.heap.size + 1 + 1, 7, none⟩ = some (.func (.func 39) #[] #[]) := by have := b9.cell (j := 7) rfl; rwa [hsb] at this
  have c8 : W9.cell? ⟨w.heap.size + 1 + 1, 8, none⟩ = some (.func (.func 40) #[] #[]) := by have := b9.cell (j := 8) rfl; rwa [hsb] at this
  have HB9 : Hid (Below w.heap.size w W9) := hBb.trans (hB9.mono hBb.size)
  have HK9 : Hid (BkR W9 (w.heap.size + 1) V g q) := ⟨hbk.below hB9 (by rw [hsb]; omega), H.out.below HB9.out⟩
  have HF9 : Hid (Frm W9) := HF.out.step HB9.out
  clear b0 hB0 b1 l1 hB1 b2 l2 hB2 b3 l3 hB3 b4 l4 hB4 b5 l5 hB5 b6 l6 hB6 b7 l7 hB7 b8 l8 hB8 b9 l9 hB9 hBb hbk hWb hsb e0
  go_enter Tryz.func8, Tryz.ntmps8
  go_wp2_with fail
  clear s1 s2 s3 s4 s5 s6 s7 s8 s9 c0 c1 c2 c3 c4 c5 c6 c7 c8
  generalize hbkk : w.heap.size + 1 = bk at *
  clear hbkk
  go_loopg [16] 9 (fun f i wr => ∃ k : Nat, i = .int .i64 ((k : Nat) : Int) ∧ k ≤ 9 ∧ Hid (k + f = 9) ∧ Hid (∀ j, j < k → rl g q j = -1) ∧ Hid (Below W9.heap.size W9 wr))
  case atStart => exact ⟨0, rfl, by omega, Nat.zero_add _, (fun j h1 => by omega), Below.refl _ _⟩
  case round =>
    obtain ⟨k, rfl, hk, HKF, HALL, HB⟩ := hrel
    have HBK := hid_of (HK9.out.below HB.out)
    have HFW := hid_of (HF9.out.step HB.out)
    have HBW : Hid (Below w.heap.size w wr) := below_step HB9.out HB9.out.size HB.out
    by_cases hlt : k < 9
    · have HNX : Hid (rl g q k = -1 → ∀ j, j < k + 1 → rl g q j = -1) := fun h j hj => by
        by_cases e : j = k
        · rw [e]; exact h
        · exact HALL.out j (by omega)
      have HHIT : Hid (rl g q k ≠ -1 → r1 = ((k : Nat) : Int) + 1 ∧ r2 = rl g q k) := fun h => by
        have := HR.out.symm.trans (chk_hit hlt HALL.out h)
        exact ⟨congrArg Prod.fst this, congrArg Prod.snd this⟩
      by_cases k0 : k = 0
      · subst k0
        have HC := hid_of (show Calls Tryz.prog 32 #[pv bk] wr (fun r w' => r = .returned (.int .i64 (rl g q 0)) ∧ Below wr.heap.size wr w') from (gSizes_calls bk V g q wr HBK.out).mono (by rintro e w1 ⟨rfl, rfl⟩; exact ⟨rfl, Below.refl _ _⟩))
        generalize rl g q 0 = x at HC HNX HHIT
        clear HALL
        have hix := rules_at0 wr
        by_cases hx : x = -1
        · subst hx
          have HNX2 := hid_of (HNX.out rfl)
          go_wp2_with (first | (go_at_call 32; refine HC.out.mono ?_; rintro e w1 ⟨rfl, hB1⟩))
          go_roundg (9 - (0 + 1))
          case measure => have := HKF.out; omega
          case rel => exact ⟨0 + 1, by go_num, by omega, by rw [Hid], HNX2.out, below_step HB.out HB.out.size hB1⟩
        · obtain ⟨rfl, rfl⟩ := HHIT.out hx
          have hxq : ((r2 : Int) == -1) = false := by rw [beq_eq_false_iff_ne]; exact hx
          go_wp2_with (first | (go_at_call 32; refine HC.out.mono ?_; rintro e w1 ⟨rfl, hB1⟩))
          go_ret2
          exact ⟨by simp, below_step HBW.out HBW.out.size hB1⟩
      by_cases k1 : k = 1
      · subst k1
        have HC := hid_of (show Calls Tryz.prog 33 #[pv bk] wr (fun r w' => r = .returned (.int .i64 (rl g q 1)) ∧ Below wr.heap.size wr w') from gInitials_calls bk V g q wr HBK.out (rl0 (HALL.out 0 (by omega))))
        generalize rl g q 1 = x at HC HNX HHIT
        clear HALL
        have hix := rules_at1 wr
        by_cases hx : x = -1
        · subst hx
          have HNX2 := hid_of (HNX.out rfl)
          go_wp2_with (first | (go_at_call 33; refine HC.out.mono ?_; rintro e w1 ⟨rfl, hB1⟩))
          go_roundg (9 - (1 + 1))
          case measure => have := HKF.out; omega
          case rel => exact ⟨1 + 1, by go_num, by omega, by rw [Hid], HNX2.out, below_step HB.out HB.out.size hB1⟩
        · obtain ⟨rfl, rfl⟩ := HHIT.out hx
          have hxq : ((r2 : Int) == -1) = false := by rw [beq_eq_false_iff_ne]; exact hx
          go_wp2_with (first | (go_at_call 33; refine HC.out.mono ?_; rintro e w1 ⟨rfl, hB1⟩))
          go_ret2
          exact ⟨by simp, below_step HBW.out HBW.out.size hB1⟩
      by_cases k2 : k = 2
      · subst k2
        have HC := hid_of (show Calls Tryz.prog 34 #[pv bk] wr (fun r w' => r = .returned (.int .i64 (rl g q 2)) ∧ Below wr.heap.size wr w') from gOthers_calls bk V g q wr HBK.out HFW.out (rl0 (HALL.out 0 (by omega))))
        generalize rl g q 2 = x at HC HNX HHIT
        clear HALL
        have hix := rules_at2 wr
        by_cases hx : x = -1
        · subst hx
          have HNX2 := hid_of (HNX.out rfl)
          go_wp2_with (first | (go_at_call 34; refine HC.out.mono ?_; rintro e w1 ⟨rfl, hB1⟩))
          go_roundg (9 - (2 + 1))
          case measure => have := HKF.out; omega
          case rel => exact ⟨2 + 1, by go_num, by omega, by rw [Hid], HNX2.out, below_step HB.out HB.out.size hB1⟩
        · obtain ⟨rfl, rfl⟩ := HHIT.out hx
          have hxq : ((r2 : Int) == -1) = false := by rw [beq_eq_false_iff_ne]; exact hx
          go_wp2_with (first | (go_at_call 34; refine HC.out.mono ?_; rintro e w1 ⟨rfl, hB1⟩))
          go_ret2
          exact ⟨by simp, below_step HBW.out HBW.out.size hB1⟩
      by_cases k3 : k = 3
      · subst k3
        have HC := hid_of (show Calls Tryz.prog 35 #[pv bk] wr (fun r w' => r = .returned (.int .i64 (rl g q 3)) ∧ Below wr.heap.size wr w') from gSources_calls bk V g q wr HBK.out)
        generalize rl g q 3 = x at HC HNX HHIT
        clear HALL
        have hix := rules_at3 wr
        by_cases hx : x = -1
        · subst hx
          have HNX2 := hid_of (HNX.out rfl)
          go_wp2_with (first | (go_at_call 35; refine HC.out.mono ?_; rintro e w1 ⟨rfl, hB1⟩))
          go_roundg (9 - (3 + 1))
          case measure => have := HKF.out; omega
          case rel => exact ⟨3 + 1, by go_num, by omega, by rw [Hid], HNX2.out, below_step HB.out HB.out.size hB1⟩
        · obtain ⟨rfl, rfl⟩ := HHIT.out hx
          have hxq : ((r2 : Int) == -1) = false := by rw [beq_eq_false_iff_ne]; exact hx
          go_wp2_with (first | (go_at_call 35; refine HC.out.mono ?_; rintro e w1 ⟨rfl, hB1⟩))
          go_ret2
          exact ⟨by simp, below_step HBW.out HBW.out.size hB1⟩
      by_cases k4 : k = 4
      · subst k4
        have HC := hid_of (show Calls Tryz.prog 36 #[pv bk] wr (fun r w' => r = .returned (.int .i64 (rl g q 4)) ∧ Below wr.heap.size wr w') from gOrders_calls bk V g q wr HBK.out (rl0 (HALL.out 0 (by omega))) (HALL.out 1 (by omega)) (HALL.out 2 (by omega)))
        generalize rl g q 4 = x at HC HNX HHIT
        clear HALL
        have hix := rules_at4 wr
        by_cases hx : x = -1
        · subst hx
          have HNX2 := hid_of (HNX.out rfl)
          go_wp2_with (first | (go_at_call 36; refine HC.out.mono ?_; rintro e w1 ⟨rfl, hB1⟩))
          go_roundg (9 - (4 + 1))
          case measure => have := HKF.out; omega
          case rel => exact ⟨4 + 1, by go_num, by omega, by rw [Hid], HNX2.out, below_step HB.out HB.out.size hB1⟩
        · obtain ⟨rfl, rfl⟩ := HHIT.out hx
          have hxq : ((r2 : Int) == -1) = false := by rw [beq_eq_false_iff_ne]; exact hx
          go_wp2_with (first | (go_at_call 36; refine HC.out.mono ?_; rintro e w1 ⟨rfl, hB1⟩))
          go_ret2
          exact ⟨by simp, below_step HBW.out HBW.out.size hB1⟩
      by_cases k5 : k = 5
      · subst k5
        have HC := hid_of (show Calls Tryz.prog 37 #[pv bk] wr (fun r w' => r = .returned (.int .i64 (rl g q 5)) ∧ Below wr.heap.size wr w') from gUpdates_calls bk V g q wr HBK.out (bad1_len (rl0 (HALL.out 0 (by omega)))))
        generalize rl g q 5 = x at HC HNX HHIT
        clear HALL
        have hix := rules_at5 wr
        by_cases hx : x = -1
        · subst hx
          have HNX2 := hid_of (HNX.out rfl)
          go_wp2_with (first | (go_at_call 37; refine HC.out.mono ?_; rintro e w1 ⟨rfl, hB1⟩))
          go_roundg (9 - (5 + 1))
          case measure => have := HKF.out; omega
          case rel => exact ⟨5 + 1, by go_num, by omega, by rw [Hid], HNX2.out, below_step HB.out HB.out.size hB1⟩
        · obtain ⟨rfl, rfl⟩ := HHIT.out hx
          have hxq : ((r2 : Int) == -1) = false := by rw [beq_eq_false_iff_ne]; exact hx
          go_wp2_with (first | (go_at_call 37; refine HC.out.mono ?_; rintro e w1 ⟨rfl, hB1⟩))
          go_ret2
          exact ⟨by simp, below_step HBW.out HBW.out.size hB1⟩
      by_cases k6 : k = 6
      · subst k6
        have HC := hid_of (show Calls Tryz.prog 38 #[pv bk] wr (fun r w' => r = .returned (.int .i64 (rl g q 6)) ∧ Below wr.heap.size wr w') from gAddresses_calls bk V g q wr HBK.out)
        generalize rl g q 6 = x at HC HNX HHIT
        clear HALL
        have hix := rules_at6 wr
        by_cases hx : x = -1
        · subst hx
          have HNX2 := hid_of (HNX.out rfl)
          go_wp2_with (first | (go_at_call 38; refine HC.out.mono ?_; rintro e w1 ⟨rfl, hB1⟩))
          go_roundg (9 - (6 + 1))
          case measure => have := HKF.out; omega
          case rel => exact ⟨6 + 1, by go_num, by omega, by rw [Hid], HNX2.out, below_step HB.out HB.out.size hB1⟩
        · obtain ⟨rfl, rfl⟩ := HHIT.out hx
          have hxq : ((r2 : Int) == -1) = false := by rw [beq_eq_false_iff_ne]; exact hx
          go_wp2_with (first | (go_at_call 38; refine HC.out.mono ?_; rintro e w1 ⟨rfl, hB1⟩))
          go_ret2
          exact ⟨by simp, below_step HBW.out HBW.out.size hB1⟩
      by_cases k7 : k = 7
      · subst k7
        have HC := hid_of (show Calls Tryz.prog 39 #[pv bk] wr (fun r w' => r = .returned (.int .i64 (rl g q 7)) ∧ Below wr.heap.size wr w') from gValues_calls bk V g q wr HBK.out)
        generalize rl g q 7 = x at HC HNX HHIT
        clear HALL
        have hix := rules_at7 wr
        by_cases hx : x = -1
        · subst hx
          have HNX2 := hid_of (HNX.out rfl)
          go_wp2_with (first | (go_at_call 39; refine HC.out.mono ?_; rintro e w1 ⟨rfl, hB1⟩))
          go_roundg (9 - (7 + 1))
          case measure => have := HKF.out; omega
          case rel => exact ⟨7 + 1, by go_num, by omega, by rw [Hid], HNX2.out, below_step HB.out HB.out.size hB1⟩
        · obtain ⟨rfl, rfl⟩ := HHIT.out hx
          have hxq : ((r2 : Int) == -1) = false := by rw [beq_eq_false_iff_ne]; exact hx
          go_wp2_with (first | (go_at_call 39; refine HC.out.mono ?_; rintro e w1 ⟨rfl, hB1⟩))
          go_ret2
          exact ⟨by simp, below_step HBW.out HBW.out.size hB1⟩
      by_cases k8 : k = 8
      · subst k8
        have HC := hid_of (show Calls Tryz.prog 40 #[pv bk] wr (fun r w' => r = .returned (.int .i64 (rl g q 8)) ∧ Below wr.heap.size wr w') from gControls_calls bk V g q wr HBK.out)
        generalize rl g q 8 = x at HC HNX HHIT
        clear HALL
        have hix := rules_at8 wr
        by_cases hx : x = -1
        · subst hx
          have HNX2 := hid_of (HNX.out rfl)
          go_wp2_with (first | (go_at_call 40; refine HC.out.mono ?_; rintro e w1 ⟨rfl, hB1⟩))
          go_roundg (9 - (8 + 1))
          case measure => have := HKF.out; omega
          case rel => exact ⟨8 + 1, by go_num, by omega, by rw [Hid], HNX2.out, below_step HB.out HB.out.size hB1⟩
        · obtain ⟨rfl, rfl⟩ := HHIT.out hx
          have hxq : ((r2 : Int) == -1) = false := by rw [beq_eq_false_iff_ne]; exact hx
          go_wp2_with (first | (go_at_call 40; refine HC.out.mono ?_; rintro e w1 ⟨rfl, hB1⟩))
          go_ret2
          exact ⟨by simp, below_step HBW.out HBW.out.size hB1⟩
      omega
    · obtain rfl : k = 9 := by omega
      have e9 := HR.out.symm.trans (chk_none HALL.out)
      obtain ⟨rfl, rfl⟩ : r1 = 0 ∧ r2 = 0 := ⟨congrArg Prod.fst e9, congrArg Prod.snd e9⟩
      clear e9
      go_wp2_with fail
      go_ret2
      exact ⟨rfl, HBW.out⟩
end Go.Proofs.YthiijcappjaagaaGreatDoor
namespace Go.Proofs.YthiijcappjaagaaGreatDoor
open Go.RowKit Go.Shelf Sx
def wfB (g : Gr) : Bool := decide ((chk g false).1 = 0) || decide ((chk g true).1 = 0)
def GrV.gs (V : GrV) (g : Gr) : Array Value := #[.int .i64 g.cells, V.ev, V.rf, V.co, V.rmw, V.addr, V.dat, V.ctrl]
set_option linter.unusedSimpArgs false in
set_option maxRecDepth 100000 in
set_option maxHeartbeats 8000000 in
theorem gWell_calls (V : GrV) (g : Gr) (w : World) (h : GrR w V g) (hF : Frm w) :
    Calls Tryz.prog 50 #[V.val g] w fun r w' => r = .returned (.bool (wfB g)) ∧ Below w.heap.size w w' := by
  generalize hr : wfB g = r
  have HR := hid_of hr
  have H := hid_of h
  have HF := hid_of hF
  have hgb := Blk.new w 26 (V.gs g)
  obtain ⟨W1, hW1⟩ : ∃ W1, w.alloc (.cells (V.gs g) 26) = W1 := ⟨_, rfl⟩
  have hB1 : Below w.heap.size w W1 := by rw [← hW1]; exact (Below.refl _ _).alloc (Nat.le_refl _) _
  rw [hW1] at hgb
  have hs1 : W1.heap.size = w.heap.size + 1 := by rw [← hW1]; simp
  have hbb := Blk.new W1 4 #[.bool false, .bool true]
  have hB2 : Below W1.heap.size W1 (W1.alloc (.cells #[.bool false, .bool true] 4)) := (Below.refl _ _).alloc (Nat.le_refl _) _
  generalize hW2 : W1.alloc (.cells #[.bool false, .bool true] 4) = W2 at *
  have e2 : Hid ((w.alloc (.cells #[.int .i64 g.cells, V.ev, V.rf, V.co, V.rmw, V.addr, V.dat, V.ctrl] 26)).alloc (.cells #[.bool false, .bool true] 4) = W2) := by rw [Hid, ← hW2, ← hW1]; rfl
  have HB2 : Hid (Below w.heap.size w W2) := hB1.trans (hB2.mono hB1.size)
  rw [hs1] at hbb
  have HBB := hid_of hbb
  have HGB := hid_of (hgb.of_below hB2)
  clear hr h hF hgb hbb hB1 hB2 hs1 hW1 hW2
  unfold GrV.val
  go_enter Tryz.func50, Tryz.ntmps50
  go_wp2_with fail
  rw [e2.out]
  clear e2
  generalize hgp : w.heap.size + 1 = bp at *
  clear hgp
  go_loopg [9] 2 (fun f i wr => ∃ k : Nat, i = .int .i64 ((k : Nat) : Int) ∧ k ≤ 2 ∧ Hid (k + f = 2) ∧ Hid (1 ≤ k → (chk g false).1 ≠ 0) ∧ Hid (2 ≤ k → (chk g true).1 ≠ 0) ∧ Hid (Below W2.heap.size W2 wr))
  case atStart => exact ⟨0, rfl, by omega, Nat.zero_add _, (fun h => by omega), (fun h => by omega), Below.refl _ _⟩
  case round =>
    obtain ⟨k, rfl, hk, HKF, HA, HT, HB⟩ := hrel
    have HBW : Hid (Below w.heap.size w wr) := below_step HB2.out HB2.out.size HB.out
    have hg := HGB.out.of_below HB.out
    have x0 : wr.cell? ⟨w.heap.size, 0, none⟩ = some (.int .i64 g.cells) := hg.cell rfl
    have x1 : wr.cell? ⟨w.heap.size, 1, none⟩ = some V.ev := hg.cell rfl
    have x2 : wr.cell? ⟨w.heap.size, 2, none⟩ = some V.rf := hg.cell rfl
    have x3 : wr.cell? ⟨w.heap.size, 3, none⟩ = some V.co := hg.cell rfl
    have x4 : wr.cell? ⟨w.heap.size, 4, none⟩ = some V.rmw := hg.cell rfl
    have x5 : wr.cell? ⟨w.heap.size, 5, none⟩ = some V.addr := hg.cell rfl
    have x6 : wr.cell? ⟨w.heap.size, 6, none⟩ = some V.dat := hg.cell rfl
    have x7 : wr.cell? ⟨w.heap.size, 7, none⟩ = some V.ctrl := hg.cell rfl
    have hc := fun q => gCheck_calls V g q wr (H.out.below HBW.out) (HF.out.step HBW.out)
    unfold GrV.val at hc
    have hbw := HBB.out.of_below HB.out
    clear hg
    match k, hk with
    | 0, _ =>
      have y : wr.cell? ⟨bp, 0, none⟩ = some (.bool false) := hbw.cell rfl
      have HC := hid_of (hc false)
      clear hc hbw
      generalize hx : (chk g false).1 = x at HC
      generalize (chk g false).2 = x' at HC
      have HX := hid_of hx
      clear hx
      by_cases hx0 : x = 0
      · subst hx0
        obtain rfl : r = true := by rw [← HR.out, wfB, HX.out]; rfl
        go_wp2_with (first | (go_at_call 8; refine HC.out.mono ?_; rintro e w1 ⟨rfl, hB1⟩))
        go_ret
        exact ⟨rfl, below_step HBW.out HBW.out.size hB1⟩
      · have q0 : ((x : Int) == 0) = false := by rw [beq_eq_false_iff_ne]; exact hx0
        go_wp2_with (first | (go_at_call 8; refine HC.out.mono ?_; rintro e w1 ⟨rfl, hB1⟩))
        go_roundg 1
        case measure => have := HKF.out; omega
        case rel => exact ⟨1, by go_num, by omega, by rw [Hid], (fun _ => by rw [HX.out]; exact hx0), (fun h => by omega), below_step HB.out HB.out.size hB1⟩
    | 1, _ =>
      have y : wr.cell? ⟨bp, 1, none⟩ = some (.bool true) := hbw.cell rfl
      have HC := hid_of (hc true)
      clear hc hbw
      generalize hx : (chk g true).1 = x at HC
      generalize (chk g true).2 = x' at HC
      have HX := hid_of hx
      clear hx
      by_cases hx0 : x = 0
      · subst hx0
        obtain rfl : r = true := by rw [← HR.out, wfB, HX.out]; simp
        go_wp2_with (first | (go_at_call 8; refine HC.out.mono ?_; rintro e w1 ⟨rfl, hB1⟩))
        go_ret
        exact ⟨rfl, below_step HBW.out HBW.out.size hB1⟩
      · have q0 : ((x : Int) == 0) = false := by rw [beq_eq_false_iff_ne]; exact hx0
        go_wp2_with (first | (go_at_call 8; refine HC.out.mono ?_; rintro e w1 ⟨rfl, hB1⟩))
        go_roundg 0
        case measure => have := HKF.out; omega
        case rel => exact ⟨2, by go_num, by omega, by rw [Hid], (fun _ => HA.out (by omega)), (fun h => by rw [HX.out]; exact hx0), below_step HB.out HB.out.size hB1⟩
    | 2, _ =>
      obtain rfl : r = false := by
        rw [← HR.out, wfB, decide_eq_false (HA.out (by omega)), decide_eq_false (HT.out (by omega))]; rfl
      clear hc hbw
      go_wp2_with fail
      go_ret
      exact ⟨rfl, HBW.out⟩
end Go.Proofs.YthiijcappjaagaaGreatDoor
namespace Go.Proofs.YthiijcappjaagaaGreatDoor
open Go.RowKit Go.Shelf Sx
theorem chkF_zero {g : Gr} {q : Bool} : ∀ {f i : Nat}, (chkF g q i f).1 = 0 → ∀ j, i ≤ j → j < i + f → rl g q j = -1
  | 0, i, _, j, h1, h2 => by omega
  | f + 1, i, h, j, h1, h2 => by
    rw [chkF] at h
    by_cases e : rl g q i = -1
    · rw [if_pos e] at h
      by_cases ej : j = i
      · rw [ej]; exact e
      · exact chkF_zero h j (by omega) (by omega)
    · rw [if_neg e] at h
      have : ((i : Nat) : Int) + 1 = 0 := h
      omega
theorem chk_zero {g : Gr} {q : Bool} (h : (chk g q).1 = 0) : ∀ j, j < 9 → rl g q j = -1 := fun j hj => chkF_zero h j (Nat.zero_le _) (by omega)
theorem wf_some {g : Gr} (h : wfB g = true) : ∃ q, ∀ j, j < 9 → rl g q j = -1 := by
  simp [wfB] at h
  rcases h with h | h
  · exact ⟨false, chk_zero h⟩
  · exact ⟨true, chk_zero h⟩
theorem srtI_mem {l : List Int} {x : Int} : x ∈ srtI l ↔ x ∈ l := by unfold srtI; exact (List.mergeSort_perm l _).mem_iff
theorem ord_parts {l : List Int} {c : Int} {ws : List Int} (h : isOrdB l c ws = true) : l.length = ws.length ∧ l.getD 0 0 = c ∧ srtI l = ws := by
  simp [isOrdB] at h
  exact ⟨h.1.1, by simpa using h.1.2, h.2⟩
theorem ok5 {g : Gr} {q : Bool} (h : ∀ j, j < 9 → rl g q j = -1) : ((g.co.length : Nat) : Int) = g.cells ∧ ∀ (c : Nat) (l : List Int), g.co[c]? = some l → isOrdB l ((c : Nat) : Int) (wrs g ((c : Nat) : Int) g.evs.length) = true := by
  have h1 := rl0 (h 0 (by omega))
  have h5 : bad5 g = -1 := h 4 (by omega)
  have hsz : 0 ≤ g.cells := by simp [bad1] at h1; omega
  unfold bad5 at h5
  rcases fstBad_cases (bad5c g) g.cells.toNat 0 with ⟨e, hall⟩ | ⟨i, e, _⟩
  · rw [if_pos e] at h5
    have hle : (g.co.length : Int) ≤ g.cells := by
      by_cases hle : (g.co.length : Int) ≤ g.cells
      · exact hle
      · rw [if_neg hle] at h5; omega
    have hge : g.cells ≤ (g.co.length : Int) := by
      by_cases hge : g.cells ≤ (g.co.length : Int)
      · exact hge
      · have := hall g.co.length (Nat.zero_le _) (by omega)
        simp [bad5c] at this
    refine ⟨by omega, fun c l hl => ?_⟩
    have hc := (List.getElem?_eq_some_iff.1 hl).1
    have := hall c (Nat.zero_le _) (by omega)
    rw [bad5c, List.getD_eq_getElem?_getD, hl] at this
    simp at this
    exact this.2
  · rw [e] at h5
    rw [if_neg (by omega)] at h5
    omega
theorem co_list {g : Gr} {q : Bool} (h : ∀ j, j < 9 → rl g q j = -1) {c : Nat} {l : List Int} (hl : g.co[c]? = some l) : 0 < l.length ∧ ∀ x ∈ l, ∃ i : Nat, x = ((i : Nat) : Int) ∧ i < g.evs.length ∧ (g.ev i).k = 2 ∧ (g.ev i).l = ((c : Nat) : Int) := by
  obtain ⟨h1, h2⟩ := ok5 h
  obtain ⟨e1, _, e3⟩ := ord_parts (h2 c l hl)
  have hc := (List.getElem?_eq_some_iff.1 hl).1
  have hn := wrs_ini (rl0 (h 0 (by omega))) (h 1 (by omega)) (c := c) (by omega)
  refine ⟨by rw [e1]; exact List.length_pos_iff.2 hn, fun x hx => ?_⟩
  have hx' := srtI_mem.2 hx
  rw [e3] at hx'
  obtain ⟨i, rfl, hi, hw⟩ := mem_wrs.1 hx'
  simp [isWr] at hw
  exact ⟨i, rfl, hi, hw.1, hw.2⟩
theorem wf_len {g : Gr} (h : wfB g = true) : g.evs.length ≤ 256 := by
  obtain ⟨q, hq⟩ := wf_some h
  exact bad1_len (rl0 (hq 0 (by omega)))
def finV (g : Gr) (l : List Int) : Int := (g.ev (l.getD (l.length - 1) 0).toNat).v
def finL (g : Gr) : List Int := g.co.map (finV g)
def encU (l : List Int) : List Value := l.map (fun x => .int .u64 x)
theorem encU_snoc (l : List Int) (x : Int) : encU (l ++ [x]) = encU l ++ [.int .u64 x] := by simp [encU]
theorem Tryz.infou64 : (Tryz.prog.info? 56).map (fun i => (i.zero, i.size, i.bytes)) = some (some (.int .u64 0), 1, 8) := by kernel_rfl
end Go.Proofs.YthiijcappjaagaaGreatDoor
namespace Go.Proofs.YthiijcappjaagaaGreatDoor
open Go.RowKit Go.Shelf Sx
theorem take_snoc' {α : Type} {l : List α} {k : Nat} {x : α} (h : l[k]? = some x) : l.take (k + 1) = l.take k ++ [x] := by
  rw [List.take_add_one, h]; rfl
def FinR (g : Gr) (w : World) (r : Ending) (w' : World) : Prop := (wfB g = true ∧ ∃ u, r = .returned (.tuple #[u, .int .i64 0]) ∧ w'.ownsRow w.heap.size 56 1 u (finL g).length (encU (finL g)) ∧ Below w.heap.size w w') ∨ (wfB g = false ∧ r = .returned (.tuple #[.slice none 0 0, .int .i64 4]) ∧ Below w.heap.size w w')
set_option linter.unusedSimpArgs false in
set_option maxRecDepth 100000 in
set_option maxHeartbeats 8000000 in
theorem gFinal_calls (V : GrV) (g : Gr) (w : World) (h : GrR w V g) (hF : Frm w) :
    Calls Tryz.prog 24 #[V.val g] w (FinR g w) := by
  obtain ⟨i0, hi, hz0, hz1, hz2⟩ := info_parts Tryz.infou64
  obtain ⟨pe, ce, ee, hp, _⟩ := h.ev
  obtain ⟨pc, cc, ec, hcl, hco⟩ := coarg_form h.co
  have hgb := Blk.new w 26 (V.gs g)
  have hB1 : Below w.heap.size w (w.alloc (.cells (V.gs g) 26)) := (Below.refl _ _).alloc (Nat.le_refl _) _
  have e1 : w.alloc (.cells (V.gs g) 26) = w.alloc (.cells #[.int .i64 g.cells, V.ev, V.rf, V.co, V.rmw, V.addr, V.dat, V.ctrl] 26) := rfl
  have hw := gWell_calls V g (w.alloc (.cells (V.gs g) 26)) (h.below hB1) (hF.step hB1)
  rw [e1] at hw hB1 hgb
  unfold GrV.val at hw
  generalize hwf : wfB g = q at hw
  have HWF := hid_of hwf
  have EE := hid_of ee
  have EC := hid_of ec
  have HW := hid_of hw
  have HP := hid_of hp
  have HCO := hid_of hco
  have HB1 := hid_of hB1
  have HGB := hid_of hgb
  clear ee ec hwf hw hp hco hB1 hgb e1 h hF
  unfold GrV.val
  go_enter Tryz.func24, Tryz.ntmps24
  cases q
  · go_wp2_with (first | (go_at_call 50; refine HW.out.mono ?_; rintro e w1 ⟨rfl, hB2⟩))
    go_ret2
    exact .inr ⟨HWF.out, rfl, below_step HB1.out HB1.out.size hB2⟩
  · obtain ⟨qw, hqw⟩ := wf_some HWF.out
    have HQW := hid_of hqw
    clear hqw
    have hl256 := wf_len HWF.out
    have hcl2 : g.co.length ≤ 256 := by
      have h1 := rl0 (HQW.out 0 (by omega))
      have h2 := (ok5 HQW.out).1
      simp [bad1] at h1
      omega
    go_wp2_with (first | (go_at_call 50; refine HW.out.mono ?_; rintro e w1 ⟨rfl, hB2⟩; have c3 := (HGB.out.of_below hB2).cell (j := 3) (v := .slice pc g.co.length cc) (by rw [← EC.out]; rfl)))
    have HB2 : Hid (Below w.heap.size w w1) := below_step HB1.out HB1.out.size hB2
    have HGB2 := hid_of (HGB.out.of_below hB2)
    clear c3 hB2 HW
    go_loopg [4, 13] g.co.length (fun f ov i wr => ∃ k : Nat, i = .int .i64 ((k : Nat) : Int) ∧ k ≤ g.co.length ∧ Hid (k + f = g.co.length) ∧ Hid (wr.ownsRow w1.heap.size 56 1 ov (((finL g).take k)).length (encU ((finL g).take k))) ∧ Hid (Below w1.heap.size w1 wr))
    case atStart => exact ⟨0, rfl, Nat.zero_le _, Nat.zero_add _, World.ownsRow_nil _ _ _ _, Below.refl _ _⟩
    case round =>
      obtain ⟨k, rfl, hk, HKF, HO, HB⟩ := hrel
      have HBW : Hid (Below w.heap.size w wr) := below_step HB2.out HB2.out.size HB.out
      by_cases hlt : k < g.co.length
      · obtain ⟨l, hl⟩ : ∃ l, g.co[k]? = some l := ⟨_, List.getElem?_eq_getElem hlt⟩
        obtain ⟨s, o, u, rfl, hs, hcu, hiu, hul⟩ := HCO.out k l hl
        obtain ⟨hpos, hall⟩ := co_list HQW.out hl
        obtain ⟨j, HJJ⟩ : ∃ j : Nat, Hid (l.length = j + 1) := ⟨l.length - 1, by rw [Hid]; omega⟩
        obtain ⟨x, hx⟩ : ∃ x, l[j]? = some x := ⟨_, List.getElem?_eq_getElem (by have := HJJ.out; omega)⟩
        obtain ⟨i, rfl, hi2, _⟩ := hall x (List.mem_of_getElem? hx)
        obtain ⟨s2, o2, c2, rfl, hs2, hcx⟩ := hiu.some hpos
        obtain ⟨s3, o3, rfl, hat⟩ := HP.out (by omega)
        have hev := Gr.ev_at hi2
        have HFV : Hid ((finL g).take (k + 1) = (finL g).take k ++ [(g.ev i).v]) := by
          rw [Hid, take_snoc' (x := (g.ev i).v)]
          unfold finL
          rw [List.getElem?_map, hl]
          simp only [Option.map_some, finV]
          rw [show l.length - 1 = j by have := HJJ.out; omega, List.getD_eq_getElem?_getD, hx]
          rfl
        have x0 : wr.cell? ⟨s, o + k, none⟩ = some (.slice (some ⟨s2, o2, none⟩) l.length c2) := (HBW.out.cell (p := ⟨s, o + k, none⟩) hs).trans hcu
        have x1 : wr.cell? ⟨s2, o2 + j, none⟩ = some (.int .i64 ((i : Nat) : Int)) := (HBW.out.cell (p := ⟨s2, o2 + j, none⟩) hs2).trans (hcx j _ hx)
        have x2 : wr.cell? ⟨s3, o3 + i * 5 + 3, none⟩ = some (.int .u64 (g.ev i).v) := (hat.below HBW.out).c3 i _ hev
        have x3 : wr.cell? ⟨w.heap.size, 1, none⟩ = some (.slice (some ⟨s3, o3, none⟩) g.evs.length ce) := (HGB2.out.of_below HB.out).cell (by rw [← EE.out]; rfl)
        have K0 : (0 : Int) ≤ ((k : Nat) : Int) := by omega
        have K1 : ((k : Nat) : Int) < ((g.co.length : Nat) : Int) := by omega
        have J0 : (0 : Int) ≤ ((j : Nat) : Int) := by omega
        have J1 : ((j : Nat) : Int) < ((l.length : Nat) : Int) := by have := HJJ.out; omega
        have I0 : (0 : Int) ≤ ((i : Nat) : Int) := by omega
        have I1 : ((i : Nat) : Int) < ((g.evs.length : Nat) : Int) := by omega
        have jw : IntKind.i64.wrap ((j : Nat) : Int) = ((j : Nat) : Int) := wrap_small' (by have := HJJ.out; omega)
        have hj1 : ((l.length : Nat) : Int) - 1 = ((j : Nat) : Int) := by have := HJJ.out; omega
        have hs3 : s3 < w.heap.size := hat.lt
        clear hl hcu hiu hall hx hcx hat hev
        generalize (g.ev i).v = vx at *
        have hlen : ((finL g).take k).length ≤ 256 := by rw [List.length_take]; omega
        have HLE : Hid (((finL g).take (k + 1)).length = ((finL g).take k).length + 1) := by rw [Hid, HFV.out]; simp
        generalize (finL g).take k = fk at *
        have hbw := HB.out.size
        have hsz1 := HB2.out.size
        have hb0 := Blk.new wr 56 #[.int .u64 vx]
        have hBa : Below wr.heap.size wr (wr.alloc (.cells #[.int .u64 vx] 56)) := (Below.refl _ _).alloc (Nat.le_refl _) _
        obtain ⟨v', w4, hap, hown4, hg4, _, _⟩ := run_append_own_at (P := Tryz.prog) (wr.alloc (.cells #[.int .u64 vx] 56)).drew w1.heap.size 51 51 56 i0 (.int .u64 0) 1 8 Tryz.underlying51 hi hz0 hz1 hz2 rfl (by decide) u4 fk.length (encU fk) (owns_below' HO.out (hBa.drew)) ⟨wr.heap.size, 0, none⟩ 1 1 [.int .u64 vx] rfl
          (fun j u hj => by
            match j, hj with
            | 0, hj => simp at hj; subst hj; exact hb0.drew.cell (j := 0) rfl)
          (by simp [Value.oneCell']) (by unfold maxLen; omega) (by omega) (by show w1.heap.size ≤ (wr.alloc _).heap.size; simp; omega)
        have hB4 : Below w1.heap.size wr w4 := ((hBa.mono hbw).drew).grown hg4 (by show w1.heap.size ≤ (wr.alloc _).heap.size; simp; omega) (fun q e => (HO.out.lt q e).1)
        have HB4 := hid_of hB4
        have HO4 := hid_of hown4
        have HKEEP : Hid (∀ W, Below w1.heap.size wr W → W.cell? ⟨w.heap.size, 1, none⟩ = some (.slice (some ⟨s3, o3, none⟩) g.evs.length ce) ∧ W.cell? ⟨s2, o2 + j, none⟩ = some (.int .i64 ((i : Nat) : Int)) ∧ W.cell? ⟨s3, o3 + i * 5 + 3, none⟩ = some (.int .u64 vx)) := fun W hW => ⟨(hW.cell (p := ⟨w.heap.size, 1, none⟩) (HGB2.out.lt)).trans x3, (hW.cell (p := ⟨s2, o2 + j, none⟩) (Nat.lt_of_lt_of_le hs2 hsz1)).trans x1, (hW.cell (p := ⟨s3, o3 + i * 5 + 3, none⟩) (Nat.lt_of_lt_of_le hs3 hsz1)).trans x2⟩
        have HKa := hid_of (HKEEP.out _ (hBa.mono hbw))
        have HK4 := hid_of (HKEEP.out _ hB4)
        clear hB4 hown4 hBa hb0 hg4 HO
        go_upto_region 7 with fail
        go_region_held3 (fun w' => w'.cell? ⟨w.heap.size, 1, none⟩ = some (.slice (some ⟨s3, o3, none⟩) g.evs.length ce) ∧ w'.cell? ⟨s2, o2 + j, none⟩ = some (.int .i64 ((i : Nat) : Int)) ∧ w'.cell? ⟨s3, o3 + i * 5 + 3, none⟩ = some (.int .u64 vx)) (first | assumption | exact ⟨x3, x1, x2⟩ | exact HKa.out | exact HK4.out) (first | (refine step_append_run _ rfl (.tmp 17) (.tmp 29) 51 rfl u4 (.slice (some ⟨wr.heap.size, 0, none⟩) 1 1) v' w4 (by simp [Act.eval, Act.put]) (by simp [Act.eval, Act.put]) hap ?_))
        go_wp2_with fail
        go_roundg (g.co.length - (k + 1))
        case measure => have := HKF.out; omega
        case rel => exact ⟨k + 1, by go_num, by omega, by have := HKF.out; rw [Hid]; omega, by rw [Hid, HLE.out, HFV.out, encU_snoc]; exact HO4.out, HB.out.trans HB4.out⟩
      · obtain rfl : k = g.co.length := by omega
        go_wp2_with fail
        go_ret2
        refine .inl ⟨HWF.out, _, rfl, ?_, HBW.out⟩
        have := owns_lo HO.out HB2.out.size
        rwa [List.take_of_length_le (by simp [finL])] at this
end Go.Proofs.YthiijcappjaagaaGreatDoor
namespace Go.Proofs.YthiijcappjaagaaGreatDoor
open Go.RowKit Go.Shelf Sx
theorem wpAnyH_chain {P : Program} {ops : Array Oper} {Q : Exit → Act → World → Prop} {md : Region.Mode} {S : World → Prop} (cs : List Nat) (al f0 : Nat) (L : Nat → Bool → Array Bool) (Inv : Nat → Bool → Act → World → Prop)
    (hset : ∀ j, j < cs.length → ∀ fl, (L j fl).setIfInBounds (cs.getD j 0) true = L (j + 1) fl)
    (hsetA : ∀ j, j ≤ cs.length → (L j false).setIfInBounds al true = L j true)
    (hready : ∀ j, j < cs.length → Region.ready md ops (L j true) = [cs.getD j 0])
    (hreadyA : ∀ j, j < cs.length → Region.ready md ops (L j false) = [cs.getD j 0, al])
    (hreadyE : Region.ready md ops (L cs.length false) = [al])
    (step : ∀ j, j < cs.length → ∀ fl a w, Inv j fl a w → S w → wpOp P ops Q (cs.getD j 0) (fun a' w' => S w' ∧ Inv (j + 1) fl a' w') a w)
    (stepA : ∀ j, j ≤ cs.length → ∀ a w, Inv j false a w → S w → wpOp P ops Q al (fun a' w' => S w' ∧ Inv j true a' w') a w)
    (fin : ∀ a w, Inv cs.length true a w → S w → wpAnyH P md ops Q S f0 (L cs.length true) a w) :
    ∀ (m j : Nat), j + m = cs.length → ∀ (a : Act) (w : World), S w → (Inv j true a w → wpAnyH P md ops Q S (f0 + m) (L j true) a w) ∧ (Inv j false a w → wpAnyH P md ops Q S (f0 + m + 1) (L j false) a w)
  | 0, j, hj, a, w, hS => by
    obtain rfl : j = cs.length := by omega
    refine ⟨fun h => fin a w h hS, fun h => ?_⟩
    refine wpAnyH_all hreadyE (by simp) (fun i hi => ?_)
    obtain rfl : i = al := by simpa using hi
    refine wpOp_mono (fun a' w' h' => ⟨h'.1, ?_⟩) (stepA _ (Nat.le_refl _) a w h hS)
    rw [hsetA _ (Nat.le_refl _)]
    exact fin a' w' h'.2 h'.1
  | m + 1, j, hj, a, w, hS => by
    have hlt : j < cs.length := by omega
    have ih := wpAnyH_chain cs al f0 L Inv hset hsetA hready hreadyA hreadyE step stepA fin m (j + 1) (by omega)
    have h1 : ∀ a w, S w → Inv j true a w → wpAnyH P md ops Q S (f0 + (m + 1)) (L j true) a w := fun a w hS h => by
      refine wpAnyH_all (hready j hlt) (by simp) (fun i hi => ?_)
      obtain rfl : i = cs.getD j 0 := by simpa using hi
      refine wpOp_mono (fun a' w' h' => ⟨h'.1, ?_⟩) (step j hlt true a w h hS)
      rw [hset j hlt]
      exact (ih a' w' h'.1).1 h'.2
    refine ⟨h1 a w hS, fun h => ?_⟩
    refine wpAnyH_all (hreadyA j hlt) (by simp) (fun i hi => ?_)
    have hi' : i = cs.getD j 0 ∨ i = al := by simpa using hi
    rcases hi' with rfl | rfl
    · refine wpOp_mono (fun a' w' h' => ⟨h'.1, ?_⟩) (step j hlt false a w h hS)
      rw [hset j hlt]
      exact (ih a' w' h'.1).2 h'.2
    · refine wpOp_mono (fun a' w' h' => ⟨h'.1, ?_⟩) (stepA j (Nat.le_of_lt hlt) a w h hS)
      rw [hsetA j (Nat.le_of_lt hlt)]
      exact h1 a' w' h'.1 h'.2
theorem results_cell2 {P : Program} {fn : Func} {p u : Tmp} {ty : TypeId} (h : fn.results = #[.cell p ty, .tmp u]) (tmps : Array Value) (w : World) (g : Nat) (t : TypeId) (cs : Array Value) (fr : Nat × Nat) (d : TypeDesc)
    (hp : tmps.getD p undef = .pointer (some ⟨g, 0, none⟩)) (hg : w.heap[g]? = some (.cells cs t fr))
    (hu : P.underlying ty = some d) (hd : (match d with | .struct _ | .array _ _ => true | _ => false) = true) (hi : (P.info? ty).map (·.size) = some cs.size) :
    (results fn tmps).run P w = .ok (.tuple #[.agg cs, tmps.getD u undef]) w := by
  have hp' : tmps[p]?.getD undef = .pointer (some ⟨g, 0, none⟩) := by simpa using hp
  simp [results, h, hp', asAddr, run_loadVar_row w g t ty cs fr d hg hu hd hi]
end Go.Proofs.YthiijcappjaagaaGreatDoor
