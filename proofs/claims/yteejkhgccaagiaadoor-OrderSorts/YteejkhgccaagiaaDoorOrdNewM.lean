/- Package order's newLine: its memory. -/
import Derived.Test.YteejkhgccaagiaaDoorOrdLine
import Derived.Deep.RegionLaw
import Derived.Deep.DeepCutAuto
import Derived.Deep.AppendLies
namespace Go.Proofs.YteejkhgccaagiaaDoor
open Go.RowKit Go.Shelf Sx

theorem Tryd.infoints : (Tryd.prog.info? 29).map (fun i => (i.zero, i.size, i.bytes)) = some (some (.slice none 0 0), 1, 24) := by kernel_rfl
def nils (n : Nat) : Array Value := (List.replicate n (Value.slice none 0 0)).toArray
theorem make_intss (n : Nat) (h : n ≤ 65536) (w : World) : (Instr.makeSlice 25 (.int .i64 n) (.int .i64 n)).run Tryd.prog w = .ok (.slice (some ⟨w.heap.size, 0, none⟩) n n) (w.alloc (.cells (nils n) 29)) := by
  obtain ⟨i, hx, hz, hs, hb⟩ := info_parts Tryd.infoints
  have := run_make (P := Tryd.prog) w 25 29 i _ Tryd.underlying25 hx hz .i64 .i64 n n (by omega) (by omega) (by rw [hb]; omega) (by omega)
  rw [this, hs]
  have e : madeCells (Value.slice none 0 0).cells ((n : Int).toNat * 1) = nils n := by
    apply Array.toList_inj.1
    rw [Int.toNat_natCast, Nat.mul_one, show (Value.slice none 0 0).cells = #[.slice none 0 0] from rfl, toList_madeCells_one]
    simp [nils]
  rw [e]
  simp
/-- A line as it is laid first. -/
structure NL0 (w wx : World) (l bh wt n : Nat) : Prop where
  st : Blk wx l 107 #[.slice none 0 0, .slice (some ⟨bh, 0, none⟩) n n, .slice (some ⟨wt, 0, none⟩) n n]
  bhB : Blk wx bh 29 (nils n)
  wtB : Blk wx wt 3 (intsA (List.replicate n 0))
  ne : l ≠ bh ∧ l ≠ wt ∧ bh ≠ wt
  lo : w.heap.size ≤ l ∧ w.heap.size ≤ bh ∧ w.heap.size ≤ wt
  below : Below w.heap.size w wx
theorem Blk.new3' (w : World) (o o2 : Obj) (t : TypeId) (cs : Array Value) : Blk (((w.alloc o).alloc o2).alloc (.cells cs t)) (w.heap.size + 1 + 1) t cs := by
  have := Blk.new2 (w.alloc o) o2 t cs
  rwa [World.size_alloc] at this
theorem nl0_a (w : World) (n : Nat) : NL0 w (((w.drew.alloc (.cells (nils n) 29)).alloc (.cells (intsA (List.replicate n 0)) 3)).alloc (.cells #[.slice none 0 0, .slice (some ⟨w.heap.size, 0, none⟩) n n, .slice (some ⟨w.heap.size + 1, 0, none⟩) n n] 107)) (w.heap.size + 1 + 1) w.heap.size (w.heap.size + 1) n :=
  ⟨Blk.new3' w.drew _ _ _ _, ((Blk.new w.drew _ _).alloc _).alloc _, (Blk.new2 w.drew _ _ _).alloc _, by omega, by omega, (((Below.refl _ _).drew.alloc (Nat.le_refl _) _).alloc (by simp) _).alloc (by simp; omega) _⟩
theorem nl0_b (w : World) (n : Nat) : NL0 w (((w.drew.alloc (.cells (intsA (List.replicate n 0)) 3)).alloc (.cells (nils n) 29)).alloc (.cells #[.slice none 0 0, .slice (some ⟨w.heap.size + 1, 0, none⟩) n n, .slice (some ⟨w.heap.size, 0, none⟩) n n] 107)) (w.heap.size + 1 + 1) (w.heap.size + 1) w.heap.size n :=
  ⟨Blk.new3' w.drew _ _ _ _, (Blk.new2 w.drew _ _ _).alloc _, ((Blk.new w.drew _ _).alloc _).alloc _, by omega, by omega, (((Below.refl _ _).drew.alloc (Nat.le_refl _) _).alloc (by simp) _).alloc (by simp; omega) _⟩
def encN (l : List Nat) : List Value := l.map (fun x => Value.int .i64 ((x : Nat) : Int))
theorem encN_snoc (l : List Nat) (x : Nat) : encN (l ++ [x]) = encN l ++ [.int .i64 (x : Int)] := by simp [encN]
/-- Those behind each point, by pairs. -/
def bkOf (n : Nat) (ps : List (Nat × Nat)) : List (List Nat) := (List.range n).map (fun p => (ps.filter (fun x => x.1 == p)).map (·.2))
def wtOf (n : Nat) (ps : List (Nat × Nat)) : List Int := (List.range n).map (fun q => ((ps.filter (fun x => x.2 == q)).length : Int))
theorem bkOf_length (n : Nat) (ps : List (Nat × Nat)) : (bkOf n ps).length = n := by simp [bkOf]
theorem wtOf_length (n : Nat) (ps : List (Nat × Nat)) : (wtOf n ps).length = n := by simp [wtOf]
theorem bkOf_at {n : Nat} (ps : List (Nat × Nat)) {p : Nat} (h : p < n) : (bkOf n ps)[p]? = some ((ps.filter (fun x => x.1 == p)).map (·.2)) := by simp [bkOf, h]
theorem wtOf_at {n : Nat} (ps : List (Nat × Nat)) {p : Nat} (h : p < n) : (wtOf n ps)[p]? = some ((ps.filter (fun x => x.2 == p)).length : Int) := by simp [wtOf, h]
theorem bkOf_snoc {n : Nat} (ps : List (Nat × Nat)) {a b : Nat} (h : a < n) : bkOf n (ps ++ [(a, b)]) = (bkOf n ps).set a ((bkOf n ps).getD a [] ++ [b]) := by
  apply List.ext_getElem?
  intro p
  rw [List.getElem?_set, bkOf_length]
  by_cases hp : p < n
  · rw [bkOf_at _ hp, bkOf_at _ hp]
    by_cases e : a = p
    · subst e
      rw [if_pos rfl, if_pos h, show (bkOf n ps).getD a [] = (ps.filter (fun x => x.1 == a)).map (·.2) from by rw [List.getD_eq_getElem?_getD, bkOf_at _ h]; rfl]
      simp
    · rw [if_neg e]
      have : ¬ (a == p) = true := by simpa using e
      simp [List.filter_append, e]
  · rw [List.getElem?_eq_none (by rw [bkOf_length]; omega), if_neg (by omega), List.getElem?_eq_none (by rw [bkOf_length]; omega)]
theorem wtOf_snoc {n : Nat} (ps : List (Nat × Nat)) {a b : Nat} (h : b < n) : wtOf n (ps ++ [(a, b)]) = (wtOf n ps).set b ((wtOf n ps).getD b 0 + 1) := by
  apply List.ext_getElem?
  intro p
  rw [List.getElem?_set, wtOf_length]
  by_cases hp : p < n
  · rw [wtOf_at _ hp, wtOf_at _ hp]
    by_cases e : b = p
    · subst e
      rw [if_pos rfl, if_pos h, show (wtOf n ps).getD b 0 = ((ps.filter (fun x => x.2 == b)).length : Int) from by rw [List.getD_eq_getElem?_getD, wtOf_at _ h]; rfl]
      simp [List.filter_append]
    · rw [if_neg e]
      simp [List.filter_append, e]
  · rw [List.getElem?_eq_none (by rw [wtOf_length]; omega), if_neg (by omega), List.getElem?_eq_none (by rw [wtOf_length]; omega)]
theorem PrsR.keep2 {l wt N s : Nat} {a b : World} {ps : List (Nat × Nat)} (hp : PrsR a s ps) (h : Keep2 l wt N a b) (hs : s < N) (h1 : s ≠ l) (h2 : s ≠ wt) : PrsR b s ps := by
  refine ⟨Nat.lt_of_lt_of_le hp.lt h.size, fun i x hx => ?_, fun i x hx => ?_⟩
  · have := hp.fst i x hx
    unfold World.cell? at this ⊢
    rw [h.block s hs h1 h2]; exact this
  · have := hp.snd i x hx
    unfold World.cell? at this ⊢
    rw [h.block s hs h1 h2]; exact this
/-- A line while it is laid. -/
structure NLk (wr : World) (N1 l bh wt n : Nat) (vs : List Value) (rows : List (List Nat)) (wts : List Int) : Prop where
  st : Blk wr l 107 #[.slice none 0 0, .slice (some ⟨bh, 0, none⟩) n n, .slice (some ⟨wt, 0, none⟩) n n]
  bhB : Blk wr bh 29 vs.toArray
  wtB : Blk wr wt 3 (intsA wts)
  vlen : vs.length = n
  rlen : rows.length = n
  own : ∀ (p : Nat) (v : Value) (bl : List Nat), vs[p]? = some v → rows[p]? = some bl → wr.ownsRow N1 3 1 v bl.length (encN bl)
  sep : ∀ (p q : Nat) (v u : Value) (g : Nat), p ≠ q → vs[p]? = some v → vs[q]? = some u → v.ownBlock = some g → u.ownBlock ≠ some g
  low : l < N1 ∧ bh < N1 ∧ wt < N1
  ne : l ≠ bh ∧ l ≠ wt ∧ bh ≠ wt
  hN : N1 ≤ wr.heap.size
theorem owns_below' {w w' : World} {base : Nat} {e : TypeId} {size : Nat} {v : Value} {n : Nat} {xs : List Value} (h : w.ownsRow base e size v n xs) (hb : Below w.heap.size w w') : w'.ownsRow base e size v n xs := by
  refine ⟨h.1, ?_⟩
  rcases h.2 with h | ⟨g, cap, cur, h1, h2, h3, h4⟩
  · exact .inl h
  · exact .inr ⟨g, cap, cur, h1, h2, (hb.block g (Array.getElem?_eq_some_iff.1 h3).1).trans h3, h4⟩
theorem NLk.step {wr w' : World} {N1 l bh wt n : Nat} {vs : List Value} {rows : List (List Nat)} {wts : List Int} (h : NLk wr N1 l bh wt n vs rows wts) (hb : Below wr.heap.size wr w') : NLk w' N1 l bh wt n vs rows wts :=
  ⟨h.st.of_below hb, h.bhB.of_below hb, h.wtB.of_below hb, h.vlen, h.rlen, fun p v bl h1 h2 => owns_below' (h.own p v bl h1 h2) hb, h.sep, h.low, h.ne, Nat.le_trans h.hN hb.size⟩
theorem NLk.wset {wr : World} {N1 l bh wt n : Nat} {vs : List Value} {rows : List (List Nat)} {wts : List Int} (h : NLk wr N1 l bh wt n vs rows wts) (j : Nat) (x : Int) : NLk (wr.setCell ⟨wt, j, none⟩ (.int .i64 x)) N1 l bh wt n vs rows (wts.set j x) :=
  ⟨h.st.setOther (by simpa using h.ne.2.1) _, h.bhB.setOther (by simpa using h.ne.2.2) _, h.wtB.setI _ _, h.vlen, h.rlen, fun p v bl h1 h2 => owns_set (h.own p v bl h1 h2) (by simpa using h.low.2.2) _, h.sep, h.low, h.ne, by simpa [World.setCell] using h.hN⟩
theorem NLk.app {wr w' : World} {N1 l bh wt n a b : Nat} {vs : List Value} {rows : List (List Nat)} {wts : List Int} {v : Value} {bl : List Nat} {g cap : Nat} (h : NLk wr N1 l bh wt n vs rows wts) (hv : vs[a]? = some v) (hbl : rows[a]? = some bl)
    (hown : w'.ownsRow N1 3 1 (.slice (some ⟨g, 0, none⟩) (bl.length + 1) cap) (bl.length + 1) (encN bl ++ [.int .i64 (b : Int)])) (hg : wr.grownBy w' v.ownBlock) (hat : v.ownBlock = some g ∨ g = wr.heap.size) :
    NLk (w'.setCell ⟨bh, a, none⟩ (.slice (some ⟨g, 0, none⟩) (bl.length + 1) cap)) N1 l bh wt n (vs.set a (.slice (some ⟨g, 0, none⟩) (bl.length + 1) cap)) (rows.set a (bl ++ [b])) wts := by
  have hov := h.own a v bl hv hbl
  have hlow := h.low
  have ha : a < vs.length := (List.getElem?_eq_some_iff.1 hv).1
  have hb : ∀ k, k < N1 → w'.heap[k]? = wr.heap[k]? := fun k hk => hg.block k (by have := h.hN; omega) (owns_ne hov hk)
  refine ⟨?_, ?_, ?_, by simpa using h.vlen, by simpa using h.rlen, ?_, ?_, h.low, h.ne, ?_⟩
  · exact Blk.setOther (show Blk w' l _ _ from (hb l hlow.1).trans h.st) (by simpa using h.ne.1) _
  · have h1 : Blk w' bh 29 vs.toArray := (hb bh hlow.2.1).trans h.bhB
    have h2 := h1.set a (.slice (some ⟨g, 0, none⟩) (bl.length + 1) cap)
    simpa using h2
  · exact Blk.setOther (show Blk w' wt _ _ from (hb wt hlow.2.2).trans h.wtB) (by simpa using fun e => h.ne.2.2 e.symm) _
  · intro p u c hu hc
    rw [List.getElem?_set] at hu hc
    by_cases e : a = p
    · subst e
      rw [if_pos rfl, if_pos ha] at hu
      rw [if_pos rfl, if_pos (List.getElem?_eq_some_iff.1 hbl).1] at hc
      injection hu with hu
      injection hc with hc
      subst hu; subst hc
      rw [encN_snoc, List.length_append]
      exact owns_set hown (by simpa using hlow.2.1) _
    · rw [if_neg e] at hu hc
      have h1 := h.own p u c hu hc
      refine owns_set ?_ (by simpa using hlow.2.1) _
      refine ⟨h1.1, ?_⟩
      rcases h1.2 with h2 | ⟨g2, cap2, cur2, h3, h4, h5, h6⟩
      · exact .inl h2
      · refine .inr ⟨g2, cap2, cur2, h3, h4, (hg.block g2 (Array.getElem?_eq_some_iff.1 h5).1 (fun e2 => ?_)).trans h5, h6⟩
        exact h.sep a p v u g2 e hv hu e2.symm (by rw [h3]; rfl)
  · intro p q u x g2 hpq hu hx hu2
    rw [List.getElem?_set] at hu hx
    have hlt : ∀ (i : Nat) (y : Value) (k : Nat), vs[i]? = some y → y.ownBlock = some k → k < wr.heap.size := fun i y k hy hk => by
      have hi : i < vs.length := (List.getElem?_eq_some_iff.1 hy).1
      have h1 := h.own i y _ hy (List.getElem?_eq_getElem (by rw [h.rlen, ← h.vlen]; exact hi))
      rcases h1.2 with ⟨h2, _⟩ | ⟨g3, cap3, cur3, h3, h4, h5, h6⟩
      · rw [h2] at hk; cases hk
      · rw [h3] at hk; simp [Value.ownBlock] at hk; subst hk; exact (Array.getElem?_eq_some_iff.1 h5).1
    by_cases e : a = p
    · subst e
      rw [if_pos rfl, if_pos ha] at hu
      injection hu with hu
      subst hu
      simp [Value.ownBlock] at hu2
      subst hu2
      rw [if_neg hpq] at hx
      rcases hat with h1 | h1
      · exact h.sep a q v x g hpq hv hx h1
      · intro h2
        have := hlt q x g hx h2
        omega
    · rw [if_neg e] at hu
      by_cases e2 : a = q
      · subst e2
        rw [if_pos rfl, if_pos ha] at hx
        injection hx with hx
        subst hx
        simp [Value.ownBlock]
        intro h2
        subst h2
        rcases hat with h1 | h1
        · exact h.sep p a u v g hpq hu hv hu2 h1
        · have := hlt p u g hu hu2
          omega
      · rw [if_neg e2] at hx
        exact h.sep p q u x g2 hpq hu hx hu2
  · have := hg.size
    have := h.hN
    simp [World.setCell]
    omega
end Go.Proofs.YteejkhgccaagiaaDoor
