/- Package order's newLine: its memory. -/
import Derived.Test.YtmmgdeoballhpaaDoorJ10
import Derived.Deep.RegionLaw
import Derived.Deep.DeepCutAuto
import Derived.Deep.AppendLies
import Derived.Test.YtmmgdeoballhpaaDoorJ09
namespace Go.Proofs.YtmmgdeoballhpaaDoor
open Go.RowKit Go.Shelf Sx

theorem Tryd.infoints : (Tryd.prog.info? 29).map (fun i => (i.zero, i.size, i.bytes)) = some (some (.slice none 0 0), 1, 24) := by kernel_rfl
def nils (n : Nat) : Array Value := (List.replicate n (Value.slice none 0 0)).toArray
theorem make_intss (n : Nat) (h : n ≤ 65536) (w : World) : (Instr.makeSlice 25 (.int .i64 n) (.int .i64 n)).run Tryd.prog w = .ok (.slice (some ⟨w.heap.size, 0, none⟩) n n) (w.alloc (.cells (nils n) 29)) := by
  obtain ⟨i, hx, hz, hs, hb⟩ := info_parts Tryd.infoints
  have := run_make (P := Tryd.prog) w 25 29 i _ Tryd.underlying25 hx hz .i64 .i64 n n (by omega) (by omega) (by rw [hb]; omega) (by omega)
  rw [this, hs]
  have e : madeCells (Value.slice none 0 0).cells ((n : Int).toNat * 1) = nils n := by
    apply Array.toList_inj.1
    rw [Int.toNat_natCast, Nat.mul_one, show (Value.slice none 0 0).cells = #[.slice none 0 0] from rfl, toList_madeCells_one]
    simp [nils]
  rw [e]
  simp
/-- A line as it is laid first. -/
structure NL0 (w wx : World) (l bh wt n : Nat) : Prop where
  st : Blk wx l 107 #[.slice none 0 0, .slice (some ⟨bh, 0, none⟩) n n, .slice (some ⟨wt, 0, none⟩) n n]
  bhB : Blk wx bh 29 (nils n)
  wtB : Blk wx wt 3 (intsA (List.replicate n 0))
  ne : l ≠ bh ∧ l ≠ wt ∧ bh ≠ wt
  lo : w.heap.size ≤ l ∧ w.heap.size ≤ bh ∧ w.heap.size ≤ wt
  below : Below w.heap.size w wx
theorem Blk.new3' (w : World) (o o2 : Obj) (t : TypeId) (cs : Array Value) : Blk (((w.alloc o).alloc o2).alloc (.cells cs t)) (w.heap.size + 1 + 1) t cs := by
  have := Blk.new2 (w.alloc o) o2 t cs
  rwa [World.size_alloc] at this
theorem nl0_a (w : World) (n : Nat) : NL0 w (((w.drew.alloc (.cells (nils n) 29)).alloc (.cells (intsA (List.replicate n 0)) 3)).alloc (.cells #[.slice none 0 0, .slice (some ⟨w.heap.size, 0, none⟩) n n, .slice (some ⟨w.heap.size + 1, 0, none⟩) n n] 107)) (w.heap.size + 1 + 1) w.heap.size (w.heap.size + 1) n :=
  ⟨Blk.new3' w.drew _ _ _ _, ((Blk.new w.drew _ _).alloc _).alloc _, (Blk.new2 w.drew _ _ _).alloc _, by omega, by omega, (((Below.refl _ _).drew.alloc (Nat.le_refl _) _).alloc (by simp) _).alloc (by simp; omega) _⟩
theorem nl0_b (w : World) (n : Nat) : NL0 w (((w.drew.alloc (.cells (intsA (List.replicate n 0)) 3)).alloc (.cells (nils n) 29)).alloc (.cells #[.slice none 0 0, .slice (some ⟨w.heap.size + 1, 0, none⟩) n n, .slice (some ⟨w.heap.size, 0, none⟩) n n] 107)) (w.heap.size + 1 + 1) (w.heap.size + 1) w.heap.size n :=
  ⟨Blk.new3' w.drew _ _ _ _, (Blk.new2 w.drew _ _ _).alloc _, ((Blk.new w.drew _ _).alloc _).alloc _, by omega, by omega, (((Below.refl _ _).drew.alloc (Nat.le_refl _) _).alloc (by simp) _).alloc (by simp; omega) _⟩
def encN (l : List Nat) : List Value := l.map (fun x => Value.int .i64 ((x : Nat) : Int))
theorem encN_snoc (l : List Nat) (x : Nat) : encN (l ++ [x]) = encN l ++ [.int .i64 (x : Int)] := by simp [encN]
/-- Those behind each point, by pairs. -/
def bkOf (n : Nat) (ps : List (Nat × Nat)) : List (List Nat) := (List.range n).map (fun p => (ps.filter (fun x => x.1 == p)).map (·.2))
def wtOf (n : Nat) (ps : List (Nat × Nat)) : List Int := (List.range n).map (fun q => ((ps.filter (fun x => x.2 == q)).length : Int))
theorem bkOf_length (n : Nat) (ps : List (Nat × Nat)) : (bkOf n ps).length = n := by simp [bkOf]
theorem wtOf_length (n : Nat) (ps : List (Nat × Nat)) : (wtOf n ps).length = n := by simp [wtOf]
theorem bkOf_at {n : Nat} (ps : List (Nat × Nat)) {p : Nat} (h : p < n) : (bkOf n ps)[p]? = some ((ps.filter (fun x => x.1 == p)).map (·.2)) := by simp [bkOf, h]
theorem wtOf_at {n : Nat} (ps : List (Nat × Nat)) {p : Nat} (h : p < n) : (wtOf n ps)[p]? = some ((ps.filter (fun x => x.2 == p)).length : Int) := by simp [wtOf, h]
theorem bkOf_snoc {n : Nat} (ps : List (Nat × Nat)) {a b : Nat} (h : a < n) : bkOf n (ps ++ [(a, b)]) = (bkOf n ps).set a ((bkOf n ps).getD a [] ++ [b]) := by
  apply List.ext_getElem?
  intro p
  rw [List.getElem?_set, bkOf_length]
  by_cases hp : p < n
  · rw [bkOf_at _ hp, bkOf_at _ hp]
    by_cases e : a = p
    · subst e
      rw [if_pos rfl, if_pos h, show (bkOf n ps).getD a [] = (ps.filter (fun x => x.1 == a)).map (·.2) from by rw [List.getD_eq_getElem?_getD, bkOf_at _ h]; rfl]
      simp
    · rw [if_neg e]
      have : ¬ (a == p) = true := by simpa using e
      simp [List.filter_append, e]
  · rw [List.getElem?_eq_none (by rw [bkOf_length]; omega), if_neg (by omega), List.getElem?_eq_none (by rw [bkOf_length]; omega)]
theorem wtOf_snoc {n : Nat} (ps : List (Nat × Nat)) {a b : Nat} (h : b < n) : wtOf n (ps ++ [(a, b)]) = (wtOf n ps).set b ((wtOf n ps).getD b 0 + 1) := by
  apply List.ext_getElem?
  intro p
  rw [List.getElem?_set, wtOf_length]
  by_cases hp : p < n
  · rw [wtOf_at _ hp, wtOf_at _ hp]
    by_cases e : b = p
    · subst e
      rw [if_pos rfl, if_pos h, show (wtOf n ps).getD b 0 = ((ps.filter (fun x => x.2 == b)).length : Int) from by rw [List.getD_eq_getElem?_getD, wtOf_at _ h]; rfl]
      simp [List.filter_append]
    · rw [if_neg e]
      simp [List.filter_append, e]
  · rw [List.getElem?_eq_none (by rw [wtOf_length]; omega), if_neg (by omega), List.getElem?_eq_none (by rw [wtOf_length]; omega)]
theorem PrsR.keep2 {l wt N s : Nat} {a b : World} {ps : List (Nat × Nat)} (hp : PrsR a s ps) (h : Keep2 l wt N a b) (hs : s < N) (h1 : s ≠ l) (h2 : s ≠ wt) : PrsR b s ps := by
  refine ⟨Nat.lt_of_lt_of_le hp.lt h.size, fun i x hx => ?_, fun i x hx => ?_⟩
  · have := hp.fst i x hx
    unfold World.cell? at this ⊢
    rw [h.block s hs h1 h2]; exact this
  · have := hp.snd i x hx
    unfold World.cell? at this ⊢
    rw [h.block s hs h1 h2]; exact this
/-- A line while it is laid. -/
structure NLk (wr : World) (N1 l bh wt n : Nat) (vs : List Value) (rows : List (List Nat)) (wts : List Int) : Prop where
  st : Blk wr l 107 #[.slice none 0 0, .slice (some ⟨bh, 0, none⟩) n n, .slice (some ⟨wt, 0, none⟩) n n]
  bhB : Blk wr bh 29 vs.toArray
  wtB : Blk wr wt 3 (intsA wts)
  vlen : vs.length = n
  rlen : rows.length = n
  own : ∀ (p : Nat) (v : Value) (bl : List Nat), vs[p]? = some v → rows[p]? = some bl → wr.ownsRow N1 3 1 v bl.length (encN bl)
  sep : ∀ (p q : Nat) (v u : Value) (g : Nat), p ≠ q → vs[p]? = some v → vs[q]? = some u → v.ownBlock = some g → u.ownBlock ≠ some g
  low : l < N1 ∧ bh < N1 ∧ wt < N1
  ne : l ≠ bh ∧ l ≠ wt ∧ bh ≠ wt
  hN : N1 ≤ wr.heap.size
theorem owns_below' {w w' : World} {base : Nat} {e : TypeId} {size : Nat} {v : Value} {n : Nat} {xs : List Value} (h : w.ownsRow base e size v n xs) (hb : Below w.heap.size w w') : w'.ownsRow base e size v n xs := by
  refine ⟨h.1, ?_⟩
  rcases h.2 with h | ⟨g, cap, cur, h1, h2, h3, h4⟩
  · exact .inl h
  · exact .inr ⟨g, cap, cur, h1, h2, (hb.block g (Array.getElem?_eq_some_iff.1 h3).1).trans h3, h4⟩
theorem NLk.step {wr w' : World} {N1 l bh wt n : Nat} {vs : List Value} {rows : List (List Nat)} {wts : List Int} (h : NLk wr N1 l bh wt n vs rows wts) (hb : Below wr.heap.size wr w') : NLk w' N1 l bh wt n vs rows wts :=
  ⟨h.st.of_below hb, h.bhB.of_below hb, h.wtB.of_below hb, h.vlen, h.rlen, fun p v bl h1 h2 => owns_below' (h.own p v bl h1 h2) hb, h.sep, h.low, h.ne, Nat.le_trans h.hN hb.size⟩
theorem NLk.wset {wr : World} {N1 l bh wt n : Nat} {vs : List Value} {rows : List (List Nat)} {wts : List Int} (h : NLk wr N1 l bh wt n vs rows wts) (j : Nat) (x : Int) : NLk (wr.setCell ⟨wt, j, none⟩ (.int .i64 x)) N1 l bh wt n vs rows (wts.set j x) :=
  ⟨h.st.setOther (by simpa using h.ne.2.1) _, h.bhB.setOther (by simpa using h.ne.2.2) _, h.wtB.setI _ _, h.vlen, h.rlen, fun p v bl h1 h2 => owns_set (h.own p v bl h1 h2) (by simpa using h.low.2.2) _, h.sep, h.low, h.ne, by simpa [World.setCell] using h.hN⟩
theorem NLk.app {wr w' : World} {N1 l bh wt n a b : Nat} {vs : List Value} {rows : List (List Nat)} {wts : List Int} {v : Value} {bl : List Nat} {g cap : Nat} (h : NLk wr N1 l bh wt n vs rows wts) (hv : vs[a]? = some v) (hbl : rows[a]? = some bl)
    (hown : w'.ownsRow N1 3 1 (.slice (some ⟨g, 0, none⟩) (bl.length + 1) cap) (bl.length + 1) (encN bl ++ [.int .i64 (b : Int)])) (hg : wr.grownBy w' v.ownBlock) (hat : v.ownBlock = some g ∨ g = wr.heap.size) :
    NLk (w'.setCell ⟨bh, a, none⟩ (.slice (some ⟨g, 0, none⟩) (bl.length + 1) cap)) N1 l bh wt n (vs.set a (.slice (some ⟨g, 0, none⟩) (bl.length + 1) cap)) (rows.set a (bl ++ [b])) wts := by
  have hov := h.own a v bl hv hbl
  have hlow := h.low
  have ha : a < vs.length := (List.getElem?_eq_some_iff.1 hv).1
  have hb : ∀ k, k < N1 → w'.heap[k]? = wr.heap[k]? := fun k hk => hg.block k (by have := h.hN; omega) (owns_ne hov hk)
  refine ⟨?_, ?_, ?_, by simpa using h.vlen, by simpa using h.rlen, ?_, ?_, h.low, h.ne, ?_⟩
  · exact Blk.setOther (show Blk w' l _ _ from (hb l hlow.1).trans h.st) (by simpa using h.ne.1) _
  · have h1 : Blk w' bh 29 vs.toArray := (hb bh hlow.2.1).trans h.bhB
    have h2 := h1.set a (.slice (some ⟨g, 0, none⟩) (bl.length + 1) cap)
    simpa using h2
  · exact Blk.setOther (show Blk w' wt _ _ from (hb wt hlow.2.2).trans h.wtB) (by simpa using fun e => h.ne.2.2 e.symm) _
  · intro p u c hu hc
    rw [List.getElem?_set] at hu hc
    by_cases e : a = p
    · subst e
      rw [if_pos rfl, if_pos ha] at hu
      rw [if_pos rfl, if_pos (List.getElem?_eq_some_iff.1 hbl).1] at hc
      injection hu with hu
      injection hc with hc
      subst hu; subst hc
      rw [encN_snoc, List.length_append]
      exact owns_set hown (by simpa using hlow.2.1) _
    · rw [if_neg e] at hu hc
      have h1 := h.own p u c hu hc
      refine owns_set ?_ (by simpa using hlow.2.1) _
      refine ⟨h1.1, ?_⟩
      rcases h1.2 with h2 | ⟨g2, cap2, cur2, h3, h4, h5, h6⟩
      · exact .inl h2
      · refine .inr ⟨g2, cap2, cur2, h3, h4, (hg.block g2 (Array.getElem?_eq_some_iff.1 h5).1 (fun e2 => ?_)).trans h5, h6⟩
        exact h.sep a p v u g2 e hv hu e2.symm (by rw [h3]; rfl)
  · intro p q u x g2 hpq hu hx hu2
    rw [List.getElem?_set] at hu hx
    have hlt : ∀ (i : Nat) (y : Value) (k : Nat), vs[i]? = some y → y.ownBlock = some k → k < wr.heap.size := fun i y k hy hk => by
      have hi : i < vs.length := (List.getElem?_eq_some_iff.1 hy).1
      have h1 := h.own i y _ hy (List.getElem?_eq_getElem (by rw [h.rlen, ← h.vlen]; exact hi))
      rcases h1.2 with ⟨h2, _⟩ | ⟨g3, cap3, cur3, h3, h4, h5, h6⟩
      · rw [h2] at hk; cases hk
      · rw [h3] at hk; simp [Value.ownBlock] at hk; subst hk; exact (Array.getElem?_eq_some_iff.1 h5).1
    by_cases e : a = p
    · subst e
      rw [if_pos rfl, if_pos ha] at hu
      injection hu with hu
      subst hu
      simp [Value.ownBlock] at hu2
      subst hu2
      rw [if_neg hpq] at hx
      rcases hat with h1 | h1
      · exact h.sep a q v x g hpq hv hx h1
      · intro h2
        have := hlt q x g hx h2
        omega
    · rw [if_neg e] at hu
      by_cases e2 : a = q
      · subst e2
        rw [if_pos rfl, if_pos ha] at hx
        injection hx with hx
        subst hx
        simp [Value.ownBlock]
        intro h2
        subst h2
        rcases hat with h1 | h1
        · exact h.sep p a u v g hpq hu hv hu2 h1
        · have := hlt p u g hu hu2
          omega
      · rw [if_neg e2] at hx
        exact h.sep p q u x g2 hpq hu hx hu2
  · have := hg.size
    have := h.hN
    simp [World.setCell]
    omega
end Go.Proofs.YtmmgdeoballhpaaDoor
/- Package order's newLine. -/
namespace Go.Proofs.YtmmgdeoballhpaaDoor
open Go.RowKit Go.Shelf Sx

theorem nlk_0 {w wx w' : World} {l bh wt n : Nat} (h : NL0 w wx l bh wt n) (hb : Below wx.heap.size wx w') : NLk w' w'.heap.size l bh wt n (List.replicate n (.slice none 0 0)) (bkOf n []) (wtOf n []) := by
  have e1 : wtOf n [] = List.replicate n 0 := by
    apply List.ext_getElem?
    intro p
    by_cases hp : p < n
    · rw [wtOf_at _ hp, List.getElem?_replicate, if_pos hp]; rfl
    · rw [List.getElem?_eq_none (by rw [wtOf_length]; omega), List.getElem?_eq_none (by simp; omega)]
  have z := hb.size
  refine ⟨h.st.of_below hb, h.bhB.of_below hb, by rw [e1]; exact h.wtB.of_below hb, by simp, by rw [bkOf_length], ?_, ?_, ?_, h.ne, Nat.le_refl _⟩
  · intro p v bl hv hbl
    rw [List.getElem?_replicate] at hv
    split at hv
    · rename_i hp
      rw [bkOf_at _ hp] at hbl
      injection hv with hv
      injection hbl with hbl
      subst hv; subst hbl
      exact World.ownsRow_nil _ _ _ _
    · cases hv
  · intro p q v u g _ hv _ hg
    rw [List.getElem?_replicate] at hv
    split at hv
    · injection hv with hv
      subst hv
      cases hg
    · cases hv
  · have := h.st.lt; have := h.bhB.lt; have := h.wtB.lt; omega
theorem cellA' {w : World} {a : Addr} {v : Value} (h : w.cell? a = some v) (o : Obj) : (w.alloc o).cell? a = some v := by
  have hb := World.block_lt_of_cell? w _ h
  exact (((Below.refl _ w).alloc (Nat.le_refl _) o).cell (p := a) hb).trans h
theorem cell_setOther {w : World} {a c : Addr} (h : c.block ≠ a.block) (v : Value) : (w.setCell a v).cell? c = w.cell? c := by
  unfold World.cell?
  rw [Below.heap_setCell w a v c.block h]
theorem ne_pairB {w : World} {base : Nat} {v : Value} {n : Nat} {xs : List Value} {B : Nat} {cs : Array Value} (h : w.ownsRow base 3 1 v n xs) (hB : Blk w B 37 cs) : some B ≠ v.ownBlock := by
  rcases h.2 with ⟨rfl, _⟩ | ⟨g, cap, cur, rfl, hg, hb, _⟩
  · simp [Value.ownBlock]
  · intro e'
    simp [Value.ownBlock] at e'
    subst e'
    have h4 : w.heap[B]? = some (.cells cs 37 (0, 0)) := hB
    rw [hb] at h4
    simp at h4
theorem nl_end {W w2 w5 : World} {l bh wt n a b2 B5 : Nat} {vs : List Value} {rows : List (List Nat)} {wts : List Int} {v : Value} {bl : List Nat} {g cp : Nat} {o : Obj} (h : NLk W w2.heap.size l bh wt n vs rows wts) (hv : vs[a]? = some v) (hbl : rows[a]? = some bl)
    (ho : W.ownsRow w2.heap.size 3 1 v bl.length (encN bl))
    (hown2 : w5.ownsRow w2.heap.size 3 1 (.slice (some ⟨g, 0, none⟩) (bl.length + 1) cp) (bl.length + 1) (encN bl ++ [.int .i64 (b2 : Int)])) (hgrow : (W.drew.alloc o).grownBy w5 v.ownBlock) (hat : v.ownBlock = some g ∨ g = (W.drew.alloc o).heap.size)
    (hp5 : Blk w5 B5 37 #[.int .i64 (a : Int), .int .i64 (b2 : Int)]) (hB5 : w2.heap.size ≤ B5) (hKW : Keep2 bh wt w2.heap.size w2 W) :
    ∃ vs', NLk (w5.setCell ⟨bh, a, none⟩ (.slice (some ⟨g, 0, none⟩) (bl.length + 1) cp)) w2.heap.size l bh wt n vs' (rows.set a (bl ++ [b2])) wts ∧ Blk (w5.setCell ⟨bh, a, none⟩ (.slice (some ⟨g, 0, none⟩) (bl.length + 1) cp)) B5 37 #[.int .i64 (a : Int), .int .i64 (b2 : Int)] ∧ Keep2 bh wt w2.heap.size w2 (w5.setCell ⟨bh, a, none⟩ (.slice (some ⟨g, 0, none⟩) (bl.length + 1) cp)) := by
  have hbW : Below W.heap.size W (W.drew.alloc o) := (Below.refl _ _).drew.alloc (Nat.le_refl _) _
  have hA := h.step hbW
  have hlo := h.low
  refine ⟨_, hA.app hv hbl hown2 hgrow hat, hp5.setOther (by simp; omega) _, ?_⟩
  have hk1 : Keep2 bh wt w2.heap.size W w5 := ⟨hgrow.os.trans hbW.os, hgrow.tape.trans hbW.tape, hgrow.output.trans hbW.output, Nat.le_trans hbW.size hgrow.size, fun k hk _ _ => (hgrow.block k (by have := h.hN; have := hbW.size; omega) (owns_ne ho hk)).trans (hbW.block k (by have := h.hN; omega))⟩
  exact (hKW.trans hk1).setL _
theorem NLk.drew {wr : World} {N1 l bh wt n : Nat} {vs : List Value} {rows : List (List Nat)} {wts : List Int} (h : NLk wr N1 l bh wt n vs rows wts) : NLk wr.drew N1 l bh wt n vs rows wts := h.step ((Below.refl _ _).drew)
theorem Keep2.drew {l wt N : Nat} {a b : World} (h : Keep2 l wt N a b) : Keep2 l wt N a b.drew := ⟨h.os, h.tape, h.output, h.size, h.block⟩
set_option linter.unusedSimpArgs false in
set_option maxRecDepth 100000 in
set_option maxHeartbeats 8000000 in
theorem oNewLine_calls (b c : Nat) (L : List Nat) (w : World) (h : IsRel w b c L) (hT : Tab w) :
    Calls Tryd.prog 64 #[pv b] w fun e w' => ∃ N1 l bh wt vs, e = .returned (pv l) ∧ w.heap.size ≤ l ∧ w.heap.size ≤ bh ∧ w.heap.size ≤ wt ∧ NLk w' N1 l bh wt L.length vs (bkOf L.length (pairsL L)) (wtOf L.length (pairsL L)) ∧ Below w.heap.size w w' := by
  have hl := h.len
  have hm1 := make_ints L.length (by omega)
  have hm2 := make_intss L.length (by omega)
  obtain ⟨i0, hi, hz0, hz1, hz2⟩ := info_parts Tryd.infoint
  go_enter Tryd.func64, Tryd.ntmps64
  go_wp2_with fail
  go_cut [3] (fun v3 wx => ∃ l bh wt, v3 = pv l ∧ NL0 w wx l bh wt L.length)
  case first =>
    go_region_with (go_at_call 30; refine (Len_calls b c L _ (by first | exact h.drew | exact h.drew.alloc _ | exact (h.drew.alloc _).alloc _)).mono ?_; rintro e w' ⟨rfl, hw'⟩; cases hw')
    all_goals
      go_wp2_with fail
      go_meet
      first
      | exact ⟨_, _, _, rfl, nl0_a w L.length⟩
      | exact ⟨_, _, _, rfl, nl0_b w L.length⟩
  case rest =>
    obtain ⟨l, bh, wt, rfl, hN⟩ := hcut
    clear hm1 hm2
    go_wp2_with fail
    refine (Pairs_calls b c L _ (h.below hN.below) (hT.step hN.below)).mono ?_
    rintro e w2 ⟨v1, rfl, ho, hB1⟩
    have hk0 := nlk_0 hN hB1
    have hB2 : Below w.heap.size w w2 := below_step hN.below hN.below.size hB1
    have hlo := hN.lo
    have hpv := owns_pv ho
    have hlen : (pairsL L).length ≤ 65536 := by have := pairsK_length L L.length; simp only [pairsL]; omega
    have hlow : ∀ x ∈ pairsL L, x.1 < L.length ∧ x.2 < L.length := pairsL_lt h.low
    have hsN : ∀ s cap, v1 = .slice (some ⟨s, 0, none⟩) (pairsL L).length cap → 0 < (pairsL L).length → s < w2.heap.size ∧ s ≠ bh ∧ s ≠ wt := by
      intro s cap e h0
      rcases owns_prs ho with ⟨e2, e3⟩ | ⟨s2, cap2, e2, hs, hp⟩
      · rw [e3] at h0; exact absurd h0 (by simp)
      · rw [e2] at e
        injection e with e _ _
        injection e with e
        injection e with e _ _
        subst e
        have := hp.lt; have := hN.bhB.lt; have := hN.wtB.lt
        omega
    clear hN ho hB1
    obtain ⟨p1, cap1, rfl, hpv⟩ := hpv
    have HPV := hid_of hpv
    have HSN := hid_of hsN
    have HLW := hid_of hlow
    have HK0 := hid_of hk0
    clear hpv hsN hlow hk0
    generalize hps : pairsL L = ps at *
    go_wp2_with fail
    go_loopw [17] (fun i wr => ∃ (k : Nat) (vs : List Value), k ≤ ps.length ∧ i = .int .i64 k ∧ Hid (NLk wr w2.heap.size l bh wt L.length vs (bkOf L.length (ps.take k)) (wtOf L.length (ps.take k))) ∧ Keep2 bh wt w2.heap.size w2 wr) (fun i _ => ps.length - (intOf i).toNat)
    case atStart => exact ⟨0, _, by omega, rfl, HK0, Keep2.refl _ _ _ _⟩
    case round =>
      clear HK0
      obtain ⟨k, vs, hk, rfl, HK, hKeep⟩ := hrel
      by_cases hlt : k < ps.length
      · obtain ⟨s, rfl, hs⟩ := HPV.out (by omega)
        obtain ⟨hs1, hs2, hs3⟩ := HSN.out s cap1 rfl (by omega)
        obtain ⟨⟨a, b2⟩, hx⟩ : ∃ x, ps[k]? = some x := ⟨_, List.getElem?_eq_getElem hlt⟩
        obtain ⟨ha, hb⟩ := HLW.out _ (List.mem_of_getElem? hx)
        have hsr := hs.keep2 hKeep hs1 hs2 hs3
        have c0 := hsr.fst k _ hx
        have c1 := hsr.snd k _ hx
        have hnl := HK.out
        have s1 := hnl.st.cell (j := 1) rfl
        have s2 := hnl.st.cell (j := 2) rfl
        obtain ⟨v, hv⟩ : ∃ v, vs[a]? = some v := ⟨_, List.getElem?_eq_getElem (by rw [hnl.vlen]; exact ha)⟩
        have hbl := bkOf_at (n := L.length) (ps.take k) ha
        have hwb := wtOf_at (n := L.length) (ps.take k) hb
        have x0 : wr.cell? ⟨bh, a, none⟩ = some v := hnl.bhB.cell (by simpa using hv)
        have y0 := hnl.wtB.cellI hwb
        have a0 : (0 : Int) ≤ (a : Int) := by omega
        have a1 : (a : Int) < (L.length : Int) := by omega
        have b0 : (0 : Int) ≤ (b2 : Int) := by omega
        have b1 : (b2 : Int) < (L.length : Int) := by omega
        have lr := Nat.le_refl wr.heap.size
        have nr := hnl.hN
        have n1 := hnl.st.lt
        have n2 := hnl.bhB.lt
        have n3 := hnl.wtB.lt
        go_wp2_with fail
        have hbW := (Below.refl wr.heap.size wr).alloc (Nat.le_refl _) (.cells #[.int .i64 a, .int .i64 b2] 37)
        have hnW := hnl.step hbW
        have hpW := Blk.new wr 37 #[.int .i64 (a : Int), .int .i64 (b2 : Int)]
        have hKW : Keep2 bh wt w2.heap.size w2 (wr.alloc (.cells #[.int .i64 a, .int .i64 b2] 37)) := hKeep.trans (Keep2.of_below (hbW.mono nr))
        have hB5 : w2.heap.size ≤ wr.heap.size := nr
        clear c0 c1 s1 s2 x0 y0 hnl hsr hs HK hKeep hbW lr n1 n2 n3
        generalize wr.alloc (.cells #[.int .i64 a, .int .i64 b2] 37) = W at *
        generalize wr.heap.size = B5 at *
        have hBl : Hid ((bkOf L.length (ps.take k))[a]? = some (((ps.take k).filter (fun x => x.1 == a)).map (·.2))) := hbl
        have hbll : (((ps.take k).filter (fun x => x.1 == a)).map (·.2)).length ≤ 65536 := by
          rw [List.length_map]
          have h1 := List.length_filter_le (fun x : Nat × Nat => x.1 == a) (ps.take k)
          have h2 : (ps.take k).length ≤ ps.length := by rw [List.length_take]; omega
          omega
        clear hbl
        have HRE : Hid (bkOf L.length (ps.take (k + 1)) = (bkOf L.length (ps.take k)).set a ((((ps.take k).filter (fun x => x.1 == a)).map (·.2)) ++ [b2])) := by
          show _ = _
          rw [List.take_add_one, hx]
          refine (bkOf_snoc _ ha).trans ?_
          rw [List.getD_eq_getElem?_getD, hBl.out]; rfl
        have HWE : Hid (wtOf L.length (ps.take (k + 1)) = (wtOf L.length (ps.take k)).set b2 ((((ps.take k).filter (fun x => x.2 == b2)).length : Int) + 1)) := by
          show _ = _
          rw [List.take_add_one, hx]
          refine (wtOf_snoc _ hb).trans ?_
          rw [List.getD_eq_getElem?_getD, hwb]; rfl
        have hwl : (((ps.take k).filter (fun x => x.2 == b2)).length) ≤ 65536 := by
          have h1 := List.length_filter_le (fun x : Nat × Nat => x.2 == b2) (ps.take k)
          have h2 : (ps.take k).length ≤ ps.length := by rw [List.length_take]; omega
          omega
        have HWB := hid_of hwb
        clear hwb hx
        generalize ((ps.take k).filter (fun x => x.1 == a)).map (·.2) = bl at *
        generalize ((ps.take k).filter (fun x => x.2 == b2)).length = wn at *
        generalize bkOf L.length (ps.take k) = rows at *
        generalize wtOf L.length (ps.take k) = wts at *
        go_cut [] (fun wx => ∃ vs', NLk wx w2.heap.size l bh wt L.length vs' (rows.set a (bl ++ [b2])) wts ∧ Blk wx B5 37 #[.int .i64 (a : Int), .int .i64 (b2 : Int)] ∧ Keep2 bh wt w2.heap.size w2 wx)
        case first =>
          clear HRE HWE HWB HPV HSN HLW
          have hown := hnW.own a v bl hv hBl
          have hlo1 := hnW.low
          have hne1 := hnW.ne
          have hNW := hnW.hN
          have SW : W.drew.cell? ⟨l, 1, none⟩ = some (.slice (some ⟨bh, 0, none⟩) L.length L.length) ∧ W.drew.cell? ⟨B5, 0, none⟩ = some (.int .i64 a) ∧ W.drew.cell? ⟨B5, 1, none⟩ = some (.int .i64 b2) := ⟨hnW.st.cell (j := 1) rfl, hpW.cell (j := 0) rfl, hpW.cell (j := 1) rfl⟩
          have SA : (W.drew.alloc (.cells #[.int .i64 b2] 3)).cell? ⟨l, 1, none⟩ = some (.slice (some ⟨bh, 0, none⟩) L.length L.length) ∧ (W.drew.alloc (.cells #[.int .i64 b2] 3)).cell? ⟨B5, 0, none⟩ = some (.int .i64 a) ∧ (W.drew.alloc (.cells #[.int .i64 b2] 3)).cell? ⟨B5, 1, none⟩ = some (.int .i64 b2) := ⟨cellA' SW.1 _, cellA' SW.2.1 _, cellA' SW.2.2 _⟩
          have x0 : W.drew.cell? ⟨bh, a, none⟩ = some v := hnW.bhB.cell (by simpa using hv)
          have x2 : W.cell? ⟨bh, a, none⟩ = some v := x0
          have nb : bh ≠ W.heap.size := by have := hnW.bhB.lt; omega
          have nb2 : W.heap.size ≠ bh := fun e => nb e.symm
          have nb3 : bh < W.heap.size := hnW.bhB.lt
          have HN := hid_of hnW
          have HP := hid_of hpW
          have HO := hid_of hown
          have HV := hid_of hv
          clear hnW hpW hown hv
          refine wp_region_held_drew (S := (fun w' => w'.cell? ⟨l, 1, none⟩ = some (.slice (some ⟨bh, 0, none⟩) L.length L.length) ∧ w'.cell? ⟨B5, 0, none⟩ = some (.int .i64 a) ∧ w'.cell? ⟨B5, 1, none⟩ = some (.int .i64 b2))) (by kernel_rfl) SW (fun hHeld => ?_)
          refine wpAnyH_take (i := 0) (v := ?_) rfl (by kernel_rfl) (by kernel_rfl) (by kernel_rfl) (fun _ _ _ h => h) (Or.inl ⟨by rfl, ?_⟩) (by assumption) ?_
          rotate_left
          · (intro w hSw; (try dsimp only at hSw); go_simp) <;> with_reducible rfl
          simp only [Act.put, List.getElem_toArray, List.getElem_cons_zero, List.getElem_cons_succ, List.setIfInBounds_toArray, List.set_cons_zero, List.set_cons_succ]
          refine wpAnyH_take (i := 1) (v := ?_) rfl (by kernel_rfl) (by kernel_rfl) (by kernel_rfl) (fun _ _ _ h => h) (Or.inl ⟨by rfl, ?_⟩) (by assumption) ?_
          rotate_left
          · (intro w hSw; (try dsimp only at hSw); go_simp) <;> with_reducible rfl
          simp only [Act.put, List.getElem_toArray, List.getElem_cons_zero, List.getElem_cons_succ, List.setIfInBounds_toArray, List.set_cons_zero, List.set_cons_succ]
          refine wpAnyH_take (i := 2) (v := ?_) rfl (by kernel_rfl) (by kernel_rfl) (by kernel_rfl) (fun _ _ _ h => h) (Or.inl ⟨by rfl, ?_⟩) (by assumption) ?_
          rotate_left
          · (intro w hSw; (try dsimp only at hSw); go_simp) <;> with_reducible rfl
          simp only [Act.put, List.getElem_toArray, List.getElem_cons_zero, List.getElem_cons_succ, List.setIfInBounds_toArray, List.set_cons_zero, List.set_cons_succ]
          refine wpAnyH_take (i := 3) (v := ?_) rfl (by kernel_rfl) (by kernel_rfl) (by kernel_rfl) (fun _ _ _ h => h) (Or.inl ⟨by rfl, ?_⟩) (by assumption) ?_
          rotate_left
          · (intro w hSw; (try dsimp only at hSw); go_simp) <;> with_reducible rfl
          simp only [Act.put, List.getElem_toArray, List.getElem_cons_zero, List.getElem_cons_succ, List.setIfInBounds_toArray, List.set_cons_zero, List.set_cons_succ]
          refine wpAnyH_take (i := 4) (v := ?_) rfl (by kernel_rfl) (by kernel_rfl) (by kernel_rfl) (fun _ _ _ h => h) (Or.inl ⟨by rfl, ?_⟩) (by assumption) ?_
          rotate_left
          · (intro w hSw; (try dsimp only at hSw); go_simp) <;> with_reducible rfl
          simp only [Act.put, List.getElem_toArray, List.getElem_cons_zero, List.getElem_cons_succ, List.setIfInBounds_toArray, List.set_cons_zero, List.set_cons_succ]
          refine wpAnyH_take (i := 5) (v := ?_) rfl (by kernel_rfl) (by kernel_rfl) (by kernel_rfl) (fun _ _ _ h => h) (Or.inl ⟨by rfl, ?_⟩) (by assumption) ?_
          rotate_left
          · (intro w hSw; (try dsimp only at hSw); go_simp) <;> with_reducible rfl
          simp only [Act.put, List.getElem_toArray, List.getElem_cons_zero, List.getElem_cons_succ, List.setIfInBounds_toArray, List.set_cons_zero, List.set_cons_succ]
          refine wpAnyH_take (i := 6) (v := ?_) rfl (by kernel_rfl) (by kernel_rfl) (by kernel_rfl) (fun _ _ _ h => h) (Or.inl ⟨by rfl, ?_⟩) (by assumption) ?_
          rotate_left
          · (intro w hSw; (try dsimp only at hSw); go_simp) <;> with_reducible rfl
          simp only [Act.put, List.getElem_toArray, List.getElem_cons_zero, List.getElem_cons_succ, List.setIfInBounds_toArray, List.set_cons_zero, List.set_cons_succ]
          refine wpAnyH_take (i := 7) (v := ?_) rfl (by kernel_rfl) (by kernel_rfl) (by kernel_rfl) (fun _ _ _ h => h) (Or.inl ⟨by rfl, ?_⟩) (by assumption) ?_
          rotate_left
          · (intro w hSw; (try dsimp only at hSw); go_simp) <;> with_reducible rfl
          simp only [Act.put, List.getElem_toArray, List.getElem_cons_zero, List.getElem_cons_succ, List.setIfInBounds_toArray, List.set_cons_zero, List.set_cons_succ]
          refine wpAnyH_take (i := 8) (v := ?_) rfl (by kernel_rfl) (by kernel_rfl) (by kernel_rfl) (fun _ _ _ h => h) (Or.inl ⟨by rfl, ?_⟩) (by assumption) ?_
          rotate_left
          · (intro w hSw; (try dsimp only at hSw); go_simp) <;> with_reducible rfl
          simp only [Act.put, List.getElem_toArray, List.getElem_cons_zero, List.getElem_cons_succ, List.setIfInBounds_toArray, List.set_cons_zero, List.set_cons_succ]
          refine wpAnyH_take (i := 9) (v := ?_) rfl (by kernel_rfl) (by kernel_rfl) (by kernel_rfl) (fun _ _ _ h => h) (Or.inl ⟨by rfl, ?_⟩) (by assumption) ?_
          rotate_left
          · (intro w hSw; (try dsimp only at hSw); go_simp) <;> with_reducible rfl
          simp only [Act.put, List.getElem_toArray, List.getElem_cons_zero, List.getElem_cons_succ, List.setIfInBounds_toArray, List.set_cons_zero, List.set_cons_succ]
          refine wpAnyH_take (i := 10) (v := ?_) rfl (by kernel_rfl) (by kernel_rfl) (by kernel_rfl) (fun _ _ _ h => h) (Or.inl ⟨by rfl, ?_⟩) (by assumption) ?_
          rotate_left
          · (intro w hSw; (try dsimp only at hSw); go_simp) <;> with_reducible rfl
          simp only [Act.put, List.getElem_toArray, List.getElem_cons_zero, List.getElem_cons_succ, List.setIfInBounds_toArray, List.set_cons_zero, List.set_cons_succ]
          refine wpAnyH_take (i := 11) (v := ?_) rfl (by kernel_rfl) (by kernel_rfl) (by kernel_rfl) (fun _ _ _ h => h) (Or.inl ⟨by rfl, ?_⟩) (by assumption) ?_
          rotate_left
          · (intro w hSw; (try dsimp only at hSw); go_simp) <;> with_reducible rfl
          simp only [Act.put, List.getElem_toArray, List.getElem_cons_zero, List.getElem_cons_succ, List.setIfInBounds_toArray, List.set_cons_zero, List.set_cons_succ]
          refine wpAnyH_take (i := 12) (v := ?_) rfl (by kernel_rfl) (by kernel_rfl) (by kernel_rfl) (fun _ _ _ h => h) (Or.inl ⟨by rfl, ?_⟩) (by assumption) ?_
          rotate_left
          · (intro w hSw; (try dsimp only at hSw); go_simp) <;> with_reducible rfl
          simp only [Act.put, List.getElem_toArray, List.getElem_cons_zero, List.getElem_cons_succ, List.setIfInBounds_toArray, List.set_cons_zero, List.set_cons_succ]
          refine wpAnyH_take (i := 14) (v := ?_) rfl (by kernel_rfl) (by kernel_rfl) (by kernel_rfl) (fun _ _ _ h => h) (Or.inl ⟨by rfl, ?_⟩) (by assumption) ?_
          rotate_left
          · (intro w hSw; (try dsimp only at hSw); go_simp) <;> with_reducible rfl
          simp only [Act.put, List.getElem_toArray, List.getElem_cons_zero, List.getElem_cons_succ, List.setIfInBounds_toArray, List.set_cons_zero, List.set_cons_succ]
          refine wpAnyH_take (i := 15) (v := ?_) rfl (by kernel_rfl) (by kernel_rfl) (by kernel_rfl) (fun _ _ _ h => h) (Or.inl ⟨by rfl, ?_⟩) (by assumption) ?_
          rotate_left
          · (intro w hSw; (try dsimp only at hSw); go_simp) <;> with_reducible rfl
          simp only [Act.put, List.getElem_toArray, List.getElem_cons_zero, List.getElem_cons_succ, List.setIfInBounds_toArray, List.set_cons_zero, List.set_cons_succ]
          refine wpAnyH_ready (rs := [13, 16]) (by kernel_rfl) (by simp) ?_
          refine AllReadyH.cons rfl (fun K hK => ?_) (AllReadyH.cons rfl (fun K hK => ?_) AllReadyH.nil)
          · simp only [List.getElem_toArray, List.getElem_cons_zero, List.getElem_cons_succ]
            go_simp
            refine hK.out _ _ SW (fun hHeld => ?_)
            clear hK K
            try simp only [Act.put, List.getElem_toArray, List.getElem_cons_zero, List.getElem_cons_succ, List.setIfInBounds_toArray, List.set_cons_zero, List.set_cons_succ]
            refine wpAnyH_ready (rs := [16]) (by kernel_rfl) (by simp) ?_
            refine AllReadyH.cons rfl (fun K hK => ?_) AllReadyH.nil
            simp only [List.getElem_toArray, List.getElem_cons_zero, List.getElem_cons_succ]
            go_simp
            refine hK.out _ _ SA (fun hHeld => ?_)
            clear hK K
            try simp only [Act.put, List.getElem_toArray, List.getElem_cons_zero, List.getElem_cons_succ, List.setIfInBounds_toArray, List.set_cons_zero, List.set_cons_succ]
            refine wpAnyH_ready (rs := [17]) (by kernel_rfl) (by simp) ?_
            refine AllReadyH.cons rfl (fun K hK => ?_) AllReadyH.nil
            refine step_append_lies _ rfl _ _ 29 rfl w2.heap.size 3 i0 (.int .i64 0) 1 8 Tryd.underlying29 hi hz0 hz1 hz2 rfl (by decide) v bl.length (encN bl) rfl (HO.out.alloc _) ⟨W.heap.size, 0, none⟩ 1 1 [.int .i64 b2] rfl rfl (by intro k u hk; match k, hk with | 0, hk => simp at hk; subst hk; exact (Blk.new W 3 #[.int .i64 (b2 : Int)]).cell (j := 0) rfl) (by simp [Value.oneCell']) (by omega) (by unfold maxLen; omega) (by omega) (by simp; omega) _ rfl ?_
            intro g cp w5 hown2 hgrow hat hlt5
            have hb5 : ∀ k, k < w2.heap.size → w5.heap[k]? = W.heap[k]? := fun k hk => (hgrow.block k (by simp; omega) (owns_ne HO.out hk)).trans (Below.heap_alloc W.drew _ k (by show k < W.heap.size; omega))
            have hp5 : Blk w5 B5 37 #[.int .i64 (a : Int), .int .i64 (b2 : Int)] := (hgrow.block B5 (by have := HP.out.lt; simp; omega) (ne_pairB HO.out HP.out)).trans (HP.out.alloc _)
            have S5 : w5.cell? ⟨l, 1, none⟩ = some (.slice (some ⟨bh, 0, none⟩) L.length L.length) ∧ w5.cell? ⟨B5, 0, none⟩ = some (.int .i64 a) ∧ w5.cell? ⟨B5, 1, none⟩ = some (.int .i64 b2) := ⟨Blk.cell (show Blk w5 l _ _ from (hb5 l hlo1.1).trans HN.out.st) (j := 1) rfl, hp5.cell (j := 0) rfl, hp5.cell (j := 1) rfl⟩
            refine hK.out _ _ S5 (fun hHeld => ?_)
            clear hK K
            try simp only [Act.put, List.getElem_toArray, List.getElem_cons_zero, List.getElem_cons_succ, List.setIfInBounds_toArray, List.set_cons_zero, List.set_cons_succ]
            refine wpAnyH_take (i := 18) (v := ?_) rfl (by kernel_rfl) (by kernel_rfl) (by kernel_rfl) (fun _ _ _ h => h) (Or.inl ⟨by rfl, ?_⟩) (by assumption) ?_
            rotate_left
            · (intro w hSw; (try dsimp only at hSw); go_simp) <;> with_reducible rfl
            simp only [Act.put, List.getElem_toArray, List.getElem_cons_zero, List.getElem_cons_succ, List.setIfInBounds_toArray, List.set_cons_zero, List.set_cons_succ]
            have hbh5 : Blk w5 bh 29 vs.toArray := (hb5 bh hlo1.2.1).trans HN.out.bhB
            have k5 : w5.cell? ⟨bh, a, none⟩ = some v := hbh5.cell (by simpa using HV.out)
            have e5 := hbh5.frozen a
            refine wpAnyH_ready (rs := [19]) (by kernel_rfl) (by simp) ?_
            refine AllReadyH.cons rfl (fun K hK => ?_) AllReadyH.nil
            simp only [List.getElem_toArray, List.getElem_cons_zero, List.getElem_cons_succ]
            go_simp
            refine hK.out _ _ ?_ (fun hHeld => ?_)
            · exact ⟨(cell_setOther (by simpa using hne1.1) _).trans S5.1, (cell_setOther (by simp; omega) _).trans S5.2.1, (cell_setOther (by simp; omega) _).trans S5.2.2⟩
            clear hK K
            refine wpAnyH_done (by kernel_rfl) ?_ _
            go_wp2_with fail
            go_meet
            exact nl_end HN.out HV.out hBl.out HO.out hown2 hgrow hat hp5 (by omega) hKW
          · simp only [List.getElem_toArray, List.getElem_cons_zero, List.getElem_cons_succ]
            go_simp
            refine hK.out _ _ SA (fun hHeld => ?_)
            clear hK K
            try simp only [Act.put, List.getElem_toArray, List.getElem_cons_zero, List.getElem_cons_succ, List.setIfInBounds_toArray, List.set_cons_zero, List.set_cons_succ]
            refine wpAnyH_ready (rs := [13]) (by kernel_rfl) (by simp) ?_
            refine AllReadyH.cons rfl (fun K hK => ?_) AllReadyH.nil
            simp only [List.getElem_toArray, List.getElem_cons_zero, List.getElem_cons_succ]
            go_simp
            refine hK.out _ _ SA (fun hHeld => ?_)
            clear hK K
            try simp only [Act.put, List.getElem_toArray, List.getElem_cons_zero, List.getElem_cons_succ, List.setIfInBounds_toArray, List.set_cons_zero, List.set_cons_succ]
            refine wpAnyH_ready (rs := [17]) (by kernel_rfl) (by simp) ?_
            refine AllReadyH.cons rfl (fun K hK => ?_) AllReadyH.nil
            refine step_append_lies _ rfl _ _ 29 rfl w2.heap.size 3 i0 (.int .i64 0) 1 8 Tryd.underlying29 hi hz0 hz1 hz2 rfl (by decide) v bl.length (encN bl) rfl (HO.out.alloc _) ⟨W.heap.size, 0, none⟩ 1 1 [.int .i64 b2] rfl rfl (by intro k u hk; match k, hk with | 0, hk => simp at hk; subst hk; exact (Blk.new W 3 #[.int .i64 (b2 : Int)]).cell (j := 0) rfl) (by simp [Value.oneCell']) (by omega) (by unfold maxLen; omega) (by omega) (by simp; omega) _ rfl ?_
            intro g cp w5 hown2 hgrow hat hlt5
            have hb5 : ∀ k, k < w2.heap.size → w5.heap[k]? = W.heap[k]? := fun k hk => (hgrow.block k (by simp; omega) (owns_ne HO.out hk)).trans (Below.heap_alloc W.drew _ k (by show k < W.heap.size; omega))
            have hp5 : Blk w5 B5 37 #[.int .i64 (a : Int), .int .i64 (b2 : Int)] := (hgrow.block B5 (by have := HP.out.lt; simp; omega) (ne_pairB HO.out HP.out)).trans (HP.out.alloc _)
            have S5 : w5.cell? ⟨l, 1, none⟩ = some (.slice (some ⟨bh, 0, none⟩) L.length L.length) ∧ w5.cell? ⟨B5, 0, none⟩ = some (.int .i64 a) ∧ w5.cell? ⟨B5, 1, none⟩ = some (.int .i64 b2) := ⟨Blk.cell (show Blk w5 l _ _ from (hb5 l hlo1.1).trans HN.out.st) (j := 1) rfl, hp5.cell (j := 0) rfl, hp5.cell (j := 1) rfl⟩
            refine hK.out _ _ S5 (fun hHeld => ?_)
            clear hK K
            try simp only [Act.put, List.getElem_toArray, List.getElem_cons_zero, List.getElem_cons_succ, List.setIfInBounds_toArray, List.set_cons_zero, List.set_cons_succ]
            refine wpAnyH_take (i := 18) (v := ?_) rfl (by kernel_rfl) (by kernel_rfl) (by kernel_rfl) (fun _ _ _ h => h) (Or.inl ⟨by rfl, ?_⟩) (by assumption) ?_
            rotate_left
            · (intro w hSw; (try dsimp only at hSw); go_simp) <;> with_reducible rfl
            simp only [Act.put, List.getElem_toArray, List.getElem_cons_zero, List.getElem_cons_succ, List.setIfInBounds_toArray, List.set_cons_zero, List.set_cons_succ]
            have hbh5 : Blk w5 bh 29 vs.toArray := (hb5 bh hlo1.2.1).trans HN.out.bhB
            have k5 : w5.cell? ⟨bh, a, none⟩ = some v := hbh5.cell (by simpa using HV.out)
            have e5 := hbh5.frozen a
            refine wpAnyH_ready (rs := [19]) (by kernel_rfl) (by simp) ?_
            refine AllReadyH.cons rfl (fun K hK => ?_) AllReadyH.nil
            simp only [List.getElem_toArray, List.getElem_cons_zero, List.getElem_cons_succ]
            go_simp
            refine hK.out _ _ ?_ (fun hHeld => ?_)
            · exact ⟨(cell_setOther (by simpa using hne1.1) _).trans S5.1, (cell_setOther (by simp; omega) _).trans S5.2.1, (cell_setOther (by simp; omega) _).trans S5.2.2⟩
            clear hK K
            refine wpAnyH_done (by kernel_rfl) ?_ _
            go_wp2_with fail
            go_meet
            exact nl_end HN.out HV.out hBl.out HO.out hown2 hgrow hat hp5 (by omega) hKW
        case rest =>
          obtain ⟨vs', hN6, hP6, hK6⟩ := hcut
          have s2 := hN6.st.cell (j := 2) rfl
          have y0 := hN6.wtB.cellI HWB.out
          have f0 := hN6.wtB.frozen b2
          have p1 := hP6.cell (j := 1) rfl
          have m1 := hN6.st.lt
          have m2 := hN6.wtB.lt
          have m3 := hP6.lt
          have hN7 := hN6.drew.wset b2 ((wn : Int) + 1)
          have hK7 : Keep2 bh wt w2.heap.size w2 (wc.drew.setCell ⟨wt, b2, none⟩ (.int .i64 ((wn : Int) + 1))) := hK6.drew.setW _
          have HN7 := hid_of hN7
          clear hN6 hN7 hnW
          go_wp2_with fail
          go_region
          all_goals
            go_wp2_with fail
            refine ⟨⟨k + 1, vs', by omega, by go_num, ?_, hK7⟩, by simp [intOf]; omega⟩
            rw [HRE.out, HWE.out]
            exact HN7
      · obtain rfl : k = ps.length := by omega
        rw [List.take_length] at HK
        go_wp2_with fail
        go_ret
        exact ⟨_, l, bh, wt, vs, rfl, hlo.1, hlo.2.1, hlo.2.2, by rw [hps]; exact HK.out, hB2.trans (hKeep.below hB2.size hlo.2.1 hlo.2.2)⟩
end Go.Proofs.YtmmgdeoballhpaaDoor
/- How many a point waits for, and the order that Sort lays. -/
namespace Go.Proofs.YtmmgdeoballhpaaDoor
open Go.RowKit Sx

/-- How many a point waits for, pts standing; one more, once it stands itself. -/
def wAt (ps : List (Nat × Nat)) (pts : List Nat) (q : Nat) : Int := ((ps.filter (fun x => x.2 == q && !pts.contains x.1)).length : Int) + (if pts.contains q then 1 else 0)
def wAll (n : Nat) (ps : List (Nat × Nat)) (pts : List Nat) : List Int := (List.range n).map (wAt ps pts)
theorem wAll_length (n : Nat) (ps : List (Nat × Nat)) (pts : List Nat) : (wAll n ps pts).length = n := by simp [wAll]
theorem wAll_at {n : Nat} (ps : List (Nat × Nat)) (pts : List Nat) {q : Nat} (h : q < n) : (wAll n ps pts)[q]? = some (wAt ps pts q) := by simp [wAll, h]
theorem wAll_nil (n : Nat) (ps : List (Nat × Nat)) : wAll n ps [] = wtOf n ps := by
  unfold wAll wtOf
  apply List.map_congr_left
  intro q _
  simp [wAt]
theorem set_getD (l : List Int) (i q : Nat) (x : Int) (hq : q < l.length) : (l.set i x).getD q 0 = if i = q then x else l.getD q 0 := by
  rw [List.getD_eq_getElem?_getD, List.getD_eq_getElem?_getD, List.getElem?_set]
  split
  · rename_i e
    subst e
    simp [hq]
  · rfl
theorem subAll_at : ∀ (bl : List Nat) (ws : List Int) (q : Nat), q < ws.length → (subAll 1 ws bl).getD q 0 = ws.getD q 0 - (bl.count q : Int)
  | [], ws, q, _ => by simp [subAll]
  | p :: bl, ws, q, hq => by
    have h := subAll_at bl (ws.set p (ws.getD p 0 - 1)) q (by simpa using hq)
    rw [show subAll 1 ws (p :: bl) = subAll 1 (ws.set p (ws.getD p 0 - 1)) bl from rfl, h, set_getD _ _ _ _ hq, List.count_cons]
    by_cases e : p = q
    · subst e
      simp
      omega
    · have : ¬ (p == q) = true := by simpa using e
      rw [if_neg e, if_neg this]
      simp
theorem split_count (pts : List Nat) (p q : Nat) (hp : p ∉ pts) : ∀ (ps : List (Nat × Nat)), (ps.filter (fun x => x.2 == q && !pts.contains x.1)).length = (ps.filter (fun x => x.2 == q && !(pts ++ [p]).contains x.1)).length + ((ps.filter (fun x => x.1 == p)).map (·.2)).count q
  | [] => by simp
  | (a, b) :: ps => by
    have ih := split_count pts p q hp ps
    have hc : (pts ++ [p]).contains a = (pts.contains a || (a == p)) := by
      rw [Bool.eq_iff_iff]
      simp
    rw [List.filter_cons, List.filter_cons, List.filter_cons]
    simp only [hc]
    by_cases hap : a = p
    · subst hap
      have h1 : pts.contains a = false := by
        rw [Bool.eq_false_iff]; simpa using hp
      by_cases hbq : b = q
      · subst hbq
        simp only [h1, beq_self_eq_true, Bool.true_and, Bool.not_false, Bool.or_true, Bool.not_true, Bool.false_eq_true, if_false, if_true, List.map_cons, List.count_cons, List.length_cons]
        omega
      · have h2 : (b == q) = false := by simpa using hbq
        simp only [h2, h1, beq_self_eq_true, Bool.false_and, Bool.or_true, Bool.not_true, Bool.and_false, Bool.false_eq_true, if_false, if_true, List.map_cons, List.count_cons]
        simpa using ih
    · have h3 : (a == p) = false := by simpa using hap
      simp only [h3, Bool.or_false, Bool.false_eq_true, if_false]
      by_cases hc2 : (b == q && !pts.contains a) = true
      · rw [if_pos hc2, if_pos hc2, List.length_cons, List.length_cons, ih]
        omega
      · rw [if_neg hc2, if_neg hc2]
        exact ih
theorem ext_getD {a b : List Int} (hl : a.length = b.length) (h : ∀ q, q < a.length → a.getD q 0 = b.getD q 0) : a = b := by
  apply List.ext_getElem?
  intro q
  by_cases hq : q < a.length
  · rw [getD_of hq, getD_of (by omega), h q hq]
  · rw [List.getElem?_eq_none (by omega), List.getElem?_eq_none (by omega)]
theorem wAll_getD {n : Nat} (ps : List (Nat × Nat)) (pts : List Nat) {q : Nat} (h : q < n) : (wAll n ps pts).getD q 0 = wAt ps pts q := by
  rw [List.getD_eq_getElem?_getD, wAll_at ps pts h]; rfl
theorem count_wAll {n : Nat} (ps : List (Nat × Nat)) (pts : List Nat) {p : Nat} (hp : p < n) (hnp : p ∉ pts) : countF 1 (wAll n ps pts) p ((bkOf n ps).getD p []) = wAll n ps (pts ++ [p]) := by
  have e : (bkOf n ps).getD p [] = (ps.filter (fun x => x.1 == p)).map (·.2) := by rw [List.getD_eq_getElem?_getD, bkOf_at ps hp]; rfl
  rw [e]
  unfold countF
  apply ext_getD
  · rw [subAll_length, List.length_set, wAll_length, wAll_length]
  · intro q hq
    rw [subAll_length, List.length_set, wAll_length] at hq
    rw [subAll_at _ _ _ (by rw [List.length_set, wAll_length]; exact hq), set_getD _ _ _ _ (by rw [wAll_length]; exact hq), wAll_getD _ _ hq, wAll_getD _ _ hq, wAll_getD _ _ hp]
    have hs := split_count pts p q hnp ps
    have hc : (pts ++ [p]).contains q = (pts.contains q || (q == p)) := by
      rw [Bool.eq_iff_iff]; simp
    unfold wAt
    rw [hs, hc]
    by_cases e2 : p = q
    · subst e2
      have h1 : pts.contains p = false := by rw [Bool.eq_false_iff]; simpa using hnp
      rw [if_pos rfl, h1, hs]
      simp
      omega
    · have h3 : (q == p) = false := by simpa using fun e => e2 e.symm
      rw [if_neg e2, h3, Bool.or_false]
      omega
theorem wAt_nonneg (ps : List (Nat × Nat)) (pts : List Nat) (q : Nat) : 0 ≤ wAt ps pts q := by
  unfold wAt
  split <;> omega
theorem wAt_pos {ps : List (Nat × Nat)} {pts : List Nat} {q : Nat} (h : q ∈ pts) : wAt ps pts q ≠ 0 := by
  unfold wAt
  rw [if_pos (by simpa using h)]
  omega
/-- Points are laid, the least that may first, so long as there is one. -/
def srt (n : Nat) (ps : List (Nat × Nat)) : Nat → List Nat → List Nat
  | 0, pts => pts
  | f + 1, pts => if 0 ≤ fz (wAll n ps pts) then srt n ps f (pts ++ [(fz (wAll n ps pts)).toNat]) else pts
theorem fz_range {l : List Int} (h : 0 ≤ fz l) : ∃ p : Nat, fz l = (p : Int) ∧ p < l.length ∧ l[p]? = some 0 := by
  unfold fz at h ⊢
  split at h
  · rename_i i hi
    have := List.findIdx?_eq_some_iff_getElem.1 hi
    obtain ⟨h1, h2, _⟩ := this
    refine ⟨i, rfl, h1, ?_⟩
    rw [List.getElem?_eq_getElem h1]
    simpa using h2
  · omega
end Go.Proofs.YtmmgdeoballhpaaDoor
