/- What follows of a well-formed graph: the maths of GraphLaws. -/
import Derived.Test.YtalhdecmfmmcoaaGreatDoorJ25
import Derived.Test.YtalhdecmfmmcoaaGreatDoorJ23
import Derived.Test.YtalhdecmfmmcoaaGreatDoorJ31
namespace Go.Proofs.YtalhdecmfmmcoaaGreatDoor
open Go.RowKit Go.Shelf Sx

/-- All nine rules hold. -/
def Wf (g : Gr) (q : Bool) : Prop := ∀ j, j < 9 → rl g q j = -1
theorem fst_all {P : Nat → Bool} {a f : Nat} (h : fstBad P a f = -1) : ∀ j, a ≤ j → j < a + f → P j = false := by
  rcases fstBad_cases P f a with ⟨_, h2⟩ | ⟨i, h1, _⟩
  · exact h2
  · rw [h] at h1; omega
theorem acyc_of {n : Nat} {F : Nat → Nat → Bool} {L : List Nat} {w : World} {b c : Nat} (r : Nat → Nat) (ht : TwR n F L) (hr : IsRel w b c L) (h : ∀ p q, p < n → q < n → F p q = true → r p < r q) : (loopsL (plusL L) == 0) = true := by
  have hw : WF n L := hr.wf ht.len
  rw [beq_iff_eq, loops_zero]
  intro p hp
  rw [hs_plus hw] at hp
  have key : ∀ {a b : Nat}, Relation.TransGen (hs L) a b → r a < r b := by
    intro a b hab
    induction hab with
    | single h1 =>
      have hl := hs_left h1
      rw [ht.len] at hl
      exact h _ _ hl (hw.low _ _ h1) (by rw [ht.same _ _ hl (hw.low _ _ h1)]; exact h1)
    | tail _ h1 ih =>
      have hl := hs_left h1
      rw [ht.len] at hl
      exact Nat.lt_trans ih (h _ _ hl (hw.low _ _ h1) (by rw [ht.same _ _ hl (hw.low _ _ h1)]; exact h1))
  exact Nat.lt_irrefl _ (key hp)
theorem po_lt {evs : List Ev} {a b : Nat} (h : poB evs a b = true) : a < b := by
  simp [poB] at h
  exact h.1.1
theorem po_ext {evs : List Ev} {a b : Nat} (h : poB evs a b = true) : extB evs a b = false := by
  simp [poB] at h
  simp [extB, h.1.2]
theorem rmw_po {g : Gr} {q : Bool} (h : Wf g q) {a b : Nat} (hm : memB g.rmw a b = true) : poB g.evs a b = true := by
  have h6 : bad6 g = -1 := h 5 (by omega)
  have hm := of_decide_eq_true hm
  obtain ⟨i, hi, e⟩ := List.mem_iff_getElem.1 hm
  have := fst_all h6 i (Nat.zero_le _) (by omega)
  rw [List.getD_eq_getElem?_getD, List.getElem?_eq_getElem hi, Option.getD_some, e] at this
  simp [okU, okUa] at this
  exact this.2.1.2
theorem nodup_of_ord {g : Gr} {c : Int} {l : List Int} (h : isOrdB l c (wrs g c g.evs.length) = true) : l.Nodup := by
  have h1 := (ord_parts h).2.2
  have h2 : (srtI l).Perm l := by unfold srtI; exact List.mergeSort_perm l _
  refine h2.nodup_iff.1 ?_
  rw [h1]
  unfold wrs
  rw [List.nodup_iff_pairwise_ne, List.pairwise_map]
  refine List.Pairwise.imp (R := (· < ·)) (fun {a b} h => by omega) ?_
  exact List.Pairwise.filter _ List.pairwise_lt_range
theorem mem_ordIn {l : List Int} {a b : Int} : (a, b) ∈ ordIn l l.length ↔ ∃ i j : Nat, j < i ∧ l[j]? = some a ∧ l[i]? = some b := by
  unfold ordIn ordRow
  simp only [List.mem_flatMap, List.mem_range, List.mem_map, Prod.mk.injEq]
  constructor
  · rintro ⟨i, hi, x, hx, rfl, rfl⟩
    obtain ⟨j, hj, e⟩ := List.mem_iff_getElem.1 hx
    rw [List.length_take] at hj
    rw [List.getElem_take] at e
    exact ⟨i, j, by omega, by rw [List.getElem?_eq_getElem (by omega), e], by rw [List.getD_eq_getElem?_getD, List.getElem?_eq_getElem hi]; rfl⟩
  · rintro ⟨i, j, hji, h1, h2⟩
    have hi := (List.getElem?_eq_some_iff.1 h2).1
    refine ⟨i, hi, a, ?_, rfl, ?_⟩
    · refine List.mem_of_getElem? (i := j) ?_
      rw [List.getElem?_take, if_pos hji]
      exact h1
    · rw [List.getD_eq_getElem?_getD, h2]; rfl
theorem co_iff {g : Gr} {a b : Nat} : coB g a b = true ↔ ∃ (c : Nat) (l : List Int) (i j : Nat), g.co[c]? = some l ∧ j < i ∧ l[j]? = some ((a : Nat) : Int) ∧ l[i]? = some ((b : Nat) : Int) := by
  unfold coB ordAll
  rw [decide_eq_true_iff, List.take_length, List.mem_flatMap]
  constructor
  · rintro ⟨l, hl, h⟩
    obtain ⟨c, hc⟩ := List.getElem?_of_mem hl
    obtain ⟨i, j, h1, h2, h3⟩ := mem_ordIn.1 h
    exact ⟨c, l, i, j, hc, h1, h2, h3⟩
  · rintro ⟨c, l, i, j, hc, h1, h2, h3⟩
    exact ⟨l, List.mem_of_getElem? hc, mem_ordIn.2 ⟨i, j, h1, h2, h3⟩⟩
/-- A write's place in its cell's order. -/
def coRk (g : Gr) (a : Nat) : Nat := (g.co.getD (g.ev a).l.toNat []).idxOf ((a : Nat) : Int)
theorem co_rk {g : Gr} {q : Bool} (h : Wf g q) {c : Nat} {l : List Int} {j a : Nat} (hc : g.co[c]? = some l) (hj : l[j]? = some ((a : Nat) : Int)) : coRk g a = j ∧ (g.ev a).l = ((c : Nat) : Int) := by
  obtain ⟨_, hall⟩ := co_list h hc
  obtain ⟨i, e, _, _, hl⟩ := hall _ (List.mem_of_getElem? hj)
  obtain rfl : a = i := by omega
  have hn := nodup_of_ord ((ok5 h).2 c l hc)
  have hjl := (List.getElem?_eq_some_iff.1 hj).1
  have he := (List.getElem?_eq_some_iff.1 hj).2
  refine ⟨?_, hl⟩
  unfold coRk
  rw [hl, Int.toNat_natCast, List.getD_eq_getElem?_getD, hc, Option.getD_some, ← he]
  exact hn.idxOf_getElem j hjl
theorem co_lt {g : Gr} {q : Bool} (h : Wf g q) {a b : Nat} (hc : coB g a b = true) : coRk g a < coRk g b := by
  obtain ⟨c, l, i, j, h1, h2, h3, h4⟩ := co_iff.1 hc
  rw [(co_rk h h1 h3).1, (co_rk h h1 h4).1]
  exact h2
theorem co_total {g : Gr} {q : Bool} (h : Wf g q) {a b : Nat} (ha : a < g.evs.length) (hb : b < g.evs.length) (hka : (g.ev a).k = 2) (hkb : (g.ev b).k = 2) (hl : (g.ev a).l = (g.ev b).l) (hne : a ≠ b) : coB g a b ≠ coB g b a := by
  have h2 : bad2 g q = -1 := h 1 (by omega)
  have h3 : bad3 g q = -1 := h 2 (by omega)
  obtain ⟨hc0, hc1⟩ := wr_cell h2 h3 ha hka
  obtain ⟨c, hc⟩ : ∃ c : Nat, (g.ev a).l = ((c : Nat) : Int) := ⟨(g.ev a).l.toNat, by omega⟩
  have hlen := (ok5 h).1
  obtain ⟨l, hco⟩ : ∃ l, g.co[c]? = some l := ⟨_, List.getElem?_eq_getElem (by omega)⟩
  have hs := (ord_parts ((ok5 h).2 c l hco)).2.2
  have key : ∀ x : Nat, x < g.evs.length → (g.ev x).k = 2 → (g.ev x).l = ((c : Nat) : Int) → ∃ j : Nat, l[j]? = some ((x : Nat) : Int) := fun x hx hk hl => by
    have : ((x : Nat) : Int) ∈ srtI l := by
      rw [hs]
      exact mem_wrs.2 ⟨x, rfl, hx, by simp [isWr, hk, hl]⟩
    exact List.getElem?_of_mem (srtI_mem.1 this)
  obtain ⟨i, hi⟩ := key a ha hka hc
  obtain ⟨j, hj⟩ := key b hb hkb (by omega)
  rcases Nat.lt_trichotomy i j with hij | rfl | hij
  · have e1 : coB g a b = true := co_iff.2 ⟨c, l, j, i, hco, hij, hi, hj⟩
    intro e
    have e2 : coB g b a = true := by rw [← e]; exact e1
    have := co_lt h e1
    have := co_lt h e2
    omega
  · rw [hi] at hj
    injection hj with hj
    omega
  · have e1 : coB g b a = true := co_iff.2 ⟨c, l, i, j, hco, hij, hj, hi⟩
    intro e
    have e2 : coB g a b = true := by rw [e]; exact e1
    have := co_lt h e1
    have := co_lt h e2
    omega
theorem numK_rise (P : Ev → Bool) (l : List Ev) (k : Nat) : (numK P l k).Pairwise (· < ·) := List.Pairwise.filter _ List.pairwise_lt_range
theorem rf_at {g : Gr} {q : Bool} (h : Wf g q) {i : Nat} {x : Int × Int} (hx : g.rf[i]? = some x) : ∃ a b : Nat, x = (((a : Nat) : Int), ((b : Nat) : Int)) ∧ a < g.evs.length ∧ g.reads[i]? = some b := by
  have h4 : bad4 g = -1 := h 3 (by omega)
  have hi := (List.getElem?_eq_some_iff.1 hx).1
  have hr : fstBad (fun i => !(ok4a g i (g.rf.getD i (0, 0)) && ok4b g (g.rf.getD i (0, 0)))) 0 g.rf.length = -1 := by
    unfold bad4 at h4
    dsimp only at h4
    split at h4
    · assumption
    · exact h4
  have := fst_all hr i (Nat.zero_le _) (by omega)
  rw [List.getD_eq_getElem?_getD, hx, Option.getD_some] at this
  simp [ok4a, isB] at this
  obtain ⟨⟨⟨h5, h6⟩, ⟨h7, h8⟩, _⟩, _⟩ := this
  refine ⟨x.1.toNat, g.reads.getD i 0, ?_, by omega, ?_⟩
  · refine Prod.ext ?_ ?_
    · show x.1 = _; omega
    · show x.2 = _; rw [h6, List.getD_eq_getElem?_getD]
  · rw [List.getD_eq_getElem?_getD, List.getElem?_eq_getElem h5]; rfl
theorem rf_len {g : Gr} {q : Bool} (h : Wf g q) : g.reads.length ≤ g.rf.length := by
  have h4 : bad4 g = -1 := h 3 (by omega)
  unfold bad4 at h4
  dsimp only at h4
  split at h4
  · split at h4
    · omega
    · omega
  · contradiction
/-- How many write what an event reads. -/
def cntRf (g : Gr) (i j : Nat) : Nat := ((List.range j).filter (fun a => memB g.rf a i)).length
theorem cntRf_succ (g : Gr) (i j : Nat) : cntRf g i (j + 1) = cntRf g i j + (if memB g.rf j i then 1 else 0) := by
  unfold cntRf
  rw [List.range_succ, List.filter_append, List.length_append, List.filter_cons, List.filter_nil]
  split <;> simp
theorem cntRf_le (g : Gr) (i j : Nat) : cntRf g i j ≤ j := by
  unfold cntRf
  have := List.length_filter_le (fun a => memB g.rf a i) (List.range j)
  simpa using this
theorem one_len {l : List Nat} (hn : l.Nodup) {a : Nat} (ha : a ∈ l) (h : ∀ b ∈ l, b = a) : l.length = 1 := by
  match l, hn, ha, h with
  | [x], _, _, _ => rfl
  | x :: y :: l, hn, _, h =>
    have h1 := h x (by simp)
    have h2 := h y (by simp)
    rw [List.nodup_cons] at hn
    exact absurd (by rw [h1, h2]; simp) hn.1
theorem cntRf_all {g : Gr} {q : Bool} (h : Wf g q) {i : Nat} (hi : i < g.evs.length) : cntRf g i g.evs.length = (if (g.ev i).k = 1 then 1 else 0) := by
  have hmem : ∀ a, a ∈ (List.range g.evs.length).filter (fun a => memB g.rf a i) ↔ ∃ t : Nat, g.rf[t]? = some (((a : Nat) : Int), ((i : Nat) : Int)) := by
    intro a
    rw [List.mem_filter, List.mem_range, memB, decide_eq_true_iff]
    constructor
    · rintro ⟨_, h1⟩; exact List.getElem?_of_mem h1
    · rintro ⟨t, h1⟩
      obtain ⟨a', b', e, h2, _⟩ := rf_at h h1
      simp only [Prod.mk.injEq] at e
      exact ⟨by omega, List.mem_of_getElem? h1⟩
  have hrd : ∀ {t b : Nat}, g.reads[t]? = some b → (g.ev b).k = 1 ∧ b < g.evs.length := fun {t b} hb => by
    have := List.mem_of_getElem? hb
    unfold Gr.reads numK at this
    rw [List.mem_filter, List.mem_range] at this
    exact ⟨by simpa [Gr.ev] using this.2, this.1⟩
  unfold cntRf
  by_cases hk : (g.ev i).k = 1
  · rw [if_pos hk]
    have hin : i ∈ g.reads := by
      unfold Gr.reads numK
      rw [List.mem_filter, List.mem_range]
      exact ⟨hi, by simpa [Gr.ev] using hk⟩
    obtain ⟨t, ht⟩ := List.getElem?_of_mem hin
    have htl := (List.getElem?_eq_some_iff.1 ht).1
    have hlen := rf_len h
    obtain ⟨x, hx⟩ : ∃ x, g.rf[t]? = some x := ⟨_, List.getElem?_eq_getElem (by omega)⟩
    obtain ⟨a, b, rfl, ha, hb⟩ := rf_at h hx
    rw [ht] at hb
    injection hb with hb
    subst hb
    refine one_len (List.Pairwise.filter _ List.nodup_range) ((hmem a).2 ⟨t, hx⟩) (fun a' ha' => ?_)
    obtain ⟨t', hx'⟩ := (hmem a').1 ha'
    obtain ⟨a2, b2, e, _, hb2⟩ := rf_at h hx'
    simp only [Prod.mk.injEq] at e
    obtain rfl : b2 = i := by omega
    have hri : g.reads.Pairwise (· < ·) := numK_rise _ _ _
    have : t' = t := by
      have h1 := (List.getElem?_eq_some_iff.1 hb2).1
      rw [List.pairwise_iff_getElem] at hri
      have e1 := (List.getElem?_eq_some_iff.1 ht).2
      have e2 := (List.getElem?_eq_some_iff.1 hb2).2
      rcases Nat.lt_trichotomy t' t with hlt | e | hlt
      · have := hri t' t h1 htl hlt; omega
      · exact e
      · have := hri t t' htl h1 hlt; omega
    subst this
    rw [hx] at hx'
    injection hx' with hx'
    simp only [Prod.mk.injEq] at hx'
    omega
  · rw [if_neg hk]
    rw [List.length_eq_zero_iff, List.eq_nil_iff_forall_not_mem]
    intro a ha
    obtain ⟨t, hx⟩ := (hmem a).1 ha
    obtain ⟨a2, b2, e, _, hb2⟩ := rf_at h hx
    simp only [Prod.mk.injEq] at e
    obtain rfl : b2 = i := by omega
    exact hk (hrd hb2).1
theorem may_both {k m : Int} (h : 1 ≤ k) (h3 : k ≤ 3) (h1 : mayB k m false = true) (h2 : mayB k m true = true) : False := by
  have key : ∀ j : Nat, ((38 : Nat).testBit j && (71680 : Nat).testBit j) = false ∧ ((42 : Nat).testBit j && (10240 : Nat).testBit j) = false ∧ ((60 : Nat).testBit j && (49152 : Nat).testBit j) = false := by
    intro j
    rw [← Nat.testBit_and, ← Nat.testBit_and, ← Nat.testBit_and]
    simp
  have hk := key m.toNat
  unfold mayB formN at h1 h2
  obtain rfl | rfl | rfl : k = 1 ∨ k = 2 ∨ k = 3 := by omega
  · simp at h1 h2
    have := hk.1
    rw [h1.2, h2.2] at this
    cases this
  · simp at h1 h2
    have := hk.2.1
    rw [h1.2, h2.2] at this
    cases this
  · simp at h1 h2
    have := hk.2.2
    rw [h1.2, h2.2] at this
    cases this
theorem both_wf {g : Gr} (h1 : Wf g false) (h2 : Wf g true) : ((g.evs.length : Nat) : Int) ≤ g.cells := by
  have hb := rl0 (h1 0 (by omega))
  simp [bad1] at hb
  refine Int.not_lt.1 fun hlt => ?_
  obtain ⟨c, hc⟩ : ∃ c : Nat, g.cells = ((c : Nat) : Int) := ⟨g.cells.toNat, by omega⟩
  have e1 := ok3_ev (h1 2 (by omega)) (i := c) (by omega) (by omega)
  have e2 := ok3_ev (h2 2 (by omega)) (i := c) (by omega) (by omega)
  simp [okEv] at e1 e2
  exact may_both e1.1.1.1.2 e1.1.1.2 e1.2 e2.2
theorem size_zero {n : Nat} {A B : List Nat} (ha : WF n A) (hb : WF n B) (h : ∀ p q, hs A p q → hs B p q) : (sizeL (minusL A B) == 0) = true := by
  have hz : minusL A B = List.replicate n 0 := by
    refine (wf_minus ha hb).ext ⟨by simp, fun p q h => absurd h (hs_zero n p q)⟩ (fun p q => ?_)
    rw [hs_minus ha hb]
    exact ⟨fun h1 => absurd (h p q h1.1) h1.2, fun h1 => absurd h1 (hs_zero n p q)⟩
  rw [hz, beq_iff_eq]
  have key : ∀ k, sizeK (List.replicate n 0) k = 0 := by
    intro k
    induction k with
    | zero => rfl
    | succ k ih =>
      rw [sizeK_succ, ih]
      have : gr (List.replicate n 0) k = 0 := by
        unfold gr
        by_cases hk : k < n
        · simp [List.getD_eq_getElem?_getD, hk]
        · simp [List.getD_eq_getElem?_getD, hk]
      rw [this]
      rfl
  exact key _
end Go.Proofs.YtalhdecmfmmcoaaGreatDoor
