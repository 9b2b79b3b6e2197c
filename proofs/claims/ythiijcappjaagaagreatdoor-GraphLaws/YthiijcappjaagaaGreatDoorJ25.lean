/- What follows of a well-formed graph: the maths of GraphLaws. -/
import Derived.Test.YthiijcappjaagaaGreatDoorJ23
import Derived.Test.YthiijcappjaagaaGreatDoorJ20
import Derived.Test.YthiijcappjaagaaGreatDoorJ24
import Derived.Test.YthiijcappjaagaaGreatDoorJ09
namespace Go.Proofs.YthiijcappjaagaaGreatDoor
open Go.RowKit Go.Shelf Sx
def Wf (g : Gr) (q : Bool) : Prop := ∀ j, j < 9 → rl g q j = -1
theorem fst_all {P : Nat → Bool} {a f : Nat} (h : fstBad P a f = -1) : ∀ j, a ≤ j → j < a + f → P j = false := by
  rcases fstBad_cases P f a with ⟨_, h2⟩ | ⟨i, h1, _⟩
  · exact h2
  · rw [h] at h1; omega
theorem acyc_of {n : Nat} {F : Nat → Nat → Bool} {L : List Nat} {w : World} {b c : Nat} (r : Nat → Nat) (ht : TwR n F L) (hr : IsRel w b c L) (h : ∀ p q, p < n → q < n → F p q = true → r p < r q) : (loopsL (plusL L) == 0) = true := by
  have hw : WF n L := hr.wf ht.len
  rw [beq_iff_eq, loops_zero]
  intro p hp
  rw [hs_plus hw] at hp
  have key : ∀ {a b : Nat}, Relation.TransGen (hs L) a b → r a < r b := by
    intro a b hab
    induction hab with
    | single h1 =>
      have hl := hs_left h1
      rw [ht.len] at hl
      exact h _ _ hl (hw.low _ _ h1) (by rw [ht.same _ _ hl (hw.low _ _ h1)]; exact h1)
    | tail _ h1 ih =>
      have hl := hs_left h1
      rw [ht.len] at hl
      exact Nat.lt_trans ih (h _ _ hl (hw.low _ _ h1) (by rw [ht.same _ _ hl (hw.low _ _ h1)]; exact h1))
  exact Nat.lt_irrefl _ (key hp)
theorem po_lt {evs : List Ev} {a b : Nat} (h : poB evs a b = true) : a < b := by
  simp [poB] at h
  exact h.1.1
theorem po_ext {evs : List Ev} {a b : Nat} (h : poB evs a b = true) : extB evs a b = false := by
  simp [poB] at h
  simp [extB, h.1.2]
theorem rmw_po {g : Gr} {q : Bool} (h : Wf g q) {a b : Nat} (hm : memB g.rmw a b = true) : poB g.evs a b = true := by
  have h6 : bad6 g = -1 := h 5 (by omega)
  have hm := of_decide_eq_true hm
  obtain ⟨i, hi, e⟩ := List.mem_iff_getElem.1 hm
  have := fst_all h6 i (Nat.zero_le _) (by omega)
  rw [List.getD_eq_getElem?_getD, List.getElem?_eq_getElem hi, Option.getD_some, e] at this
  simp [okU, okUa] at this
  exact this.2.1.2
theorem nodup_of_ord {g : Gr} {c : Int} {l : List Int} (h : isOrdB l c (wrs g c g.evs.length) = true) : l.Nodup := by
  have h1 := (ord_parts h).2.2
  have h2 : (srtI l).Perm l := by unfold srtI; exact List.mergeSort_perm l _
  refine h2.nodup_iff.1 ?_
  rw [h1]
  unfold wrs
  rw [List.nodup_iff_pairwise_ne, List.pairwise_map]
  refine List.Pairwise.imp (R := (· < ·)) (fun {a b} h => by omega) ?_
  exact List.Pairwise.filter _ List.pairwise_lt_range
theorem mem_ordIn {l : List Int} {a b : Int} : (a, b) ∈ ordIn l l.length ↔ ∃ i j : Nat, j < i ∧ l[j]? = some a ∧ l[i]? = some b := by
  unfold ordIn ordRow
  simp only [List.mem_flatMap, List.mem_range, List.mem_map, Prod.mk.injEq]
  constructor
  · rintro ⟨i, hi, x, hx, rfl, rfl⟩
    obtain ⟨j, hj, e⟩ := List.mem_iff_getElem.1 hx
    rw [List.length_take] at hj
    rw [List.getElem_take] at e
    exact ⟨i, j, by omega, by rw [List.getElem?_eq_getElem (by omega), e], by rw [List.getD_eq_getElem?_getD, List.getElem?_eq_getElem hi]; rfl⟩
  · rintro ⟨i, j, hji, h1, h2⟩
    have hi := (List.getElem?_eq_some_iff.1 h2).1
    refine ⟨i, hi, a, ?_, rfl, ?_⟩
    · refine List.mem_of_getElem? (i := j) ?_
      rw [List.getElem?_take, if_pos hji]
      exact h1
    · rw [List.getD_eq_getElem?_getD, h2]; rfl
theorem co_iff {g : Gr} {a b : Nat} : coB g a b = true ↔ ∃ (c : Nat) (l : List Int) (i j : Nat), g.co[c]? = some l ∧ j < i ∧ l[j]? = some ((a : Nat) : Int) ∧ l[i]? = some ((b : Nat) : Int) := by
  unfold coB ordAll
  rw [decide_eq_true_iff, List.take_length, List.mem_flatMap]
  constructor
  · rintro ⟨l, hl, h⟩
    obtain ⟨c, hc⟩ := List.getElem?_of_mem hl
    obtain ⟨i, j, h1, h2, h3⟩ := mem_ordIn.1 h
    exact ⟨c, l, i, j, hc, h1, h2, h3⟩
  · rintro ⟨c, l, i, j, hc, h1, h2, h3⟩
    exact ⟨l, List.mem_of_getElem? hc, mem_ordIn.2 ⟨i, j, h1, h2, h3⟩⟩
def coRk (g : Gr) (a : Nat) : Nat := (g.co.getD (g.ev a).l.toNat []).idxOf ((a : Nat) : Int)
theorem co_rk {g : Gr} {q : Bool} (h : Wf g q) {c : Nat} {l : List Int} {j a : Nat} (hc : g.co[c]? = some l) (hj : l[j]? = some ((a : Nat) : Int)) : coRk g a = j ∧ (g.ev a).l = ((c : Nat) : Int) := by
  obtain ⟨_, hall⟩ := co_list h hc
  obtain ⟨i, e, _, _, hl⟩ := hall _ (List.mem_of_getElem? hj)
  obtain rfl : a = i := by omega
  have hn := nodup_of_ord ((ok5 h).2 c l hc)
  have hjl := (List.getElem?_eq_some_iff.1 hj).1
  have he := (List.getElem?_eq_some_iff.1 hj).2
  refine ⟨?_, hl⟩
  unfold coRk
  rw [hl, Int.toNat_natCast, List.getD_eq_getElem?_getD, hc, Option.getD_some, ← he]
  exact hn.idxOf_getElem j hjl
theorem co_lt {g : Gr} {q : Bool} (h : Wf g q) {a b : Nat} (hc : coB g a b = true) : coRk g a < coRk g b := by
  obtain ⟨c, l, i, j, h1, h2, h3, h4⟩ := co_iff.1 hc
  rw [(co_rk h h1 h3).1, (co_rk h h1 h4).1]
  exact h2
theorem co_total {g : Gr} {q : Bool} (h : Wf g q) {a b : Nat} (ha : a < g.evs.length) (hb : b < g.evs.length) (hka : (g.ev a).k = 2) (hkb : (g.ev b).k = 2) (hl : (g.ev a).l = (g.ev b).l) (hne : a ≠ b) : coB g a b ≠ coB g b a := by
  have h2 : bad2 g q = -1 := h 1 (by omega)
  have h3 : bad3 g q = -1 := h 2 (by omega)
  obtain ⟨hc0, hc1⟩ := wr_cell h2 h3 ha hka
  obtain ⟨c, hc⟩ : ∃ c : Nat, (g.ev a).l = ((c : Nat) : Int) := ⟨(g.ev a).l.toNat, by omega⟩
  have hlen := (ok5 h).1
  obtain ⟨l, hco⟩ : ∃ l, g.co[c]? = some l := ⟨_, List.getElem?_eq_getElem (by omega)⟩
  have hs := (ord_parts ((ok5 h).2 c l hco)).2.2
  have key : ∀ x : Nat, x < g.evs.length → (g.ev x).k = 2 → (g.ev x).l = ((c : Nat) : Int) → ∃ j : Nat, l[j]? = some ((x : Nat) : Int) := fun x hx hk hl => by
    have : ((x : Nat) : Int) ∈ srtI l := by
      rw [hs]
      exact mem_wrs.2 ⟨x, rfl, hx, by simp [isWr, hk, hl]⟩
    exact List.getElem?_of_mem (srtI_mem.1 this)
  obtain ⟨i, hi⟩ := key a ha hka hc
  obtain ⟨j, hj⟩ := key b hb hkb (by omega)
  rcases Nat.lt_trichotomy i j with hij | rfl | hij
  · have e1 : coB g a b = true := co_iff.2 ⟨c, l, j, i, hco, hij, hi, hj⟩
    intro e
    have e2 : coB g b a = true := by rw [← e]; exact e1
    have := co_lt h e1
    have := co_lt h e2
    omega
  · rw [hi] at hj
    injection hj with hj
    omega
  · have e1 : coB g b a = true := co_iff.2 ⟨c, l, i, j, hco, hij, hj, hi⟩
    intro e
    have e2 : coB g a b = true := by rw [e]; exact e1
    have := co_lt h e1
    have := co_lt h e2
    omega
theorem numK_rise (P : Ev → Bool) (l : List Ev) (k : Nat) : (numK P l k).Pairwise (· < ·) := List.Pairwise.filter _ List.pairwise_lt_range
theorem rf_at {g : Gr} {q : Bool} (h : Wf g q) {i : Nat} {x : Int × Int} (hx : g.rf[i]? = some x) : ∃ a b : Nat, x = (((a : Nat) : Int), ((b : Nat) : Int)) ∧ a < g.evs.length ∧ g.reads[i]? = some b := by
  have h4 : bad4 g = -1 := h 3 (by omega)
  have hi := (List.getElem?_eq_some_iff.1 hx).1
  have hr : fstBad (fun i => !(ok4a g i (g.rf.getD i (0, 0)) && ok4b g (g.rf.getD i (0, 0)))) 0 g.rf.length = -1 := by
    unfold bad4 at h4
    dsimp only at h4
    split at h4
    · assumption
    · exact h4
  have := fst_all hr i (Nat.zero_le _) (by omega)
  rw [List.getD_eq_getElem?_getD, hx, Option.getD_some] at this
  simp [ok4a, isB] at this
  obtain ⟨⟨⟨h5, h6⟩, ⟨h7, h8⟩, _⟩, _⟩ := this
  refine ⟨x.1.toNat, g.reads.getD i 0, ?_, by omega, ?_⟩
  · refine Prod.ext ?_ ?_
    · show x.1 = _; omega
    · show x.2 = _; rw [h6, List.getD_eq_getElem?_getD]
  · rw [List.getD_eq_getElem?_getD, List.getElem?_eq_getElem h5]; rfl
theorem rf_len {g : Gr} {q : Bool} (h : Wf g q) : g.reads.length ≤ g.rf.length := by
  have h4 : bad4 g = -1 := h 3 (by omega)
  unfold bad4 at h4
  dsimp only at h4
  split at h4
  · split at h4
    · omega
    · omega
  · contradiction
def cntRf (g : Gr) (i j : Nat) : Nat := ((List.range j).filter (fun a => memB g.rf a i)).length
theorem cntRf_succ (g : Gr) (i j : Nat) : cntRf g i (j + 1) = cntRf g i j + (if memB g.rf j i then 1 else 0) := by
  unfold cntRf
  rw [List.range_succ, List.filter_append, List.length_append, List.filter_cons, List.filter_nil]
  split <;> simp
theorem cntRf_le (g : Gr) (i j : Nat) : cntRf g i j ≤ j := by
  unfold cntRf
  have := List.length_filter_le (fun a => memB g.rf a i) (List.range j)
  simpa using this
theorem one_len {l : List Nat} (hn : l.Nodup) {a : Nat} (ha : a ∈ l) (h : ∀ b ∈ l, b = a) : l.length = 1 := by
  match l, hn, ha, h with
  | [x], _, _, _ => rfl
  | x :: y :: l, hn, _, h =>
    have h1 := h x (by simp)
    have h2 := h y (by simp)
    rw [List.nodup_cons] at hn
    exact absurd (by rw [h1, h2]; simp) hn.1
theorem cntRf_all {g : Gr} {q : Bool} (h : Wf g q) {i : Nat} (hi : i < g.evs.length) : cntRf g i g.evs.length = (if (g.ev i).k = 1 then 1 else 0) := by
  have hmem : ∀ a, a ∈ (List.range g.evs.length).filter (fun a => memB g.rf a i) ↔ ∃ t : Nat, g.rf[t]? = some (((a : Nat) : Int), ((i : Nat) : Int)) := by
    intro a
    rw [List.mem_filter, List.mem_range, memB, decide_eq_true_iff]
    constructor
    · rintro ⟨_, h1⟩; exact List.getElem?_of_mem h1
    · rintro ⟨t, h1⟩
      obtain ⟨a', b', e, h2, _⟩ := rf_at h h1
      simp only [Prod.mk.injEq] at e
      exact ⟨by omega, List.mem_of_getElem? h1⟩
  have hrd : ∀ {t b : Nat}, g.reads[t]? = some b → (g.ev b).k = 1 ∧ b < g.evs.length := fun {t b} hb => by
    have := List.mem_of_getElem? hb
    unfold Gr.reads numK at this
    rw [List.mem_filter, List.mem_range] at this
    exact ⟨by simpa [Gr.ev] using this.2, this.1⟩
  unfold cntRf
  by_cases hk : (g.ev i).k = 1
  · rw [if_pos hk]
    have hin : i ∈ g.reads := by
      unfold Gr.reads numK
      rw [List.mem_filter, List.mem_range]
      exact ⟨hi, by simpa [Gr.ev] using hk⟩
    obtain ⟨t, ht⟩ := List.getElem?_of_mem hin
    have htl := (List.getElem?_eq_some_iff.1 ht).1
    have hlen := rf_len h
    obtain ⟨x, hx⟩ : ∃ x, g.rf[t]? = some x := ⟨_, List.getElem?_eq_getElem (by omega)⟩
    obtain ⟨a, b, rfl, ha, hb⟩ := rf_at h hx
    rw [ht] at hb
    injection hb with hb
    subst hb
    refine one_len (List.Pairwise.filter _ List.nodup_range) ((hmem a).2 ⟨t, hx⟩) (fun a' ha' => ?_)
    obtain ⟨t', hx'⟩ := (hmem a').1 ha'
    obtain ⟨a2, b2, e, _, hb2⟩ := rf_at h hx'
    simp only [Prod.mk.injEq] at e
    obtain rfl : b2 = i := by omega
    have hri : g.reads.Pairwise (· < ·) := numK_rise _ _ _
    have : t' = t := by
      have h1 := (List.getElem?_eq_some_iff.1 hb2).1
      rw [List.pairwise_iff_getElem] at hri
      have e1 := (List.getElem?_eq_some_iff.1 ht).2
      have e2 := (List.getElem?_eq_some_iff.1 hb2).2
      rcases Nat.lt_trichotomy t' t with hlt | e | hlt
      · have := hri t' t h1 htl hlt; omega
      · exact e
      · have := hri t t' htl h1 hlt; omega
    subst this
    rw [hx] at hx'
    injection hx' with hx'
    simp only [Prod.mk.injEq] at hx'
    omega
  · rw [if_neg hk]
    rw [List.length_eq_zero_iff, List.eq_nil_iff_forall_not_mem]
    intro a ha
    obtain ⟨t, hx⟩ := (hmem a).1 ha
    obtain ⟨a2, b2, e, _, hb2⟩ := rf_at h hx
    simp only [Prod.mk.injEq] at e
    obtain rfl : b2 = i := by omega
    exact hk (hrd hb2).1
theorem may_both {k m : Int} (h : 1 ≤ k) (h3 : k ≤ 3) (h1 : mayB k m false = true) (h2 : mayB k m true = true) : False := by
  have key : ∀ j : Nat, ((38 : Nat).testBit j && (71680 : Nat).testBit j) = false ∧ ((42 : Nat).testBit j && (10240 : Nat).testBit j) = false ∧ ((60 : Nat).testBit j && (49152 : Nat).testBit j) = false := by
    intro j
    rw [← Nat.testBit_and, ← Nat.testBit_and, ← Nat.testBit_and]
    simp
  have hk := key m.toNat
  unfold mayB formN at h1 h2
  obtain rfl | rfl | rfl : k = 1 ∨ k = 2 ∨ k = 3 := by omega
  · simp at h1 h2
    have := hk.1
    rw [h1.2, h2.2] at this
    cases this
  · simp at h1 h2
    have := hk.2.1
    rw [h1.2, h2.2] at this
    cases this
  · simp at h1 h2
    have := hk.2.2
    rw [h1.2, h2.2] at this
    cases this
theorem both_wf {g : Gr} (h1 : Wf g false) (h2 : Wf g true) : ((g.evs.length : Nat) : Int) ≤ g.cells := by
  have hb := rl0 (h1 0 (by omega))
  simp [bad1] at hb
  refine Int.not_lt.1 fun hlt => ?_
  obtain ⟨c, hc⟩ : ∃ c : Nat, g.cells = ((c : Nat) : Int) := ⟨g.cells.toNat, by omega⟩
  have e1 := ok3_ev (h1 2 (by omega)) (i := c) (by omega) (by omega)
  have e2 := ok3_ev (h2 2 (by omega)) (i := c) (by omega) (by omega)
  simp [okEv] at e1 e2
  exact may_both e1.1.1.1.2 e1.1.1.2 e1.2 e2.2
theorem size_zero {n : Nat} {A B : List Nat} (ha : WF n A) (hb : WF n B) (h : ∀ p q, hs A p q → hs B p q) : (sizeL (minusL A B) == 0) = true := by
  have hz : minusL A B = List.replicate n 0 := by
    refine (wf_minus ha hb).ext ⟨by simp, fun p q h => absurd h (hs_zero n p q)⟩ (fun p q => ?_)
    rw [hs_minus ha hb]
    exact ⟨fun h1 => absurd (h p q h1.1) h1.2, fun h1 => absurd h1 (hs_zero n p q)⟩
  rw [hz, beq_iff_eq]
  have key : ∀ k, sizeK (List.replicate n 0) k = 0 := by
    intro k
    induction k with
    | zero => rfl
    | succ k ih =>
      rw [sizeK_succ, ih]
      have : gr (List.replicate n 0) k = 0 := by
        unfold gr
        by_cases hk : k < n
        · simp [List.getD_eq_getElem?_getD, hk]
        · simp [List.getD_eq_getElem?_getD, hk]
      rw [this]
      rfl
  exact key _
end Go.Proofs.YthiijcappjaagaaGreatDoor
namespace Go.Proofs.YthiijcappjaagaaGreatDoor
open Go.RowKit Go.Shelf Sx
theorem Within_true (ba ca bb cb : Nat) (A B : List Nat) (w : World) (ha : IsRel w ba ca A) (hb : IsRel w bb cb B) (he : (sizeL (minusL A B) == 0) = true) :
    Calls Tryz.prog 31 #[pv ba, pv bb] w fun e w' => e = .returned (.bool true) ∧ Below w.heap.size w w' := by
  have hn : sizeL (minusL A B) = 0 := by simpa using he
  clear he
  have HN := hid_of hn
  clear hn
  go_enter Tryz.func31, Tryz.ntmps31
  go_wp2_with fail
  refine (Minus_calls ba ca bb cb A B _ ha hb).mono ?_
  rintro e w1 ⟨b, c, rfl, hM⟩
  go_wp2_with fail
  refine (Size_calls b c (minusL A B) _ hM.rel).mono ?_
  rw [HN.out]
  rintro e w2 ⟨rfl, hB2⟩
  go_wp2_with fail
  go_ret
  exact ⟨rfl, below_step hM.below hM.below.size hB2⟩
theorem Acyclic_true (b c : Nat) (L : List Nat) (w : World) (h : IsRel w b c L) (he : (loopsL (plusL L) == 0) = true) :
    Calls Tryz.prog 27 #[pv b] w fun e w' => e = .returned (.bool true) ∧ Below w.heap.size w w' :=
  (Acyclic_calls b c L w h).mono fun e w' h => by rw [he] at h; exact h
theorem Equal_true (ba ca bb cb : Nat) (A B : List Nat) (w : World) (ha : IsRel w ba ca A) (hb : IsRel w bb cb B) (he : A = B) :
    Calls Tryz.prog 28 #[pv ba, pv bb] w fun e w' => e = .returned (.bool true) ∧ Below w.heap.size w w' :=
  (Equal_calls ba ca bb cb A B w ha hb).mono fun e w' h => by rw [he, BEq.rfl] at h; exact h
theorem has_tw {n : Nat} {F : Nat → Nat → Bool} {L : List Nat} {b c p q : Nat} {w : World} (ht : TwR n F L) (hr : IsRel w b c L) (hp : p < n) (hq : q < n) :
    Calls Tryz.prog 17 #[pv b, .int .i64 ((p : Nat) : Int), .int .i64 ((q : Nat) : Int)] w fun e w' => e = .returned (.bool (F p q)) ∧ Below w.heap.size w w' := by
  have e : hasP L ((p : Nat) : Int) ((q : Nat) : Int) = F p q := by
    unfold hasP inR
    rw [ht.same p q hp hq]
    simp [ht.len, hp, hq]
  rw [← e]
  exact Has_calls b c L _ _ w hr
theorem knd_at {g : Gr} {i : Nat} {x : Int} (hi : i < g.evs.length) : (kndL g x).getD i false = ((g.ev i).k == x) := by
  unfold kndL truL
  rw [List.getD_eq_getElem?_getD, List.getElem?_map, Gr.ev_at hi]
  rfl
theorem fr_eq {g : Gr} {A B C : List Nat} {w : World} {b1 c1 b2 c2 bf cf : Nat} (hn : g.evs.length ≤ 256) (ha : TwR g.evs.length (memB g.rf) A) (hb : TwR g.evs.length (coB g) B) (hc : TwR g.evs.length (frB g) C) (h1 : IsRel w b1 c1 A) (h2 : IsRel w b2 c2 B) (h3 : IsRel w bf cf C) : C = compL (invL A) B := by
  have ta := twr_twin ha h1
  have tb := twr_twin hb h2
  have hf := fr_twr hn ta tb
  have w1 : WF g.evs.length C := h3.wf hc.len
  have w2 := wf_comp hn (wf_inv hn ta.wf) tb.wf
  refine w1.ext w2 (fun p q => ?_)
  constructor
  · intro h
    have hp := hs_left h
    rw [hc.len] at hp
    have hq := w1.low _ _ h
    have := hf.same p q hp hq
    unfold hs at h ⊢
    rw [← this, hc.same p q hp hq]
    exact h
  · intro h
    have hp := hs_left h
    rw [hf.len] at hp
    have hq := w2.low _ _ h
    have := hf.same p q hp hq
    unfold hs at h ⊢
    rw [← hc.same p q hp hq, this]
    exact h
theorem rmw_within {g : Gr} {q : Bool} (h : Wf g q) {A B : List Nat} {w : World} {b1 c1 b2 c2 : Nat} (ha : TwR g.evs.length (memB g.rmw) A) (hb : TwR g.evs.length (poB g.evs) B) (h1 : IsRel w b1 c1 A) (h2 : IsRel w b2 c2 B) : (sizeL (minusL A B) == 0) = true := by
  have w1 : WF g.evs.length A := h1.wf ha.len
  have w2 : WF g.evs.length B := h2.wf hb.len
  refine size_zero w1 w2 (fun p q h3 => ?_)
  have hp := hs_left h3
  rw [ha.len] at hp
  have hq := w1.low _ _ h3
  unfold hs at h3 ⊢
  rw [← hb.same p q hp hq]
  exact rmw_po h (by rw [ha.same p q hp hq]; exact h3)
set_option linter.unusedSimpArgs false in
set_option linter.unusedVariables false in
set_option maxRecDepth 100000 in
set_option maxHeartbeats 16000000 in
theorem GraphLaws_calls (V : GrV) (g : Gr) (w : World) (h : GrR w V g) (hF : Frm w) (hT : Tab w) : Calls Tryz.prog 6 #[V.val g] w fun r w' => r = .returned (.bool true) ∧ Below w.heap.size w w' := by
  obtain ⟨pe, ce, ee, hp, hlen, _⟩ := h.ev
  have hg0 := Blk.new w 26 (V.gs g)
  have hB0 : Below w.heap.size w (w.alloc (.cells (V.gs g) 26)) := (Below.refl _ _).alloc (Nat.le_refl _) _
  have e1 : w.alloc (.cells (V.gs g) 26) = w.alloc (.cells #[.int .i64 g.cells, V.ev, V.rf, V.co, V.rmw, V.addr, V.dat, V.ctrl] 26) := rfl
  rw [e1] at hB0 hg0
  have HV := hid_of h
  have HF := hid_of hF
  have HT := hid_of hT
  have HP := hid_of hp
  have EE := hid_of ee
  have HB0 := hid_of hB0
  have HG0 := hid_of hg0
  unfold GrV.val
  clear h hF hT hp ee hB0 hg0 e1
  go_enter Tryz.func6, Tryz.ntmps6
  go_upto_region 1 with fail
  generalize w.alloc (.cells #[.int .i64 g.cells, V.ev, V.rf, V.co, V.rmw, V.addr, V.dat, V.ctrl] 26) = W0 at *
  have D1 := hid_of (gCheck_calls V g false W0 (HV.out.below HB0.out) (HF.out.step HB0.out))
  obtain ⟨x1, hx1⟩ : ∃ x, (chk g false).1 = x := ⟨_, rfl⟩
  obtain ⟨y1, hy1⟩ : ∃ x, (chk g false).2 = x := ⟨_, rfl⟩
  rw [hx1, hy1] at D1
  have HX1 := hid_of hx1
  clear hx1 hy1
  go_wp2_with (first | refine wpList_load_row rfl 26 _ rfl w.heap.size rfl 26 (V.gs g) (0, 0) _ HG0.out Tryz.underlying26 rfl (by kernel_rfl) ?_)
  refine D1.out.mono ?_
  rintro e w1 ⟨rfl, hB1⟩
  have HB1 : Hid (Below w.heap.size w w1) := below_step HB0.out HB0.out.size hB1
  have HG1 := hid_of (HG0.out.of_below hB1)
  clear hB1 D1 HG0
  have D2 := hid_of (gCheck_calls V g true w1 (HV.out.below HB1.out) (HF.out.step HB1.out))
  obtain ⟨x2, hx2⟩ : ∃ x, (chk g true).1 = x := ⟨_, rfl⟩
  obtain ⟨y2, hy2⟩ : ∃ x, (chk g true).2 = x := ⟨_, rfl⟩
  rw [hx2, hy2] at D2
  have HX2 := hid_of hx2
  clear hx2 hy2
  go_wp2_with (first | refine wpList_load_row rfl 26 _ rfl w.heap.size rfl 26 (V.gs g) (0, 0) _ HG1.out Tryz.underlying26 rfl (by kernel_rfl) ?_)
  refine D2.out.mono ?_
  rintro e w2 ⟨rfl, hB2⟩
  have HB2 : Hid (Below w.heap.size w w2) := below_step HB1.out HB1.out.size hB2
  have HG2 := hid_of (HG1.out.of_below hB2)
  clear hB2 D2 HG1
  have D3 := hid_of (gDerive_calls V g w2 (HV.out.below HB2.out) (HF.out.step HB2.out) (HT.out.step' HB2.out))
  go_wp2_with (first | refine wpList_load_row rfl 26 _ rfl w.heap.size rfl 26 (V.gs g) (0, 0) _ HG2.out Tryz.underlying26 rfl (by kernel_rfl) ?_)
  refine D3.out.mono ?_
  rintro e w3 hR3
  clear D3
  have hwf : wfB g = (decide ((chk g false).1 = 0) || decide ((chk g true).1 = 0)) := rfl
  rw [HX1.out, HX2.out] at hwf
  cases hq : wfB g
  · obtain ⟨h1, _⟩ | ⟨_, rfl, hB3⟩ := hR3
    · rw [hq] at h1; cases h1
    rw [hq] at hwf
    obtain ⟨n1, n2⟩ : ¬ x1 = 0 ∧ ¬ x2 = 0 := by simpa using hwf.symm
    have q1 : (x1 != 0) = true := by simpa using n1
    have q2 : (x2 != 0) = true := by simpa using n2
    have HB3 : Hid (Below w.heap.size w w3) := below_step HB2.out HB2.out.size hB3
    have hz := Blk.new w3 36 nilF
    clear hwf n1 n2 hq
    have hB4 : Below w3.heap.size w3 ((w3.alloc (.cells nilF 36)).setRow w3.heap.size nilF) := ((Below.refl w3.heap.size w3).alloc (Nat.le_refl _) _).trans (below_row _ (Nat.le_refl _))
    have HB4 : Hid (Below w.heap.size w ((w3.alloc (.cells nilF 36)).setRow w3.heap.size nilF)) := below_step HB3.out HB3.out.size hB4
    go_upto_region 4 with (first | refine wpList_store_row rfl 36 _ _ rfl w3.heap.size nilF rfl rfl 36 nilF hz (by kernel_rfl) rfl (by kernel_rfl) ?_)
    generalize (w3.alloc (.cells nilF 36)).setRow w3.heap.size nilF = W4 at *
    clear hz hB4 hB3
    have D5 := hid_of (lives_calls W4 (HF.out.step HB4.out) (HT.out.step HB4.out))
    go_wp2_with fail
    refine D5.out.mono ?_
    rintro e w5 ⟨rfl, hB5⟩
    have HB5 : Hid (Below w.heap.size w w5) := below_step HB4.out HB4.out.size hB5
    go_wp2_with fail
    go_ret
    exact ⟨rfl, HB5.out⟩
  · obtain ⟨_, v, f, lo, rfl, hD, hB3⟩ | ⟨h1, _⟩ := hR3
    rotate_left
    · rw [hq] at h1; cases h1
    rw [hq] at hwf
    have hw12 : x1 = 0 ∨ x2 = 0 := by simpa using hwf.symm
    have HL : Hid (x1 = 0 → x2 = 0 → ((g.evs.length : Nat) : Int) ≤ g.cells) := fun h1 h2 => both_wf (chk_zero (by rw [HX1.out]; exact h1)) (chk_zero (by rw [HX2.out]; exact h2))
    obtain ⟨qw, hqw⟩ := wf_some hq
    have HQW : Hid (Wf g qw) := hqw
    have hn256 := wf_len hq
    clear hwf hqw hq HX1 HX2
    have HB3 : Hid (Below w.heap.size w w3) := below_step HB2.out HB2.out.size hB3
    have HD := hid_of hD
    have HG3 := hid_of (HG2.out.of_below hB3)
    have hz := Blk.new w3 36 nilF
    have hall := outV_all HD.out.res f HD.out.fr.one
    have hB4 : Below w3.heap.size w3 ((w3.alloc (.cells nilF 36)).setRow w3.heap.size (outV v f)) := ((Below.refl w3.heap.size w3).alloc (Nat.le_refl _) _).trans (below_row _ (Nat.le_refl _))
    have HB4 : Hid (Below w.heap.size w ((w3.alloc (.cells nilF 36)).setRow w3.heap.size (outV v f))) := below_step HB3.out HB3.out.size hB4
    have HFB := hid_of (hz.setRow' (outV v f))
    have HG4 := hid_of (HG3.out.of_below hB4)
    go_upto_region 4 with (first | refine wpList_store_row rfl 36 _ _ rfl w3.heap.size (outV v f) rfl rfl 36 nilF hz (by kernel_rfl) rfl hall ?_)
    obtain ⟨b0, c0, L0, e0, hr0, ht0, _⟩ := ((HD.out.res 0 (by omega)).rel (by omega)).below hB4
    obtain ⟨b1, c1, L1, e1, hr1, ht1, _⟩ := ((HD.out.res 1 (by omega)).rel (by omega)).below hB4
    obtain ⟨b2, c2, L2, e2, hr2, ht2, _⟩ := ((HD.out.res 2 (by omega)).rel (by omega)).below hB4
    obtain ⟨b3, c3, L3, e3, hr3, ht3, _⟩ := ((HD.out.res 3 (by omega)).rel (by omega)).below hB4
    obtain ⟨b5, c5, L5, e5, hr5, ht5, _⟩ := ((HD.out.res 5 (by omega)).rel (by omega)).below hB4
    obtain ⟨b4, c4, L4, e4, hr4, ht4, _⟩ := HD.out.fr.below hB4
    obtain ⟨br, er, hbr, _⟩ := ((HD.out.res 9 (by omega)).tru (by omega)).below hB4
    obtain ⟨bw, ew, hbw, _⟩ := ((HD.out.res 10 (by omega)).tru (by omega)).below hB4
    rw [kndL_length] at er ew
    generalize (w3.alloc (.cells nilF 36)).setRow w3.heap.size (outV v f) = W4 at *
    generalize w3.heap.size = fb at *
    have hvf : outV v f = #[pv b0, pv b1, pv b2, pv b4, pv b3, v 4, pv b5, v 6, v 7, v 8, .slice (some ⟨br, 0, none⟩) g.evs.length g.evs.length, .slice (some ⟨bw, 0, none⟩) g.evs.length g.evs.length, v 11] := by unfold outV; rw [e0, e1, e2, e3, e4, e5, er, ew]
    rw [hvf] at HFB
    have HR0 : Hid (∀ W, Below W4.heap.size W4 W → IsRel W b0 c0 L0) := fun W hW => hr0.below hW
    have HT0 : Hid (TwR g.evs.length (poB g.evs) L0) := ht0
    have HR1 : Hid (∀ W, Below W4.heap.size W4 W → IsRel W b1 c1 L1) := fun W hW => hr1.below hW
    have HT1 : Hid (TwR g.evs.length (memB g.rf) L1) := ht1
    have HR2 : Hid (∀ W, Below W4.heap.size W4 W → IsRel W b2 c2 L2) := fun W hW => hr2.below hW
    have HT2 : Hid (TwR g.evs.length (coB g) L2) := ht2
    have HR3 : Hid (∀ W, Below W4.heap.size W4 W → IsRel W b3 c3 L3) := fun W hW => hr3.below hW
    have HT3 : Hid (TwR g.evs.length (memB g.rmw) L3) := ht3
    have HR4 : Hid (∀ W, Below W4.heap.size W4 W → IsRel W b4 c4 L4) := fun W hW => hr4.below hW
    have HT4 : Hid (TwR g.evs.length (frB g) L4) := ht4
    have HR5 : Hid (∀ W, Below W4.heap.size W4 W → IsRel W b5 c5 L5) := fun W hW => hr5.below hW
    have HT5 : Hid (TwR g.evs.length (extB g.evs) L5) := ht5
    have HRD : Hid (∀ W, Below W4.heap.size W4 W → ∀ i, i < g.evs.length → W.cell? ⟨br, i, none⟩ = some (.bool ((g.ev i).k == 1))) := fun W hW i hi => by rw [arrB_at (hbr.of_below hW) (by rw [kndL_length]; exact hi), knd_at hi]; rfl
    have HWD : Hid (∀ W, Below W4.heap.size W4 W → ∀ i, i < g.evs.length → W.cell? ⟨bw, i, none⟩ = some (.bool ((g.ev i).k == 2))) := fun W hW i hi => by rw [arrB_at (hbw.of_below hW) (by rw [kndL_length]; exact hi), knd_at hi]; rfl
    have HZ : Hid (∀ W, Below W4.heap.size W4 W → W.cell? ⟨fb, 0, none⟩ = some (pv b0) ∧ W.cell? ⟨fb, 1, none⟩ = some (pv b1) ∧ W.cell? ⟨fb, 2, none⟩ = some (pv b2) ∧ W.cell? ⟨fb, 3, none⟩ = some (pv b4) ∧ W.cell? ⟨fb, 4, none⟩ = some (pv b3) ∧ W.cell? ⟨fb, 6, none⟩ = some (pv b5) ∧ W.cell? ⟨fb, 10, none⟩ = some (.slice (some ⟨br, 0, none⟩) g.evs.length g.evs.length) ∧ W.cell? ⟨fb, 11, none⟩ = some (.slice (some ⟨bw, 0, none⟩) g.evs.length g.evs.length) ∧ W.cell? ⟨w.heap.size, 0, none⟩ = some (.int .i64 g.cells) ∧ W.cell? ⟨w.heap.size, 1, none⟩ = some (.slice pe g.evs.length ce)) := fun W hW => ⟨(HFB.out.of_below hW).cell rfl, (HFB.out.of_below hW).cell rfl, (HFB.out.of_below hW).cell rfl, (HFB.out.of_below hW).cell rfl, (HFB.out.of_below hW).cell rfl, (HFB.out.of_below hW).cell rfl, (HFB.out.of_below hW).cell rfl, (HFB.out.of_below hW).cell rfl, (HG4.out.of_below hW).cell rfl, (HG4.out.of_below hW).cell (by rw [← EE.out]; rfl)⟩
    have HBX : Hid (∀ W, Below W4.heap.size W4 W → Below w.heap.size w W) := fun W hW => below_step HB4.out HB4.out.size hW
    clear hz hall hB4 hB3 hD HD hvf e0 e1 e2 e3 e4 e5 er ew hr0 hr1 hr2 hr3 hr4 hr5 ht0 ht1 ht2 ht3 ht4 ht5 hbr hbw HG3 HG4 HFB HG2
    go_cut [32] (fun v32 wx => v32 = .bool false ∧ wx = W4)
    case first => as_aux_lemma =>
      by_cases h1 : x1 = 0
      · have q1 : (x1 != 0) = false := by simpa using h1
        clear h1 hw12
        go_wp2_with fail
        go_meet
        case rel => exact ⟨rfl, rfl⟩
      · have q1 : (x1 != 0) = true := by simpa using h1
        have q2 : (x2 != 0) = false := by simp; omega
        clear h1 hw12
        go_wp2_with fail
        go_meet
        case rel => exact ⟨rfl, rfl⟩
    case rest =>
    obtain ⟨rfl, hwc⟩ := hcut
    obtain rfl : W4 = _ := hwc.symm
    obtain ⟨fc0, fc1, fc2, fc3, fc4, fc6, fc10, fc11, fcg0, fcg1⟩ := HZ.out W4 (Below.refl _ _)
    go_upto_region 6 with fail
    go_cut [94] (fun v94 wx => v94 = .bool false ∧ wx = W4)
    case first => as_aux_lemma =>
      by_cases h1 : x1 = 0
      · have q1 : (x1 == 0) = true := by simpa using h1
        by_cases h2 : x2 = 0
        · have q2 : (x2 == 0) = true := by simpa using h2
          have q3 := HL.out h1 h2
          have q4 : decide (((g.evs.length : Nat) : Int) > g.cells) = false := by simp; omega
          clear h1 h2 hw12
          go_wp2_with fail
          go_meet
          case rel => exact ⟨rfl, rfl⟩
        · have q2 : (x2 == 0) = false := by simpa using h2
          clear h1 h2 hw12
          go_wp2_with fail
          go_meet
          case rel => exact ⟨rfl, rfl⟩
      · have q1 : (x1 == 0) = false := by simpa using h1
        clear h1 hw12
        go_wp2_with fail
        go_meet
        case rel => exact ⟨rfl, rfl⟩
    case rest =>
    obtain ⟨rfl, hwc⟩ := hcut
    obtain rfl : W4 = _ := hwc.symm
    go_upto_region 8 with fail
    go_cut [130] (fun v130 wx => v130 = .bool false ∧ Hid (Below W4.heap.size W4 wx))
    case first => as_aux_lemma =>
      have hXd : Below W4.heap.size W4 W4.drew := (Below.refl _ _).drew
      clear fc0 fc1 fc2 fc3 fc4 fc6 fc10 fc11 fcg0 fcg1
      refine wp_region_held_drew (S := fun W => W.cell? ⟨fb, 0, none⟩ = some (pv b0) ∧ W.cell? ⟨fb, 1, none⟩ = some (pv b1) ∧ W.cell? ⟨fb, 2, none⟩ = some (pv b2) ∧ W.cell? ⟨fb, 3, none⟩ = some (pv b4) ∧ W.cell? ⟨fb, 4, none⟩ = some (pv b3)) (by kernel_rfl) (by have hh := HZ.out _ hXd; exact ⟨hh.1, hh.2.1, hh.2.2.1, hh.2.2.2.1, hh.2.2.2.2.1⟩) (fun hHeld => ?_)
      refine tk 0 rfl ?_; simp only [zz]
      refine tk 1 rfl ?_; simp only [zz]
      refine wpAnyH_ready (rs := [2]) (by kernel_rfl) (by simp) ?_
      refine AllReadyH.cons rfl (fun K hK => ?_) AllReadyH.nil
      simp only [z1, z2, z3]
      go_simp
      have D := Acyclic_true b0 c0 L0 _ (HR0.out _ hXd) (acyc_of (fun p => p) HT0.out (HR0.out _ hXd) (fun p q _ _ h => po_lt h))
      refine D.mono ?_
      rintro e a1 ⟨rfl, hBa1⟩
      have hXa1 : Below W4.heap.size W4 a1 := below_step hXd hXd.size hBa1
      clear D
      refine hK.out _ _ (by have hh := HZ.out _ hXa1; exact ⟨hh.1, hh.2.1, hh.2.2.1, hh.2.2.2.1, hh.2.2.2.2.1⟩) (fun hHeld => ?_)
      clear hK K
      try simp only [zz]
      refine tk 3 rfl ?_; simp only [zz]
      refine tk 4 rfl ?_; simp only [zz]
      refine tk 5 rfl ?_; simp only [zz]
      refine tk 6 rfl ?_; simp only [zz]
      refine wpAnyH_ready (rs := [7]) (by kernel_rfl) (by simp) ?_
      refine AllReadyH.cons rfl (fun K hK => ?_) AllReadyH.nil
      simp only [z1, z2, z3]
      go_simp
      have D := Acyclic_true b2 c2 L2 _ (HR2.out _ hXa1) (acyc_of (coRk g) HT2.out (HR2.out _ hXa1) (fun p q _ _ h => co_lt HQW.out h))
      refine D.mono ?_
      rintro e a2 ⟨rfl, hBa2⟩
      have hXa2 : Below W4.heap.size W4 a2 := below_step hXa1 hXa1.size hBa2
      clear D
      refine hK.out _ _ (by have hh := HZ.out _ hXa2; exact ⟨hh.1, hh.2.1, hh.2.2.1, hh.2.2.2.1, hh.2.2.2.2.1⟩) (fun hHeld => ?_)
      clear hK K
      try simp only [zz]
      refine tk 8 rfl ?_; simp only [zz]
      refine tk 9 rfl ?_; simp only [zz]
      refine tk 10 rfl ?_; simp only [zz]
      refine tk 11 rfl ?_; simp only [zz]
      refine tk 12 rfl ?_; simp only [zz]
      refine wpAnyH_ready (rs := [13]) (by kernel_rfl) (by simp) ?_
      refine AllReadyH.cons rfl (fun K hK => ?_) AllReadyH.nil
      simp only [z1, z2, z3]
      go_simp
      have D := Acyclic_true b3 c3 L3 _ (HR3.out _ hXa2) (acyc_of (fun p => p) HT3.out (HR3.out _ hXa2) (fun p q _ _ h => po_lt (rmw_po HQW.out h)))
      refine D.mono ?_
      rintro e a3 ⟨rfl, hBa3⟩
      have hXa3 : Below W4.heap.size W4 a3 := below_step hXa2 hXa2.size hBa3
      clear D
      refine hK.out _ _ (by have hh := HZ.out _ hXa3; exact ⟨hh.1, hh.2.1, hh.2.2.1, hh.2.2.2.1, hh.2.2.2.2.1⟩) (fun hHeld => ?_)
      clear hK K
      try simp only [zz]
      refine tk 14 rfl ?_; simp only [zz]
      refine tk 15 rfl ?_; simp only [zz]
      refine tk 16 rfl ?_; simp only [zz]
      refine tk 17 rfl ?_; simp only [zz]
      refine tk 18 rfl ?_; simp only [zz]
      refine tk 19 rfl ?_; simp only [zz]
      refine tk 20 rfl ?_; simp only [zz]
      refine tk 22 rfl ?_; simp only [zz]
      refine tk 23 rfl ?_; simp only [zz]
      refine wpAnyH_ready (rs := [21]) (by kernel_rfl) (by simp) ?_
      refine AllReadyH.cons rfl (fun K hK => ?_) AllReadyH.nil
      simp only [z1, z2, z3]
      go_simp
      have D := Inverse_calls b1 c1 L1 _ (HR1.out _ hXa3) (HT.out.step' (HBX.out _ hXa3))
      refine D.mono ?_
      rintro e a4 ⟨bi, cbi, rfl, hMa4⟩
      have hXa4 : Below W4.heap.size W4 a4 := below_step hXa3 hXa3.size hMa4.below
      clear D
      refine hK.out _ _ (by have hh := HZ.out _ hXa4; exact ⟨hh.1, hh.2.1, hh.2.2.1, hh.2.2.2.1, hh.2.2.2.2.1⟩) (fun hHeld => ?_)
      clear hK K
      try simp only [zz]
      refine wpAnyH_ready (rs := [24]) (by kernel_rfl) (by simp) ?_
      refine AllReadyH.cons rfl (fun K hK => ?_) AllReadyH.nil
      simp only [z1, z2, z3]
      go_simp
      have D := Comp_calls bi cbi b2 c2 (invL L1) L2 _ hMa4.rel (HR2.out _ hXa4) (HT.out.step' (HBX.out _ hXa4))
      refine D.mono ?_
      rintro e a5 ⟨bc, cbc, rfl, hMa5⟩
      have hXa5 : Below W4.heap.size W4 a5 := below_step hXa4 hXa4.size hMa5.below
      clear D
      refine hK.out _ _ (by have hh := HZ.out _ hXa5; exact ⟨hh.1, hh.2.1, hh.2.2.1, hh.2.2.2.1, hh.2.2.2.2.1⟩) (fun hHeld => ?_)
      clear hK K
      try simp only [zz]
      refine wpAnyH_ready (rs := [25]) (by kernel_rfl) (by simp) ?_
      refine AllReadyH.cons rfl (fun K hK => ?_) AllReadyH.nil
      simp only [z1, z2, z3]
      go_simp
      have D := Equal_true b4 c4 bc cbc L4 (compL (invL L1) L2) _ (HR4.out _ hXa5) hMa5.rel (fr_eq hn256 HT1.out HT2.out HT4.out (HR1.out _ hXa5) (HR2.out _ hXa5) (HR4.out _ hXa5))
      refine D.mono ?_
      rintro e a6 ⟨rfl, hBa6⟩
      have hXa6 : Below W4.heap.size W4 a6 := below_step hXa5 hXa5.size hBa6
      clear D hMa4 hMa5
      refine hK.out _ _ (by have hh := HZ.out _ hXa6; exact ⟨hh.1, hh.2.1, hh.2.2.1, hh.2.2.2.1, hh.2.2.2.2.1⟩) (fun hHeld => ?_)
      clear hK K
      try simp only [zz]
      refine tk 26 rfl ?_; simp only [zz]
      refine tk 27 rfl ?_; simp only [zz]
      refine tk 28 rfl ?_; simp only [zz]
      refine tk 29 rfl ?_; simp only [zz]
      refine tk 30 rfl ?_; simp only [zz]
      refine tk 31 rfl ?_; simp only [zz]
      refine tk 32 rfl ?_; simp only [zz]
      refine wpAnyH_ready (rs := [33]) (by kernel_rfl) (by simp) ?_
      refine AllReadyH.cons rfl (fun K hK => ?_) AllReadyH.nil
      simp only [z1, z2, z3]
      go_simp
      have D := Within_true b3 c3 b0 c0 L3 L0 _ (HR3.out _ hXa6) (HR0.out _ hXa6) (rmw_within HQW.out HT3.out HT0.out (HR3.out _ hXa6) (HR0.out _ hXa6))
      refine D.mono ?_
      rintro e a7 ⟨rfl, hBa7⟩
      have hXa7 : Below W4.heap.size W4 a7 := below_step hXa6 hXa6.size hBa7
      clear D
      refine hK.out _ _ (by have hh := HZ.out _ hXa7; exact ⟨hh.1, hh.2.1, hh.2.2.1, hh.2.2.2.1, hh.2.2.2.2.1⟩) (fun hHeld => ?_)
      clear hK K
      try simp only [zz]
      refine tk 34 rfl ?_; simp only [zz]
      refine tk 35 rfl ?_; simp only [zz]
      refine wpAnyH_done (by kernel_rfl) ?_ _
      go_wp2_with fail
      go_meet
      case rel => exact ⟨rfl, hXa7⟩
    case rest =>
    obtain ⟨rfl, HXA⟩ := hcut
    clear fc0 fc1 fc2 fc3 fc4 fc6 fc10 fc11 fcg0 fcg1
    go_wp2_with fail
    go_loopg [9] g.evs.length (fun f v9 wr => ∃ i : Nat, v9 = .int .i64 ((i : Nat) : Int) ∧ i ≤ g.evs.length ∧ Hid (i + f = g.evs.length) ∧ Hid (Below W4.heap.size W4 wr))
    case atStart => exact ⟨0, rfl, Nat.zero_le _, Nat.zero_add _, HXA.out⟩
    case round =>
      obtain ⟨i, rfl, hi0, HIF, HWA⟩ := hrel
      generalize hwq : wr = wa at *
      clear hwq HXA
      obtain ⟨fc0, fc1, fc2, fc3, fc4, fc6, fc10, fc11, fcg0, fcg1⟩ := HZ.out wa HWA.out
      by_cases hil : i < g.evs.length
      · have I0 : (0 : Int) ≤ ((i : Nat) : Int) := by omega
        have I1 : ((i : Nat) : Int) < ((g.evs.length : Nat) : Int) := by omega
        go_wp2_with fail
        go_loopg [10, 11] g.evs.length (fun f v10 v11 wr => ∃ j : Nat, v11 = .int .i64 ((j : Nat) : Int) ∧ v10 = .int .i64 ((cntRf g i j : Nat) : Int) ∧ j ≤ g.evs.length ∧ Hid (j + f = g.evs.length) ∧ Hid (Below W4.heap.size W4 wr))
        case atStart => exact ⟨0, rfl, rfl, Nat.zero_le _, Nat.zero_add _, HWA.out⟩
        case round =>
          obtain ⟨j, rfl, rfl, hj0, HJF, HWB⟩ := hrel
          generalize hwq : wr = wb at *
          clear hwq fc0 fc1 fc2 fc3 fc4 fc6 fc10 fc11 fcg0 fcg1 HWA
          obtain ⟨fc0, fc1, fc2, fc3, fc4, fc6, fc10, fc11, fcg0, fcg1⟩ := HZ.out wb HWB.out
          by_cases hjl : j < g.evs.length
          · have J0 : (0 : Int) ≤ ((j : Nat) : Int) := by omega
            have J1 : ((j : Nat) : Int) < ((g.evs.length : Nat) : Int) := by omega
            have hcl := cntRf_le g i j
            have D := hid_of (has_tw HT1.out (HR1.out _ HWB.out) hjl hil)
            have HCS := hid_of (cntRf_succ g i j)
            generalize cntRf g i j = cn at *
            obtain ⟨cm, hcm⟩ : ∃ cm, cntRf g i (j + 1) = cm := ⟨_, rfl⟩
            rw [hcm] at HCS
            have HCM := hid_of hcm
            clear hcm
            generalize memB g.rf j i = mq at *
            go_wp2_with fail
            refine D.out.mono ?_
            rintro e w20 ⟨rfl, hB20⟩
            have HX20 : Hid (Below W4.heap.size W4 w20) := below_step HWB.out HWB.out.size hB20
            clear D hB20 fc0 fc1 fc2 fc3 fc4 fc6 fc10 fc11 fcg0 fcg1
            go_upto_if 149 with fail
            go_cut [10] (fun v10 wx => v10 = .int .i64 ((cm : Nat) : Int) ∧ wx = w20)
            case first => as_aux_lemma =>
              cases mq
              · obtain rfl : cm = cn := HCS.out
                go_wp2_with fail
                go_meet
                case rel => exact ⟨rfl, rfl⟩
              · obtain rfl : cm = cn + 1 := HCS.out
                go_wp2_with fail
                go_meet
                case rel => exact ⟨by go_num, rfl⟩
            case rest =>
            obtain ⟨rfl, hwc⟩ := hcut
            obtain rfl : w20 = _ := hwc.symm
            clear HCS hcl
            obtain ⟨s, o, rfl, hat⟩ := HP.out (by omega)
            have HLI : Hid (∀ W, Below W4.heap.size W4 W → ∀ t, t < g.evs.length → W.cell? ⟨s, o + t * 5 + 2, none⟩ = some (.int .i64 (g.ev t).l)) := fun W hW t ht => (hat.below (HBX.out W hW)).c2 t _ (Gr.ev_at ht)
            clear hat
            have HCT := hid_of (fun h1 h2 h3 h4 => co_total HQW.out hil hjl h1 h2 h3 h4)
            have HWI : Hid (∀ W, Below W4.heap.size W4 W → W.cell? ⟨bw, i, none⟩ = some (.bool ((g.ev i).k == 2)) ∧ W.cell? ⟨bw, j, none⟩ = some (.bool ((g.ev j).k == 2)) ∧ W.cell? ⟨s, o + i * 5 + 2, none⟩ = some (.int .i64 (g.ev i).l) ∧ W.cell? ⟨s, o + j * 5 + 2, none⟩ = some (.int .i64 (g.ev j).l)) := fun W hW => ⟨HWD.out W hW i hil, HWD.out W hW j hjl, HLI.out W hW i hil, HLI.out W hW j hjl⟩
            have DC1 : Hid (∀ W, Below W4.heap.size W4 W → _) := fun W hW => has_tw HT2.out (HR2.out W hW) hil hjl
            have DC2 : Hid (∀ W, Below W4.heap.size W4 W → _) := fun W hW => has_tw HT2.out (HR2.out W hW) hjl hil
            have HC2 : Hid (((g.ev i).k == 2) = true → ((g.ev j).k == 2) = true → (g.ev i).l = (g.ev j).l → i ≠ j → (coB g i j == coB g j i) = false) := fun h1 h2 h3 h4 => by have := HCT.out (by simpa using h1) (by simpa using h2) h3 h4; simpa using this
            clear HCT HLI
            generalize ((g.ev i).k == 2) = wi at *
            generalize ((g.ev j).k == 2) = wj at *
            generalize (g.ev i).l = li at *
            generalize (g.ev j).l = lj at *
            generalize coB g i j = c1q at *
            generalize coB g j i = c2q at *
            go_upto_region 19 with fail
            go_cut [196] (fun v196 wx => v196 = .bool false ∧ Hid (Below W4.heap.size W4 wx))
            case first => as_aux_lemma =>
              have HX20d : Below W4.heap.size W4 w20.drew := HX20.out.drew
              cases wi
              · skip
                refine wp_region_held_drew (S := fun W => W.cell? ⟨fb, 11, none⟩ = some (.slice (some ⟨bw, 0, none⟩) g.evs.length g.evs.length) ∧ W.cell? ⟨fb, 2, none⟩ = some (pv b2) ∧ W.cell? ⟨w.heap.size, 1, none⟩ = some (.slice (some ⟨s, o, none⟩) g.evs.length ce) ∧ W.cell? ⟨bw, i, none⟩ = some (.bool false) ∧ W.cell? ⟨bw, j, none⟩ = some (.bool wj) ∧ W.cell? ⟨s, o + i * 5 + 2, none⟩ = some (.int .i64 li) ∧ W.cell? ⟨s, o + j * 5 + 2, none⟩ = some (.int .i64 lj)) (by kernel_rfl) (by have hh := HZ.out _ HX20d; have hk := HWI.out _ HX20d; exact ⟨hh.2.2.2.2.2.2.2.1, hh.2.2.1, hh.2.2.2.2.2.2.2.2.2, hk.1, hk.2.1, hk.2.2.1, hk.2.2.2⟩) (fun hHeld => ?_)
                refine tk 0 rfl ?_; simp only [zz]
                refine tk 1 rfl ?_; simp only [zz]
                refine tk 2 rfl ?_; simp only [zz]
                refine tk 3 rfl ?_; simp only [zz]
                refine tk 4 rfl ?_; simp only [zz]
                refine tk 5 rfl ?_; simp only [zz]
                refine tu 6 rfl ?_; simp only [zz]
                refine tu 7 rfl ?_; simp only [zz]
                refine tu 8 rfl ?_; simp only [zz]
                refine tu 9 rfl ?_; simp only [zz]
                refine tu 10 rfl ?_; simp only [zz]
                refine tk 11 rfl ?_; simp only [zz]
                refine tk 12 rfl ?_; simp only [zz]
                refine tu 13 rfl ?_; simp only [zz]
                refine tu 14 rfl ?_; simp only [zz]
                refine tu 15 rfl ?_; simp only [zz]
                refine tk 16 rfl ?_; simp only [zz]
                refine tk 17 rfl ?_; simp only [zz]
                refine tu 18 rfl ?_; simp only [zz]
                refine tu 19 rfl ?_; simp only [zz]
                refine tu 20 rfl ?_; simp only [zz]
                refine tu 21 rfl ?_; simp only [zz]
                refine tu 22 rfl ?_; simp only [zz]
                refine tu 23 rfl ?_; simp only [zz]
                refine tu 24 rfl ?_; simp only [zz]
                refine tu 25 rfl ?_; simp only [zz]
                refine tu 26 rfl ?_; simp only [zz]
                refine tu 27 rfl ?_; simp only [zz]
                refine tu 28 rfl ?_; simp only [zz]
                refine tu 29 rfl ?_; simp only [zz]
                refine tu 30 rfl ?_; simp only [zz]
                refine tk 31 rfl ?_; simp only [zz]
                refine tk 32 rfl ?_; simp only [zz]
                refine tu 33 rfl ?_; simp only [zz]
                refine tu 34 rfl ?_; simp only [zz]
                refine tu 35 rfl ?_; simp only [zz]
                refine tu 36 rfl ?_; simp only [zz]
                refine tu 37 rfl ?_; simp only [zz]
                refine tu 38 rfl ?_; simp only [zz]
                refine tu 39 rfl ?_; simp only [zz]
                refine tu 40 rfl ?_; simp only [zz]
                refine tu 41 rfl ?_; simp only [zz]
                refine tu 42 rfl ?_; simp only [zz]
                refine tu 43 rfl ?_; simp only [zz]
                refine tk 44 rfl ?_; simp only [zz]
                refine wpAnyH_done (by kernel_rfl) ?_ _
                go_wp2_with fail
                go_meet
                case rel => exact ⟨rfl, HX20d⟩
              · cases wj
                · skip
                  refine wp_region_held_drew (S := fun W => W.cell? ⟨fb, 11, none⟩ = some (.slice (some ⟨bw, 0, none⟩) g.evs.length g.evs.length) ∧ W.cell? ⟨fb, 2, none⟩ = some (pv b2) ∧ W.cell? ⟨w.heap.size, 1, none⟩ = some (.slice (some ⟨s, o, none⟩) g.evs.length ce) ∧ W.cell? ⟨bw, i, none⟩ = some (.bool true) ∧ W.cell? ⟨bw, j, none⟩ = some (.bool false) ∧ W.cell? ⟨s, o + i * 5 + 2, none⟩ = some (.int .i64 li) ∧ W.cell? ⟨s, o + j * 5 + 2, none⟩ = some (.int .i64 lj)) (by kernel_rfl) (by have hh := HZ.out _ HX20d; have hk := HWI.out _ HX20d; exact ⟨hh.2.2.2.2.2.2.2.1, hh.2.2.1, hh.2.2.2.2.2.2.2.2.2, hk.1, hk.2.1, hk.2.2.1, hk.2.2.2⟩) (fun hHeld => ?_)
                  refine tk 0 rfl ?_; simp only [zz]
                  refine tk 1 rfl ?_; simp only [zz]
                  refine tk 2 rfl ?_; simp only [zz]
                  refine tk 3 rfl ?_; simp only [zz]
                  refine tk 4 rfl ?_; simp only [zz]
                  refine tk 5 rfl ?_; simp only [zz]
                  refine tk 6 rfl ?_; simp only [zz]
                  refine tk 7 rfl ?_; simp only [zz]
                  refine tk 8 rfl ?_; simp only [zz]
                  refine tk 9 rfl ?_; simp only [zz]
                  refine tk 10 rfl ?_; simp only [zz]
                  refine tk 11 rfl ?_; simp only [zz]
                  refine tk 12 rfl ?_; simp only [zz]
                  refine tu 13 rfl ?_; simp only [zz]
                  refine tu 14 rfl ?_; simp only [zz]
                  refine tu 15 rfl ?_; simp only [zz]
                  refine tk 16 rfl ?_; simp only [zz]
                  refine tk 17 rfl ?_; simp only [zz]
                  refine tu 18 rfl ?_; simp only [zz]
                  refine tu 19 rfl ?_; simp only [zz]
                  refine tu 20 rfl ?_; simp only [zz]
                  refine tu 21 rfl ?_; simp only [zz]
                  refine tu 22 rfl ?_; simp only [zz]
                  refine tu 23 rfl ?_; simp only [zz]
                  refine tu 24 rfl ?_; simp only [zz]
                  refine tu 25 rfl ?_; simp only [zz]
                  refine tu 26 rfl ?_; simp only [zz]
                  refine tu 27 rfl ?_; simp only [zz]
                  refine tu 28 rfl ?_; simp only [zz]
                  refine tu 29 rfl ?_; simp only [zz]
                  refine tu 30 rfl ?_; simp only [zz]
                  refine tk 31 rfl ?_; simp only [zz]
                  refine tk 32 rfl ?_; simp only [zz]
                  refine tu 33 rfl ?_; simp only [zz]
                  refine tu 34 rfl ?_; simp only [zz]
                  refine tu 35 rfl ?_; simp only [zz]
                  refine tu 36 rfl ?_; simp only [zz]
                  refine tu 37 rfl ?_; simp only [zz]
                  refine tu 38 rfl ?_; simp only [zz]
                  refine tu 39 rfl ?_; simp only [zz]
                  refine tu 40 rfl ?_; simp only [zz]
                  refine tu 41 rfl ?_; simp only [zz]
                  refine tu 42 rfl ?_; simp only [zz]
                  refine tu 43 rfl ?_; simp only [zz]
                  refine tk 44 rfl ?_; simp only [zz]
                  refine wpAnyH_done (by kernel_rfl) ?_ _
                  go_wp2_with fail
                  go_meet
                  case rel => exact ⟨rfl, HX20d⟩
                · by_cases hij : i = j
                  · have qij : (((i : Nat) : Int) != ((j : Nat) : Int)) = false := by simp [hij]
                    clear hij HC2
                    refine wp_region_held_drew (S := fun W => W.cell? ⟨fb, 11, none⟩ = some (.slice (some ⟨bw, 0, none⟩) g.evs.length g.evs.length) ∧ W.cell? ⟨fb, 2, none⟩ = some (pv b2) ∧ W.cell? ⟨w.heap.size, 1, none⟩ = some (.slice (some ⟨s, o, none⟩) g.evs.length ce) ∧ W.cell? ⟨bw, i, none⟩ = some (.bool true) ∧ W.cell? ⟨bw, j, none⟩ = some (.bool true) ∧ W.cell? ⟨s, o + i * 5 + 2, none⟩ = some (.int .i64 li) ∧ W.cell? ⟨s, o + j * 5 + 2, none⟩ = some (.int .i64 lj)) (by kernel_rfl) (by have hh := HZ.out _ HX20d; have hk := HWI.out _ HX20d; exact ⟨hh.2.2.2.2.2.2.2.1, hh.2.2.1, hh.2.2.2.2.2.2.2.2.2, hk.1, hk.2.1, hk.2.2.1, hk.2.2.2⟩) (fun hHeld => ?_)
                    refine tk 0 rfl ?_; simp only [zz]
                    refine tk 1 rfl ?_; simp only [zz]
                    refine tk 2 rfl ?_; simp only [zz]
                    refine tk 3 rfl ?_; simp only [zz]
                    refine tk 4 rfl ?_; simp only [zz]
                    refine tk 5 rfl ?_; simp only [zz]
                    refine tk 6 rfl ?_; simp only [zz]
                    refine tk 7 rfl ?_; simp only [zz]
                    refine tk 8 rfl ?_; simp only [zz]
                    refine tk 9 rfl ?_; simp only [zz]
                    refine tk 10 rfl ?_; simp only [zz]
                    refine tk 11 rfl ?_; simp only [zz]
                    refine tk 12 rfl ?_; simp only [zz]
                    refine tk 13 rfl ?_; simp only [zz]
                    refine tk 14 rfl ?_; simp only [zz]
                    refine tk 15 rfl ?_; simp only [zz]
                    refine tk 16 rfl ?_; simp only [zz]
                    refine tk 17 rfl ?_; simp only [zz]
                    refine tu 18 rfl ?_; simp only [zz]
                    refine tu 19 rfl ?_; simp only [zz]
                    refine tu 20 rfl ?_; simp only [zz]
                    refine tu 21 rfl ?_; simp only [zz]
                    refine tu 22 rfl ?_; simp only [zz]
                    refine tu 23 rfl ?_; simp only [zz]
                    refine tu 24 rfl ?_; simp only [zz]
                    refine tu 25 rfl ?_; simp only [zz]
                    refine tu 26 rfl ?_; simp only [zz]
                    refine tu 27 rfl ?_; simp only [zz]
                    refine tu 28 rfl ?_; simp only [zz]
                    refine tu 29 rfl ?_; simp only [zz]
                    refine tu 30 rfl ?_; simp only [zz]
                    refine tk 31 rfl ?_; simp only [zz]
                    refine tk 32 rfl ?_; simp only [zz]
                    refine tu 33 rfl ?_; simp only [zz]
                    refine tu 34 rfl ?_; simp only [zz]
                    refine tu 35 rfl ?_; simp only [zz]
                    refine tu 36 rfl ?_; simp only [zz]
                    refine tu 37 rfl ?_; simp only [zz]
                    refine tu 38 rfl ?_; simp only [zz]
                    refine tu 39 rfl ?_; simp only [zz]
                    refine tu 40 rfl ?_; simp only [zz]
                    refine tu 41 rfl ?_; simp only [zz]
                    refine tu 42 rfl ?_; simp only [zz]
                    refine tu 43 rfl ?_; simp only [zz]
                    refine tk 44 rfl ?_; simp only [zz]
                    refine wpAnyH_done (by kernel_rfl) ?_ _
                    go_wp2_with fail
                    go_meet
                    case rel => exact ⟨rfl, HX20d⟩
                  · have qij : (((i : Nat) : Int) != ((j : Nat) : Int)) = true := by simp; omega
                    by_cases hll : li = lj
                    · have ql : (li == lj) = true := by simpa using hll
                      have qc := HC2.out rfl rfl hll hij
                      clear hll hij HC2
                      refine wp_region_held_drew (S := fun W => W.cell? ⟨fb, 11, none⟩ = some (.slice (some ⟨bw, 0, none⟩) g.evs.length g.evs.length) ∧ W.cell? ⟨fb, 2, none⟩ = some (pv b2) ∧ W.cell? ⟨w.heap.size, 1, none⟩ = some (.slice (some ⟨s, o, none⟩) g.evs.length ce) ∧ W.cell? ⟨bw, i, none⟩ = some (.bool true) ∧ W.cell? ⟨bw, j, none⟩ = some (.bool true) ∧ W.cell? ⟨s, o + i * 5 + 2, none⟩ = some (.int .i64 li) ∧ W.cell? ⟨s, o + j * 5 + 2, none⟩ = some (.int .i64 lj)) (by kernel_rfl) (by have hh := HZ.out _ HX20d; have hk := HWI.out _ HX20d; exact ⟨hh.2.2.2.2.2.2.2.1, hh.2.2.1, hh.2.2.2.2.2.2.2.2.2, hk.1, hk.2.1, hk.2.2.1, hk.2.2.2⟩) (fun hHeld => ?_)
                      refine tk 0 rfl ?_; simp only [zz]
                      refine tk 1 rfl ?_; simp only [zz]
                      refine tk 2 rfl ?_; simp only [zz]
                      refine tk 3 rfl ?_; simp only [zz]
                      refine tk 4 rfl ?_; simp only [zz]
                      refine tk 5 rfl ?_; simp only [zz]
                      refine tk 6 rfl ?_; simp only [zz]
                      refine tk 7 rfl ?_; simp only [zz]
                      refine tk 8 rfl ?_; simp only [zz]
                      refine tk 9 rfl ?_; simp only [zz]
                      refine tk 10 rfl ?_; simp only [zz]
                      refine tk 11 rfl ?_; simp only [zz]
                      refine tk 12 rfl ?_; simp only [zz]
                      refine tk 13 rfl ?_; simp only [zz]
                      refine tk 14 rfl ?_; simp only [zz]
                      refine tk 15 rfl ?_; simp only [zz]
                      refine tk 16 rfl ?_; simp only [zz]
                      refine tk 17 rfl ?_; simp only [zz]
                      refine tk 18 rfl ?_; simp only [zz]
                      refine tk 19 rfl ?_; simp only [zz]
                      refine tk 20 rfl ?_; simp only [zz]
                      refine tk 21 rfl ?_; simp only [zz]
                      refine tk 22 rfl ?_; simp only [zz]
                      refine tk 23 rfl ?_; simp only [zz]
                      refine tk 24 rfl ?_; simp only [zz]
                      refine tk 25 rfl ?_; simp only [zz]
                      refine tk 26 rfl ?_; simp only [zz]
                      refine tk 27 rfl ?_; simp only [zz]
                      refine tk 28 rfl ?_; simp only [zz]
                      refine tk 29 rfl ?_; simp only [zz]
                      refine tk 30 rfl ?_; simp only [zz]
                      refine tk 31 rfl ?_; simp only [zz]
                      refine tk 32 rfl ?_; simp only [zz]
                      refine tk 33 rfl ?_; simp only [zz]
                      refine tk 34 rfl ?_; simp only [zz]
                      refine tk 35 rfl ?_; simp only [zz]
                      refine tk 36 rfl ?_; simp only [zz]
                      refine tk 38 rfl ?_; simp only [zz]
                      refine tk 39 rfl ?_; simp only [zz]
                      refine tk 40 rfl ?_; simp only [zz]
                      refine tk 41 rfl ?_; simp only [zz]
                      refine wpAnyH_ready (rs := [37]) (by kernel_rfl) (by simp) ?_
                      refine AllReadyH.cons rfl (fun K hK => ?_) AllReadyH.nil
                      simp only [z1, z2, z3]
                      go_simp
                      refine (DC1.out _ HX20d).mono ?_
                      rintro e w21 ⟨rfl, hB21⟩
                      have hX21 : Below W4.heap.size W4 w21 := below_step HX20d HX20d.size hB21
                      refine hK.out _ _ (by have hh := HZ.out _ hX21; have hk := HWI.out _ hX21; exact ⟨hh.2.2.2.2.2.2.2.1, hh.2.2.1, hh.2.2.2.2.2.2.2.2.2, hk.1, hk.2.1, hk.2.2.1, hk.2.2.2⟩) (fun hHeld => ?_)
                      clear hK K
                      try simp only [zz]
                      refine wpAnyH_ready (rs := [42]) (by kernel_rfl) (by simp) ?_
                      refine AllReadyH.cons rfl (fun K hK => ?_) AllReadyH.nil
                      simp only [z1, z2, z3]
                      go_simp
                      refine (DC2.out _ hX21).mono ?_
                      rintro e w22 ⟨rfl, hB22⟩
                      have hX22 : Below W4.heap.size W4 w22 := below_step hX21 hX21.size hB22
                      refine hK.out _ _ (by have hh := HZ.out _ hX22; have hk := HWI.out _ hX22; exact ⟨hh.2.2.2.2.2.2.2.1, hh.2.2.1, hh.2.2.2.2.2.2.2.2.2, hk.1, hk.2.1, hk.2.2.1, hk.2.2.2⟩) (fun hHeld => ?_)
                      clear hK K
                      try simp only [zz]
                      refine tk 43 rfl ?_; simp only [zz]
                      refine tk 44 rfl ?_; simp only [zz]
                      refine wpAnyH_done (by kernel_rfl) ?_ _
                      go_wp2_with fail
                      go_meet
                      case rel => exact ⟨rfl, hX22⟩
                    · have ql : (li == lj) = false := by simpa using hll
                      clear hll hij HC2
                      refine wp_region_held_drew (S := fun W => W.cell? ⟨fb, 11, none⟩ = some (.slice (some ⟨bw, 0, none⟩) g.evs.length g.evs.length) ∧ W.cell? ⟨fb, 2, none⟩ = some (pv b2) ∧ W.cell? ⟨w.heap.size, 1, none⟩ = some (.slice (some ⟨s, o, none⟩) g.evs.length ce) ∧ W.cell? ⟨bw, i, none⟩ = some (.bool true) ∧ W.cell? ⟨bw, j, none⟩ = some (.bool true) ∧ W.cell? ⟨s, o + i * 5 + 2, none⟩ = some (.int .i64 li) ∧ W.cell? ⟨s, o + j * 5 + 2, none⟩ = some (.int .i64 lj)) (by kernel_rfl) (by have hh := HZ.out _ HX20d; have hk := HWI.out _ HX20d; exact ⟨hh.2.2.2.2.2.2.2.1, hh.2.2.1, hh.2.2.2.2.2.2.2.2.2, hk.1, hk.2.1, hk.2.2.1, hk.2.2.2⟩) (fun hHeld => ?_)
                      refine tk 0 rfl ?_; simp only [zz]
                      refine tk 1 rfl ?_; simp only [zz]
                      refine tk 2 rfl ?_; simp only [zz]
                      refine tk 3 rfl ?_; simp only [zz]
                      refine tk 4 rfl ?_; simp only [zz]
                      refine tk 5 rfl ?_; simp only [zz]
                      refine tk 6 rfl ?_; simp only [zz]
                      refine tk 7 rfl ?_; simp only [zz]
                      refine tk 8 rfl ?_; simp only [zz]
                      refine tk 9 rfl ?_; simp only [zz]
                      refine tk 10 rfl ?_; simp only [zz]
                      refine tk 11 rfl ?_; simp only [zz]
                      refine tk 12 rfl ?_; simp only [zz]
                      refine tk 13 rfl ?_; simp only [zz]
                      refine tk 14 rfl ?_; simp only [zz]
                      refine tk 15 rfl ?_; simp only [zz]
                      refine tk 16 rfl ?_; simp only [zz]
                      refine tk 17 rfl ?_; simp only [zz]
                      refine tk 18 rfl ?_; simp only [zz]
                      refine tk 19 rfl ?_; simp only [zz]
                      refine tk 20 rfl ?_; simp only [zz]
                      refine tk 21 rfl ?_; simp only [zz]
                      refine tk 22 rfl ?_; simp only [zz]
                      refine tk 23 rfl ?_; simp only [zz]
                      refine tk 24 rfl ?_; simp only [zz]
                      refine tk 25 rfl ?_; simp only [zz]
                      refine tk 26 rfl ?_; simp only [zz]
                      refine tk 27 rfl ?_; simp only [zz]
                      refine tk 28 rfl ?_; simp only [zz]
                      refine tk 29 rfl ?_; simp only [zz]
                      refine tk 30 rfl ?_; simp only [zz]
                      refine tk 31 rfl ?_; simp only [zz]
                      refine tk 32 rfl ?_; simp only [zz]
                      refine tu 33 rfl ?_; simp only [zz]
                      refine tu 34 rfl ?_; simp only [zz]
                      refine tu 35 rfl ?_; simp only [zz]
                      refine tu 36 rfl ?_; simp only [zz]
                      refine tu 37 rfl ?_; simp only [zz]
                      refine tu 38 rfl ?_; simp only [zz]
                      refine tu 39 rfl ?_; simp only [zz]
                      refine tu 40 rfl ?_; simp only [zz]
                      refine tu 41 rfl ?_; simp only [zz]
                      refine tu 42 rfl ?_; simp only [zz]
                      refine tu 43 rfl ?_; simp only [zz]
                      refine tk 44 rfl ?_; simp only [zz]
                      refine wpAnyH_done (by kernel_rfl) ?_ _
                      go_wp2_with fail
                      go_meet
                      case rel => exact ⟨rfl, HX20d⟩
            case rest =>
            obtain ⟨rfl, HX23⟩ := hcut
            generalize hwq : wc = w23 at *
            clear hwq HWI DC1 DC2 HC2 HX20
            obtain ⟨fc0, fc1, fc2, fc3, fc4, fc6, fc10, fc11, fcg0, fcg1⟩ := HZ.out w23 HX23.out
            have DP := hid_of (has_tw HT0.out (HR0.out _ HX23.out) hil hjl)
            have DE : Hid (∀ W, Below W4.heap.size W4 W → _) := fun W hW => has_tw HT5.out (HR5.out W hW) hil hjl
            have HPE := hid_of (fun h => po_ext (evs := g.evs) (a := i) (b := j) h)
            generalize poB g.evs i j = pq at *
            go_upto_region 21 with fail
            go_cut [208] (fun v208 wx => v208 = .bool false ∧ Hid (Below W4.heap.size W4 wx))
            case first => as_aux_lemma =>
              cases pq
              · clear HPE
                go_wp2_with fail
                refine DP.out.mono ?_
                rintro e w24 ⟨rfl, hB24⟩
                go_wp2_with fail
                go_meet
                case rel => exact ⟨rfl, below_step HX23.out HX23.out.size hB24⟩
              · have HE := hid_of (HPE.out rfl)
                clear HPE
                go_wp2_with fail
                refine DP.out.mono ?_
                rintro e w24 ⟨rfl, hB24⟩
                have hX24 : Below W4.heap.size W4 w24 := below_step HX23.out HX23.out.size hB24
                have y6 := (HZ.out _ hX24).2.2.2.2.2.1
                have DE2 := DE.out _ hX24
                rw [HE.out] at DE2
                have DE3 := hid_of DE2
                clear DE2
                go_wp2_with fail
                refine DE3.out.mono ?_
                rintro e w25 ⟨rfl, hB25⟩
                go_wp2_with fail
                go_meet
                case rel => exact ⟨rfl, below_step hX24 hX24.size hB25⟩
            case rest =>
            obtain ⟨rfl, HX26⟩ := hcut
            go_wp2_with fail
            go_roundg (g.evs.length - (j + 1))
            case measure => have := HJF.out; omega
            case rel => exact ⟨j + 1, by go_num, HCM.out ▸ rfl, by omega, by have := HJF.out; rw [Hid]; omega, HX26.out⟩
          · obtain rfl : j = g.evs.length := by omega
            have hca := cntRf_all HQW.out hil
            have r0 := HRD.out wb HWB.out i hil
            have hek : ((g.ev i).k = 1) ↔ ((g.ev i).k == 1) = true := by simp
            generalize ((g.ev i).k == 1) = rq at *
            go_upto_region 23 with fail
            go_cut [229] (fun v229 wx => v229 = .bool false ∧ wx = wb)
            case first => as_aux_lemma =>
              cases rq
              · rw [if_neg (by rw [hek]; simp)] at hca
                have qn : (((cntRf g i g.evs.length : Nat) : Int) != 0) = false := by rw [hca]; rfl
                clear hca hek
                go_wp2_with fail
                go_meet
                case rel => exact ⟨rfl, rfl⟩
              · rw [if_pos (hek.2 rfl)] at hca
                have qn : (((cntRf g i g.evs.length : Nat) : Int) != 1) = false := by rw [hca]; rfl
                clear hca hek
                go_wp2_with fail
                go_meet
                case rel => exact ⟨rfl, rfl⟩
            case rest =>
            clear hca hek r0
            obtain ⟨rfl, hwc⟩ := hcut
            obtain rfl : wb = _ := hwc.symm
            go_wp2_with fail
            go_roundg (g.evs.length - (i + 1))
            case measure => have := HIF.out; omega
            case rel => exact ⟨i + 1, by go_num, by omega, by have := HIF.out; rw [Hid]; omega, HWB.out⟩
      · obtain rfl : i = g.evs.length := by omega
        have HBA : Hid (Below w.heap.size w wa) := HBX.out _ HWA.out
        have D9 := hid_of (lives_calls wa (HF.out.step HBA.out) (HT.out.step HBA.out))
        go_wp2_with fail
        refine D9.out.mono ?_
        rintro e w30 ⟨rfl, hB30⟩
        go_wp2_with fail
        go_ret
        exact ⟨rfl, below_step HBA.out HBA.out.size hB30⟩
end Go.Proofs.YthiijcappjaagaaGreatDoor
