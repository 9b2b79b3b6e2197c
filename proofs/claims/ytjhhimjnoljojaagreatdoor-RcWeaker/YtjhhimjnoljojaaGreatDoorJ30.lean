/- What follows of an allowed graph: the maths of RcLaws. (Printed by rcm.py.) -/
import Derived.Test.YtjhhimjnoljojaaGreatDoorJ25
import Derived.Test.YtjhhimjnoljojaaGreatDoorGLawM
namespace Go.Proofs.YtjhhimjnoljojaaGreatDoor
open Go.RowKit Go.Shelf Sx Relation
section
variable {n : Nat} {A B C : List Nat}
theorem hs_opt (ha : WF n A) (p q : Nat) : hs (optL A) p q ↔ hs A p q ∨ (p = q ∧ p < n) := by
  by_cases hp : p < n
  · unfold hs optL
    rw [gr_eq (optK_at (by rw [ha.len]; exact hp)), if_pos (by rw [ha.len]; exact hp), testBit_setB]
    by_cases e : q = p
    · subst e; simp [hp]
    · rw [if_neg e]
      constructor
      · exact fun h => Or.inl h
      · rintro (h | ⟨h, _⟩)
        · exact h
        · exact absurd h.symm e
  · constructor
    · intro h
      have := hs_left h
      unfold optL at this
      rw [optK_length, ha.len] at this
      omega
    · rintro (h | h)
      · have := hs_left h; rw [ha.len] at this; omega
      · omega
theorem wf_opt (ha : WF n A) : WF n (optL A) := by
  refine ⟨by unfold optL; rw [optK_length, ha.len], fun p q h => ?_⟩
  rcases (hs_opt ha p q).1 h with h | ⟨rfl, h'⟩
  · exact ha.low _ _ h
  · exact h'
theorem hs_union3 (ha : WF n A) (hb : WF n B) (hc : WF n C) (p q : Nat) : hs (unionL [A, B, C]) p q ↔ hs A p q ∨ hs B p q ∨ hs C p q := by
  have e : unionL [A, B, C] = uniK (uniK (uniK (List.replicate n 0) A A.length) B B.length) C C.length := by
    simp [unionL, maxLenL, ha.len, hb.len, hc.len]
  rw [e, hs_uni (by rw [uniK_length, uniK_length, List.length_replicate]) hc, hs_uni (by rw [uniK_length, List.length_replicate]) hb, hs_uni (by rw [List.length_replicate]) ha]
  constructor
  · rintro (((h | h) | h) | h)
    · exact absurd h (hs_zero _ _ _)
    · exact .inl h
    · exact .inr (.inl h)
    · exact .inr (.inr h)
  · rintro (h | h | h)
    · exact .inl (.inl (.inr h))
    · exact .inl (.inr h)
    · exact .inr h
theorem wf_union3 (ha : WF n A) (hb : WF n B) (hc : WF n C) : WF n (unionL [A, B, C]) := by
  refine ⟨by simp [unionL, maxLenL, uniK_length, ha.len, hb.len, hc.len], fun p q h => ?_⟩
  rcases (hs_union3 ha hb hc p q).1 h with h | h | h
  · exact ha.low _ _ h
  · exact hb.low _ _ h
  · exact hc.low _ _ h
end
theorem row_bit (n : Nat) (l : List Bool) (p : Nat) : (rowOfL n l).testBit p = true ↔ p < n ∧ l.getD p false = true := by
  unfold rowOfL
  rw [testBit_rowOfK, Bool.and_eq_true, decide_eq_true_eq]
  constructor
  · exact fun h => ⟨by omega, h.2⟩
  · rintro ⟨h1, h2⟩
    refine ⟨?_, h2⟩
    have : p < l.length := by
      apply Nat.lt_of_not_le
      intro hle
      rw [List.getD_eq_getElem?_getD, List.getElem?_eq_none hle] at h2
      cases h2
    omega
theorem row_mem {n : Nat} (hn : n ≤ 256) (l : List Bool) (p : Nat) : p ∈ bitsOf (rowOfL n l) ↔ p < n ∧ l.getD p false = true := by
  rw [mem_bitsOf, row_bit]
  exact ⟨fun h => h.2, fun h => ⟨by omega, h⟩⟩
theorem identIn_len : ∀ (l : List Nat) (X : List Nat), (identIn X l).length = X.length
  | [], _ => rfl
  | q :: l, X => by
    show (identIn (putP X q q true) l).length = _
    rw [identIn_len l, putP_len]
theorem hs_identIn : ∀ (l : List Nat) (X : List Nat), (∀ q ∈ l, q < X.length) → ∀ a b, hs (identIn X l) a b ↔ hs X a b ∨ (a = b ∧ a ∈ l)
  | [], X, _, a, b => by simp [identIn]
  | q :: l, X, hq, a, b => by
    show hs (identIn (putP X q q true) l) a b ↔ _
    rw [hs_identIn l _ (fun r hr => by rw [putP_len]; exact hq r (List.mem_cons_of_mem _ hr)), hs_put (hq q (by simp)) (hq q (by simp))]
    constructor
    · rintro ((h | ⟨rfl, rfl⟩) | ⟨rfl, h⟩)
      · exact Or.inl h
      · exact Or.inr ⟨rfl, by simp⟩
      · exact Or.inr ⟨rfl, List.mem_cons_of_mem _ h⟩
    · rintro (h | ⟨rfl, h⟩)
      · exact Or.inl (Or.inl h)
      · rcases List.mem_cons.1 h with rfl | h
        · exact Or.inl (Or.inr ⟨rfl, rfl⟩)
        · exact Or.inr ⟨rfl, h⟩
theorem hs_idn {n : Nat} (hn : n ≤ 256) {l : List Bool} {p q : Nat} (h : hs (identL ((n : Nat) : Int) l) p q) : p = q ∧ l.getD p false = true := by
  unfold identL at h
  rw [clamp_small hn] at h
  rw [hs_identIn _ _ (fun q hq => by rw [List.length_replicate]; exact ((row_mem hn l q).1 hq).1), row_mem hn] at h
  rcases h with h | h
  · exact absurd h (hs_zero _ _ _)
  · exact ⟨h.1, h.2.2⟩
theorem wf_idn {n : Nat} (hn : n ≤ 256) (l : List Bool) : WF n (identL ((n : Nat) : Int) l) := by
  refine ⟨by unfold identL; rw [identIn_len, List.length_replicate, clamp_small hn], fun p q h => ?_⟩
  have hp := hs_left h
  have := hs_idn hn h
  unfold identL at hp
  rw [identIn_len, List.length_replicate, clamp_small hn] at hp
  omega
theorem tru_at {P : Ev → Bool} {evs : List Ev} {p : Nat} (h : (truL P evs).getD p false = true) : p < evs.length ∧ P (evs.getD p Ev.zero) = true := by
  unfold truL at h
  rw [List.getD_eq_getElem?_getD, List.getElem?_map] at h
  cases he : evs[p]? with
  | none => rw [he] at h; simp at h
  | some e =>
    rw [he] at h
    simp at h
    refine ⟨(List.getElem?_eq_some_iff.1 he).1, ?_⟩
    rw [List.getD_eq_getElem?_getD, he]
    exact h
section
variable {g : Gr} {p q : Nat}
theorem hs_knd (hn : g.evs.length ≤ 256) {x : Int} (h : hs (identL ((g.evs.length : Nat) : Int) (kndL g x)) p q) : p = q ∧ p < g.evs.length ∧ (g.ev p).k = x := by
  obtain ⟨h1, h2⟩ := hs_idn hn h
  have h3 := tru_at h2
  exact ⟨h1, h3.1, by have := h3.2; exact beq_iff_eq.1 this⟩
theorem hs_md (hn : g.evs.length ≤ 256) {ms : List Int} (h : hs (identL ((g.evs.length : Nat) : Int) (mdL g ms)) p q) : p = q ∧ p < g.evs.length ∧ (g.ev p).m ∈ ms := by
  obtain ⟨h1, h2⟩ := hs_idn hn h
  have h3 := tru_at h2
  exact ⟨h1, h3.1, by have := h3.2; exact List.contains_iff_mem.1 this⟩
theorem wf_LG (g : Gr) (i : Nat) : WF g.evs.length (LG g i) := by
  match i with
  | 0 => exact canL_wf _ _
  | 1 => exact canL_wf _ _
  | 2 => exact canL_wf _ _
  | 3 => exact canL_wf _ _
  | 4 => exact canL_wf _ _
  | 5 => exact canL_wf _ _
  | 6 => exact canL_wf _ _
  | 7 => exact canL_wf _ _
  | 8 => exact canL_wf _ _
  | n + 9 => exact canL_wf _ _
theorem hs_ur (hn : g.evs.length ≤ 256) (h : hs (urL g) p q) : p = q ∧ ((g.ev p).k = 2 ∨ (g.ev p).k = 3) := by
  rcases (hs_union (wf_idn hn _) (wf_idn hn _) p q).1 h with h | h
  · have := hs_knd hn h; exact ⟨this.1, .inl this.2.2⟩
  · have := hs_knd hn h; exact ⟨this.1, .inr this.2.2⟩
theorem hs_ua (hn : g.evs.length ≤ 256) (h : hs (uaL g) p q) : p = q ∧ ((g.ev p).k = 1 ∨ (g.ev p).k = 3) := by
  rcases (hs_union (wf_idn hn _) (wf_idn hn _) p q).1 h with h | h
  · have := hs_knd hn h; exact ⟨this.1, .inl this.2.2⟩
  · have := hs_knd hn h; exact ⟨this.1, .inr this.2.2⟩
theorem wf_ur (hn : g.evs.length ≤ 256) : WF g.evs.length (urL g) := wf_union (wf_idn hn _) (wf_idn hn _)
theorem wf_ua (hn : g.evs.length ≤ 256) : WF g.evs.length (uaL g) := wf_union (wf_idn hn _) (wf_idn hn _)
theorem wf_rel (hn : g.evs.length ≤ 256) : WF g.evs.length (relL g) := wf_comp hn (wf_idn hn _) (wf_ur hn)
theorem wf_acq (hn : g.evs.length ≤ 256) : WF g.evs.length (acqL g) := wf_comp hn (wf_idn hn _) (wf_ua hn)
theorem wf_pl : WF g.evs.length (plL (LG g)) := wf_inter (wf_LG g 0) (wf_LG g 5)
theorem wf_rr (hn : g.evs.length ≤ 256) : WF g.evs.length (rrL (LG g)) := wf_comp hn (wf_LG g 1) (wf_LG g 4)
theorem wf_srr (hn : g.evs.length ≤ 256) : WF g.evs.length (srrL (LG g)) := wf_opt (wf_plus (wf_rr hn))
theorem rs_comp (g : Gr) (Ls : Nat → List Nat) : rsL g Ls = compL (compL (compL (wrI g) (optL (plL Ls))) (wrI g)) (srrL Ls) := by
  simp only [rsL, chainL, List.foldl]
theorem sw_comp (g : Gr) (Ls : Nat → List Nat) : swL g Ls = compL (compL (compL (compL (compL (compL (relL g) (optL (fpL g Ls))) (rsL g Ls)) (Ls 1)) (rdI g)) (optL (pfL g Ls))) (acqL g) := by
  simp only [swL, chainL, List.foldl]
theorem wf_wr (hn : g.evs.length ≤ 256) : WF g.evs.length (wrI g) := wf_idn hn _
theorem wf_rd (hn : g.evs.length ≤ 256) : WF g.evs.length (rdI g) := wf_idn hn _
theorem wf_rs (hn : g.evs.length ≤ 256) : WF g.evs.length (rsL g (LG g)) := by
  rw [rs_comp]
  exact wf_comp hn (wf_comp hn (wf_comp hn (wf_wr hn) (wf_opt wf_pl)) (wf_wr hn)) (wf_srr hn)
theorem wf_fp (hn : g.evs.length ≤ 256) : WF g.evs.length (fpL g (LG g)) := wf_comp hn (wf_idn hn _) (wf_LG g 0)
theorem wf_pf (hn : g.evs.length ≤ 256) : WF g.evs.length (pfL g (LG g)) := wf_comp hn (wf_LG g 0) (wf_idn hn _)
theorem wf_sw (hn : g.evs.length ≤ 256) : WF g.evs.length (swL g (LG g)) := by
  rw [sw_comp]
  exact wf_comp hn (wf_comp hn (wf_comp hn (wf_comp hn (wf_comp hn (wf_comp hn (wf_rel hn) (wf_opt (wf_fp hn))) (wf_rs hn)) (wf_LG g 1)) (wf_rd hn)) (wf_opt (wf_pf hn))) (wf_acq hn)
def Air (g : Gr) (p q : Nat) : Prop := hs (LG g 0) p q ∨ hs (LG g 1) p q
def Air' (g : Gr) (p q : Nat) : Prop := p = q ∨ TransGen (Air g) p q
theorem Air'.refl (g : Gr) (p : Nat) : Air' g p p := .inl rfl
theorem Air'.trans {a b c : Nat} (h : Air' g a b) (k : Air' g b c) : Air' g a c := by
  rcases h with rfl | h
  · exact k
  · rcases k with rfl | k
    · exact .inr h
    · exact .inr (h.trans k)
theorem Air'.one {a b : Nat} (h : Air g a b) : Air' g a b := .inr (.single h)
theorem cyc_nil {n : Nat} {L : List Nat} (hn : n ≤ 256) (hw : WF n L) (h : CycOK L []) : ∀ p, ¬ TransGen (hs L) p p := by
  intro p hp
  rcases h with ⟨e, _⟩ | ⟨s, tl, ly, _, _, e⟩
  · have hl := (hs_plus hw p p).2 hp
    have hpn := trans_low hw hp
    have : p ∈ bitsOf (loopsL (plusL L)) := mem_bitsOf.2 ⟨by omega, by
      unfold loopsL
      rw [loops_bit]
      exact ⟨by rw [plusL_length, hw.len]; exact hpn, hl⟩⟩
    rw [e] at this
    cases this
  · cases e
end
theorem inco_nil {H E : List Nat} (h : incoL H E = []) : (∀ a, a < H.length → hasP H ((a : Nat) : Int) ((a : Nat) : Int) = false) ∧ ∀ a b, a < H.length → b < H.length → hasP H ((a : Nat) : Int) ((b : Nat) : Int) = true → hasP E ((b : Nat) : Int) ((a : Nat) : Int) = false := by
  have all : ∀ (f : Nat → List Int) (k : Nat), fstN f k = [] → ∀ a, a < k → f a = [] := by
    intro f k
    induction k with
    | zero => intro _ a ha; omega
    | succ k ih =>
      intro h a ha
      rw [fstN] at h
      by_cases e : fstN f k = []
      · rw [e] at h
        simp at h
        by_cases ea : a = k
        · rw [ea]; exact h
        · exact ih e a (by omega)
      · cases hf : fstN f k with
        | nil => exact absurd hf e
        | cons x t => rw [hf] at h; simp at h
  have h1 := all _ _ h
  have self : ∀ a, a < H.length → hasP H ((a : Nat) : Int) ((a : Nat) : Int) = false := fun a ha => by
    have := h1 a ha
    unfold incoA at this
    cases e : hasP H ((a : Nat) : Int) ((a : Nat) : Int)
    · rfl
    · rw [e] at this; simp at this
  refine ⟨self, fun a b ha hb hab => ?_⟩
  have h2 := h1 a ha
  unfold incoA at h2
  rw [self a ha] at h2
  have h3 := all _ _ (by simpa using h2) b hb
  unfold incoB at h3
  rw [hab] at h3
  cases e : hasP E ((b : Nat) : Int) ((a : Nat) : Int)
  · rfl
  · rw [e] at h3; simp at h3
theorem hasP_hs {n : Nat} {L : List Nat} (hw : WF n L) {a b : Nat} : hasP L ((a : Nat) : Int) ((b : Nat) : Int) = true ↔ hs L a b := by
  constructor
  · intro h
    unfold hasP at h
    simp only [Bool.and_eq_true] at h
    simpa [hs] using h.2.2
  · intro h
    have ha := hs_left h
    have hb := hw.low _ _ h
    rw [← hw.len] at hb
    unfold hasP inR
    unfold hs at h
    simp [h, ha, hb]
end Go.Proofs.YtjhhimjnoljojaaGreatDoor
namespace Go.Proofs.YtjhhimjnoljojaaGreatDoor
open Go.RowKit Go.Shelf Sx Relation
def wkB (k a b : Int) : Bool :=
  if a = b then true else if k = 1 then (decide (a = 1) && (decide (b = 2) || decide (b = 5))) || (decide (a = 2) && decide (b = 5))
  else if k = 2 then (decide (a = 1) && (decide (b = 3) || decide (b = 5))) || (decide (a = 3) && decide (b = 5))
  else decide (b = 5) || (decide (b = 4) && (decide (a = 2) || decide (a = 3)))
theorem wk_rel {k a b : Int} (h : wkB k a b = true) (hk : k = 2 ∨ k = 3) (ha : a ∈ ([3, 4, 5] : List Int)) : b ∈ ([3, 4, 5] : List Int) := by
  have ha : a = 3 ∨ a = 4 ∨ a = 5 := by simpa using ha
  have : b = 3 ∨ b = 4 ∨ b = 5 := by
    unfold wkB at h
    rcases hk with rfl | rfl <;> rcases ha with rfl | rfl | rfl <;> simp at h <;> omega
  simpa using this
theorem wk_acq {k a b : Int} (h : wkB k a b = true) (hk : k = 1 ∨ k = 3) (ha : a ∈ ([2, 4, 5] : List Int)) : b ∈ ([2, 4, 5] : List Int) := by
  have ha : a = 2 ∨ a = 4 ∨ a = 5 := by simpa using ha
  have : b = 2 ∨ b = 4 ∨ b = 5 := by
    unfold wkB at h
    rcases hk with rfl | rfl <;> rcases ha with rfl | rfl | rfl <;> simp at h <;> omega
  simpa using this
theorem wk_sc {k a b : Int} (h : wkB k a b = true) (hk : k = 1 ∨ k = 2 ∨ k = 3) (ha : a ∈ ([5] : List Int)) : b ∈ ([5] : List Int) := by
  have ha : a = 5 := by simpa using ha
  have : b = 5 := by
    unfold wkB at h
    subst ha
    rcases hk with rfl | rfl | rfl <;> simp at h <;> omega
  simpa using this
structure Wk (g h : Gr) : Prop where
  cells : h.cells = g.cells
  rf : h.rf = g.rf
  co : h.co = g.co
  rmw : h.rmw = g.rmw
  addr : h.addr = g.addr
  dat : h.dat = g.dat
  ctrl : h.ctrl = g.ctrl
  len : h.evs.length = g.evs.length
  ev : ∀ i, i < g.evs.length → (h.ev i).t = (g.ev i).t ∧ (h.ev i).k = (g.ev i).k ∧ (h.ev i).l = (g.ev i).l ∧ wkB (g.ev i).k (h.ev i).m (g.ev i).m = true
section
variable {g h : Gr} {p q : Nat}
theorem can_congr {n : Nat} {F G : Nat → Nat → Bool} (e : ∀ p q, p < n → q < n → F p q = G p q) : canL n F = canL n G :=
  twr_eq (canL_twr n F) ((canL_twr n G).ext e) (by rw [canL_length]; exact canL_wf n F) (by rw [canL_length]; exact canL_wf n G)
theorem Wk.lg (w : Wk g h) : LG h = LG g := by
  have t : ∀ p, p < g.evs.length → (h.evs.getD p Ev.zero).t = (g.evs.getD p Ev.zero).t := fun p hp => (w.ev p hp).1
  have k : ∀ p, p < g.evs.length → (h.evs.getD p Ev.zero).k = (g.evs.getD p Ev.zero).k := fun p hp => (w.ev p hp).2.1
  have l : ∀ p, p < g.evs.length → (h.evs.getD p Ev.zero).l = (g.evs.getD p Ev.zero).l := fun p hp => (w.ev p hp).2.2.1
  funext i
  match i with
  | 0 => show canL h.evs.length (poB h.evs) = canL g.evs.length (poB g.evs); rw [w.len]; exact can_congr fun p q hp hq => by unfold poB; rw [t p hp, t q hq]
  | 1 => show canL h.evs.length (memB h.rf) = canL g.evs.length (memB g.rf); rw [w.len, w.rf]
  | 2 => show canL h.evs.length (coB h) = canL g.evs.length (coB g); rw [w.len]; unfold coB; rw [w.co]
  | 3 => show canL h.evs.length (frB h) = canL g.evs.length (frB g); unfold frB coB; rw [w.len, w.co, w.rf]
  | 4 => show canL h.evs.length (memB h.rmw) = canL g.evs.length (memB g.rmw); rw [w.len, w.rmw]
  | 5 => show canL h.evs.length (sameEv h.evs) = canL g.evs.length (sameEv g.evs); rw [w.len]; exact can_congr fun p q hp hq => by unfold sameEv sameB; rw [k p hp, k q hq, l p hp, l q hq]
  | 6 => show canL h.evs.length (extB h.evs) = canL g.evs.length (extB g.evs); rw [w.len]; exact can_congr fun p q hp hq => by unfold extB; rw [t p hp, t q hq]
  | 7 => show canL h.evs.length (memB h.addr) = canL g.evs.length (memB g.addr); rw [w.len, w.addr]
  | 8 => show canL h.evs.length (memB h.dat) = canL g.evs.length (memB g.dat); rw [w.len, w.dat]
  | n + 9 => show canL h.evs.length (memB h.ctrl) = canL g.evs.length (memB g.ctrl); rw [w.len, w.ctrl]
theorem Wk.knd (w : Wk g h) (x : Int) : kndL h x = kndL g x := by
  unfold kndL truL
  refine List.ext_getElem (by simp [w.len]) (fun i hi hj => ?_)
  have hi' : i < g.evs.length := by simpa using hj
  have hi2 : i < h.evs.length := by rw [w.len]; exact hi'
  have e1 : h.evs[i] = h.ev i := by unfold Gr.ev; rw [List.getD_eq_getElem?_getD, List.getElem?_eq_getElem hi2]; rfl
  have e2 : g.evs[i] = g.ev i := by unfold Gr.ev; rw [List.getD_eq_getElem?_getD, List.getElem?_eq_getElem hi']; rfl
  simp only [List.getElem_map]
  rw [e1, e2, (w.ev i hi').2.1]
theorem Wk.wr (w : Wk g h) : wrI h = wrI g := by unfold wrI; rw [w.knd, w.len]
theorem Wk.rd (w : Wk g h) : rdI h = rdI g := by unfold rdI; rw [w.knd, w.len]
theorem Wk.fe (w : Wk g h) : feI h = feI g := by unfold feI; rw [w.knd, w.len]
theorem hs_idn_iff {n : Nat} (hn : n ≤ 256) {l : List Bool} {p q : Nat} : hs (identL ((n : Nat) : Int) l) p q ↔ p = q ∧ p < n ∧ l.getD p false = true := by
  unfold identL
  rw [clamp_small hn, hs_identIn _ _ (fun q hq => by rw [List.length_replicate]; exact ((row_mem hn l q).1 hq).1), row_mem hn]
  constructor
  · rintro (h | h)
    · exact absurd h (hs_zero _ _ _)
    · exact h
  · exact .inr
theorem md_of {ms : List Int} (hp : p < g.evs.length) (h : (g.ev p).m ∈ ms) : (mdL g ms).getD p false = true := by
  unfold mdL truL
  rw [List.getD_eq_getElem?_getD, List.getElem?_map, Gr.ev_at hp]
  simpa using h
theorem Wk.md (w : Wk g h) (hn : g.evs.length ≤ 256) {ms : List Int} {A : List Nat} (hA : WF g.evs.length A) {P : Int → Prop} (hAk : ∀ {p q}, hs A p q → p = q ∧ P (g.ev p).k) (hw : ∀ {k a b : Int}, wkB k a b = true → P k → a ∈ ms → b ∈ ms)
    (hh : hs (compL (identL ((h.evs.length : Nat) : Int) (mdL h ms)) A) p q) : hs (compL (identL ((g.evs.length : Nat) : Int) (mdL g ms)) A) p q := by
  have hn' : h.evs.length ≤ 256 := by rw [w.len]; exact hn
  have hw1 := wf_idn hn' (mdL h ms)
  rw [w.len] at hw1
  rw [w.len] at hh
  obtain ⟨m, h1, h2⟩ := (hs_comp hn hw1 hA p q).1 hh
  have h1' : hs (identL ((h.evs.length : Nat) : Int) (mdL h ms)) p m := by rw [w.len]; exact h1
  obtain ⟨rfl, hp, hm⟩ := hs_md hn' h1'
  rw [w.len] at hp
  obtain ⟨_, hk⟩ := hAk h2
  exact (hs_comp hn (wf_idn hn _) hA p q).2 ⟨p, (hs_idn_iff hn).2 ⟨rfl, hp, md_of hp (hw (w.ev p hp).2.2.2 hk hm)⟩, h2⟩
theorem ur_eq (w : Wk g h) : urL h = urL g := by unfold urL; rw [w.wr, w.fe]
theorem ua_eq (w : Wk g h) : uaL h = uaL g := by unfold uaL; rw [w.rd, w.fe]
theorem rel_comp (g : Gr) : relL g = compL (identL ((g.evs.length : Nat) : Int) (mdL g [3, 4, 5])) (urL g) := by simp only [relL, chainL, List.foldl, mrI]
theorem acq_comp (g : Gr) : acqL g = compL (identL ((g.evs.length : Nat) : Int) (mdL g [2, 4, 5])) (uaL g) := by simp only [acqL, chainL, List.foldl, maI]
theorem Wk.rel (w : Wk g h) (hn : g.evs.length ≤ 256) (hh : hs (relL h) p q) : hs (relL g) p q := by
  rw [rel_comp, ur_eq w] at hh
  rw [rel_comp]
  exact w.md hn (wf_ur hn) (P := fun k => k = 2 ∨ k = 3) (fun h => hs_ur hn h) (fun h1 h2 h3 => wk_rel h1 h2 h3) hh
theorem Wk.acq (w : Wk g h) (hn : g.evs.length ≤ 256) (hh : hs (acqL h) p q) : hs (acqL g) p q := by
  rw [acq_comp, ua_eq w] at hh
  rw [acq_comp]
  exact w.md hn (wf_ua hn) (P := fun k => k = 1 ∨ k = 3) (fun h => hs_ua hn h) (fun h1 h2 h3 => wk_acq h1 h2 h3) hh
end
section
variable {n : Nat} {A B A' B' : List Nat} {p q : Nat}
theorem comp_mono (hn : n ≤ 256) (ha : WF n A) (hb : WF n B) (ha' : WF n A') (hb' : WF n B') (h1 : ∀ p q, hs A p q → hs A' p q) (h2 : ∀ p q, hs B p q → hs B' p q) : ∀ p q, hs (compL A B) p q → hs (compL A' B') p q := fun p q h => by
  obtain ⟨m, k1, k2⟩ := (hs_comp hn ha hb p q).1 h
  exact (hs_comp hn ha' hb' p q).2 ⟨m, h1 _ _ k1, h2 _ _ k2⟩
theorem union_mono (ha : WF n A) (hb : WF n B) (ha' : WF n A') (hb' : WF n B') (h1 : ∀ p q, hs A p q → hs A' p q) (h2 : ∀ p q, hs B p q → hs B' p q) : ∀ p q, hs (unionL [A, B]) p q → hs (unionL [A', B']) p q := fun p q h => by
  rcases (hs_union ha hb p q).1 h with k | k
  · exact (hs_union ha' hb' p q).2 (.inl (h1 _ _ k))
  · exact (hs_union ha' hb' p q).2 (.inr (h2 _ _ k))
theorem opt_mono (ha : WF n A) (ha' : WF n A') (h1 : ∀ p q, hs A p q → hs A' p q) : ∀ p q, hs (optL A) p q → hs (optL A') p q := fun p q h => by
  rcases (hs_opt ha p q).1 h with k | k
  · exact (hs_opt ha' p q).2 (.inl (h1 _ _ k))
  · exact (hs_opt ha' p q).2 (.inr k)
theorem plus_mono (ha : WF n A) (ha' : WF n A') (h1 : ∀ p q, hs A p q → hs A' p q) : ∀ p q, hs (plusL A) p q → hs (plusL A') p q := fun p q h =>
  (hs_plus ha' p q).2 (trans_mono h1 ((hs_plus ha p q).1 h))
end
end Go.Proofs.YtjhhimjnoljojaaGreatDoor
namespace Go.Proofs.YtjhhimjnoljojaaGreatDoor
open Go.RowKit Go.Shelf Sx Relation
section
variable {n : Nat} {A B C D E : List Nat}
theorem hs_union5 (ha : WF n A) (hb : WF n B) (hc : WF n C) (hd : WF n D) (he : WF n E) (p q : Nat) : hs (unionL [A, B, C, D, E]) p q ↔ hs A p q ∨ hs B p q ∨ hs C p q ∨ hs D p q ∨ hs E p q := by
  have e : unionL [A, B, C, D, E] = uniK (uniK (uniK (uniK (uniK (List.replicate n 0) A A.length) B B.length) C C.length) D D.length) E E.length := by
    simp [unionL, maxLenL, ha.len, hb.len, hc.len, hd.len, he.len]
  rw [e, hs_uni (by simp only [uniK_length, List.length_replicate]) he, hs_uni (by simp only [uniK_length, List.length_replicate]) hd, hs_uni (by simp only [uniK_length, List.length_replicate]) hc, hs_uni (by simp only [uniK_length, List.length_replicate]) hb, hs_uni (by simp only [List.length_replicate]) ha]
  constructor
  · rintro (((((h | h) | h) | h) | h) | h)
    · exact absurd h (hs_zero _ _ _)
    · exact .inl h
    · exact .inr (.inl h)
    · exact .inr (.inr (.inl h))
    · exact .inr (.inr (.inr (.inl h)))
    · exact .inr (.inr (.inr (.inr h)))
  · rintro (h | h | h | h | h)
    · exact .inl (.inl (.inl (.inl (.inr h))))
    · exact .inl (.inl (.inl (.inr h)))
    · exact .inl (.inl (.inr h))
    · exact .inl (.inr h)
    · exact .inr h
theorem wf_union5 (ha : WF n A) (hb : WF n B) (hc : WF n C) (hd : WF n D) (he : WF n E) : WF n (unionL [A, B, C, D, E]) := by
  refine ⟨by simp [unionL, maxLenL, uniK_length, ha.len, hb.len, hc.len, hd.len, he.len], fun p q h => ?_⟩
  rcases (hs_union5 ha hb hc hd he p q).1 h with h | h | h | h | h
  · exact ha.low _ _ h
  · exact hb.low _ _ h
  · exact hc.low _ _ h
  · exact hd.low _ _ h
  · exact he.low _ _ h
end
section
variable {g h : Gr}
theorem rc_fp (w : Wk g h) (Ls : Nat → List Nat) : fpL h Ls = fpL g Ls := by unfold fpL; rw [w.fe]
theorem rc_pf (w : Wk g h) (Ls : Nat → List Nat) : pfL h Ls = pfL g Ls := by unfold pfL; rw [w.fe]
theorem rc_rs (w : Wk g h) (Ls : Nat → List Nat) : rsL h Ls = rsL g Ls := by unfold rsL; rw [w.wr]
theorem wfh_rel (w : Wk g h) (hn : g.evs.length ≤ 256) : WF g.evs.length (relL h) := by have := wf_rel (g := h) (by rw [w.len]; exact hn); rw [w.len] at this; exact this
theorem wfh_acq (w : Wk g h) (hn : g.evs.length ≤ 256) : WF g.evs.length (acqL h) := by have := wf_acq (g := h) (by rw [w.len]; exact hn); rw [w.len] at this; exact this
theorem wfh_sw (w : Wk g h) (hn : g.evs.length ≤ 256) : WF g.evs.length (swL h (LG h)) := by have := wf_sw (g := h) (by rw [w.len]; exact hn); rw [w.len] at this; exact this
theorem Wk.sw (w : Wk g h) (hn : g.evs.length ≤ 256) : ∀ p q, hs (swL h (LG h)) p q → hs (swL g (LG g)) p q := by
  rw [w.lg, sw_comp, sw_comp, rc_fp w, rc_pf w, rc_rs w, w.rd]
  have a0 := wf_comp hn (wf_rel hn) (wf_opt (wf_fp hn))
  have a1 := wf_comp hn a0 (wf_rs hn)
  have a2 := wf_comp hn a1 (wf_LG g 1)
  have a3 := wf_comp hn a2 (wf_rd hn)
  have a4 := wf_comp hn a3 (wf_opt (wf_pf hn))
  have b0 := wf_comp hn (wfh_rel w hn) (wf_opt (wf_fp hn))
  have b1 := wf_comp hn b0 (wf_rs hn)
  have b2 := wf_comp hn b1 (wf_LG g 1)
  have b3 := wf_comp hn b2 (wf_rd hn)
  have b4 := wf_comp hn b3 (wf_opt (wf_pf hn))
  have m0 := comp_mono hn (wfh_rel w hn) (wf_opt (wf_fp hn)) (wf_rel hn) (wf_opt (wf_fp hn)) (fun _ _ k => w.rel hn k) (fun _ _ k => k)
  have m1 := comp_mono hn b0 (wf_rs hn) a0 (wf_rs hn) m0 (fun _ _ k => k)
  have m2 := comp_mono hn b1 (wf_LG g 1) a1 (wf_LG g 1) m1 (fun _ _ k => k)
  have m3 := comp_mono hn b2 (wf_rd hn) a2 (wf_rd hn) m2 (fun _ _ k => k)
  have m4 := comp_mono hn b3 (wf_opt (wf_pf hn)) a3 (wf_opt (wf_pf hn)) m3 (fun _ _ k => k)
  exact comp_mono hn b4 (wfh_acq w hn) a4 (wf_acq hn) m4 (fun _ _ k => w.acq hn k)
theorem wf_uh (hn : g.evs.length ≤ 256) : WF g.evs.length (uhL g (LG g)) := wf_union (wf_LG g 0) (wf_sw hn)
theorem wfg_hb (hn : g.evs.length ≤ 256) : WF g.evs.length (hbL g (LG g)) := wf_plus (wf_uh hn)
theorem wfg_eco (g : Gr) : WF g.evs.length (ecoL (LG g)) := wf_plus (A := ueL (LG g)) (wf_union3 (wf_LG g 1) (wf_LG g 2) (wf_LG g 3))
theorem wfh_hb (w : Wk g h) (hn : g.evs.length ≤ 256) : WF g.evs.length (hbL h (LG h)) := by have := wfg_hb (g := h) (by rw [w.len]; exact hn); rw [w.len] at this; exact this
theorem Wk.hb (w : Wk g h) (hn : g.evs.length ≤ 256) : ∀ p q, hs (hbL h (LG h)) p q → hs (hbL g (LG g)) p q := by
  have hu : WF g.evs.length (uhL h (LG h)) := by have := wf_uh (g := h) (by rw [w.len]; exact hn); rw [w.len] at this; exact this
  refine plus_mono (A := uhL h (LG h)) (A' := uhL g (LG g)) hu (wf_uh hn) ?_
  intro p q k
  have h0 : WF g.evs.length (LG h 0) := by rw [w.lg]; exact wf_LG g 0
  rcases (hs_union h0 (wfh_sw w hn) p q).1 k with k | k
  · rw [w.lg] at k; exact (hs_union (wf_LG g 0) (wf_sw hn) p q).2 (.inl k)
  · exact (hs_union (wf_LG g 0) (wf_sw hn) p q).2 (.inr (w.sw hn _ _ k))
theorem inco_mk {H E : List Nat} (h1 : ∀ a, a < H.length → hasP H ((a : Nat) : Int) ((a : Nat) : Int) = false) (h2 : ∀ a b, a < H.length → b < H.length → hasP H ((a : Nat) : Int) ((b : Nat) : Int) = true → hasP E ((b : Nat) : Int) ((a : Nat) : Int) = false) : incoL H E = [] := by
  refine fstN_none (fun a ha => ?_)
  unfold incoA
  rw [h1 a ha]
  refine fstN_none (fun b hb => ?_)
  unfold incoB
  cases e : hasP H ((a : Nat) : Int) ((b : Nat) : Int)
  · rfl
  · rw [h2 a b ha hb e]; rfl
theorem Wk.inc (w : Wk g h) (hn : g.evs.length ≤ 256) (hi : inco g = []) : inco h = [] := by
  have hg := inco_nil hi
  have wg := wfg_hb hn
  have wh := wfh_hb w hn
  unfold inco
  rw [wg.len] at hg
  have up : ∀ a b : Nat, hasP (hbL h (LG h)) ((a : Nat) : Int) ((b : Nat) : Int) = true → hasP (hbL g (LG g)) ((a : Nat) : Int) ((b : Nat) : Int) = true := fun a b k => (hasP_hs wg).2 (w.hb hn _ _ ((hasP_hs wh).1 k))
  refine inco_mk (fun a ha => ?_) (fun a b ha hb hab => ?_)
  · rw [wh.len] at ha
    cases e : hasP (hbL h (LG h)) ((a : Nat) : Int) ((a : Nat) : Int)
    · rfl
    · have := hg.1 a ha
      rw [up a a e] at this
      cases this
  · rw [wh.len] at ha hb
    rw [w.lg]
    exact hg.2 a b ha hb (up a b hab)
theorem Wk.tor (w : Wk g h) : torn h = torn g := by unfold torn; rw [w.lg, w.rmw]
theorem Wk.air (w : Wk g h) : airL h = airL g := by unfold airL; rw [w.lg]
theorem ac_comp (g : Gr) : acL g = compL (identL ((g.evs.length : Nat) : Int) (mdL g [5])) (rwL g) := by simp only [acL, chainL, List.foldl, scI]
theorem fs_comp (g : Gr) : fsL g = compL (identL ((g.evs.length : Nat) : Int) (mdL g [5])) (feI g) := by simp only [fsL, chainL, List.foldl, scI]
theorem wf_rw (hn : g.evs.length ≤ 256) : WF g.evs.length (rwL g) := wf_union (wf_rd hn) (wf_wr hn)
theorem wf_fe (hn : g.evs.length ≤ 256) : WF g.evs.length (feI g) := wf_idn hn _
theorem wf_ac (hn : g.evs.length ≤ 256) : WF g.evs.length (acL g) := by rw [ac_comp]; exact wf_comp hn (wf_idn hn _) (wf_rw hn)
theorem wf_fs (hn : g.evs.length ≤ 256) : WF g.evs.length (fsL g) := by rw [fs_comp]; exact wf_comp hn (wf_idn hn _) (wf_fe hn)
theorem hs_rw (hn : g.evs.length ≤ 256) {p q : Nat} (k : hs (rwL g) p q) : p = q ∧ ((g.ev p).k = 1 ∨ (g.ev p).k = 2) := by
  rcases (hs_union (wf_rd hn) (wf_wr hn) p q).1 k with k | k
  · have := hs_knd hn k; exact ⟨this.1, .inl this.2.2⟩
  · have := hs_knd hn k; exact ⟨this.1, .inr this.2.2⟩
theorem Wk.ac (w : Wk g h) (hn : g.evs.length ≤ 256) : ∀ p q, hs (acL h) p q → hs (acL g) p q := by
  intro p q k
  rw [ac_comp, show rwL h = rwL g by unfold rwL; rw [w.rd, w.wr]] at k
  rw [ac_comp]
  exact w.md hn (wf_rw hn) (P := fun k => k = 1 ∨ k = 2) (fun h => hs_rw hn h) (fun h1 h2 h3 => wk_sc h1 (by omega) h3) k
theorem Wk.fs (w : Wk g h) (hn : g.evs.length ≤ 256) : ∀ p q, hs (fsL h) p q → hs (fsL g) p q := by
  intro p q k
  rw [fs_comp, w.fe] at k
  rw [fs_comp]
  exact w.md hn (wf_fe hn) (P := fun k => k = 3) (fun h => by have := hs_knd hn h; exact ⟨this.1, this.2.2⟩) (fun h1 h2 h3 => wk_sc h1 (by omega) h3) k
end
structure ScIn (n : Nat) (ac fs H : List Nat) : Prop where
  ac : WF n ac
  fs : WF n fs
  hb : WF n H
def scS (ac fs H C P5 : List Nat) (Ls : Nat → List Nat) (ap : List Nat) : List Nat :=
  unionL [compL (compL (unionL [ac, compL fs (optL H)]) (unionL [Ls 0, compL (compL ap H) ap, interL H P5, Ls 2, Ls 3])) (unionL [ac, compL (optL H) fs]), compL (compL fs (unionL [H, compL (compL H C) H])) fs]
theorem seq_scS (g : Gr) : seqL g = scS (acL g) (fsL g) (hbL g (LG g)) (ecoL (LG g)) (LG g 5) (LG g) (apL (LG g)) := by
  simp only [seqL, scS, baseL, pscL, begL, endL, fhL, hfL, scbL, ahL, hsL, uhhL, hehL, chainL, List.foldl]
theorem scS_parts {n : Nat} (hn : n ≤ 256) {ac fs H C P5 ap : List Nat} {Ls : Nat → List Nat} (h : ScIn n ac fs H) (hC : WF n C) (h5 : WF n P5) (hap : WF n ap) (hL : ∀ i, WF n (Ls i)) :
    WF n (unionL [ac, compL fs (optL H)]) ∧ WF n (unionL [Ls 0, compL (compL ap H) ap, interL H P5, Ls 2, Ls 3]) ∧ WF n (unionL [ac, compL (optL H) fs]) ∧ WF n (unionL [H, compL (compL H C) H]) :=
  ⟨wf_union h.ac (wf_comp hn h.fs (wf_opt h.hb)), wf_union5 (hL 0) (wf_comp hn (wf_comp hn hap h.hb) hap) (wf_inter h.hb h5) (hL 2) (hL 3), wf_union h.ac (wf_comp hn (wf_opt h.hb) h.fs), wf_union h.hb (wf_comp hn (wf_comp hn h.hb hC) h.hb)⟩
theorem wf_scS {n : Nat} (hn : n ≤ 256) {ac fs H C P5 ap : List Nat} {Ls : Nat → List Nat} (h : ScIn n ac fs H) (hC : WF n C) (h5 : WF n P5) (hap : WF n ap) (hL : ∀ i, WF n (Ls i)) : WF n (scS ac fs H C P5 Ls ap) := by
  obtain ⟨a, b, c, d⟩ := scS_parts hn h hC h5 hap hL
  exact wf_union (wf_comp hn (wf_comp hn a b) c) (wf_comp hn (wf_comp hn h.fs d) h.fs)
theorem scS_mono {n : Nat} (hn : n ≤ 256) {ac fs H ac' fs' H' C P5 ap : List Nat} {Ls : Nat → List Nat} (h : ScIn n ac fs H) (h' : ScIn n ac' fs' H') (hC : WF n C) (h5 : WF n P5) (hap : WF n ap) (hL : ∀ i, WF n (Ls i))
    (m1 : ∀ p q, hs ac p q → hs ac' p q) (m2 : ∀ p q, hs fs p q → hs fs' p q) (m3 : ∀ p q, hs H p q → hs H' p q) : ∀ p q, hs (scS ac fs H C P5 Ls ap) p q → hs (scS ac' fs' H' C P5 Ls ap) p q := by
  obtain ⟨a, b, c, d⟩ := scS_parts hn h hC h5 hap hL
  obtain ⟨a', b', c', d'⟩ := scS_parts hn h' hC h5 hap hL
  have mo := opt_mono h.hb h'.hb m3
  have ma := union_mono h.ac (wf_comp hn h.fs (wf_opt h.hb)) h'.ac (wf_comp hn h'.fs (wf_opt h'.hb)) m1 (comp_mono hn h.fs (wf_opt h.hb) h'.fs (wf_opt h'.hb) m2 mo)
  have mc := union_mono h.ac (wf_comp hn (wf_opt h.hb) h.fs) h'.ac (wf_comp hn (wf_opt h'.hb) h'.fs) m1 (comp_mono hn (wf_opt h.hb) h.fs (wf_opt h'.hb) h'.fs mo m2)
  have mb : ∀ p q, hs (unionL [Ls 0, compL (compL ap H) ap, interL H P5, Ls 2, Ls 3]) p q → hs (unionL [Ls 0, compL (compL ap H') ap, interL H' P5, Ls 2, Ls 3]) p q := fun p q k => by
    have r1 := comp_mono hn (wf_comp hn hap h.hb) hap (wf_comp hn hap h'.hb) hap (comp_mono hn hap h.hb hap h'.hb (fun _ _ k => k) m3) (fun _ _ k => k)
    refine (hs_union5 (hL 0) (wf_comp hn (wf_comp hn hap h'.hb) hap) (wf_inter h'.hb h5) (hL 2) (hL 3) p q).2 ?_
    rcases (hs_union5 (hL 0) (wf_comp hn (wf_comp hn hap h.hb) hap) (wf_inter h.hb h5) (hL 2) (hL 3) p q).1 k with k | k | k | k | k
    · exact .inl k
    · exact .inr (.inl (r1 _ _ k))
    · have := (hs_inter h.hb h5 p q).1 k
      exact .inr (.inr (.inl ((hs_inter h'.hb h5 p q).2 ⟨m3 _ _ this.1, this.2⟩)))
    · exact .inr (.inr (.inr (.inl k)))
    · exact .inr (.inr (.inr (.inr k)))
  have md := union_mono h.hb (wf_comp hn (wf_comp hn h.hb hC) h.hb) h'.hb (wf_comp hn (wf_comp hn h'.hb hC) h'.hb) m3 (comp_mono hn (wf_comp hn h.hb hC) h.hb (wf_comp hn h'.hb hC) h'.hb (comp_mono hn h.hb hC h'.hb hC m3 (fun _ _ k => k)) m3)
  exact union_mono (wf_comp hn (wf_comp hn a b) c) (wf_comp hn (wf_comp hn h.fs d) h.fs) (wf_comp hn (wf_comp hn a' b') c') (wf_comp hn (wf_comp hn h'.fs d') h'.fs)
    (comp_mono hn (wf_comp hn a b) c (wf_comp hn a' b') c' (comp_mono hn a b a' b' ma mb) mc)
    (comp_mono hn (wf_comp hn h.fs d) h.fs (wf_comp hn h'.fs d') h'.fs (comp_mono hn h.fs d h'.fs d' m2 md) m2)
section
variable {g h : Gr}
theorem scIn_g (hn : g.evs.length ≤ 256) : ScIn g.evs.length (acL g) (fsL g) (hbL g (LG g)) := ⟨wf_ac hn, wf_fs hn, wfg_hb hn⟩
theorem scIn_h (w : Wk g h) (hn : g.evs.length ≤ 256) : ScIn g.evs.length (acL h) (fsL h) (hbL h (LG h)) := by
  have := scIn_g (g := h) (by rw [w.len]; exact hn)
  rw [w.len] at this
  exact this
theorem wf_ap (g : Gr) : WF g.evs.length (apL (LG g)) := wf_minus (wf_LG g 0) (wf_LG g 5)
theorem wf_seq (hn : g.evs.length ≤ 256) : WF g.evs.length (seqL g) := by rw [seq_scS]; exact wf_scS hn (scIn_g hn) (wfg_eco g) (wf_LG g 5) (wf_ap g) (wf_LG g)
theorem Wk.seq (w : Wk g h) (hn : g.evs.length ≤ 256) : ∀ p q, hs (seqL h) p q → hs (seqL g) p q := by
  rw [seq_scS, seq_scS g]
  have hi := scIn_h w hn
  have m3 := w.hb hn
  rw [w.lg] at hi m3 ⊢
  exact scS_mono hn hi (scIn_g hn) (wfg_eco g) (wf_LG g 5) (wf_ap g) (wf_LG g) (w.ac hn) (w.fs hn) m3
theorem cyc_some {n : Nat} {L o : List Nat} (hw : WF n L) (h : CycOK L o) (ho : o ≠ []) : ∃ p, TransGen (hs L) p p := by
  rcases h with ⟨_, e⟩ | ⟨s, tl, ly, e, _, _⟩
  · exact absurd e ho
  · have hs1 : s ∈ bitsOf (loopsL (plusL L)) := by rw [e]; simp
    have h2 := (mem_bitsOf.1 hs1).2
    unfold loopsL at h2
    rw [loops_bit] at h2
    exact ⟨s, (hs_plus hw s s).1 h2.2⟩
theorem Wk.ok (w : Wk g h) (hn : g.evs.length ≤ 256) {l l' : List Int} {b : Int} (hg : RcOK g 0 l) (hh : RcOK h b l') : b = 0 := by
  have hn' : h.evs.length ≤ 256 := by rw [w.len]; exact hn
  rcases hg with ⟨_, e, _⟩ | ⟨_, _, e, _⟩ | ⟨h1, h2, o3, h3, h4⟩
  · cases e
  · cases e
  · rcases h4 with ⟨_, e, _⟩ | ⟨e3, o4, h5, h6⟩
    · cases e
    · rcases h6 with ⟨_, e, _⟩ | ⟨e4, _, _⟩
      · cases e
      · subst e3 e4
        rcases hh with ⟨k, _⟩ | ⟨_, k, _⟩ | ⟨_, _, o, k1, k2⟩
        · exact absurd (w.inc hn h1) k
        · exact absurd (w.tor.trans h2) k
        · rcases k2 with ⟨k3, _, _⟩ | ⟨_, o', k4, k5⟩
          · obtain ⟨p, hp⟩ := cyc_some (wf_seq hn') k1 k3
            exact absurd (trans_mono (w.seq hn) hp) (cyc_nil hn (wf_seq hn) h3 p)
          · rcases k5 with ⟨k6, _, _⟩ | ⟨_, k7, _⟩
            · have wa : WF g.evs.length (airL g) := wf_union (wf_LG g 0) (wf_LG g 1)
              rw [w.air] at k4
              obtain ⟨p, hp⟩ := cyc_some wa k4 k6
              exact absurd hp (cyc_nil hn wa h5 p)
            · exact k7
end
end Go.Proofs.YtjhhimjnoljojaaGreatDoor
namespace Go.Proofs.YtjhhimjnoljojaaGreatDoor
open Go.RowKit Go.Shelf Sx
set_option linter.unusedSimpArgs false in
set_option maxRecDepth 100000 in
set_option maxHeartbeats 8000000 in
theorem l10weaker_calls (k a b : Int) (w : World) : Calls Tryz.prog 27 #[.int .i64 k, .int .i64 a, .int .i64 b] w fun r w' => r = .returned (.bool (wkB k a b)) ∧ Below w.heap.size w w' := by
  generalize hr : wkB k a b = r
  have HR := hid_of hr
  unfold wkB at HR
  clear hr
  have no : ∀ {x y : Int}, x ≠ y → (x == y) = false := fun h => by simpa using h
  go_enter Tryz.func27, Tryz.ntmps27
  by_cases e0 : a = b
  · subst e0
    obtain rfl : r = true := by rw [← HR.out]; simp
    go_wp2_with fail
    go_ret
    exact ⟨rfl, Below.refl _ _⟩
  have q0 := no e0
  by_cases e1 : k = 1
  · subst e1
    by_cases e2 : a = 1
    · subst e2
      by_cases e3 : b = 2
      · subst e3
        obtain rfl : r = true := by rw [← HR.out]; simp_all
        clear HR no
        go_wp2_with fail
        go_ret
        exact ⟨rfl, Below.refl _ _⟩
      · have q3 := no e3
        by_cases e4 : b = 5
        · subst e4
          obtain rfl : r = true := by rw [← HR.out]; simp_all
          clear HR no
          go_wp2_with fail
          go_ret
          exact ⟨rfl, Below.refl _ _⟩
        · have q4 := no e4
          obtain rfl : r = false := by rw [← HR.out]; simp_all
          clear HR no
          go_wp2_with fail
          go_ret
          exact ⟨rfl, Below.refl _ _⟩
    · have q2 := no e2
      by_cases e5 : a = 2
      · subst e5
        by_cases e6 : b = 5
        · subst e6
          obtain rfl : r = true := by rw [← HR.out]; simp_all
          clear HR no
          go_wp2_with fail
          go_ret
          exact ⟨rfl, Below.refl _ _⟩
        · have q6 := no e6
          obtain rfl : r = false := by rw [← HR.out]; simp_all
          clear HR no
          go_wp2_with fail
          go_ret
          exact ⟨rfl, Below.refl _ _⟩
      · have q5 := no e5
        obtain rfl : r = false := by rw [← HR.out]; simp_all
        clear HR no
        go_wp2_with fail
        go_ret
        exact ⟨rfl, Below.refl _ _⟩
  · have q1 := no e1
    by_cases e7 : k = 2
    · subst e7
      by_cases e8 : a = 1
      · subst e8
        by_cases e9 : b = 3
        · subst e9
          obtain rfl : r = true := by rw [← HR.out]; simp_all
          clear HR no
          go_wp2_with fail
          go_ret
          exact ⟨rfl, Below.refl _ _⟩
        · have q9 := no e9
          by_cases e10 : b = 5
          · subst e10
            obtain rfl : r = true := by rw [← HR.out]; simp_all
            clear HR no
            go_wp2_with fail
            go_ret
            exact ⟨rfl, Below.refl _ _⟩
          · have q10 := no e10
            obtain rfl : r = false := by rw [← HR.out]; simp_all
            clear HR no
            go_wp2_with fail
            go_ret
            exact ⟨rfl, Below.refl _ _⟩
      · have q8 := no e8
        by_cases e11 : a = 3
        · subst e11
          by_cases e12 : b = 5
          · subst e12
            obtain rfl : r = true := by rw [← HR.out]; simp_all
            clear HR no
            go_wp2_with fail
            go_ret
            exact ⟨rfl, Below.refl _ _⟩
          · have q12 := no e12
            obtain rfl : r = false := by rw [← HR.out]; simp_all
            clear HR no
            go_wp2_with fail
            go_ret
            exact ⟨rfl, Below.refl _ _⟩
        · have q11 := no e11
          obtain rfl : r = false := by rw [← HR.out]; simp_all
          clear HR no
          go_wp2_with fail
          go_ret
          exact ⟨rfl, Below.refl _ _⟩
    · have q7 := no e7
      by_cases e13 : b = 5
      · subst e13
        obtain rfl : r = true := by rw [← HR.out]; simp_all
        clear HR no
        go_wp2_with fail
        go_ret
        exact ⟨rfl, Below.refl _ _⟩
      · have q13 := no e13
        by_cases e14 : b = 4
        · subst e14
          by_cases e15 : a = 2
          · subst e15
            obtain rfl : r = true := by rw [← HR.out]; simp_all
            clear HR no
            go_wp2_with fail
            go_ret
            exact ⟨rfl, Below.refl _ _⟩
          · have q15 := no e15
            by_cases e16 : a = 3
            · subst e16
              obtain rfl : r = true := by rw [← HR.out]; simp_all
              clear HR no
              go_wp2_with fail
              go_ret
              exact ⟨rfl, Below.refl _ _⟩
            · have q16 := no e16
              obtain rfl : r = false := by rw [← HR.out]; simp_all
              clear HR no
              go_wp2_with fail
              go_ret
              exact ⟨rfl, Below.refl _ _⟩
        · have q14 := no e14
          obtain rfl : r = false := by rw [← HR.out]; simp_all
          clear HR no
          go_wp2_with fail
          go_ret
          exact ⟨rfl, Below.refl _ _⟩
end Go.Proofs.YtjhhimjnoljojaaGreatDoor
