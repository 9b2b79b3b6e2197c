import Derived.Test.YtdkogbfamdnheaaGreatDoorJ29
import Derived.Test.YtdkogbfamdnheaaGreatDoorJ31
namespace Go.Proofs.YtdkogbfamdnheaaGreatDoor
open Go.RowKit Go.Shelf Sx
set_option maxRecDepth 100000
set_option maxHeartbeats 16000000
set_option linter.unusedSimpArgs false
set_option linter.unusedVariables false
def mI (π : Nat → Nat) (x : Int) : Int := ((π x.toNat : Nat) : Int)
def mP (π : Nat → Nat) (x : Int × Int) : Int × Int := (mI π x.1, mI π x.2)
theorem Qbh (π : Nat → Nat) (a : Nat) : mI π ((a : Nat) : Int) = ((π a : Nat) : Int) := by unfold mI; rw [Int.toNat_natCast]
structure Mv (g h : Gr) (π σ : Nat → Nat) : Prop where
 n : h.evs.length = g.evs.length
 c : h.cells = g.cells
 a : ∀ i, i < g.evs.length → π i < g.evs.length ∧ σ (π i) = i
 b : ∀ i, i < g.evs.length → σ i < g.evs.length ∧ π (σ i) = i
 e : ∀ i, i < g.evs.length → h.ev (π i) = g.ev i
 i : ∀ i : Nat, ((i : Nat) : Int) < g.cells → π i = i
 o : ∀ i j, i < j → j < g.evs.length → (g.ev i).t = (g.ev j).t → π i < π j
 co : h.co = g.co.map (fun l => l.map (mI π))
 rfs : h.rf.Pairwise (fun p q => p.2 < q.2)
 rf : ∀ p, p ∈ h.rf ↔ ∃ q ∈ g.rf, p = mP π q
 rms : h.rmw.Pairwise (fun p q => p.1 < q.1)
 rm : ∀ p, p ∈ h.rmw ↔ ∃ q ∈ g.rmw, p = mP π q
 ads : h.addr.Pairwise Rise
 ad : ∀ p, p ∈ h.addr ↔ ∃ q ∈ g.addr, p = mP π q
 das : h.dat.Pairwise Rise
 da : ∀ p, p ∈ h.dat ↔ ∃ q ∈ g.dat, p = mP π q
 cts : h.ctrl.Pairwise Rise
 ct : ∀ p, p ∈ h.ctrl ↔ ∃ q ∈ g.ctrl, p = mP π q
theorem Qsn {a b : List Int} (ha : a.Pairwise (· < ·)) (hb : b.Pairwise (· < ·)) (h : ∀ x, x ∈ a ↔ x ∈ b) : a = b := by
 have h1 := Qe3 b a ha hb (fun x hx => (h x).1 hx)
 have h2 := Qe3 a b hb ha (fun x hx => (h x).2 hx)
 exact h1.eq_of_length (Nat.le_antisymm h1.length_le h2.length_le)
theorem Qso {evs : List Ev} {a b : Nat} {t : Int} : (Qda evs a b).any (fun e => e.t == t) = true ↔ ∃ j, a < j ∧ j < b ∧ j < evs.length ∧ (evs.getD j Ev.zero).t = t := by
 unfold Qda
 rw [List.any_eq_true]
 constructor
 ·rintro ⟨e, he, ht⟩
  obtain ⟨k, hk, rfl⟩ := List.mem_iff_getElem.1 he
  rw [List.getElem_drop, List.getElem_take] at ht
  rw [List.length_drop, List.length_take] at hk
  refine ⟨a + 1 + k, oW, oW, oW, ?_⟩
  rw [List.getD_eq_getElem?_getD, List.getElem?_eq_getElem oW]
  simpa using ht
 ·rintro ⟨j, h1, h2, h3, h4⟩
  rw [List.getD_eq_getElem?_getD, List.getElem?_eq_getElem h3] at h4
  refine ⟨evs[j], ?_, by simpa using h4⟩
  rw [List.mem_iff_getElem]
  refine ⟨j - (a + 1), by rw [List.length_drop, List.length_take]; omega, ?_⟩
  rw [List.getElem_drop, List.getElem_take]
  congr 1
  omega
theorem Qsp (l : List Nat) (i : Nat) (hi : i < (toI l).length) : (toI l)[i] = ((l.getD i 0 : Nat) : Int) := by
 have h2 : i < l.length := by rw [toI, List.length_map] at hi; exact hi
 have : (toI l)[i]? = some (((l.getD i 0 : Nat) : Int)) := by
  unfold toI
  rw [List.getElem?_map, List.getElem?_eq_getElem h2, List.getD_eq_getElem?_getD, List.getElem?_eq_getElem h2]
  rfl
 rw [List.getElem?_eq_getElem hi] at this
 exact Option.some.inj this
theorem Qp7 {g : Gr} : Qbt g = -1 ↔ g.rf.map (·.2) = toI g.reads ∧ ∀ x ∈ g.rf, isB g.evs x.1 [2] = true ∧ Qcp g x = true := by
 have key : Qak (fun i => !(Qb0 g i (g.rf.getD i (0, 0)) && Qcp g (g.rf.getD i (0, 0)))) 0 g.rf.length = -1 ↔ ∀ i, (hi : i < g.rf.length) → i < g.reads.length ∧ g.rf[i].2 = ((g.reads.getD i 0 : Nat) : Int) ∧ isB g.evs g.rf[i].1 [2] = true ∧ Qcp g g.rf[i] = true := by
  constructor
  ·intro h i hi
   have := Qh8 h i (Nat.zero_le _) oW
   rw [List.getD_eq_getElem?_getD, List.getElem?_eq_getElem hi, Option.getD_some] at this
   unfold Qb0 at this
   simp only [Bool.not_eq_false', Bool.and_eq_true, decide_eq_true_eq] at this
   exact ⟨this.1.1.1, this.1.1.2, this.1.2, this.2⟩
  ·intro h
   refine Qai (fun i _ hi => ?_)
   have hi : i < g.rf.length := by omega
   obtain ⟨h1, h2, h3, h4⟩ := h i hi
   rw [List.getD_eq_getElem?_getD, List.getElem?_eq_getElem hi, Option.getD_some]
   unfold Qb0
   rw [decide_eq_true h1, decide_eq_true h2, h3, h4]
   rfl
 unfold Qbt
 dsimp only
 constructor
 ·intro h
  by_cases e : Qak (fun i => !(Qb0 g i (g.rf.getD i (0, 0)) && Qcp g (g.rf.getD i (0, 0)))) 0 g.rf.length = -1
  ·rw [if_pos e] at h
   have hl : ¬ g.rf.length < g.reads.length := fun hl => by rw [if_pos hl] at h; omega
   have hk := key.1 e
   refine ⟨?_, fun x hx => ?_⟩
   ·refine List.ext_getElem ?_ (fun i h1 h2 => ?_)
    ·rw [List.length_map, toI, List.length_map]
     by_cases h0 : g.rf.length = 0
     ·omega
     ·have := (hk (g.rf.length - 1) oW).1
      omega
    ·rw [List.length_map] at h1
     rw [List.getElem_map, (hk i h1).2.1, Qsp]
   ·obtain ⟨i, hi, rfl⟩ := List.mem_iff_getElem.1 hx
    exact (hk i hi).2.2
  ·rw [if_neg e] at h
   exact absurd h e
 ·rintro ⟨h1, h2⟩
  have hl : g.rf.length = g.reads.length := by have := congrArg List.length h1; rwa [List.length_map, toI, List.length_map] at this
  have e := key.2 (fun i hi => ⟨oW, by
   have : (g.rf.map (·.2))[i]'(by rw [List.length_map]; exact hi) = (toI g.reads)[i]'(by rw [toI, List.length_map]; omega) := by simp only [h1]
   rw [List.getElem_map] at this
   rw [this, Qsp], h2 _ (List.getElem_mem hi)⟩)
  rw [if_pos e, if_neg oW]
theorem Qmf {g : Gr} : Qdb g = -1 ↔ g.rmw.Pairwise (fun p q => p.1 < q.1) ∧ ∀ x ∈ g.rmw, okU g.evs x = true := by
 unfold Qdb
 constructor
 ·intro h
  have h2 := Qh8 h
  have h3 : ∀ i, (hi : i < g.rmw.length) → Qcz g.rmw i = true ∧ okU g.evs g.rmw[i] = true := fun i hi => by
   have := h2 i (Nat.zero_le _) oW
   rw [List.getD_eq_getElem?_getD, List.getElem?_eq_getElem hi, Option.getD_some] at this
   simpa using this
  refine ⟨?_, fun x hx => ?_⟩
  ·rw [List.pairwise_iff_getElem]
   have one : ∀ i (h1 : i < g.rmw.length) (h2 : i + 1 < g.rmw.length), g.rmw[i].1 < g.rmw[i + 1].1 := fun i h1 h2 => by
    have := (h3 (i + 1) h2).1
    unfold Qcz at this
    rw [Nat.add_sub_cancel, List.getD_eq_getElem?_getD, List.getD_eq_getElem?_getD, List.getElem?_eq_getElem h1, List.getElem?_eq_getElem h2] at this
    simpa using this
   have key : ∀ d i (h1 : i < g.rmw.length) (h2 : i + 1 + d < g.rmw.length), g.rmw[i].1 < g.rmw[i + 1 + d].1 := by
    intro d
    induction d with
    | zero => exact fun i h1 h2 => one i h1 h2
    | succ d ih => exact fun i h1 h2 => Int.lt_trans (ih i h1 oW) (one (i + 1 + d) oW h2)
   intro i j hi hj hij
   obtain ⟨d, rfl⟩ : ∃ d, j = i + 1 + d := ⟨j - (i + 1), oW⟩
   exact key d i hi hj
  ·obtain ⟨i, hi, rfl⟩ := List.mem_iff_getElem.1 hx
   exact (h3 i hi).2
 ·rintro ⟨h1, h2⟩
  refine Qai (fun i _ hi => ?_)
  have hi : i < g.rmw.length := by omega
  have : Qcz g.rmw i = true := by
   unfold Qcz
   by_cases e : i = 0
   ·simp [e]
   ·have := (List.pairwise_iff_getElem.1 h1) (i - 1) i oW hi oW
    rw [List.getD_eq_getElem?_getD, List.getD_eq_getElem?_getD, List.getElem?_eq_getElem oW, List.getElem?_eq_getElem hi]
    simp [this]
  rw [this, List.getD_eq_getElem?_getD, List.getElem?_eq_getElem hi]
  simp [h2 _ (List.getElem_mem hi)]
section
variable {g h : Gr} {π σ : Nat → Nat}
theorem Mv.inj (w : Mv g h π σ) {i j : Nat} (hi : i < g.evs.length) (hj : j < g.evs.length) (e : π i = π j) : i = j := by rw [← (w.a i hi).2, ← (w.a j hj).2, e]
theorem Mv.ev (w : Mv g h π σ) {i : Nat} (hi : i < g.evs.length) : h.evs.getD (π i) Ev.zero = g.evs.getD i Ev.zero := w.e i hi
theorem Mv.isb (w : Mv g h π σ) {x : Nat} (hx : x < g.evs.length) (ks : List Int) : isB h.evs ((π x : Nat) : Int) ks = isB g.evs ((x : Nat) : Int) ks := by
 have h1 := (w.a x hx).1
 unfold isB
 rw [Int.toNat_natCast, Int.toNat_natCast, w.ev hx, w.n, decide_eq_true (by omega : (0 : Int) ≤ ((π x : Nat) : Int)), decide_eq_true (by omega : (0 : Int) ≤ (x : Int)), decide_eq_true (by omega : ((π x : Nat) : Int) < (g.evs.length : Int)), decide_eq_true (by omega : (x : Int) < (g.evs.length : Int))]
theorem Mv.lt (w : Mv g h π σ) {i j : Nat} (hi : i < g.evs.length) (hj : j < g.evs.length) (ht : (g.ev i).t = (g.ev j).t) : π i < π j ↔ i < j := by
 constructor
 ·intro k
  by_cases e : i < j
  ·exact e
  ·by_cases e2 : i = j
   ·subst e2; omega
   ·have := w.o j i oW hi ht.symm
    omega
 ·exact fun k => w.o i j k hj ht
theorem Mv.po (w : Mv g h π σ) {i j : Nat} (hi : i < g.evs.length) (hj : j < g.evs.length) : poB h.evs (π i) (π j) = poB g.evs i j := by
 unfold poB
 rw [w.ev hi, w.ev hj]
 by_cases ht : (g.evs.getD i Ev.zero).t = (g.evs.getD j Ev.zero).t
 ·rw [decide_eq_decide.2 (w.lt hi hj ht)]
 ·rw [decide_eq_false ht, Bool.and_false, Bool.and_false]
theorem Mv.hi (w : Mv g h π σ) {i : Nat} (hi : i < g.evs.length) (hc : g.cells ≤ ((i : Nat) : Int)) : g.cells ≤ ((σ i : Nat) : Int) := by
 by_cases e : ((σ i : Nat) : Int) < g.cells
 ·have h1 := w.i _ e
  rw [(w.b i hi).2] at h1
  omega
 ·omega
theorem Mv.wr (w : Mv g h π σ) (c : Int) {i : Nat} (hi : i < g.evs.length) : Qc2 h c (π i) = Qc2 g c i := by
 unfold Qc2
 rw [w.e i hi]
theorem Mv.wrl (w : Mv g h π σ) (c : Int) : (wrs h c h.evs.length).length = (wrs g c g.evs.length).length := by
 have hn : ((wrs g c g.evs.length).map (mI π)).Nodup := by
  rw [List.Nodup, List.pairwise_map]
  refine List.Pairwise.imp_of_mem (fun {a b} ha hb hab => ?_) (Qih g c _)
  obtain ⟨i, rfl, hi, _⟩ := Qdr.1 ha
  obtain ⟨j, rfl, hj, _⟩ := Qdr.1 hb
  rw [Qbh, Qbh]
  intro e
  have := w.inj hi hj oW
  omega
 have h1 := Qpd (Qr8 _) ((Qjn ((wrs g c g.evs.length).map (mI π))).nodup_iff.2 hn)
 have h2 := Qsn h1 (Qih h c h.evs.length) (fun x => by
  rw [Qik, List.mem_map, Qdr, w.n]
  constructor
  ·rintro ⟨y, hy, rfl⟩
   obtain ⟨i, rfl, hi, hw⟩ := Qdr.1 hy
   exact ⟨π i, Qbh _ _, (w.a i hi).1, by rw [w.wr c hi]; exact hw⟩
  ·rintro ⟨i, rfl, hi, hw⟩
   refine ⟨((σ i : Nat) : Int), Qdr.2 ⟨σ i, rfl, (w.b i hi).1, ?_⟩, ?_⟩
   ·rw [← w.wr c (w.b i hi).1, (w.b i hi).2]; exact hw
   ·rw [Qbh, (w.b i hi).2])
 rw [← h2, Qii, List.length_map]
theorem Mv.ordl (w : Mv g h π σ) {c : Nat} (hc : ((c : Nat) : Int) < g.cells) {l : List Int} (hne : l ≠ []) (hl : Qau l ((c : Nat) : Int) (wrs g ((c : Nat) : Int) g.evs.length) = true) : Qau (l.map (mI π)) ((c : Nat) : Int) (wrs h ((c : Nat) : Int) h.evs.length) = true := by
 obtain ⟨h1, h2, h3, h4⟩ := Qnu hl
 refine Qnt (by rw [List.length_map, h1, w.wrl]) ?_ ⟨fun i x hx => ?_, fun i j x hij hx hy => ?_⟩
 ·obtain ⟨y, t, rfl⟩ := List.exists_cons_of_ne_nil hne
  have h2 : y = (c : Int) := h2
  show mI π y = _
  rw [h2, Qbh, w.i c hc]
 ·rw [List.getElem?_map] at hx
  cases hq : l[i]? with
  | none => rw [hq] at hx; cases hx
  | some y =>
   rw [hq] at hx
   cases hx
   obtain ⟨k, rfl, hk, hw⟩ := h3 i y hq
   exact ⟨π k, Qbh _ _, by rw [w.n]; exact (w.a k hk).1, by rw [w.wr _ hk]; exact hw⟩
 ·rw [List.getElem?_map] at hx hy
  cases hq : l[i]? with
  | none => rw [hq] at hx; cases hx
  | some y =>
   cases hr : l[j]? with
   | none => rw [hr] at hy; cases hy
   | some z =>
    rw [hq] at hx
    rw [hr] at hy
    cases hx
    have e : mI π z = mI π y := Option.some.inj hy
    obtain ⟨k, rfl, hk, _⟩ := h3 i y hq
    obtain ⟨m, rfl, hm, _⟩ := h3 j z hr
    rw [Qbh, Qbh] at e
    have := w.inj hm hk oW
    subst this
    exact h4 i j _ hij hq hr
end
section
variable {g h : Gr} {π σ : Nat → Nat} {p q : Nat}
theorem Qiy (hw : Wf g true) {x : Int × Int} (hx : x ∈ g.rf) : ∃ a b : Nat, x = (((a : Nat) : Int), ((b : Nat) : Int)) ∧ a < g.evs.length ∧ b < g.evs.length := by
 obtain ⟨i, hi, e⟩ := List.mem_iff_getElem.1 hx
 obtain ⟨a, b, e2, ha, hb, _⟩ := Qyz hw (i := i) (x := x) (by rw [List.getElem?_eq_getElem hi, e])
 exact ⟨a, b, e2, ha, hb⟩
theorem Qkc (hw : Wf g true) {x : Int × Int} (hx : x ∈ g.rmw) : ∃ a b : Nat, x = (((a : Nat) : Int), ((b : Nat) : Int)) ∧ a < g.evs.length ∧ b < g.evs.length := by
 have h6 := (Qmf.1 (show Qdb g = -1 from hw 5 oW)).2 x hx
 unfold okU Qfm at h6
 simp only [Bool.and_eq_true] at h6
 obtain ⟨a, ea, ha⟩ := Qbw h6.1.1.1
 obtain ⟨b, eb, hb⟩ := Qbw h6.1.1.2
 exact ⟨a, b, by rw [← ea, ← eb], ha, hb⟩
theorem Qgd {l : List (Int × Int)} {ks : List Int} (hd : Qcf g.evs true l ks = -1) {x : Int × Int} (hx : x ∈ l) : ∃ a b : Nat, x = (((a : Nat) : Int), ((b : Nat) : Int)) ∧ a < g.evs.length ∧ b < g.evs.length := by
 have h6 := (Qj.1 hd).2 x hx
 unfold Qe at h6
 simp only [Bool.and_eq_true] at h6
 obtain ⟨a, ea, ha⟩ := Qbw h6.1.1
 obtain ⟨b, eb, hb⟩ := Qbw h6.1.2
 exact ⟨a, b, by rw [← ea, ← eb], ha, hb⟩
theorem Mv.gap (w : Mv g h π σ) {a b : Nat} (ha : a < g.evs.length) (hb : b < g.evs.length) (hab : (g.ev a).t = (g.ev b).t) :
  (Qda h.evs (π a) (π b)).any (fun e => e.t == (g.ev a).t) = (Qda g.evs a b).any (fun e => e.t == (g.ev a).t) := by
 rw [Bool.eq_iff_iff, Qso, Qso]
 constructor
 ·rintro ⟨j, h1, h2, h3, h4⟩
  rw [w.n] at h3
  obtain ⟨k1, k2⟩ := w.b j h3
  rw [← k2] at h1 h2 h4
  rw [w.ev k1] at h4
  have h4 : (g.ev (σ j)).t = (g.ev a).t := h4
  exact ⟨σ j, (w.lt ha k1 h4.symm).1 h1, (w.lt k1 hb (h4.trans hab)).1 h2, k1, h4⟩
 ·rintro ⟨j, h1, h2, h3, h4⟩
  have h4' : (g.ev j).t = (g.ev a).t := h4
  exact ⟨π j, (w.lt ha h3 h4'.symm).2 h1, (w.lt h3 hb (h4'.trans hab)).2 h2, by rw [w.n]; exact (w.a j h3).1, by rw [w.ev h3]; exact h4⟩
theorem Mv.dep (w : Mv g h π σ) {l l' : List (Int × Int)} {ks : List Int} (hd : Qcf g.evs true l ks = -1) (hs : l'.Pairwise Rise) (hm : ∀ p, p ∈ l' ↔ ∃ q ∈ l, p = mP π q) : Qcf h.evs true l' ks = -1 := by
 rw [Qj]
 refine ⟨hs, fun p hp => ?_⟩
 obtain ⟨x, hx, rfl⟩ := (hm p).1 hp
 obtain ⟨a, b, rfl, ha, hb⟩ := Qgd hd hx
 have h6 := (Qj.1 hd).2 _ hx
 unfold Qe at h6 ⊢
 unfold mP
 dsimp only at h6 ⊢
 rw [Qbh, Qbh, w.isb ha, w.isb hb, Int.toNat_natCast, Int.toNat_natCast, w.po ha hb]
 rw [Int.toNat_natCast, Int.toNat_natCast] at h6
 exact h6
theorem Mv.oku (w : Mv g h π σ) {a b : Nat} (ha : a < g.evs.length) (hb : b < g.evs.length) (h6 : okU g.evs (((a : Nat) : Int), ((b : Nat) : Int)) = true) : okU h.evs (((π a : Nat) : Int), ((π b : Nat) : Int)) = true := by
 unfold okU Qfm at h6 ⊢
 dsimp only at h6 ⊢
 rw [Int.toNat_natCast, Int.toNat_natCast] at h6 ⊢
 rw [w.isb ha, w.isb hb, w.po ha hb, w.ev ha, w.ev hb]
 have hpo : poB g.evs a b = true := by
  simp only [Bool.and_eq_true] at h6
  exact h6.1.2
 have ht : (g.ev a).t = (g.ev b).t := by
  unfold poB at hpo
  simp only [Bool.and_eq_true, decide_eq_true_eq] at hpo
  exact hpo.1.2
 have := w.gap ha hb ht
 have e1 : (g.ev a).t = (g.evs.getD a Ev.zero).t := rfl
 rw [e1] at this
 rw [this]
 exact h6
theorem Mv.ck (w : Mv g h π σ) (hw : Wf g true) : Wf h true := by
 have r0 : (if Qar g then (0 : Int) else -1) = -1 := hw 0 oW
 have b1 : Qar g = false := by cases e : Qar g; rfl; rw [e] at r0; simp at r0
 have hcl : 0 ≤ g.cells ∧ g.cells ≤ (g.evs.length : Int) := by
  unfold Qar at b1
  simp at b1
  omega
 have r1 : Qcg g true = -1 := hw 1 oW
 have r2 : Qdc g true = -1 := hw 2 oW
 intro j hj
 match j, hj with
 | 0, _ =>
  show (if Qar h then (0 : Int) else -1) = -1
  have : Qar h = Qar g := by unfold Qar; rw [w.c, w.n]
  rw [this, b1]
  rfl
 | 1, _ =>
  show Qcg h true = -1
  unfold Qcg
  refine Qai (fun i _ hi => ?_)
  rw [w.c] at hi
  have e := Qjp r1 (c := i) oW
  have e2 := w.e i oW
  rw [w.i i oW, e] at e2
  exact @decide_eq_false _ (Ev.ndec _ _) (fun hne => hne e2)
 | 2, _ =>
  show Qdc h true = -1
  unfold Qdc
  refine Qai (fun i h1 hi => ?_)
  rw [w.c] at h1 hi ⊢
  rw [w.n] at hi
  have hi2 : i < g.evs.length := by omega
  have h2 := w.hi hi2 oW
  have e := Ql2 r2 (i := σ i) h2 (w.b i hi2).1
  have e2 := w.e (σ i) (w.b i hi2).1
  rw [(w.b i hi2).2] at e2
  rw [e2, e]
  rfl
 | 3, _ =>
  show Qbt h = -1
  obtain ⟨k1, k2⟩ := Qp7.1 (show Qbt g = -1 from hw 3 oW)
  rw [Qp7]
  refine ⟨Qsn ?_ ?_ (fun x => ?_), fun x hx => ?_⟩
  ·rw [List.pairwise_map]
   exact w.rfs
  ·unfold toI
   rw [List.pairwise_map]
   unfold Gr.reads Qa9
   refine List.Pairwise.imp (R := (· < ·)) (fun {a b} h => by omega) (List.Pairwise.filter _ List.pairwise_lt_range)
  ·rw [List.mem_map]
   have hrd : ∀ (g : Gr) (x : Int), x ∈ toI g.reads ↔ ∃ r : Nat, x = ((r : Nat) : Int) ∧ r < g.evs.length ∧ (g.ev r).k = 1 := fun g x => by
    unfold toI Gr.reads Qa9
    simp only [List.mem_map, List.mem_filter, List.mem_range, beq_iff_eq]
    constructor
    ·rintro ⟨r, ⟨h1, h2⟩, rfl⟩; exact ⟨r, rfl, h1, h2⟩
    ·rintro ⟨r, rfl, h1, h2⟩; exact ⟨r, ⟨h1, h2⟩, rfl⟩
   rw [hrd]
   constructor
   ·rintro ⟨y, hy, rfl⟩
    obtain ⟨z, hz, rfl⟩ := (w.rf y).1 hy
    have : z.2 ∈ g.rf.map (·.2) := List.mem_map_of_mem hz
    rw [k1, hrd] at this
    obtain ⟨r, e, hr, hk⟩ := this
    refine ⟨π r, by unfold mP; dsimp only; rw [e, Qbh], by rw [w.n]; exact (w.a r hr).1, by rw [w.e r hr]; exact hk⟩
   ·rintro ⟨r, rfl, hr, hk⟩
    rw [w.n] at hr
    obtain ⟨m1, m2⟩ := w.b r hr
    have hk2 : (g.ev (σ r)).k = 1 := by rw [← w.e _ m1, m2]; exact hk
    have : ((σ r : Nat) : Int) ∈ g.rf.map (·.2) := by rw [k1, hrd]; exact ⟨σ r, rfl, m1, hk2⟩
    obtain ⟨z, hz, e⟩ := List.mem_map.1 this
    refine ⟨mP π z, (w.rf _).2 ⟨z, hz, rfl⟩, ?_⟩
    unfold mP
    dsimp only
    rw [e, Qbh, m2]
  ·obtain ⟨z, hz, rfl⟩ := (w.rf x).1 hx
   obtain ⟨a, b, rfl, ha, hb⟩ := Qiy hw hz
   obtain ⟨m1, m2⟩ := k2 _ hz
   unfold mP Qcp at *
   dsimp only at m1 m2 ⊢
   rw [Qbh, Qbh, w.isb ha, Int.toNat_natCast, Int.toNat_natCast, w.e a ha, w.e b hb]
   rw [Int.toNat_natCast, Int.toNat_natCast] at m2
   exact ⟨m1, m2⟩
 | 4, _ =>
  show Qbq h = -1
  obtain ⟨k1, k2⟩ := ok5 hw
  have hcell : ∀ c : Nat, c < g.cells.toNat → Qao h c = false := fun c hc => by
   obtain ⟨l, hl⟩ : ∃ l, g.co[c]? = some l := ⟨_, List.getElem?_eq_getElem oW⟩
   have hl0 := (Qmx hw hl).1
   unfold Qao
   rw [w.co, List.getD_eq_getElem?_getD, List.getElem?_map, hl, List.length_map, decide_eq_false oW]
   show (false || !Qau (l.map (mI π)) _ _) = false
   rw [w.ordl oW (List.length_pos_iff.1 hl0) (k2 c l hl)]
   rfl
  unfold Qbq
  rw [w.c, Qai (fun i _ hi => hcell i oW), if_pos rfl, w.co, List.length_map, if_pos oW]
 | 5, _ =>
  show Qdb h = -1
  rw [Qmf]
  refine ⟨w.rms, fun x hx => ?_⟩
  obtain ⟨z, hz, rfl⟩ := (w.rm x).1 hx
  obtain ⟨a, b, rfl, ha, hb⟩ := Qkc hw hz
  unfold mP
  dsimp only
  rw [Qbh, Qbh]
  exact w.oku ha hb ((Qmf.1 (show Qdb g = -1 from hw 5 oW)).2 _ hz)
 | 6, _ => exact w.dep (hw 6 oW) w.ads w.ad
 | 7, _ => exact w.dep (hw 7 oW) w.das w.da
 | 8, _ => exact w.dep (hw 8 oW) w.cts w.ct
theorem Mv.mem (w : Mv g h π σ) {l l' : List (Int × Int)} (hl : ∀ x ∈ l, ∃ a b : Nat, x = (((a : Nat) : Int), ((b : Nat) : Int)) ∧ a < g.evs.length ∧ b < g.evs.length) (hm : ∀ p, p ∈ l' ↔ ∃ q ∈ l, p = mP π q) (hp : p < g.evs.length) (hq : q < g.evs.length) : Qci l' (π p) (π q) = Qci l p q := by
 unfold Qci
 rw [decide_eq_decide, hm]
 constructor
 ·rintro ⟨x, hx, e⟩
  obtain ⟨a, b, rfl, ha, hb⟩ := hl x hx
  unfold mP at e
  dsimp only at e
  rw [Qbh, Qbh] at e
  injection e with e1 e2
  rw [w.inj hp ha oW, w.inj hq hb oW]
  exact hx
 ·intro hx
  refine ⟨_, hx, ?_⟩
  unfold mP
  dsimp only
  rw [Qbh, Qbh]
theorem Qiz {α β : Type} {f g : α → List β} : ∀ {l : List α}, (∀ x ∈ l, f x = g x) → l.flatMap f = l.flatMap g
 | [], _ => rfl
 | a :: l, h => by rw [List.flatMap_cons, List.flatMap_cons, h a List.mem_cons_self, Qiz (fun x hx => h x (List.mem_cons_of_mem _ hx))]
theorem Qv6 {f : Int → Int} (h0 : ∀ l : List Int, ∀ i, i < l.length → (l.map f).getD i 0 = f (l.getD i 0)) (l : List Int) : Qeh (l.map f) l.length = (Qeh l l.length).map (fun p => (f p.1, f p.2)) := by
 unfold Qeh
 rw [List.map_flatMap]
 refine Qiz (fun i hi => ?_)
 have hi := List.mem_range.1 hi
 unfold Qea
 rw [← List.map_take, List.map_map, List.map_map]
 refine List.map_congr_left (fun x _ => ?_)
 show (f x, (l.map f).getD i 0) = (f x, f (l.getD i 0))
 rw [h0 l i hi]
theorem Qtx {f : Int → Int} (h0 : ∀ l : List Int, ∀ i, i < l.length → (l.map f).getD i 0 = f (l.getD i 0)) (ls : List (List Int)) : Qbo (ls.map (fun l => l.map f)) ls.length = (Qbo ls ls.length).map (fun p => (f p.1, f p.2)) := by
 unfold Qbo
 rw [List.take_length, List.take_of_length_le sW, List.flatMap_map, List.map_flatMap]
 refine Qiz (fun l _ => ?_)
 rw [List.length_map]
 exact Qv6 h0 l
theorem Qv7 (f : Int → Int) (l : List Int) (i : Nat) (hi : i < l.length) : (l.map f).getD i 0 = f (l.getD i 0) := by
 rw [List.getD_eq_getElem?_getD, List.getElem?_map, List.getElem?_eq_getElem hi, List.getD_eq_getElem?_getD, List.getElem?_eq_getElem hi]
 rfl
theorem QBq (hw : Wf g true) {x : Int × Int} (hx : x ∈ Qbo g.co g.co.length) : ∃ a b : Nat, x = (((a : Nat) : Int), ((b : Nat) : Int)) ∧ a < g.evs.length ∧ b < g.evs.length := by
 unfold Qbo at hx
 rw [List.take_length, List.mem_flatMap] at hx
 obtain ⟨l, hl, hx⟩ := hx
 obtain ⟨c, hc, e⟩ := List.mem_iff_getElem.1 hl
 have hall := (Qmx hw (c := c) (l := l) (by rw [List.getElem?_eq_getElem hc, e])).2
 unfold Qeh at hx
 rw [List.mem_flatMap] at hx
 obtain ⟨i, hi, hx⟩ := hx
 have hi := List.mem_range.1 hi
 unfold Qea at hx
 obtain ⟨y, hy, rfl⟩ := List.mem_map.1 hx
 obtain ⟨a, ea, ha, _⟩ := hall y (List.mem_of_mem_take hy)
 have hm : l.getD i 0 ∈ l := by rw [List.getD_eq_getElem?_getD, List.getElem?_eq_getElem hi]; exact List.getElem_mem hi
 obtain ⟨b, eb, hb, _⟩ := hall _ hm
 exact ⟨a, b, by rw [ea, eb], ha, hb⟩
theorem Mv.cob (w : Mv g h π σ) (hw : Wf g true) (hp : p < g.evs.length) (hq : q < g.evs.length) : coB h (π p) (π q) = coB g p q := by
 have e : Qbo h.co h.co.length = (Qbo g.co g.co.length).map (mP π) := by
  rw [w.co, List.length_map]
  exact Qtx (Qv7 _) g.co
 have := w.mem (p := p) (q := q) (l := Qbo g.co g.co.length) (l' := Qbo h.co h.co.length) (fun x hx => QBq hw hx) (fun x => by rw [e, List.mem_map]; exact ⟨fun ⟨y, hy, e⟩ => ⟨y, hy, e.symm⟩, fun ⟨y, hy, e⟩ => ⟨y, hy, e.symm⟩⟩) hp hq
 unfold Qci at this
 unfold coB
 exact this
theorem Mv.frb (w : Mv g h π σ) (hw : Wf g true) (hp : p < g.evs.length) (hq : q < g.evs.length) : frB h (π p) (π q) = frB g p q := by
 unfold frB
 rw [Bool.eq_iff_iff, List.any_eq_true, List.any_eq_true]
 constructor
 ·rintro ⟨m, hm, h1⟩
  rw [List.mem_range, w.n] at hm
  obtain ⟨m1, m2⟩ := w.b m hm
  rw [← m2, w.mem (fun x hx => Qiy hw hx) w.rf m1 hp, w.cob hw m1 hq] at h1
  exact ⟨σ m, List.mem_range.2 m1, h1⟩
 ·rintro ⟨m, hm, h1⟩
  have hm := List.mem_range.1 hm
  refine ⟨π m, by rw [List.mem_range, w.n]; exact (w.a m hm).1, ?_⟩
  rw [w.mem (fun x hx => Qiy hw hx) w.rf hm hp, w.cob hw hm hq]
  exact h1
theorem Mv.rg (w : Mv g h π σ) (hw : Wf g true) (k p q : Nat) (hk : k < 10) (hp : p < g.evs.length) (hq : q < g.evs.length) : Rg h k (π p) (π q) ↔ Rg g k p q := by
 have p1 : π p < h.evs.length := by rw [w.n]; exact (w.a p hp).1
 have q1 : π q < h.evs.length := by rw [w.n]; exact (w.a q hq).1
 have key : ∀ {a b c : Prop} {a' b' : Prop}, a → b → a' → b' → ((a ∧ b ∧ c) ↔ (a' ∧ b' ∧ c)) := fun h1 h2 h3 h4 => ⟨fun h => ⟨h3, h4, h.2.2⟩, fun h => ⟨h1, h2, h.2.2⟩⟩
 match k, hk with
 | 0, _ => rw [rg0, rg0, w.po hp hq]; exact key p1 q1 hp hq
 | 1, _ => rw [rg1, rg1, w.mem (fun x hx => Qiy hw hx) w.rf hp hq]; exact key p1 q1 hp hq
 | 2, _ => rw [rg2, rg2, w.cob hw hp hq]; exact key p1 q1 hp hq
 | 3, _ => rw [rg3, rg3, w.frb hw hp hq]; exact key p1 q1 hp hq
 | 4, _ => rw [rg4, rg4, w.mem (fun x hx => Qkc hw hx) w.rm hp hq]; exact key p1 q1 hp hq
 | 5, _ => rw [rg5, rg5]; unfold Ql5; rw [w.ev hp, w.ev hq]; exact key p1 q1 hp hq
 | 6, _ => rw [rg6, rg6]; unfold Qhz; rw [w.ev hp, w.ev hq]; exact key p1 q1 hp hq
 | 7, _ => rw [rg7, rg7, w.mem (fun x hx => Qgd (hw 6 oW) hx) w.ad hp hq]; exact key p1 q1 hp hq
 | 8, _ => rw [rg8, rg8, w.mem (fun x hx => Qgd (hw 7 oW) hx) w.da hp hq]; exact key p1 q1 hp hq
 | 9, _ => rw [rg9, rg9, w.mem (fun x hx => Qgd (hw 8 oW) hx) w.ct hp hq]; exact key p1 q1 hp hq
end
open Relation
structure Iso (g h : Gr) (π σ : Nat → Nat) : Prop where
 n : h.evs.length = g.evs.length
 a : ∀ i, i < g.evs.length → π i < g.evs.length ∧ σ (π i) = i
 b : ∀ i, i < g.evs.length → σ i < g.evs.length ∧ π (σ i) = i
 k : ∀ i, i < g.evs.length → (h.ev (π i)).k = (g.ev i).k
 m : ∀ i, i < g.evs.length → (h.ev (π i)).m = (g.ev i).m
 r : ∀ k p q, k < 10 → p < g.evs.length → q < g.evs.length → (Rg h k (π p) (π q) ↔ Rg g k p q)
section
variable {g h : Gr} {π σ : Nat → Nat} {p q : Nat}
theorem Mv.iso (w : Mv g h π σ) (hw : Wf g true) : Iso g h π σ := ⟨w.n, w.a, w.b, fun i hi => by rw [w.e i hi], fun i hi => by rw [w.e i hi], w.rg hw⟩
theorem Iso.symm (w : Iso g h π σ) : Iso h g σ π := by
 refine ⟨w.n.symm, ?_, ?_, fun i hi => ?_, fun i hi => ?_, fun k p q hk hp hq => ?_⟩
 ·rw [w.n]; exact w.b
 ·rw [w.n]; exact w.a
 ·rw [w.n] at hi
  have := w.k (σ i) (w.b i hi).1
  rw [(w.b i hi).2] at this
  exact this.symm
 ·rw [w.n] at hi
  have := w.m (σ i) (w.b i hi).1
  rw [(w.b i hi).2] at this
  exact this.symm
 ·rw [w.n] at hp hq
  have := w.r k (σ p) (σ q) hk (w.b p hp).1 (w.b q hq).1
  rw [(w.b p hp).2, (w.b q hq).2] at this
  exact this.symm
theorem Iso.f (w : Iso g h π σ) {k : Nat} (hk : k < 10) (c : Rg g k p q) : Rg h k (π p) (π q) := (w.r k p q hk (Rg.l c) (Rg.r c)).2 c
theorem Iso.nf (w : Iso g h π σ) {k : Nat} (hk : k < 10) (hp : p < g.evs.length) (hq : q < g.evs.length) (c : ¬ Rg g k p q) : ¬ Rg h k (π p) (π q) := fun d => c ((w.r k p q hk hp hq).1 d)
theorem Iso.cl (w : Iso g h π σ) {i : Nat} (hi : i < 17) (c : ClP g i p q) : ClP h i (π p) (π q) := by
 have F := fun {k p q : Nat} (hk : k < 10) (c : Rg g k p q) => w.f hk c
 match i, hi, c with
 | 0, _, c => exact ⟨F oW c.1, F oW c.2⟩
 | 1, _, c => exact ⟨F oW c.1, F oW c.2⟩
 | 2, _, c => exact ⟨F oW c.1, F oW c.2⟩
 | 3, _, c => exact F oW (show Rg g 7 p q from c)
 | 4, _, c => exact F oW (show Rg g 8 p q from c)
 | 5, _, c => exact ⟨F oW c.1, (w.k q (Rg.r c.1)).trans c.2⟩
 | 6, _, ⟨m, h1, h2, h3⟩ => exact ⟨π m, F oW h1, F oW h2, (w.k q (Rg.r h2)).trans h3⟩
 | 7, _, ⟨m, h1, h2, h3⟩ => exact ⟨π m, h1.elim (fun c => .inl (F oW c)) (fun c => .inr (F oW c)), F oW h2, w.nf oW (Rg.l h2) (Rg.r h2) h3⟩
 | 8, _, ⟨m, h1, h2, h3⟩ => exact ⟨π m, h1.elim (fun c => .inl (F oW c)) (fun c => .inr (F oW c)), F oW h2, w.nf oW (Rg.l h2) (Rg.r h2) h3⟩
 | 9, _, c => exact F oW (show Rg g 4 p q from c)
 | 10, _, ⟨⟨m, h0, h1⟩, h2, h3⟩ => exact ⟨⟨π m, (w.k m (Rg.l h1)).trans h0, F oW h1⟩, ⟨F oW h2.1, w.nf oW (Rg.l h2.1) (Rg.r h2.1) h2.2⟩, by rw [w.m q (Rg.r h2.1)]; exact h3⟩
 | 11, _, ⟨m, h1, h2, h3⟩ => exact ⟨π m, F oW h1, by rw [w.m m (Rg.r h1)]; exact h2, F oW h3⟩
 | 12, _, ⟨h0, m, h1, h2, h3⟩ => exact ⟨(w.k p (Rg.l h1)).trans h0, π m, F oW h1, by rw [w.m m (Rg.r h1)]; exact h2, F oW h3⟩
 | 13, _, ⟨h1, h2, h3⟩ => exact ⟨by rw [w.m p (Rg.l h2)]; exact h1, F oW h2, by rw [w.m q (Rg.r h2)]; exact h3⟩
 | 14, _, ⟨h1, h2⟩ => exact ⟨by rw [w.m p (Rg.l h2)]; exact h1, F oW h2⟩
 | 15, _, ⟨h1, h2⟩ => exact ⟨F oW h1, by rw [w.m q (Rg.r h1)]; exact h2⟩
 | 16, _, ⟨m, ⟨h1, h2⟩, h3⟩ => exact ⟨π m, ⟨F oW h1, by rw [w.m m (Rg.r h1)]; exact h2⟩, F oW h3.1, w.nf oW (Rg.l h3.1) (Rg.r h3.1) h3.2⟩
 | n + 17, hi, _ => omega
theorem Iso.ob (w : Iso g h π σ) (hn : g.evs.length ≤ 256) (c : hs (obL g (LG g)) p q) : hs (obL h (LG h)) (π p) (π q) := by
 obtain ⟨i, hi, c⟩ := (Qwv hn).1 c
 exact (Qwv (g := h) (by rw [w.n]; exact hn)).2 ⟨i, hi, w.cl hi c⟩
theorem Iso.int (w : Iso g h π σ) (c : hs (Qey (LG g)) p q) : hs (Qey (LG h)) (π p) (π q) := by
 rw [QAz] at c ⊢
 rcases c with ⟨c1, c2⟩ | c | c | c
 ·exact .inl ⟨w.f oW c1, w.f oW c2⟩
 ·exact .inr (.inl (w.f oW c))
 ·exact .inr (.inr (.inl (w.f oW c)))
 ·exact .inr (.inr (.inr (w.f oW c)))
theorem Qn9 {R S : Nat → Nat → Prop} {f : Nat → Nat} (H : ∀ p q, R p q → S (f p) (f q)) {p q : Nat} (k : TransGen R p q) : TransGen S (f p) (f q) := by
 induction k with
 | single k => exact TransGen.single (H _ _ k)
 | tail _ k ih => exact TransGen.tail ih (H _ _ k)
def Qlk (g : Gr) : Prop := ∃ p q m, Rg g 4 p q ∧ (Rg g 3 p m ∧ Rg g 6 p m) ∧ Rg g 2 m q ∧ Rg g 6 m q
theorem Iso.tor (w : Iso g h π σ) (c : Qlk g) : Qlk h := by
 obtain ⟨p, q, m, h1, ⟨h2, h3⟩, h4, h5⟩ := c
 exact ⟨π p, π q, π m, w.f oW h1, ⟨w.f oW h2, w.f oW h3⟩, w.f oW h4, w.f oW h5⟩
theorem Qm9 {f : Nat → List Int} : ∀ {k : Nat}, Qht f k ≠ [] ↔ ∃ i, i < k ∧ f i ≠ []
 | 0 => ⟨fun h => absurd rfl h, fun ⟨i, hi, _⟩ => absurd hi oW⟩
 | k + 1 => by
  rw [Qht]
  cases e : Qht f k with
  | nil =>
   constructor
   ·exact fun h => ⟨k, oW, h⟩
   ·rintro ⟨i, hi, h⟩
    by_cases ek : i = k
    ·subst ek; exact h
    ·exact absurd e (Qm9.2 ⟨i, oW, h⟩)
  | cons x t =>
   constructor
   ·intro _
    obtain ⟨i, hi, h⟩ := (Qm9 (f := f) (k := k)).1 (by rw [e]; exact List.cons_ne_nil _ _)
    exact ⟨i, oW, h⟩
   ·exact fun _ => List.cons_ne_nil _ _
theorem Qp8 (hn : g.evs.length ≤ 256) (hw : Wf g true) : Qi4 g ≠ [] ↔ Qlk g := by
 unfold Qi4 Qi3
 rw [Qm9]
 have hC : ∀ {a b : Nat}, Qdj (Qa7 (Qj2 (LG g)) [Qj1 (LG g)]) ((a : Nat) : Int) ((b : Nat) : Int) = true ↔ ∃ m, (Rg g 3 a m ∧ Rg g 6 a m) ∧ Rg g 2 m b ∧ Rg g 6 m b := fun {a b} => by
  have w1 : WF g.evs.length (Qj2 (LG g)) := Qfc (Qbu g 3) (Qbu g 6)
  have w2 : WF g.evs.length (Qj1 (LG g)) := Qfc (Qbu g 2) (Qbu g 6)
  show Qdj (Qe4 (Qj2 (LG g)) (Qj1 (LG g))) _ _ = true ↔ _
  rw [QAu (Qas hn w1 w2), Qap hn w1 w2]
  unfold Qj2 Qj1
  constructor
  ·rintro ⟨m, h1, h2⟩
   exact ⟨m, (Qdh (Qbu g 3) (Qbu g 6) _ _).1 h1, (Qdh (Qbu g 2) (Qbu g 6) _ _).1 h2⟩
  ·rintro ⟨m, h1, h2⟩
   exact ⟨m, (Qdh (Qbu g 3) (Qbu g 6) _ _).2 h1, (Qdh (Qbu g 2) (Qbu g 6) _ _).2 h2⟩
 constructor
 ·rintro ⟨i, hi, h1⟩
  have hx : g.rmw[i]? = some g.rmw[i] := List.getElem?_eq_getElem hi
  obtain ⟨a, b, e, ha, hb⟩ := Qkc hw (List.getElem_mem hi)
  unfold Qkh Qhe at h1
  rw [List.getD_eq_getElem?_getD, hx, Option.getD_some, e] at h1
  dsimp only at h1
  by_cases c : Qdj (Qa7 (Qj2 (LG g)) [Qj1 (LG g)]) (a : Int) (b : Int) = true
  ·obtain ⟨m, h2, h3⟩ := hC.1 c
   exact ⟨a, b, m, rg4.2 ⟨ha, hb, decide_eq_true (by rw [← e]; exact List.getElem_mem hi)⟩, h2, h3⟩
  ·rw [if_neg c] at h1
   exact absurd rfl h1
 ·rintro ⟨p, q, m, h1, h2, h3⟩
  have hm := of_decide_eq_true (rg4.1 h1).2.2
  obtain ⟨i, hi, e⟩ := List.mem_iff_getElem.1 hm
  refine ⟨i, hi, ?_⟩
  unfold Qkh Qhe
  rw [List.getD_eq_getElem?_getD, List.getElem?_eq_getElem hi, Option.getD_some, e]
  dsimp only
  rw [if_pos (hC.2 ⟨m, h2, h3⟩)]
  exact List.cons_ne_nil _ _
def P1 (g : Gr) : Prop := ∃ p, TransGen (hs (Qey (LG g))) p p
def P2 (g : Gr) : Prop := ∃ p, TransGen (hs (obL g (LG g))) p p
theorem Qy4 (hn : g.evs.length ≤ 256) (hw : Wf g true) {a : Int} {l : List Int} (hg : Qi5 g a l) : (a = 1 ∧ P1 g) ∨ (a = 2 ∧ ¬ P1 g ∧ P2 g) ∨ (a = 3 ∧ ¬ P1 g ∧ ¬ P2 g ∧ Qlk g) ∨ (a = 0 ∧ ¬ P1 g ∧ ¬ P2 g ∧ ¬ Qlk g) := by
 obtain ⟨o1, h1, h2⟩ := hg
 rcases h2 with ⟨hne, ea, _⟩ | ⟨rfl, o2, h3, h4⟩
 ·exact .inl ⟨ea, Qq6 Qww h1 hne⟩
 ·have n1 : ¬ P1 g := fun ⟨p, hp⟩ => Qsy hn Qww h1 p hp
  rcases h4 with ⟨hne, ea, _⟩ | ⟨rfl, h5⟩
  ·exact .inr (.inl ⟨ea, n1, Qq6 (Qy9 hn) h3 hne⟩)
  ·have n2 : ¬ P2 g := fun ⟨p, hp⟩ => Qsy hn (Qy9 hn) h3 p hp
   rcases h5 with ⟨h6, ea, _⟩ | ⟨h6, ea, _⟩
   ·exact .inr (.inr (.inl ⟨ea, n1, n2, (Qp8 hn hw).1 h6⟩))
   ·exact .inr (.inr (.inr ⟨ea, n1, n2, fun c => (Qp8 hn hw).2 c h6⟩))
theorem Iso.p1 (w : Iso g h π σ) (c : P1 g) : P1 h := by
 obtain ⟨p, hp⟩ := c
 exact ⟨π p, Qn9 (R := hs (Qey (LG g))) (S := hs (Qey (LG h))) (f := π) (fun _ _ k => w.int k) hp⟩
theorem Iso.p2 (w : Iso g h π σ) (hn : g.evs.length ≤ 256) (c : P2 g) : P2 h := by
 obtain ⟨p, hp⟩ := c
 exact ⟨π p, Qn9 (R := hs (obL g (LG g))) (S := hs (obL h (LG h))) (f := π) (fun _ _ k => w.ob hn k) hp⟩
theorem Iso.ok (w : Iso g h π σ) (hn : g.evs.length ≤ 256) (hw : Wf g true) (hw' : Wf h true) {a b : Int} {l l' : List Int} (hg : Qi5 g a l) (hh : Qi5 h b l') : a = b := by
 have hn' : h.evs.length ≤ 256 := by rw [w.n]; exact hn
 have e1 : P1 g ↔ P1 h := ⟨w.p1, w.symm.p1⟩
 have e2 : P2 g ↔ P2 h := ⟨w.p2 hn, w.symm.p2 hn'⟩
 have e3 : Qlk g ↔ Qlk h := ⟨w.tor, w.symm.tor⟩
 have k1 := Qy4 hn hw hg
 have k2 := Qy4 hn' hw' hh
 rw [← e1, ← e2, ← e3] at k2
 rcases k1 with ⟨rfl, x1⟩ | ⟨rfl, x1, x2⟩ | ⟨rfl, x1, x2, x3⟩ | ⟨rfl, x1, x2, x3⟩ <;> rcases k2 with ⟨rfl, y1⟩ | ⟨rfl, y1, y2⟩ | ⟨rfl, y1, y2, y3⟩ | ⟨rfl, y1, y2, y3⟩ <;> first | rfl | exact absurd x1 y1 | exact absurd y1 x1 | exact absurd x2 y2 | exact absurd y2 x2 | exact absurd x3 y3 | exact absurd y3 x3
end
end Go.Proofs.YtdkogbfamdnheaaGreatDoor
namespace Go.Proofs.YtdkogbfamdnheaaGreatDoor
open Go.RowKit Go.Shelf Sx
set_option maxRecDepth 100000
set_option maxHeartbeats 16000000
set_option linter.unusedSimpArgs false
set_option linter.unusedVariables false
def tau (i k : Nat) : Nat := if k = i then i + 1 else if k = i + 1 then i else k
theorem Qkd (i k : Nat) : tau i (tau i k) = k := by unfold tau; split <;> split <;> (try split) <;> omega
theorem Qv8 {i k n : Nat} (hi : i + 1 < n) (hk : k < n) : tau i k < n := by unfold tau; split <;> (try split) <;> omega
def ltE (e : Bool) (p q : Int × Int) : Bool := if e then decide (p.2 < q.2) else decide (p.1 < q.1) || decide (p.1 = q.1) && decide (p.2 < q.2)
def Qd5 (e : Bool) (out : List (Int × Int)) (x : Int × Int) : Nat → Nat
 | 0 => 0
 | j + 1 => if ltE e (out.getD j (0, 0)) x then j + 1 else Qd5 e out x j
def Qce (out : List (Int × Int)) (x : Int × Int) (k : Nat) : List (Int × Int) := out.take k ++ x :: out.drop k
def Qfd (e : Bool) (out : List (Int × Int)) (x : Int × Int) : List (Int × Int) := Qce out x (Qd5 e out x out.length)
def tdL (e : Bool) (f : Int × Int → Int × Int) (l : List (Int × Int)) : List (Int × Int) := l.foldl (fun o p => Qfd e o (f p)) []
theorem Qo {e : Bool} {p q r : Int × Int} (h : ltE e p q = true) (k : ltE e q r = true) : ltE e p r = true := by
 unfold ltE at *
 cases e <;> simp at * <;> omega
theorem Qn (e : Bool) (out : List (Int × Int)) (x : Int × Int) : ∀ n, Qd5 e out x n ≤ n
 | 0 => Nat.le_refl _
 | n + 1 => by unfold Qd5; split; exact Nat.le_refl _; exact Nat.le_succ_of_le (Qn e out x n)
theorem Qsq {e : Bool} {out : List (Int × Int)} {x : Int × Int} : ∀ {n k : Nat}, Qd5 e out x n = k + 1 → ltE e (out.getD k (0, 0)) x = true
 | 0, k, h => by simp [Qd5] at h
 | n + 1, k, h => by
  unfold Qd5 at h
  split at h
  ·rename_i hc
   obtain rfl : n = k := by omega
   exact hc
  ·exact Qsq h
theorem Qsr {e : Bool} {out : List (Int × Int)} {x : Int × Int} : ∀ {n j : Nat}, Qd5 e out x n ≤ j → j < n → ltE e (out.getD j (0, 0)) x = false
 | 0, j, _, h => by omega
 | n + 1, j, h, hj => by
  unfold Qd5 at h
  split at h
  ·omega
  ·rename_i hc
   by_cases e1 : j = n
   ·subst e1; simpa using hc
   ·exact Qsr h oW
theorem Qy {e : Bool} {out : List (Int × Int)} {x y : Int × Int} : y ∈ Qfd e out x ↔ y ∈ out ∨ y = x := by
 unfold Qfd Qce
 generalize Qd5 e out x out.length = k
 rw [List.mem_append, List.mem_cons]
 conv => rhs; rw [← List.take_append_drop k out, List.mem_append]
 exact ⟨fun h => by rcases h with h | h | h; exact .inl (.inl h); exact .inr h; exact .inl (.inr h), fun h => by rcases h with (h | h) | h; exact .inl h; exact .inr (.inr h); exact .inr (.inl h)⟩
theorem Qz2 {e : Bool} {out : List (Int × Int)} {x : Int × Int} (h : out.Pairwise (fun p q => ltE e p q = true)) (hd : ∀ y ∈ out, ltE e y x = true ∨ ltE e x y = true) : (Qfd e out x).Pairwise (fun p q => ltE e p q = true) := by
 unfold Qfd Qce
 obtain ⟨k, hk⟩ : ∃ k, Qd5 e out x out.length = k := ⟨_, rfl⟩
 have hkl := Qn e out x out.length
 rw [hk] at hkl ⊢
 have gd : ∀ {j : Nat} (hj : j < out.length), out.getD j (0, 0) = out[j] := fun hj => by rw [List.getD_eq_getElem?_getD, List.getElem?_eq_getElem hj]; rfl
 have A : ∀ a ∈ out.take k, ltE e a x = true := by
  intro a ha
  obtain ⟨i, hi, rfl⟩ := List.mem_iff_getElem.1 ha
  rw [List.length_take] at hi
  rw [List.getElem_take]
  have h1 : ltE e (out[k - 1]'(by omega)) x = true := by
   have := Qsq (k := k - 1) (hk.trans oW)
   rwa [gd oW] at this
  by_cases e1 : i = k - 1
  ·subst e1; exact h1
  ·exact Qo (List.pairwise_iff_getElem.1 h i (k - 1) oW oW oW) h1
 have B : ∀ b ∈ out.drop k, ltE e x b = true := by
  intro b hb
  obtain ⟨i, hi, rfl⟩ := List.mem_iff_getElem.1 hb
  rw [List.length_drop] at hi
  rw [List.getElem_drop]
  rcases hd out[k + i] (List.getElem_mem _) with h1 | h1
  ·have := Qsr (e := e) (out := out) (x := x) (n := out.length) (j := k + i) oW oW
   rw [gd oW, h1] at this
   cases this
  ·exact h1
 rw [List.pairwise_append, List.pairwise_cons]
 refine ⟨h.sublist (List.take_sublist _ _), ⟨B, h.sublist (List.drop_sublist _ _)⟩, fun a ha b hb => ?_⟩
 rcases List.mem_cons.1 hb with rfl | hb
 ·exact A a ha
 ·exact Qo (A a ha) (B b hb)
theorem Qll (e : Bool) (out : List (Int × Int)) (x : Int × Int) : (Qfd e out x).length = out.length + 1 := by
 have := Qn e out x out.length
 unfold Qfd Qce
 rw [List.length_append, List.length_cons, List.length_take, List.length_drop]
 omega
theorem Qi0 (e : Bool) (f : Int × Int → Int × Int) (l : List (Int × Int)) (x : Int × Int) : tdL e f (l ++ [x]) = Qfd e (tdL e f l) (f x) := by
 unfold tdL; rw [List.foldl_append]; rfl
theorem Qty {P : List (Int × Int) → Prop} (h0 : P []) (h1 : ∀ l x, P l → P (l ++ [x])) (l : List (Int × Int)) : P l := by
 have : P l.reverse.reverse := by
  induction l.reverse with
  | nil => exact h0
  | cons x t ih => rw [List.reverse_cons]; exact h1 _ _ ih
 rwa [List.reverse_reverse] at this
theorem Qe1 {e : Bool} {f : Int × Int → Int × Int} {y : Int × Int} (l : List (Int × Int)) : y ∈ tdL e f l ↔ ∃ x ∈ l, y = f x := by
 refine Qty (P := fun l => y ∈ tdL e f l ↔ ∃ x ∈ l, y = f x) (by simp [tdL]) (fun l x ih => ?_) l
 rw [Qi0, Qy, ih]
 simp only [List.mem_append, List.mem_singleton]
 constructor
 ·rintro (⟨z, h1, h2⟩ | h)
  ·exact ⟨z, .inl h1, h2⟩
  ·exact ⟨x, .inr rfl, h⟩
 ·rintro ⟨z, h1 | rfl, h2⟩
  ·exact .inl ⟨z, h1, h2⟩
  ·exact .inr h2
theorem Qfe {e : Bool} {f : Int × Int → Int × Int} (l : List (Int × Int)) : (tdL e f l).length = l.length := by
 refine Qty (P := fun l => (tdL e f l).length = l.length) rfl (fun l x ih => ?_) l
 rw [Qi0, Qll, ih, List.length_append]; rfl
theorem Qp9 {e : Bool} {f : Int × Int → Int × Int} (l : List (Int × Int)) (h : l.Pairwise (fun p q => ltE e (f p) (f q) = true ∨ ltE e (f q) (f p) = true)) : (tdL e f l).Pairwise (fun p q => ltE e p q = true) := by
 revert h
 refine Qty (P := fun l => l.Pairwise (fun p q => ltE e (f p) (f q) = true ∨ ltE e (f q) (f p) = true) → (tdL e f l).Pairwise (fun p q => ltE e p q = true)) (fun _ => List.Pairwise.nil) (fun l x ih h => ?_) l
 rw [List.pairwise_append] at h
 rw [Qi0]
 refine Qz2 (ih h.1) (fun y hy => ?_)
 obtain ⟨z, h1, rfl⟩ := (Qe1 l).1 hy
 exact h.2.2 z h1 x (List.mem_singleton.2 rfl)
def swp (g : Gr) (i : Nat) : Gr := { cells := g.cells, evs := (g.evs.set i (g.ev (i + 1))).set (i + 1) (g.ev i), rf := tdL true (mP (tau i)) g.rf, co := g.co.map (fun l => l.map (mI (tau i))), rmw := tdL false (mP (tau i)) g.rmw, addr := tdL false (mP (tau i)) g.addr, dat := tdL false (mP (tau i)) g.dat, ctrl := tdL false (mP (tau i)) g.ctrl }
theorem Qke (g : Gr) (i : Nat) : (swp g i).evs.length = g.evs.length := by unfold swp; dsimp only; rw [List.length_set, List.length_set]
theorem QBr {g : Gr} {i : Nat} (hi : i + 1 < g.evs.length) (k : Nat) : (swp g i).ev (tau i k) = g.ev k := by
 unfold swp Gr.ev
 dsimp only
 rw [List.getD_eq_getElem?_getD, List.getElem?_set, List.getElem?_set, List.length_set]
 unfold tau
 by_cases h1 : k = i
 ·subst h1
  rw [if_pos rfl, if_pos rfl, if_pos hi]; rfl
 ·by_cases h2 : k = i + 1
  ·subst h2
   rw [if_neg h1, if_pos rfl, if_neg oW, if_pos rfl, if_pos oW]; rfl
  ·rw [if_neg h1, if_neg h2, if_neg oW, if_neg oW, List.getD_eq_getElem?_getD]
theorem Qz3 {p q : Int × Int} (h : p ≠ q) : ltE false p q = true ∨ ltE false q p = true := by
 unfold ltE
 have : p.1 ≠ q.1 ∨ p.2 ≠ q.2 := by
  by_cases h1 : p.1 = q.1
  ·exact .inr fun h2 => h (Prod.ext h1 h2)
  ·exact .inl h1
 simp
 omega
theorem Qq {p q : Int × Int} : Rise p q ↔ ltE false p q = true := by
 unfold Rise Qf8 ltE orI Qhw
 simp
 (repeat' split) <;> omega
theorem Qv9 {i : Nat} {p q : Int × Int} (hp : 0 ≤ p.1 ∧ 0 ≤ p.2) (hq : 0 ≤ q.1 ∧ 0 ≤ q.2) (h : mP (tau i) p = mP (tau i) q) : p = q := by
 have e : ∀ {x y : Int}, 0 ≤ x → 0 ≤ y → mI (tau i) x = mI (tau i) y → x = y := fun {x y} hx hy h => by
  unfold mI at h
  have h2 := congrArg (tau i) (Int.ofNat.inj h)
  rw [Qkd, Qkd] at h2
  omega
 exact Prod.ext (e hp.1 hq.1 (congrArg Prod.fst h)) (e hp.2 hq.2 (congrArg Prod.snd h))
theorem Qy5 {i : Nat} {x y : Int} (hx : 0 ≤ x) (hy : 0 ≤ y) (h : x ≠ y) : mI (tau i) x ≠ mI (tau i) y := fun e => h (congrArg Prod.fst (Qv9 (i := i) (p := (x, 0)) (q := (y, 0)) ⟨hx, Int.le_refl _⟩ ⟨hy, Int.le_refl _⟩ (by unfold mP; dsimp only; rw [e])))
theorem Qlm {g : Gr} {l : List (Int × Int)} {ks : List Int} {i : Nat} (hd : Qcf g.evs true l ks = -1) : (tdL false (mP (tau i)) l).Pairwise Rise := by
 refine (Qp9 l ?_).imp (fun h => Qq.2 h)
 refine List.Pairwise.imp_of_mem (fun {p q} hp hq h => ?_) (Qj.1 hd).1
 obtain ⟨a, b, rfl, _⟩ := Qgd hd hp
 obtain ⟨c, d, rfl, _⟩ := Qgd hd hq
 refine Qz3 fun e => ?_
 have := Qv9 (by constructor <;> omega) (by constructor <;> omega) e
 rw [this] at h
 have := Qq.1 h
 unfold ltE at this
 simp at this
theorem QBs {g : Gr} (hw : Wf g true) {i : Nat} (hc : g.cells ≤ ((i : Nat) : Int)) (hi : i + 1 < g.evs.length) (ht : (g.ev i).t ≠ (g.ev (i + 1)).t) : Mv g (swp g i) (tau i) (tau i) := by
 refine ⟨Qke g i, rfl, fun k hk => ⟨Qv8 hi hk, Qkd i k⟩, fun k hk => ⟨Qv8 hi hk, Qkd i k⟩, fun k _ => QBr hi k, fun k hk => ?_, fun a b hab hb he => ?_, rfl, ?_, fun p => Qe1 _, ?_, fun p => Qe1 _, Qlm (hw 6 oW), fun p => Qe1 _, Qlm (hw 7 oW), fun p => Qe1 _, Qlm (hw 8 oW), fun p => Qe1 _⟩
 ·unfold tau
  rw [if_neg oW, if_neg oW]
 ·have : ¬ (a = i ∧ b = i + 1) := by
   rintro ⟨rfl, rfl⟩
   exact ht he
  unfold tau
  split <;> split <;> (try split) <;> (try split) <;> omega
 ·refine (Qp9 (e := true) g.rf ?_).imp (fun h => by simpa [ltE] using h)
  have h4 := (Qp7.1 (show Qbt g = -1 from hw 3 oW)).1
  have h5 : (g.rf.map (·.2)).Pairwise (· < ·) := by
   rw [h4]
   unfold toI
   rw [List.pairwise_map]
   exact (Qvj _ _ _).imp (fun h => by omega)
  rw [List.pairwise_map] at h5
  refine List.Pairwise.imp_of_mem (fun {p q} hp hq h => ?_) h5
  obtain ⟨a, b, rfl, _⟩ := Qiy hw hp
  obtain ⟨c, d, rfl, _⟩ := Qiy hw hq
  have := Qy5 (i := i) (x := ((b : Nat) : Int)) (y := ((d : Nat) : Int)) oW oW (fun e => by rw [e] at h; omega)
  unfold ltE mP
  simp
  omega
 ·have h6 := (Qmf.1 (show Qdb g = -1 from hw 5 oW)).1
  have key : (g.rmw).Pairwise (fun p q => mI (tau i) p.1 ≠ mI (tau i) q.1) := by
   refine List.Pairwise.imp_of_mem (fun {p q} hp hq h => ?_) h6
   obtain ⟨a, b, rfl, _⟩ := Qkc hw hp
   obtain ⟨c, d, rfl, _⟩ := Qkc hw hq
   exact Qy5 oW oW (fun e => by rw [e] at h; omega)
  have h7 := Qp9 (e := false) (f := mP (tau i)) g.rmw (key.imp fun h => by
   unfold ltE mP
   simp
   omega)
  refine List.Pairwise.imp_of_mem (fun {p' q'} hp' hq' h8 => ?_) h7
  obtain ⟨p, hp, rfl⟩ := (Qe1 (e := false) g.rmw).1 hp'
  obtain ⟨q, hq, rfl⟩ := (Qe1 (e := false) g.rmw).1 hq'
  have hne : p ≠ q := by
   rintro rfl
   unfold ltE at h8
   simp at h8
  have hsym : ∀ {l : List (Int × Int)}, l.Pairwise (fun p q => mI (tau i) p.1 ≠ mI (tau i) q.1) → ∀ {p q}, p ∈ l → q ∈ l → p ≠ q → mI (tau i) p.1 ≠ mI (tau i) q.1 := by
   intro l hl
   induction hl with
   | nil => intro p q hp; cases hp
   | cons h1 _ ih =>
    intro p q hp hq hn
    rcases List.mem_cons.1 hp with rfl | hp2
    ·rcases List.mem_cons.1 hq with rfl | hq2
     ·exact absurd rfl hn
     ·exact h1 q hq2
    ·rcases List.mem_cons.1 hq with rfl | hq2
     ·exact (h1 p hp2).symm
     ·exact ih hp2 hq2 hn
  have := hsym key hp hq hne
  unfold ltE mP at h8
  simp at h8
  show mI (tau i) p.1 < mI (tau i) q.1
  omega
theorem Iso.refl (g : Gr) : Iso g g id id := ⟨rfl, fun _ h => ⟨h, rfl⟩, fun _ h => ⟨h, rfl⟩, fun _ _ => rfl, fun _ _ => rfl, fun _ _ _ _ _ _ => Iff.rfl⟩
theorem Iso.comp {g h k : Gr} {π σ π' σ' : Nat → Nat} (a : Iso g h π σ) (b : Iso h k π' σ') : Iso g k (fun x => π' (π x)) (fun x => σ (σ' x)) := by
 have hn := a.n
 refine ⟨b.n.trans hn, fun i hi => ?_, fun i hi => ?_, fun i hi => ?_, fun i hi => ?_, fun j p q hj hp hq => ?_⟩
 ·have h1 := b.a (π i) (by rw [hn]; exact (a.a i hi).1)
  exact ⟨by rw [← hn]; exact h1.1, by rw [h1.2]; exact (a.a i hi).2⟩
 ·have h1 := b.b i (by rw [hn]; exact hi)
  have h2 := a.b (σ' i) (by rw [← hn]; exact h1.1)
  exact ⟨h2.1, by rw [h2.2]; exact h1.2⟩
 ·exact (b.k (π i) (by rw [hn]; exact (a.a i hi).1)).trans (a.k i hi)
 ·exact (b.m (π i) (by rw [hn]; exact (a.a i hi).1)).trans (a.m i hi)
 ·exact (b.r j _ _ hj (by rw [hn]; exact (a.a p hp).1) (by rw [hn]; exact (a.a q hq).1)).trans (a.r j p q hj hp hq)
structure Like8 (g h : Gr) : Prop where
 i : ∃ π σ, Iso g h π σ
 w : Wf h true
 c : h.cells = g.cells
theorem Like8.refl {g : Gr} (h : Wf g true) : Like8 g g := ⟨⟨id, id, Iso.refl g⟩, h, rfl⟩
theorem Like8.step {g h : Gr} (x : Like8 g h) {i : Nat} (hc : g.cells ≤ ((i : Nat) : Int)) (hi : i + 1 < h.evs.length) (ht : (h.ev i).t ≠ (h.ev (i + 1)).t) : Like8 g (swp h i) := by
 obtain ⟨π, σ, w⟩ := x.i
 have m := QBs x.w (by rw [x.c]; exact hc) hi ht
 exact ⟨⟨_, _, w.comp (m.iso x.w)⟩, m.ck x.w, x.c⟩
theorem Like8.ok {g h : Gr} (x : Like8 g h) (hn : g.evs.length ≤ 256) (hw : Wf g true) {a b : Int} {l l' : List Int} (hg : Qi5 g a l) (hh : Qi5 h b l') : a = b := by
 obtain ⟨π, σ, w⟩ := x.i
 exact w.ok hn hw x.w hg hh
end Go.Proofs.YtdkogbfamdnheaaGreatDoor
