/- How a relation of the document's own answer (a table of truths) lies in memory. -/
import Derived.Test.YteejkhgccaagiaaDoorBoolMem
import Derived.Test.YteejkhgccaagiaaDoorRoundAny
namespace Go.Proofs.YteejkhgccaagiaaDoor
open Go.RowKit Go.Shelf Sx

def rowL (n : Nat) (f : Nat → Bool) : List Bool := (List.range n).map f
abbrev hdr (n r : Nat) : Value := .slice (some ⟨r, 0, none⟩) n n
def upd (F : Nat → Nat → Bool) (p q : Nat) (b : Bool) : Nat → Nat → Bool := fun x y => if x = p ∧ y = q then b else F x y
theorem rowL_at {n q : Nat} {f : Nat → Bool} (h : q < n) : (arrB (rowL n f))[q]? = some (.bool (f q)) := by
  simp [arrB, rowL, h]
theorem rowL_congr {n : Nat} {f g : Nat → Bool} (h : ∀ q, q < n → f q = g q) : rowL n f = rowL n g := by
  unfold rowL
  exact List.map_congr_left fun q hq => h q (List.mem_range.1 hq)
theorem rowL_set {n q : Nat} {f : Nat → Bool} (b : Bool) (h : q < n) : (arrB (rowL n f)).setIfInBounds q (.bool b) = arrB (rowL n (fun y => if y = q then b else f y)) := by
  rw [arrB_set]
  congr 1
  apply List.ext_getElem?
  intro i
  rw [List.getElem?_set]
  by_cases e : q = i
  · subst e; simp [rowL, h]
  · rw [if_neg e]
    by_cases hi : i < n
    · simp [rowL, hi]
      intro h2
      exact absurd h2.symm e
    · rw [List.getElem?_eq_none (by simp [rowL]; omega), List.getElem?_eq_none (by simp [rowL]; omega)]
theorem rowL_false (n : Nat) : rowL n (fun _ => false) = List.replicate n false := by
  unfold rowL
  apply List.ext_getElem?
  intro i
  by_cases hi : i < n
  · simp [hi]
  · rw [List.getElem?_eq_none (by simp; omega), List.getElem?_eq_none (by simp; omega)]

/-- k rows of n truths each, from block lo on. -/
structure RefM (lo : Nat) (w : World) (M : Value) (k n : Nat) (rb : Nat → Nat) (F : Nat → Nat → Bool) : Prop where
  own : w.ownsRow lo 91 1 M k ((List.range k).map (fun p => hdr n (rb p)))
  row : ∀ p, p < k → lo ≤ rb p ∧ Blk w (rb p) 4 (arrB (rowL n (F p)))
  apart : ∀ p, p < k → M.ownBlock ≠ some (rb p)
  inj : ∀ p q, p < k → q < k → rb p = rb q → p = q
theorem RefM.below {lo : Nat} {w w' : World} {M : Value} {k n : Nat} {rb : Nat → Nat} {F : Nat → Nat → Bool} (h : RefM lo w M k n rb F) (hB : Below w.heap.size w w') : RefM lo w' M k n rb F := by
  refine ⟨?_, fun p hp => ⟨(h.row p hp).1, (h.row p hp).2.of_below hB⟩, h.apart, h.inj⟩
  obtain ⟨h1, h2⟩ := h.own
  refine ⟨h1, ?_⟩
  rcases h2 with h2 | ⟨g, cap, cur, e1, e2, e3, e4⟩
  · exact .inl h2
  · exact .inr ⟨g, cap, cur, e1, e2, (hB.block g (Array.getElem?_eq_some_iff.1 e3).1).trans e3, e4⟩
theorem RefM.below' {lo : Nat} {w w' : World} {M : Value} {k n : Nat} {rb : Nat → Nat} {F : Nat → Nat → Bool} (h : RefM lo w M k n rb F) (hk : ∀ x, lo ≤ x → x < w.heap.size → w'.heap[x]? = w.heap[x]?) : RefM lo w' M k n rb F := by
  refine ⟨?_, fun p hp => ⟨(h.row p hp).1, (hk _ (h.row p hp).1 (h.row p hp).2.lt).trans (h.row p hp).2⟩, h.apart, h.inj⟩
  obtain ⟨h1, h2⟩ := h.own
  refine ⟨h1, ?_⟩
  rcases h2 with h2 | ⟨g, cap, cur, e1, e2, e3, e4⟩
  · exact .inl h2
  · exact .inr ⟨g, cap, cur, e1, e2, (hk g e2 (Array.getElem?_eq_some_iff.1 e3).1).trans e3, e4⟩
theorem RefM.mono {lo lo' : Nat} {w : World} {M : Value} {k n : Nat} {rb : Nat → Nat} {F : Nat → Nat → Bool} (h : RefM lo w M k n rb F) (hl : lo' ≤ lo) : RefM lo' w M k n rb F := by
  refine ⟨?_, fun p hp => ⟨Nat.le_trans hl (h.row p hp).1, (h.row p hp).2⟩, h.apart, h.inj⟩
  obtain ⟨h1, h2⟩ := h.own
  refine ⟨h1, ?_⟩
  rcases h2 with h2 | ⟨g, cap, cur, e1, e2, e3⟩
  · exact .inl h2
  · exact .inr ⟨g, cap, cur, e1, Nat.le_trans hl e2, e3⟩
theorem RefM.alloc {lo : Nat} {w : World} {M : Value} {k n : Nat} {rb : Nat → Nat} {F : Nat → Nat → Bool} (h : RefM lo w M k n rb F) (o : Obj) : RefM lo (w.alloc o) M k n rb F := h.below ((Below.refl _ _).alloc (Nat.le_refl _) _)
theorem RefM.drew {lo : Nat} {w : World} {M : Value} {k n : Nat} {rb : Nat → Nat} {F : Nat → Nat → Bool} (h : RefM lo w M k n rb F) : RefM lo w.drew M k n rb F := h.below (Below.refl _ _).drew
theorem RefM.drewN {lo : Nat} {w : World} {M : Value} {k n : Nat} {rb : Nat → Nat} {F : Nat → Nat → Bool} (h : RefM lo w M k n rb F) (m : Nat) : RefM lo (w.drewN m) M k n rb F := h.below (below_drewN (Below.refl _ _) m)
/-- Where row p's head lies, and what its cells hold. -/
theorem RefM.at_ {lo : Nat} {w : World} {M : Value} {k n : Nat} {rb : Nat → Nat} {F : Nat → Nat → Bool} (h : RefM lo w M k n rb F) {p q : Nat} (hp : p < k) (hq : q < n) :
    ∃ g cap, M = .slice (some ⟨g, 0, none⟩) k cap ∧ g < w.heap.size ∧ lo ≤ g ∧ rb p ≠ g ∧ w.cell? ⟨g, p, none⟩ = some (hdr n (rb p)) ∧ w.cell? ⟨rb p, q, none⟩ = some (.bool (F p q)) ∧ w.frozen? ⟨rb p, q, none⟩ = false ∧ rb p < w.heap.size := by
  have h2 := h.apart p hp
  have h3 := (h.row p hp).2
  rcases h.own.2 with ⟨_, e⟩ | ⟨g, cap, cur, rfl, e2, e3, _, _, _, e4⟩
  · omega
  · refine ⟨g, cap, rfl, (Array.getElem?_eq_some_iff.1 e3).1, e2, fun e => h2 (by rw [e]; rfl), ?_, h3.cell (rowL_at hq), h3.frozen q, h3.lt⟩
    have hb : Blk w g 91 cur := e3
    apply hb.cell
    rw [← Array.getElem?_toList]
    have : (cur.toList.take (k * 1))[p]? = some (hdr n (rb p)) := by rw [e4]; simp [hp]
    rw [List.getElem?_take] at this
    split at this
    · exact this
    · cases this
/-- A truth is put in. -/
theorem RefM.put {lo : Nat} {w : World} {M : Value} {k n : Nat} {rb : Nat → Nat} {F : Nat → Nat → Bool} (h : RefM lo w M k n rb F) {p q : Nat} (hp : p < k) (hq : q < n) (b : Bool) :
    RefM lo (w.setCell ⟨rb p, q, none⟩ (.bool b)) M k n rb (upd F p q b) := by
  refine ⟨?_, fun x hx => ⟨(h.row x hx).1, ?_⟩, h.apart, h.inj⟩
  · obtain ⟨h1, h2⟩ := h.own
    refine ⟨h1, ?_⟩
    rcases h2 with h2 | ⟨g, cap, cur, e1, e2, e3, e4⟩
    · exact .inl h2
    · have hg : g ≠ rb p := fun e => h.apart p hp (by rw [e1, ← e]; rfl)
      exact .inr ⟨g, cap, cur, e1, e2, (Below.heap_setCell w ⟨rb p, q, none⟩ (.bool b) g hg).trans e3, e4⟩
  · by_cases e : x = p
    · subst e
      have := (h.row x hx).2.set q (.bool b)
      rw [rowL_set b hq] at this
      have e2 : (fun y => if y = q then b else F x y) = upd F x q b x := by
        funext y
        unfold upd
        simp
      rwa [e2] at this
    · have e2 : upd F p q b x = F x := by
        funext y
        unfold upd
        simp [e]
      rw [e2]
      exact (h.row x hx).2.setOther (fun h2 => e (h.inj x p hx hp h2)) _
theorem RefM.slice {lo : Nat} {w : World} {M : Value} {k n : Nat} {rb : Nat → Nat} {F : Nat → Nat → Bool} (h : RefM lo w M k n rb F) : ∃ x y z, M = .slice x y z := by
  rcases h.own.2 with ⟨e, _⟩ | ⟨g, cap, cur, e, _⟩
  · exact ⟨_, _, _, e⟩
  · exact ⟨_, _, _, e⟩
theorem RefM.congr {lo : Nat} {w : World} {M : Value} {k n : Nat} {rb : Nat → Nat} {F G : Nat → Nat → Bool} (h : RefM lo w M k n rb F) (hfg : ∀ p q, p < k → q < n → F p q = G p q) : RefM lo w M k n rb G :=
  ⟨h.own, fun p hp => ⟨(h.row p hp).1, by rw [← rowL_congr (fun q hq => hfg p q hp hq)]; exact (h.row p hp).2⟩, h.apart, h.inj⟩
theorem RefM.nil (lo : Nat) (w : World) (n : Nat) (rb : Nat → Nat) (F : Nat → Nat → Bool) : RefM lo w (.slice none 0 0) 0 n rb F :=
  ⟨World.ownsRow_nil _ _ _ _, fun p hp => by omega, fun p hp => by omega, fun p q hp => by omega⟩
/-- A row more. -/
theorem RefM.more {lo : Nat} {w w' : World} {M M' : Value} {k n r : Nat} {rb : Nat → Nat} {F : Nat → Nat → Bool} (h : RefM lo w M k n rb F) (hr : Blk w r 4 (arrB (rowL n (F k)))) (hlo : lo ≤ r) (hnew : ∀ p, p < k → rb p ≠ r) (hM : M.ownBlock ≠ some r)
    (hown : w'.ownsRow lo 91 1 M' (k + 1) ((List.range k).map (fun p => hdr n (rb p)) ++ [hdr n r])) (hg : w.grownBy w' M.ownBlock) (hat : M'.ownBlock = M.ownBlock ∨ ∃ g, M'.ownBlock = some g ∧ w.heap.size ≤ g) :
    RefM lo w' M' (k + 1) n (fun p => if p = k then r else rb p) F := by
  have hkeep : ∀ (x : Nat) (cs : Array Value), Blk w x 4 cs → M.ownBlock ≠ some x → Blk w' x 4 cs := fun x cs hb hx => (hg.block x hb.lt (fun e => hx e.symm)).trans hb
  refine ⟨?_, ?_, ?_, ?_⟩
  · have e : (List.range (k + 1)).map (fun p => hdr n (if p = k then r else rb p)) = (List.range k).map (fun p => hdr n (rb p)) ++ [hdr n r] := by
      rw [List.range_succ, List.map_append]
      congr 1
      · apply List.map_congr_left
        intro p hp
        have := List.mem_range.1 hp
        rw [if_neg (by omega)]
      · simp
    rw [e]
    exact hown
  · intro p hp
    by_cases e : p = k
    · subst e
      rw [if_pos rfl]
      exact ⟨hlo, hkeep r _ hr hM⟩
    · rw [if_neg e]
      exact ⟨(h.row p (by omega)).1, hkeep _ _ (h.row p (by omega)).2 (h.apart p (by omega))⟩
  · intro p hp
    have hb : M.ownBlock ≠ some (if p = k then r else rb p) ∧ (if p = k then r else rb p) < w.heap.size := by
      by_cases e : p = k
      · rw [if_pos e]; exact ⟨hM, hr.lt⟩
      · rw [if_neg e]; exact ⟨h.apart p (by omega), (h.row p (by omega)).2.lt⟩
    rcases hat with hat | ⟨g, e1, e2⟩
    · rw [hat]; exact hb.1
    · rw [e1]
      intro e
      have := Option.some.inj e
      omega
  · intro p q hp hq he
    by_cases e1 : p = k <;> by_cases e2 : q = k
    · omega
    · rw [if_pos e1, if_neg e2] at he
      exact absurd he.symm (hnew q (by omega))
    · rw [if_neg e1, if_pos e2] at he
      exact absurd he (hnew p (by omega))
    · rw [if_neg e1, if_neg e2] at he
      exact h.inj p q (by omega) (by omega) he
theorem any_skip {P : Program} {ops : Array Oper} {md : Region.Mode} {Q : Exit → Act → World → Prop} {i : Nat} {o : Oper} {d : Option Tmp} {fuel : Nat} {listed : Array Bool} {a : Act} {w w' : World} {rs : List Nat} (ho : ops[i]? = some o) (hd : o.dst = d)
    (hw : Region.wanted o (yielded ops a.tmps) = true) (hrun : (execOp a.eval o).run P w = .ok .skip w')
    (h : wpAnyH P md ops Q (fun _ => True) fuel (listed.setIfInBounds i true) (a.put d undef) w') (hs : AllReadyH P md ops Q (fun _ => True) fuel listed a w rs) :
    AllReadyH P md ops Q (fun _ => True) fuel listed a w (i :: rs) := by
  subst hd
  refine AllReadyH.cons ho (fun K hK => ?_) hs
  rw [if_pos hw]
  unfold Oper.wp
  rw [hrun]
  exact hK.out _ _ trivial (fun _ => h)
theorem ret_ref {fn : Func} {p : Tmp} {tmps : Array Value} {w : World} {g : Nat} {N M : Value} (h : fn.results = #[.cell p 46]) (hp : tmps.getD p undef = .pointer (some ⟨g, 0, none⟩)) (hb : Blk w g 46 #[N, M]) :
    (results fn tmps).run Tryd.prog w = .ok (.agg #[N, M]) w :=
  results_cell_row h tmps w g _ _ (0, 0) _ hp hb Tryd.underlying46 rfl (by kernel_rfl)
end Go.Proofs.YteejkhgccaagiaaDoor
