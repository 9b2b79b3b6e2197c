/- The steps of a Scan that goes on alone, in the run of one goroutine. -/
import Derived.Test.YtecolbdnaipgdaaSnapCmp
namespace Go.Proofs.Ytecolbdnaipgdaa
open Go.RowKit

/-- A Snap's registers. -/
structure SnapAt (w : World) (S R K r : Nat) (regs : List (Option Addr)) (f : Nat → Int) : Prop where
  snap : Blk w S 46 #[.slice (some ⟨R, 0, none⟩) r r, .slice (some ⟨K, 0, none⟩) r r]
  regB : Blk w R 101 (regs.map Value.pointer).toArray
  len : regs.length = r
  ptr : ∀ p ∈ regs, PtrTo w 49 2 p
  num : ∀ i p, regs[i]? = some p → NumAt w p (f i)
theorem SnapAt.moved {w w' : World} {S R K r : Nat} {regs : List (Option Addr)} {f : Nat → Int} (h : SnapAt w S R K r regs f) (hk : ∀ b t cs, Blk w b t cs → t = 46 ∨ t = 101 ∨ t = 49 → Blk w' b t cs) : SnapAt w' S R K r regs f := by
  refine ⟨hk _ _ _ h.snap (by simp), hk _ _ _ h.regB (by simp), h.len, fun p hp => ?_, fun i p hi => ?_⟩
  · rcases h.ptr p hp with e | ⟨b, cs, e, h1, h2⟩
    · exact .inl e
    · exact .inr ⟨b, cs, e, hk _ _ _ h1 (by simp), h2⟩
  · rcases h.num i p hi with e | ⟨b, s, e, h1⟩
    · exact .inl e
    · exact .inr ⟨b, s, e, hk _ _ _ h1 (by simp)⟩

theorem Blk.ne2 {w : World} {b g : Nat} {t u : TypeId} {cs ds : Array Value} (h : Blk w b t cs) (hg : Blk w g u ds) (ht : t ≠ u) : b ≠ g := by
  intro e
  subst e
  have := h.symm.trans hg
  simp at this
  exact ht this.2
def LastAt (w : World) (lp : Option Addr) (regs : List (Option Addr)) (base : Nat) : Prop := ∃ (b : Nat) (cur : Array Value), lp = some ⟨b, 0, none⟩ ∧ b < base ∧ Blk w b 47 cur ∧ ∀ (i : Nat) (p : Option Addr), regs[i]? = some p → cur[i]? = some (Value.pointer p)
theorem LastAt.ptrs {w : World} {lp : Option Addr} {regs : List (Option Addr)} {base : Nat} (h : LastAt w lp regs base) (c : Nat) : PtrsAt w (.slice lp regs.length c) regs := by
  obtain ⟨b, cur, rfl, _, h2, h3⟩ := h
  exact .inr ⟨b, c, rfl, h2.lt, fun i p hp => h2.cell (h3 i p hp)⟩
/-- A look that has collected j registers, in its first or in its second collect. -/
def LookSt (w : World) (n LK S MV r j : Nat) (second : Bool) (regs : List (Option Addr)) (base : Nat) : Prop :=
  ∃ lp ln lc p cap, n ≤ base ∧ base ≤ w.heap.size ∧ Blk w LK 107 #[pv S, .slice lp ln lc, .slice p j cap, .slice (some ⟨MV, 0, none⟩) r r] ∧ w.ownsRow base 47 1 (.slice p j cap) j ((regs.take j).map Value.pointer) ∧
    (second = false → ln = 0 ∧ lp = none ∧ lc = 0) ∧ (second = true → ln = r ∧ LastAt w lp regs base)
theorem take_snoc_map {regs : List (Option Addr)} {j : Nat} {q : Option Addr} (h : regs[j]? = some q) : (regs.take j).map Value.pointer ++ [.pointer q] = (regs.take (j + 1)).map Value.pointer := by
  rw [List.take_add_one, h]
  simp
theorem owns_last_at {w : World} {base : Nat} {g m cp : Nat} {regs : List (Option Addr)} (h : w.ownsRow base 47 1 (.slice (some ⟨g, 0, none⟩) m cp) m (regs.map Value.pointer)) (b2 : Nat) (hb : w.heap.size ≤ b2) : LastAt w (some ⟨g, 0, none⟩) regs b2 := by
  rcases h.2 with ⟨h1, _⟩ | ⟨g', c, cur, h1, _, h3, _, _, _, h7⟩
  · cases h1
  · injection h1 with h1 _ _
    injection h1 with h1
    injection h1 with h1 _ _
    subst h1
    have hB : Blk w g 47 cur := h3
    refine ⟨g, cur, rfl, Nat.lt_of_lt_of_le hB.lt hb, hB, fun i p hp => ?_⟩
    have e : (cur.toList.take (m * 1))[i]? = some (.pointer p) := by rw [h7]; simp [hp]
    rw [List.getElem?_take] at e
    split at e
    · rw [← Array.getElem?_toList]; exact e
    · cases e
set_option maxRecDepth 100000 in
set_option maxHeartbeats 4000000 in
/-- A step of a look that does not end it. -/
theorem look_goes (LK S R K MV r j n base : Nat) (second : Bool) (hj : j < r) (hr : r ≤ 16) (hmid : j + 1 < r ∨ second = false) (regs : List (Option Addr)) (f : Nat → Int) (w : World) (hL : LookSt w n LK S MV r j second regs base) (hS : SnapAt w S R K r regs f) (hnL : n ≤ LK) :
    Calls Try.prog 32 #[pv LK] w fun e w' => e = .returned (.slice none 0 0) ∧ Kp n base [LK] w w' ∧ ∃ base', LookSt w' n LK S MV r (if j + 1 < r then j + 1 else 0) (second || decide (j + 1 = r)) regs base' := by
  obtain ⟨lp, ln, lc, p, cap, hn, hb, hLk, hown, h1, h2⟩ := hL
  obtain ⟨q, hq⟩ : ∃ q, regs[j]? = some q := ⟨_, List.getElem?_eq_getElem (by rw [hS.len]; exact hj)⟩
  have hR : w.cell? ⟨R, j, none⟩ = some (.pointer q) := hS.regB.cell (by simp [hq])
  refine lookPush LK S R MV r j base n hj hr lp ln lc _ p cap _ q w hLk hS.snap hR (hS.ptr q (List.mem_of_getElem? hq)) hown hb hn hnL _ ?_ ?_
  · intro w1 g cp hlt hL1 hown1 hK
    refine ⟨rfl, hK, base, ?_⟩
    rw [if_pos hlt, decide_eq_false (by omega), Bool.or_false]
    rw [take_snoc_map hq] at hown1
    refine ⟨lp, ln, lc, _, cp, hn, Nat.le_trans hb hK.below.size, hL1, hown1, h1, fun e => ⟨(h2 e).1, ?_⟩⟩
    obtain ⟨b, cur, e1, e2, e3, e4⟩ := (h2 e).2
    exact ⟨b, cur, e1, e2, hK.keep b _ cur e3 (by simp; intro e5; subst e5; exact absurd rfl (Blk.ne2 e3 hLk (by decide))) (.inr e2), e4⟩
  · intro w1 g cp hrj hL1 hown1 hK
    have hsf : second = false := by rcases hmid with h | h; omega; exact h
    obtain ⟨rfl, rfl, rfl⟩ := h1 hsf
    refine (cmp_first LK _ none 0 _ _ w1 hL1).mono ?_
    rintro e w2 ⟨rfl, h⟩
    subst h
    refine ⟨_, rfl, Below.refl _ _, fun w3 hL3 hown3 hK3 => ⟨rfl, hK.trans hK3, w3.heap.size, ?_⟩⟩
    rw [if_neg (by omega), decide_eq_true hrj, Bool.or_true]
    rw [take_snoc_map hq, hrj, ← hS.len, List.take_length] at hown3
    rw [hrj] at hL3
    have hw3 : n ≤ w3.heap.size := by have := hK.below.size; have := hK3.below.size; omega
    refine ⟨some ⟨g, 0, none⟩, r, cp, none, 0, hw3, Nat.le_refl _, hL3, by simpa using World.ownsRow_nil _ _ _ _, (fun e => by cases e), fun _ => ⟨rfl, owns_last_at hown3 _ (Nat.le_refl _)⟩⟩
end Go.Proofs.Ytecolbdnaipgdaa
