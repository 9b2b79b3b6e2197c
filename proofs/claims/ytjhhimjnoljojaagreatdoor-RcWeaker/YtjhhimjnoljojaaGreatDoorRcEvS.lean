/- An event of our own list, overwritten. -/
import Derived.Test.YtjhhimjnoljojaaGreatDoorJ26
import Derived.Test.YtjhhimjnoljojaaGreatDoorJ30
import Derived.Deep.MidRow
namespace Go.Proofs.YtjhhimjnoljojaaGreatDoor
open Go.RowKit Go.Shelf Sx
def evL (e : Ev) : List Value := [.int .i64 e.t, .int .i64 e.k, .int .i64 e.l, .int .u64 e.v, .int .i64 e.m]
theorem encEv_set : ∀ (l : List Ev) (i : Nat) (e : Ev), i < l.length → encEv (l.set i e) = (((((encEv l).set (i * 5) (.int .i64 e.t)).set (i * 5 + 1) (.int .i64 e.k)).set (i * 5 + 2) (.int .i64 e.l)).set (i * 5 + 3) (.int .u64 e.v)).set (i * 5 + 4) (.int .i64 e.m)
  | [], i, e, h => by simp at h
  | x :: l, 0, e, _ => by simp [encEv_cons]
  | x :: l, i + 1, e, h => by
    have ih := encEv_set l i e (by simpa using h)
    rw [List.set_cons_succ, encEv_cons, ih, encEv_cons]
    have e5 : ∀ k, (i + 1) * 5 + k = i * 5 + k + 5 := fun k => by omega
    have e0 : (i + 1) * 5 = i * 5 + 5 := by omega
    rw [e5 1, e5 2, e5 3, e5 4, e0]
    simp only [List.set_cons_succ]
theorem own_set {W : World} {base es cap : Nat} {l : List Ev} (h : W.ownsRow base 31 5 (.slice (some ⟨es, 0, none⟩) l.length cap) l.length (encEv l)) {i : Nat} (hi : i < l.length) (e : Ev) :
    (W.setCells es (i * 5) (evL e)).ownsRow base 31 5 (.slice (some ⟨es, 0, none⟩) (l.set i e).length cap) (l.set i e).length (encEv (l.set i e)) := by
  rcases h.2 with ⟨h2, _⟩ | ⟨g, cap', cur, h2, hb, hg, hc, hm, hs, ht⟩
  · cases h2
  · have h3 : es = g ∧ cap = cap' := by simpa using h2
    obtain ⟨rfl, rfl⟩ := h3
    have hB : Blk W es 31 cur := hg
    have k1 := ((((hB.set (i * 5) (.int .i64 e.t)).set (i * 5 + 1) (.int .i64 e.k)).set (i * 5 + 2) (.int .i64 e.l)).set (i * 5 + 3) (.int .u64 e.v)).set (i * 5 + 4) (.int .i64 e.m)
    rw [List.length_set]
    refine ⟨by rw [encEv_length, List.length_set], .inr ⟨es, cap, _, rfl, hb, k1, hc, hm, by simp [hs], ?_⟩⟩
    rw [encEv_set l i e hi, ← ht]
    simp only [Array.toList_setIfInBounds, List.take_set]
theorem there_of {W : World} {base es cap : Nat} {l : List Ev} (h : W.ownsRow base 31 5 (.slice (some ⟨es, 0, none⟩) l.length cap) l.length (encEv l)) {i : Nat} (hi : i < l.length) : W.there es (i * 5) 5 := by
  rcases h.2 with ⟨h2, _⟩ | ⟨g, cap', cur, h2, hb, hg, hc, hm, hs, ht⟩
  · cases h2
  · have h3 : es = g ∧ cap = cap' := by simpa using h2
    obtain ⟨rfl, rfl⟩ := h3
    have hB : Blk W es 31 cur := hg
    intro j hj
    have hlt : i * 5 + j < cur.size := by rw [hs]; have : i + 1 ≤ cap := by omega
                                          have := Nat.mul_le_mul_right 5 this
                                          omega
    refine ⟨?_, hB.frozen _⟩
    rw [hB.cell (j := i * 5 + j) (v := cur[i * 5 + j]) (by simp [hlt])]
    rfl
theorem cells_apart {W : World} {b : Nat} : ∀ (vs : List Value) (o k : Nat), k ≠ b → (W.setCells b o vs).heap[k]? = W.heap[k]? := by
  intro vs
  induction vs generalizing W with
  | nil => intro o k _; rfl
  | cons v r ih =>
    intro o k hk
    show ((W.setCell ⟨b, o, none⟩ v).setCells b (o + 1) r).heap[k]? = _
    rw [ih (o + 1) k hk]
    exact Below.heap_setCell _ _ _ _ hk
end Go.Proofs.YtjhhimjnoljojaaGreatDoor
