/- The statement LexCuts, walked. -/
import Derived.Test.YtkgppagpjbkhmaaDoorLxRef7
import Derived.Test.YtkgppagpjbkhmaaDoorLxMark
import Derived.Test.YtkgppagpjbkhmaaDoorLxAgain
namespace Go.Proofs.YtkgppagpjbkhmaaDoor
open Go.RowKit Go.Shelf

/-- What is left of Lex' answer from its token i on. -/
structure Lft (w wr : World) (gt : Nat) (toks : List Tok) (i : Nat) : Prop where
  but : But gt w wr
  lt : gt < wr.heap.size
  cells : ∀ j t, i ≤ j → toks[j]? = some t → ∀ q, q < 5 → wr.cell? ⟨gt, j * 5 + q, none⟩ = (tokC t)[q]?
  froz : ∀ o, wr.frozen? ⟨gt, o, none⟩ = false
theorem Lft.start {w : World} {base gt cap : Nat} {toks : List Tok} (h : w.ownsRow base 35 5 (.slice (some ⟨gt, 0, none⟩) toks.length cap) toks.length (encT toks)) : Lft w w gt toks 0 :=
  ⟨But.refl _ _, (h.lt gt rfl).2, fun _ _ _ hj q hq => tkn_at h hj q hq, fun o => h.frozenAt o⟩
theorem Lft.to {w wr wx : World} {gt : Nat} {toks : List Tok} {i : Nat} (h : Lft w wr gt toks i) (hb : Below wr.heap.size wr wx) : Lft w wx gt toks i :=
  ⟨h.but.trans (But.of_below hb), Nat.lt_of_lt_of_le h.lt hb.size, fun j t hj ht q hq => (hb.cell (p := ⟨gt, j * 5 + q, none⟩) h.lt).trans (h.cells j t hj ht q hq), fun o => (World.frozen?_of_block (hb.block gt h.lt)).trans (h.froz o)⟩
theorem want_at {w : World} {base g cap : Nat} {l : List Tok} (h : w.ownsRow base 44 5 (.slice (some ⟨g, 0, none⟩) l.length cap) l.length (encT l)) {k : Nat} {x : Tok} (hx : l[k]? = some x) (j : Nat) (hj : j < 5) : w.cell? ⟨g, k * 5 + j, none⟩ = (tokC x)[j]? := by
  have hk := (List.getElem?_eq_some_iff.1 hx).1
  rw [h.cellAt (k * 5 + j) (by omega), encT_at l k x hx j hj]
theorem want_form {w : World} {base n : Nat} {v : Value} {xs : List Value} (h : w.ownsRow base 44 5 v n xs) (h0 : 0 < n) : ∃ g cap, v = .slice (some ⟨g, 0, none⟩) n cap := by
  rcases h.2 with ⟨_, e⟩ | ⟨g, cap, cur, e, _⟩
  · omega
  · exact ⟨g, cap, e⟩
end Go.Proofs.YtkgppagpjbkhmaaDoor
