/- The statement LexPlaces, walked. -/
import Derived.Test.YtkgppagpjbkhmaaDoorLxPos
import Derived.Test.YtkgppagpjbkhmaaDoorLxKinds
import Derived.BigQuiet
namespace Go.Proofs.YtkgppagpjbkhmaaDoor
open Go.RowKit Go.Shelf

theorem encT_at : ∀ (l : List Tok) (i : Nat) (x : Tok), l[i]? = some x → ∀ j, j < 5 → (encT l)[i * 5 + j]? = (tokC x)[j]?
  | [], i, x, h => by simp at h
  | u :: l, 0, x, h => by
    simp at h
    subst h
    intro j hj
    have e : encT (u :: l) = (tokC u).toList ++ encT l := by simp [encT]
    rw [e, List.getElem?_append_left (by simp [tokC, tokA]; omega)]
    simp
  | u :: l, i + 1, x, h => by
    intro j hj
    have h : l[i]? = some x := by simpa using h
    have := encT_at l i x h j hj
    rw [show (i + 1) * 5 + j = 5 + (i * 5 + j) by omega]
    have e : encT (u :: l) = (tokC u).toList ++ encT l := by simp [encT]
    rw [e, List.getElem?_append_right (by simp [tokC, tokA])]
    simpa [tokC, tokA] using this
theorem tkn_at {w : World} {base g cap : Nat} {l : List Tok} (h : w.ownsRow base 35 5 (.slice (some ⟨g, 0, none⟩) l.length cap) l.length (encT l)) {k : Nat} {x : Tok} (hx : l[k]? = some x) (j : Nat) (hj : j < 5) : w.cell? ⟨g, k * 5 + j, none⟩ = (tokC x)[j]? := by
  have hk := (List.getElem?_eq_some_iff.1 hx).1
  rw [h.cellAt (k * 5 + j) (by omega), encT_at l k x hx j hj]
theorem lexK_err : ∀ f s l k acc e, lexK f s l k acc = .error e → e.code ≠ 0 := by
  intro f
  induction f with
  | zero => intro s l k acc e h; exact absurd h (by simp [lexK])
  | succ f ih =>
    intro s l k acc e h
    unfold lexK at h
    split at h
    · rename_i hc
      cases h
      exact hc
    · split at h
      · exact absurd h (by simp)
      · exact ih _ _ _ _ _ h
theorem lexA_err {s : ByteArray} {e : Flt} (h : lexA s = .error e) : e.code ≠ 0 := by
  unfold lexA at h
  split at h
  · cases h
    show (32 : Nat) ≠ 0
    decide
  · exact lexK_err _ _ _ _ _ _ h
/-- Where the statement stands ahead of token i. -/
def Stand (s : ByteArray) (toks : List Tok) (i k e : Nat) : Prop :=
  k < (runesA s).length ∧ e ≤ s.size ∧ ((i < toks.length ∧ Places s (toks.drop i) k e) ∨ (i = toks.length ∧ (∃ x, (runesA s)[k]? = some x ∧ x.n = 0) ∧ ∃ t, toks[toks.length - 1]? = some t ∧ t.kind = 5))
theorem Stand.start {s : ByteArray} {toks : List Tok} (h : Places s toks 0 0) : Stand s toks 0 0 0 := by
  refine ⟨runesK_pos s s.size 0 1 1, Nat.zero_le _, Or.inl ⟨?_, h⟩⟩
  cases toks with
  | nil => exact absurd h (fun h => h)
  | cons t ts => simp
theorem Stand.step {s : ByteArray} {toks : List Tok} {i k e : Nat} (h : Stand s toks i k e) (hi : i < toks.length) :
    ∃ t x j, toks[i]? = some t ∧ (runesA s)[j]? = some x ∧ k ≤ j ∧ j < (runesA s).length ∧ x.line = t.line ∧ x.col = t.col ∧ e ≤ x.at_ ∧ x.at_ + t.text.size ≤ s.size ∧ t.text = s.extract x.at_ (x.at_ + t.text.size) ∧ (t.text.size = 0 ↔ t.kind = 5) ∧ (∀ i' y, i' < j → (runesA s)[i']? = some y → ¬ (y.line = t.line ∧ y.col = t.col)) ∧ Stand s toks (i + 1) j (x.at_ + t.text.size) := by
  obtain ⟨_, _, h3⟩ := h
  rcases h3 with ⟨_, h3⟩ | ⟨h3, _⟩
  · rw [List.drop_eq_getElem_cons hi] at h3
    obtain ⟨j, p, a1, a2, a3, a4, a5, a6, a7⟩ := h3
    obtain ⟨x, b1, b2, b3, b4, b5⟩ := a3.get
    subst b2
    have hj : j < (runesA s).length := (List.getElem?_eq_some_iff.1 b1).1
    refine ⟨toks[i], x, j, List.getElem?_eq_getElem hi, b1, a1, hj, b3, b4, a2, a4, a5, a6, ?_, hj, a4, ?_⟩
    · intro i' y hy1 hy2 hy3
      exact runes_rise s hy2 b1 hy1 ⟨hy3.1.trans b3.symm, hy3.2.trans b4.symm⟩
    · rcases a7 with ⟨c1, c2, c3⟩ | c
      · have hl : i + 1 = toks.length := by
          have := congrArg List.length c1
          rw [List.length_drop, List.length_nil] at this
          omega
        refine Or.inr ⟨hl, ⟨x, b1, b5.2 c3⟩, toks[i], ?_, c2⟩
        rw [show toks.length - 1 = i by omega]
        exact List.getElem?_eq_getElem hi
      · refine Or.inl ⟨?_, c⟩
        rcases Nat.lt_or_ge (i + 1) toks.length with h | h
        · exact h
        · rw [List.drop_eq_nil_of_le h] at c
          exact absurd c (fun c => c)
  · omega
theorem Stand.last {s : ByteArray} {toks : List Tok} {k e : Nat} (h : Stand s toks toks.length k e) : (∃ x, (runesA s)[k]? = some x ∧ x.n = 0) ∧ ∃ t, toks[toks.length - 1]? = some t ∧ t.kind = 5 := by
  rcases h.2.2 with ⟨h, _⟩ | ⟨_, h⟩
  · omega
  · exact h
/-- A piece of bytes. -/
theorem sub_bytes {w : World} {x : Option Addr} {cap lo m : Nat} {s : ByteArray} (h : BytesR w (.slice x s.size cap) s) (hc : s.size ≤ cap) (hl : lo + m ≤ s.size) : BytesR w (sliced x lo (lo + m) cap 1) (s.extract lo (lo + m)) := by
  have hz := cut_size s lo m hl
  unfold sliced
  by_cases hm : m = 0
  · subst hm
    rw [show lo + 0 - lo = 0 by omega]
    refine .inl ⟨_, _, rfl, ?_⟩
    have : (s.extract lo (lo + 0)).data.toList = [] := by
      rw [← List.length_eq_zero_iff, Array.length_toList]
      exact hz
    exact ByteArray.ext (Array.toList_inj.1 this)
  · rw [if_neg (by omega)]
    rcases h with ⟨x', cap', h, rfl⟩ | ⟨g, o, cap', h, h2, h3⟩
    · have : (⟨#[]⟩ : ByteArray).size = 0 := rfl
      omega
    · cases h
      refine .inr ⟨g, o + lo, cap - lo, ?_, h2, ?_⟩
      · rw [hz, show lo + m - lo = m by omega, Option.map_some, Addr.add_lit, Nat.mul_one]
      · intro j hj
        have hjm : j < m := by
          rw [Array.length_toList] at hj
          have : j < (s.extract lo (lo + m)).size := hj
          omega
        have e : (s.extract lo (lo + m)).data.toList[j]? = s.data.toList[lo + j]? := by
          rw [ByteArray.data_extract]
          simp only [Array.toList_extract, List.extract_eq_take_drop]
          rw [List.getElem?_take_of_lt (by omega), List.getElem?_drop]
        have hlt : lo + j < s.data.toList.length := by
          rw [Array.length_toList]
          show lo + j < s.size
          omega
        rw [List.getElem?_eq_getElem hj, List.getElem?_eq_getElem hlt] at e
        rw [Option.some.inj e, Nat.add_assoc]
        exact h3 (lo + j) hlt
theorem slice_bytes (w : World) (x : Option Addr) (n cap lo m : Nat) (h : lo + m ≤ cap) : (Instr.slice 32 (.slice x n cap) (some (.int .i64 ((lo : Nat) : Int))) (some (.int .i64 (((lo : Nat) : Int) + ((m : Nat) : Int)))) none).run Tryd.prog w = .ok (sliced x lo (lo + m) cap 1) w := by
  rw [run_slice_lh (P := Tryd.prog) (w := w) (t := 32) (a := x) (len := n) (cap := cap) Tryd.underlying32 (kl := .i64) (kh := .i64) _ _ (by omega) (by omega) (by omega)]
  have e1 : ((lo : Nat) : Int).toNat = lo := by omega
  have e2 : (((lo : Nat) : Int) + ((m : Nat) : Int)).toNat = lo + m := by omega
  rw [e1, e2]
  rfl
theorem wrap_sub (a b : Nat) (h : b ≤ a) (ha : a ≤ 281474976710656) : wrap64 (((a : Nat) : Int) - ((b : Nat) : Int)) = ((a : Nat) : Int) - ((b : Nat) : Int) := by
  unfold wrap64
  omega
theorem wrap_add (a b : Nat) (ha : a + b ≤ 281474976710656) : wrap64 (((a : Nat) : Int) + ((b : Nat) : Int)) = ((a : Nat) : Int) + ((b : Nat) : Int) := by
  unfold wrap64
  omega
theorem wrapI_sub (a b : Nat) (h : b ≤ a) (ha : a ≤ 281474976710656) : IntKind.i64.wrap (((a : Nat) : Int) - ((b : Nat) : Int)) = ((a : Nat) : Int) - ((b : Nat) : Int) := by
  rw [IntKind.wrap_i64]
  omega
theorem wrapI_add (a b : Nat) (ha : a + b ≤ 281474976710656) : IntKind.i64.wrap (((a : Nat) : Int) + ((b : Nat) : Int)) = ((a : Nat) : Int) + ((b : Nat) : Int) := by
  rw [IntKind.wrap_i64]
  omega
theorem wrap_one (a : Nat) (h : 1 ≤ a) (ha : a ≤ 9223372036854775807) : wrap64 (((a : Nat) : Int) - 1) = ((a : Nat) : Int) - 1 := by
  unfold wrap64
  omega
theorem tok_few {w : World} {base : Nat} {v : Value} {n : Nat} {xs : List Value} (h : w.ownsRow base 35 5 v n xs) : n ≤ 9223372036854775807 := by
  rcases h.2 with ⟨_, e⟩ | ⟨g, cap', cur, _, _, _, h1, h2, _⟩
  · omega
  · unfold maxLen at h2
    omega
end Go.Proofs.YtkgppagpjbkhmaaDoor
