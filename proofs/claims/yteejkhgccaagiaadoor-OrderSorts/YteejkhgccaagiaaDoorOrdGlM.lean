/- Package order's glued: its memory, free. -/
import Derived.Test.YteejkhgccaagiaaDoorOrdDel
namespace Go.Proofs.YteejkhgccaagiaaDoor
open Go.RowKit Go.Shelf Sx

/-- A slice of numbers that fills its block, or nil. -/
def BlkS (w : World) (x : SV) (bl : List Nat) : Prop := (bl = [] ∧ x = (none, 0, 0)) ∨ ∃ s, x = (some ⟨s, 0, none⟩, bl.length, bl.length) ∧ Blk w s 3 (intsA (toI bl))
theorem BlkS.len {w : World} {x : SV} {bl : List Nat} (h : BlkS w x bl) : x.2.1 = bl.length := by
  rcases h with ⟨rfl, rfl⟩ | ⟨s, rfl, _⟩ <;> rfl
theorem BlkS.mono {w w' : World} {x : SV} {bl : List Nat} (h : BlkS w x bl) (hb : ∀ s cs, Blk w s 3 cs → Blk w' s 3 cs) : BlkS w' x bl := by
  rcases h with h | ⟨s, e, h⟩
  · exact .inl h
  · exact .inr ⟨s, e, hb s _ h⟩
theorem BlkS.ints {w : World} {x : SV} {bl : List Nat} (h : BlkS w x bl) : IntsR w (encS x) (toI bl) := by
  rcases h with ⟨rfl, rfl⟩ | ⟨s, rfl, h⟩
  · exact .inl ⟨_, _, rfl, rfl⟩
  · exact .inr ⟨s, 0, bl.length, by rw [toI_length]; rfl, h.lt, fun i x hx => by rw [Nat.zero_add]; exact h.cellI hx⟩
/-- Blocks while they are glued: the row that the box holds, and its lists. -/
structure GlR (w : World) (base : Nat) (v : Value) (vs : List SV) (bs : List (List Nat)) : Prop where
  own : w.ownsRow base 29 1 v vs.length (vs.map encS)
  len : vs.length = bs.length
  row : ∀ (i : Nat) (x : SV) (bl : List Nat), vs[i]? = some x → bs[i]? = some bl → BlkS w x bl
/-- Blocks of ints are as they were. -/
def KeepI (w w' : World) : Prop := ∀ s cs, Blk w s 3 cs → Blk w' s 3 cs
theorem KeepI.trans {a b c : World} (h : KeepI a b) (k : KeepI b c) : KeepI a c := fun s cs hs => k s cs (h s cs hs)
theorem KeepI.of_below {w w' : World} (h : Below w.heap.size w w') : KeepI w w' := fun _ _ hs => hs.of_below h
theorem KeepI.set {w : World} {g : Nat} {t : TypeId} {cs : Array Value} (hg : Blk w g t cs) (ht : t ≠ 3) (j : Nat) (v : Value) : KeepI w (w.setCell ⟨g, j, none⟩ v) := fun s c hs => hs.setOther (fun e => by
  have e : s = g := e
  subst e
  have h1 : w.heap[s]? = some (.cells cs t (0, 0)) := hg
  rw [show w.heap[s]? = _ from hs] at h1
  simp at h1
  exact ht h1.2.symm) v
theorem KeepI.grown {w w' : World} {base n : Nat} {v : Value} {xs : List Value} (ho : w.ownsRow base 29 1 v n xs) (hg : w.grownBy w' v.ownBlock) : KeepI w w' := fun s cs hs => (hg.block s hs.lt (fun e => by
  rcases ho.2 with ⟨rfl, _⟩ | ⟨g, cap, cur, rfl, _, hb, _⟩
  · cases e
  · simp [Value.ownBlock] at e
    subst e
    rw [show w.heap[s]? = _ from hs] at hb
    simp at hb)).trans hs
theorem GlR.step {w w' : World} {base : Nat} {v : Value} {vs : List SV} {bs : List (List Nat)} (h : GlR w base v vs bs) (hb : Below w.heap.size w w') : GlR w' base v vs bs :=
  ⟨owns_below' h.own hb, h.len, fun i x bl h1 h2 => (h.row i x bl h1 h2).mono (KeepI.of_below hb)⟩
/-- A cell of the row. -/
theorem GlR.cell {w : World} {base : Nat} {v : Value} {vs : List SV} {bs : List (List Nat)} (h : GlR w base v vs bs) {i : Nat} (hi : i < bs.length) : ∃ g cap x bl, v = .slice (some ⟨g, 0, none⟩) bs.length cap ∧ base ≤ g ∧ g < w.heap.size ∧ vs[i]? = some x ∧ bs[i]? = some bl ∧ w.cell? ⟨g, i, none⟩ = some (encS x) ∧ w.frozen? ⟨g, i, none⟩ = false ∧ x.2.1 = bl.length := by
  have hl := h.len
  obtain ⟨x, hx⟩ : ∃ x, vs[i]? = some x := ⟨_, List.getElem?_eq_getElem (by omega)⟩
  obtain ⟨bl, hbl⟩ : ∃ bl, bs[i]? = some bl := ⟨_, List.getElem?_eq_getElem hi⟩
  rcases h.own.2 with ⟨_, e⟩ | ⟨g, cap, cur, e, hg, hb, _, _, _, ht⟩
  · omega
  · have hk : Blk w g 29 cur := hb
    refine ⟨g, cap, x, bl, by rw [← hl]; exact e, hg, hk.lt, hx, hbl, hk.cell ?_, hk.frozen i, (h.row i x bl hx hbl).len⟩
    have h1 : (vs.map encS)[i]? = some (encS x) := by rw [List.getElem?_map, hx]; rfl
    rw [← ht, List.getElem?_take_of_lt (by omega)] at h1
    simpa using h1
/-- free: is p a point whose block is one point? -/
def freeB (n : Nat) (bs : List (List Nat)) (p : Int) : Bool := inR n p && (bs.getD p.toNat []).length == 1
set_option maxRecDepth 100000 in
set_option maxHeartbeats 1000000 in
theorem glued1_calls (n Bn Bb base : Nat) (v : Value) (vs : List SV) (bs : List (List Nat)) (p : Int) (w : World) (hN : Blk w Bn 3 #[.int .i64 n]) (hB : Blk w Bb 25 #[v]) (h : GlR w base v vs bs) (hn : bs.length = n) :
    Calls Tryd.prog 81 #[.int .i64 p, pv Bn, pv Bb] w fun e w' => e = .returned (.bool (freeB n bs p)) ∧ Below w.heap.size w w' := by
  have n0 := hN.cell (j := 0) rfl
  have b0 := hB.cell (j := 0) rfl
  cases hi : inR n p
  · have HI := hid_of hi
    have e : freeB n bs p = false := by simp [freeB, hi]
    rw [e]
    clear e hi
    go_enter Tryd.func81, Tryd.ntmps81
    go_wp2_with (go_at_call 48; refine (oIsPoint_calls n p _).mono ?_; rw [HI.out]; rintro e w' ⟨rfl, hw'⟩; obtain rfl : w = w' := hw'.symm)
    go_ret
    exact ⟨rfl, Below.refl _ _⟩
  · obtain ⟨j, rfl, hj⟩ := inR_true hi
    have HI := hid_of hi
    obtain ⟨g, cap, x, bl, rfl, hg, hgl, hx, hbl, hc, _, hxl⟩ := h.cell (i := j) (by omega)
    have e : freeB n bs ((j : Nat) : Int) = ((bl.length : Int) == 1) := by
      have h1 : bs.getD j [] = bl := by simp [List.getD, hbl]
      simp only [freeB, hi, Bool.true_and, Int.toNat_natCast, h1]
      rw [Bool.eq_iff_iff]; simp; omega
    rw [e]
    obtain ⟨xa, xl, xc⟩ := x
    have hxl : xl = bl.length := hxl
    subst hxl
    have j0 : (0 : Int) ≤ (j : Int) := by omega
    have j1 : (j : Int) < (bs.length : Int) := by omega
    have hc2 : w.cell? ⟨g, j, none⟩ = some (.slice xa bl.length xc) := hc
    clear e hi hx hbl hc
    go_enter Tryd.func81, Tryd.ntmps81
    go_wp2_with (go_at_call 48; refine (oIsPoint_calls n _ _).mono ?_; rw [HI.out]; rintro e w' ⟨rfl, hw'⟩; obtain rfl : w = w' := hw'.symm)
    go_ret
    exact ⟨rfl, Below.refl _ _⟩
end Go.Proofs.YteejkhgccaagiaaDoor
