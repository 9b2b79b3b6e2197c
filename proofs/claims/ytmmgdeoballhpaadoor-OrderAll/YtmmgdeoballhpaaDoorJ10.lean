/- The contract of slices.Clone at lists of ints. -/
import Derived.Test.YtmmgdeoballhpaaDoorJ09
import Derived.Shelf.Lay
import Derived.Deep.Onto
import Derived.Ground.SlgnProg
import Derived.Shelf.SlicesE.Clone
namespace Go.Proofs
open Go.Shelf
def Tryd.laysCloneI_ren : Go.Shelf.Ren := ⟨fun | 41 => 68 | n => n, fun | 22 => 29 | 23 => 3 | 4 => 4 | n => n, fun | n => n⟩
theorem Tryd.laysCloneI : Go.Proofs.SlLaysE0.n41 Tryd.prog Tryd.laysCloneI_ren := {
  mixed := by kernel_rfl
  f41 := ⟨Tryd.f68.name, by decide, Tryd.func68.trans (congrArg some (by kernel_rfl))⟩
  t4 := Tryd.underlying4
  a4 := Tryd.isAgg4
  z4 := Tryd.sizeOf4
  v4 := Tryd.zeroValue4
  t22 := Tryd.underlying29
  a22 := Tryd.isAgg29
  z22 := Tryd.sizeOf29
  v22 := Tryd.zeroValue29 }
end Go.Proofs
namespace Go.Proofs.YtmmgdeoballhpaaDoor
open Go.RowKit Go.Shelf Sx

theorem sizeOf_int (w : World) : (Go.sizeOf 3).run Tryd.prog w = .ok 1 w := by
  obtain ⟨i, hx, hz, hs, hb⟩ := info_parts Tryd.infoint
  simp [Go.sizeOf, typeInfo, hx, hs]
set_option maxRecDepth 100000 in
theorem cloneI_calls (v : Value) (l : List Int) (w : World) (hv : IntsR w v l) (hn : l = [] → v = .slice none 0 0) (hm : l.length ≤ 1000000) :
    Calls Tryd.prog 68 #[v] w fun e w' => ∃ v', e = .returned v' ∧ w'.ownsRow w.heap.size 3 1 v' l.length (encJ l) ∧ Below w.heap.size w w' := by
  obtain ⟨i, hx, hz, hs, hby⟩ := info_parts Tryd.infoint
  cases l with
  | nil =>
    rw [hn rfl]
    refine (AnyE.slices_Clone_nil Tryd.laysCloneI 0 0 w).mono ?_
    rintro e w' ⟨rfl, rfl⟩
    exact ⟨_, rfl, World.ownsRow_nil _ _ _ _, Below.refl _ _⟩
  | cons x0 l0 =>
    obtain ⟨s, o, cap, rfl, h1, h2⟩ := hv.some (by simp)
    generalize x0 :: l0 = l at *
    refine (AnyE.slices_Clone Tryd.laysCloneI i (.int .i64 0) 1 8 hx hz hs hby rfl (by omega) sizeOf_int s o l.length cap (encJ l) w (by simp [encJ]) (by unfold maxLen; omega) (by omega) (fun j u hj => ?_) (fun u hu => ?_)).mono ?_
    · rw [encJ, List.getElem?_map] at hj
      cases hx : l[j]? with
      | none => rw [hx] at hj; cases hj
      | some y =>
        rw [hx] at hj
        injection hj with hj
        subst hj
        exact h2 j y hx
    · obtain ⟨k, _, rfl⟩ := List.mem_map.1 hu
      rfl
    · rintro e w' ⟨v', rfl, ho, _, hB⟩
      exact ⟨v', rfl, ho, hB⟩
end Go.Proofs.YtmmgdeoballhpaaDoor
/- Package order's line: count, put, next. -/
namespace Go.Proofs.YtmmgdeoballhpaaDoor
open Go.RowKit Go.Shelf Sx

theorem Blk.grown {w w' : World} {b : Nat} {t : TypeId} {cs : Array Value} {row : Option Nat} (h : Blk w b t cs) (hg : w.grownBy w' row) (hne : some b ≠ row) : Blk w' b t cs := (hg.block b h.lt hne).trans h
theorem owns_ne {w : World} {base : Nat} {e : TypeId} {size : Nat} {v : Value} {n : Nat} {xs : List Value} (h : w.ownsRow base e size v n xs) {k : Nat} (hk : k < base) : some k ≠ v.ownBlock := by
  rcases h.2 with ⟨rfl, _⟩ | ⟨g, cap, cur, rfl, hg, _⟩
  · simp [Value.ownBlock]
  · intro e'
    simp [Value.ownBlock] at e'
    omega
theorem owns_ge {w : World} {base : Nat} {e : TypeId} {size : Nat} {v : Value} {n : Nat} {xs : List Value} (h : w.ownsRow base e size v n xs) {k : Nat} (hk : v.ownBlock = some k) : base ≤ k := by
  apply Nat.le_of_not_lt
  intro hlt
  exact owns_ne h hlt hk.symm
theorem owns_set {w : World} {base : Nat} {e : TypeId} {size : Nat} {v : Value} {n : Nat} {xs : List Value} (h : w.ownsRow base e size v n xs) {a : Addr} (hne : a.block < base) (u : Value) : (w.setCell a u).ownsRow base e size v n xs := by
  refine ⟨h.1, ?_⟩
  rcases h.2 with h2 | ⟨g, cap, cur, h3, h4, h5, h6⟩
  · exact .inl h2
  · exact .inr ⟨g, cap, cur, h3, h4, (Below.heap_setCell w a u g (by omega)).trans h5, h6⟩
theorem owns_form {w : World} {base : Nat} {e : TypeId} {size : Nat} {v : Value} {n : Nat} {xs : List Value} (h : w.ownsRow base e size v (n + 1) xs) : ∃ g cap, v = .slice (some ⟨g, 0, none⟩) (n + 1) cap ∧ base ≤ g ∧ g < w.heap.size := by
  rcases h.2 with ⟨_, e⟩ | ⟨g, cap, _, e, hg, hb, _⟩
  · omega
  · exact ⟨g, cap, e, hg, (Array.getElem?_eq_some_iff.1 hb).1⟩
/-- A slice of numbers in a block from lo on, below hi. -/
def IntsZ (w : World) (lo hi : Nat) (v : Value) (l : List Nat) : Prop := ∃ p cap, v = .slice p l.length cap ∧ (0 < l.length → ∃ s, p = some ⟨s, 0, none⟩ ∧ lo ≤ s ∧ s < hi ∧ ∀ (i x : Nat), l[i]? = some x → w.cell? ⟨s, i, none⟩ = some (.int .i64 x))
/-- The blocks below N other than l and wt are as they were. -/
structure Keep2 (l wt N : Nat) (w w' : World) : Prop where
  os : w'.os = w.os
  tape : w'.tape = w.tape
  output : w'.output = w.output
  size : w.heap.size ≤ w'.heap.size
  block : ∀ k, k < N → k ≠ l → k ≠ wt → w'.heap[k]? = w.heap[k]?
theorem Keep2.refl (l wt N : Nat) (w : World) : Keep2 l wt N w w := ⟨rfl, rfl, rfl, Nat.le_refl _, fun _ _ _ _ => rfl⟩
theorem Keep2.trans {l wt N : Nat} {a b c : World} (h : Keep2 l wt N a b) (k : Keep2 l wt N b c) : Keep2 l wt N a c :=
  ⟨k.os.trans h.os, k.tape.trans h.tape, k.output.trans h.output, Nat.le_trans h.size k.size, fun i hi h1 h2 => (k.block i hi h1 h2).trans (h.block i hi h1 h2)⟩
theorem Keep2.mono {l wt N M : Nat} {a b : World} (h : Keep2 l wt N a b) (hM : M ≤ N) : Keep2 l wt M a b := ⟨h.os, h.tape, h.output, h.size, fun k hk => h.block k (by omega)⟩
theorem Keep2.of_below {l wt N : Nat} {a b : World} (h : Below N a b) : Keep2 l wt N a b := ⟨h.os, h.tape, h.output, h.size, fun k hk _ _ => h.block k hk⟩
theorem Keep2.below {l wt N M : Nat} {a b : World} (h : Keep2 l wt N a b) (hM : M ≤ N) (h1 : M ≤ l) (h2 : M ≤ wt) : Below M a b := ⟨h.os, h.tape, h.output, h.size, fun k hk => h.block k (by omega) (by omega) (by omega)⟩
theorem Keep2.setL {l wt N j : Nat} {a b : World} (h : Keep2 l wt N a b) (v : Value) : Keep2 l wt N a (b.setCell ⟨l, j, none⟩ v) :=
  ⟨h.os, h.tape, h.output, by simpa [World.setCell] using h.size, fun k hk h1 h2 => (Below.heap_setCell b ⟨l, j, none⟩ v k h1).trans (h.block k hk h1 h2)⟩
theorem Keep2.setW {l wt N j : Nat} {a b : World} (h : Keep2 l wt N a b) (v : Value) : Keep2 l wt N a (b.setCell ⟨wt, j, none⟩ v) :=
  ⟨h.os, h.tape, h.output, by simpa [World.setCell] using h.size, fun k hk h1 h2 => (Below.heap_setCell b ⟨wt, j, none⟩ v k h2).trans (h.block k hk h1 h2)⟩
theorem Blk.keep2 {l wt N : Nat} {a b : World} {k : Nat} {t : TypeId} {cs : Array Value} (hb : Blk a k t cs) (h : Keep2 l wt N a b) (hk : k < N) (h1 : k ≠ l) (h2 : k ≠ wt) : Blk b k t cs := (h.block k hk h1 h2).trans hb
theorem IntsZ.keep2 {l wt N lo hi : Nat} {a b : World} {v : Value} {xs : List Nat} (hz : IntsZ a lo hi v xs) (h : Keep2 l wt N a b) (hi' : hi ≤ N) (h1 : l < lo) (h2 : wt < lo) : IntsZ b lo hi v xs := by
  obtain ⟨p, cap, e, hp⟩ := hz
  refine ⟨p, cap, e, fun h0 => ?_⟩
  obtain ⟨s, e2, h3, h4, h5⟩ := hp h0
  refine ⟨s, e2, h3, h4, fun i x hx => ?_⟩
  have := h5 i x hx
  unfold World.cell? at this ⊢
  rw [h.block s (by omega) (by omega) (by omega)]
  exact this

/-- A line in memory: its own blocks lie below N1, the lists of those behind from N1 to N0. -/
structure Ln (w : World) (N1 N0 l bh wt : Nat) (vp : Value) (vs : List Value) (beh : List (List Nat)) (wts : List Int) : Prop where
  st : Blk w l 107 #[vp, .slice (some ⟨bh, 0, none⟩) wts.length wts.length, .slice (some ⟨wt, 0, none⟩) wts.length wts.length]
  bhB : Blk w bh 29 vs.toArray
  wtB : Blk w wt 3 (intsA wts)
  vlen : vs.length = wts.length
  blen : beh.length = wts.length
  rows : ∀ (p : Nat) (v : Value) (bl : List Nat), vs[p]? = some v → beh[p]? = some bl → IntsZ w N1 N0 v bl
  small : ∀ bl ∈ beh, bl.length ≤ 256 ∧ ∀ q ∈ bl, q < wts.length
  low : l < N1 ∧ bh < N1 ∧ wt < N1
  ne : l ≠ bh ∧ l ≠ wt ∧ bh ≠ wt
  hN : N1 ≤ N0 ∧ N0 ≤ w.heap.size
  len : wts.length ≤ 256

def subAll (by_ : Int) (wts : List Int) (bl : List Nat) : List Int := bl.foldl (fun ws q => ws.set q (ws.getD q 0 - by_)) wts
theorem subAll_snoc (by_ : Int) (wts : List Int) (bl : List Nat) (q : Nat) : subAll by_ wts (bl ++ [q]) = (subAll by_ wts bl).set q ((subAll by_ wts bl).getD q 0 - by_) := by simp [subAll]
theorem subAll_length (by_ : Int) (bl : List Nat) (wts : List Int) : (subAll by_ wts bl).length = wts.length := by
  unfold subAll
  induction bl generalizing wts with
  | nil => rfl
  | cons q bl ih => rw [List.foldl_cons, ih, List.length_set]
def countF (by_ : Int) (wts : List Int) (p : Nat) (bl : List Nat) : List Int := subAll by_ (wts.set p (wts.getD p 0 + by_)) bl
def Sm (B : Int) (l : List Int) : Prop := ∀ x ∈ l, -B ≤ x ∧ x ≤ B
theorem Sm.set {B : Int} {l : List Int} (h : Sm B l) {d : Int} {q : Nat} (hd : -1 ≤ d ∧ d ≤ 1) (hB : 0 ≤ B) : Sm (B + 1) (l.set q (l.getD q 0 + d)) := by
  intro x hx
  have hg : -B ≤ l.getD q 0 ∧ l.getD q 0 ≤ B := by
    by_cases hq : q < l.length
    · have : l.getD q 0 = l[q] := by simp [List.getD, hq]
      rw [this]; exact h _ (List.getElem_mem _)
    · have : l.getD q 0 = 0 := by simp [List.getD, hq]
      rw [this]; omega
  rcases List.mem_or_eq_of_mem_set hx with hx | rfl
  · have := h x hx; omega
  · omega
theorem subAll_sm {by_ : Int} (hd : -1 ≤ by_ ∧ by_ ≤ 1) : ∀ (bl : List Nat) {B : Int} {wts : List Int}, 0 ≤ B → Sm B wts → Sm (B + bl.length) (subAll by_ wts bl)
  | [], B, wts, _, h => by simpa [subAll] using h
  | q :: bl, B, wts, hB, h => by
    have h1 := h.set (d := -by_) (q := q) (by omega) hB
    have h2 := subAll_sm hd bl (B := B + 1) (by omega) h1
    rw [show subAll by_ wts (q :: bl) = subAll by_ (wts.set q (wts.getD q 0 + -by_)) bl from by simp [subAll, Int.sub_eq_add_neg]]
    intro x hx
    have := h2 x hx
    simp
    omega
theorem getD_of {l : List Int} {q : Nat} (hq : q < l.length) : l[q]? = some (l.getD q 0) := by simp [List.getD, hq]
theorem Ln.wset {w : World} {N1 N0 l bh wt : Nat} {vp : Value} {vs : List Value} {beh : List (List Nat)} {wts : List Int} (h : Ln w N1 N0 l bh wt vp vs beh wts) (j : Nat) (x : Int) : Ln (w.setCell ⟨wt, j, none⟩ (.int .i64 x)) N1 N0 l bh wt vp vs beh (wts.set j x) := by
  obtain ⟨a, b, c, d, e, f, g, hl, hn, hN, hle⟩ := h
  have hk : Keep2 l wt N0 w (w.setCell ⟨wt, j, none⟩ (.int .i64 x)) := (Keep2.refl _ _ _ _).setW _
  refine ⟨?_, b.setOther (by simpa using hn.2.2) _, c.setI j x, by simpa using d, by simpa using e, fun p v bl h1 h2 => (f p v bl h1 h2).keep2 hk (Nat.le_refl _) hl.1 hl.2.2, by simpa using g, hl, hn, ⟨hN.1, by simpa [World.setCell] using hN.2⟩, by simpa using hle⟩
  have := a.setOther (a := ⟨wt, j, none⟩) (by simpa using hn.2.1) (.int .i64 x)
  simpa using this
theorem Ln.drew {w : World} {N1 N0 l bh wt : Nat} {vp : Value} {vs : List Value} {beh : List (List Nat)} {wts : List Int} (h : Ln w N1 N0 l bh wt vp vs beh wts) : Ln w.drew N1 N0 l bh wt vp vs beh wts := by
  obtain ⟨a, b, c, d, e, f, g, hl, hn, hN, hle⟩ := h
  exact ⟨a, b, c, d, e, fun p v bl h1 h2 => f p v bl h1 h2, g, hl, hn, hN, hle⟩
theorem Ln.keep {w w' : World} {N1 N0 l bh wt : Nat} {vp : Value} {vs : List Value} {beh : List (List Nat)} {wts : List Int} (h : Ln w N1 N0 l bh wt vp vs beh wts) (hb : Below N0 w w') : Ln w' N1 N0 l bh wt vp vs beh wts := by
  obtain ⟨a, b, c, d, e, f, g, hl, hn, hN, hle⟩ := h
  exact ⟨a.below hb (by omega), b.below hb (by omega), c.below hb (by omega), d, e, fun p v bl h1 h2 => (f p v bl h1 h2).keep2 (Keep2.of_below (l := l) (wt := wt) hb) (Nat.le_refl _) hl.1 hl.2.2, g, hl, hn, ⟨hN.1, Nat.le_trans hN.2 hb.size⟩, hle⟩
set_option maxHeartbeats 4000000 in
theorem oCount_calls (N1 N0 l bh wt : Nat) (vp : Value) (vs : List Value) (beh : List (List Nat)) (wts : List Int) (p : Nat) (by_ : Int) (w : World) (h : Ln w N1 N0 l bh wt vp vs beh wts) (hp : p < wts.length) (hb : by_ = 1 ∨ by_ = -1) (hsm : Sm 100000 wts) :
    Calls Tryd.prog 90 #[pv l, .int .i64 p, .int .i64 by_] w fun e w' => (∃ r, e = .returned r) ∧ Ln w' N1 N0 l bh wt vp vs beh (countF by_ wts p (beh.getD p [])) ∧ Keep2 l wt w.heap.size w w' := by
  have s0 := h.st.cell (j := 0) rfl
  have s1 := h.st.cell (j := 1) rfl
  have s2 := h.st.cell (j := 2) rfl
  have c0 := h.wtB.cellI (getD_of hp)
  have f0 := h.wtB.frozen p
  obtain ⟨v, hv⟩ : ∃ v, vs[p]? = some v := ⟨_, List.getElem?_eq_getElem (by rw [h.vlen]; exact hp)⟩
  obtain ⟨bl, hbl⟩ : ∃ bl, beh[p]? = some bl := ⟨_, List.getElem?_eq_getElem (by rw [h.blen]; exact hp)⟩
  have b0 : w.cell? ⟨bh, p, none⟩ = some v := h.bhB.cell (by simpa using hv)
  obtain ⟨pp, cap, rfl, hz⟩ := h.rows p v bl hv hbl
  have HZ := hid_of hz
  clear hz
  obtain ⟨hbl1, hbl2⟩ := h.small bl (List.mem_of_getElem? hbl)
  rw [show beh.getD p [] = bl from by simp [List.getD, hbl]]
  have hlow := h.low
  have hne := h.ne
  have hN := h.hN
  have p0 : (0 : Int) ≤ (p : Int) := by omega
  have p1 : (p : Int) < (wts.length : Int) := by omega
  have hx : -100000 ≤ wts.getD p 0 ∧ wts.getD p 0 ≤ 100000 := hsm _ (List.mem_of_getElem? (getD_of hp))
  have hl1 := h.wset p (wts.getD p 0 + by_)
  have hs1 := hsm.set (d := by_) (q := p) (by omega) (by omega)
  have hK1 : Keep2 l wt w.heap.size w (w.setCell ⟨wt, p, none⟩ (.int .i64 (wts.getD p 0 + by_))) := (Keep2.refl _ _ _ _).setW _
  have HW : Hid (wrap64 (wts.getD p 0 + by_) = wts.getD p 0 + by_) := by show _ = _; unfold wrap64; omega
  have HF : Hid (∀ X, countF by_ wts p X = subAll by_ (wts.set p (wts.getD p 0 + by_)) X) := fun X => rfl
  have HL1 := hid_of hl1
  have HS1 := hid_of hs1
  clear hv hbl hl1 hs1 hsm
  have hwl : (wts.set p (wts.getD p 0 + by_)).length = wts.length := by simp
  generalize wts.getD p 0 = x at *
  generalize wts.set p (x + by_) = ws0 at *
  generalize countF by_ wts p = cF at *
  go_enter Tryd.func90, Tryd.ntmps90
  go_wp2_with fail
  clear c0 f0 b0 s0 s1 s2 HW h
  go_loopw [26] (fun i wr => ∃ k : Nat, k ≤ bl.length ∧ i = .int .i64 k ∧ Hid (Ln wr N1 N0 l bh wt vp vs beh (subAll by_ ws0 (bl.take k))) ∧ Hid (Sm (100001 + k) (subAll by_ ws0 (bl.take k))) ∧ Keep2 l wt w.heap.size w wr) (fun i _ => bl.length - (intOf i).toNat)
  case atStart => exact ⟨0, by omega, rfl, HL1, HS1.out, hK1⟩
  case round =>
    clear hK1 HL1 HS1
    obtain ⟨k, hk, rfl, HL, HS, hK⟩ := hrel
    by_cases hlt : k < bl.length
    · obtain ⟨s, rfl, z1, z2, z3⟩ := HZ.out (by omega)
      obtain ⟨q, hq⟩ : ∃ q, bl[k]? = some q := ⟨_, List.getElem?_eq_getElem hlt⟩
      have hqn := hbl2 q (List.mem_of_getElem? hq)
      have hln := HL.out
      have hlen : (subAll by_ ws0 (bl.take k)).length = wts.length := by rw [subAll_length, hwl]
      have s2 := hln.st.cell (j := 2) rfl
      have x0 := hln.wtB.cellI (getD_of (q := q) (by rw [hlen]; exact hqn))
      have f0 := hln.wtB.frozen q
      have r0 : wr.cell? ⟨s, k, none⟩ = some (.int .i64 q) := by
        have := z3 k q hq
        unfold World.cell? at this ⊢
        rw [hK.block s (by omega) (by omega) (by omega)]
        exact this
      have hsb : -(100001 + (k : Int)) ≤ (subAll by_ ws0 (bl.take k)).getD q 0 ∧ (subAll by_ ws0 (bl.take k)).getD q 0 ≤ 100001 + (k : Int) := HS.out _ (List.mem_of_getElem? (getD_of (q := q) (by rw [hlen]; exact hqn)))
      have HE : Hid (subAll by_ ws0 (bl.take (k + 1)) = (subAll by_ ws0 (bl.take k)).set q ((subAll by_ ws0 (bl.take k)).getD q 0 - by_)) := by
        show _ = _
        rw [List.take_add_one, hq]
        exact subAll_snoc _ _ _ _
      have HN : Hid (Sm (100001 + k + 1) ((subAll by_ ws0 (bl.take k)).set q ((subAll by_ ws0 (bl.take k)).getD q 0 - by_))) := by
        have := HS.out.set (d := -by_) (q := q) (by omega) (by omega)
        rwa [← Int.sub_eq_add_neg] at this
      have HLn := hid_of (hln.wset q ((subAll by_ ws0 (bl.take k)).getD q 0 - by_))
      rw [hlen] at s2
      have q0 : (0 : Int) ≤ (q : Int) := by omega
      have q1 : (q : Int) < (wts.length : Int) := by omega
      clear hq z3 hln hlen
      generalize subAll by_ ws0 (bl.take k) = cur at *
      generalize cur.getD q 0 = y at *
      go_wp2_with fail
      refine ⟨⟨k + 1, by omega, by go_num, ?_, ?_, hK.setW _⟩, by simp [intOf]; omega⟩
      · rw [HE.out]; exact HLn.out
      · rw [HE.out]
        have := HN.out
        show Sm _ _
        rwa [Int.natCast_add, ← Int.add_assoc]
    · obtain rfl : k = bl.length := by omega
      have e1 := HL
      rw [List.take_length] at e1
      go_wp2_with fail
      go_end0
      exact ⟨⟨_, rfl⟩, by rw [HF.out]; exact e1.out, hK⟩
theorem Ln.vp {w w' : World} {N1 N0 l bh wt : Nat} {vp vp' : Value} {vs : List Value} {beh : List (List Nat)} {wts : List Int} (h : Ln w N1 N0 l bh wt vp vs beh wts) (hk : Keep2 l wt N0 w w') (hl : Blk w' l 107 #[vp', .slice (some ⟨bh, 0, none⟩) wts.length wts.length, .slice (some ⟨wt, 0, none⟩) wts.length wts.length]) (hw : Blk w' wt 3 (intsA wts)) : Ln w' N1 N0 l bh wt vp' vs beh wts := by
  obtain ⟨a, b, c, d, e, f, g, hlo, hn, hN, hle⟩ := h
  exact ⟨hl, b.keep2 hk (by omega) (fun e => hn.1 e.symm) hn.2.2, hw, d, e, fun p v bl h1 h2 => (f p v bl h1 h2).keep2 hk (Nat.le_refl _) hlo.1 hlo.2.2, g, hlo, hn, ⟨hN.1, Nat.le_trans hN.2 hk.size⟩, hle⟩
theorem Ln.put5 {w w5 : World} {N1 N0 l bh wt : Nat} {vp : Value} {vs : List Value} {beh : List (List Nat)} {wts : List Int} {n : Nat} {xs : List Value} {o : Obj} (h : Ln w N1 N0 l bh wt vp vs beh wts) (ho : w.ownsRow N0 3 1 vp n xs) (hg : (w.alloc o).grownBy w5 vp.ownBlock) :
    Below N0 w w5 := by
  have h0 : Below N0 w (w.alloc o) := (Below.refl _ _).alloc h.hN.2 _
  refine ⟨hg.os, hg.tape, hg.output, Nat.le_trans h0.size hg.size, fun k hk => ?_⟩
  refine (hg.block k ?_ (owns_ne (ho.alloc o) hk)).trans (h0.block k hk)
  have := h.hN.2
  have := h0.size
  omega
theorem owns_keep2 {w w' : World} {l wt base : Nat} {e : TypeId} {size : Nat} {v : Value} {n : Nat} {xs : List Value} (h : w.ownsRow base e size v n xs) (hk : Keep2 l wt w.heap.size w w') (h1 : l < base) (h2 : wt < base) : w'.ownsRow base e size v n xs := by
  refine ⟨h.1, ?_⟩
  rcases h.2 with h2 | ⟨g, cap, cur, h3, h4, h5, h6⟩
  · exact .inl h2
  · exact .inr ⟨g, cap, cur, h3, h4, (hk.block g (Array.getElem?_eq_some_iff.1 h5).1 (by omega) (by omega)).trans h5, h6⟩
/-- The line with its points: owned from N0 on. -/
structure LnP (w : World) (N1 N0 l bh wt : Nat) (vp : Value) (pts : List Int) (vs : List Value) (beh : List (List Nat)) (wts : List Int) : Prop where
  ln : Ln w N1 N0 l bh wt vp vs beh wts
  own : w.ownsRow N0 3 1 vp pts.length (encJ pts)
set_option maxRecDepth 100000 in
set_option maxHeartbeats 4000000 in
theorem oPut_calls (N1 N0 l bh wt : Nat) (vp : Value) (pts : List Int) (vs : List Value) (beh : List (List Nat)) (wts : List Int) (p : Nat) (w : World) (h : LnP w N1 N0 l bh wt vp pts vs beh wts) (hp : p < wts.length) (hsm : Sm 100000 wts) (hpt : pts.length ≤ 256) :
    Calls Tryd.prog 67 #[pv l, .int .i64 p] w fun e w' => (∃ r, e = .returned r) ∧ (∃ vp', LnP w' N1 N0 l bh wt vp' (pts ++ [(p : Int)]) vs beh (countF 1 wts p (beh.getD p []))) ∧ Keep2 l wt N0 w w' := by
  obtain ⟨hln, hown⟩ := h
  obtain ⟨i0, hi, hz0, hz1, hz2⟩ := info_parts Tryd.infoint
  have s0 := hln.st.cell (j := 0) rfl
  have f0 := hln.st.frozen 0
  have hlow := hln.low
  have hne := hln.ne
  have hN := hln.hN
  have HO := hid_of hown
  have HL := hid_of hln
  clear hown hln
  go_enter Tryd.func67, Tryd.ntmps67
  go_wp2_with (at_builtin; refine wpList_append_own_at _ rfl _ _ 29 rfl N0 3 i0 (.int .i64 0) 1 8 Tryd.underlying29 hi hz0 hz1 hz2 rfl (by decide) vp pts.length (encJ pts) rfl (HO.out.alloc _) ⟨_, 0, none⟩ 1 1 [.int .i64 p] rfl rfl (by intro k u hk; match k, hk with | 0, hk => simp at hk; subst hk; exact (Blk.new _ _ _).cell rfl) (by simp [Value.oneCell']) (by unfold maxLen; omega) (by omega) (by simp; omega) ?_; intro v' w5 hown' hgrow _ hat; obtain ⟨g', cap', rfl, hg1, hg2⟩ := owns_form hown'; have hB5 := HL.out.put5 HO.out hgrow; have hL5 := HL.out.keep hB5; have c5 := hL5.st.cell (j := 0) rfl; have e5 := hL5.st.frozen 0)
  have hL6 := hL5.vp (vp' := .slice (some ⟨g', 0, none⟩) (pts.length + 1) cap') ((Keep2.refl l wt N0 w5).setL (j := 0) (.slice (some ⟨g', 0, none⟩) (pts.length + 1) cap')) (by have := hL5.st.set 0 (.slice (some ⟨g', 0, none⟩) (pts.length + 1) cap'); simpa using this) (hL5.wtB.setOther (by simpa using fun e => hne.2.1 e.symm) _)
  have hO6 := owns_set hown' (a := ⟨l, 0, none⟩) (by simp; omega) (.slice (some ⟨g', 0, none⟩) (pts.length + 1) cap')
  have hK6 : Keep2 l wt N0 w (w5.setCell ⟨l, 0, none⟩ (.slice (some ⟨g', 0, none⟩) (pts.length + 1) cap')) := (Keep2.of_below hB5).setL _
  refine (oCount_calls N1 N0 l bh wt _ vs beh wts p 1 _ hL6 hp (.inl rfl) hsm).mono ?_
  rintro e w7 ⟨⟨r, rfl⟩, hL7, hK7⟩
  clear c5 e5 s0 f0 hL5 hL6
  go_wp2_with fail
  go_end0
  refine ⟨⟨_, rfl⟩, ⟨_, hL7, ?_⟩, hK6.trans (hK7.mono ?_)⟩
  · rw [encJ_snoc, List.length_append]
    exact owns_keep2 hO6 hK7 (by omega) (by omega)
  · have := hB5.size
    have : (w5.setCell ⟨l, 0, none⟩ (.slice (some ⟨g', 0, none⟩) (pts.length + 1) cap')).heap.size = w5.heap.size := by simp [World.setCell]
    omega
/-- next: the first point from f on that waits for none. -/
def nxt (wts : List Int) (f : Nat) : Value := .tuple #[.int .i64 ((f : Int) + fz (wts.drop f)), .bool (decide (0 ≤ fz (wts.drop f)))]
set_option maxHeartbeats 2000000 in
theorem oNext_calls (N1 N0 l bh wt t3 : Nat) (vp : Value) (vs : List Value) (beh : List (List Nat)) (wts : List Int) (f : Nat) (w : World) (h : Ln w N1 N0 l bh wt vp vs beh wts) (ht : Blk w t3 103 #[pv l]) (hf : f ≤ wts.length) :
    Calls Tryd.prog 65 #[.int .i64 f, pv t3] w fun e w' => e = .returned (nxt wts f) ∧ Below w.heap.size w w' := by
  have c0 := ht.cell (j := 0) rfl
  have s2 := h.st.cell (j := 2) rfl
  have hl := h.len
  have hv : ∀ cap, IntsR w (.slice (some ⟨wt, f, none⟩) (wts.drop f).length cap) (wts.drop f) := fun cap => .inr ⟨wt, f, cap, rfl, h.wtB.lt, fun i x hx => h.wtB.cellI (by rw [List.getElem?_drop] at hx; exact hx)⟩
  have HV := hid_of hv
  clear hv
  have f0 : (0 : Int) ≤ (f : Int) := by omega
  have f1 : (f : Int) ≤ (wts.length : Int) := by omega
  have hd : (wts.drop f).length = wts.length - f := List.length_drop
  have hfz : -1 ≤ fz (wts.drop f) ∧ fz (wts.drop f) ≤ 256 := by
    unfold fz
    split
    · rename_i i hi
      have := (List.findIdx?_eq_some_iff_getElem.1 hi).1
      omega
    · omega
  have hw : wrap64 ((f : Int) + fz (wts.drop f)) = (f : Int) + fz (wts.drop f) := by unfold wrap64; omega
  have HW := hid_of hw
  have HH := hid_of h.hN
  have HIX : Hid (∀ v, IntsR w v (wts.drop f) → Calls Tryd.prog 66 #[v, .int .i64 0] w fun e w' => e = .returned (.int .i64 (fz (wts.drop f))) ∧ Below w.heap.size w w') := fun v hv => slIndex_calls v _ w hv (by omega)
  have HN : Hid (nxt wts f = .tuple #[.int .i64 ((f : Int) + fz (wts.drop f)), .bool (decide (0 ≤ fz (wts.drop f)))]) := rfl
  have HD := hid_of hd
  clear hw hd h ht
  generalize wts.drop f = ds at *
  generalize fz ds = z at *
  generalize nxt wts f = res at *
  go_enter Tryd.func65, Tryd.ntmps65
  go_wp2_with fail
  · refine (HIX.out _ (.inl ⟨_, _, rfl, List.eq_nil_of_length_eq_zero (by have := HD.out; omega)⟩)).mono ?_
    rintro e w1 ⟨rfl, hB⟩
    go_wp2_with fail
    go_ret2
    exact ⟨by rw [HN.out]; rfl, hB⟩
  · refine (HIX.out _ (by have := HV.out (wts.length - f); rw [HD.out] at this; exact this)).mono ?_
    rintro e w1 ⟨rfl, hB⟩
    go_wp2_with fail
    go_ret2
    exact ⟨by rw [HN.out]; rfl, hB⟩
end Go.Proofs.YtmmgdeoballhpaaDoor
