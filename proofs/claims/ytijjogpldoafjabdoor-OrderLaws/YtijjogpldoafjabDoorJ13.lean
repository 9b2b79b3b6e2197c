/- slices.DeleteFunc at lists of lists, with order's own test. -/
import Derived.Test.YtijjogpldoafjabDoorJ12
import Derived.Shelf.SlicesE.DeleteFunc
import Derived.Ground.SlgfProg
import Derived.Test.YtijjogpldoafjabDoorJ08
namespace Go.Proofs
open Go.Shelf
def Tryd.laysDel_ren : Go.Shelf.Ren := ⟨fun | 10 => 53 | 6 => 65 | n => n, fun | 22 => 34 | 23 => 26 | 25 => 75 | 3 => 3 | 4 => 4 | 0 => 0 | n => n, fun | n => n⟩
theorem Tryd.laysDel : Go.Proofs.SlLaysH.n10 Tryd.prog Tryd.laysDel_ren := {
  mixed := by kernel_rfl
  f6 := ⟨Tryd.f65.name, by decide, Tryd.func65.trans (congrArg some (by kernel_rfl))⟩
  f10 := ⟨Tryd.f53.name, by decide, Tryd.func53.trans (congrArg some (by kernel_rfl))⟩
  t0 := Tryd.underlying0
  a0 := Tryd.isAgg0
  z0 := Tryd.sizeOf0
  v0 := Tryd.zeroValue0
  t3 := Tryd.underlying3
  a3 := Tryd.isAgg3
  z3 := Tryd.sizeOf3
  v3 := Tryd.zeroValue3
  t4 := Tryd.underlying4
  a4 := Tryd.isAgg4
  z4 := Tryd.sizeOf4
  v4 := Tryd.zeroValue4
  t22 := Tryd.underlying34
  a22 := Tryd.isAgg34
  z22 := Tryd.sizeOf34
  v22 := Tryd.zeroValue34
  a23 := Tryd.isAgg26
  z23 := Tryd.sizeOf26
  t25 := Tryd.underlying75
  a25 := Tryd.isAgg75
  z25 := Tryd.sizeOf75
  v25 := Tryd.zeroValue75 }
end Go.Proofs
namespace Go.Proofs.YtijjogpldoafjabDoor
open Go.RowKit Go.Shelf Go.Lib Go.Sort Sx

/-- A slice's three parts. -/
abbrev SV := Option Addr × Nat × Nat
def encS (x : SV) : Value := .slice x.1 x.2.1 x.2.2
def emptyS (x : SV) : Bool := x.2.1 == 0
theorem glued2_gives (x : SV) (W : World) : FnGives Tryd.prog 54 #[] #[encS x] (.bool (emptyS x)) W := by
  obtain ⟨a, n, c⟩ := x
  show Calls Tryd.prog 54 #[.slice a n c] W _
  have e : emptyS (a, n, c) = ((n : Int) == 0) := by
    show (n == 0) = _
    rw [Bool.eq_iff_iff]; simp
  rw [e]
  go_enter Tryd.func54, Tryd.ntmps54
  go_wp2
  go_ret
  exact ⟨rfl, 0, rfl⟩
theorem zero_ints (w : World) : (zeroValue 26).run Tryd.prog w = .ok (encS (none, 0, 0)) w := by kernel_rfl
theorem slDel_calls (blk off cap : Nat) (d : Array SV) (w : World) (hH : Holds encS w blk off d) (hsz : d.size ≤ 9223372036854775807) (hcap : d.size ≤ cap) :
    Calls Tryd.prog 53 #[.slice (some ⟨blk, off, none⟩) d.size cap, .func (.func 54) #[] #[]] w fun e w' => e = .returned (.slice (some ⟨blk, off, none⟩) (d.toList.filter fun x => !emptyS x).length cap) ∧ ∃ q, w' = putRow encS (Sort.ahead w q) blk off ((d.toList.filter fun x => !emptyS x) ++ List.replicate (d.size - (d.toList.filter fun x => !emptyS x).length) (none, 0, 0)).toArray :=
  AnyE.slices_DeleteFunc Tryd.laysDel encS (fun _ => rfl) emptyS 54 #[] (enters_of Tryd.func54 (by kernel_rfl) rfl) (none, 0, 0) zero_ints blk off cap d w
    (fun W x _ => glued2_gives x W) (fun n os dk x _ => glued2_gives x _) hH hsz hcap
end Go.Proofs.YtijjogpldoafjabDoor
/- Package order's glued: its memory, free. -/
namespace Go.Proofs.YtijjogpldoafjabDoor
open Go.RowKit Go.Shelf Sx

/-- A slice of numbers that fills its block, or nil. -/
def BlkS (w : World) (x : SV) (bl : List Nat) : Prop := (bl = [] ∧ x = (none, 0, 0)) ∨ ∃ s, x = (some ⟨s, 0, none⟩, bl.length, bl.length) ∧ Blk w s 3 (intsA (toI bl))
theorem BlkS.len {w : World} {x : SV} {bl : List Nat} (h : BlkS w x bl) : x.2.1 = bl.length := by
  rcases h with ⟨rfl, rfl⟩ | ⟨s, rfl, _⟩ <;> rfl
theorem BlkS.mono {w w' : World} {x : SV} {bl : List Nat} (h : BlkS w x bl) (hb : ∀ s cs, Blk w s 3 cs → Blk w' s 3 cs) : BlkS w' x bl := by
  rcases h with h | ⟨s, e, h⟩
  · exact .inl h
  · exact .inr ⟨s, e, hb s _ h⟩
theorem BlkS.ints {w : World} {x : SV} {bl : List Nat} (h : BlkS w x bl) : IntsR w (encS x) (toI bl) := by
  rcases h with ⟨rfl, rfl⟩ | ⟨s, rfl, h⟩
  · exact .inl ⟨_, _, rfl, rfl⟩
  · exact .inr ⟨s, 0, bl.length, by rw [toI_length]; rfl, h.lt, fun i x hx => by rw [Nat.zero_add]; exact h.cellI hx⟩
/-- Blocks while they are glued: the row that the box holds, and its lists. -/
structure GlR (w : World) (base : Nat) (v : Value) (vs : List SV) (bs : List (List Nat)) : Prop where
  own : w.ownsRow base 26 1 v vs.length (vs.map encS)
  len : vs.length = bs.length
  row : ∀ (i : Nat) (x : SV) (bl : List Nat), vs[i]? = some x → bs[i]? = some bl → BlkS w x bl
/-- Blocks of ints are as they were. -/
def KeepI (w w' : World) : Prop := ∀ s cs, Blk w s 3 cs → Blk w' s 3 cs
theorem KeepI.trans {a b c : World} (h : KeepI a b) (k : KeepI b c) : KeepI a c := fun s cs hs => k s cs (h s cs hs)
theorem KeepI.of_below {w w' : World} (h : Below w.heap.size w w') : KeepI w w' := fun _ _ hs => hs.of_below h
theorem KeepI.set {w : World} {g : Nat} {t : TypeId} {cs : Array Value} (hg : Blk w g t cs) (ht : t ≠ 3) (j : Nat) (v : Value) : KeepI w (w.setCell ⟨g, j, none⟩ v) := fun s c hs => hs.setOther (fun e => by
  have e : s = g := e
  subst e
  have h1 : w.heap[s]? = some (.cells cs t (0, 0)) := hg
  rw [show w.heap[s]? = _ from hs] at h1
  simp at h1
  exact ht h1.2.symm) v
theorem KeepI.grown {w w' : World} {base n : Nat} {v : Value} {xs : List Value} (ho : w.ownsRow base 26 1 v n xs) (hg : w.grownBy w' v.ownBlock) : KeepI w w' := fun s cs hs => (hg.block s hs.lt (fun e => by
  rcases ho.2 with ⟨rfl, _⟩ | ⟨g, cap, cur, rfl, _, hb, _⟩
  · cases e
  · simp [Value.ownBlock] at e
    subst e
    rw [show w.heap[s]? = _ from hs] at hb
    simp at hb)).trans hs
theorem GlR.step {w w' : World} {base : Nat} {v : Value} {vs : List SV} {bs : List (List Nat)} (h : GlR w base v vs bs) (hb : Below w.heap.size w w') : GlR w' base v vs bs :=
  ⟨owns_below' h.own hb, h.len, fun i x bl h1 h2 => (h.row i x bl h1 h2).mono (KeepI.of_below hb)⟩
/-- A cell of the row. -/
theorem GlR.cell {w : World} {base : Nat} {v : Value} {vs : List SV} {bs : List (List Nat)} (h : GlR w base v vs bs) {i : Nat} (hi : i < bs.length) : ∃ g cap x bl, v = .slice (some ⟨g, 0, none⟩) bs.length cap ∧ base ≤ g ∧ g < w.heap.size ∧ vs[i]? = some x ∧ bs[i]? = some bl ∧ w.cell? ⟨g, i, none⟩ = some (encS x) ∧ w.frozen? ⟨g, i, none⟩ = false ∧ x.2.1 = bl.length := by
  have hl := h.len
  obtain ⟨x, hx⟩ : ∃ x, vs[i]? = some x := ⟨_, List.getElem?_eq_getElem (by omega)⟩
  obtain ⟨bl, hbl⟩ : ∃ bl, bs[i]? = some bl := ⟨_, List.getElem?_eq_getElem hi⟩
  rcases h.own.2 with ⟨_, e⟩ | ⟨g, cap, cur, e, hg, hb, _, _, _, ht⟩
  · omega
  · have hk : Blk w g 26 cur := hb
    refine ⟨g, cap, x, bl, by rw [← hl]; exact e, hg, hk.lt, hx, hbl, hk.cell ?_, hk.frozen i, (h.row i x bl hx hbl).len⟩
    have h1 : (vs.map encS)[i]? = some (encS x) := by rw [List.getElem?_map, hx]; rfl
    rw [← ht, List.getElem?_take_of_lt (by omega)] at h1
    simpa using h1
/-- free: is p a point whose block is one point? -/
def freeB (n : Nat) (bs : List (List Nat)) (p : Int) : Bool := inR n p && (bs.getD p.toNat []).length == 1
set_option maxRecDepth 100000 in
set_option maxHeartbeats 1000000 in
theorem glued1_calls (n Bn Bb base : Nat) (v : Value) (vs : List SV) (bs : List (List Nat)) (p : Int) (w : World) (hN : Blk w Bn 3 #[.int .i64 n]) (hB : Blk w Bb 34 #[v]) (h : GlR w base v vs bs) (hn : bs.length = n) :
    Calls Tryd.prog 52 #[.int .i64 p, pv Bn, pv Bb] w fun e w' => e = .returned (.bool (freeB n bs p)) ∧ Below w.heap.size w w' := by
  have n0 := hN.cell (j := 0) rfl
  have b0 := hB.cell (j := 0) rfl
  cases hi : inR n p
  · have HI := hid_of hi
    have e : freeB n bs p = false := by simp [freeB, hi]
    rw [e]
    clear e hi
    go_enter Tryd.func52, Tryd.ntmps52
    go_wp2_with (go_at_call 26; refine (oIsPoint_calls n p _).mono ?_; rw [HI.out]; rintro e w' ⟨rfl, hw'⟩; obtain rfl : w = w' := hw'.symm)
    go_ret
    exact ⟨rfl, Below.refl _ _⟩
  · obtain ⟨j, rfl, hj⟩ := inR_true hi
    have HI := hid_of hi
    obtain ⟨g, cap, x, bl, rfl, hg, hgl, hx, hbl, hc, _, hxl⟩ := h.cell (i := j) (by omega)
    have e : freeB n bs ((j : Nat) : Int) = ((bl.length : Int) == 1) := by
      have h1 : bs.getD j [] = bl := by simp [List.getD, hbl]
      simp only [freeB, hi, Bool.true_and, Int.toNat_natCast, h1]
      rw [Bool.eq_iff_iff]; simp; omega
    rw [e]
    obtain ⟨xa, xl, xc⟩ := x
    have hxl : xl = bl.length := hxl
    subst hxl
    have j0 : (0 : Int) ≤ (j : Int) := by omega
    have j1 : (j : Int) < (bs.length : Int) := by omega
    have hc2 : w.cell? ⟨g, j, none⟩ = some (.slice xa bl.length xc) := hc
    clear e hi hx hbl hc
    go_enter Tryd.func52, Tryd.ntmps52
    go_wp2_with (go_at_call 26; refine (oIsPoint_calls n _ _).mono ?_; rw [HI.out]; rintro e w' ⟨rfl, hw'⟩; obtain rfl : w = w' := hw'.symm)
    go_ret
    exact ⟨rfl, Below.refl _ _⟩
end Go.Proofs.YtijjogpldoafjabDoor
/- What slices.DeleteFunc leaves of glued's blocks. -/
namespace Go.Proofs.YtijjogpldoafjabDoor
open Go.RowKit Go.Shelf Go.Lib Go.Sort Sx

theorem par_filter : ∀ (vs : List SV) (bs : List (List Nat)), vs.length = bs.length → (∀ (i : Nat) (x : SV) (bl : List Nat), vs[i]? = some x → bs[i]? = some bl → emptyS x = bl.isEmpty) →
    (vs.filter (fun x => !emptyS x)).length = (bs.filter (fun b => !b.isEmpty)).length ∧ ∀ (i : Nat) (x : SV) (bl : List Nat), (vs.filter (fun x => !emptyS x))[i]? = some x → (bs.filter (fun b => !b.isEmpty))[i]? = some bl → ∃ j : Nat, vs[j]? = some x ∧ bs[j]? = some bl
  | [], [], _, _ => ⟨rfl, fun i x bl h _ => by simp at h⟩
  | [], _ :: _, h, _ => by simp at h
  | _ :: _, [], h, _ => by simp at h
  | v :: vs, b :: bs, h, hp => by
    have ih := par_filter vs bs (by simpa using h) (fun i x bl h1 h2 => hp (i + 1) x bl (by simpa using h1) (by simpa using h2))
    have h0 := hp 0 v b rfl rfl
    rw [List.filter_cons, List.filter_cons, ← h0]
    cases he : emptyS v
    · refine ⟨by simpa using ih.1, fun i x bl h1 h2 => ?_⟩
      cases i with
      | zero =>
        simp at h1 h2
        exact ⟨0, by simp [h1], by simp [h2]⟩
      | succ i =>
        obtain ⟨j, h3, h4⟩ := ih.2 i x bl (by simpa using h1) (by simpa using h2)
        exact ⟨j + 1, by simpa using h3, by simpa using h4⟩
    · refine ⟨by simpa using ih.1, fun i x bl h1 h2 => ?_⟩
      obtain ⟨j, h3, h4⟩ := ih.2 i x bl (by simpa using h1) (by simpa using h2)
      exact ⟨j + 1, by simpa using h3, by simpa using h4⟩
/-- Blocks that are told: a row of slices, each with its list. -/
def BlV (w : World) (base : Nat) (v : Value) (bs : List (List Nat)) : Prop := ∃ p cap, ∃ us : List SV, v = .slice p us.length cap ∧ us.length = bs.length ∧
  (0 < us.length → ∃ g, p = some ⟨g, 0, none⟩ ∧ base ≤ g ∧ g < w.heap.size ∧ ∀ (i : Nat) (x : SV), us[i]? = some x → w.cell? ⟨g, i, none⟩ = some (encS x)) ∧ ∀ (i : Nat) (x : SV) (bl : List Nat), us[i]? = some x → bs[i]? = some bl → BlkS w x bl
theorem BlV.blocks {w : World} {base : Nat} {v : Value} {bs : List (List Nat)} (h : BlV w base v bs) : BlocksR w v bs := by
  obtain ⟨p, cap, us, e, hl, h1, h2⟩ := h
  refine ⟨p, cap, by rw [← hl]; exact e, us.map encS, by simpa using hl, fun h0 => ?_, fun i u bl hu hbl => ?_⟩
  · obtain ⟨g, e2, _, h3, h4⟩ := h1 (by omega)
    refine ⟨g, e2, h3, fun i u hu => ?_⟩
    rw [List.getElem?_map] at hu
    cases hx : us[i]? with
    | none => rw [hx] at hu; cases hu
    | some x =>
      rw [hx] at hu
      injection hu with hu
      subst hu
      exact h4 i x hx
  · rw [List.getElem?_map] at hu
    cases hx : us[i]? with
    | none => rw [hx] at hu; cases hu
    | some x =>
      rw [hx] at hu
      injection hu with hu
      subst hu
      exact (h2 i x bl hx hbl).ints
theorem BlV.set {w : World} {base : Nat} {v u : Value} {bs : List (List Nat)} {B j : Nat} {cs : Array Value} (h : BlV w base v bs) (hb : Blk w B 34 cs) (hB : B < base) : BlV (w.setCell ⟨B, j, none⟩ u) base v bs := by
  obtain ⟨p, cap, us, e, hl, h1, h2⟩ := h
  refine ⟨p, cap, us, e, hl, fun h0 => ?_, fun i x bl h3 h4 => (h2 i x bl h3 h4).mono (KeepI.set hb (by decide) _ _)⟩
  obtain ⟨g, e2, h3, h4, h5⟩ := h1 h0
  refine ⟨g, e2, h3, by simpa [World.setCell] using h4, fun i x hx => ?_⟩
  have := h5 i x hx
  unfold World.cell? at this ⊢
  rw [Below.heap_setCell w ⟨B, j, none⟩ u g (by simp; omega)]
  exact this
theorem heap_putRow {w : World} {blk off k : Nat} {d : Array SV} (h : k ≠ blk) : (putRow encS w blk off d).heap[k]? = w.heap[k]? := by
  simp [putRow, mapBlock, Array.getElem?_modify, Ne.symm h]
set_option maxHeartbeats 1000000 in
theorem idxB_nil (w : World) : Calls Tryd.prog 65 #[.slice none 0 0, .func (.func 54) #[] #[]] w fun e w' => e = .returned (.int .i64 (-1)) ∧ Below w.heap.size w w' := by
  go_enter Tryd.func65, Tryd.ntmps65
  go_wp2_with fail
  go_loopw [8] (fun i wr => i = .int .i64 0 ∧ Below w.heap.size w wr) (fun _ _ => 0)
  case atStart => exact ⟨rfl, Below.refl _ _⟩
  case round =>
    obtain ⟨rfl, hB⟩ := hrel
    go_wp2_with fail
    go_ret
    exact ⟨rfl, hB⟩
set_option maxRecDepth 100000 in
set_option maxHeartbeats 1000000 in
theorem slDel_nil (w : World) : Calls Tryd.prog 53 #[.slice none 0 0, .func (.func 54) #[] #[]] w fun e w' => e = .returned (.slice none 0 0) ∧ Below w.heap.size w w' := by
  go_enter Tryd.func53, Tryd.ntmps53
  go_wp2_with fail
  refine (idxB_nil _).mono ?_
  rintro e w1 ⟨rfl, hB⟩
  go_wp2_with fail
  go_ret
  exact ⟨rfl, hB⟩
theorem del_ans {w : World} {base : Nat} {v : Value} {vs : List SV} {bs : List (List Nat)} (h : GlR w base v vs bs) (hb : base ≤ w.heap.size) (hm : bs.length ≤ 256) :
    Calls Tryd.prog 53 #[v, .func (.func 54) #[] #[]] w fun e w' => ∃ v', e = .returned v' ∧ BlV w' base v' (bs.filter (fun b => !b.isEmpty)) ∧ Below base w w' := by
  have hl := h.len
  obtain ⟨hp1, hp2⟩ := par_filter vs bs hl (fun i x bl h1 h2 => by
    have := (h.row i x bl h1 h2).len
    show (x.2.1 == 0) = _
    rw [this]
    cases bl <;> simp)
  rcases h.own.2 with ⟨rfl, e0⟩ | ⟨g, cap, cur, rfl, hg, hcur, hcap, hcm, hcs, ht⟩
  · refine (slDel_nil w).mono ?_
    rintro e w' ⟨rfl, hB⟩
    have hb0 : bs = [] := List.eq_nil_of_length_eq_zero (by omega)
    subst hb0
    exact ⟨_, rfl, ⟨none, 0, [], rfl, rfl, fun h0 => by simp at h0, fun i x bl h1 _ => by simp at h1⟩, hB.mono hb⟩
  · have hk : Blk w g 26 cur := hcur
    have hH : Holds encS w g 0 vs.toArray := fun j hj => by
      have hj : j < vs.length := by simpa using hj
      rw [Nat.zero_add]
      refine ⟨hk.cell ?_, hk.frozen j⟩
      have h1 : (vs.map encS)[j]? = some (encS vs[j]) := by rw [List.getElem?_map, List.getElem?_eq_getElem hj]; rfl
      rw [← ht, List.getElem?_take_of_lt (by omega)] at h1
      rw [show vs.toArray[j]! = vs[j] from by rw [getElem!_pos vs.toArray j (by simpa using hj)]; simp]
      simpa using h1
    have hcall := slDel_calls g 0 cap vs.toArray w hH (by simp; omega) (by simpa using hcap)
    rw [show vs.toArray.size = vs.length from by simp] at hcall
    refine hcall.mono ?_
    rintro e w' ⟨rfl, q, rfl⟩
    generalize hus : vs.filter (fun x => !emptyS x) = us at *
    have hul : us.length ≤ vs.length := by rw [← hus]; exact List.length_filter_le _ _
    have hA : Holds encS (Sort.ahead w q) g 0 vs.toArray := hH
    have hP := holds_putRow encS (Sort.ahead w q) g 0 vs.toArray (us ++ List.replicate (vs.length - us.length) (none, 0, 0)).toArray hA (by simp; omega)
    have hgl := hk.lt
    have hkI : KeepI w (putRow encS (Sort.ahead w q) g 0 (us ++ List.replicate (vs.length - us.length) (none, 0, 0)).toArray) := fun s cs hs => by
      have hne : s ≠ g := fun e => by
        subst e
        have h1 : w.heap[s]? = some (.cells cur 26 (0, 0)) := hk
        rw [show w.heap[s]? = _ from hs] at h1
        simp at h1
      exact (heap_putRow hne).trans hs
    refine ⟨_, rfl, ⟨some ⟨g, 0, none⟩, cap, us, by simp, hp1, fun _ => ⟨g, rfl, hg, by simpa using hgl, fun i x hx => ?_⟩, fun i x bl h1 h2 => ?_⟩, ⟨rfl, rfl, rfl, by simp [Sort.ahead], fun k hk2 => heap_putRow (by omega)⟩⟩
    · have hi : i < us.length := (List.getElem?_eq_some_iff.1 hx).1
      have := (hP i (by simp; omega)).1
      rw [Nat.zero_add] at this
      rw [this]
      congr 1
      congr 1
      rw [getElem!_pos _ i (by simp; omega)]
      simp [List.getElem_append_left, hi]
      exact (List.getElem?_eq_some_iff.1 hx).2
    · obtain ⟨j, h3, h4⟩ := hp2 i x bl h1 h2
      exact (h.row j x bl h3 h4).mono hkI
end Go.Proofs.YtijjogpldoafjabDoor
/- Package order's glued. -/
namespace Go.Proofs.YtijjogpldoafjabDoor
open Go.RowKit Go.Shelf Sx

def glInit (k : Nat) : List (List Nat) := (List.range k).map (fun p => [p])
theorem glInit_succ (k : Nat) : glInit (k + 1) = glInit k ++ [[k]] := by simp [glInit, List.range_succ]
theorem glInit_length (k : Nat) : (glInit k).length = k := by simp [glInit]
def gluF (n : Nat) : List (Int × Int) → List (List Nat) → Option (List (List Nat))
  | [], bs => some bs
  | (a, b) :: ps, bs => if a ≠ b ∧ freeB n bs a = true ∧ freeB n bs b = true then gluF n ps ((bs.set a.toNat [a.toNat, b.toNat]).set b.toNat []) else none
theorem gluF_step {n : Nat} {l : List (Int × Int)} {k : Nat} {bs : List (List Nat)} {a b : Int} (hx : l[k]? = some (a, b)) : gluF n (l.drop k) bs = if a ≠ b ∧ freeB n bs a = true ∧ freeB n bs b = true then gluF n (l.drop (k + 1)) ((bs.set a.toNat [a.toNat, b.toNat]).set b.toNat []) else none := by
  obtain ⟨hk, e⟩ := List.getElem?_eq_some_iff.1 hx
  rw [List.drop_eq_getElem_cons hk, e]
  rfl
theorem Tryd.infointss : (Tryd.prog.info? 26).map (fun i => (i.zero, i.size, i.bytes)) = some (some (.slice none 0 0), 1, 24) := by kernel_rfl
theorem GlR.push {w w5 : World} {base : Nat} {v v' : Value} {vs : List SV} {bs : List (List Nat)} {k s : Nat} {o : Obj} (h : GlR w base v vs bs) (hs : Blk w s 3 (intsA (toI [k])))
    (hown : w5.ownsRow base 26 1 v' (vs.length + 1) (vs.map encS ++ [.slice (some ⟨s, 0, none⟩) 1 1])) (hg : (w.alloc o).grownBy w5 v.ownBlock) : GlR w5 base v' (vs ++ [(some ⟨s, 0, none⟩, 1, 1)]) (bs ++ [[k]]) := by
  have hk : KeepI w w5 := KeepI.trans (KeepI.of_below ((Below.refl _ _).alloc (Nat.le_refl _) _)) (KeepI.grown (h.own.alloc o) hg)
  have hl := h.len
  refine ⟨?_, by simp [hl], fun i x bl h1 h2 => ?_⟩
  · rw [List.map_append, List.length_append]; exact hown
  · by_cases hi : i < vs.length
    · rw [List.getElem?_append_left hi] at h1
      rw [List.getElem?_append_left (by omega)] at h2
      exact (h.row i x bl h1 h2).mono hk
    · rw [List.getElem?_append_right (by omega)] at h1
      rw [List.getElem?_append_right (by omega)] at h2
      have : i - vs.length = 0 := by
        have := (List.getElem?_eq_some_iff.1 h1).1
        simp at this
        omega
      rw [this] at h1
      rw [show i - bs.length = 0 by omega] at h2
      simp at h1 h2
      subst h1; subst h2
      exact .inr ⟨s, rfl, hk s _ hs⟩
/-- What glued answers. -/
def GlAns (w' : World) (n : Nat) (l : List (Int × Int)) (e : Ending) : Prop :=
  (gluF n l (glInit n) = none → e = .returned (.tuple #[.slice none 0 0, .bool false])) ∧ ∀ bs, gluF n l (glInit n) = some bs → ∃ v', e = .returned (.tuple #[v', .bool true]) ∧ BlocksR w' v' (bs.filter (fun b => !b.isEmpty))
theorem glAns_none {w' : World} {n : Nat} {l : List (Int × Int)} (h : gluF n l (glInit n) = none) : GlAns w' n l (.returned (.tuple #[.slice none 0 0, .bool false])) :=
  ⟨fun _ => rfl, fun bs e => by rw [h] at e; cases e⟩
theorem glAns_some {w' : World} {n : Nat} {l : List (Int × Int)} {bs : List (List Nat)} {v : Value} (h : gluF n l (glInit n) = some bs) (hb : BlocksR w' v (bs.filter (fun b => !b.isEmpty))) : GlAns w' n l (.returned (.tuple #[v, .bool true])) :=
  ⟨(fun e => by rw [h] at e; exact absurd e (by simp)), (fun bs' e => by rw [h] at e; injection e with e; subst e; exact ⟨v, rfl, hb⟩)⟩
theorem blv_slice {w : World} {base : Nat} {v : Value} {bs : List (List Nat)} (h : BlV w base v bs) : ∃ x y z, v = .slice x y z := by
  obtain ⟨p, cap, us, e, _⟩ := h
  exact ⟨_, _, _, e⟩
theorem ret_glued {tmps : Array Value} {w : World} {g : Nat} {x : Option Addr} {y z : Nat} {ok : Bool} (hp : tmps.getD 4 undef = pv g) (hq : tmps.getD 5 undef = .bool ok) (hg : Blk w g 34 #[.slice x y z]) :
    (results Tryd.f29 tmps).run Tryd.prog w = .ok (.tuple #[.slice x y z, .bool ok]) w := by
  have c1 := hg.cell (j := 0) rfl
  rw [results_cell_tmp (p := 4) (u := 5) (ty := 34) rfl, hp, hq]
  simp [asAddr]
  go_simp
theorem freeB_in {n : Nat} {bs : List (List Nat)} {p : Int} (h : freeB n bs p = true) : inR n p = true := by
  unfold freeB at h
  cases hi : inR n p
  · rw [hi] at h; cases h
  · rfl
theorem gl_ne {w : World} {base : Nat} {g n cap B : Nat} {vs : List SV} {bs : List (List Nat)} {cs : Array Value} (h : GlR w base (.slice (some ⟨g, 0, none⟩) n cap) vs bs) (hB : Blk w B 48 cs) : g ≠ B := by
  rcases h.own.2 with ⟨e, _⟩ | ⟨g2, cap2, cur, e, _, hb, _⟩
  · cases e
  · injection e with e _ _
    injection e with e
    injection e with e _ _
    subst e
    intro e
    subst e
    rw [show w.heap[g]? = _ from hB] at hb
    simp at hb
theorem gl_two {w : World} {base : Nat} {g n cap a b : Nat} {vs : List SV} {bs : List (List Nat)} (h : GlR w base (.slice (some ⟨g, 0, none⟩) n cap) vs bs) (ha : a < n) (hb : b < n) (hn : bs.length = n) :
    ∃ xa xb, w.cell? ⟨g, a, none⟩ = some xa ∧ w.cell? ⟨g, b, none⟩ = some xb ∧ w.frozen? ⟨g, a, none⟩ = false ∧ w.frozen? ⟨g, b, none⟩ = false := by
  obtain ⟨g1, c1, x1, _, e1, _, _, _, _, h1, f1, _⟩ := h.cell (i := a) (by omega)
  obtain ⟨g2, c2, x2, _, e2, _, _, _, _, h2, f2, _⟩ := h.cell (i := b) (by omega)
  injection e1 with e1 _ _
  injection e1 with e1
  injection e1 with e1 _ _
  injection e2 with e2 _ _
  injection e2 with e2
  injection e2 with e2 _ _
  subst e1; subst e2
  exact ⟨_, _, h1, h2, f1, f2⟩
theorem gl_blk {w : World} {g B j i : Nat} {t : TypeId} {cs : Array Value} {u x : Value} {o : Obj} (h : Blk w B t cs) (h1 : B ≠ g) (_ : B ≠ g) : Blk (((w.setCell ⟨g, i, none⟩ u).setCell ⟨g, j, none⟩ x).alloc o).drew B t cs := (((h.setOther (a := ⟨g, i, none⟩) h1 u).setOther (a := ⟨g, j, none⟩) h1 x).alloc o).drew
theorem gl_bel {w0 w : World} {g j i N : Nat} {u x : Value} {o : Obj} (h : Below N w0 w) (h1 : N ≤ g) (h2 : N ≤ w.heap.size := by omega) : Below N w0 (((w.setCell ⟨g, i, none⟩ u).setCell ⟨g, j, none⟩ x).alloc o).drew :=
  have a : Below N w0 (w.setCell ⟨g, i, none⟩ u) := h.setCell h1 _
  have b : Below N w0 ((w.setCell ⟨g, i, none⟩ u).setCell ⟨g, j, none⟩ x) := a.setCell h1 _
  (b.alloc (by simpa [World.setCell] using h2) o).drew
theorem gl_after {w : World} {base : Nat} {g n cap a b : Nat} {vs : List SV} {bs : List (List Nat)} (h : GlR w base (.slice (some ⟨g, 0, none⟩) n cap) vs bs) (hn : bs.length = n) (ha : a < n) (hb : b < n) (_ : a ≠ b) :
    GlR (((w.setCell ⟨g, a, none⟩ (.slice (some ⟨w.heap.size, 0, none⟩) 2 2)).setCell ⟨g, b, none⟩ (.slice none 0 0)).alloc (.cells #[.int .i64 a, .int .i64 b] 3)).drew base (.slice (some ⟨g, 0, none⟩) n cap) ((vs.set a (some ⟨w.heap.size, 0, none⟩, 2, 2)).set b (none, 0, 0)) ((bs.set a [a, b]).set b []) := by
  have hl := h.len
  obtain ⟨cur, hcur⟩ : ∃ cur, Blk w g 26 cur := by
    rcases h.own.2 with ⟨e, _⟩ | ⟨g2, cap2, cur, e, _, hb, _⟩
    · cases e
    · injection e with e _ _
      injection e with e
      injection e with e _ _
      subst e
      exact ⟨cur, hb⟩
  have k1 : KeepI w (w.setCell ⟨g, a, none⟩ (.slice (some ⟨w.heap.size, 0, none⟩) 2 2)) := KeepI.set hcur (by decide) _ _
  have k2 := k1.trans (KeepI.set (hcur.set a (.slice (some ⟨w.heap.size, 0, none⟩) 2 2)) (by decide) b (.slice none 0 0))
  have k3 : KeepI w (((w.setCell ⟨g, a, none⟩ (.slice (some ⟨w.heap.size, 0, none⟩) 2 2)).setCell ⟨g, b, none⟩ (.slice none 0 0)).alloc (.cells #[.int .i64 a, .int .i64 b] 3)).drew := fun s cs hs => ((k2 s cs hs).alloc _).drew
  refine ⟨?_, by simp [hl], fun i x bl h1 h2 => ?_⟩
  · have ho := h.own
    rw [hl, hn] at ho
    have o1 := (ho.stored a (.slice (some ⟨w.heap.size, 0, none⟩) 2 2)).1
    have o2 := (o1.stored b (.slice none 0 0)).1
    have o3 := o2.alloc (.cells #[.int .i64 a, .int .i64 b] 3)
    rw [List.map_set, List.map_set, List.length_set, List.length_set, hl, hn]
    exact o3
  · rw [List.getElem?_set] at h1 h2
    by_cases e : b = i
    · subst e
      rw [if_pos rfl, if_pos (by simp; omega)] at h1 h2
      injection h1 with h1
      injection h2 with h2
      subst h1; subst h2
      exact .inl ⟨rfl, rfl⟩
    · rw [if_neg e] at h1 h2
      rw [List.getElem?_set] at h1 h2
      by_cases e2 : a = i
      · subst e2
        rw [if_pos rfl, if_pos (by omega)] at h1 h2
        injection h1 with h1
        injection h2 with h2
        subst h1; subst h2
        refine .inr ⟨w.heap.size, rfl, ?_⟩
        have hz : ((w.setCell ⟨g, a, none⟩ (.slice (some ⟨w.heap.size, 0, none⟩) 2 2)).setCell ⟨g, b, none⟩ (.slice none 0 0)).heap.size = w.heap.size := by simp [World.setCell]
        have := Blk.new ((w.setCell ⟨g, a, none⟩ (.slice (some ⟨w.heap.size, 0, none⟩) 2 2)).setCell ⟨g, b, none⟩ (.slice none 0 0)) 3 #[.int .i64 (a : Int), .int .i64 (b : Int)]
        rw [hz] at this
        exact this.drew
      · rw [if_neg e2] at h1 h2
        exact (h.row i x bl h1 h2).mono k3
theorem glk {W w5 : World} {o o1 : Obj} {base : Nat} {v : Value} {vs : List SV} {bs : List (List Nat)} (h : GlR (W.alloc o) base v vs bs) (hg : ((W.alloc o).alloc o1).grownBy w5 v.ownBlock) (hb : base ≤ W.heap.size) : ∀ k, k < base → w5.heap[k]? = W.heap[k]? := fun k hk =>
  (hg.block k (by simp; omega) (owns_ne h.own hk)).trans ((Below.heap_alloc (W.alloc o) o1 k (by simp; omega)).trans (Below.heap_alloc W o k (by omega)))
theorem gl_set {w : World} {base : Nat} {v u : Value} {vs : List SV} {bs : List (List Nat)} {B : Nat} {cs : Array Value} (h : GlR w base v vs bs) (hB : B < base) (hb : Blk w B 34 cs) {j : Nat} : GlR (w.setCell ⟨B, j, none⟩ u) base v vs bs :=
  ⟨owns_set h.own (by simpa using hB) _, h.len, fun i x bl h1 h2 => (h.row i x bl h1 h2).mono (KeepI.set hb (by decide) _ _)⟩
set_option maxRecDepth 100000 in
set_option maxHeartbeats 2000000 in
theorem oGlued_calls (n : Nat) (hn : n ≤ 256) (v : Value) (l : List (Int × Int)) (w : World) (hv : ∃ p cap, v = .slice p l.length cap ∧ (0 < l.length → ∃ s o, p = some ⟨s, o, none⟩ ∧ PairsAt w s o l)) (hm : l.length ≤ 9223372036854775807) :
    Calls Tryd.prog 29 #[.int .i64 n, v] w fun e w' => GlAns w' n l e ∧ Below w.heap.size w w' := by
  obtain ⟨p, cap, rfl, hp⟩ := hv
  obtain ⟨i0, hi, hz0, hz1, hz2⟩ := info_parts Tryd.infoints
  have HP := hid_of hp
  clear hp
  go_enter Tryd.func29, Tryd.ntmps29
  go_wp2_with fail
  have hB0 : Below w.heap.size w ((w.alloc (.cells #[.int .i64 n] 3)).alloc (.cells #[.slice none 0 0] 34)) := ((Below.refl _ _).alloc (Nat.le_refl _) _).alloc (by simp) _
  have hN0 : Blk ((w.alloc (.cells #[.int .i64 n] 3)).alloc (.cells #[.slice none 0 0] 34)) w.heap.size 3 #[.int .i64 n] := (Blk.new w _ _).alloc _
  have hb0 : Blk ((w.alloc (.cells #[.int .i64 n] 3)).alloc (.cells #[.slice none 0 0] 34)) (w.heap.size + 1) 34 #[.slice none 0 0] := Blk.new2 w _ _ _
  have hz : ((w.alloc (.cells #[.int .i64 n] 3)).alloc (.cells #[.slice none 0 0] 34)).heap.size = w.heap.size + 2 := by simp
  have hg0 : GlR ((w.alloc (.cells #[.int .i64 n] 3)).alloc (.cells #[.slice none 0 0] 34)) (w.heap.size + 2) (.slice none 0 0) [] (glInit 0) := ⟨World.ownsRow_nil _ _ _ _, rfl, fun i x bl h1 _ => by simp at h1⟩
  generalize (w.alloc (.cells #[.int .i64 n] 3)).alloc (.cells #[.slice none 0 0] 34) = wA at *
  have HG0 := hid_of hg0
  clear hg0
  go_loopw [11] (fun i wr => ∃ (k : Nat) (v4 : Value) (vs : List SV), k ≤ n ∧ i = .int .i64 k ∧ Blk wr w.heap.size 3 #[.int .i64 n] ∧ Blk wr (w.heap.size + 1) 34 #[v4] ∧ Hid (GlR wr (w.heap.size + 2) v4 vs (glInit k)) ∧ w.heap.size + 2 ≤ wr.heap.size ∧ Below w.heap.size w wr) (fun i _ => n - (intOf i).toNat)
  case atStart => exact ⟨0, _, [], by omega, rfl, hN0, hb0, HG0, by omega, hB0⟩
  case round =>
    clear hB0 hN0 hb0 HG0 hz
    obtain ⟨k, v4, vs, hk, rfl, hN, hB, HG, hsz, hBl⟩ := hrel
    have q4 := hB.cell (j := 0) rfl
    have f4 := hB.frozen 0
    by_cases hlt : k < n
    · have hvk : vs.length ≤ 256 := by rw [HG.out.len, glInit_length]; omega
      have hbA := ((Below.refl wr.heap.size wr).alloc (Nat.le_refl _) (.cells #[.int .i64 k] 3))
      have HGA := hid_of (HG.out.step hbA)
      have hsA : Blk (wr.alloc (.cells #[.int .i64 k] 3)) wr.heap.size 3 (intsA (toI [k])) := Blk.new wr _ _
      go_wp2_with (at_builtin; refine wpList_append_own_at _ rfl _ _ 34 rfl (w.heap.size + 2) 26 i0 (.slice none 0 0) 1 24 Tryd.underlying34 hi hz0 hz1 hz2 rfl (by decide) v4 vs.length (vs.map encS) rfl (HGA.out.own.alloc _) ⟨_, 0, none⟩ 1 1 [.slice (some ⟨wr.heap.size, 0, none⟩) 1 1] rfl rfl (by intro k2 u hk2; match k2, hk2 with | 0, hk2 => simp at hk2; subst hk2; exact (Blk.new2 wr (.cells #[.int .i64 k] 3) 26 #[.slice (some ⟨wr.heap.size, 0, none⟩) 1 1]).cell (j := 0) rfl) (by simp [Value.oneCell']) (by unfold maxLen; omega) (by omega) (by simp; omega) ?_; intro v' w5 hown' hgrow _ hat; obtain ⟨g', cap', rfl, hg1, hg2⟩ := owns_form hown'; have hb5 : ∀ k, k < w.heap.size + 2 → w5.heap[k]? = wr.heap[k]? := glk HGA.out hgrow hsz; have hB5 : Blk w5 (w.heap.size + 1) 34 #[v4] := (hb5 _ (by omega)).trans hB; have q5 := hB5.cell (j := 0) rfl; have f5 := hB5.frozen 0)
      have hG5 := HGA.out.push (k := k) hsA hown' hgrow
      rw [← glInit_succ] at hG5
      have hN5 : Blk w5 w.heap.size 3 #[.int .i64 n] := (hb5 _ (by omega)).trans hN
      have hz5 : w.heap.size + 2 ≤ w5.heap.size := by have := hgrow.size; simp at this; omega
      have hBw5 : Below w.heap.size w w5 := ⟨hgrow.os.trans hBl.os, hgrow.tape.trans hBl.tape, hgrow.output.trans hBl.output, by have := hBl.size; omega, fun k hk => (hb5 k (by omega)).trans (hBl.block k hk)⟩
      refine ⟨⟨k + 1, _, _, by omega, by go_num, hN5.setOther (by simp) _, by have := hB5.set 0 (.slice (some ⟨g', 0, none⟩) (vs.length + 1) cap'); simpa using this, gl_set hG5 (by simp) hB5, by simpa [World.setCell] using hz5, hBw5.setCell (by simp) _⟩, by simp [intOf]; omega⟩
    · obtain rfl : k = n := by omega
      go_wp2_with fail
      have hlk : (glInit k).length = k := glInit_length k
      go_loopw [23] (fun i wr2 => ∃ (j : Nat) (vs : List SV) (bs : List (List Nat)), j ≤ l.length ∧ i = .int .i64 j ∧ Blk wr2 w.heap.size 3 #[.int .i64 k] ∧ Blk wr2 (w.heap.size + 1) 34 #[v4] ∧ Hid (GlR wr2 (w.heap.size + 2) v4 vs bs) ∧ bs.length = k ∧ Hid (gluF k l (glInit k) = gluF k (l.drop j) bs) ∧ w.heap.size + 2 ≤ wr2.heap.size ∧ Below w.heap.size w wr2) (fun i _ => l.length - (intOf i).toNat)
      case atStart => exact ⟨0, vs, _, by omega, rfl, hN, hB, HG, hlk, rfl, hsz, hBl⟩
      case round =>
        clear hN hB HG hlk hsz hBl q4 f4 hlt hk
        obtain ⟨j, vs, bs, hj, rfl, hN, hB, HG, hbs, HF, hsz, hBl⟩ := hrel
        by_cases hlt : j < l.length
        · obtain ⟨s, o, rfl, hs⟩ := HP.out (by omega)
          obtain ⟨⟨A, B⟩, hx⟩ : ∃ x, l[j]? = some x := ⟨_, List.getElem?_eq_getElem hlt⟩
          have c0 := (hs.below hBl).fst j _ hx
          have c1 := (hs.below hBl).snd j _ hx
          have HE : Hid (_ = _) := HF.out.trans (gluF_step hx)
          clear hx HF
          have hbA := (Below.refl wr.heap.size wr).alloc (Nat.le_refl _) (.cells #[.int .i64 A, .int .i64 B] 48)
          have hpA := Blk.new wr 48 #[.int .i64 A, .int .i64 B]
          have hNA := hN.alloc (.cells #[.int .i64 A, .int .i64 B] 48)
          have hBA := hB.alloc (.cells #[.int .i64 A, .int .i64 B] 48)
          have HGA := hid_of (HG.out.step hbA)
          have hBlA := hBl.alloc hBl.size (.cells #[.int .i64 A, .int .i64 B] 48)
          have hf1 := glued1_calls k w.heap.size (w.heap.size + 1) _ v4 vs bs A _ hNA hBA HGA.out hbs
          have hzA : w.heap.size + 2 ≤ wr.heap.size := hsz
          by_cases hAB : A = B
          · subst hAB
            have hr : gluF k l (glInit k) = none := HE.out.trans (by rw [if_neg (fun h => h.1 rfl)])
            have HR := hid_of hr
            have q5 := hBA.cell (j := 0) rfl
            have f5 := hBA.frozen 0
            have p0 := hpA.cell (j := 0) rfl
            have p1 := hpA.cell (j := 1) rfl
            clear hr HE
            go_wp2_with fail
            have e5 := hBA.set 0 (.slice none 0 0)
            exact bodyPost_ret (ret_glued rfl rfl (by simpa using e5)) rfl ⟨glAns_none HR.out, hBlA.setCell (by simp) _⟩
          · have hne : (A == B) = false := by simpa using hAB
            have HAB := hid_of hAB
            have p0 := hpA.cell (j := 0) rfl
            cases hA : freeB k bs A
            · have HR : Hid (gluF k l (glInit k) = none) := HE.out.trans (by rw [if_neg (fun h => by rw [hA] at h; cases h.2.1)])
              have p1 := hpA.cell (j := 1) rfl
              rw [hA] at hf1
              clear HE
              go_wp2_with (go_at_call 52; refine hf1.mono ?_; rintro e w2 ⟨rfl, hB2⟩; have hBb2 := hBA.of_below hB2; have q5 := hBb2.cell (j := 0) rfl; have f5 := hBb2.frozen 0)
              have e5 := hBb2.set 0 (.slice none 0 0)
              exact bodyPost_ret (ret_glued rfl rfl (by simpa using e5)) rfl ⟨glAns_none HR.out, (below_step hBlA hBlA.size hB2).setCell (by simp) _⟩
            · rw [hA] at hf1
              have HA := hid_of hA
              have p1 := hpA.cell (j := 1) rfl
              have HF2 : Hid (∀ w2, Below (wr.alloc (.cells #[.int .i64 A, .int .i64 B] 48)).heap.size (wr.alloc (.cells #[.int .i64 A, .int .i64 B] 48)) w2 → Calls Tryd.prog 52 #[.int .i64 B, pv w.heap.size, pv (w.heap.size + 1)] w2 fun e w' => e = .returned (.bool (freeB k bs B)) ∧ Below w2.heap.size w2 w') := fun w2 hb2 => glued1_calls k w.heap.size (w.heap.size + 1) _ v4 vs bs B _ (hNA.of_below hb2) (hBA.of_below hb2) (HGA.out.step hb2) hbs
              cases hBf : freeB k bs B
              · have HR : Hid (gluF k l (glInit k) = none) := HE.out.trans (by rw [if_neg (fun h => by rw [hBf] at h; cases h.2.2)])
                rw [hBf] at HF2
                clear HE
                go_wp2_with (first | (go_at_call 52; refine hf1.mono ?_; rintro e w2 ⟨rfl, hB2⟩; have hP2 := hpA.of_below hB2; have p2 := hP2.cell (j := 1) rfl; clear hf1) | (go_at_call 52; refine (HF2.out w2 hB2).mono ?_; rintro e w3 ⟨rfl, hB3⟩; have hBb3 := (hBA.of_below hB2).of_below hB3; have q5 := hBb3.cell (j := 0) rfl; have f5 := hBb3.frozen 0))
                have e5 := hBb3.set 0 (.slice none 0 0)
                exact bodyPost_ret (ret_glued rfl rfl (by simpa using e5)) rfl ⟨glAns_none HR.out, (below_step (below_step hBlA hBlA.size hB2) (Nat.le_trans hBlA.size hB2.size) hB3).setCell (by simp) _⟩
              · rw [hBf] at HF2
                obtain ⟨a, rfl, ha⟩ := inR_true (freeB_in hA)
                obtain ⟨b, rfl, hb⟩ := inR_true (freeB_in hBf)
                have hab : a ≠ b := fun e => HAB.out (by rw [e])
                have HE2 : Hid (gluF k l (glInit k) = gluF k (l.drop (j + 1)) ((bs.set a [a, b]).set b [])) := HE.out.trans (by rw [if_pos ⟨HAB.out, hA, hBf⟩]; simp)
                obtain ⟨g, capg, _, _, hv4, hgb, _⟩ := HG.out.cell (i := a) (by omega)
                rw [hbs] at hv4
                subst hv4
                clear HE
                go_wp2_with (first | (go_at_call 52; refine hf1.mono ?_; rintro e w2 ⟨rfl, hB2⟩; have hP2 := hpA.of_below hB2; have p2 := hP2.cell (j := 1) rfl; clear hf1) | (go_at_call 52; refine (HF2.out w2 hB2).mono ?_; rintro e w3 ⟨rfl, hB3⟩))
                have hN3 := (hNA.of_below hB2).of_below hB3
                have hBb3 := (hBA.of_below hB2).of_below hB3
                have hP3 := hP2.of_below hB3
                have HG3 := hid_of ((HGA.out.step hB2).step hB3)
                have hBl3 : Below w.heap.size w w3 := below_step (below_step hBlA hBlA.size hB2) (Nat.le_trans hBlA.size hB2.size) hB3
                have hz3 : w.heap.size + 2 ≤ wr.heap.size ∧ wr.heap.size < w3.heap.size := ⟨hsz, hP3.lt⟩
                clear hNA hBA hpA HGA hBlA hB2 hB3 hP2 HF2 p0 p1 p2 hN hB HG hBl hbA c0 c1 hs
                generalize wr.heap.size = B9 at *
                have q4 := hBb3.cell (j := 0) rfl
                have p0 := hP3.cell (j := 0) rfl
                have p1 := hP3.cell (j := 1) rfl
                have SW : w3.drew.cell? ⟨w.heap.size + 1, 0, none⟩ = some (.slice (some ⟨g, 0, none⟩) k capg) ∧ w3.drew.cell? ⟨B9, 0, none⟩ = some (.int .i64 a) ∧ w3.drew.cell? ⟨B9, 1, none⟩ = some (.int .i64 b) := ⟨q4, p0, p1⟩
                have hgB : g ≠ B9 := fun e => gl_ne HG3.out hP3 e
                have SX : Hid (∀ W : World, (W.cell? ⟨w.heap.size + 1, 0, none⟩ = some (.slice (some ⟨g, 0, none⟩) k capg) ∧ W.cell? ⟨B9, 0, none⟩ = some (.int .i64 a) ∧ W.cell? ⟨B9, 1, none⟩ = some (.int .i64 b)) → ∀ (j : Nat) (u : Value), (W.setCell ⟨g, j, none⟩ u).cell? ⟨w.heap.size + 1, 0, none⟩ = some (.slice (some ⟨g, 0, none⟩) k capg) ∧ (W.setCell ⟨g, j, none⟩ u).cell? ⟨B9, 0, none⟩ = some (.int .i64 a) ∧ (W.setCell ⟨g, j, none⟩ u).cell? ⟨B9, 1, none⟩ = some (.int .i64 b)) := fun W h j u => ⟨(cell_setOther (by simp; omega) _).trans h.1, (cell_setOther (by simp; omega) _).trans h.2.1, (cell_setOther (by simp; omega) _).trans h.2.2⟩
                have SA : (w3.drew.alloc (.cells #[.int .i64 a, .int .i64 b] 3)).cell? ⟨w.heap.size + 1, 0, none⟩ = some (.slice (some ⟨g, 0, none⟩) k capg) ∧ (w3.drew.alloc (.cells #[.int .i64 a, .int .i64 b] 3)).cell? ⟨B9, 0, none⟩ = some (.int .i64 a) ∧ (w3.drew.alloc (.cells #[.int .i64 a, .int .i64 b] 3)).cell? ⟨B9, 1, none⟩ = some (.int .i64 b) := ⟨cellA' SW.1 _, cellA' SW.2.1 _, cellA' SW.2.2 _⟩
                have SAL : Hid (∀ W : World, (W.cell? ⟨w.heap.size + 1, 0, none⟩ = some (.slice (some ⟨g, 0, none⟩) k capg) ∧ W.cell? ⟨B9, 0, none⟩ = some (.int .i64 a) ∧ W.cell? ⟨B9, 1, none⟩ = some (.int .i64 b)) → ∀ o : Obj, (W.alloc o).cell? ⟨w.heap.size + 1, 0, none⟩ = some (.slice (some ⟨g, 0, none⟩) k capg) ∧ (W.alloc o).cell? ⟨B9, 0, none⟩ = some (.int .i64 a) ∧ (W.alloc o).cell? ⟨B9, 1, none⟩ = some (.int .i64 b)) := fun W h o => ⟨cellA' h.1 _, cellA' h.2.1 _, cellA' h.2.2 _⟩
                have SW0 : w3.cell? ⟨w.heap.size + 1, 0, none⟩ = some (.slice (some ⟨g, 0, none⟩) k capg) ∧ w3.cell? ⟨B9, 0, none⟩ = some (.int .i64 a) ∧ w3.cell? ⟨B9, 1, none⟩ = some (.int .i64 b) := SW
                obtain ⟨xa, xb, ca, cb, fa, fb⟩ := gl_two HG3.out ha hb hbs
                have ca2 := cellA' ca (.cells #[.int .i64 a, .int .i64 b] 3)
                have cb2 := cellA' cb (.cells #[.int .i64 a, .int .i64 b] 3)
                have a0 : (0 : Int) ≤ (a : Int) := by omega
                have a1 : (a : Int) < (k : Int) := by omega
                have b0 : (0 : Int) ≤ (b : Int) := by omega
                have b1 : (b : Int) < (k : Int) := by omega
                have hgl : g < w3.heap.size := World.block_lt_of_cell? w3 _ ca
                have hgn : g ≠ w3.heap.size := by omega
                have hgn2 : w3.heap.size ≠ g := by omega
                go_region_held3 (fun W => W.cell? ⟨w.heap.size + 1, 0, none⟩ = some (.slice (some ⟨g, 0, none⟩) k capg) ∧ W.cell? ⟨B9, 0, none⟩ = some (.int .i64 a) ∧ W.cell? ⟨B9, 1, none⟩ = some (.int .i64 b)) (first | assumption | exact SW | exact SA | exact SAL.out _ (SX.out _ SW0 _ _) _ | exact SAL.out _ (SX.out _ (SX.out _ SW0 _ _) _ _) _) (fail)
                all_goals
                  go_wp2_with fail
                  refine ⟨⟨j + 1, _, _, by omega, by go_num, gl_blk hN3 (by omega) (by omega), gl_blk hBb3 (by omega) (by omega), gl_after HG3.out hbs ha hb hab, by simpa using hbs, HE2.out, ?_, gl_bel hBl3 (by omega)⟩, by simp [intOf]; omega⟩
                  simp [World.setCell, World.drew]
                  omega
        · obtain rfl : j = l.length := by omega
          have hF := HF.out
          rw [List.drop_length] at hF
          have HR : Hid (gluF k l (glInit k) = some bs) := hF
          have q4 := hB.cell (j := 0) rfl
          have hd := del_ans HG.out hsz (by omega)
          clear hF HF
          go_wp2_with (go_at_call 53; refine hd.mono ?_; rintro e w6 ⟨v6, rfl, hV6, hB6⟩; have hBb6 := hB.below hB6 (by omega); have q6 := hBb6.cell (j := 0) rfl; have f6 := hBb6.frozen 0; obtain ⟨x6, y6, z6, rfl⟩ := blv_slice hV6)
          have e6 := hBb6.set 0 (.slice x6 y6 z6)
          exact bodyPost_ret (ret_glued rfl rfl (by simpa using e6)) rfl ⟨glAns_some HR.out (hV6.set hBb6 (by omega)).blocks, (hBl.trans (hB6.mono (by omega))).setCell (by simp) _⟩
end Go.Proofs.YtijjogpldoafjabDoor
/- The contract of package order's Glue. -/
namespace Go.Proofs.YtijjogpldoafjabDoor
open Go.RowKit Go.Shelf Sx

theorem gluF_ok (n : Nat) : ∀ (l : List (Int × Int)) (bs bs' : List (List Nat)), gluF n l bs = some bs' → (bs.length = n ∧ ∀ bl ∈ bs, bl.length ≤ 2 ∧ ∀ p ∈ bl, p < n) → bs'.length = n ∧ ∀ bl ∈ bs', bl.length ≤ 2 ∧ ∀ p ∈ bl, p < n
  | [], bs, bs', h, hb => by
    have h : some bs = some bs' := h
    injection h with h
    rw [← h]; exact hb
  | (a, b) :: l, bs, bs', h, hb => by
    rw [gluF] at h
    split at h
    · rename_i hc
      obtain ⟨i, rfl, hi⟩ := inR_true (freeB_in hc.2.1)
      obtain ⟨j, rfl, hj⟩ := inR_true (freeB_in hc.2.2)
      refine gluF_ok n l _ bs' h ⟨by simpa using hb.1, fun bl hbl => ?_⟩
      rcases List.mem_or_eq_of_mem_set hbl with hbl | rfl
      · rcases List.mem_or_eq_of_mem_set hbl with hbl | rfl
        · exact hb.2 bl hbl
        · refine ⟨by simp, fun p hp => ?_⟩
          simp at hp
          omega
      · exact ⟨by simp, fun p hp => by cases hp⟩
    · cases h
theorem glInit_ok (n : Nat) : (glInit n).length = n ∧ ∀ bl ∈ glInit n, bl.length ≤ 2 ∧ ∀ p ∈ bl, p < n := by
  refine ⟨glInit_length n, fun bl hbl => ?_⟩
  obtain ⟨p, hp, rfl⟩ := List.mem_map.1 hbl
  refine ⟨by simp, fun q hq => ?_⟩
  simp at hq
  subst hq
  simpa using hp
theorem encJ_toI (l : List Nat) : encJ (toI l) = encN l := by simp [encJ, toI, encN]
/-- The blocks that Glue lays: as many as are not empty. -/
def glB (L : List Nat) (l : List (Int × Int)) : Option (List (List Nat)) := (gluF L.length l (glInit L.length)).map (fun bs => bs.filter (fun b => !b.isEmpty))
/-- What Glue answers: a list, or the error's number. -/
def glueF (L : List Nat) (l : List (Int × Int)) : List Nat × Int :=
  match glB L l with
  | none => ([], 1)
  | some bs => if (sortOf (betw L bs)).length = bs.length then (if linB L (toI (sbOf L bs).flatten) = true then ((sbOf L bs).flatten, 0) else ([], 3)) else ([], 3)
def GlueAns (w w' : World) (r : List Nat × Int) (e : Ending) : Prop := ∃ v, e = .returned (.tuple #[v, .int .i64 r.2]) ∧ (r.2 = 0 → w'.ownsRow w.heap.size 3 1 v r.1.length (encN r.1)) ∧ (r.2 ≠ 0 → v = .slice none 0 0)
set_option maxRecDepth 100000 in
set_option maxHeartbeats 2000000 in
theorem oGlue_calls (b c : Nat) (L : List Nat) (v : Value) (l : List (Int × Int)) (w : World) (h : IsRel w b c L) (hT : Tab w) (hv : ∃ p cap, v = .slice p l.length cap ∧ (0 < l.length → ∃ s o, p = some ⟨s, o, none⟩ ∧ PairsAt w s o l)) (hm : l.length ≤ 9223372036854775807) :
    Calls Tryd.prog 9 #[pv b, v] w fun e w' => GlueAns w w' (glueF L l) e ∧ Below w.heap.size w w' := by
  have hl := h.len
  have hg := oGlued_calls L.length hl v l w hv hm
  cases hgl : gluF L.length l (glInit L.length) with
  | none =>
    have er : glueF L l = ([], 1) := by simp [glueF, glB, hgl]
    rw [er]
    have HGL := hid_of hgl
    clear hgl er
    go_enter Tryd.func9, Tryd.ntmps9
    go_wp2_with (first | (go_at_call 15; refine (Len_calls b c L _ h).mono ?_; rintro e w' ⟨rfl, hw'⟩; obtain rfl : w = w' := hw'.symm) | (go_at_call 29; refine hg.mono ?_; rintro e w1 ⟨⟨hA, _⟩, hB1⟩; obtain rfl := hA HGL.out))
    go_ret2
    exact ⟨⟨_, rfl, (fun e => absurd e (by decide)), fun _ => rfl⟩, hB1⟩
  | some bs0 =>
    obtain ⟨hb0, hb1⟩ := gluF_ok L.length l _ bs0 hgl (glInit_ok L.length)
    have hfl : (bs0.filter (fun b => !b.isEmpty)).length ≤ 256 := Nat.le_trans (List.length_filter_le _ _) (by omega)
    have hfp : ∀ bl ∈ bs0.filter (fun b => !b.isEmpty), (0 < bl.length ∧ bl.length ≤ 256) ∧ ∀ p ∈ bl, p < L.length := fun bl hbl => by
      obtain ⟨h1, h2⟩ := List.mem_filter.1 hbl
      have h3 := hb1 bl h1
      refine ⟨⟨?_, by omega⟩, h3.2⟩
      cases bl with
      | nil => simp at h2
      | cons _ _ => simp
    have er : glueF L l = if (sortOf (betw L (bs0.filter (fun b => !b.isEmpty)))).length = (bs0.filter (fun b => !b.isEmpty)).length then (if linB L (toI (sbOf L (bs0.filter (fun b => !b.isEmpty))).flatten) = true then ((sbOf L (bs0.filter (fun b => !b.isEmpty))).flatten, 0) else ([], 3)) else ([], 3) := by simp [glueF, glB, hgl]
    have HER := hid_of er
    have HGL := hid_of hgl
    have HFP := hid_of hfp
    clear hgl er hfp hb1
    generalize hbs : bs0.filter (fun b => !b.isEmpty) = bs at *
    have HBS := hid_of hbs
    clear hbs
    have hgl : gluF L.length l (glInit L.length) = some bs0 := HGL.out
    by_cases hX : (sortOf (betw L bs)).length = bs.length
    · have hsb : (sbOf L bs).length ≤ 256 ∧ ∀ bl ∈ sbOf L bs, 0 < bl.length ∧ bl.length ≤ 256 := by
        refine ⟨by simp [sbOf, hX]; omega, fun bl hbl => ?_⟩
        obtain ⟨j, hj, rfl⟩ := List.mem_map.1 hbl
        have hjn := sortOf_lt (betw L bs) j hj
        rw [betw_length] at hjn
        have hm2 : bs.getD j [] ∈ bs := by
          rw [List.getD_eq_getElem?_getD, List.getElem?_eq_getElem hjn]
          exact List.getElem_mem _
        exact (HFP.out _ hm2).1
      have hr := HER.out
      rw [if_pos hX] at hr
      have HX := hid_of hX
      clear HER HGL hX
      go_enter Tryd.func9, Tryd.ntmps9
      go_wp2_with (first | (go_at_call 15; refine (Len_calls b c L _ h).mono ?_; rintro e w' ⟨rfl, hw'⟩; obtain rfl : w = w' := hw'.symm) | (go_at_call 29; refine hg.mono ?_; rintro e w1 ⟨⟨_, hA⟩, hB1⟩; obtain ⟨v1, rfl, hbv⟩ := hA bs0 hgl))
      rw [HBS.out] at hbv
      refine (oSortB_calls b c L v1 bs w1 (h.below hB1) (hT.step hB1) hbv hfl (fun bl hb => ⟨(HFP.out bl hb).1.2, (HFP.out bl hb).2⟩)).mono ?_
      rintro e w2 ⟨v2, code, rfl, ⟨hS1, _⟩, hB2⟩
      obtain ⟨rfl, hbv2⟩ := hS1 HX.out
      have hBw2 : Below w.heap.size w w2 := below_step hB1 hB1.size hB2
      have hcat := slConcat_calls v2 (sbOf L bs) w2 hbv2 hsb.1 hsb.2
      clear hbv hbv2 hsb hS1 hA
      generalize sbOf L bs = sb at *
      go_wp2_with fail
      refine hcat.mono ?_
      rintro e w3 ⟨v3, rfl, ho3, hB3⟩
      have hBw3 : Below w.heap.size w w3 := below_step hBw2 hBw2.size hB3
      have hI3 : IntsR w3 v3 (toI sb.flatten) := owns_intsR (base := w2.heap.size) (by
        rw [toI_length, encJ_toI]
        exact ho3)
      have hlin := oLinear_calls b c L v3 (toI sb.flatten) w3 (h.below hBw3) (hT.step hBw3) hI3
      have HO3 := hid_of ho3
      clear hcat ho3 hI3 hg
      generalize toI sb.flatten = tf at *
      cases hlb : linB L tf
      · rw [hlb] at hlin
        have HRR : Hid (glueF L l = ([], 3)) := hr.trans (by rw [hlb]; simp)
        clear hr hlb
        go_wp2_with (go_at_call 8; refine hlin.mono ?_; rintro e w4 ⟨rfl, hB4⟩)
        go_ret2
        rw [HRR.out]
        exact ⟨⟨_, rfl, (fun e => absurd e (by decide)), fun _ => rfl⟩, below_step hBw3 hBw3.size hB4⟩
      · rw [hlb] at hlin
        have HRR : Hid (glueF L l = (sb.flatten, 0)) := hr.trans (by rw [hlb]; simp)
        clear hr hlb
        go_wp2_with (go_at_call 8; refine hlin.mono ?_; rintro e w4 ⟨rfl, hB4⟩)
        go_ret2
        rw [HRR.out]
        exact ⟨⟨_, rfl, (fun _ => owns_below' (owns_lo HO3.out hBw2.size) hB4), fun e => absurd rfl e⟩, below_step hBw3 hBw3.size hB4⟩
    · have HRR : Hid (glueF L l = ([], 3)) := HER.out.trans (by rw [if_neg hX])
      have HX := hid_of hX
      clear HER HGL hX
      go_enter Tryd.func9, Tryd.ntmps9
      go_wp2_with (first | (go_at_call 15; refine (Len_calls b c L _ h).mono ?_; rintro e w' ⟨rfl, hw'⟩; obtain rfl : w = w' := hw'.symm) | (go_at_call 29; refine hg.mono ?_; rintro e w1 ⟨⟨_, hA⟩, hB1⟩; obtain ⟨v1, rfl, hbv⟩ := hA bs0 hgl))
      rw [HBS.out] at hbv
      refine (oSortB_calls b c L v1 bs w1 (h.below hB1) (hT.step hB1) hbv hfl (fun bl hb => ⟨(HFP.out bl hb).1.2, (HFP.out bl hb).2⟩)).mono ?_
      rintro e w2 ⟨v2, code, rfl, ⟨_, hS2⟩, hB2⟩
      obtain rfl := hS2 HX.out
      go_wp2_with fail
      go_ret2
      rw [HRR.out]
      exact ⟨⟨_, rfl, (fun e => absurd e (by decide)), fun _ => rfl⟩, below_step hB1 hB1.size hB2⟩
end Go.Proofs.YtijjogpldoafjabDoor
/- The statements' own helpers: ints, small, round. -/
namespace Go.Proofs.YtijjogpldoafjabDoor
open Go.RowKit Go.Shelf Sx

theorem intsR_form {w : World} {v : Value} {l : List Int} (h : IntsR w v l) : ∃ p cap, v = .slice p l.length cap ∧ (0 < l.length → ∃ s o, p = some ⟨s, o, none⟩ ∧ s < w.heap.size ∧ ∀ (i : Nat) (x : Int), l[i]? = some x → w.cell? ⟨s, o + i, none⟩ = some (.int .i64 x)) := by
  rcases h with ⟨a, cap, rfl, rfl⟩ | ⟨s, o, cap, rfl, h1, h2⟩
  · exact ⟨_, _, rfl, fun h => by simp at h⟩
  · exact ⟨_, _, rfl, fun _ => ⟨s, o, rfl, h1, h2⟩⟩
set_option maxRecDepth 100000 in
set_option maxHeartbeats 1000000 in
theorem ints2_calls (v1 v2 : Value) (a b : List Int) (w : World) (h1 : IntsR w v1 a) (h2 : IntsR w v2 b) (hm : a.length ≤ 9223372036854775807) :
    Calls Tryd.prog 16 #[v1, v2] w fun e w' => e = .returned (.bool (a == b)) ∧ Below w.heap.size w w' := by
  obtain ⟨p1, c1, rfl, hp1⟩ := intsR_form h1
  obtain ⟨p2, c2, rfl, hp2⟩ := intsR_form h2
  have HP1 := hid_of hp1
  have HP2 := hid_of hp2
  clear hp1 hp2 h1 h2
  by_cases hl : a.length = b.length
  · have hn : ((a.length : Int) != (b.length : Int)) = false := by rw [hl]; simp
    have HL := hid_of hl
    have HRE : Hid (∀ r : Bool, (a == b) = r → (a == b) = r) := fun _ h => h
    clear hl
    generalize hr : (a == b) = r at *
    have HR := hid_of hr
    clear hr
    go_enter Tryd.func16, Tryd.ntmps16
    go_wp2_with fail
    go_loopw [5] (fun i wr => ∃ k : Nat, k ≤ a.length ∧ i = .int .i64 k ∧ Hid (∀ i, i < k → a[i]? = b[i]?) ∧ Below w.heap.size w wr) (fun i _ => a.length - (intOf i).toNat)
    case atStart => exact ⟨0, by omega, rfl, fun i h => by omega, Below.refl _ _⟩
    case round =>
      obtain ⟨k, hk, rfl, HC, hB⟩ := hrel
      by_cases hlt : k < a.length
      · have hltB : k < b.length := by rw [← HL.out]; exact hlt
        obtain ⟨s1, o1, rfl, l1, k1⟩ := HP1.out (by omega)
        obtain ⟨s2, o2, rfl, l2, k2⟩ := HP2.out (by omega)
        obtain ⟨x, hx⟩ : ∃ x, a[k]? = some x := ⟨_, List.getElem?_eq_getElem hlt⟩
        obtain ⟨y, hy⟩ : ∃ y, b[k]? = some y := ⟨_, List.getElem?_eq_getElem hltB⟩
        have x0 := (hB.cell (p := ⟨s1, o1 + k, none⟩) l1).trans (k1 k x hx)
        have y0 := (hB.cell (p := ⟨s2, o2 + k, none⟩) l2).trans (k2 k y hy)
        have HX := hid_of hx
        have HY := hid_of hy
        clear hx hy k1 k2
        cases hq : (x != y)
        · have Hq : Hid (x = y) := by show x = y; simpa using hq
          go_wp2_with fail
          go_quiet (fail)
          go_wp2_with fail
          refine ⟨⟨k + 1, by omega, by go_num, ?_, below_drewN hB _⟩, by simp [intOf]; omega⟩
          intro i hi
          by_cases e : i = k
          · rw [e, HX.out, HY.out, Hq.out]
          · exact HC.out i (by omega)
        · have Hq : Hid (¬ x = y) := by show ¬ x = y; simpa using hq
          have er : r = false := by
            rw [← HR.out, beq_eq_false_iff_ne]
            intro e
            have h1 := HX.out
            rw [e, HY.out] at h1
            injection h1 with h1
            exact Hq.out h1.symm
          subst er
          go_wp2_with fail
          go_quiet (fail)
          go_wp2_with fail
          go_ret
          exact ⟨rfl, below_drewN hB _⟩
      · obtain rfl : k = a.length := by omega
        have er : r = true := by
          rw [← HR.out, beq_iff_eq]
          apply List.ext_getElem?
          intro i
          by_cases hi : i < a.length
          · exact HC.out i hi
          · rw [List.getElem?_eq_none (by omega), List.getElem?_eq_none (by have := HL.out; omega)]
        subst er
        go_wp2_with fail
        go_ret
        exact ⟨rfl, hB⟩
  · have hn : ((a.length : Int) != (b.length : Int)) = true := by simp; omega
    have e : (a == b) = false := by
      rw [beq_eq_false_iff_ne]
      intro e
      exact hl (by rw [e])
    rw [e]
    go_enter Tryd.func16, Tryd.ntmps16
    go_wp2_with fail
    go_ret
    exact ⟨rfl, Below.refl _ _⟩
def smL : List (Int × Int) := [(2, 0), (3, 1)]
def smR : List Nat := [0, 0, 1, 2]
theorem smR_eq : ofL 4 smL = smR := by decide +kernel
def rdL : List (Int × Int) := [(0, 1), (1, 0), (1, 4), (3, 3), (4, 2)]
def rdR : List Nat := [2, 17, 0, 8, 4]
theorem rdR_eq : ofL 5 rdL = rdR := by decide +kernel
set_option maxHeartbeats 1000000 in
theorem small2_calls (w : World) : Calls Tryd.prog 22 #[] w fun e w' => ∃ b c, e = .returned (pv b) ∧ Made w w' b c smR := by
  have hP : PairsAt (w.alloc (.cells #[.int .i64 2, .int .i64 0, .int .i64 3, .int .i64 1] 48)) w.heap.size 0 smL := by
    have hk := Blk.new w 48 #[.int .i64 2, .int .i64 0, .int .i64 3, .int .i64 1]
    refine ⟨by simp, ?_, ?_⟩
    all_goals
      intro i x hx
      match i with
      | 0 => simp [smL] at hx; subst hx; exact hk.cell rfl
      | 1 => simp [smL] at hx; subst hx; exact hk.cell rfl
      | i + 2 => simp [smL] at hx
  have HP := hid_of hP
  clear hP
  have HC := hid_of (Of_calls 4 w.heap.size 0 2 smL _ HP.out (by decide))
  rw [smR_eq] at HC
  go_enter Tryd.func22, Tryd.ntmps22
  go_wp2_with fail
  refine HC.out.mono ?_
  rintro e w1 ⟨b, c, rfl, hM⟩
  go_wp2_with fail
  go_ret
  refine ⟨b, c, rfl, hM.rel, ?_, ?_, ?_⟩
  · have := hM.hb; simp at this; omega
  · have := hM.hc; simp at this; omega
  · exact ((Below.refl _ w).alloc (Nat.le_refl _) _).trans (hM.below.mono (by simp))
set_option maxHeartbeats 1000000 in
theorem round2_calls (w : World) : Calls Tryd.prog 23 #[] w fun e w' => ∃ b c, e = .returned (pv b) ∧ Made w w' b c rdR := by
  have hP : PairsAt (w.alloc (.cells #[.int .i64 0, .int .i64 1, .int .i64 1, .int .i64 0, .int .i64 1, .int .i64 4, .int .i64 3, .int .i64 3, .int .i64 4, .int .i64 2] 48)) w.heap.size 0 rdL := by
    have hk := Blk.new w 48 #[.int .i64 0, .int .i64 1, .int .i64 1, .int .i64 0, .int .i64 1, .int .i64 4, .int .i64 3, .int .i64 3, .int .i64 4, .int .i64 2]
    refine ⟨by simp, ?_, ?_⟩
    all_goals
      intro i x hx
      match i with
      | 0 => simp [rdL] at hx; subst hx; exact hk.cell rfl
      | 1 => simp [rdL] at hx; subst hx; exact hk.cell rfl
      | 2 => simp [rdL] at hx; subst hx; exact hk.cell rfl
      | 3 => simp [rdL] at hx; subst hx; exact hk.cell rfl
      | 4 => simp [rdL] at hx; subst hx; exact hk.cell rfl
      | i + 5 => simp [rdL] at hx
  have HP := hid_of hP
  clear hP
  have HC := hid_of (Of_calls 5 w.heap.size 0 5 rdL _ HP.out (by decide))
  rw [rdR_eq] at HC
  go_enter Tryd.func23, Tryd.ntmps23
  go_wp2_with fail
  refine HC.out.mono ?_
  rintro e w1 ⟨b, c, rfl, hM⟩
  go_wp2_with fail
  go_ret
  refine ⟨b, c, rfl, hM.rel, ?_, ?_, ?_⟩
  · have := hM.hb; simp at this; omega
  · have := hM.hc; simp at this; omega
  · exact ((Below.refl _ w).alloc (Nat.le_refl _) _).trans (hM.below.mono (by simp))
theorem sort_sm : sortOf smR = [2, 0, 3, 1] := by decide +kernel
theorem sort_rd : (sortOf rdR).length ≠ rdR.length := by decide +kernel
theorem glue_sm : glueF smR [(2, 3)] = ([2, 3, 0, 1], 0) := by decide +kernel
theorem lin_sm : linB smR [2, 0, 3, 1] = true ∧ linB smR [0, 1, 2, 3] = false := by decide +kernel
end Go.Proofs.YtijjogpldoafjabDoor
/- The statements' lives. -/
namespace Go.Proofs.YtijjogpldoafjabDoor
open Go.RowKit Go.Shelf Sx

theorem four_ints (w : World) (a b c d : Int) : IntsR (w.alloc (.cells #[.int .i64 a, .int .i64 b, .int .i64 c, .int .i64 d] 3)) (.slice (some ⟨w.heap.size, 0, none⟩) 4 4) [a, b, c, d] := by
  have hk := Blk.new w 3 #[.int .i64 a, .int .i64 b, .int .i64 c, .int .i64 d]
  refine .inr ⟨w.heap.size, 0, 4, rfl, hk.lt, fun i x hx => ?_⟩
  match i with
  | 0 => simp at hx; subst hx; exact hk.cell rfl
  | 1 => simp at hx; subst hx; exact hk.cell rfl
  | 2 => simp at hx; subst hx; exact hk.cell rfl
  | 3 => simp at hx; subst hx; exact hk.cell rfl
  | i + 4 => simp at hx
set_option maxRecDepth 100000 in
set_option maxHeartbeats 2000000 in
theorem lives2_calls (w : World) (hT : Tab w) : Calls Tryd.prog 5 #[] w fun e w' => e = .returned (.bool true) ∧ Below w.heap.size w w' := by
  go_enter Tryd.func5, Tryd.ntmps5
  go_wp2_with fail
  refine (small2_calls _).mono ?_
  rintro e w1 ⟨b1, c1, rfl, hM1⟩
  have hB1 := hM1.below
  have hT1 := hT.step hB1
  go_wp2_with fail
  refine (oSort_calls b1 c1 smR w1 hM1.rel hT1).mono ?_
  rintro e w2 ⟨v2, code2, rfl, ⟨hS2, _⟩, hB2⟩
  obtain ⟨rfl, ho2⟩ := hS2 (by rw [sort_sm]; rfl)
  rw [sort_sm] at ho2
  have hI2 : IntsR w2 v2 [2, 0, 3, 1] := owns_intsR (base := w1.heap.size) ho2
  have hBw2 : Below w.heap.size w w2 := below_step hB1 hB1.size hB2
  clear hS2 ho2 hM1 hB1 hT1 hB2
  go_wp2_with fail
  refine (round2_calls _).mono ?_
  rintro e w3 ⟨b3, c3, rfl, hM3⟩
  have hBw3 : Below w.heap.size w w3 := below_step hBw2 hBw2.size hM3.below
  have hI3 := hI2.below hM3.below
  go_wp2_with fail
  refine (oSort_calls b3 c3 rdR w3 hM3.rel (hT.step hBw3)).mono ?_
  rintro e w4 ⟨v4, code4, rfl, ⟨_, hS4⟩, hB4⟩
  obtain ⟨rfl, rfl⟩ := hS4 sort_rd
  have hBw4 : Below w.heap.size w w4 := below_step hBw3 hBw3.size hB4
  have hI4 := hI3.below hB4
  clear hS4 hM3 hI2 hI3 hBw2 hBw3 hB4
  go_wp2_with fail
  refine (small2_calls _).mono ?_
  rintro e w5 ⟨b5, c5, rfl, hM5⟩
  have hBw5 : Below w.heap.size w w5 := below_step hBw4 hBw4.size hM5.below
  have hI5 := hI4.below hM5.below
  have hr5 := hM5.rel
  clear hM5 hI4 hBw4
  have hbA := (Below.refl w5.heap.size w5).alloc (Nat.le_refl _) (.cells #[.int .i64 2, .int .i64 3] 48)
  have hPA : PairsAt (w5.alloc (.cells #[.int .i64 2, .int .i64 3] 48)) w5.heap.size 0 [(2, 3)] := by
    have hk := Blk.new w5 48 #[.int .i64 2, .int .i64 3]
    refine ⟨by simp, ?_, ?_⟩
    all_goals
      intro i x hx
      match i with
      | 0 => simp at hx; subst hx; exact hk.cell rfl
      | i + 1 => simp at hx
  have hBA : Below w.heap.size w (w5.alloc (.cells #[.int .i64 2, .int .i64 3] 48)) := below_step hBw5 hBw5.size hbA
  have hG := oGlue_calls b5 c5 smR (.slice (some ⟨w5.heap.size, 0, none⟩) 1 1) [(2, 3)] _ (hr5.below hbA) (hT.step hBA) ⟨_, _, rfl, fun _ => ⟨_, _, rfl, hPA⟩⟩ (by decide)
  rw [glue_sm] at hG
  have HG := hid_of hG
  clear hG hPA
  go_wp2_with fail
  refine HG.out.mono ?_
  rintro e w6 ⟨⟨v6, rfl, ho6, _⟩, hB6⟩
  have hI6m : IntsR w6 v6 [2, 3, 0, 1] := owns_intsR (ho6 rfl)
  have hI6 := (hI5.below hbA).below hB6
  have hBw6 : Below w.heap.size w w6 := below_step hBA hBA.size hB6
  clear ho6 HG hI5 hbA hBA hB6 hr5 hBw5
  go_wp2_with fail
  refine (ints2_calls v2 _ _ _ _ (hI6.below ((Below.refl _ _).alloc (Nat.le_refl _) _)) (four_ints w6 2 0 3 1) (by decide)).mono ?_
  rintro e w7 ⟨rfl, hB7⟩
  have hbA6 := (Below.refl w6.heap.size w6).alloc (Nat.le_refl _) (.cells #[.int .i64 2, .int .i64 0, .int .i64 3, .int .i64 1] 3)
  have hBw7 : Below w.heap.size w w7 := below_step (below_step hBw6 hBw6.size hbA6) (by have := hBw6.size; simp; omega) hB7
  have hI7 := (hI6.below hbA6).below hB7
  have hJ7 := (hI6m.below hbA6).below hB7
  clear hI6 hI6m hbA6 hB7 hBw6
  rw [show (([2, 0, 3, 1] : List Int) == [2, 0, 3, 1]) = true from by decide]
  go_wp2_with fail
  refine (ints2_calls v6 _ _ _ _ (hJ7.below ((Below.refl _ _).alloc (Nat.le_refl _) _)) (four_ints w7 2 3 0 1) (by decide)).mono ?_
  rintro e w8 ⟨rfl, hB8⟩
  have hbA7 := (Below.refl w7.heap.size w7).alloc (Nat.le_refl _) (.cells #[.int .i64 2, .int .i64 3, .int .i64 0, .int .i64 1] 3)
  have hBw8 : Below w.heap.size w w8 := below_step (below_step hBw7 hBw7.size hbA7) (by have := hBw7.size; simp; omega) hB8
  have hI8 := (hI7.below hbA7).below hB8
  clear hI7 hJ7 hbA7 hB8 hBw7
  rw [show (([2, 3, 0, 1] : List Int) == [2, 3, 0, 1]) = true from by decide]
  go_wp2_with fail
  refine (small2_calls _).mono ?_
  rintro e w9 ⟨b9, c9, rfl, hM9⟩
  have hBw9 : Below w.heap.size w w9 := below_step hBw8 hBw8.size hM9.below
  have hl9 := oLinear_calls b9 c9 smR v2 _ w9 hM9.rel (hT.step hBw9) (hI8.below hM9.below)
  rw [lin_sm.1] at hl9
  go_wp2_with fail
  refine hl9.mono ?_
  rintro e wa ⟨rfl, hBa⟩
  have hBwa : Below w.heap.size w wa := below_step hBw9 hBw9.size hBa
  clear hl9 hM9 hI8 hBw8 hBw9 hBa
  go_wp2_with fail
  refine (small2_calls _).mono ?_
  rintro e wb ⟨bb, cb, rfl, hMb⟩
  have hBwb : Below w.heap.size w wb := below_step hBwa hBwa.size hMb.below
  have hbAb := (Below.refl wb.heap.size wb).alloc (Nat.le_refl _) (.cells #[.int .i64 0, .int .i64 1, .int .i64 2, .int .i64 3] 3)
  have hBwc : Below w.heap.size w (wb.alloc (.cells #[.int .i64 0, .int .i64 1, .int .i64 2, .int .i64 3] 3)) := below_step hBwb hBwb.size hbAb
  have hlb := oLinear_calls bb cb smR _ _ _ (hMb.rel.below hbAb) (hT.step hBwc) (four_ints wb 0 1 2 3)
  rw [lin_sm.2] at hlb
  clear hMb hbAb
  go_wp2_with fail
  refine hlb.mono ?_
  rintro e wd ⟨rfl, hBd⟩
  go_wp2_with fail
  go_ret
  exact ⟨rfl, below_step hBwc hBwc.size hBd⟩
end Go.Proofs.YtijjogpldoafjabDoor
/- Of R2Free, what this seat can build. -/
namespace Go.Proofs.YtijjogpldoafjabDoor
open Go.RowKit Go.Shelf Sx

def upd (F : Nat → Nat → Bool) (p q : Nat) (b : Bool) : Nat → Nat → Bool := fun x y => if x = p ∧ y = q then b else F x y
def putF (n : Nat) (F : Nat → Nat → Bool) (a b : Int) (v : Bool) : Nat → Nat → Bool := if inR n a && inR n b then upd F a.toNat b.toNat v else F
def freeF (n : Nat) (F : Nat → Nat → Bool) (D : List Bool) (p : Nat) : Bool := !(D.getD p false) && (List.range n).all (fun a => !(F a p && !(D.getD a false)))
end Go.Proofs.YtijjogpldoafjabDoor
/- Of R2Math, what this seat can build. -/
namespace Go.Proofs.YtijjogpldoafjabDoor
open Go.RowKit Go.Shelf Sx

/-- A table and rows with the same pairs. -/
structure TwO (n : Nat) (F : Nat → Nat → Bool) (L : List Nat) : Prop where
  len : L.length = n
  same : ∀ p q, p < n → q < n → F p q = (gr L p).testBit q
theorem gr_set' {L : List Nat} {i p v : Nat} (hi : i < L.length) : gr (L.set i v) p = if p = i then v else gr L p := by
  unfold gr
  rw [List.getD_eq_getElem?_getD, List.getD_eq_getElem?_getD, List.getElem?_set]
  by_cases e : i = p
  · subst e; simp [hi]
  · rw [if_neg e, if_neg (fun h => e h.symm)]
theorem twO_put {n : Nat} {F : Nat → Nat → Bool} {A : List Nat} (ha : TwO n F A) (a b : Int) (v : Bool) : TwO n (putF n F a b v) (putP A a b v) := by
  unfold putF putP
  rw [ha.len]
  by_cases h : (inR n a && inR n b) = true
  · rw [if_pos h, if_pos h]
    rw [Bool.and_eq_true] at h
    obtain ⟨i, rfl, hi⟩ := inR_true h.1
    obtain ⟨j, rfl, hj⟩ := inR_true h.2
    rw [Int.toNat_natCast, Int.toNat_natCast]
    have hl := ha.len
    refine ⟨by rw [List.length_set, hl], fun p q hp hq => ?_⟩
    unfold upd
    rw [gr_set' (by omega)]
    by_cases e : p = i
    · subst e
      rw [if_pos rfl, testBit_setB]
      by_cases e2 : q = j
      · subst e2; simp
      · rw [if_neg (fun h => e2 h.2), if_neg e2]
        exact ha.same p q hp hq
    · rw [if_neg e, if_neg (fun h => e h.1)]
      exact ha.same p q hp hq
  · rw [if_neg h, if_neg h]
    exact ha
theorem mem_pairsL {L : List Nat} (hn : L.length ≤ 256) (hlow : ∀ R ∈ L, R < 2 ^ L.length) {p q : Nat} : (p, q) ∈ pairsL L ↔ p < L.length ∧ (gr L p).testBit q = true := by
  rw [show pairsL L = pairsK L L.length from rfl, mem_pairsK]
  constructor
  · rintro ⟨h1, h2⟩
    exact ⟨h1, (mem_bitsN.1 h2).2⟩
  · rintro ⟨h1, h2⟩
    refine ⟨h1, mem_bitsN.2 ⟨?_, h2⟩⟩
    apply Nat.lt_of_not_le
    intro hle
    rw [testBit_of_lt (gr_lt hlow) (show L.length ≤ q by have : 256 ≤ q := hle; omega)] at h2
    cases h2
theorem TwO.pairs {F : Nat → Nat → Bool} {L : List Nat} (h : TwO L.length F L) (hn : L.length ≤ 256) (hlow : ∀ R ∈ L, R < 2 ^ L.length) {p q : Nat} (hp : p < L.length) (hq : q < L.length) : F p q = true ↔ (p, q) ∈ pairsL L := by
  rw [mem_pairsL hn hlow, h.same p q hp hq]
  exact ⟨fun h => ⟨hp, h⟩, fun h => h.2⟩
def rowR (n : Nat) (F : Nat → Nat → Bool) (pl : List Int) (a : Nat) : Bool := (List.range n).all (fun b => !(F a b && decide (pl.getD b 0 ≤ pl.getD a 0)))
def allR (n : Nat) (F : Nat → Nat → Bool) (pl : List Int) : Bool := (List.range n).all (fun a => rowR n F pl a)
def linR (n : Nat) (F : Nat → Nat → Bool) (l : List Int) : Bool := l.length == n && match putsF n l 0 (List.replicate n 0) with | none => false | some pl => allR n F pl
theorem allR_iff {n : Nat} {F : Nat → Nat → Bool} {pl : List Int} : allR n F pl = true ↔ ∀ a b, a < n → b < n → F a b = true → ¬ pl.getD b 0 ≤ pl.getD a 0 := by
  unfold allR rowR
  simp only [List.all_eq_true, List.mem_range, Bool.not_eq_true', Bool.and_eq_false_iff, decide_eq_false_iff_not]
  constructor
  · intro h a b ha hb hF
    rcases h a ha b hb with e | e
    · rw [hF] at e; cases e
    · exact e
  · intro h a ha b hb
    cases hF : F a b
    · exact .inl rfl
    · exact .inr (h a b ha hb hF)
theorem linR_eq {F : Nat → Nat → Bool} {L : List Nat} (h : TwO L.length F L) (hn : L.length ≤ 256) (hlow : ∀ R ∈ L, R < 2 ^ L.length) (l : List Int) : linR L.length F l = linB L l := by
  unfold linR linB
  congr 1
  cases putsF L.length l 0 (List.replicate L.length 0) with
  | none => rfl
  | some pl =>
    show allR L.length F pl = !anyT pl (pairsL L)
    rw [Bool.eq_iff_iff, allR_iff, Bool.not_eq_true']
    unfold anyT
    rw [List.any_eq_false]
    constructor
    · rintro hA ⟨p, q⟩ hx
      have := pairsL_lt hlow _ hx
      have h2 := hA p q this.1 this.2 ((h.pairs hn hlow this.1 this.2).2 hx)
      simp only [turnd, decide_eq_true_eq]
      exact h2
    · intro hA a b ha hb hF
      have h2 := hA (a, b) ((h.pairs hn hlow ha hb).1 hF)
      simpa only [turnd, decide_eq_true_eq] using h2
def doneL (n : Nat) (pts : List Nat) : List Bool := (List.range n).map (fun q => pts.contains q)
theorem doneL_length (n : Nat) (pts : List Nat) : (doneL n pts).length = n := by simp [doneL]
theorem doneL_at {n : Nat} (pts : List Nat) {q : Nat} (h : q < n) : (doneL n pts).getD q false = pts.contains q := by simp [doneL, List.getD, h]
theorem doneL_nil (n : Nat) : doneL n [] = List.replicate n false := by
  unfold doneL
  apply List.ext_getElem
  · simp
  · intro i h1 h2; simp
theorem doneL_set {n : Nat} (pts : List Nat) {p : Nat} : (doneL n pts).set p true = doneL n (pts ++ [p]) := by
  apply List.ext_getElem
  · simp [doneL]
  · intro i h1 h2
    rw [List.getElem_set]
    simp only [doneL, List.getElem_map, List.getElem_range]
    by_cases e : p = i
    · subst e; simp
    · rw [if_neg e]
      rw [Bool.eq_iff_iff]
      simp
      exact fun h => absurd h.symm e
theorem free_iff {F : Nat → Nat → Bool} {L : List Nat} (h : TwO L.length F L) (hn : L.length ≤ 256) (hlow : ∀ R ∈ L, R < 2 ^ L.length) (pts : List Nat) {p : Nat} (hp : p < L.length) : freeF L.length F (doneL L.length pts) p = true ↔ wAt (pairsL L) pts p = 0 := by
  unfold freeF
  rw [doneL_at _ hp, Bool.and_eq_true, Bool.not_eq_true', List.all_eq_true]
  unfold wAt
  constructor
  · rintro ⟨h1, h2⟩
    rw [if_neg (by rw [h1]; simp)]
    have : (pairsL L).filter (fun x => x.2 == p && !pts.contains x.1) = [] := by
      rw [List.filter_eq_nil_iff]
      rintro ⟨a, q⟩ hx hc
      simp only [Bool.and_eq_true, beq_iff_eq, Bool.not_eq_true'] at hc
      obtain ⟨rfl, hc⟩ := hc
      have hl := pairsL_lt hlow _ hx
      have h3 := h2 a (List.mem_range.2 hl.1)
      rw [doneL_at _ hl.1, hc, (h.pairs hn hlow hl.1 hp).2 hx] at h3
      cases h3
    rw [this]
    rfl
  · intro h1
    have hnp : pts.contains p = false := by
      cases hc : pts.contains p
      · rfl
      · rw [hc] at h1
        simp at h1
        omega
    refine ⟨hnp, fun a ha => ?_⟩
    have ha := List.mem_range.1 ha
    rw [doneL_at _ ha]
    cases hF : F a p
    · rfl
    · cases hc : pts.contains a
      · exfalso
        rw [hnp] at h1
        have hm : (a, p) ∈ (pairsL L).filter (fun x => x.2 == p && !pts.contains x.1) := by
          rw [List.mem_filter]
          refine ⟨(h.pairs hn hlow ha hp).1 hF, ?_⟩
          simp only [beq_self_eq_true, Bool.true_and, hc, Bool.not_false]
        have := List.length_pos_of_mem hm
        rw [if_neg (by simp)] at h1
        omega
      · rfl
/-- The least point from k on that may come, or -1. -/
def LeastF (n : Nat) (F : Nat → Nat → Bool) (D : List Bool) (k : Nat) (nx : Int) : Prop :=
  (nx = -1 ∧ ∀ q, k ≤ q → q < n → freeF n F D q = false) ∨ ∃ p : Nat, nx = (p : Int) ∧ k ≤ p ∧ p < n ∧ freeF n F D p = true ∧ ∀ q, k ≤ q → q < p → freeF n F D q = false
theorem LeastF.no {n : Nat} {F : Nat → Nat → Bool} {D : List Bool} {k : Nat} {nx : Int} (h : LeastF n F D (k + 1) nx) (hf : freeF n F D k = false) : LeastF n F D k nx := by
  rcases h with ⟨rfl, h⟩ | ⟨p, rfl, h1, h2, h3, h4⟩
  · refine .inl ⟨rfl, fun q hq hn => ?_⟩
    by_cases e : q = k
    · subst e; exact hf
    · exact h q (by omega) hn
  · refine .inr ⟨p, rfl, by omega, h2, h3, fun q hq hp => ?_⟩
    by_cases e : q = k
    · subst e; exact hf
    · exact h4 q (by omega) hp
theorem LeastF.yes {n : Nat} {F : Nat → Nat → Bool} {D : List Bool} {k : Nat} (hk : k < n) (hf : freeF n F D k = true) : LeastF n F D k (k : Int) := .inr ⟨k, rfl, Nat.le_refl _, hk, hf, fun q h1 h2 => by omega⟩
theorem LeastF.start (n : Nat) (F : Nat → Nat → Bool) (D : List Bool) : LeastF n F D n (-1) := .inl ⟨rfl, fun q h1 h2 => by omega⟩
theorem LeastF.fz {F : Nat → Nat → Bool} {L : List Nat} (h : TwO L.length F L) (hn : L.length ≤ 256) (hlow : ∀ R ∈ L, R < 2 ^ L.length) {pts : List Nat} {nx : Int} (hl : LeastF L.length F (doneL L.length pts) 0 nx) : nx = fz (wAll L.length (pairsL L) pts) := by
  have key : ∀ q, q < L.length → freeF L.length F (doneL L.length pts) q = false → (wAll L.length (pairsL L) pts)[q]? ≠ some 0 := by
    intro q hq hf e
    rw [wAll_at _ _ hq] at e
    injection e with e
    rw [(free_iff h hn hlow pts hq).2 e] at hf
    cases hf
  rcases hl with ⟨rfl, h1⟩ | ⟨p, rfl, _, h2, h3, h4⟩
  · rw [fz_none]
    intro q hq
    rw [wAll_length] at hq
    exact key q hq (h1 q (by omega) hq)
  · rw [fz_at]
    · rw [wAll_at _ _ h2, (free_iff h hn hlow pts h2).1 h3]
    · intro i hi
      exact key i (by omega) (h4 i (by omega) hi)
/-- Where the reference stands: so many points are laid, and what Sort lays goes on from them. -/
structure SrtAt (L : List Nat) (i : Nat) (pts : List Nat) : Prop where
  len : pts.length = i
  le : i ≤ L.length
  nodup : pts.Nodup
  lt : ∀ p ∈ pts, p < L.length
  srt : sortOf L = srt L.length (pairsL L) (L.length + 1 - i) pts
theorem SrtAt.begin (L : List Nat) : SrtAt L 0 [] := ⟨rfl, Nat.zero_le _, List.nodup_nil, fun p hp => by simp at hp, rfl⟩
theorem SrtAt.stuck {L : List Nat} {i : Nat} {pts : List Nat} (h : SrtAt L i pts) (hi : i < L.length) (hf : fz (wAll L.length (pairsL L) pts) < 0) : (sortOf L).length ≠ L.length := by
  rw [h.srt, show L.length + 1 - i = (L.length - i) + 1 by omega]
  unfold Go.Proofs.YtijjogpldoafjabDoor.srt
  rw [if_neg (by omega), h.len]
  omega
theorem fz_new {L : List Nat} {pts : List Nat} {p : Nat} (hf : fz (wAll L.length (pairsL L) pts) = (p : Int)) : p < L.length ∧ p ∉ pts := by
  obtain ⟨q, h1, h2, h3⟩ := fz_range (l := wAll L.length (pairsL L) pts) (by omega)
  obtain rfl : q = p := by omega
  rw [wAll_length] at h2
  refine ⟨h2, fun hm => ?_⟩
  rw [wAll_at _ _ h2] at h3
  injection h3 with h3
  exact wAt_pos hm h3
theorem SrtAt.next {L : List Nat} {i : Nat} {pts : List Nat} (h : SrtAt L i pts) (hi : i < L.length) {p : Nat} (hf : fz (wAll L.length (pairsL L) pts) = (p : Int)) : SrtAt L (i + 1) (pts ++ [p]) := by
  obtain ⟨h1, h2⟩ := fz_new hf
  refine ⟨by simp [h.len], by omega, ?_, ?_, ?_⟩
  · rw [List.nodup_append]
    refine ⟨h.nodup, by simp, ?_⟩
    intro a ha b hb e
    simp at hb
    subst hb
    subst e
    exact h2 ha
  · intro q hq
    rcases List.mem_append.1 hq with hq | hq
    · exact h.lt q hq
    · simp at hq; subst hq; exact h1
  · rw [h.srt, show L.length + 1 - i = (L.length - i) + 1 by omega]
    conv => lhs; unfold Go.Proofs.YtijjogpldoafjabDoor.srt
    rw [if_pos (by omega), hf, Int.toNat_natCast]
    congr 1
    omega
theorem SrtAt.full {L : List Nat} {pts : List Nat} (h : SrtAt L L.length pts) : sortOf L = pts := by
  rw [h.srt, show L.length + 1 - L.length = 0 + 1 by omega]
  unfold Go.Proofs.YtijjogpldoafjabDoor.srt
  rw [if_neg]
  intro hf
  obtain ⟨p, h1, h2, h3⟩ := fz_range hf
  obtain ⟨h4, h5⟩ := fz_new h1
  have hN := nodup_le L.length (pts ++ [p]) (by
    rw [List.nodup_append]
    refine ⟨h.nodup, by simp, ?_⟩
    intro a ha b hb e
    simp at hb
    subst hb
    subst e
    exact h5 ha) (fun q hq => by
    rcases List.mem_append.1 hq with hq | hq
    · exact h.lt q hq
    · simp at hq; subst hq; exact h4)
  rw [List.length_append, h.len] at hN
  simp at hN
  omega
end Go.Proofs.YtijjogpldoafjabDoor
/- Glue: the units of the reference, by their first points, and the blocks of the program, by their places. -/
namespace Go.Proofs.YtijjogpldoafjabDoor
open Go.RowKit Go.Shelf Sx

/-- Where the reference stands in its pairs: the numbers of the units, what comes next in a unit, and which points are used; beside the program's blocks. -/
structure GlOf (n : Nat) (bs : List (List Nat)) (O : List Nat) (X : List Int) (U : List Bool) : Prop where
  lb : bs.length = n
  lo : O.length = n
  lx : X.length = n
  lu : U.length = n
  one : ∀ p, p < n → U.getD p false = false → bs.getD p [] = [p] ∧ O.getD p 0 = p ∧ X.getD p 0 = -1
  two : ∀ p, p < n → U.getD p false = true → (∃ q, q < n ∧ q ≠ p ∧ bs.getD p [] = [p, q] ∧ O.getD p 0 = p ∧ X.getD p 0 = (q : Int) ∧ U.getD q false = true ∧ bs.getD q [] = [] ∧ O.getD q 0 = p ∧ X.getD q 0 = -1) ∨ (∃ a, a < n ∧ a ≠ p ∧ bs.getD a [] = [a, p] ∧ O.getD a 0 = a ∧ X.getD a 0 = (p : Int) ∧ U.getD a false = true ∧ bs.getD p [] = [] ∧ O.getD p 0 = a ∧ X.getD p 0 = -1)
theorem getD_setU {α : Type} (l : List α) (i q : Nat) (x d : α) (hi : i < l.length) : (l.set i x).getD q d = if i = q then x else l.getD q d := by
  simp only [List.getD_eq_getElem?_getD, List.getElem?_set]
  by_cases h : i = q
  · subst h; simp [hi]
  · simp [h]
theorem GlOf.start (n : Nat) : GlOf n (glInit n) (List.range n) (List.replicate n (-1)) (List.replicate n false) := by
  refine ⟨by simp [glInit], by simp, by simp, by simp, ?_, ?_⟩
  · intro p hp _
    simp [glInit, List.getD_eq_getElem?_getD, hp]
  · intro p hp h
    simp [List.getD_eq_getElem?_getD, hp] at h
theorem GlOf.step {n : Nat} {bs : List (List Nat)} {O : List Nat} {X : List Int} {U : List Bool} (h : GlOf n bs O X U) {a b : Nat} (ha : a < n) (hb : b < n) (hab : a ≠ b) (ua : U.getD a false = false) (ub : U.getD b false = false) :
    GlOf n ((bs.set a [a, b]).set b []) (O.set b a) (X.set a (b : Int)) ((U.set a true).set b true) := by
  obtain ⟨a1, a2, a3⟩ := h.one a ha ua
  obtain ⟨b1, b2, b3⟩ := h.one b hb ub
  have hbs : ∀ q, ((bs.set a [a, b]).set b []).getD q [] = if b = q then [] else if a = q then [a, b] else bs.getD q [] := by
    intro q
    rw [getD_setU _ _ _ _ _ (by rw [List.length_set, h.lb]; exact hb), getD_setU _ _ _ _ _ (by rw [h.lb]; exact ha)]
  have hO : ∀ q, (O.set b a).getD q 0 = if b = q then a else O.getD q 0 := fun q => getD_setU _ _ _ _ _ (by rw [h.lo]; exact hb)
  have hX : ∀ q, (X.set a (b : Int)).getD q 0 = if a = q then (b : Int) else X.getD q 0 := fun q => getD_setU _ _ _ _ _ (by rw [h.lx]; exact ha)
  have hU : ∀ q, ((U.set a true).set b true).getD q false = if b = q then true else if a = q then true else U.getD q false := by
    intro q
    rw [getD_setU _ _ _ _ _ (by rw [List.length_set, h.lu]; exact hb), getD_setU _ _ _ _ _ (by rw [h.lu]; exact ha)]
  refine ⟨by simp [h.lb], by simp [h.lo], by simp [h.lx], by simp [h.lu], ?_, ?_⟩
  · intro p hp hu
    rw [hU] at hu
    by_cases e1 : b = p
    · rw [if_pos e1] at hu; cases hu
    rw [if_neg e1] at hu
    by_cases e2 : a = p
    · rw [if_pos e2] at hu; cases hu
    rw [if_neg e2] at hu
    rw [hbs, hO, hX, if_neg e1, if_neg e2, if_neg e1, if_neg e2]
    exact h.one p hp hu
  · intro p hp hu
    rw [hU] at hu
    by_cases e1 : b = p
    · subst e1
      refine Or.inr ⟨a, ha, hab, ?_⟩
      rw [hbs, hO, hX, hU, hbs, hO, hX, if_neg (Ne.symm hab), if_pos rfl, if_neg (Ne.symm hab), if_pos rfl, if_neg (Ne.symm hab), if_pos rfl, if_pos rfl, if_pos rfl, if_neg hab]
      exact ⟨rfl, a2, rfl, rfl, rfl, rfl, b3⟩
    rw [if_neg e1] at hu
    by_cases e2 : a = p
    · subst e2
      refine Or.inl ⟨b, hb, Ne.symm hab, ?_⟩
      rw [hbs, hO, hX, hU, hbs, hO, hX, if_neg e1, if_pos rfl, if_neg e1, if_pos rfl, if_pos rfl, if_pos rfl, if_pos rfl, if_neg hab]
      exact ⟨rfl, a2, rfl, rfl, rfl, rfl, b3⟩
    rw [if_neg e2] at hu
    rcases h.two p hp hu with ⟨q, q1, q2, q3, q4, q5, q6, q7, q8, q9⟩ | ⟨q, q1, q2, q3, q4, q5, q6, q7, q8, q9⟩
    · have f1 : b ≠ q := fun e => by subst e; rw [ub] at q6; cases q6
      have f2 : a ≠ q := fun e => by subst e; rw [ua] at q6; cases q6
      refine Or.inl ⟨q, q1, q2, ?_⟩
      rw [hbs, hO, hX, hU, hbs, hO, hX, if_neg e1, if_neg e2, if_neg e1, if_neg e2, if_neg f1, if_neg f2, if_neg f1, if_neg f2, if_neg f1, if_neg f2]
      exact ⟨q3, q4, q5, q6, q7, q8, q9⟩
    · have f1 : b ≠ q := fun e => by subst e; rw [ub] at q6; cases q6
      have f2 : a ≠ q := fun e => by subst e; rw [ua] at q6; cases q6
      refine Or.inr ⟨q, q1, q2, ?_⟩
      rw [hbs, hO, hX, hU, hbs, hO, hX, if_neg f1, if_neg f2, if_neg f1, if_neg f2, if_neg f1, if_neg f2, if_neg e1, if_neg e2, if_neg e1, if_neg e2]
      exact ⟨q3, q4, q5, q6, q7, q8, q9⟩
theorem GlOf.free {n : Nat} {bs : List (List Nat)} {O : List Nat} {X : List Int} {U : List Bool} (h : GlOf n bs O X U) (p : Int) : freeB n bs p = (inR n p && !U.getD p.toNat false) := by
  unfold freeB
  cases hi : inR n p
  · rfl
  · have hp : p.toNat < n := by
      have := of_decide_eq_true hi
      omega
    rw [Bool.true_and, Bool.true_and]
    cases hu : U.getD p.toNat false
    · rw [(h.one _ hp hu).1]; rfl
    · rcases h.two _ hp hu with ⟨q, _, _, q3, _⟩ | ⟨q, _, _, _, _, _, _, q7, _⟩
      · rw [q3]; rfl
      · rw [q7]; rfl
/-- The unit of a point holds it; its first point is its number. -/
theorem GlOf.unit {n : Nat} {bs : List (List Nat)} {O : List Nat} {X : List Int} {U : List Bool} (h : GlOf n bs O X U) {p : Nat} (hp : p < n) : O.getD p 0 < n ∧ O.getD (O.getD p 0) 0 = O.getD p 0 ∧ p ∈ bs.getD (O.getD p 0) [] ∧ (bs.getD p [] = [] ↔ O.getD p 0 ≠ p) := by
  cases hu : U.getD p false
  · obtain ⟨a1, a2, a3⟩ := h.one p hp hu
    rw [a2, a2, a1]
    exact ⟨hp, rfl, by simp, by simp⟩
  · rcases h.two p hp hu with ⟨q, q1, q2, q3, q4, q5, q6, q7, q8, q9⟩ | ⟨q, q1, q2, q3, q4, q5, q6, q7, q8, q9⟩
    · rw [q4, q4, q3]
      exact ⟨hp, rfl, by simp, by simp⟩
    · rw [q8, q4, q3, q7]
      exact ⟨q1, rfl, by simp, by simp [q2]⟩
theorem GlOf.mem {n : Nat} {bs : List (List Nat)} {O : List Nat} {X : List Int} {U : List Bool} (h : GlOf n bs O X U) {u p : Nat} (hu : u < n) (hm : p ∈ bs.getD u []) : p < n ∧ O.getD p 0 = u := by
  cases e : U.getD u false
  · obtain ⟨a1, a2, a3⟩ := h.one u hu e
    rw [a1] at hm
    simp at hm
    subst hm
    exact ⟨hu, a2⟩
  · rcases h.two u hu e with ⟨q, q1, q2, q3, q4, q5, q6, q7, q8, q9⟩ | ⟨q, q1, q2, q3, q4, q5, q6, q7, q8, q9⟩
    · rw [q3] at hm
      simp at hm
      rcases hm with rfl | rfl
      · exact ⟨hu, q4⟩
      · exact ⟨q1, q8⟩
    · rw [q7] at hm
      simp at hm
/-- The first points of the units, rising. -/
def fsts (n : Nat) (O : List Nat) : List Nat := (List.range n).filter (fun p => O.getD p 0 == p)
theorem fsts_mem {n : Nat} {O : List Nat} {u : Nat} : u ∈ fsts n O ↔ u < n ∧ O.getD u 0 = u := by simp [fsts]
theorem fsts_rise (n : Nat) (O : List Nat) : (fsts n O).Pairwise (· < ·) := List.Pairwise.filter _ List.pairwise_lt_range
theorem rise_lt {l : List Nat} (h : l.Pairwise (· < ·)) {i j a b : Nat} (hi : l[i]? = some a) (hj : l[j]? = some b) : i < j ↔ a < b := by
  have key : ∀ i j a b : Nat, l[i]? = some a → l[j]? = some b → i < j → a < b := by
    intro i j a b hi hj hij
    obtain ⟨h1, e1⟩ := List.getElem?_eq_some_iff.1 hi
    obtain ⟨h2, e2⟩ := List.getElem?_eq_some_iff.1 hj
    have := List.pairwise_iff_getElem.1 h i j h1 h2 hij
    omega
  constructor
  · exact key i j a b hi hj
  · intro hab
    rcases Nat.lt_trichotomy i j with e | e | e
    · exact e
    · subst e
      rw [hi] at hj
      have := Option.some.inj hj
      omega
    · have := key j i b a hj hi e
      omega
theorem rise_inj {l : List Nat} (h : l.Pairwise (· < ·)) {i j a : Nat} (hi : l[i]? = some a) (hj : l[j]? = some a) : i = j := by
  have h1 := rise_lt h hi hj
  have h2 := rise_lt h hj hi
  omega
theorem GlOf.blocks {n : Nat} {bs : List (List Nat)} {O : List Nat} {X : List Int} {U : List Bool} (h : GlOf n bs O X U) : bs.filter (fun b => !b.isEmpty) = (fsts n O).map (fun p => bs.getD p []) := by
  have e : bs = (List.range n).map (fun p => bs.getD p []) := by
    apply List.ext_getElem?
    intro i
    rw [List.getElem?_map]
    by_cases hi : i < n
    · rw [List.getElem?_range hi, List.getElem?_eq_getElem (by rw [h.lb]; exact hi)]
      simp [List.getD_eq_getElem?_getD, h.lb, hi]
    · rw [List.getElem?_eq_none (by rw [h.lb]; omega), List.getElem?_eq_none (by simp; omega)]
      rfl
  conv => lhs; rw [e]
  rw [List.filter_map]
  congr 1
  unfold fsts
  apply List.filter_congr
  intro p hp
  have hp := List.mem_range.1 hp
  have hu := (h.unit hp).2.2.2
  simp only [Function.comp]
  rw [Bool.eq_iff_iff, beq_iff_eq, Bool.not_eq_true', List.isEmpty_eq_false_iff]
  constructor
  · intro h1
    exact Classical.byContradiction fun e => h1 (hu.2 e)
  · intro h1 h2
    exact hu.1 h2 h1
/-- The number of a point's block. -/
theorem GlOf.idx {n : Nat} {bs : List (List Nat)} {O : List Nat} {X : List Int} {U : List Bool} (h : GlOf n bs O X U) {p : Nat} (hp : p < n) : ∃ i : Nat, (fsts n O)[i]? = some (O.getD p 0) := by
  obtain ⟨h1, h2, _⟩ := h.unit hp
  exact List.getElem?_of_mem (fsts_mem.2 ⟨h1, h2⟩)
theorem setAll_at (i : Nat) : ∀ (b : List Nat) (B : List Int) (p : Nat), p < B.length → (setAll B i b).getD p 0 = if p ∈ b then (i : Int) else B.getD p 0
  | [], B, p, _ => by simp [setAll]
  | q :: b, B, p, hp => by
    have := setAll_at i b (B.set q (i : Int)) p (by rw [List.length_set]; exact hp)
    have e : setAll B i (q :: b) = setAll (B.set q (i : Int)) i b := rfl
    rw [e, this]
    by_cases h1 : p ∈ b
    · rw [if_pos h1, if_pos (List.mem_cons_of_mem _ h1)]
    · rw [if_neg h1]
      by_cases h2 : p = q
      · subst h2
        rw [if_pos (List.mem_cons_self ..), getD_setU _ _ _ _ _ hp, if_pos rfl]
      · rw [if_neg (by simp [h1, h2])]
        by_cases hq : q < B.length
        · rw [getD_setU _ _ _ _ _ hq, if_neg (fun e => h2 e.symm)]
        · rw [List.set_eq_of_length_le (by omega)]
theorem GlOf.blk {n : Nat} {bs : List (List Nat)} {O : List Nat} {X : List Int} {U : List Bool} (h : GlOf n bs O X U) {p i : Nat} (hp : p < n) (hi : (fsts n O)[i]? = some (O.getD p 0)) : (blkK n (bs.filter (fun b => !b.isEmpty)) (bs.filter (fun b => !b.isEmpty)).length).getD p 0 = (i : Int) := by
  rw [h.blocks]
  have key : ∀ k, k ≤ (fsts n O).length → (blkK n ((fsts n O).map (fun p => bs.getD p [])) k).getD p 0 = if i < k then (i : Int) else 0 := by
    intro k
    induction k with
    | zero =>
      intro _
      simp [blkK, List.getD_eq_getElem?_getD, hp]
    | succ k ih =>
      intro hk
      rw [blkK_succ, setAll_at _ _ _ _ (by rw [blkK_length]; exact hp), ih (by omega)]
      have hkl : k < (fsts n O).length := by omega
      have e : ((fsts n O).map (fun p => bs.getD p [])).getD k [] = bs.getD (fsts n O)[k] [] := by
        simp [List.getD_eq_getElem?_getD, hkl]
      rw [e]
      have hm := fsts_mem.1 (List.getElem_mem hkl)
      by_cases hik : i = k
      · subst hik
        have e2 : (fsts n O)[i] = O.getD p 0 := by
          rw [List.getElem?_eq_getElem hkl] at hi
          exact Option.some.inj hi
        rw [e2, if_pos (h.unit hp).2.2.1, if_pos (by omega)]
      · have hnm : p ∉ bs.getD (fsts n O)[k] [] := by
          intro hmem
          have := (h.mem hm.1 hmem).2
          apply hik
          exact rise_inj (fsts_rise n O) hi (by rw [List.getElem?_eq_getElem hkl, this])
        rw [if_neg hnm]
        by_cases hlt : i < k
        · rw [if_pos hlt, if_pos (by omega)]
        · rw [if_neg hlt, if_neg (by omega)]
  have hil := (List.getElem?_eq_some_iff.1 hi).1
  rw [List.length_map, key _ (Nat.le_refl _), if_pos hil]
/-- The relation of blocks, as a table. -/
def BF (B : List Int) (ps : List (Nat × Nat)) (i j : Nat) : Bool := ps.any (fun x => B.getD x.1 0 != B.getD x.2 0 && B.getD x.1 0 == (i : Int) && B.getD x.2 0 == (j : Int))
theorem twO_btK (B : List Int) (m : Nat) (ps : List (Nat × Nat)) : TwO m (BF B ps) (btK B m ps) := by
  have key : ∀ k, k ≤ ps.length → TwO m (BF B (ps.take k)) (btK B m (ps.take k)) := by
    intro k
    induction k with
    | zero =>
      intro _
      refine ⟨by simp [btK], ?_⟩
      intro p q hp hq
      simp [BF, btK, gr, List.getD_eq_getElem?_getD, hp]
    | succ k ih =>
      intro hk
      have ih := ih (by omega)
      have e : ps.take (k + 1) = ps.take k ++ [ps[k]] := by rw [List.take_append_getElem]
      rw [e, btK_snoc]
      generalize ps[k] = x
      by_cases hx : B.getD x.1 0 = B.getD x.2 0
      · rw [if_pos hx]
        refine ⟨ih.len, fun p q hp hq => ?_⟩
        rw [← ih.same p q hp hq]
        unfold BF
        have e0 : (B.getD x.1 0 != B.getD x.2 0) = false := by rw [hx]; simp
        rw [List.any_append]
        simp only [List.any_cons, List.any_nil, Bool.or_false, e0, Bool.false_and]
      · rw [if_neg hx]
        have h2 := twO_put ih (B.getD x.1 0) (B.getD x.2 0) true
        refine ⟨h2.len, fun p q hp hq => ?_⟩
        rw [← h2.same p q hp hq]
        unfold BF putF upd
        rw [List.any_append]
        by_cases hin : (inR m (B.getD x.1 0) && inR m (B.getD x.2 0)) = true
        · rw [if_pos hin]
          rw [Bool.and_eq_true] at hin
          have i1 := of_decide_eq_true hin.1
          have i2 := of_decide_eq_true hin.2
          by_cases hpq : p = (B.getD x.1 0).toNat ∧ q = (B.getD x.2 0).toNat
          · rw [if_pos hpq]
            have e1 : B.getD x.1 0 = (p : Int) := by omega
            have e2 : B.getD x.2 0 = (q : Int) := by omega
            rw [e1, e2] at hx
            simp only [List.any_cons, List.any_nil, Bool.or_false, e1, e2, beq_self_eq_true, Bool.and_true]
            rw [Bool.or_eq_true]
            right
            simpa using hx
          · rw [if_neg hpq]
            have : (B.getD x.1 0 != B.getD x.2 0 && B.getD x.1 0 == (p : Int) && B.getD x.2 0 == (q : Int)) = false := by
              rw [Bool.eq_false_iff]
              intro hc
              rw [Bool.and_eq_true, Bool.and_eq_true, beq_iff_eq, beq_iff_eq] at hc
              apply hpq
              omega
            simp only [List.any_cons, List.any_nil, Bool.or_false, this]
        · rw [if_neg hin]
          have : (B.getD x.1 0 != B.getD x.2 0 && B.getD x.1 0 == (p : Int) && B.getD x.2 0 == (q : Int)) = false := by
            rw [Bool.eq_false_iff]
            intro hc
            rw [Bool.and_eq_true, Bool.and_eq_true, beq_iff_eq, beq_iff_eq] at hc
            apply hin
            rw [Bool.and_eq_true]
            constructor
            · exact decide_eq_true (by omega)
            · exact decide_eq_true (by omega)
          simp only [List.any_cons, List.any_nil, Bool.or_false, this]
  have := key ps.length (Nat.le_refl _)
  rw [List.take_length] at this
  exact this
/-- The relation of units by their first points, as the reference lays it. -/
def SmU (n : Nat) (F : Nat → Nat → Bool) (O : List Nat) (X : List Int) (u v : Nat) : Bool := (List.range n).any fun p => (List.range n).any fun q => F p q && X.getD p 0 != (q : Int) && O.getD p 0 == u && O.getD q 0 == v
theorem SmU_iff {n : Nat} {F : Nat → Nat → Bool} {O : List Nat} {X : List Int} {u v : Nat} : SmU n F O X u v = true ↔ ∃ p q, p < n ∧ q < n ∧ F p q = true ∧ X.getD p 0 ≠ (q : Int) ∧ O.getD p 0 = u ∧ O.getD q 0 = v := by
  unfold SmU
  simp only [List.any_eq_true, List.mem_range, Bool.and_eq_true, bne_iff_ne, ne_eq, beq_iff_eq]
  constructor
  · rintro ⟨p, hp, q, hq, ⟨⟨h1, h2⟩, h3⟩, h4⟩
    exact ⟨p, q, hp, hq, h1, h2, h3, h4⟩
  · rintro ⟨p, q, hp, hq, h1, h2, h3, h4⟩
    exact ⟨p, hp, q, hq, ⟨⟨h1, h2⟩, h3⟩, h4⟩
/-- What comes next in a unit is of that unit. -/
theorem GlOf.nx {n : Nat} {bs : List (List Nat)} {O : List Nat} {X : List Int} {U : List Bool} (h : GlOf n bs O X U) {p q : Nat} (hp : p < n) (hx : X.getD p 0 = (q : Int)) : O.getD p 0 = p ∧ O.getD q 0 = p ∧ q ≠ p ∧ q < n ∧ bs.getD p [] = [p, q] := by
  cases hu : U.getD p false
  · obtain ⟨_, _, a3⟩ := h.one p hp hu
    rw [a3] at hx
    omega
  · rcases h.two p hp hu with ⟨r, q1, q2, q3, q4, q5, q6, q7, q8, q9⟩ | ⟨r, q1, q2, q3, q4, q5, q6, q7, q8, q9⟩
    · rw [q5] at hx
      obtain rfl : r = q := by omega
      exact ⟨q4, q8, q2, q1, q3⟩
    · rw [q9] at hx
      omega
/-- The blocks' table, by points. -/
theorem BF_iff {n : Nat} {bs : List (List Nat)} {O : List Nat} {X : List Int} {U : List Bool} (h : GlOf n bs O X U) {F : Nat → Nat → Bool} {ps : List (Nat × Nat)} (hps : ∀ p q, (p, q) ∈ ps ↔ p < n ∧ q < n ∧ F p q = true) {i j u v : Nat} (hi : (fsts n O)[i]? = some u) (hj : (fsts n O)[j]? = some v) :
    BF (blkK n (bs.filter (fun b => !b.isEmpty)) (bs.filter (fun b => !b.isEmpty)).length) ps i j = true ↔ u ≠ v ∧ ∃ p q, p < n ∧ q < n ∧ F p q = true ∧ O.getD p 0 = u ∧ O.getD q 0 = v := by
  have huv : i = j ↔ u = v := by
    constructor
    · rintro rfl; rw [hi] at hj; exact Option.some.inj hj
    · rintro rfl; exact rise_inj (fsts_rise n O) hi hj
  unfold BF
  rw [List.any_eq_true]
  constructor
  · rintro ⟨⟨p, q⟩, hm, hc⟩
    obtain ⟨hp, hq, hF⟩ := (hps p q).1 hm
    simp only [Bool.and_eq_true, bne_iff_ne, ne_eq, beq_iff_eq] at hc
    obtain ⟨⟨c1, c2⟩, c3⟩ := hc
    obtain ⟨i', hi'⟩ := h.idx hp
    obtain ⟨j', hj'⟩ := h.idx hq
    rw [h.blk hp hi'] at c2
    rw [h.blk hq hj'] at c3
    obtain rfl : i' = i := by omega
    obtain rfl : j' = j := by omega
    rw [hi] at hi'
    rw [hj] at hj'
    refine ⟨?_, p, q, hp, hq, hF, (Option.some.inj hi').symm, (Option.some.inj hj').symm⟩
    intro e
    have := huv.2 e
    subst this
    apply c1
    rw [h.blk hp (i := i') (by rw [hi, hi']), h.blk hq (i := i') (by rw [hj, hj'])]
  · rintro ⟨huv2, p, q, hp, hq, hF, h1, h2⟩
    refine ⟨(p, q), (hps p q).2 ⟨hp, hq, hF⟩, ?_⟩
    simp only [Bool.and_eq_true, bne_iff_ne, ne_eq, beq_iff_eq]
    rw [h.blk hp (i := i) (by rw [hi, h1]), h.blk hq (i := j) (by rw [hj, h2])]
    refine ⟨⟨?_, rfl⟩, rfl⟩
    intro e
    apply huv2
    apply huv.1
    omega
theorem SmU_BF {n : Nat} {bs : List (List Nat)} {O : List Nat} {X : List Int} {U : List Bool} (h : GlOf n bs O X U) {F : Nat → Nat → Bool} {ps : List (Nat × Nat)} (hps : ∀ p q, (p, q) ∈ ps ↔ p < n ∧ q < n ∧ F p q = true) {i j u v : Nat} (hi : (fsts n O)[i]? = some u) (hj : (fsts n O)[j]? = some v) (hne : u ≠ v) :
    SmU n F O X u v = BF (blkK n (bs.filter (fun b => !b.isEmpty)) (bs.filter (fun b => !b.isEmpty)).length) ps i j := by
  rw [Bool.eq_iff_iff, SmU_iff, BF_iff h hps hi hj]
  constructor
  · rintro ⟨p, q, hp, hq, h1, h2, h3, h4⟩
    exact ⟨hne, p, q, hp, hq, h1, h3, h4⟩
  · rintro ⟨_, p, q, hp, hq, h1, h3, h4⟩
    refine ⟨p, q, hp, hq, h1, ?_, h3, h4⟩
    intro e
    obtain ⟨e1, e2, _⟩ := h.nx hp e
    apply hne
    rw [← h3, ← h4, e1, e2]
/-- The points of the units that are laid. -/
def laidU (bs : List (List Nat)) (fs : List Nat) (pts : List Nat) : List Nat := (pts.map (fun i => bs.getD (fs.getD i 0) [])).flatten
theorem laidU_snoc (bs : List (List Nat)) (fs pts : List Nat) (i : Nat) : laidU bs fs (pts ++ [i]) = laidU bs fs pts ++ bs.getD (fs.getD i 0) [] := by simp [laidU]
theorem laidU_mem {n : Nat} {bs : List (List Nat)} {O : List Nat} {X : List Int} {U : List Bool} (h : GlOf n bs O X U) {pts : List Nat} (hlt : ∀ i ∈ pts, i < (fsts n O).length) {j u p : Nat} (hp : p < n) (hj : (fsts n O)[j]? = some u) (hO : O.getD p 0 = u) : p ∈ laidU bs (fsts n O) pts ↔ j ∈ pts := by
  unfold laidU
  rw [List.mem_flatten]
  constructor
  · rintro ⟨b, hb, hpb⟩
    obtain ⟨i, hi, rfl⟩ := List.mem_map.1 hb
    have hil := hlt i hi
    have e : (fsts n O).getD i 0 = (fsts n O)[i] := by simp [List.getD_eq_getElem?_getD, hil]
    rw [e] at hpb
    have hm := fsts_mem.1 (List.getElem_mem hil)
    have h2 := (h.mem hm.1 hpb).2
    have : i = j := rise_inj (fsts_rise n O) (List.getElem?_eq_getElem hil) (by rw [hj, ← h2, hO])
    rw [← this]
    exact hi
  · intro hjp
    refine ⟨bs.getD ((fsts n O).getD j 0) [], List.mem_map.2 ⟨j, hjp, rfl⟩, ?_⟩
    have : (fsts n O).getD j 0 = u := by rw [List.getD_eq_getElem?_getD, hj]; rfl
    rw [this, ← hO]
    exact (h.unit hp).2.2.1
/-- A unit is free for the reference just where its block is for the program's Sort, if it is not against itself. -/
theorem free_same {n : Nat} {bs : List (List Nat)} {O : List Nat} {X : List Int} {U : List Bool} (h : GlOf n bs O X U) {F : Nat → Nat → Bool} {ps : List (Nat × Nat)} (hps : ∀ p q, (p, q) ∈ ps ↔ p < n ∧ q < n ∧ F p q = true) {pts : List Nat} (hlt : ∀ i ∈ pts, i < (fsts n O).length) {j u : Nat} (hj : (fsts n O)[j]? = some u) (hgood : SmU n F O X u u = false) :
    freeF n (SmU n F O X) (doneL n (laidU bs (fsts n O) pts)) u = freeF (fsts n O).length (BF (blkK n (bs.filter (fun b => !b.isEmpty)) (bs.filter (fun b => !b.isEmpty)).length) ps) (doneL (fsts n O).length pts) j := by
  have hu := fsts_mem.1 (List.mem_of_getElem? hj)
  have hjl := (List.getElem?_eq_some_iff.1 hj).1
  unfold freeF
  rw [doneL_at _ hu.1, doneL_at _ hjl]
  have e1 : (laidU bs (fsts n O) pts).contains u = pts.contains j := by
    rw [Bool.eq_iff_iff, List.contains_iff_mem, List.contains_iff_mem]
    exact laidU_mem h hlt hu.1 hj hu.2
  rw [e1]
  congr 1
  rw [Bool.eq_iff_iff, List.all_eq_true, List.all_eq_true]
  constructor
  · intro ha i hi
    have hi := List.mem_range.1 hi
    rw [doneL_at _ hi]
    have hfi : (fsts n O)[i]? = some (fsts n O)[i] := List.getElem?_eq_getElem hi
    generalize (fsts n O)[i] = v at hfi
    have hv := fsts_mem.1 (List.mem_of_getElem? hfi)
    have := ha v (List.mem_range.2 hv.1)
    rw [doneL_at _ hv.1] at this
    have e2 : (laidU bs (fsts n O) pts).contains v = pts.contains i := by
      rw [Bool.eq_iff_iff, List.contains_iff_mem, List.contains_iff_mem]
      exact laidU_mem h hlt hv.1 hfi hv.2
    rw [e2] at this
    by_cases hvu : v = u
    · subst hvu
      cases hb : BF (blkK n (bs.filter (fun b => !b.isEmpty)) (bs.filter (fun b => !b.isEmpty)).length) ps i j
      · rfl
      · exact absurd rfl ((BF_iff h hps hfi hj).1 hb).1
    · rw [← SmU_BF h hps hfi hj hvu]
      exact this
  · intro ha a han
    have han := List.mem_range.1 han
    rw [doneL_at _ han]
    cases hS : SmU n F O X a u
    · rfl
    · obtain ⟨p, q, hp, hq, c1, c2, c3, c4⟩ := SmU_iff.1 hS
      obtain ⟨i, hi⟩ := h.idx hp
      rw [c3] at hi
      have hil := (List.getElem?_eq_some_iff.1 hi).1
      have ha1 := fsts_mem.1 (List.mem_of_getElem? hi)
      have hau : a ≠ u := fun e => by rw [e, hgood] at hS; cases hS
      have := ha i (List.mem_range.2 hil)
      rw [doneL_at _ hil, ← SmU_BF h hps hi hj hau, hS] at this
      have e2 : (laidU bs (fsts n O) pts).contains a = pts.contains i := by
        rw [Bool.eq_iff_iff, List.contains_iff_mem, List.contains_iff_mem]
        exact laidU_mem h hlt ha1.1 hi ha1.2
      rw [e2]
      exact this
theorem bad_stays {n : Nat} {F : Nat → Nat → Bool} {O : List Nat} {X : List Int} {u : Nat} (hu : u < n) (hbad : SmU n F O X u u = true) (D : List Bool) : freeF n (SmU n F O X) D u = false := by
  rw [Bool.eq_false_iff]
  intro e
  unfold freeF at e
  rw [Bool.and_eq_true, Bool.not_eq_true', List.all_eq_true] at e
  have := e.2 u (List.mem_range.2 hu)
  rw [hbad, e.1] at this
  exact absurd this (by decide)
theorem puts_at (n : Nat) : ∀ (rest : List Nat) (k : Nat) (pl : List Int), pl.length = n → rest.Nodup → (∀ x ∈ rest, x < n ∧ pl.getD x 0 = 0) → ∃ pl', putsF n (toI rest) k pl = some pl' ∧ ∀ p, p < n → pl'.getD p 0 = if p ∈ rest then ((k + rest.idxOf p + 1 : Nat) : Int) else pl.getD p 0
  | [], k, pl, _, _, _ => ⟨pl, rfl, fun p _ => by simp⟩
  | x :: xs, k, pl, hl, hn, hx => by
    obtain ⟨h1, h2⟩ := hx x (List.mem_cons_self ..)
    rw [List.nodup_cons] at hn
    have hin : inR n (x : Int) = true := decide_eq_true (by omega)
    have hset : ∀ p, (pl.set x ((k : Int) + 1)).getD p 0 = if x = p then (k : Int) + 1 else pl.getD p 0 := fun p => getD_setU _ _ _ _ _ (by omega)
    obtain ⟨pl', e1, e2⟩ := puts_at n xs (k + 1) (pl.set x ((k : Int) + 1)) (by simp [hl]) hn.2 (fun y hy => by
      have := hx y (List.mem_cons_of_mem _ hy)
      refine ⟨this.1, ?_⟩
      have hxy : ¬ x = y := fun e => hn.1 (by rw [e]; exact hy)
      rw [hset, if_neg hxy]
      exact this.2)
    refine ⟨pl', ?_, ?_⟩
    · show putsF n ((x : Int) :: toI xs) k pl = some pl'
      unfold putsF
      rw [if_pos ⟨hin, by rw [Int.toNat_natCast]; exact h2⟩, Int.toNat_natCast]
      exact e1
    · intro p hp
      rw [e2 p hp]
      by_cases hpx : p ∈ xs
      · have hne : x ≠ p := fun e => hn.1 (e ▸ hpx)
        rw [if_pos hpx, if_pos (List.mem_cons_of_mem _ hpx), List.idxOf_cons]
        have : (x == p) = false := by simpa using hne
        rw [this]
        simp only [cond_false]
        omega
      · rw [if_neg hpx, hset]
        by_cases e : x = p
        · subst e
          rw [if_pos rfl, if_pos (List.mem_cons_self ..), List.idxOf_cons_self]
          omega
        · have e' : ¬ p = x := fun h => e h.symm
          rw [if_neg e, if_neg (by simp [hpx, e'])]
theorem sub_len : ∀ (l l' : List Nat), l.Nodup → (∀ x ∈ l, x ∈ l') → l.length ≤ l'.length
  | [], _, _, _ => Nat.zero_le _
  | x :: l, l', hn, hs => by
    rw [List.nodup_cons] at hn
    have hx := hs x (List.mem_cons_self ..)
    have := sub_len l (l'.erase x) hn.2 (fun y hy => (List.mem_erase_of_ne (fun (e : y = x) => hn.1 (by rw [← e]; exact hy))).2 (hs y (List.mem_cons_of_mem _ hy)))
    rw [List.length_erase_of_mem hx] at this
    have h0 : 0 < l'.length := List.length_pos_of_mem hx
    rw [List.length_cons]
    omega
/-- A list of all points is linear just where each pair's first stands ahead of its second. -/
theorem lin_iff {L : List Nat} {F : Nat → Nat → Bool} (hps : ∀ p q, (p, q) ∈ pairsL L ↔ p < L.length ∧ q < L.length ∧ F p q = true) {l : List Nat} (hn : l.Nodup) (hlt : ∀ x ∈ l, x < L.length) (hl : l.length = L.length) (hall : ∀ p, p < L.length → p ∈ l) : linB L (toI l) = true ↔ ∀ p q, p < L.length → q < L.length → F p q = true → l.idxOf p < l.idxOf q := by
  obtain ⟨pl, e1, e2⟩ := puts_at L.length l 0 (List.replicate L.length 0) (by simp) hn (fun x hx => ⟨hlt x hx, by simp [List.getD_eq_getElem?_getD, hlt x hx]⟩)
  unfold linB
  have hz : ((toI l).length == L.length) = true := by simp [toI, hl]
  rw [hz, e1, Bool.true_and]
  show (!anyT pl (pairsL L)) = true ↔ _
  unfold anyT
  rw [Bool.not_eq_true', List.any_eq_false]
  constructor
  · intro h p q hp hq hF
    have := h (p, q) ((hps p q).2 ⟨hp, hq, hF⟩)
    unfold turnd at this
    simp only [decide_eq_true_eq] at this
    rw [e2 p hp, e2 q hq, if_pos (hall p hp), if_pos (hall q hq)] at this
    omega
  · rintro h ⟨p, q⟩ hm
    obtain ⟨hp, hq, hF⟩ := (hps p q).1 hm
    have := h p q hp hq hF
    unfold turnd
    simp only [decide_eq_true_eq]
    rw [e2 p hp, e2 q hq, if_pos (hall p hp), if_pos (hall q hq)]
    omega
theorem idx_before {A R : List Nat} {p q : Nat} (hp : p ∈ A) (hq : q ∉ A) : (A ++ R).idxOf p < (A ++ R).idxOf q := by
  rw [List.idxOf_append, List.idxOf_append, if_pos hp, if_neg hq]
  have := List.idxOf_lt_length_of_mem hp
  omega
theorem GlOf.blk_nodup {n : Nat} {bs : List (List Nat)} {O : List Nat} {X : List Int} {U : List Bool} (h : GlOf n bs O X U) {u : Nat} (hu : u < n) : (bs.getD u []).Nodup := by
  cases e : U.getD u false
  · rw [(h.one u hu e).1]; simp
  · rcases h.two u hu e with ⟨q, _, q2, q3, _⟩ | ⟨q, _, _, _, _, _, _, q7, _⟩
    · rw [q3]; simp [Ne.symm q2]
    · rw [q7]; simp
theorem fs_at {n : Nat} {O : List Nat} {i : Nat} (hi : i < (fsts n O).length) : ∃ u, (fsts n O)[i]? = some u ∧ (fsts n O).getD i 0 = u ∧ u < n ∧ O.getD u 0 = u := by
  refine ⟨(fsts n O)[i], List.getElem?_eq_getElem hi, by simp [List.getD_eq_getElem?_getD, hi], ?_⟩
  exact fsts_mem.1 (List.getElem_mem hi)
theorem laidU_lt {n : Nat} {bs : List (List Nat)} {O : List Nat} {X : List Int} {U : List Bool} (h : GlOf n bs O X U) {pts : List Nat} (hlt : ∀ i ∈ pts, i < (fsts n O).length) : ∀ p ∈ laidU bs (fsts n O) pts, p < n := by
  intro p hp
  unfold laidU at hp
  rw [List.mem_flatten] at hp
  obtain ⟨b, hb, hpb⟩ := hp
  obtain ⟨i, hi, rfl⟩ := List.mem_map.1 hb
  obtain ⟨u, _, u2, u3, _⟩ := fs_at (hlt i hi)
  rw [u2] at hpb
  exact (h.mem u3 hpb).1
theorem laidU_nodup {n : Nat} {bs : List (List Nat)} {O : List Nat} {X : List Int} {U : List Bool} (h : GlOf n bs O X U) : ∀ (pts : List Nat), pts.Nodup → (∀ i ∈ pts, i < (fsts n O).length) → (laidU bs (fsts n O) pts).Nodup
  | [], _, _ => by simp [laidU]
  | i :: pts, hn, hlt => by
    rw [List.nodup_cons] at hn
    have e : laidU bs (fsts n O) (i :: pts) = bs.getD ((fsts n O).getD i 0) [] ++ laidU bs (fsts n O) pts := by simp [laidU]
    obtain ⟨u, u1, u2, u3, u4⟩ := fs_at (hlt i (List.mem_cons_self ..))
    rw [e, List.nodup_append, u2]
    refine ⟨h.blk_nodup u3, laidU_nodup h pts hn.2 (fun j hj => hlt j (List.mem_cons_of_mem _ hj)), ?_⟩
    intro a ha b hb hab
    subst hab
    obtain ⟨a1, a2⟩ := h.mem u3 ha
    exact hn.1 ((laidU_mem h (fun j hj => hlt j (List.mem_cons_of_mem _ hj)) a1 u1 a2).1 hb)
theorem laidU_all {n : Nat} {bs : List (List Nat)} {O : List Nat} {X : List Int} {U : List Bool} (h : GlOf n bs O X U) {pts : List Nat} (hn : pts.Nodup) (hlt : ∀ i ∈ pts, i < (fsts n O).length) : (laidU bs (fsts n O) pts).length = n ↔ pts.length = (fsts n O).length := by
  have hln := laidU_nodup h pts hn hlt
  constructor
  · intro hl
    refine Nat.le_antisymm ?_ ?_
    · have := sub_len pts (List.range (fsts n O).length) hn (fun i hi => List.mem_range.2 (hlt i hi))
      simpa using this
    · have hall : ∀ p, p < n → p ∈ laidU bs (fsts n O) pts := by
        intro p hp
        refine Classical.byContradiction fun hnp => ?_
        have := sub_len (p :: laidU bs (fsts n O) pts) (List.range n) (List.nodup_cons.2 ⟨hnp, hln⟩) (fun x hx => by
          rcases List.mem_cons.1 hx with rfl | hx
          · exact List.mem_range.2 hp
          · exact List.mem_range.2 (laidU_lt h hlt x hx))
        simp at this
        omega
      have := sub_len (List.range (fsts n O).length) pts List.nodup_range (fun i hi => by
        obtain ⟨u, u1, u2, u3, u4⟩ := fs_at (List.mem_range.1 hi)
        exact (laidU_mem h hlt u3 u1 u4).1 (hall u u3))
      simpa using this
  · intro hl
    have hmem : ∀ i, i < (fsts n O).length → i ∈ pts := by
      intro i hi
      refine Classical.byContradiction fun hni => ?_
      have := sub_len (i :: pts) (List.range (fsts n O).length) (List.nodup_cons.2 ⟨hni, hn⟩) (fun x hx => by
        rcases List.mem_cons.1 hx with rfl | hx
        · exact List.mem_range.2 hi
        · exact List.mem_range.2 (hlt x hx))
      simp at this
      omega
    refine Nat.le_antisymm ?_ ?_
    · have := sub_len (laidU bs (fsts n O) pts) (List.range n) hln (fun x hx => List.mem_range.2 (laidU_lt h hlt x hx))
      simpa using this
    · have := sub_len (List.range n) (laidU bs (fsts n O) pts) List.nodup_range (fun p hp => by
        have hp := List.mem_range.1 hp
        obtain ⟨i, hi⟩ := h.idx hp
        exact (laidU_mem h hlt hp hi rfl).2 (hmem i (List.getElem?_eq_some_iff.1 hi).1))
      simpa using this
/-- Each is laid behind those that lead to it. -/
def TopoU (ps : List (Nat × Nat)) (pts : List Nat) : Prop := ∀ A j C, pts = A ++ j :: C → ∀ i, (i, j) ∈ ps → i ∈ A
theorem TopoU.snoc {ps : List (Nat × Nat)} {pts : List Nat} (h : TopoU ps pts) {j : Nat} (hj : ∀ i, (i, j) ∈ ps → i ∈ pts) : TopoU ps (pts ++ [j]) := by
  intro A k C e i hi
  rcases List.append_eq_append_iff.1 e with ⟨a', e1, e2⟩ | ⟨c', e1, e2⟩
  · cases a' with
    | nil =>
      simp at e2
      rw [List.append_nil] at e1
      obtain ⟨rfl, rfl⟩ := e2
      rw [e1]
      exact hj i hi
    | cons x a' =>
      simp at e2
  · cases c' with
    | nil =>
      simp at e2
      rw [List.append_nil] at e1
      obtain ⟨rfl, rfl⟩ := e2
      rw [← e1]
      exact hj i hi
    | cons x c' =>
      simp at e2
      obtain ⟨rfl, e2⟩ := e2
      exact h A k c' e1 i hi
theorem split_mem {pts : List Nat} {j : Nat} (h : j ∈ pts) (hn : pts.Nodup) : ∃ A C, pts = A ++ j :: C ∧ j ∉ A := by
  obtain ⟨A, C, e⟩ := List.append_of_mem h
  refine ⟨A, C, e, ?_⟩
  rw [e, List.nodup_append] at hn
  intro hj
  exact hn.2.2 j hj j (List.mem_cons_self ..) rfl
theorem GlOf.cases {n : Nat} {bs : List (List Nat)} {O : List Nat} {X : List Int} {U : List Bool} (h : GlOf n bs O X U) {u : Nat} (hu : u < n) (hO : O.getD u 0 = u) : bs.getD u [] = [u] ∨ ∃ x, bs.getD u [] = [u, x] ∧ X.getD u 0 = (x : Int) ∧ x ≠ u ∧ x < n ∧ O.getD x 0 = u := by
  cases e : U.getD u false
  · exact Or.inl (h.one u hu e).1
  · rcases h.two u hu e with ⟨q, q1, q2, q3, q4, q5, q6, q7, q8, q9⟩ | ⟨q, q1, q2, q3, q4, q5, q6, q7, q8, q9⟩
    · exact Or.inr ⟨q, q3, q5, q2, q1, q8⟩
    · rw [q8] at hO
      exact absurd hO q2
theorem laidU_app (bs : List (List Nat)) (fs A C : List Nat) (j : Nat) : laidU bs fs (A ++ j :: C) = laidU bs fs A ++ (bs.getD (fs.getD j 0) [] ++ laidU bs fs C) := by simp [laidU]
theorem inner_before {n : Nat} {bs : List (List Nat)} {O : List Nat} {X : List Int} {U : List Bool} (h : GlOf n bs O X U) {pts : List Nat} (hn : pts.Nodup) (hlt : ∀ i ∈ pts, i < (fsts n O).length) {i u x : Nat} (hi : i ∈ pts) (hu : (fsts n O)[i]? = some u) (hb : bs.getD u [] = [u, x]) (hx : x ≠ u) (hxn : x < n) (hO : O.getD x 0 = u) : (laidU bs (fsts n O) pts).idxOf u < (laidU bs (fsts n O) pts).idxOf x := by
  obtain ⟨A, C, e, hA⟩ := split_mem hi hn
  have hltA : ∀ j ∈ A, j < (fsts n O).length := fun j hj => hlt j (by rw [e]; exact List.mem_append_left _ hj)
  have hg : (fsts n O).getD i 0 = u := by rw [List.getD_eq_getElem?_getD, hu]; rfl
  rw [e, laidU_app, hg, hb]
  have e2 : laidU bs (fsts n O) A ++ ([u, x] ++ laidU bs (fsts n O) C) = (laidU bs (fsts n O) A ++ [u]) ++ (x :: laidU bs (fsts n O) C) := by simp
  rw [e2]
  refine idx_before (by simp) ?_
  intro hm
  rcases List.mem_append.1 hm with hm | hm
  · exact hA ((laidU_mem h hltA hxn hu hO).1 hm)
  · simp at hm
    exact hx hm
theorem lin_true {L : List Nat} {bs : List (List Nat)} {O : List Nat} {X : List Int} {U : List Bool} (h : GlOf L.length bs O X U) {F : Nat → Nat → Bool} (hps : ∀ p q, (p, q) ∈ pairsL L ↔ p < L.length ∧ q < L.length ∧ F p q = true) (hgood : ∀ u, u < L.length → SmU L.length F O X u u = false) {pts : List Nat} (hn : pts.Nodup) (hlt : ∀ i ∈ pts, i < (fsts L.length O).length) (hl : pts.length = (fsts L.length O).length) {ps' : List (Nat × Nat)} (hps' : ∀ i j, i < (fsts L.length O).length → j < (fsts L.length O).length → BF (blkK L.length (bs.filter (fun b => !b.isEmpty)) (bs.filter (fun b => !b.isEmpty)).length) (pairsL L) i j = true → (i, j) ∈ ps') (hT : TopoU ps' pts) : linB L (toI (laidU bs (fsts L.length O) pts)) = true := by
  have hln := laidU_nodup h pts hn hlt
  have hll := (laidU_all h hn hlt).2 hl
  have hpm : ∀ i, i < (fsts L.length O).length → i ∈ pts := by
    intro i hi
    refine Classical.byContradiction fun hni => ?_
    have := sub_len (i :: pts) (List.range (fsts L.length O).length) (List.nodup_cons.2 ⟨hni, hn⟩) (fun x hx => by
      rcases List.mem_cons.1 hx with rfl | hx
      · exact List.mem_range.2 hi
      · exact List.mem_range.2 (hlt x hx))
    simp at this
    omega
  refine (lin_iff hps hln (laidU_lt h hlt) hll (fun p hp => ?_)).2 ?_
  · obtain ⟨i, hi⟩ := h.idx hp
    exact (laidU_mem h hlt hp hi rfl).2 (hpm i (List.getElem?_eq_some_iff.1 hi).1)
  · intro p q hp hq hF
    obtain ⟨i, hi⟩ := h.idx hp
    obtain ⟨j, hj⟩ := h.idx hq
    have hil := (List.getElem?_eq_some_iff.1 hi).1
    have hjl := (List.getElem?_eq_some_iff.1 hj).1
    by_cases hO : O.getD p 0 = O.getD q 0
    · have hX : X.getD p 0 = (q : Int) := by
        refine Classical.byContradiction fun hne => ?_
        have hg := hgood (O.getD p 0) (h.unit hp).1
        rw [SmU_iff.2 ⟨p, q, hp, hq, hF, hne, rfl, hO.symm⟩] at hg
        cases hg
      obtain ⟨e1, e2, e3, e4, e5⟩ := h.nx hp hX
      rw [e1] at hi
      exact inner_before h hn hlt (hpm i hil) hi e5 e3 hq e2
    · have hB := (BF_iff h hps hi hj).2 ⟨hO, p, q, hp, hq, hF, rfl, rfl⟩
      obtain ⟨A, C, e, hA⟩ := split_mem (hpm j hjl) hn
      have hltA : ∀ k ∈ A, k < (fsts L.length O).length := fun k hk => hlt k (by rw [e]; exact List.mem_append_left _ hk)
      have hiA := hT A j C e i (hps' i j hil hjl hB)
      rw [e, laidU_app]
      exact idx_before ((laidU_mem h hltA hp hi rfl).2 hiA) (fun hm => hA ((laidU_mem h hltA hq hj rfl).1 hm))
theorem lin_false {L : List Nat} {bs : List (List Nat)} {O : List Nat} {X : List Int} {U : List Bool} (h : GlOf L.length bs O X U) {F : Nat → Nat → Bool} (hps : ∀ p q, (p, q) ∈ pairsL L ↔ p < L.length ∧ q < L.length ∧ F p q = true) {u : Nat} (hbad : SmU L.length F O X u u = true) {pts : List Nat} (hn : pts.Nodup) (hlt : ∀ i ∈ pts, i < (fsts L.length O).length) (hl : pts.length = (fsts L.length O).length) : linB L (toI (laidU bs (fsts L.length O) pts)) = false := by
  have hln := laidU_nodup h pts hn hlt
  have hll := (laidU_all h hn hlt).2 hl
  have hpm : ∀ i, i < (fsts L.length O).length → i ∈ pts := by
    intro i hi
    refine Classical.byContradiction fun hni => ?_
    have := sub_len (i :: pts) (List.range (fsts L.length O).length) (List.nodup_cons.2 ⟨hni, hn⟩) (fun x hx => by
      rcases List.mem_cons.1 hx with rfl | hx
      · exact List.mem_range.2 hi
      · exact List.mem_range.2 (hlt x hx))
    simp at this
    omega
  rw [Bool.eq_false_iff]
  intro hlin
  have key := (lin_iff hps hln (laidU_lt h hlt) hll (fun p hp => by
    obtain ⟨i, hi⟩ := h.idx hp
    exact (laidU_mem h hlt hp hi rfl).2 (hpm i (List.getElem?_eq_some_iff.1 hi).1))).1 hlin
  obtain ⟨p, q, hp, hq, hF, hX, hOp, hOq⟩ := SmU_iff.1 hbad
  have h1 := key p q hp hq hF
  obtain ⟨u1, u2, u3, _⟩ := h.unit hp
  rw [hOp] at u1 u2 u3
  have u4 := (h.unit hq).2.2.1
  rw [hOq] at u4
  obtain ⟨i, hi⟩ := h.idx hp
  rw [hOp] at hi
  have hil := (List.getElem?_eq_some_iff.1 hi).1
  rcases h.cases u1 u2 with hb | ⟨x, hb, hx1, hx2, hx3, hx4⟩
  · rw [hb] at u3 u4
    simp at u3 u4
    subst u3
    subst u4
    omega
  · rw [hb] at u3 u4
    simp at u3 u4
    have hin := inner_before h hn hlt (hpm i hil) hi hb hx2 hx3 hx4
    rcases u3 with rfl | rfl
    · rcases u4 with rfl | rfl
      · omega
      · exact hX hx1
    · rcases u4 with rfl | rfl
      · omega
      · omega
theorem fz_zero {n : Nat} {ps : List (Nat × Nat)} {pts : List Nat} {p : Nat} (h : fz (wAll n ps pts) = (p : Int)) : p < n ∧ wAt ps pts p = 0 := by
  obtain ⟨q, h1, h2, h3⟩ := fz_range (l := wAll n ps pts) (by omega)
  obtain rfl : q = p := by omega
  rw [wAll_length] at h2
  rw [wAll_at _ _ h2] at h3
  exact ⟨h2, Option.some.inj h3⟩
theorem wAt_zero {ps : List (Nat × Nat)} {pts : List Nat} {p : Nat} (h : wAt ps pts p = 0) : p ∉ pts ∧ ∀ i, (i, p) ∈ ps → i ∈ pts := by
  refine ⟨fun hm => wAt_pos hm h, fun i hi => ?_⟩
  refine Classical.byContradiction fun hn => ?_
  unfold wAt at h
  have hm : (i, p) ∈ ps.filter (fun x => x.2 == p && !pts.contains x.1) := by
    rw [List.mem_filter]
    refine ⟨hi, ?_⟩
    simp [hn]
  have := List.length_pos_of_mem hm
  split at h <;> omega
theorem srt_good (n : Nat) (ps : List (Nat × Nat)) : ∀ (f : Nat) (pts : List Nat), pts.Nodup → (∀ i ∈ pts, i < n) → TopoU ps pts → (srt n ps f pts).Nodup ∧ (∀ i ∈ srt n ps f pts, i < n) ∧ TopoU ps (srt n ps f pts)
  | 0, pts, h1, h2, h3 => ⟨h1, h2, h3⟩
  | f + 1, pts, h1, h2, h3 => by
    unfold srt
    split
    · rename_i hf
      obtain ⟨p, e, _⟩ := fz_range hf
      obtain ⟨hp, hz⟩ := fz_zero e
      obtain ⟨hn, ht⟩ := wAt_zero hz
      rw [e, Int.toNat_natCast]
      refine srt_good n ps f (pts ++ [p]) ?_ ?_ (h3.snoc ht)
      · rw [List.nodup_append]
        refine ⟨h1, by simp, ?_⟩
        intro a ha b hb hab
        simp at hb
        subst hb
        subst hab
        exact hn ha
      · intro i hi
        rcases List.mem_append.1 hi with hi | hi
        · exact h2 i hi
        · simp at hi
          omega
    · exact ⟨h1, h2, h3⟩
theorem sortOf_good (L : List Nat) : (sortOf L).Nodup ∧ (∀ i ∈ sortOf L, i < L.length) ∧ TopoU (pairsL L) (sortOf L) :=
  srt_good _ _ _ _ List.nodup_nil (fun i hi => absurd hi (by simp)) (fun A j C e => absurd e (by simp))
/-- What the program lays, told by the units. -/
theorem sb_laid {L : List Nat} {bs : List (List Nat)} {O : List Nat} {X : List Int} {U : List Bool} (h : GlOf L.length bs O X U) : (sbOf L (bs.filter (fun b => !b.isEmpty))).flatten = laidU bs (fsts L.length O) (sortOf (betw L (bs.filter (fun b => !b.isEmpty)))) := by
  unfold sbOf laidU
  have hlen : (betw L (bs.filter (fun b => !b.isEmpty))).length = (fsts L.length O).length := by rw [betw_length, h.blocks, List.length_map]
  have hb := h.blocks
  congr 1
  apply List.map_congr_left
  intro i hi
  have hil := (sortOf_good _).2.1 i hi
  rw [hlen] at hil
  rw [hb]
  simp [List.getD_eq_getElem?_getD, hil]
theorem pairs_of {L : List Nat} {F : Nat → Nat → Bool} (hT : TwO L.length F L) (hn : L.length ≤ 256) (hlow : ∀ R ∈ L, R < 2 ^ L.length) (p q : Nat) : (p, q) ∈ pairsL L ↔ p < L.length ∧ q < L.length ∧ F p q = true := by
  constructor
  · intro hm
    have hl := pairsL_lt hlow _ hm
    exact ⟨hl.1, hl.2, (hT.pairs hn hlow hl.1 hl.2).2 hm⟩
  · rintro ⟨hp, hq, hF⟩
    exact (hT.pairs hn hlow hp hq).1 hF
theorem putP_lowU {A : List Nat} (h : ∀ R ∈ A, R < 2 ^ A.length) (a b : Int) (v : Bool) : ∀ R ∈ putP A a b v, R < 2 ^ A.length := by
  unfold putP
  split
  · rename_i hin
    rw [Bool.and_eq_true] at hin
    have i2 := of_decide_eq_true hin.2
    intro R hR
    rcases List.mem_or_eq_of_mem_set hR with hR | rfl
    · exact h R hR
    · exact setB_lt (gr_lt h) (by omega)
  · exact h
theorem btK_low (B : List Int) (m : Nat) (ps : List (Nat × Nat)) : ∀ R ∈ btK B m ps, R < 2 ^ m := by
  have key : ∀ k, k ≤ ps.length → ∀ R ∈ btK B m (ps.take k), R < 2 ^ m := by
    intro k
    induction k with
    | zero =>
      intro _ R hR
      simp [btK] at hR
      rw [hR.2]
      exact Nat.two_pow_pos _
    | succ k ih =>
      intro hk
      have ih := ih (by omega)
      have e : ps.take (k + 1) = ps.take k ++ [ps[k]] := by rw [List.take_append_getElem]
      rw [e, btK_snoc]
      split
      · exact ih
      · have hl := btK_length B m (ps.take k)
        have := putP_lowU (A := btK B m (ps.take k)) (by rw [hl]; exact ih) (B.getD ps[k].1 0) (B.getD ps[k].2 0) true
        rw [hl] at this
        exact this
  have := key ps.length (Nat.le_refl _)
  rw [List.take_length] at this
  exact this
theorem betw_low (L : List Nat) (bs : List (List Nat)) : ∀ R ∈ betw L bs, R < 2 ^ (betw L bs).length := by
  rw [betw_length]
  exact btK_low _ _ _
theorem betw_two (L : List Nat) (bs : List (List Nat)) : TwO (betw L bs).length (BF (blkK L.length bs bs.length) (pairsL L)) (betw L bs) := by
  rw [betw_length]
  exact twO_btK _ _ _
/-- What the program's Glue answers, told by the units. -/
theorem glue_good {L : List Nat} {l : List (Int × Int)} {bs : List (List Nat)} {O : List Nat} {X : List Int} {U : List Bool} {F : Nat → Nat → Bool} (hgl : gluF L.length l (glInit L.length) = some bs) (h : GlOf L.length bs O X U) (hT : TwO L.length F L) (hn : L.length ≤ 256) (hlow : ∀ R ∈ L, R < 2 ^ L.length) (hgood : ∀ u, u < L.length → SmU L.length F O X u u = false) :
    glueF L l = if (sortOf (betw L (bs.filter (fun b => !b.isEmpty)))).length = (fsts L.length O).length then (laidU bs (fsts L.length O) (sortOf (betw L (bs.filter (fun b => !b.isEmpty)))), 0) else ([], 3) := by
  have hps := fun p q => pairs_of hT hn hlow p q
  have hbl : (bs.filter (fun b => !b.isEmpty)).length = (fsts L.length O).length := by rw [h.blocks, List.length_map]
  have hfl : (fsts L.length O).length ≤ L.length := by
    have := List.length_filter_le (fun p => O.getD p 0 == p) (List.range L.length)
    rw [List.length_range] at this
    exact this
  have hglB : glB L l = some (bs.filter (fun b => !b.isEmpty)) := by unfold glB; rw [hgl]; rfl
  unfold glueF
  rw [hglB]
  show (if (sortOf (betw L (bs.filter (fun b => !b.isEmpty)))).length = (bs.filter (fun b => !b.isEmpty)).length then _ else _) = _
  rw [hbl]
  by_cases hl : (sortOf (betw L (bs.filter (fun b => !b.isEmpty)))).length = (fsts L.length O).length
  · rw [if_pos hl, if_pos hl, sb_laid h]
    obtain ⟨g1, g2, g3⟩ := sortOf_good (betw L (bs.filter (fun b => !b.isEmpty)))
    rw [betw_length, hbl] at g2
    have := lin_true h hps hgood g1 g2 hl (ps' := pairsL (betw L (bs.filter (fun b => !b.isEmpty)))) (fun i j hi hj hB => by
      have hbw := betw_two L (bs.filter (fun b => !b.isEmpty))
      have hle : (betw L (bs.filter (fun b => !b.isEmpty))).length = (fsts L.length O).length := by rw [betw_length, hbl]
      exact (hbw.pairs (by omega) (betw_low _ _) (by omega) (by omega)).1 hB) g3
    rw [if_pos this]
  · rw [if_neg hl, if_neg hl]
theorem glue_bad {L : List Nat} {l : List (Int × Int)} {bs : List (List Nat)} {O : List Nat} {X : List Int} {U : List Bool} {F : Nat → Nat → Bool} (hgl : gluF L.length l (glInit L.length) = some bs) (h : GlOf L.length bs O X U) (hT : TwO L.length F L) (hn : L.length ≤ 256) (hlow : ∀ R ∈ L, R < 2 ^ L.length) {u : Nat} (hbad : SmU L.length F O X u u = true) : glueF L l = ([], 3) := by
  have hps := fun p q => pairs_of hT hn hlow p q
  have hbl : (bs.filter (fun b => !b.isEmpty)).length = (fsts L.length O).length := by rw [h.blocks, List.length_map]
  have hglB : glB L l = some (bs.filter (fun b => !b.isEmpty)) := by unfold glB; rw [hgl]; rfl
  unfold glueF
  rw [hglB]
  show (if (sortOf (betw L (bs.filter (fun b => !b.isEmpty)))).length = (bs.filter (fun b => !b.isEmpty)).length then _ else _) = _
  rw [hbl]
  by_cases hl : (sortOf (betw L (bs.filter (fun b => !b.isEmpty)))).length = (fsts L.length O).length
  · obtain ⟨g1, g2, g3⟩ := sortOf_good (betw L (bs.filter (fun b => !b.isEmpty)))
    rw [betw_length, hbl] at g2
    have := lin_false h hps hbad g1 g2 hl
    rw [if_pos hl, sb_laid h, this, if_neg Bool.false_ne_true]
  · rw [if_neg hl]
theorem GlOf.cases2 {n : Nat} {bs : List (List Nat)} {O : List Nat} {X : List Int} {U : List Bool} (h : GlOf n bs O X U) {u : Nat} (hu : u < n) (hO : O.getD u 0 = u) : (bs.getD u [] = [u] ∧ X.getD u 0 = -1) ∨ ∃ x, bs.getD u [] = [u, x] ∧ X.getD u 0 = (x : Int) ∧ x ≠ u ∧ x < n ∧ O.getD x 0 = u := by
  cases e : U.getD u false
  · have := h.one u hu e
    exact Or.inl ⟨this.1, this.2.2⟩
  · rcases h.two u hu e with ⟨q, q1, q2, q3, q4, q5, q6, q7, q8, q9⟩ | ⟨q, q1, q2, q3, q4, q5, q6, q7, q8, q9⟩
    · exact Or.inr ⟨q, q3, q5, q2, q1, q8⟩
    · rw [q8] at hO
      exact absurd hO q2
/-- The reference is stuck: so is the program. -/
theorem glue_stuck {L : List Nat} {l : List (Int × Int)} {bs : List (List Nat)} {O : List Nat} {X : List Int} {U : List Bool} {F : Nat → Nat → Bool} (hgl : gluF L.length l (glInit L.length) = some bs) (h : GlOf L.length bs O X U) (hT : TwO L.length F L) (hn : L.length ≤ 256) (hlow : ∀ R ∈ L, R < 2 ^ L.length) {pts : List Nat} (hsr : (∀ u, u < L.length → SmU L.length F O X u u = false) → SrtAt (betw L (bs.filter (fun b => !b.isEmpty))) pts.length pts) (hlt : pts.length < (fsts L.length O).length)
    (hfz : (∀ u, u < L.length → SmU L.length F O X u u = false) → fz (wAll (betw L (bs.filter (fun b => !b.isEmpty))).length (pairsL (betw L (bs.filter (fun b => !b.isEmpty)))) pts) < 0) : glueF L l = ([], 3) := by
  by_cases hgood : ∀ u, u < L.length → SmU L.length F O X u u = false
  · have hbl : (betw L (bs.filter (fun b => !b.isEmpty))).length = (fsts L.length O).length := by rw [betw_length, h.blocks, List.length_map]
    have hst := (hsr hgood).stuck (by omega) (hfz hgood)
    rw [glue_good hgl h hT hn hlow hgood, if_neg (by rw [← hbl]; exact hst)]
  · obtain ⟨u, hu⟩ := Classical.not_forall.1 hgood
    have hu2 : u < L.length ∧ ¬ SmU L.length F O X u u = false := Classical.not_imp.1 hu
    exact glue_bad hgl h hT hn hlow (by simpa using hu2.2)
/-- The reference has laid all: so has the program. -/
theorem glue_full {L : List Nat} {l : List (Int × Int)} {bs : List (List Nat)} {O : List Nat} {X : List Int} {U : List Bool} {F : Nat → Nat → Bool} (hgl : gluF L.length l (glInit L.length) = some bs) (h : GlOf L.length bs O X U) (hT : TwO L.length F L) (hn : L.length ≤ 256) (hlow : ∀ R ∈ L, R < 2 ^ L.length) {pts : List Nat} (hnd : pts.Nodup) (hlt : ∀ i ∈ pts, i < (fsts L.length O).length) (hok : ∀ i ∈ pts, ∀ u, (fsts L.length O)[i]? = some u → SmU L.length F O X u u = false) (hsr : (∀ u, u < L.length → SmU L.length F O X u u = false) → SrtAt (betw L (bs.filter (fun b => !b.isEmpty))) pts.length pts) (hl : L.length ≤ (laidU bs (fsts L.length O) pts).length) : glueF L l = (laidU bs (fsts L.length O) pts, 0) := by
  have hle := sub_len (laidU bs (fsts L.length O) pts) (List.range L.length) (laidU_nodup h pts hnd hlt) (fun x hx => List.mem_range.2 (laidU_lt h hlt x hx))
  rw [List.length_range] at hle
  have hpl := (laidU_all h hnd hlt).1 (by omega)
  have hbl : (betw L (bs.filter (fun b => !b.isEmpty))).length = (fsts L.length O).length := by rw [betw_length, h.blocks, List.length_map]
  have hgood : ∀ u, u < L.length → SmU L.length F O X u u = false := by
    intro u hu
    rw [Bool.eq_false_iff]
    intro hbad
    obtain ⟨p, q, hp, hq, _, _, hOp, _⟩ := SmU_iff.1 hbad
    obtain ⟨i, hi⟩ := h.idx hp
    rw [hOp] at hi
    have hil := (List.getElem?_eq_some_iff.1 hi).1
    have him : i ∈ pts := by
      refine Classical.byContradiction fun hni => ?_
      have := sub_len (i :: pts) (List.range (fsts L.length O).length) (List.nodup_cons.2 ⟨hni, hnd⟩) (fun x hx => by
        rcases List.mem_cons.1 hx with rfl | hx
        · exact List.mem_range.2 hil
        · exact List.mem_range.2 (hlt x hx))
      simp at this
      omega
    rw [hok i him u hi] at hbad
    cases hbad
  have hs := hsr hgood
  rw [hpl, ← hbl] at hs
  rw [glue_good hgl h hT hn hlow hgood, hs.full, if_pos hpl]
/-- The least unit that may come, as the reference looks for it. -/
def LeastP (P : Nat → Bool) (n k : Nat) (nx : Int) : Prop := (nx = -1 ∧ ∀ q, k ≤ q → q < n → P q = false) ∨ ∃ p : Nat, nx = (p : Int) ∧ k ≤ p ∧ p < n ∧ P p = true ∧ ∀ q, k ≤ q → q < p → P q = false
theorem LeastP.no {P : Nat → Bool} {n k : Nat} {nx : Int} (h : LeastP P n (k + 1) nx) (hf : P k = false) : LeastP P n k nx := by
  rcases h with ⟨rfl, h⟩ | ⟨p, rfl, h1, h2, h3, h4⟩
  · refine .inl ⟨rfl, fun q hq hn => ?_⟩
    by_cases e : q = k
    · subst e; exact hf
    · exact h q (by omega) hn
  · refine .inr ⟨p, rfl, by omega, h2, h3, fun q hq hp => ?_⟩
    by_cases e : q = k
    · subst e; exact hf
    · exact h4 q (by omega) hp
theorem LeastP.yes {P : Nat → Bool} {n k : Nat} (hk : k < n) (hf : P k = true) : LeastP P n k (k : Int) := .inr ⟨k, rfl, Nat.le_refl _, hk, hf, fun q h1 h2 => by omega⟩
theorem LeastP.start (P : Nat → Bool) (n : Nat) : LeastP P n n (-1) := .inl ⟨rfl, fun q h1 h2 => by omega⟩
/-- The reference's choice is the program's. -/
theorem least_same {L : List Nat} {bs : List (List Nat)} {O : List Nat} {X : List Int} {U : List Bool} {F : Nat → Nat → Bool} (h : GlOf L.length bs O X U) (hT : TwO L.length F L) (hn : L.length ≤ 256) (hlow : ∀ R ∈ L, R < 2 ^ L.length) (hgood : ∀ u, u < L.length → SmU L.length F O X u u = false) {pts : List Nat} (hlt : ∀ i ∈ pts, i < (fsts L.length O).length) {nx : Int}
    (hl : LeastP (fun p => O.getD p 0 == p && freeF L.length (SmU L.length F O X) (doneL L.length (laidU bs (fsts L.length O) pts)) p) L.length 0 nx) :
    (nx = -1 ∧ fz (wAll (betw L (bs.filter (fun b => !b.isEmpty))).length (pairsL (betw L (bs.filter (fun b => !b.isEmpty)))) pts) < 0) ∨ (∃ (j u : Nat), nx = (u : Int) ∧ (fsts L.length O)[j]? = some u ∧ fz (wAll (betw L (bs.filter (fun b => !b.isEmpty))).length (pairsL (betw L (bs.filter (fun b => !b.isEmpty)))) pts) = (j : Int)) := by
  have hps := fun p q => pairs_of hT hn hlow p q
  have hbl : (betw L (bs.filter (fun b => !b.isEmpty))).length = (fsts L.length O).length := by rw [betw_length, h.blocks, List.length_map]
  have hfl : (fsts L.length O).length ≤ L.length := by
    have := List.length_filter_le (fun p => O.getD p 0 == p) (List.range L.length)
    rw [List.length_range] at this
    exact this
  have hbw := betw_two L (bs.filter (fun b => !b.isEmpty))
  have hfree : ∀ j u, (fsts L.length O)[j]? = some u → freeF L.length (SmU L.length F O X) (doneL L.length (laidU bs (fsts L.length O) pts)) u = freeF (betw L (bs.filter (fun b => !b.isEmpty))).length (BF (blkK L.length (bs.filter (fun b => !b.isEmpty)) (bs.filter (fun b => !b.isEmpty)).length) (pairsL L)) (doneL (betw L (bs.filter (fun b => !b.isEmpty))).length pts) j := by
    intro j u hj
    rw [hbl]
    exact free_same h hps hlt hj (hgood u (fsts_mem.1 (List.mem_of_getElem? hj)).1)
  rcases hl with ⟨rfl, h1⟩ | ⟨u, rfl, _, hu, h3, h4⟩
  · refine Or.inl ⟨rfl, ?_⟩
    have : LeastF (betw L (bs.filter (fun b => !b.isEmpty))).length (BF (blkK L.length (bs.filter (fun b => !b.isEmpty)) (bs.filter (fun b => !b.isEmpty)).length) (pairsL L)) (doneL (betw L (bs.filter (fun b => !b.isEmpty))).length pts) 0 (-1) := by
      refine .inl ⟨rfl, fun q _ hq => ?_⟩
      obtain ⟨u, u1, u2, u3, u4⟩ := fs_at (n := L.length) (O := O) (i := q) (by omega)
      have := h1 u (Nat.zero_le _) u3
      simp only [] at this
      rw [u4, beq_self_eq_true, Bool.true_and, hfree q u u1] at this
      exact this
    have e := LeastF.fz hbw (by omega) (betw_low _ _) this
    omega
  · simp only [] at h3 h4
    rw [Bool.and_eq_true, beq_iff_eq] at h3
    obtain ⟨j, hj⟩ := List.getElem?_of_mem (fsts_mem.2 ⟨hu, h3.1⟩)
    have hjl := (List.getElem?_eq_some_iff.1 hj).1
    refine Or.inr ⟨j, u, rfl, hj, ?_⟩
    have : LeastF (betw L (bs.filter (fun b => !b.isEmpty))).length (BF (blkK L.length (bs.filter (fun b => !b.isEmpty)) (bs.filter (fun b => !b.isEmpty)).length) (pairsL L)) (doneL (betw L (bs.filter (fun b => !b.isEmpty))).length pts) 0 (j : Int) := by
      refine .inr ⟨j, rfl, Nat.zero_le _, by omega, by rw [← hfree j u hj]; exact h3.2, fun q _ hq => ?_⟩
      obtain ⟨u', u1, u2, u3, u4⟩ := fs_at (n := L.length) (O := O) (i := q) (by omega)
      have hlt' := (rise_lt (fsts_rise L.length O) u1 hj).1 hq
      have := h4 u' (Nat.zero_le _) hlt'
      rw [u4, beq_self_eq_true, Bool.true_and, hfree q u' u1] at this
      exact this
    exact (LeastF.fz hbw (by omega) (betw_low _ _) this).symm
end Go.Proofs.YtijjogpldoafjabDoor
