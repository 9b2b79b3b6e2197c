/- slices.DeleteFunc at lists of lists, with order's own test. -/
import Derived.Test.YtmmgdeoballhpaaDoorJ12
import Derived.Shelf.SlicesE.DeleteFunc
import Derived.Ground.SlgfProg
import Derived.Test.YtmmgdeoballhpaaDoorJ08
namespace Go.Proofs
open Go.Shelf
def Tryd.laysDel_ren : Go.Shelf.Ren := ⟨fun | 10 => 82 | 6 => 94 | n => n, fun | 22 => 25 | 23 => 29 | 25 => 102 | 3 => 3 | 4 => 4 | 0 => 0 | n => n, fun | n => n⟩
theorem Tryd.laysDel : Go.Proofs.SlLaysH.n10 Tryd.prog Tryd.laysDel_ren := {
  mixed := by kernel_rfl
  f6 := ⟨Tryd.f94.name, by decide, Tryd.func94.trans (congrArg some (by kernel_rfl))⟩
  f10 := ⟨Tryd.f82.name, by decide, Tryd.func82.trans (congrArg some (by kernel_rfl))⟩
  t0 := Tryd.underlying0
  a0 := Tryd.isAgg0
  z0 := Tryd.sizeOf0
  v0 := Tryd.zeroValue0
  t3 := Tryd.underlying3
  a3 := Tryd.isAgg3
  z3 := Tryd.sizeOf3
  v3 := Tryd.zeroValue3
  t4 := Tryd.underlying4
  a4 := Tryd.isAgg4
  z4 := Tryd.sizeOf4
  v4 := Tryd.zeroValue4
  t22 := Tryd.underlying25
  a22 := Tryd.isAgg25
  z22 := Tryd.sizeOf25
  v22 := Tryd.zeroValue25
  a23 := Tryd.isAgg29
  z23 := Tryd.sizeOf29
  t25 := Tryd.underlying102
  a25 := Tryd.isAgg102
  z25 := Tryd.sizeOf102
  v25 := Tryd.zeroValue102 }
end Go.Proofs
namespace Go.Proofs.YtmmgdeoballhpaaDoor
open Go.RowKit Go.Shelf Go.Lib Go.Sort Sx

/-- A slice's three parts. -/
abbrev SV := Option Addr × Nat × Nat
def encS (x : SV) : Value := .slice x.1 x.2.1 x.2.2
def emptyS (x : SV) : Bool := x.2.1 == 0
theorem glued2_gives (x : SV) (W : World) : FnGives Tryd.prog 83 #[] #[encS x] (.bool (emptyS x)) W := by
  obtain ⟨a, n, c⟩ := x
  show Calls Tryd.prog 83 #[.slice a n c] W _
  have e : emptyS (a, n, c) = ((n : Int) == 0) := by
    show (n == 0) = _
    rw [Bool.eq_iff_iff]; simp
  rw [e]
  go_enter Tryd.func83, Tryd.ntmps83
  go_wp2
  go_ret
  exact ⟨rfl, 0, rfl⟩
theorem zero_ints (w : World) : (zeroValue 29).run Tryd.prog w = .ok (encS (none, 0, 0)) w := by kernel_rfl
theorem slDel_calls (blk off cap : Nat) (d : Array SV) (w : World) (hH : Holds encS w blk off d) (hsz : d.size ≤ 9223372036854775807) (hcap : d.size ≤ cap) :
    Calls Tryd.prog 82 #[.slice (some ⟨blk, off, none⟩) d.size cap, .func (.func 83) #[] #[]] w fun e w' => e = .returned (.slice (some ⟨blk, off, none⟩) (d.toList.filter fun x => !emptyS x).length cap) ∧ ∃ q, w' = putRow encS (Sort.ahead w q) blk off ((d.toList.filter fun x => !emptyS x) ++ List.replicate (d.size - (d.toList.filter fun x => !emptyS x).length) (none, 0, 0)).toArray :=
  AnyE.slices_DeleteFunc Tryd.laysDel encS (fun _ => rfl) emptyS 83 #[] (enters_of Tryd.func83 (by kernel_rfl) rfl) (none, 0, 0) zero_ints blk off cap d w
    (fun W x _ => glued2_gives x W) (fun n os dk x _ => glued2_gives x _) hH hsz hcap
end Go.Proofs.YtmmgdeoballhpaaDoor
/- Package order's glued: its memory, free. -/
namespace Go.Proofs.YtmmgdeoballhpaaDoor
open Go.RowKit Go.Shelf Sx

/-- A slice of numbers that fills its block, or nil. -/
def BlkS (w : World) (x : SV) (bl : List Nat) : Prop := (bl = [] ∧ x = (none, 0, 0)) ∨ ∃ s, x = (some ⟨s, 0, none⟩, bl.length, bl.length) ∧ Blk w s 3 (intsA (toI bl))
theorem BlkS.len {w : World} {x : SV} {bl : List Nat} (h : BlkS w x bl) : x.2.1 = bl.length := by
  rcases h with ⟨rfl, rfl⟩ | ⟨s, rfl, _⟩ <;> rfl
theorem BlkS.mono {w w' : World} {x : SV} {bl : List Nat} (h : BlkS w x bl) (hb : ∀ s cs, Blk w s 3 cs → Blk w' s 3 cs) : BlkS w' x bl := by
  rcases h with h | ⟨s, e, h⟩
  · exact .inl h
  · exact .inr ⟨s, e, hb s _ h⟩
theorem BlkS.ints {w : World} {x : SV} {bl : List Nat} (h : BlkS w x bl) : IntsR w (encS x) (toI bl) := by
  rcases h with ⟨rfl, rfl⟩ | ⟨s, rfl, h⟩
  · exact .inl ⟨_, _, rfl, rfl⟩
  · exact .inr ⟨s, 0, bl.length, by rw [toI_length]; rfl, h.lt, fun i x hx => by rw [Nat.zero_add]; exact h.cellI hx⟩
/-- Blocks while they are glued: the row that the box holds, and its lists. -/
structure GlR (w : World) (base : Nat) (v : Value) (vs : List SV) (bs : List (List Nat)) : Prop where
  own : w.ownsRow base 29 1 v vs.length (vs.map encS)
  len : vs.length = bs.length
  row : ∀ (i : Nat) (x : SV) (bl : List Nat), vs[i]? = some x → bs[i]? = some bl → BlkS w x bl
/-- Blocks of ints are as they were. -/
def KeepI (w w' : World) : Prop := ∀ s cs, Blk w s 3 cs → Blk w' s 3 cs
theorem KeepI.trans {a b c : World} (h : KeepI a b) (k : KeepI b c) : KeepI a c := fun s cs hs => k s cs (h s cs hs)
theorem KeepI.of_below {w w' : World} (h : Below w.heap.size w w') : KeepI w w' := fun _ _ hs => hs.of_below h
theorem KeepI.set {w : World} {g : Nat} {t : TypeId} {cs : Array Value} (hg : Blk w g t cs) (ht : t ≠ 3) (j : Nat) (v : Value) : KeepI w (w.setCell ⟨g, j, none⟩ v) := fun s c hs => hs.setOther (fun e => by
  have e : s = g := e
  subst e
  have h1 : w.heap[s]? = some (.cells cs t (0, 0)) := hg
  rw [show w.heap[s]? = _ from hs] at h1
  simp at h1
  exact ht h1.2.symm) v
theorem KeepI.grown {w w' : World} {base n : Nat} {v : Value} {xs : List Value} (ho : w.ownsRow base 29 1 v n xs) (hg : w.grownBy w' v.ownBlock) : KeepI w w' := fun s cs hs => (hg.block s hs.lt (fun e => by
  rcases ho.2 with ⟨rfl, _⟩ | ⟨g, cap, cur, rfl, _, hb, _⟩
  · cases e
  · simp [Value.ownBlock] at e
    subst e
    rw [show w.heap[s]? = _ from hs] at hb
    simp at hb)).trans hs
theorem GlR.step {w w' : World} {base : Nat} {v : Value} {vs : List SV} {bs : List (List Nat)} (h : GlR w base v vs bs) (hb : Below w.heap.size w w') : GlR w' base v vs bs :=
  ⟨owns_below' h.own hb, h.len, fun i x bl h1 h2 => (h.row i x bl h1 h2).mono (KeepI.of_below hb)⟩
/-- A cell of the row. -/
theorem GlR.cell {w : World} {base : Nat} {v : Value} {vs : List SV} {bs : List (List Nat)} (h : GlR w base v vs bs) {i : Nat} (hi : i < bs.length) : ∃ g cap x bl, v = .slice (some ⟨g, 0, none⟩) bs.length cap ∧ base ≤ g ∧ g < w.heap.size ∧ vs[i]? = some x ∧ bs[i]? = some bl ∧ w.cell? ⟨g, i, none⟩ = some (encS x) ∧ w.frozen? ⟨g, i, none⟩ = false ∧ x.2.1 = bl.length := by
  have hl := h.len
  obtain ⟨x, hx⟩ : ∃ x, vs[i]? = some x := ⟨_, List.getElem?_eq_getElem (by omega)⟩
  obtain ⟨bl, hbl⟩ : ∃ bl, bs[i]? = some bl := ⟨_, List.getElem?_eq_getElem hi⟩
  rcases h.own.2 with ⟨_, e⟩ | ⟨g, cap, cur, e, hg, hb, _, _, _, ht⟩
  · omega
  · have hk : Blk w g 29 cur := hb
    refine ⟨g, cap, x, bl, by rw [← hl]; exact e, hg, hk.lt, hx, hbl, hk.cell ?_, hk.frozen i, (h.row i x bl hx hbl).len⟩
    have h1 : (vs.map encS)[i]? = some (encS x) := by rw [List.getElem?_map, hx]; rfl
    rw [← ht, List.getElem?_take_of_lt (by omega)] at h1
    simpa using h1
/-- free: is p a point whose block is one point? -/
def freeB (n : Nat) (bs : List (List Nat)) (p : Int) : Bool := inR n p && (bs.getD p.toNat []).length == 1
set_option maxRecDepth 100000 in
set_option maxHeartbeats 1000000 in
theorem glued1_calls (n Bn Bb base : Nat) (v : Value) (vs : List SV) (bs : List (List Nat)) (p : Int) (w : World) (hN : Blk w Bn 3 #[.int .i64 n]) (hB : Blk w Bb 25 #[v]) (h : GlR w base v vs bs) (hn : bs.length = n) :
    Calls Tryd.prog 81 #[.int .i64 p, pv Bn, pv Bb] w fun e w' => e = .returned (.bool (freeB n bs p)) ∧ Below w.heap.size w w' := by
  have n0 := hN.cell (j := 0) rfl
  have b0 := hB.cell (j := 0) rfl
  cases hi : inR n p
  · have HI := hid_of hi
    have e : freeB n bs p = false := by simp [freeB, hi]
    rw [e]
    clear e hi
    go_enter Tryd.func81, Tryd.ntmps81
    go_wp2_with (go_at_call 48; refine (oIsPoint_calls n p _).mono ?_; rw [HI.out]; rintro e w' ⟨rfl, hw'⟩; obtain rfl : w = w' := hw'.symm)
    go_ret
    exact ⟨rfl, Below.refl _ _⟩
  · obtain ⟨j, rfl, hj⟩ := inR_true hi
    have HI := hid_of hi
    obtain ⟨g, cap, x, bl, rfl, hg, hgl, hx, hbl, hc, _, hxl⟩ := h.cell (i := j) (by omega)
    have e : freeB n bs ((j : Nat) : Int) = ((bl.length : Int) == 1) := by
      have h1 : bs.getD j [] = bl := by simp [List.getD, hbl]
      simp only [freeB, hi, Bool.true_and, Int.toNat_natCast, h1]
      rw [Bool.eq_iff_iff]; simp; omega
    rw [e]
    obtain ⟨xa, xl, xc⟩ := x
    have hxl : xl = bl.length := hxl
    subst hxl
    have j0 : (0 : Int) ≤ (j : Int) := by omega
    have j1 : (j : Int) < (bs.length : Int) := by omega
    have hc2 : w.cell? ⟨g, j, none⟩ = some (.slice xa bl.length xc) := hc
    clear e hi hx hbl hc
    go_enter Tryd.func81, Tryd.ntmps81
    go_wp2_with (go_at_call 48; refine (oIsPoint_calls n _ _).mono ?_; rw [HI.out]; rintro e w' ⟨rfl, hw'⟩; obtain rfl : w = w' := hw'.symm)
    go_ret
    exact ⟨rfl, Below.refl _ _⟩
end Go.Proofs.YtmmgdeoballhpaaDoor
/- What slices.DeleteFunc leaves of glued's blocks. -/
namespace Go.Proofs.YtmmgdeoballhpaaDoor
open Go.RowKit Go.Shelf Go.Lib Go.Sort Sx

theorem par_filter : ∀ (vs : List SV) (bs : List (List Nat)), vs.length = bs.length → (∀ (i : Nat) (x : SV) (bl : List Nat), vs[i]? = some x → bs[i]? = some bl → emptyS x = bl.isEmpty) →
    (vs.filter (fun x => !emptyS x)).length = (bs.filter (fun b => !b.isEmpty)).length ∧ ∀ (i : Nat) (x : SV) (bl : List Nat), (vs.filter (fun x => !emptyS x))[i]? = some x → (bs.filter (fun b => !b.isEmpty))[i]? = some bl → ∃ j : Nat, vs[j]? = some x ∧ bs[j]? = some bl
  | [], [], _, _ => ⟨rfl, fun i x bl h _ => by simp at h⟩
  | [], _ :: _, h, _ => by simp at h
  | _ :: _, [], h, _ => by simp at h
  | v :: vs, b :: bs, h, hp => by
    have ih := par_filter vs bs (by simpa using h) (fun i x bl h1 h2 => hp (i + 1) x bl (by simpa using h1) (by simpa using h2))
    have h0 := hp 0 v b rfl rfl
    rw [List.filter_cons, List.filter_cons, ← h0]
    cases he : emptyS v
    · refine ⟨by simpa using ih.1, fun i x bl h1 h2 => ?_⟩
      cases i with
      | zero =>
        simp at h1 h2
        exact ⟨0, by simp [h1], by simp [h2]⟩
      | succ i =>
        obtain ⟨j, h3, h4⟩ := ih.2 i x bl (by simpa using h1) (by simpa using h2)
        exact ⟨j + 1, by simpa using h3, by simpa using h4⟩
    · refine ⟨by simpa using ih.1, fun i x bl h1 h2 => ?_⟩
      obtain ⟨j, h3, h4⟩ := ih.2 i x bl (by simpa using h1) (by simpa using h2)
      exact ⟨j + 1, by simpa using h3, by simpa using h4⟩
/-- Blocks that are told: a row of slices, each with its list. -/
def BlV (w : World) (base : Nat) (v : Value) (bs : List (List Nat)) : Prop := ∃ p cap, ∃ us : List SV, v = .slice p us.length cap ∧ us.length = bs.length ∧
  (0 < us.length → ∃ g, p = some ⟨g, 0, none⟩ ∧ base ≤ g ∧ g < w.heap.size ∧ ∀ (i : Nat) (x : SV), us[i]? = some x → w.cell? ⟨g, i, none⟩ = some (encS x)) ∧ ∀ (i : Nat) (x : SV) (bl : List Nat), us[i]? = some x → bs[i]? = some bl → BlkS w x bl
theorem BlV.blocks {w : World} {base : Nat} {v : Value} {bs : List (List Nat)} (h : BlV w base v bs) : BlocksR w v bs := by
  obtain ⟨p, cap, us, e, hl, h1, h2⟩ := h
  refine ⟨p, cap, by rw [← hl]; exact e, us.map encS, by simpa using hl, fun h0 => ?_, fun i u bl hu hbl => ?_⟩
  · obtain ⟨g, e2, _, h3, h4⟩ := h1 (by omega)
    refine ⟨g, e2, h3, fun i u hu => ?_⟩
    rw [List.getElem?_map] at hu
    cases hx : us[i]? with
    | none => rw [hx] at hu; cases hu
    | some x =>
      rw [hx] at hu
      injection hu with hu
      subst hu
      exact h4 i x hx
  · rw [List.getElem?_map] at hu
    cases hx : us[i]? with
    | none => rw [hx] at hu; cases hu
    | some x =>
      rw [hx] at hu
      injection hu with hu
      subst hu
      exact (h2 i x bl hx hbl).ints
theorem BlV.set {w : World} {base : Nat} {v u : Value} {bs : List (List Nat)} {B j : Nat} {cs : Array Value} (h : BlV w base v bs) (hb : Blk w B 25 cs) (hB : B < base) : BlV (w.setCell ⟨B, j, none⟩ u) base v bs := by
  obtain ⟨p, cap, us, e, hl, h1, h2⟩ := h
  refine ⟨p, cap, us, e, hl, fun h0 => ?_, fun i x bl h3 h4 => (h2 i x bl h3 h4).mono (KeepI.set hb (by decide) _ _)⟩
  obtain ⟨g, e2, h3, h4, h5⟩ := h1 h0
  refine ⟨g, e2, h3, by simpa [World.setCell] using h4, fun i x hx => ?_⟩
  have := h5 i x hx
  unfold World.cell? at this ⊢
  rw [Below.heap_setCell w ⟨B, j, none⟩ u g (by simp; omega)]
  exact this
theorem heap_putRow {w : World} {blk off k : Nat} {d : Array SV} (h : k ≠ blk) : (putRow encS w blk off d).heap[k]? = w.heap[k]? := by
  simp [putRow, mapBlock, Array.getElem?_modify, Ne.symm h]
set_option maxHeartbeats 1000000 in
theorem idxB_nil (w : World) : Calls Tryd.prog 94 #[.slice none 0 0, .func (.func 83) #[] #[]] w fun e w' => e = .returned (.int .i64 (-1)) ∧ Below w.heap.size w w' := by
  go_enter Tryd.func94, Tryd.ntmps94
  go_wp2_with fail
  go_loopw [8] (fun i wr => i = .int .i64 0 ∧ Below w.heap.size w wr) (fun _ _ => 0)
  case atStart => exact ⟨rfl, Below.refl _ _⟩
  case round =>
    obtain ⟨rfl, hB⟩ := hrel
    go_wp2_with fail
    go_ret
    exact ⟨rfl, hB⟩
set_option maxRecDepth 100000 in
set_option maxHeartbeats 1000000 in
theorem slDel_nil (w : World) : Calls Tryd.prog 82 #[.slice none 0 0, .func (.func 83) #[] #[]] w fun e w' => e = .returned (.slice none 0 0) ∧ Below w.heap.size w w' := by
  go_enter Tryd.func82, Tryd.ntmps82
  go_wp2_with fail
  refine (idxB_nil _).mono ?_
  rintro e w1 ⟨rfl, hB⟩
  go_wp2_with fail
  go_ret
  exact ⟨rfl, hB⟩
theorem del_ans {w : World} {base : Nat} {v : Value} {vs : List SV} {bs : List (List Nat)} (h : GlR w base v vs bs) (hb : base ≤ w.heap.size) (hm : bs.length ≤ 256) :
    Calls Tryd.prog 82 #[v, .func (.func 83) #[] #[]] w fun e w' => ∃ v', e = .returned v' ∧ BlV w' base v' (bs.filter (fun b => !b.isEmpty)) ∧ Below base w w' := by
  have hl := h.len
  obtain ⟨hp1, hp2⟩ := par_filter vs bs hl (fun i x bl h1 h2 => by
    have := (h.row i x bl h1 h2).len
    show (x.2.1 == 0) = _
    rw [this]
    cases bl <;> simp)
  rcases h.own.2 with ⟨rfl, e0⟩ | ⟨g, cap, cur, rfl, hg, hcur, hcap, hcm, hcs, ht⟩
  · refine (slDel_nil w).mono ?_
    rintro e w' ⟨rfl, hB⟩
    have hb0 : bs = [] := List.eq_nil_of_length_eq_zero (by omega)
    subst hb0
    exact ⟨_, rfl, ⟨none, 0, [], rfl, rfl, fun h0 => by simp at h0, fun i x bl h1 _ => by simp at h1⟩, hB.mono hb⟩
  · have hk : Blk w g 29 cur := hcur
    have hH : Holds encS w g 0 vs.toArray := fun j hj => by
      have hj : j < vs.length := by simpa using hj
      rw [Nat.zero_add]
      refine ⟨hk.cell ?_, hk.frozen j⟩
      have h1 : (vs.map encS)[j]? = some (encS vs[j]) := by rw [List.getElem?_map, List.getElem?_eq_getElem hj]; rfl
      rw [← ht, List.getElem?_take_of_lt (by omega)] at h1
      rw [show vs.toArray[j]! = vs[j] from by rw [getElem!_pos vs.toArray j (by simpa using hj)]; simp]
      simpa using h1
    have hcall := slDel_calls g 0 cap vs.toArray w hH (by simp; omega) (by simpa using hcap)
    rw [show vs.toArray.size = vs.length from by simp] at hcall
    refine hcall.mono ?_
    rintro e w' ⟨rfl, q, rfl⟩
    generalize hus : vs.filter (fun x => !emptyS x) = us at *
    have hul : us.length ≤ vs.length := by rw [← hus]; exact List.length_filter_le _ _
    have hA : Holds encS (Sort.ahead w q) g 0 vs.toArray := hH
    have hP := holds_putRow encS (Sort.ahead w q) g 0 vs.toArray (us ++ List.replicate (vs.length - us.length) (none, 0, 0)).toArray hA (by simp; omega)
    have hgl := hk.lt
    have hkI : KeepI w (putRow encS (Sort.ahead w q) g 0 (us ++ List.replicate (vs.length - us.length) (none, 0, 0)).toArray) := fun s cs hs => by
      have hne : s ≠ g := fun e => by
        subst e
        have h1 : w.heap[s]? = some (.cells cur 29 (0, 0)) := hk
        rw [show w.heap[s]? = _ from hs] at h1
        simp at h1
      exact (heap_putRow hne).trans hs
    refine ⟨_, rfl, ⟨some ⟨g, 0, none⟩, cap, us, by simp, hp1, fun _ => ⟨g, rfl, hg, by simpa using hgl, fun i x hx => ?_⟩, fun i x bl h1 h2 => ?_⟩, ⟨rfl, rfl, rfl, by simp [Sort.ahead], fun k hk2 => heap_putRow (by omega)⟩⟩
    · have hi : i < us.length := (List.getElem?_eq_some_iff.1 hx).1
      have := (hP i (by simp; omega)).1
      rw [Nat.zero_add] at this
      rw [this]
      congr 1
      congr 1
      rw [getElem!_pos _ i (by simp; omega)]
      simp [List.getElem_append_left, hi]
      exact (List.getElem?_eq_some_iff.1 hx).2
    · obtain ⟨j, h3, h4⟩ := hp2 i x bl h1 h2
      exact (h.row j x bl h3 h4).mono hkI
end Go.Proofs.YtmmgdeoballhpaaDoor
/- Package order's glued. -/
namespace Go.Proofs.YtmmgdeoballhpaaDoor
open Go.RowKit Go.Shelf Sx

def glInit (k : Nat) : List (List Nat) := (List.range k).map (fun p => [p])
theorem glInit_succ (k : Nat) : glInit (k + 1) = glInit k ++ [[k]] := by simp [glInit, List.range_succ]
theorem glInit_length (k : Nat) : (glInit k).length = k := by simp [glInit]
def gluF (n : Nat) : List (Int × Int) → List (List Nat) → Option (List (List Nat))
  | [], bs => some bs
  | (a, b) :: ps, bs => if a ≠ b ∧ freeB n bs a = true ∧ freeB n bs b = true then gluF n ps ((bs.set a.toNat [a.toNat, b.toNat]).set b.toNat []) else none
theorem gluF_step {n : Nat} {l : List (Int × Int)} {k : Nat} {bs : List (List Nat)} {a b : Int} (hx : l[k]? = some (a, b)) : gluF n (l.drop k) bs = if a ≠ b ∧ freeB n bs a = true ∧ freeB n bs b = true then gluF n (l.drop (k + 1)) ((bs.set a.toNat [a.toNat, b.toNat]).set b.toNat []) else none := by
  obtain ⟨hk, e⟩ := List.getElem?_eq_some_iff.1 hx
  rw [List.drop_eq_getElem_cons hk, e]
  rfl
theorem Tryd.infointss : (Tryd.prog.info? 29).map (fun i => (i.zero, i.size, i.bytes)) = some (some (.slice none 0 0), 1, 24) := by kernel_rfl
theorem GlR.push {w w5 : World} {base : Nat} {v v' : Value} {vs : List SV} {bs : List (List Nat)} {k s : Nat} {o : Obj} (h : GlR w base v vs bs) (hs : Blk w s 3 (intsA (toI [k])))
    (hown : w5.ownsRow base 29 1 v' (vs.length + 1) (vs.map encS ++ [.slice (some ⟨s, 0, none⟩) 1 1])) (hg : (w.alloc o).grownBy w5 v.ownBlock) : GlR w5 base v' (vs ++ [(some ⟨s, 0, none⟩, 1, 1)]) (bs ++ [[k]]) := by
  have hk : KeepI w w5 := KeepI.trans (KeepI.of_below ((Below.refl _ _).alloc (Nat.le_refl _) _)) (KeepI.grown (h.own.alloc o) hg)
  have hl := h.len
  refine ⟨?_, by simp [hl], fun i x bl h1 h2 => ?_⟩
  · rw [List.map_append, List.length_append]; exact hown
  · by_cases hi : i < vs.length
    · rw [List.getElem?_append_left hi] at h1
      rw [List.getElem?_append_left (by omega)] at h2
      exact (h.row i x bl h1 h2).mono hk
    · rw [List.getElem?_append_right (by omega)] at h1
      rw [List.getElem?_append_right (by omega)] at h2
      have : i - vs.length = 0 := by
        have := (List.getElem?_eq_some_iff.1 h1).1
        simp at this
        omega
      rw [this] at h1
      rw [show i - bs.length = 0 by omega] at h2
      simp at h1 h2
      subst h1; subst h2
      exact .inr ⟨s, rfl, hk s _ hs⟩
/-- What glued answers. -/
def GlAns (w' : World) (n : Nat) (l : List (Int × Int)) (e : Ending) : Prop :=
  (gluF n l (glInit n) = none → e = .returned (.tuple #[.slice none 0 0, .bool false])) ∧ ∀ bs, gluF n l (glInit n) = some bs → ∃ v', e = .returned (.tuple #[v', .bool true]) ∧ BlocksR w' v' (bs.filter (fun b => !b.isEmpty))
theorem glAns_none {w' : World} {n : Nat} {l : List (Int × Int)} (h : gluF n l (glInit n) = none) : GlAns w' n l (.returned (.tuple #[.slice none 0 0, .bool false])) :=
  ⟨fun _ => rfl, fun bs e => by rw [h] at e; cases e⟩
theorem glAns_some {w' : World} {n : Nat} {l : List (Int × Int)} {bs : List (List Nat)} {v : Value} (h : gluF n l (glInit n) = some bs) (hb : BlocksR w' v (bs.filter (fun b => !b.isEmpty))) : GlAns w' n l (.returned (.tuple #[v, .bool true])) :=
  ⟨(fun e => by rw [h] at e; exact absurd e (by simp)), (fun bs' e => by rw [h] at e; injection e with e; subst e; exact ⟨v, rfl, hb⟩)⟩
theorem blv_slice {w : World} {base : Nat} {v : Value} {bs : List (List Nat)} (h : BlV w base v bs) : ∃ x y z, v = .slice x y z := by
  obtain ⟨p, cap, us, e, _⟩ := h
  exact ⟨_, _, _, e⟩
theorem ret_glued {tmps : Array Value} {w : World} {g : Nat} {x : Option Addr} {y z : Nat} {ok : Bool} (hp : tmps.getD 4 undef = pv g) (hq : tmps.getD 5 undef = .bool ok) (hg : Blk w g 25 #[.slice x y z]) :
    (results Tryd.f46 tmps).run Tryd.prog w = .ok (.tuple #[.slice x y z, .bool ok]) w := by
  have c1 := hg.cell (j := 0) rfl
  rw [results_cell_tmp (p := 4) (u := 5) (ty := 25) rfl, hp, hq]
  simp [asAddr]
  go_simp
theorem freeB_in {n : Nat} {bs : List (List Nat)} {p : Int} (h : freeB n bs p = true) : inR n p = true := by
  unfold freeB at h
  cases hi : inR n p
  · rw [hi] at h; cases h
  · rfl
theorem gl_ne {w : World} {base : Nat} {g n cap B : Nat} {vs : List SV} {bs : List (List Nat)} {cs : Array Value} (h : GlR w base (.slice (some ⟨g, 0, none⟩) n cap) vs bs) (hB : Blk w B 37 cs) : g ≠ B := by
  rcases h.own.2 with ⟨e, _⟩ | ⟨g2, cap2, cur, e, _, hb, _⟩
  · cases e
  · injection e with e _ _
    injection e with e
    injection e with e _ _
    subst e
    intro e
    subst e
    rw [show w.heap[g]? = _ from hB] at hb
    simp at hb
theorem gl_two {w : World} {base : Nat} {g n cap a b : Nat} {vs : List SV} {bs : List (List Nat)} (h : GlR w base (.slice (some ⟨g, 0, none⟩) n cap) vs bs) (ha : a < n) (hb : b < n) (hn : bs.length = n) :
    ∃ xa xb, w.cell? ⟨g, a, none⟩ = some xa ∧ w.cell? ⟨g, b, none⟩ = some xb ∧ w.frozen? ⟨g, a, none⟩ = false ∧ w.frozen? ⟨g, b, none⟩ = false := by
  obtain ⟨g1, c1, x1, _, e1, _, _, _, _, h1, f1, _⟩ := h.cell (i := a) (by omega)
  obtain ⟨g2, c2, x2, _, e2, _, _, _, _, h2, f2, _⟩ := h.cell (i := b) (by omega)
  injection e1 with e1 _ _
  injection e1 with e1
  injection e1 with e1 _ _
  injection e2 with e2 _ _
  injection e2 with e2
  injection e2 with e2 _ _
  subst e1; subst e2
  exact ⟨_, _, h1, h2, f1, f2⟩
theorem gl_blk {w : World} {g B j i : Nat} {t : TypeId} {cs : Array Value} {u x : Value} {o : Obj} (h : Blk w B t cs) (h1 : B ≠ g) (_ : B ≠ g) : Blk (((w.setCell ⟨g, i, none⟩ u).setCell ⟨g, j, none⟩ x).alloc o).drew B t cs := (((h.setOther (a := ⟨g, i, none⟩) h1 u).setOther (a := ⟨g, j, none⟩) h1 x).alloc o).drew
theorem gl_bel {w0 w : World} {g j i N : Nat} {u x : Value} {o : Obj} (h : Below N w0 w) (h1 : N ≤ g) (h2 : N ≤ w.heap.size := by omega) : Below N w0 (((w.setCell ⟨g, i, none⟩ u).setCell ⟨g, j, none⟩ x).alloc o).drew :=
  have a : Below N w0 (w.setCell ⟨g, i, none⟩ u) := h.setCell h1 _
  have b : Below N w0 ((w.setCell ⟨g, i, none⟩ u).setCell ⟨g, j, none⟩ x) := a.setCell h1 _
  (b.alloc (by simpa [World.setCell] using h2) o).drew
theorem gl_after {w : World} {base : Nat} {g n cap a b : Nat} {vs : List SV} {bs : List (List Nat)} (h : GlR w base (.slice (some ⟨g, 0, none⟩) n cap) vs bs) (hn : bs.length = n) (ha : a < n) (hb : b < n) (_ : a ≠ b) :
    GlR (((w.setCell ⟨g, a, none⟩ (.slice (some ⟨w.heap.size, 0, none⟩) 2 2)).setCell ⟨g, b, none⟩ (.slice none 0 0)).alloc (.cells #[.int .i64 a, .int .i64 b] 3)).drew base (.slice (some ⟨g, 0, none⟩) n cap) ((vs.set a (some ⟨w.heap.size, 0, none⟩, 2, 2)).set b (none, 0, 0)) ((bs.set a [a, b]).set b []) := by
  have hl := h.len
  obtain ⟨cur, hcur⟩ : ∃ cur, Blk w g 29 cur := by
    rcases h.own.2 with ⟨e, _⟩ | ⟨g2, cap2, cur, e, _, hb, _⟩
    · cases e
    · injection e with e _ _
      injection e with e
      injection e with e _ _
      subst e
      exact ⟨cur, hb⟩
  have k1 : KeepI w (w.setCell ⟨g, a, none⟩ (.slice (some ⟨w.heap.size, 0, none⟩) 2 2)) := KeepI.set hcur (by decide) _ _
  have k2 := k1.trans (KeepI.set (hcur.set a (.slice (some ⟨w.heap.size, 0, none⟩) 2 2)) (by decide) b (.slice none 0 0))
  have k3 : KeepI w (((w.setCell ⟨g, a, none⟩ (.slice (some ⟨w.heap.size, 0, none⟩) 2 2)).setCell ⟨g, b, none⟩ (.slice none 0 0)).alloc (.cells #[.int .i64 a, .int .i64 b] 3)).drew := fun s cs hs => ((k2 s cs hs).alloc _).drew
  refine ⟨?_, by simp [hl], fun i x bl h1 h2 => ?_⟩
  · have ho := h.own
    rw [hl, hn] at ho
    have o1 := (ho.stored a (.slice (some ⟨w.heap.size, 0, none⟩) 2 2)).1
    have o2 := (o1.stored b (.slice none 0 0)).1
    have o3 := o2.alloc (.cells #[.int .i64 a, .int .i64 b] 3)
    rw [List.map_set, List.map_set, List.length_set, List.length_set, hl, hn]
    exact o3
  · rw [List.getElem?_set] at h1 h2
    by_cases e : b = i
    · subst e
      rw [if_pos rfl, if_pos (by simp; omega)] at h1 h2
      injection h1 with h1
      injection h2 with h2
      subst h1; subst h2
      exact .inl ⟨rfl, rfl⟩
    · rw [if_neg e] at h1 h2
      rw [List.getElem?_set] at h1 h2
      by_cases e2 : a = i
      · subst e2
        rw [if_pos rfl, if_pos (by omega)] at h1 h2
        injection h1 with h1
        injection h2 with h2
        subst h1; subst h2
        refine .inr ⟨w.heap.size, rfl, ?_⟩
        have hz : ((w.setCell ⟨g, a, none⟩ (.slice (some ⟨w.heap.size, 0, none⟩) 2 2)).setCell ⟨g, b, none⟩ (.slice none 0 0)).heap.size = w.heap.size := by simp [World.setCell]
        have := Blk.new ((w.setCell ⟨g, a, none⟩ (.slice (some ⟨w.heap.size, 0, none⟩) 2 2)).setCell ⟨g, b, none⟩ (.slice none 0 0)) 3 #[.int .i64 (a : Int), .int .i64 (b : Int)]
        rw [hz] at this
        exact this.drew
      · rw [if_neg e2] at h1 h2
        exact (h.row i x bl h1 h2).mono k3
theorem glk {W w5 : World} {o o1 : Obj} {base : Nat} {v : Value} {vs : List SV} {bs : List (List Nat)} (h : GlR (W.alloc o) base v vs bs) (hg : ((W.alloc o).alloc o1).grownBy w5 v.ownBlock) (hb : base ≤ W.heap.size) : ∀ k, k < base → w5.heap[k]? = W.heap[k]? := fun k hk =>
  (hg.block k (by simp; omega) (owns_ne h.own hk)).trans ((Below.heap_alloc (W.alloc o) o1 k (by simp; omega)).trans (Below.heap_alloc W o k (by omega)))
theorem gl_set {w : World} {base : Nat} {v u : Value} {vs : List SV} {bs : List (List Nat)} {B : Nat} {cs : Array Value} (h : GlR w base v vs bs) (hB : B < base) (hb : Blk w B 25 cs) {j : Nat} : GlR (w.setCell ⟨B, j, none⟩ u) base v vs bs :=
  ⟨owns_set h.own (by simpa using hB) _, h.len, fun i x bl h1 h2 => (h.row i x bl h1 h2).mono (KeepI.set hb (by decide) _ _)⟩
set_option maxRecDepth 100000 in
set_option maxHeartbeats 2000000 in
theorem oGlued_calls (n : Nat) (hn : n ≤ 256) (v : Value) (l : List (Int × Int)) (w : World) (hv : ∃ p cap, v = .slice p l.length cap ∧ (0 < l.length → ∃ s o, p = some ⟨s, o, none⟩ ∧ PairsAt w s o l)) (hm : l.length ≤ 9223372036854775807) :
    Calls Tryd.prog 46 #[.int .i64 n, v] w fun e w' => GlAns w' n l e ∧ Below w.heap.size w w' := by
  obtain ⟨p, cap, rfl, hp⟩ := hv
  obtain ⟨i0, hi, hz0, hz1, hz2⟩ := info_parts Tryd.infoints
  have HP := hid_of hp
  clear hp
  go_enter Tryd.func46, Tryd.ntmps46
  go_wp2_with fail
  have hB0 : Below w.heap.size w ((w.alloc (.cells #[.int .i64 n] 3)).alloc (.cells #[.slice none 0 0] 25)) := ((Below.refl _ _).alloc (Nat.le_refl _) _).alloc (by simp) _
  have hN0 : Blk ((w.alloc (.cells #[.int .i64 n] 3)).alloc (.cells #[.slice none 0 0] 25)) w.heap.size 3 #[.int .i64 n] := (Blk.new w _ _).alloc _
  have hb0 : Blk ((w.alloc (.cells #[.int .i64 n] 3)).alloc (.cells #[.slice none 0 0] 25)) (w.heap.size + 1) 25 #[.slice none 0 0] := Blk.new2 w _ _ _
  have hz : ((w.alloc (.cells #[.int .i64 n] 3)).alloc (.cells #[.slice none 0 0] 25)).heap.size = w.heap.size + 2 := by simp
  have hg0 : GlR ((w.alloc (.cells #[.int .i64 n] 3)).alloc (.cells #[.slice none 0 0] 25)) (w.heap.size + 2) (.slice none 0 0) [] (glInit 0) := ⟨World.ownsRow_nil _ _ _ _, rfl, fun i x bl h1 _ => by simp at h1⟩
  generalize (w.alloc (.cells #[.int .i64 n] 3)).alloc (.cells #[.slice none 0 0] 25) = wA at *
  have HG0 := hid_of hg0
  clear hg0
  go_loopw [11] (fun i wr => ∃ (k : Nat) (v4 : Value) (vs : List SV), k ≤ n ∧ i = .int .i64 k ∧ Blk wr w.heap.size 3 #[.int .i64 n] ∧ Blk wr (w.heap.size + 1) 25 #[v4] ∧ Hid (GlR wr (w.heap.size + 2) v4 vs (glInit k)) ∧ w.heap.size + 2 ≤ wr.heap.size ∧ Below w.heap.size w wr) (fun i _ => n - (intOf i).toNat)
  case atStart => exact ⟨0, _, [], by omega, rfl, hN0, hb0, HG0, by omega, hB0⟩
  case round =>
    clear hB0 hN0 hb0 HG0 hz
    obtain ⟨k, v4, vs, hk, rfl, hN, hB, HG, hsz, hBl⟩ := hrel
    have q4 := hB.cell (j := 0) rfl
    have f4 := hB.frozen 0
    by_cases hlt : k < n
    · have hvk : vs.length ≤ 256 := by rw [HG.out.len, glInit_length]; omega
      have hbA := ((Below.refl wr.heap.size wr).alloc (Nat.le_refl _) (.cells #[.int .i64 k] 3))
      have HGA := hid_of (HG.out.step hbA)
      have hsA : Blk (wr.alloc (.cells #[.int .i64 k] 3)) wr.heap.size 3 (intsA (toI [k])) := Blk.new wr _ _
      go_wp2_with (at_builtin; refine wpList_append_own_at _ rfl _ _ 25 rfl (w.heap.size + 2) 29 i0 (.slice none 0 0) 1 24 Tryd.underlying25 hi hz0 hz1 hz2 rfl (by decide) v4 vs.length (vs.map encS) rfl (HGA.out.own.alloc _) ⟨_, 0, none⟩ 1 1 [.slice (some ⟨wr.heap.size, 0, none⟩) 1 1] rfl rfl (by intro k2 u hk2; match k2, hk2 with | 0, hk2 => simp at hk2; subst hk2; exact (Blk.new2 wr (.cells #[.int .i64 k] 3) 29 #[.slice (some ⟨wr.heap.size, 0, none⟩) 1 1]).cell (j := 0) rfl) (by simp [Value.oneCell']) (by unfold maxLen; omega) (by omega) (by simp; omega) ?_; intro v' w5 hown' hgrow _ hat; obtain ⟨g', cap', rfl, hg1, hg2⟩ := owns_form hown'; have hb5 : ∀ k, k < w.heap.size + 2 → w5.heap[k]? = wr.heap[k]? := glk HGA.out hgrow hsz; have hB5 : Blk w5 (w.heap.size + 1) 25 #[v4] := (hb5 _ (by omega)).trans hB; have q5 := hB5.cell (j := 0) rfl; have f5 := hB5.frozen 0)
      have hG5 := HGA.out.push (k := k) hsA hown' hgrow
      rw [← glInit_succ] at hG5
      have hN5 : Blk w5 w.heap.size 3 #[.int .i64 n] := (hb5 _ (by omega)).trans hN
      have hz5 : w.heap.size + 2 ≤ w5.heap.size := by have := hgrow.size; simp at this; omega
      have hBw5 : Below w.heap.size w w5 := ⟨hgrow.os.trans hBl.os, hgrow.tape.trans hBl.tape, hgrow.output.trans hBl.output, by have := hBl.size; omega, fun k hk => (hb5 k (by omega)).trans (hBl.block k hk)⟩
      refine ⟨⟨k + 1, _, _, by omega, by go_num, hN5.setOther (by simp) _, by have := hB5.set 0 (.slice (some ⟨g', 0, none⟩) (vs.length + 1) cap'); simpa using this, gl_set hG5 (by simp) hB5, by simpa [World.setCell] using hz5, hBw5.setCell (by simp) _⟩, by simp [intOf]; omega⟩
    · obtain rfl : k = n := by omega
      go_wp2_with fail
      have hlk : (glInit k).length = k := glInit_length k
      go_loopw [23] (fun i wr2 => ∃ (j : Nat) (vs : List SV) (bs : List (List Nat)), j ≤ l.length ∧ i = .int .i64 j ∧ Blk wr2 w.heap.size 3 #[.int .i64 k] ∧ Blk wr2 (w.heap.size + 1) 25 #[v4] ∧ Hid (GlR wr2 (w.heap.size + 2) v4 vs bs) ∧ bs.length = k ∧ Hid (gluF k l (glInit k) = gluF k (l.drop j) bs) ∧ w.heap.size + 2 ≤ wr2.heap.size ∧ Below w.heap.size w wr2) (fun i _ => l.length - (intOf i).toNat)
      case atStart => exact ⟨0, vs, _, by omega, rfl, hN, hB, HG, hlk, rfl, hsz, hBl⟩
      case round =>
        clear hN hB HG hlk hsz hBl q4 f4 hlt hk
        obtain ⟨j, vs, bs, hj, rfl, hN, hB, HG, hbs, HF, hsz, hBl⟩ := hrel
        by_cases hlt : j < l.length
        · obtain ⟨s, o, rfl, hs⟩ := HP.out (by omega)
          obtain ⟨⟨A, B⟩, hx⟩ : ∃ x, l[j]? = some x := ⟨_, List.getElem?_eq_getElem hlt⟩
          have c0 := (hs.below hBl).fst j _ hx
          have c1 := (hs.below hBl).snd j _ hx
          have HE : Hid (_ = _) := HF.out.trans (gluF_step hx)
          clear hx HF
          have hbA := (Below.refl wr.heap.size wr).alloc (Nat.le_refl _) (.cells #[.int .i64 A, .int .i64 B] 37)
          have hpA := Blk.new wr 37 #[.int .i64 A, .int .i64 B]
          have hNA := hN.alloc (.cells #[.int .i64 A, .int .i64 B] 37)
          have hBA := hB.alloc (.cells #[.int .i64 A, .int .i64 B] 37)
          have HGA := hid_of (HG.out.step hbA)
          have hBlA := hBl.alloc hBl.size (.cells #[.int .i64 A, .int .i64 B] 37)
          have hf1 := glued1_calls k w.heap.size (w.heap.size + 1) _ v4 vs bs A _ hNA hBA HGA.out hbs
          have hzA : w.heap.size + 2 ≤ wr.heap.size := hsz
          by_cases hAB : A = B
          · subst hAB
            have hr : gluF k l (glInit k) = none := HE.out.trans (by rw [if_neg (fun h => h.1 rfl)])
            have HR := hid_of hr
            have q5 := hBA.cell (j := 0) rfl
            have f5 := hBA.frozen 0
            have p0 := hpA.cell (j := 0) rfl
            have p1 := hpA.cell (j := 1) rfl
            clear hr HE
            go_wp2_with fail
            have e5 := hBA.set 0 (.slice none 0 0)
            exact bodyPost_ret (ret_glued rfl rfl (by simpa using e5)) rfl ⟨glAns_none HR.out, hBlA.setCell (by simp) _⟩
          · have hne : (A == B) = false := by simpa using hAB
            have HAB := hid_of hAB
            have p0 := hpA.cell (j := 0) rfl
            cases hA : freeB k bs A
            · have HR : Hid (gluF k l (glInit k) = none) := HE.out.trans (by rw [if_neg (fun h => by rw [hA] at h; cases h.2.1)])
              have p1 := hpA.cell (j := 1) rfl
              rw [hA] at hf1
              clear HE
              go_wp2_with (go_at_call 81; refine hf1.mono ?_; rintro e w2 ⟨rfl, hB2⟩; have hBb2 := hBA.of_below hB2; have q5 := hBb2.cell (j := 0) rfl; have f5 := hBb2.frozen 0)
              have e5 := hBb2.set 0 (.slice none 0 0)
              exact bodyPost_ret (ret_glued rfl rfl (by simpa using e5)) rfl ⟨glAns_none HR.out, (below_step hBlA hBlA.size hB2).setCell (by simp) _⟩
            · rw [hA] at hf1
              have HA := hid_of hA
              have p1 := hpA.cell (j := 1) rfl
              have HF2 : Hid (∀ w2, Below (wr.alloc (.cells #[.int .i64 A, .int .i64 B] 37)).heap.size (wr.alloc (.cells #[.int .i64 A, .int .i64 B] 37)) w2 → Calls Tryd.prog 81 #[.int .i64 B, pv w.heap.size, pv (w.heap.size + 1)] w2 fun e w' => e = .returned (.bool (freeB k bs B)) ∧ Below w2.heap.size w2 w') := fun w2 hb2 => glued1_calls k w.heap.size (w.heap.size + 1) _ v4 vs bs B _ (hNA.of_below hb2) (hBA.of_below hb2) (HGA.out.step hb2) hbs
              cases hBf : freeB k bs B
              · have HR : Hid (gluF k l (glInit k) = none) := HE.out.trans (by rw [if_neg (fun h => by rw [hBf] at h; cases h.2.2)])
                rw [hBf] at HF2
                clear HE
                go_wp2_with (first | (go_at_call 81; refine hf1.mono ?_; rintro e w2 ⟨rfl, hB2⟩; have hP2 := hpA.of_below hB2; have p2 := hP2.cell (j := 1) rfl; clear hf1) | (go_at_call 81; refine (HF2.out w2 hB2).mono ?_; rintro e w3 ⟨rfl, hB3⟩; have hBb3 := (hBA.of_below hB2).of_below hB3; have q5 := hBb3.cell (j := 0) rfl; have f5 := hBb3.frozen 0))
                have e5 := hBb3.set 0 (.slice none 0 0)
                exact bodyPost_ret (ret_glued rfl rfl (by simpa using e5)) rfl ⟨glAns_none HR.out, (below_step (below_step hBlA hBlA.size hB2) (Nat.le_trans hBlA.size hB2.size) hB3).setCell (by simp) _⟩
              · rw [hBf] at HF2
                obtain ⟨a, rfl, ha⟩ := inR_true (freeB_in hA)
                obtain ⟨b, rfl, hb⟩ := inR_true (freeB_in hBf)
                have hab : a ≠ b := fun e => HAB.out (by rw [e])
                have HE2 : Hid (gluF k l (glInit k) = gluF k (l.drop (j + 1)) ((bs.set a [a, b]).set b [])) := HE.out.trans (by rw [if_pos ⟨HAB.out, hA, hBf⟩]; simp)
                obtain ⟨g, capg, _, _, hv4, hgb, _⟩ := HG.out.cell (i := a) (by omega)
                rw [hbs] at hv4
                subst hv4
                clear HE
                go_wp2_with (first | (go_at_call 81; refine hf1.mono ?_; rintro e w2 ⟨rfl, hB2⟩; have hP2 := hpA.of_below hB2; have p2 := hP2.cell (j := 1) rfl; clear hf1) | (go_at_call 81; refine (HF2.out w2 hB2).mono ?_; rintro e w3 ⟨rfl, hB3⟩))
                have hN3 := (hNA.of_below hB2).of_below hB3
                have hBb3 := (hBA.of_below hB2).of_below hB3
                have hP3 := hP2.of_below hB3
                have HG3 := hid_of ((HGA.out.step hB2).step hB3)
                have hBl3 : Below w.heap.size w w3 := below_step (below_step hBlA hBlA.size hB2) (Nat.le_trans hBlA.size hB2.size) hB3
                have hz3 : w.heap.size + 2 ≤ wr.heap.size ∧ wr.heap.size < w3.heap.size := ⟨hsz, hP3.lt⟩
                clear hNA hBA hpA HGA hBlA hB2 hB3 hP2 HF2 p0 p1 p2 hN hB HG hBl hbA c0 c1 hs
                generalize wr.heap.size = B9 at *
                have q4 := hBb3.cell (j := 0) rfl
                have p0 := hP3.cell (j := 0) rfl
                have p1 := hP3.cell (j := 1) rfl
                have SW : w3.drew.cell? ⟨w.heap.size + 1, 0, none⟩ = some (.slice (some ⟨g, 0, none⟩) k capg) ∧ w3.drew.cell? ⟨B9, 0, none⟩ = some (.int .i64 a) ∧ w3.drew.cell? ⟨B9, 1, none⟩ = some (.int .i64 b) := ⟨q4, p0, p1⟩
                have hgB : g ≠ B9 := fun e => gl_ne HG3.out hP3 e
                have SX : Hid (∀ W : World, (W.cell? ⟨w.heap.size + 1, 0, none⟩ = some (.slice (some ⟨g, 0, none⟩) k capg) ∧ W.cell? ⟨B9, 0, none⟩ = some (.int .i64 a) ∧ W.cell? ⟨B9, 1, none⟩ = some (.int .i64 b)) → ∀ (j : Nat) (u : Value), (W.setCell ⟨g, j, none⟩ u).cell? ⟨w.heap.size + 1, 0, none⟩ = some (.slice (some ⟨g, 0, none⟩) k capg) ∧ (W.setCell ⟨g, j, none⟩ u).cell? ⟨B9, 0, none⟩ = some (.int .i64 a) ∧ (W.setCell ⟨g, j, none⟩ u).cell? ⟨B9, 1, none⟩ = some (.int .i64 b)) := fun W h j u => ⟨(cell_setOther (by simp; omega) _).trans h.1, (cell_setOther (by simp; omega) _).trans h.2.1, (cell_setOther (by simp; omega) _).trans h.2.2⟩
                have SA : (w3.drew.alloc (.cells #[.int .i64 a, .int .i64 b] 3)).cell? ⟨w.heap.size + 1, 0, none⟩ = some (.slice (some ⟨g, 0, none⟩) k capg) ∧ (w3.drew.alloc (.cells #[.int .i64 a, .int .i64 b] 3)).cell? ⟨B9, 0, none⟩ = some (.int .i64 a) ∧ (w3.drew.alloc (.cells #[.int .i64 a, .int .i64 b] 3)).cell? ⟨B9, 1, none⟩ = some (.int .i64 b) := ⟨cellA' SW.1 _, cellA' SW.2.1 _, cellA' SW.2.2 _⟩
                have SAL : Hid (∀ W : World, (W.cell? ⟨w.heap.size + 1, 0, none⟩ = some (.slice (some ⟨g, 0, none⟩) k capg) ∧ W.cell? ⟨B9, 0, none⟩ = some (.int .i64 a) ∧ W.cell? ⟨B9, 1, none⟩ = some (.int .i64 b)) → ∀ o : Obj, (W.alloc o).cell? ⟨w.heap.size + 1, 0, none⟩ = some (.slice (some ⟨g, 0, none⟩) k capg) ∧ (W.alloc o).cell? ⟨B9, 0, none⟩ = some (.int .i64 a) ∧ (W.alloc o).cell? ⟨B9, 1, none⟩ = some (.int .i64 b)) := fun W h o => ⟨cellA' h.1 _, cellA' h.2.1 _, cellA' h.2.2 _⟩
                have SW0 : w3.cell? ⟨w.heap.size + 1, 0, none⟩ = some (.slice (some ⟨g, 0, none⟩) k capg) ∧ w3.cell? ⟨B9, 0, none⟩ = some (.int .i64 a) ∧ w3.cell? ⟨B9, 1, none⟩ = some (.int .i64 b) := SW
                obtain ⟨xa, xb, ca, cb, fa, fb⟩ := gl_two HG3.out ha hb hbs
                have ca2 := cellA' ca (.cells #[.int .i64 a, .int .i64 b] 3)
                have cb2 := cellA' cb (.cells #[.int .i64 a, .int .i64 b] 3)
                have a0 : (0 : Int) ≤ (a : Int) := by omega
                have a1 : (a : Int) < (k : Int) := by omega
                have b0 : (0 : Int) ≤ (b : Int) := by omega
                have b1 : (b : Int) < (k : Int) := by omega
                have hgl : g < w3.heap.size := World.block_lt_of_cell? w3 _ ca
                have hgn : g ≠ w3.heap.size := by omega
                have hgn2 : w3.heap.size ≠ g := by omega
                go_region_held3 (fun W => W.cell? ⟨w.heap.size + 1, 0, none⟩ = some (.slice (some ⟨g, 0, none⟩) k capg) ∧ W.cell? ⟨B9, 0, none⟩ = some (.int .i64 a) ∧ W.cell? ⟨B9, 1, none⟩ = some (.int .i64 b)) (first | assumption | exact SW | exact SA | exact SAL.out _ (SX.out _ SW0 _ _) _ | exact SAL.out _ (SX.out _ (SX.out _ SW0 _ _) _ _) _) (fail)
                all_goals
                  go_wp2_with fail
                  refine ⟨⟨j + 1, _, _, by omega, by go_num, gl_blk hN3 (by omega) (by omega), gl_blk hBb3 (by omega) (by omega), gl_after HG3.out hbs ha hb hab, by simpa using hbs, HE2.out, ?_, gl_bel hBl3 (by omega)⟩, by simp [intOf]; omega⟩
                  simp [World.setCell, World.drew]
                  omega
        · obtain rfl : j = l.length := by omega
          have hF := HF.out
          rw [List.drop_length] at hF
          have HR : Hid (gluF k l (glInit k) = some bs) := hF
          have q4 := hB.cell (j := 0) rfl
          have hd := del_ans HG.out hsz (by omega)
          clear hF HF
          go_wp2_with (go_at_call 82; refine hd.mono ?_; rintro e w6 ⟨v6, rfl, hV6, hB6⟩; have hBb6 := hB.below hB6 (by omega); have q6 := hBb6.cell (j := 0) rfl; have f6 := hBb6.frozen 0; obtain ⟨x6, y6, z6, rfl⟩ := blv_slice hV6)
          have e6 := hBb6.set 0 (.slice x6 y6 z6)
          exact bodyPost_ret (ret_glued rfl rfl (by simpa using e6)) rfl ⟨glAns_some HR.out (hV6.set hBb6 (by omega)).blocks, (hBl.trans (hB6.mono (by omega))).setCell (by simp) _⟩
end Go.Proofs.YtmmgdeoballhpaaDoor
/- The contract of package order's Glue. -/
namespace Go.Proofs.YtmmgdeoballhpaaDoor
open Go.RowKit Go.Shelf Sx

theorem gluF_ok (n : Nat) : ∀ (l : List (Int × Int)) (bs bs' : List (List Nat)), gluF n l bs = some bs' → (bs.length = n ∧ ∀ bl ∈ bs, bl.length ≤ 2 ∧ ∀ p ∈ bl, p < n) → bs'.length = n ∧ ∀ bl ∈ bs', bl.length ≤ 2 ∧ ∀ p ∈ bl, p < n
  | [], bs, bs', h, hb => by
    have h : some bs = some bs' := h
    injection h with h
    rw [← h]; exact hb
  | (a, b) :: l, bs, bs', h, hb => by
    rw [gluF] at h
    split at h
    · rename_i hc
      obtain ⟨i, rfl, hi⟩ := inR_true (freeB_in hc.2.1)
      obtain ⟨j, rfl, hj⟩ := inR_true (freeB_in hc.2.2)
      refine gluF_ok n l _ bs' h ⟨by simpa using hb.1, fun bl hbl => ?_⟩
      rcases List.mem_or_eq_of_mem_set hbl with hbl | rfl
      · rcases List.mem_or_eq_of_mem_set hbl with hbl | rfl
        · exact hb.2 bl hbl
        · refine ⟨by simp, fun p hp => ?_⟩
          simp at hp
          omega
      · exact ⟨by simp, fun p hp => by cases hp⟩
    · cases h
theorem glInit_ok (n : Nat) : (glInit n).length = n ∧ ∀ bl ∈ glInit n, bl.length ≤ 2 ∧ ∀ p ∈ bl, p < n := by
  refine ⟨glInit_length n, fun bl hbl => ?_⟩
  obtain ⟨p, hp, rfl⟩ := List.mem_map.1 hbl
  refine ⟨by simp, fun q hq => ?_⟩
  simp at hq
  subst hq
  simpa using hp
theorem encJ_toI (l : List Nat) : encJ (toI l) = encN l := by simp [encJ, toI, encN]
/-- The blocks that Glue lays: as many as are not empty. -/
def glB (L : List Nat) (l : List (Int × Int)) : Option (List (List Nat)) := (gluF L.length l (glInit L.length)).map (fun bs => bs.filter (fun b => !b.isEmpty))
/-- What Glue answers: a list, or the error's number. -/
def glueF (L : List Nat) (l : List (Int × Int)) : List Nat × Int :=
  match glB L l with
  | none => ([], 1)
  | some bs => if (sortOf (betw L bs)).length = bs.length then (if linB L (toI (sbOf L bs).flatten) = true then ((sbOf L bs).flatten, 0) else ([], 3)) else ([], 3)
def GlueAns (w w' : World) (r : List Nat × Int) (e : Ending) : Prop := ∃ v, e = .returned (.tuple #[v, .int .i64 r.2]) ∧ (r.2 = 0 → w'.ownsRow w.heap.size 3 1 v r.1.length (encN r.1)) ∧ (r.2 ≠ 0 → v = .slice none 0 0)
set_option maxRecDepth 100000 in
set_option maxHeartbeats 2000000 in
theorem oGlue_calls (b c : Nat) (L : List Nat) (v : Value) (l : List (Int × Int)) (w : World) (h : IsRel w b c L) (hT : Tab w) (hv : ∃ p cap, v = .slice p l.length cap ∧ (0 < l.length → ∃ s o, p = some ⟨s, o, none⟩ ∧ PairsAt w s o l)) (hm : l.length ≤ 9223372036854775807) :
    Calls Tryd.prog 19 #[pv b, v] w fun e w' => GlueAns w w' (glueF L l) e ∧ Below w.heap.size w w' := by
  have hl := h.len
  have hg := oGlued_calls L.length hl v l w hv hm
  cases hgl : gluF L.length l (glInit L.length) with
  | none =>
    have er : glueF L l = ([], 1) := by simp [glueF, glB, hgl]
    rw [er]
    have HGL := hid_of hgl
    clear hgl er
    go_enter Tryd.func19, Tryd.ntmps19
    go_wp2_with (first | (go_at_call 30; refine (Len_calls b c L _ h).mono ?_; rintro e w' ⟨rfl, hw'⟩; obtain rfl : w = w' := hw'.symm) | (go_at_call 46; refine hg.mono ?_; rintro e w1 ⟨⟨hA, _⟩, hB1⟩; obtain rfl := hA HGL.out))
    go_ret2
    exact ⟨⟨_, rfl, (fun e => absurd e (by decide)), fun _ => rfl⟩, hB1⟩
  | some bs0 =>
    obtain ⟨hb0, hb1⟩ := gluF_ok L.length l _ bs0 hgl (glInit_ok L.length)
    have hfl : (bs0.filter (fun b => !b.isEmpty)).length ≤ 256 := Nat.le_trans (List.length_filter_le _ _) (by omega)
    have hfp : ∀ bl ∈ bs0.filter (fun b => !b.isEmpty), (0 < bl.length ∧ bl.length ≤ 256) ∧ ∀ p ∈ bl, p < L.length := fun bl hbl => by
      obtain ⟨h1, h2⟩ := List.mem_filter.1 hbl
      have h3 := hb1 bl h1
      refine ⟨⟨?_, by omega⟩, h3.2⟩
      cases bl with
      | nil => simp at h2
      | cons _ _ => simp
    have er : glueF L l = if (sortOf (betw L (bs0.filter (fun b => !b.isEmpty)))).length = (bs0.filter (fun b => !b.isEmpty)).length then (if linB L (toI (sbOf L (bs0.filter (fun b => !b.isEmpty))).flatten) = true then ((sbOf L (bs0.filter (fun b => !b.isEmpty))).flatten, 0) else ([], 3)) else ([], 3) := by simp [glueF, glB, hgl]
    have HER := hid_of er
    have HGL := hid_of hgl
    have HFP := hid_of hfp
    clear hgl er hfp hb1
    generalize hbs : bs0.filter (fun b => !b.isEmpty) = bs at *
    have HBS := hid_of hbs
    clear hbs
    have hgl : gluF L.length l (glInit L.length) = some bs0 := HGL.out
    by_cases hX : (sortOf (betw L bs)).length = bs.length
    · have hsb : (sbOf L bs).length ≤ 256 ∧ ∀ bl ∈ sbOf L bs, 0 < bl.length ∧ bl.length ≤ 256 := by
        refine ⟨by simp [sbOf, hX]; omega, fun bl hbl => ?_⟩
        obtain ⟨j, hj, rfl⟩ := List.mem_map.1 hbl
        have hjn := sortOf_lt (betw L bs) j hj
        rw [betw_length] at hjn
        have hm2 : bs.getD j [] ∈ bs := by
          rw [List.getD_eq_getElem?_getD, List.getElem?_eq_getElem hjn]
          exact List.getElem_mem _
        exact (HFP.out _ hm2).1
      have hr := HER.out
      rw [if_pos hX] at hr
      have HX := hid_of hX
      clear HER HGL hX
      go_enter Tryd.func19, Tryd.ntmps19
      go_wp2_with (first | (go_at_call 30; refine (Len_calls b c L _ h).mono ?_; rintro e w' ⟨rfl, hw'⟩; obtain rfl : w = w' := hw'.symm) | (go_at_call 46; refine hg.mono ?_; rintro e w1 ⟨⟨_, hA⟩, hB1⟩; obtain ⟨v1, rfl, hbv⟩ := hA bs0 hgl))
      rw [HBS.out] at hbv
      refine (oSortB_calls b c L v1 bs w1 (h.below hB1) (hT.step hB1) hbv hfl (fun bl hb => ⟨(HFP.out bl hb).1.2, (HFP.out bl hb).2⟩)).mono ?_
      rintro e w2 ⟨v2, code, rfl, ⟨hS1, _⟩, hB2⟩
      obtain ⟨rfl, hbv2⟩ := hS1 HX.out
      have hBw2 : Below w.heap.size w w2 := below_step hB1 hB1.size hB2
      have hcat := slConcat_calls v2 (sbOf L bs) w2 hbv2 hsb.1 hsb.2
      clear hbv hbv2 hsb hS1 hA
      generalize sbOf L bs = sb at *
      go_wp2_with fail
      refine hcat.mono ?_
      rintro e w3 ⟨v3, rfl, ho3, hB3⟩
      have hBw3 : Below w.heap.size w w3 := below_step hBw2 hBw2.size hB3
      have hI3 : IntsR w3 v3 (toI sb.flatten) := owns_intsR (base := w2.heap.size) (by
        rw [toI_length, encJ_toI]
        exact ho3)
      have hlin := oLinear_calls b c L v3 (toI sb.flatten) w3 (h.below hBw3) (hT.step hBw3) hI3
      have HO3 := hid_of ho3
      clear hcat ho3 hI3 hg
      generalize toI sb.flatten = tf at *
      cases hlb : linB L tf
      · rw [hlb] at hlin
        have HRR : Hid (glueF L l = ([], 3)) := hr.trans (by rw [hlb]; simp)
        clear hr hlb
        go_wp2_with (go_at_call 21; refine hlin.mono ?_; rintro e w4 ⟨rfl, hB4⟩)
        go_ret2
        rw [HRR.out]
        exact ⟨⟨_, rfl, (fun e => absurd e (by decide)), fun _ => rfl⟩, below_step hBw3 hBw3.size hB4⟩
      · rw [hlb] at hlin
        have HRR : Hid (glueF L l = (sb.flatten, 0)) := hr.trans (by rw [hlb]; simp)
        clear hr hlb
        go_wp2_with (go_at_call 21; refine hlin.mono ?_; rintro e w4 ⟨rfl, hB4⟩)
        go_ret2
        rw [HRR.out]
        exact ⟨⟨_, rfl, (fun _ => owns_below' (owns_lo HO3.out hBw2.size) hB4), fun e => absurd rfl e⟩, below_step hBw3 hBw3.size hB4⟩
    · have HRR : Hid (glueF L l = ([], 3)) := HER.out.trans (by rw [if_neg hX])
      have HX := hid_of hX
      clear HER HGL hX
      go_enter Tryd.func19, Tryd.ntmps19
      go_wp2_with (first | (go_at_call 30; refine (Len_calls b c L _ h).mono ?_; rintro e w' ⟨rfl, hw'⟩; obtain rfl : w = w' := hw'.symm) | (go_at_call 46; refine hg.mono ?_; rintro e w1 ⟨⟨_, hA⟩, hB1⟩; obtain ⟨v1, rfl, hbv⟩ := hA bs0 hgl))
      rw [HBS.out] at hbv
      refine (oSortB_calls b c L v1 bs w1 (h.below hB1) (hT.step hB1) hbv hfl (fun bl hb => ⟨(HFP.out bl hb).1.2, (HFP.out bl hb).2⟩)).mono ?_
      rintro e w2 ⟨v2, code, rfl, ⟨_, hS2⟩, hB2⟩
      obtain rfl := hS2 HX.out
      go_wp2_with fail
      go_ret2
      rw [HRR.out]
      exact ⟨⟨_, rfl, (fun e => absurd e (by decide)), fun _ => rfl⟩, below_step hB1 hB1.size hB2⟩
end Go.Proofs.YtmmgdeoballhpaaDoor
/- The statements' own helpers: ints, small, round. -/
namespace Go.Proofs.YtmmgdeoballhpaaDoor
open Go.RowKit Go.Shelf Sx

theorem intsR_form {w : World} {v : Value} {l : List Int} (h : IntsR w v l) : ∃ p cap, v = .slice p l.length cap ∧ (0 < l.length → ∃ s o, p = some ⟨s, o, none⟩ ∧ s < w.heap.size ∧ ∀ (i : Nat) (x : Int), l[i]? = some x → w.cell? ⟨s, o + i, none⟩ = some (.int .i64 x)) := by
  rcases h with ⟨a, cap, rfl, rfl⟩ | ⟨s, o, cap, rfl, h1, h2⟩
  · exact ⟨_, _, rfl, fun h => by simp at h⟩
  · exact ⟨_, _, rfl, fun _ => ⟨s, o, rfl, h1, h2⟩⟩
set_option maxRecDepth 100000 in
set_option maxHeartbeats 1000000 in
theorem ints2_calls (v1 v2 : Value) (a b : List Int) (w : World) (h1 : IntsR w v1 a) (h2 : IntsR w v2 b) (hm : a.length ≤ 9223372036854775807) :
    Calls Tryd.prog 20 #[v1, v2] w fun e w' => e = .returned (.bool (a == b)) ∧ Below w.heap.size w w' := by
  obtain ⟨p1, c1, rfl, hp1⟩ := intsR_form h1
  obtain ⟨p2, c2, rfl, hp2⟩ := intsR_form h2
  have HP1 := hid_of hp1
  have HP2 := hid_of hp2
  clear hp1 hp2 h1 h2
  by_cases hl : a.length = b.length
  · have hn : ((a.length : Int) != (b.length : Int)) = false := by rw [hl]; simp
    have HL := hid_of hl
    have HRE : Hid (∀ r : Bool, (a == b) = r → (a == b) = r) := fun _ h => h
    clear hl
    generalize hr : (a == b) = r at *
    have HR := hid_of hr
    clear hr
    go_enter Tryd.func20, Tryd.ntmps20
    go_wp2_with fail
    go_loopw [5] (fun i wr => ∃ k : Nat, k ≤ a.length ∧ i = .int .i64 k ∧ Hid (∀ i, i < k → a[i]? = b[i]?) ∧ Below w.heap.size w wr) (fun i _ => a.length - (intOf i).toNat)
    case atStart => exact ⟨0, by omega, rfl, fun i h => by omega, Below.refl _ _⟩
    case round =>
      obtain ⟨k, hk, rfl, HC, hB⟩ := hrel
      by_cases hlt : k < a.length
      · have hltB : k < b.length := by rw [← HL.out]; exact hlt
        obtain ⟨s1, o1, rfl, l1, k1⟩ := HP1.out (by omega)
        obtain ⟨s2, o2, rfl, l2, k2⟩ := HP2.out (by omega)
        obtain ⟨x, hx⟩ : ∃ x, a[k]? = some x := ⟨_, List.getElem?_eq_getElem hlt⟩
        obtain ⟨y, hy⟩ : ∃ y, b[k]? = some y := ⟨_, List.getElem?_eq_getElem hltB⟩
        have x0 := (hB.cell (p := ⟨s1, o1 + k, none⟩) l1).trans (k1 k x hx)
        have y0 := (hB.cell (p := ⟨s2, o2 + k, none⟩) l2).trans (k2 k y hy)
        have HX := hid_of hx
        have HY := hid_of hy
        clear hx hy k1 k2
        cases hq : (x != y)
        · have Hq : Hid (x = y) := by show x = y; simpa using hq
          go_wp2_with fail
          go_quiet (fail)
          go_wp2_with fail
          refine ⟨⟨k + 1, by omega, by go_num, ?_, below_drewN hB _⟩, by simp [intOf]; omega⟩
          intro i hi
          by_cases e : i = k
          · rw [e, HX.out, HY.out, Hq.out]
          · exact HC.out i (by omega)
        · have Hq : Hid (¬ x = y) := by show ¬ x = y; simpa using hq
          have er : r = false := by
            rw [← HR.out, beq_eq_false_iff_ne]
            intro e
            have h1 := HX.out
            rw [e, HY.out] at h1
            injection h1 with h1
            exact Hq.out h1.symm
          subst er
          go_wp2_with fail
          go_quiet (fail)
          go_wp2_with fail
          go_ret
          exact ⟨rfl, below_drewN hB _⟩
      · obtain rfl : k = a.length := by omega
        have er : r = true := by
          rw [← HR.out, beq_iff_eq]
          apply List.ext_getElem?
          intro i
          by_cases hi : i < a.length
          · exact HC.out i hi
          · rw [List.getElem?_eq_none (by omega), List.getElem?_eq_none (by have := HL.out; omega)]
        subst er
        go_wp2_with fail
        go_ret
        exact ⟨rfl, hB⟩
  · have hn : ((a.length : Int) != (b.length : Int)) = true := by simp; omega
    have e : (a == b) = false := by
      rw [beq_eq_false_iff_ne]
      intro e
      exact hl (by rw [e])
    rw [e]
    go_enter Tryd.func20, Tryd.ntmps20
    go_wp2_with fail
    go_ret
    exact ⟨rfl, Below.refl _ _⟩
def smL : List (Int × Int) := [(2, 0), (3, 1)]
def smR : List Nat := [0, 0, 1, 2]
theorem smR_eq : ofL 4 smL = smR := by decide +kernel
def rdL : List (Int × Int) := [(0, 1), (1, 0), (1, 4), (3, 3), (4, 2)]
def rdR : List Nat := [2, 17, 0, 8, 4]
theorem rdR_eq : ofL 5 rdL = rdR := by decide +kernel
set_option maxHeartbeats 1000000 in
theorem small2_calls (w : World) : Calls Tryd.prog 9 #[] w fun e w' => ∃ b c, e = .returned (pv b) ∧ Made w w' b c smR := by
  have hP : PairsAt (w.alloc (.cells #[.int .i64 2, .int .i64 0, .int .i64 3, .int .i64 1] 37)) w.heap.size 0 smL := by
    have hk := Blk.new w 37 #[.int .i64 2, .int .i64 0, .int .i64 3, .int .i64 1]
    refine ⟨by simp, ?_, ?_⟩
    all_goals
      intro i x hx
      match i with
      | 0 => simp [smL] at hx; subst hx; exact hk.cell rfl
      | 1 => simp [smL] at hx; subst hx; exact hk.cell rfl
      | i + 2 => simp [smL] at hx
  have HP := hid_of hP
  clear hP
  have HC := hid_of (Of_calls 4 w.heap.size 0 2 smL _ HP.out (by decide))
  rw [smR_eq] at HC
  go_enter Tryd.func9, Tryd.ntmps9
  go_wp2_with fail
  refine HC.out.mono ?_
  rintro e w1 ⟨b, c, rfl, hM⟩
  go_wp2_with fail
  go_ret
  refine ⟨b, c, rfl, hM.rel, ?_, ?_, ?_⟩
  · have := hM.hb; simp at this; omega
  · have := hM.hc; simp at this; omega
  · exact ((Below.refl _ w).alloc (Nat.le_refl _) _).trans (hM.below.mono (by simp))
set_option maxHeartbeats 1000000 in
theorem round2_calls (w : World) : Calls Tryd.prog 10 #[] w fun e w' => ∃ b c, e = .returned (pv b) ∧ Made w w' b c rdR := by
  have hP : PairsAt (w.alloc (.cells #[.int .i64 0, .int .i64 1, .int .i64 1, .int .i64 0, .int .i64 1, .int .i64 4, .int .i64 3, .int .i64 3, .int .i64 4, .int .i64 2] 37)) w.heap.size 0 rdL := by
    have hk := Blk.new w 37 #[.int .i64 0, .int .i64 1, .int .i64 1, .int .i64 0, .int .i64 1, .int .i64 4, .int .i64 3, .int .i64 3, .int .i64 4, .int .i64 2]
    refine ⟨by simp, ?_, ?_⟩
    all_goals
      intro i x hx
      match i with
      | 0 => simp [rdL] at hx; subst hx; exact hk.cell rfl
      | 1 => simp [rdL] at hx; subst hx; exact hk.cell rfl
      | 2 => simp [rdL] at hx; subst hx; exact hk.cell rfl
      | 3 => simp [rdL] at hx; subst hx; exact hk.cell rfl
      | 4 => simp [rdL] at hx; subst hx; exact hk.cell rfl
      | i + 5 => simp [rdL] at hx
  have HP := hid_of hP
  clear hP
  have HC := hid_of (Of_calls 5 w.heap.size 0 5 rdL _ HP.out (by decide))
  rw [rdR_eq] at HC
  go_enter Tryd.func10, Tryd.ntmps10
  go_wp2_with fail
  refine HC.out.mono ?_
  rintro e w1 ⟨b, c, rfl, hM⟩
  go_wp2_with fail
  go_ret
  refine ⟨b, c, rfl, hM.rel, ?_, ?_, ?_⟩
  · have := hM.hb; simp at this; omega
  · have := hM.hc; simp at this; omega
  · exact ((Below.refl _ w).alloc (Nat.le_refl _) _).trans (hM.below.mono (by simp))
theorem sort_sm : sortOf smR = [2, 0, 3, 1] := by decide +kernel
theorem sort_rd : (sortOf rdR).length ≠ rdR.length := by decide +kernel
theorem glue_sm : glueF smR [(2, 3)] = ([2, 3, 0, 1], 0) := by decide +kernel
theorem lin_sm : linB smR [2, 0, 3, 1] = true ∧ linB smR [0, 1, 2, 3] = false := by decide +kernel
end Go.Proofs.YtmmgdeoballhpaaDoor
/- The statements' lives. -/
namespace Go.Proofs.YtmmgdeoballhpaaDoor
open Go.RowKit Go.Shelf Sx

theorem four_ints (w : World) (a b c d : Int) : IntsR (w.alloc (.cells #[.int .i64 a, .int .i64 b, .int .i64 c, .int .i64 d] 3)) (.slice (some ⟨w.heap.size, 0, none⟩) 4 4) [a, b, c, d] := by
  have hk := Blk.new w 3 #[.int .i64 a, .int .i64 b, .int .i64 c, .int .i64 d]
  refine .inr ⟨w.heap.size, 0, 4, rfl, hk.lt, fun i x hx => ?_⟩
  match i with
  | 0 => simp at hx; subst hx; exact hk.cell rfl
  | 1 => simp at hx; subst hx; exact hk.cell rfl
  | 2 => simp at hx; subst hx; exact hk.cell rfl
  | 3 => simp at hx; subst hx; exact hk.cell rfl
  | i + 4 => simp at hx
set_option maxRecDepth 100000 in
set_option maxHeartbeats 2000000 in
theorem lives2_calls (w : World) (hT : Tab w) : Calls Tryd.prog 11 #[] w fun e w' => e = .returned (.bool true) ∧ Below w.heap.size w w' := by
  go_enter Tryd.func11, Tryd.ntmps11
  go_wp2_with fail
  refine (small2_calls _).mono ?_
  rintro e w1 ⟨b1, c1, rfl, hM1⟩
  have hB1 := hM1.below
  have hT1 := hT.step hB1
  go_wp2_with fail
  refine (oSort_calls b1 c1 smR w1 hM1.rel hT1).mono ?_
  rintro e w2 ⟨v2, code2, rfl, ⟨hS2, _⟩, hB2⟩
  obtain ⟨rfl, ho2⟩ := hS2 (by rw [sort_sm]; rfl)
  rw [sort_sm] at ho2
  have hI2 : IntsR w2 v2 [2, 0, 3, 1] := owns_intsR (base := w1.heap.size) ho2
  have hBw2 : Below w.heap.size w w2 := below_step hB1 hB1.size hB2
  clear hS2 ho2 hM1 hB1 hT1 hB2
  go_wp2_with fail
  refine (round2_calls _).mono ?_
  rintro e w3 ⟨b3, c3, rfl, hM3⟩
  have hBw3 : Below w.heap.size w w3 := below_step hBw2 hBw2.size hM3.below
  have hI3 := hI2.below hM3.below
  go_wp2_with fail
  refine (oSort_calls b3 c3 rdR w3 hM3.rel (hT.step hBw3)).mono ?_
  rintro e w4 ⟨v4, code4, rfl, ⟨_, hS4⟩, hB4⟩
  obtain ⟨rfl, rfl⟩ := hS4 sort_rd
  have hBw4 : Below w.heap.size w w4 := below_step hBw3 hBw3.size hB4
  have hI4 := hI3.below hB4
  clear hS4 hM3 hI2 hI3 hBw2 hBw3 hB4
  go_wp2_with fail
  refine (small2_calls _).mono ?_
  rintro e w5 ⟨b5, c5, rfl, hM5⟩
  have hBw5 : Below w.heap.size w w5 := below_step hBw4 hBw4.size hM5.below
  have hI5 := hI4.below hM5.below
  have hr5 := hM5.rel
  clear hM5 hI4 hBw4
  have hbA := (Below.refl w5.heap.size w5).alloc (Nat.le_refl _) (.cells #[.int .i64 2, .int .i64 3] 37)
  have hPA : PairsAt (w5.alloc (.cells #[.int .i64 2, .int .i64 3] 37)) w5.heap.size 0 [(2, 3)] := by
    have hk := Blk.new w5 37 #[.int .i64 2, .int .i64 3]
    refine ⟨by simp, ?_, ?_⟩
    all_goals
      intro i x hx
      match i with
      | 0 => simp at hx; subst hx; exact hk.cell rfl
      | i + 1 => simp at hx
  have hBA : Below w.heap.size w (w5.alloc (.cells #[.int .i64 2, .int .i64 3] 37)) := below_step hBw5 hBw5.size hbA
  have hG := oGlue_calls b5 c5 smR (.slice (some ⟨w5.heap.size, 0, none⟩) 1 1) [(2, 3)] _ (hr5.below hbA) (hT.step hBA) ⟨_, _, rfl, fun _ => ⟨_, _, rfl, hPA⟩⟩ (by decide)
  rw [glue_sm] at hG
  have HG := hid_of hG
  clear hG hPA
  go_wp2_with fail
  refine HG.out.mono ?_
  rintro e w6 ⟨⟨v6, rfl, ho6, _⟩, hB6⟩
  have hI6m : IntsR w6 v6 [2, 3, 0, 1] := owns_intsR (ho6 rfl)
  have hI6 := (hI5.below hbA).below hB6
  have hBw6 : Below w.heap.size w w6 := below_step hBA hBA.size hB6
  clear ho6 HG hI5 hbA hBA hB6 hr5 hBw5
  go_wp2_with fail
  refine (ints2_calls v2 _ _ _ _ (hI6.below ((Below.refl _ _).alloc (Nat.le_refl _) _)) (four_ints w6 2 0 3 1) (by decide)).mono ?_
  rintro e w7 ⟨rfl, hB7⟩
  have hbA6 := (Below.refl w6.heap.size w6).alloc (Nat.le_refl _) (.cells #[.int .i64 2, .int .i64 0, .int .i64 3, .int .i64 1] 3)
  have hBw7 : Below w.heap.size w w7 := below_step (below_step hBw6 hBw6.size hbA6) (by have := hBw6.size; simp; omega) hB7
  have hI7 := (hI6.below hbA6).below hB7
  have hJ7 := (hI6m.below hbA6).below hB7
  clear hI6 hI6m hbA6 hB7 hBw6
  rw [show (([2, 0, 3, 1] : List Int) == [2, 0, 3, 1]) = true from by decide]
  go_wp2_with fail
  refine (ints2_calls v6 _ _ _ _ (hJ7.below ((Below.refl _ _).alloc (Nat.le_refl _) _)) (four_ints w7 2 3 0 1) (by decide)).mono ?_
  rintro e w8 ⟨rfl, hB8⟩
  have hbA7 := (Below.refl w7.heap.size w7).alloc (Nat.le_refl _) (.cells #[.int .i64 2, .int .i64 3, .int .i64 0, .int .i64 1] 3)
  have hBw8 : Below w.heap.size w w8 := below_step (below_step hBw7 hBw7.size hbA7) (by have := hBw7.size; simp; omega) hB8
  have hI8 := (hI7.below hbA7).below hB8
  clear hI7 hJ7 hbA7 hB8 hBw7
  rw [show (([2, 3, 0, 1] : List Int) == [2, 3, 0, 1]) = true from by decide]
  go_wp2_with fail
  refine (small2_calls _).mono ?_
  rintro e w9 ⟨b9, c9, rfl, hM9⟩
  have hBw9 : Below w.heap.size w w9 := below_step hBw8 hBw8.size hM9.below
  have hl9 := oLinear_calls b9 c9 smR v2 _ w9 hM9.rel (hT.step hBw9) (hI8.below hM9.below)
  rw [lin_sm.1] at hl9
  go_wp2_with fail
  refine hl9.mono ?_
  rintro e wa ⟨rfl, hBa⟩
  have hBwa : Below w.heap.size w wa := below_step hBw9 hBw9.size hBa
  clear hl9 hM9 hI8 hBw8 hBw9 hBa
  go_wp2_with fail
  refine (small2_calls _).mono ?_
  rintro e wb ⟨bb, cb, rfl, hMb⟩
  have hBwb : Below w.heap.size w wb := below_step hBwa hBwa.size hMb.below
  have hbAb := (Below.refl wb.heap.size wb).alloc (Nat.le_refl _) (.cells #[.int .i64 0, .int .i64 1, .int .i64 2, .int .i64 3] 3)
  have hBwc : Below w.heap.size w (wb.alloc (.cells #[.int .i64 0, .int .i64 1, .int .i64 2, .int .i64 3] 3)) := below_step hBwb hBwb.size hbAb
  have hlb := oLinear_calls bb cb smR _ _ _ (hMb.rel.below hbAb) (hT.step hBwc) (four_ints wb 0 1 2 3)
  rw [lin_sm.2] at hlb
  clear hMb hbAb
  go_wp2_with fail
  refine hlb.mono ?_
  rintro e wd ⟨rfl, hBd⟩
  go_wp2_with fail
  go_ret
  exact ⟨rfl, below_step hBwc hBwc.size hBd⟩
end Go.Proofs.YtmmgdeoballhpaaDoor
/- The statements' twice. -/
namespace Go.Proofs.YtmmgdeoballhpaaDoor
open Go.RowKit Go.Shelf Sx

set_option maxRecDepth 100000 in
set_option maxHeartbeats 1000000 in
/-- twice: the first list is written over; what the second and the wanted one hold must not lie in it. -/
theorem twice_calls (va vb vw : Value) (la lb lw : List Int) (base : Nat) (w : World) (ha : w.ownsRow base 3 1 va la.length (encJ la)) (hbase : base ≤ w.heap.size)
    (hb : ∀ w', (∀ k, k < w.heap.size → some k ≠ va.ownBlock → w'.heap[k]? = w.heap[k]?) → w.heap.size ≤ w'.heap.size → IntsR w' vb lb ∧ IntsR w' vw lw) (hm : la.length ≤ 65536) (hm2 : lb.length ≤ 65536) :
    Calls Tryd.prog 26 #[va, vb, vw] w fun e w' => e = .returned (.bool (la == lw && lb == lw)) ∧ Below base w w' := by
  have hIA := owns_intsR ha
  obtain ⟨hIb, hIw⟩ := hb w (fun _ _ _ => rfl) (Nat.le_refl _)
  have h1 := ints2_calls va vw la lw w hIA hIw (by omega)
  have HB := hid_of hb
  obtain ⟨pa, ca, hva⟩ := owns_len ha
  subst hva
  have HA := hid_of ha
  clear hIA hIb hIw hb ha
  generalize hq : (la == lw) = q at *
  clear hq
  go_enter Tryd.func26, Tryd.ntmps26
  go_wp2_with fail
  refine h1.mono ?_
  rintro e w1 ⟨rfl, hB1⟩
  have HA1 := hid_of (owns_below' HA.out hB1)
  clear h1
  go_wp2_with fail
  go_loopw [8] (fun i wr => ∃ (k : Nat) (xs : List Value), k ≤ la.length ∧ i = .int .i64 k ∧ Hid (wr.ownsRow base 3 1 (.slice pa la.length ca) la.length xs ∧ ∀ u ∈ xs, ∃ z, u = .int .i64 z) ∧ Hid (∀ k, k < w.heap.size → some k ≠ (Value.slice pa la.length ca).ownBlock → wr.heap[k]? = w.heap[k]?) ∧ w.heap.size ≤ wr.heap.size ∧ Below base w wr) (fun i _ => la.length - (intOf i).toNat)
  case atStart => exact ⟨0, _, by omega, rfl, ⟨HA1.out, fun u hu => by obtain ⟨z, _, rfl⟩ := List.mem_map.1 hu; exact ⟨z, rfl⟩⟩, fun k hk _ => hB1.block k hk, hB1.size, hB1.mono hbase⟩
  case round =>
    clear HA1 hB1
    obtain ⟨k, xs, hk, rfl, HO, HK, hz, hB⟩ := hrel
    by_cases hlt : k < la.length
    · obtain ⟨ho, hxs⟩ := HO.out
      rcases hf : ho.2 with ⟨_, e⟩ | ⟨g, cap, cur, e, hg, hcur, _⟩
      · omega
      · injection e with e _ e3
        subst e
        subst e3
        have hl : xs.length = la.length := by have := ho.1; omega
        obtain ⟨x, hx⟩ := hxs (xs[k]'(by omega)) (List.getElem_mem _)
        have ck := ho.cellAt k (by omega)
        rw [List.getElem?_eq_getElem (by omega), hx] at ck
        have fk := ho.frozenAt k
        have bk0 : (0 : Int) ≤ ((k : Nat) : Int) := by omega
        have bk1 : ((k : Nat) : Int) < ((la.length : Nat) : Int) := by omega
        have HO2 := hid_of (ho.stored k (.int .i64 (-5)))
        have HXS := hid_of hxs
        clear ho hxs hf hcur hx HO
        go_wp2_with fail
        refine ⟨⟨k + 1, xs.set k (.int .i64 (-5)), by omega, by go_num, ⟨HO2.out.1, fun u hu => ?_⟩, fun i hi hne => ?_, by simpa [World.setCell] using hz, hB.setCell (by simpa using hg) _⟩, by simp [intOf]; omega⟩
        · rcases List.mem_or_eq_of_mem_set hu with hu | rfl
          · exact HXS.out u hu
          · exact ⟨_, rfl⟩
        · refine (Below.heap_setCell _ _ _ _ ?_).trans (HK.out i hi hne)
          intro e
          have e : i = g := e
          exact hne (by simp [Value.ownBlock, e])
    · obtain rfl : k = la.length := by omega
      cases q
      · go_wp2_with fail
        go_ret
        exact ⟨rfl, hB⟩
      · obtain ⟨hIb, hIw⟩ := HB.out wr HK.out hz
        have h2 := ints2_calls vb vw lb lw wr hIb hIw (by omega)
        generalize hq2 : (lb == lw) = q2 at h2
        have HQ2 := hid_of hq2
        clear hq2
        go_wp2_with fail
        refine h2.mono ?_
        rintro e w2 ⟨rfl, hB2⟩
        go_wp2_with fail
        go_ret
        exact ⟨by rw [Bool.true_and, HQ2.out]; rfl, hB.trans (hB2.mono (by omega))⟩
end Go.Proofs.YtmmgdeoballhpaaDoor
