/- Graphs in memory: events, lists of lists, a graph, the book. -/
import Derived.Test.YtmmadkghojoniaaGreatDoorJ09
import Derived.Test.YtmmadkghojoniaaGreatDoorJ10
import Derived.Test.YtmmadkghojoniaaGreatDoorTk
import Derived.Test.YtmmadkghojoniaaGreatDoorRoundAny
import Derived.Maps.AppendAt
namespace Go.Proofs.YtmmadkghojoniaaGreatDoor
open Go.RowKit Go.Shelf Sx
structure Ev where
  t : Int
  k : Int
  l : Int
  v : Int
  m : Int
def Ev.dec (a b : Ev) : Decidable (a = b) :=
  decidable_of_iff (a.t = b.t ∧ a.k = b.k ∧ a.l = b.l ∧ a.v = b.v ∧ a.m = b.m) ⟨fun h => by obtain ⟨x1, x2, x3, x4, x5⟩ := a; obtain ⟨y1, y2, y3, y4, y5⟩ := b; obtain ⟨h1, h2, h3, h4, h5⟩ := h; dsimp only at h1 h2 h3 h4 h5; subst h1 h2 h3 h4 h5; rfl, fun h => by subst h; exact ⟨rfl, rfl, rfl, rfl, rfl⟩⟩
def Ev.ndec (a b : Ev) : Decidable (a ≠ b) := @instDecidableNot _ (Ev.dec a b)
theorem Ev.ndec_false {a b : Ev} (h : @decide (a ≠ b) (Ev.ndec a b) = false) : a = b := Classical.not_not.1 (@of_decide_eq_false _ (Ev.ndec a b) h)
structure EvsAt (w : World) (s o : Nat) (l : List Ev) : Prop where
  lt : s < w.heap.size
  c0 : ∀ (i : Nat) (e : Ev), l[i]? = some e → w.cell? ⟨s, o + i * 5, none⟩ = some (.int .i64 e.t)
  c1 : ∀ (i : Nat) (e : Ev), l[i]? = some e → w.cell? ⟨s, o + i * 5 + 1, none⟩ = some (.int .i64 e.k)
  c2 : ∀ (i : Nat) (e : Ev), l[i]? = some e → w.cell? ⟨s, o + i * 5 + 2, none⟩ = some (.int .i64 e.l)
  c3 : ∀ (i : Nat) (e : Ev), l[i]? = some e → w.cell? ⟨s, o + i * 5 + 3, none⟩ = some (.int .u64 e.v)
  c4 : ∀ (i : Nat) (e : Ev), l[i]? = some e → w.cell? ⟨s, o + i * 5 + 4, none⟩ = some (.int .i64 e.m)
theorem EvsAt.below {w w' : World} {s o : Nat} {l : List Ev} (h : EvsAt w s o l) (hb : Below w.heap.size w w') : EvsAt w' s o l :=
  ⟨Nat.lt_of_lt_of_le h.lt hb.size, fun i e he => (hb.cell (p := ⟨s, o + i * 5, none⟩) h.lt).trans (h.c0 i e he), fun i e he => (hb.cell (p := ⟨s, o + i * 5 + 1, none⟩) h.lt).trans (h.c1 i e he), fun i e he => (hb.cell (p := ⟨s, o + i * 5 + 2, none⟩) h.lt).trans (h.c2 i e he), fun i e he => (hb.cell (p := ⟨s, o + i * 5 + 3, none⟩) h.lt).trans (h.c3 i e he), fun i e he => (hb.cell (p := ⟨s, o + i * 5 + 4, none⟩) h.lt).trans (h.c4 i e he)⟩
def EvArg (w : World) (v : Value) (l : List Ev) : Prop := ∃ p cap, v = .slice p l.length cap ∧ (0 < l.length → ∃ s o, p = some ⟨s, o, none⟩ ∧ EvsAt w s o l) ∧ l.length * 40 ≤ 140737488355328 ∧ l.length ≤ cap
theorem EvArg.below {w w' : World} {v : Value} {l : List Ev} (h : EvArg w v l) (hb : Below w.heap.size w w') : EvArg w' v l := by
  obtain ⟨p, cap, e, h1, h2⟩ := h
  refine ⟨p, cap, e, fun h0 => ?_, h2⟩
  obtain ⟨s, o, e2, h3⟩ := h1 h0
  exact ⟨s, o, e2, h3.below hb⟩
def CoArg (w : World) (v : Value) (ls : List (List Int)) : Prop := ∃ p cap, v = .slice p ls.length cap ∧ ls.length ≤ 9223372036854775807 ∧ ∃ vs : List Value, vs.length = ls.length ∧
  (0 < ls.length → ∃ s o, p = some ⟨s, o, none⟩ ∧ s < w.heap.size ∧ ∀ (i : Nat) (u : Value), vs[i]? = some u → w.cell? ⟨s, o + i, none⟩ = some u) ∧ ∀ (i : Nat) (u : Value) (l : List Int), vs[i]? = some u → ls[i]? = some l → IntsR w u l ∧ l.length ≤ 9223372036854775807 ∧ ∃ p c, u = .slice p l.length c ∧ l.length ≤ c
theorem CoArg.below {w w' : World} {v : Value} {ls : List (List Int)} (h : CoArg w v ls) (hb : Below w.heap.size w w') : CoArg w' v ls := by
  obtain ⟨p, cap, e, hl, vs, h1, h2, h3⟩ := h
  refine ⟨p, cap, e, hl, vs, h1, fun h0 => ?_, fun i u l hu hl => ⟨(h3 i u l hu hl).1.below hb, (h3 i u l hu hl).2⟩⟩
  obtain ⟨s, o, e2, h4, h5⟩ := h2 h0
  exact ⟨s, o, e2, Nat.lt_of_lt_of_le h4 hb.size, fun i u hu => (hb.cell (p := ⟨s, o + i, none⟩) h4).trans (h5 i u hu)⟩
structure Gr where
  cells : Int
  evs : List Ev
  rf : List (Int × Int)
  co : List (List Int)
  rmw : List (Int × Int)
  addr : List (Int × Int)
  dat : List (Int × Int)
  ctrl : List (Int × Int)
structure GrV where
  ev : Value
  rf : Value
  co : Value
  rmw : Value
  addr : Value
  dat : Value
  ctrl : Value
structure GrR (w : World) (V : GrV) (g : Gr) : Prop where
  ev : EvArg w V.ev g.evs
  rf : PArg w V.rf g.rf
  co : CoArg w V.co g.co
  rmw : PArg w V.rmw g.rmw
  addr : PArg w V.addr g.addr
  dat : PArg w V.dat g.dat
  ctrl : PArg w V.ctrl g.ctrl
theorem GrR.below {w w' : World} {V : GrV} {g : Gr} (h : GrR w V g) (hb : Below w.heap.size w w') : GrR w' V g :=
  ⟨h.ev.below hb, h.rf.below hb, h.co.below hb, h.rmw.below hb, h.addr.below hb, h.dat.below hb, h.ctrl.below hb⟩
def GrV.cs (V : GrV) (g : Gr) (q : Bool) : Array Value := #[.int .i64 g.cells, V.ev, V.rf, V.co, V.rmw, V.addr, V.dat, V.ctrl, .bool q]
def GrV.val (V : GrV) (g : Gr) : Value := .agg #[.int .i64 g.cells, V.ev, V.rf, V.co, V.rmw, V.addr, V.dat, V.ctrl]
structure BkR (w : World) (b : Nat) (V : GrV) (g : Gr) (q : Bool) : Prop where
  blk : Blk w b 138 (V.cs g q)
  gr : GrR w V g
theorem BkR.below {w w' : World} {b : Nat} {V : GrV} {g : Gr} {q : Bool} (h : BkR w b V g q) (hb : Below w.heap.size w w') : BkR w' b V g q := ⟨h.blk.of_below hb, h.gr.below hb⟩
theorem BkR.cells {w : World} {b : Nat} {V : GrV} {g : Gr} {q : Bool} (h : BkR w b V g q) : w.cell? ⟨b, 0, none⟩ = some (.int .i64 g.cells) := h.blk.cell rfl
theorem BkR.evs {w : World} {b : Nat} {V : GrV} {g : Gr} {q : Bool} (h : BkR w b V g q) : w.cell? ⟨b, 1, none⟩ = some V.ev := h.blk.cell rfl
theorem BkR.rfs {w : World} {b : Nat} {V : GrV} {g : Gr} {q : Bool} (h : BkR w b V g q) : w.cell? ⟨b, 2, none⟩ = some V.rf := h.blk.cell rfl
theorem BkR.cos {w : World} {b : Nat} {V : GrV} {g : Gr} {q : Bool} (h : BkR w b V g q) : w.cell? ⟨b, 3, none⟩ = some V.co := h.blk.cell rfl
theorem BkR.rmws {w : World} {b : Nat} {V : GrV} {g : Gr} {q : Bool} (h : BkR w b V g q) : w.cell? ⟨b, 4, none⟩ = some V.rmw := h.blk.cell rfl
theorem BkR.addrs {w : World} {b : Nat} {V : GrV} {g : Gr} {q : Bool} (h : BkR w b V g q) : w.cell? ⟨b, 5, none⟩ = some V.addr := h.blk.cell rfl
theorem BkR.dats {w : World} {b : Nat} {V : GrV} {g : Gr} {q : Bool} (h : BkR w b V g q) : w.cell? ⟨b, 6, none⟩ = some V.dat := h.blk.cell rfl
theorem BkR.ctrls {w : World} {b : Nat} {V : GrV} {g : Gr} {q : Bool} (h : BkR w b V g q) : w.cell? ⟨b, 7, none⟩ = some V.ctrl := h.blk.cell rfl
theorem BkR.wds {w : World} {b : Nat} {V : GrV} {g : Gr} {q : Bool} (h : BkR w b V g q) : w.cell? ⟨b, 8, none⟩ = some (.bool q) := h.blk.cell rfl
structure Frm (w : World) : Prop where
  lt : 1 < w.heap.size
  c : ∀ j, j < 8 → w.cell? ⟨1, j, none⟩ = some (.int .i64 (([0, 0, 38, 71680, 42, 10240, 60, 49152] : List Int).getD j 0))
theorem Frm.below {w w' : World} (h : Frm w) {n : Nat} (hn : 1 < n) (hb : Below n w w') : Frm w' := ⟨Nat.lt_of_lt_of_le h.lt hb.size, fun j hj => (hb.cell (p := ⟨1, j, none⟩) hn).trans (h.c j hj)⟩
theorem Frm.step {w w' : World} (h : Frm w) (hb : Below w.heap.size w w') : Frm w' := h.below h.lt hb
def bad1 (g : Gr) : Bool := decide (g.cells < 0) || decide (4096 < g.cells) || decide ((g.evs.length : Int) < g.cells) || decide (256 < g.evs.length)
set_option maxHeartbeats 1000000 in
theorem gSizes_calls (b : Nat) (V : GrV) (g : Gr) (q : Bool) (w : World) (h : BkR w b V g q) :
    Calls Tryz.prog 116 #[pv b] w fun e w' => e = .returned (.int .i64 (if bad1 g then 0 else -1)) ∧ w' = w := by
  obtain ⟨p, cap, e, _, _⟩ := h.gr.ev
  have c0 := h.cells
  have c1 := h.evs
  rw [e] at c1
  by_cases h1 : g.cells < 0
  · rw [show bad1 g = true from by simp [bad1, h1]]
    go_enter Tryz.func116, Tryz.ntmps116
    go_wp2_with fail
    go_ret
    exact ⟨rfl, rfl⟩
  · by_cases h2 : (4096 : Int) < g.cells
    · rw [show bad1 g = true from by simp [bad1, h2]]
      go_enter Tryz.func116, Tryz.ntmps116
      go_wp2_with fail
      go_ret
      exact ⟨rfl, rfl⟩
    · by_cases h3 : ((g.evs.length : Nat) : Int) < g.cells
      · rw [show bad1 g = true from by simp [bad1, h3]]
        go_enter Tryz.func116, Tryz.ntmps116
        go_wp2_with fail
        go_ret
        exact ⟨rfl, rfl⟩
      · by_cases h4 : (256 : Int) < ((g.evs.length : Nat) : Int)
        · rw [show bad1 g = true from by simp [bad1]; omega]
          go_enter Tryz.func116, Tryz.ntmps116
          go_wp2_with fail
          go_ret
          exact ⟨rfl, rfl⟩
        · rw [show bad1 g = false from by simp [bad1]; omega]
          go_enter Tryz.func116, Tryz.ntmps116
          go_wp2_with fail
          go_ret
          exact ⟨rfl, rfl⟩
end Go.Proofs.YtmmadkghojoniaaGreatDoor
namespace Go.Proofs.YtmmadkghojoniaaGreatDoor
open Go.RowKit Go.Shelf Sx
def GrB (g : Gr) : Prop := g.rf.length * 16 ≤ 140737488355328 ∧ g.rmw.length * 16 ≤ 140737488355328 ∧ g.addr.length * 16 ≤ 140737488355328 ∧ g.dat.length * 16 ≤ 140737488355328 ∧ g.ctrl.length * 16 ≤ 140737488355328 ∧ g.co.length * 24 ≤ 140737488355328 ∧ ∀ l ∈ g.co, l.length * 8 ≤ 140737488355328
def evCell (e : Ev) : Nat → Option Value
  | 0 => some (.int .i64 e.t)
  | 1 => some (.int .i64 e.k)
  | 2 => some (.int .i64 e.l)
  | 3 => some (.int .u64 e.v)
  | 4 => some (.int .i64 e.m)
  | _ => none
end Go.Proofs.YtmmadkghojoniaaGreatDoor
namespace Go.Proofs.YtmmadkghojoniaaGreatDoor
open Go.RowKit Go.Shelf Sx
def plusRow (A : List Nat) (via p : Nat) : List Nat := if (gr A p).testBit via then A.set p (gr A p ||| gr A via) else A
def plusVia (A : List Nat) (via k : Nat) : List Nat := (List.range k).foldl (fun A p => plusRow A via p) A
def plusN (L : List Nat) (k : Nat) : List Nat := (List.range k).foldl (fun A via => plusVia A via L.length) L
def plusL (L : List Nat) : List Nat := plusN L L.length
theorem plusRow_length (A : List Nat) (via p : Nat) : (plusRow A via p).length = A.length := by unfold plusRow; split <;> simp
theorem plusVia_succ (A : List Nat) (via k : Nat) : plusVia A via (k + 1) = plusRow (plusVia A via k) via k := by simp [plusVia, List.range_succ]
theorem plusN_succ (L : List Nat) (k : Nat) : plusN L (k + 1) = plusVia (plusN L k) k L.length := by simp [plusN, List.range_succ]
theorem plusVia_length (A : List Nat) (via k : Nat) : (plusVia A via k).length = A.length := by
  induction k with
  | zero => rfl
  | succ k ih => rw [plusVia_succ, plusRow_length, ih]
theorem plusN_length (L : List Nat) (k : Nat) : (plusN L k).length = L.length := by
  induction k with
  | zero => rfl
  | succ k ih => rw [plusN_succ, plusVia_length, ih]
set_option maxRecDepth 100000 in
set_option maxHeartbeats 40000000 in
theorem Plus_calls (ba ca : Nat) (L : List Nat) (w : World) (h : IsRel w ba ca L) :
    Calls Tryz.prog 69 #[pv ba] w fun e w' => ∃ b c, e = .returned (pv b) ∧ Made w w' b c (plusL L) := by
  have hl := h.len
  go_enter Tryz.func69, Tryz.ntmps69
  go_wp2_with fail
  refine (Copy_calls ba ca L _ h).mono ?_
  rintro e w1 ⟨b, c, rfl, hM1⟩
  have hh := hM1.rel.hcell
  go_wp2_with fail
  clear hh h
  go_loopw [13] (fun i wr => ∃ k : Nat, k ≤ L.length ∧ i = .int .i64 k ∧ Made w wr b c (plusN L k)) (fun i _ => L.length - (intOf i).toNat)
  case atStart => exact ⟨0, by omega, rfl, hM1⟩
  case round =>
    clear hM1
    obtain ⟨k, hk, rfl, hM⟩ := hrel
    by_cases hlt : k < L.length
    · have HE : Hid (_ = _) := plusN_succ L k
      have hlA := plusN_length L k
      generalize plusN L k = A at *
      have hh := hM.rel.hcell
      rw [hlA] at hh
      have HA : Hid (A.length = L.length) := hlA
      clear hlA
      go_wp2_with fail
      clear hh
      go_loopw [21] (fun i wr => ∃ p : Nat, p ≤ L.length ∧ i = .int .i64 p ∧ Made w wr b c (plusVia A k p)) (fun i _ => L.length - (intOf i).toNat)
      case atStart => exact ⟨0, by omega, rfl, hM⟩
      case round =>
        clear hM
        obtain ⟨p, hp, rfl, hM⟩ := hrel
        by_cases hlt2 : p < L.length
        · have HE2 : Hid (_ = _) := plusVia_succ A k p
          have hlB : (plusVia A k p).length = L.length := by rw [plusVia_length, HA.out]
          generalize plusVia A k p = B at *
          have hpB : p < B.length := by omega
          have hkB : k < B.length := by omega
          obtain ⟨y, ⟨y0, y1, y2, y3⟩, _, q1, q2⟩ := hM.rel.slots (gr_of hpB)
          have HlB : Hid (B.length = L.length) := hlB
          clear hlB
          have hp256 : p < 256 := by omega
          go_wp2_with fail
          refine (has_calls (gr B p) k (by omega) _).mono ?_
          rintro e w2 ⟨rfl, hB2⟩
          have hM2 := hM.step hB2
          clear y y0 y1 y2 y3 q1 q2 hM hB2
          cases hbit : (gr B p).testBit k
          · have HF : Hid (plusRow B k p = B) := by show _ = _; simp [plusRow, hbit]
            go_wp2_with fail
            refine ⟨⟨p + 1, by omega, by go_num, ?_⟩, by simp [intOf]; omega⟩
            rw [HE2.out, HF.out]
            exact hM2
          · have HF : Hid (plusRow B k p = B.set p (gr B p ||| gr B k)) := by show _ = _; simp [plusRow, hbit]
            have HR : Hid (gr B p ||| gr B k < 2 ^ B.length) := or_lt (hM2.rel.gr_lt p) (hM2.rel.gr_lt k)
            clear hbit
            have hg := gr_of hpB
            have HG : Hid (B[p]? = some (gr B p)) := hg
            obtain ⟨y, ⟨y0, y1, y2, y3⟩, _, q1, q2⟩ := hM2.rel.slots hg
            obtain ⟨v0, v1, v2, v3⟩ := hM2.rel.cells (gr_of hkB)
            clear hg
            go_wp2_with fail
            clear hlt hk hp
            refine wp_region_held_drew (S := fun w' => w'.cell? ⟨b, 0, none⟩ = some (.slice (some ⟨c, 0, none⟩) B.length B.length)) (by kernel_rfl) y (fun hHeld => ?_)
            refine wpAnyH_take (i := 0) (v := pv b) rfl (by kernel_rfl) (by kernel_rfl) (by kernel_rfl) (fun _ _ _ h => h) (Or.inl ⟨by rfl, ?_⟩) hHeld ?_
            · intro w' hSw
              clear hHeld
              clear y y0 y1 y2 y3 v0 v1 v2 v3
              simp only [List.getElem_toArray, List.getElem_cons_zero]
              go_simp
            simp only [Act.put, List.getElem_toArray, List.getElem_cons_zero, List.setIfInBounds_toArray, List.set_cons_zero, List.set_cons_succ]
            refine wpAnyH_take (i := 1) (v := pv b) rfl (by kernel_rfl) (by kernel_rfl) (by kernel_rfl) (fun _ _ _ h => h) (Or.inl ⟨by rfl, ?_⟩) hHeld ?_
            · intro w' hSw
              clear hHeld
              clear y y0 y1 y2 y3 v0 v1 v2 v3
              simp only [List.getElem_toArray, List.getElem_cons_zero, List.getElem_cons_succ]
              go_simp
            simp only [Act.put, List.getElem_toArray, List.getElem_cons_zero, List.getElem_cons_succ, List.setIfInBounds_toArray, List.set_cons_zero, List.set_cons_succ]
            refine wpAnyH_take (i := 2) (v := pv b) rfl (by kernel_rfl) (by kernel_rfl) (by kernel_rfl) (fun _ _ _ h => h) (Or.inl ⟨by rfl, ?_⟩) hHeld ?_
            · intro w' hSw
              clear hHeld
              clear y y0 y1 y2 y3 v0 v1 v2 v3
              simp only [List.getElem_toArray, List.getElem_cons_zero, List.getElem_cons_succ]
              go_simp
            simp only [Act.put, List.getElem_toArray, List.getElem_cons_zero, List.getElem_cons_succ, List.setIfInBounds_toArray, List.set_cons_zero, List.set_cons_succ]
            refine wpAnyH_take (i := 3) (v := .slice (some ⟨c, 0, none⟩) B.length B.length) rfl (by kernel_rfl) (by kernel_rfl) (by kernel_rfl) (fun _ _ _ h => h) (Or.inl ⟨by rfl, ?_⟩) hHeld ?_
            · intro w' hSw
              clear hHeld
              clear y y0 y1 y2 y3 v0 v1 v2 v3
              simp only [List.getElem_toArray, List.getElem_cons_zero, List.getElem_cons_succ]
              go_simp
            simp only [Act.put, List.getElem_toArray, List.getElem_cons_zero, List.getElem_cons_succ, List.setIfInBounds_toArray, List.set_cons_zero, List.set_cons_succ]
            refine wpAnyH_take (i := 4) (v := .int .i64 ((p : Nat) : Int)) rfl (by kernel_rfl) (by kernel_rfl) (by kernel_rfl) (fun _ _ _ h => h) (Or.inl ⟨by rfl, ?_⟩) hHeld ?_
            · intro w' hSw
              clear hHeld
              clear y y0 y1 y2 y3 v0 v1 v2 v3
              simp only [List.getElem_toArray, List.getElem_cons_zero, List.getElem_cons_succ]
              go_simp
            simp only [Act.put, List.getElem_toArray, List.getElem_cons_zero, List.getElem_cons_succ, List.setIfInBounds_toArray, List.set_cons_zero, List.set_cons_succ]
            refine wpAnyH_take (i := 5) (v := pv b) rfl (by kernel_rfl) (by kernel_rfl) (by kernel_rfl) (fun _ _ _ h => h) (Or.inl ⟨by rfl, ?_⟩) hHeld ?_
            · intro w' hSw
              clear hHeld
              clear y y0 y1 y2 y3 v0 v1 v2 v3
              simp only [List.getElem_toArray, List.getElem_cons_zero, List.getElem_cons_succ]
              go_simp
            simp only [Act.put, List.getElem_toArray, List.getElem_cons_zero, List.getElem_cons_succ, List.setIfInBounds_toArray, List.set_cons_zero, List.set_cons_succ]
            refine wpAnyH_take (i := 6) (v := pv b) rfl (by kernel_rfl) (by kernel_rfl) (by kernel_rfl) (fun _ _ _ h => h) (Or.inl ⟨by rfl, ?_⟩) hHeld ?_
            · intro w' hSw
              clear hHeld
              clear y y0 y1 y2 y3 v0 v1 v2 v3
              simp only [List.getElem_toArray, List.getElem_cons_zero, List.getElem_cons_succ]
              go_simp
            simp only [Act.put, List.getElem_toArray, List.getElem_cons_zero, List.getElem_cons_succ, List.setIfInBounds_toArray, List.set_cons_zero, List.set_cons_succ]
            refine wpAnyH_take (i := 7) (v := pv b) rfl (by kernel_rfl) (by kernel_rfl) (by kernel_rfl) (fun _ _ _ h => h) (Or.inl ⟨by rfl, ?_⟩) hHeld ?_
            · intro w' hSw
              clear hHeld
              clear y y0 y1 y2 y3 v0 v1 v2 v3
              simp only [List.getElem_toArray, List.getElem_cons_zero, List.getElem_cons_succ]
              go_simp
            simp only [Act.put, List.getElem_toArray, List.getElem_cons_zero, List.getElem_cons_succ, List.setIfInBounds_toArray, List.set_cons_zero, List.set_cons_succ]
            refine wpAnyH_take (i := 8) (v := .slice (some ⟨c, 0, none⟩) B.length B.length) rfl (by kernel_rfl) (by kernel_rfl) (by kernel_rfl) (fun _ _ _ h => h) (Or.inl ⟨by rfl, ?_⟩) hHeld ?_
            · intro w' hSw
              clear hHeld
              clear y y0 y1 y2 y3 v0 v1 v2 v3
              simp only [List.getElem_toArray, List.getElem_cons_zero, List.getElem_cons_succ]
              go_simp
            simp only [Act.put, List.getElem_toArray, List.getElem_cons_zero, List.getElem_cons_succ, List.setIfInBounds_toArray, List.set_cons_zero, List.set_cons_succ]
            refine wpAnyH_take (i := 9) (v := .int .i64 ((p : Nat) : Int)) rfl (by kernel_rfl) (by kernel_rfl) (by kernel_rfl) (fun _ _ _ h => h) (Or.inl ⟨by rfl, ?_⟩) hHeld ?_
            · intro w' hSw
              clear hHeld
              clear y y0 y1 y2 y3 v0 v1 v2 v3
              simp only [List.getElem_toArray, List.getElem_cons_zero, List.getElem_cons_succ]
              go_simp
            simp only [Act.put, List.getElem_toArray, List.getElem_cons_zero, List.getElem_cons_succ, List.setIfInBounds_toArray, List.set_cons_zero, List.set_cons_succ]
            refine wpAnyH_take (i := 10) (v := .pointer (some ⟨c, p * 4, none⟩)) rfl (by kernel_rfl) (by kernel_rfl) (by kernel_rfl) (fun _ _ _ h => h) (Or.inl ⟨by rfl, ?_⟩) hHeld ?_
            · intro w' hSw
              clear hHeld
              clear y y0 y1 y2 y3 v0 v1 v2 v3
              simp only [List.getElem_toArray, List.getElem_cons_zero, List.getElem_cons_succ]
              go_simp
            simp only [Act.put, List.getElem_toArray, List.getElem_cons_zero, List.getElem_cons_succ, List.setIfInBounds_toArray, List.set_cons_zero, List.set_cons_succ]
            refine wpAnyH_take (i := 12) (v := pv b) rfl (by kernel_rfl) (by kernel_rfl) (by kernel_rfl) (fun _ _ _ h => h) (Or.inl ⟨by rfl, ?_⟩) hHeld ?_
            · intro w' hSw
              clear hHeld
              clear y y0 y1 y2 y3 v0 v1 v2 v3
              simp only [List.getElem_toArray, List.getElem_cons_zero, List.getElem_cons_succ]
              go_simp
            simp only [Act.put, List.getElem_toArray, List.getElem_cons_zero, List.getElem_cons_succ, List.setIfInBounds_toArray, List.set_cons_zero, List.set_cons_succ]
            refine wpAnyH_take (i := 13) (v := pv b) rfl (by kernel_rfl) (by kernel_rfl) (by kernel_rfl) (fun _ _ _ h => h) (Or.inl ⟨by rfl, ?_⟩) hHeld ?_
            · intro w' hSw
              clear hHeld
              clear y y0 y1 y2 y3 v0 v1 v2 v3
              simp only [List.getElem_toArray, List.getElem_cons_zero, List.getElem_cons_succ]
              go_simp
            simp only [Act.put, List.getElem_toArray, List.getElem_cons_zero, List.getElem_cons_succ, List.setIfInBounds_toArray, List.set_cons_zero, List.set_cons_succ]
            refine wpAnyH_take (i := 14) (v := pv b) rfl (by kernel_rfl) (by kernel_rfl) (by kernel_rfl) (fun _ _ _ h => h) (Or.inl ⟨by rfl, ?_⟩) hHeld ?_
            · intro w' hSw
              clear hHeld
              clear y y0 y1 y2 y3 v0 v1 v2 v3
              simp only [List.getElem_toArray, List.getElem_cons_zero, List.getElem_cons_succ]
              go_simp
            simp only [Act.put, List.getElem_toArray, List.getElem_cons_zero, List.getElem_cons_succ, List.setIfInBounds_toArray, List.set_cons_zero, List.set_cons_succ]
            refine wpAnyH_take (i := 15) (v := .slice (some ⟨c, 0, none⟩) B.length B.length) rfl (by kernel_rfl) (by kernel_rfl) (by kernel_rfl) (fun _ _ _ h => h) (Or.inl ⟨by rfl, ?_⟩) hHeld ?_
            · intro w' hSw
              clear hHeld
              clear y y0 y1 y2 y3 v0 v1 v2 v3
              simp only [List.getElem_toArray, List.getElem_cons_zero, List.getElem_cons_succ]
              go_simp
            simp only [Act.put, List.getElem_toArray, List.getElem_cons_zero, List.getElem_cons_succ, List.setIfInBounds_toArray, List.set_cons_zero, List.set_cons_succ]
            refine wpAnyH_take (i := 16) (v := .int .i64 ((k : Nat) : Int)) rfl (by kernel_rfl) (by kernel_rfl) (by kernel_rfl) (fun _ _ _ h => h) (Or.inl ⟨by rfl, ?_⟩) hHeld ?_
            · intro w' hSw
              clear hHeld
              clear y y0 y1 y2 y3 v0 v1 v2 v3
              simp only [List.getElem_toArray, List.getElem_cons_zero, List.getElem_cons_succ]
              go_simp
            simp only [Act.put, List.getElem_toArray, List.getElem_cons_zero, List.getElem_cons_succ, List.setIfInBounds_toArray, List.set_cons_zero, List.set_cons_succ]
            refine wpAnyH_take (i := 17) (v := .pointer (some ⟨c, k * 4, none⟩)) rfl (by kernel_rfl) (by kernel_rfl) (by kernel_rfl) (fun _ _ _ h => h) (Or.inl ⟨by rfl, ?_⟩) hHeld ?_
            · intro w' hSw
              clear hHeld
              clear y y0 y1 y2 y3 v0 v1 v2 v3
              simp only [List.getElem_toArray, List.getElem_cons_zero, List.getElem_cons_succ]
              go_simp
            simp only [Act.put, List.getElem_toArray, List.getElem_cons_zero, List.getElem_cons_succ, List.setIfInBounds_toArray, List.set_cons_zero, List.set_cons_succ]
            refine wpAnyH_ready (rs := [11, 18]) (by kernel_rfl) (by simp) ?_
            refine AllReadyH.cons rfl (fun K hK => ?_) ?_
            · simp only [List.getElem_toArray, List.getElem_cons_zero, List.getElem_cons_succ]
              go_simp
              refine hK.out _ _ hHeld (fun hHeld => ?_)
              clear hK K
              refine wpAnyH_ready (rs := [18]) (by kernel_rfl) (by simp) ?_
              refine AllReadyH.cons rfl (fun K hK => ?_) AllReadyH.nil
              simp only [List.getElem_toArray, List.getElem_cons_zero, List.getElem_cons_succ]
              go_simp
              refine hK.out _ _ hHeld (fun hHeld => ?_)
              clear hK K
              refine wpAnyH_ready (rs := [19]) (by kernel_rfl) (by simp) ?_
              refine AllReadyH.cons rfl (fun K hK => ?_) AllReadyH.nil
              simp only [List.getElem_toArray, List.getElem_cons_zero, List.getElem_cons_succ]
              go_simp
              have hM2a := (hM2.alloc (.cells #[.int .u64 ((wd (gr B p) 0 : Nat) : Int), .int .u64 ((wd (gr B p) 1 : Nat) : Int), .int .u64 ((wd (gr B p) 2 : Nat) : Int), .int .u64 ((wd (gr B p) 3 : Nat) : Int), .int .u64 ((wd (gr B k) 0 : Nat) : Int), .int .u64 ((wd (gr B k) 1 : Nat) : Int), .int .u64 ((wd (gr B k) 2 : Nat) : Int), .int .u64 ((wd (gr B k) 3 : Nat) : Int)] 102)).drew
              refine hK.out _ _ hM2a.rel.hcell (fun hHeld => ?_)
              clear hK K
              refine wpAnyH_ready (rs := [20]) (by kernel_rfl) (by simp) ?_
              refine AllReadyH.cons rfl (fun K hK => ?_) AllReadyH.nil
              simp only [List.getElem_toArray, List.getElem_cons_zero, List.getElem_cons_succ]
              go_simp
              go_at_call 67
              refine (join_calls (gr B p) (gr B k) _ _ (by rw [two_lit]; first | exact (Blk.new _ _ _).drew | exact Blk.new _ _ _)).mono ?_
              rintro e w3 ⟨rfl, hB3⟩
              have hM3 := hM2a.step hB3
              refine hK.out _ _ hM3.rel.hcell (fun hHeld => ?_)
              clear hK K y y0 y1 y2 y3 v0 v1 v2 v3
              refine wpAnyH_take (i := 21) (v := .pointer (some ⟨c, p * 4, none⟩)) rfl (by kernel_rfl) (by kernel_rfl) (by kernel_rfl) (fun _ _ _ h => h) (Or.inl ⟨by rfl, ?_⟩) hHeld ?_
              · intro w' hSw
                clear hHeld
                simp only [List.getElem_toArray, List.getElem_cons_zero, List.getElem_cons_succ]
                go_simp
              simp only [Act.put, List.getElem_toArray, List.getElem_cons_zero, List.getElem_cons_succ, List.setIfInBounds_toArray, List.set_cons_zero, List.set_cons_succ]
              refine wpAnyH_ready (rs := [22]) (by kernel_rfl) (by simp) ?_
              refine AllReadyH.cons rfl (fun K hK => ?_) AllReadyH.nil
              simp only [List.getElem_toArray, List.getElem_cons_zero, List.getElem_cons_succ]
              obtain ⟨z, ⟨z0, z1, z2, z3⟩, ⟨f0, f1, f2, f3⟩, q5, q6⟩ := hM3.rel.slots HG.out
              go_simp
              have hM5 := hM3.put hpB HR.out
              have hz5 := hM5.rel.hcell
              rw [List.length_set] at hz5
              refine hK.out _ _ hz5 (fun _ => ?_)
              clear hK K
              refine wpAnyH_done (by kernel_rfl) ?_ _
              clear hHeld z z0 z1 z2 z3 f0 f1 f2 f3 hz5
              go_wp2_with fail
              refine ⟨⟨p + 1, by omega, by go_num, ?_⟩, by simp [intOf]; omega⟩
              rw [HE2.out, HF.out]
              exact hM5
            · refine AllReadyH.cons rfl (fun K hK => ?_) AllReadyH.nil
              simp only [List.getElem_toArray, List.getElem_cons_zero, List.getElem_cons_succ]
              go_simp
              refine hK.out _ _ hHeld (fun hHeld => ?_)
              clear hK K
              refine wpAnyH_ready (rs := [11]) (by kernel_rfl) (by simp) ?_
              refine AllReadyH.cons rfl (fun K hK => ?_) AllReadyH.nil
              simp only [List.getElem_toArray, List.getElem_cons_zero, List.getElem_cons_succ]
              go_simp
              refine hK.out _ _ hHeld (fun hHeld => ?_)
              clear hK K
              refine wpAnyH_ready (rs := [19]) (by kernel_rfl) (by simp) ?_
              refine AllReadyH.cons rfl (fun K hK => ?_) AllReadyH.nil
              simp only [List.getElem_toArray, List.getElem_cons_zero, List.getElem_cons_succ]
              go_simp
              have hM2a := (hM2.alloc (.cells #[.int .u64 ((wd (gr B p) 0 : Nat) : Int), .int .u64 ((wd (gr B p) 1 : Nat) : Int), .int .u64 ((wd (gr B p) 2 : Nat) : Int), .int .u64 ((wd (gr B p) 3 : Nat) : Int), .int .u64 ((wd (gr B k) 0 : Nat) : Int), .int .u64 ((wd (gr B k) 1 : Nat) : Int), .int .u64 ((wd (gr B k) 2 : Nat) : Int), .int .u64 ((wd (gr B k) 3 : Nat) : Int)] 102)).drew
              refine hK.out _ _ hM2a.rel.hcell (fun hHeld => ?_)
              clear hK K
              refine wpAnyH_ready (rs := [20]) (by kernel_rfl) (by simp) ?_
              refine AllReadyH.cons rfl (fun K hK => ?_) AllReadyH.nil
              simp only [List.getElem_toArray, List.getElem_cons_zero, List.getElem_cons_succ]
              go_simp
              go_at_call 67
              refine (join_calls (gr B p) (gr B k) _ _ (by rw [two_lit]; first | exact (Blk.new _ _ _).drew | exact Blk.new _ _ _)).mono ?_
              rintro e w3 ⟨rfl, hB3⟩
              have hM3 := hM2a.step hB3
              refine hK.out _ _ hM3.rel.hcell (fun hHeld => ?_)
              clear hK K y y0 y1 y2 y3 v0 v1 v2 v3
              refine wpAnyH_take (i := 21) (v := .pointer (some ⟨c, p * 4, none⟩)) rfl (by kernel_rfl) (by kernel_rfl) (by kernel_rfl) (fun _ _ _ h => h) (Or.inl ⟨by rfl, ?_⟩) hHeld ?_
              · intro w' hSw
                clear hHeld
                simp only [List.getElem_toArray, List.getElem_cons_zero, List.getElem_cons_succ]
                go_simp
              simp only [Act.put, List.getElem_toArray, List.getElem_cons_zero, List.getElem_cons_succ, List.setIfInBounds_toArray, List.set_cons_zero, List.set_cons_succ]
              refine wpAnyH_ready (rs := [22]) (by kernel_rfl) (by simp) ?_
              refine AllReadyH.cons rfl (fun K hK => ?_) AllReadyH.nil
              simp only [List.getElem_toArray, List.getElem_cons_zero, List.getElem_cons_succ]
              obtain ⟨z, ⟨z0, z1, z2, z3⟩, ⟨f0, f1, f2, f3⟩, q5, q6⟩ := hM3.rel.slots HG.out
              go_simp
              have hM5 := hM3.put hpB HR.out
              have hz5 := hM5.rel.hcell
              rw [List.length_set] at hz5
              refine hK.out _ _ hz5 (fun _ => ?_)
              clear hK K
              refine wpAnyH_done (by kernel_rfl) ?_ _
              clear hHeld z z0 z1 z2 z3 f0 f1 f2 f3 hz5
              go_wp2_with fail
              refine ⟨⟨p + 1, by omega, by go_num, ?_⟩, by simp [intOf]; omega⟩
              rw [HE2.out, HF.out]
              exact hM5
        · obtain rfl : p = L.length := by omega
          go_wp2_with fail
          refine ⟨⟨k + 1, by omega, by go_num, ?_⟩, by simp [intOf]; omega⟩
          rw [HE.out]
          exact hM
    · obtain rfl : k = L.length := by omega
      go_wp2_with fail
      go_ret
      exact ⟨b, c, rfl, hM⟩
end Go.Proofs.YtmmadkghojoniaaGreatDoor
namespace Go.Proofs.YtmmadkghojoniaaGreatDoor
open Go.RowKit Go.Shelf Sx
def rowL (n : Nat) (f : Nat → Bool) : List Bool := (List.range n).map f
abbrev hdr (n r : Nat) : Value := .slice (some ⟨r, 0, none⟩) n n
def upd (F : Nat → Nat → Bool) (p q : Nat) (b : Bool) : Nat → Nat → Bool := fun x y => if x = p ∧ y = q then b else F x y
theorem rowL_at {n q : Nat} {f : Nat → Bool} (h : q < n) : (arrB (rowL n f))[q]? = some (.bool (f q)) := by
  simp [arrB, rowL, h]
theorem rowL_congr {n : Nat} {f g : Nat → Bool} (h : ∀ q, q < n → f q = g q) : rowL n f = rowL n g := by
  unfold rowL
  exact List.map_congr_left fun q hq => h q (List.mem_range.1 hq)
theorem rowL_set {n q : Nat} {f : Nat → Bool} (b : Bool) (h : q < n) : (arrB (rowL n f)).setIfInBounds q (.bool b) = arrB (rowL n (fun y => if y = q then b else f y)) := by
  rw [arrB_set]
  congr 1
  apply List.ext_getElem?
  intro i
  rw [List.getElem?_set]
  by_cases e : q = i
  · subst e; simp [rowL, h]
  · rw [if_neg e]
    by_cases hi : i < n
    · simp [rowL, hi]
      intro h2
      exact absurd h2.symm e
    · rw [List.getElem?_eq_none (by simp [rowL]; omega), List.getElem?_eq_none (by simp [rowL]; omega)]
theorem rowL_false (n : Nat) : rowL n (fun _ => false) = List.replicate n false := by
  unfold rowL
  apply List.ext_getElem?
  intro i
  by_cases hi : i < n
  · simp [hi]
  · rw [List.getElem?_eq_none (by simp; omega), List.getElem?_eq_none (by simp; omega)]
structure RefM (lo : Nat) (w : World) (M : Value) (k n : Nat) (rb : Nat → Nat) (F : Nat → Nat → Bool) : Prop where
  own : w.ownsRow lo 65 1 M k ((List.range k).map (fun p => hdr n (rb p)))
  row : ∀ p, p < k → lo ≤ rb p ∧ Blk w (rb p) 4 (arrB (rowL n (F p)))
  apart : ∀ p, p < k → M.ownBlock ≠ some (rb p)
  inj : ∀ p q, p < k → q < k → rb p = rb q → p = q
theorem RefM.below {lo : Nat} {w w' : World} {M : Value} {k n : Nat} {rb : Nat → Nat} {F : Nat → Nat → Bool} (h : RefM lo w M k n rb F) (hB : Below w.heap.size w w') : RefM lo w' M k n rb F := by
  refine ⟨?_, fun p hp => ⟨(h.row p hp).1, (h.row p hp).2.of_below hB⟩, h.apart, h.inj⟩
  obtain ⟨h1, h2⟩ := h.own
  refine ⟨h1, ?_⟩
  rcases h2 with h2 | ⟨g, cap, cur, e1, e2, e3, e4⟩
  · exact .inl h2
  · exact .inr ⟨g, cap, cur, e1, e2, (hB.block g (Array.getElem?_eq_some_iff.1 e3).1).trans e3, e4⟩
theorem RefM.below' {lo : Nat} {w w' : World} {M : Value} {k n : Nat} {rb : Nat → Nat} {F : Nat → Nat → Bool} (h : RefM lo w M k n rb F) (hk : ∀ x, lo ≤ x → x < w.heap.size → w'.heap[x]? = w.heap[x]?) : RefM lo w' M k n rb F := by
  refine ⟨?_, fun p hp => ⟨(h.row p hp).1, (hk _ (h.row p hp).1 (h.row p hp).2.lt).trans (h.row p hp).2⟩, h.apart, h.inj⟩
  obtain ⟨h1, h2⟩ := h.own
  refine ⟨h1, ?_⟩
  rcases h2 with h2 | ⟨g, cap, cur, e1, e2, e3, e4⟩
  · exact .inl h2
  · exact .inr ⟨g, cap, cur, e1, e2, (hk g e2 (Array.getElem?_eq_some_iff.1 e3).1).trans e3, e4⟩
theorem RefM.mono {lo lo' : Nat} {w : World} {M : Value} {k n : Nat} {rb : Nat → Nat} {F : Nat → Nat → Bool} (h : RefM lo w M k n rb F) (hl : lo' ≤ lo) : RefM lo' w M k n rb F := by
  refine ⟨?_, fun p hp => ⟨Nat.le_trans hl (h.row p hp).1, (h.row p hp).2⟩, h.apart, h.inj⟩
  obtain ⟨h1, h2⟩ := h.own
  refine ⟨h1, ?_⟩
  rcases h2 with h2 | ⟨g, cap, cur, e1, e2, e3⟩
  · exact .inl h2
  · exact .inr ⟨g, cap, cur, e1, Nat.le_trans hl e2, e3⟩
theorem RefM.alloc {lo : Nat} {w : World} {M : Value} {k n : Nat} {rb : Nat → Nat} {F : Nat → Nat → Bool} (h : RefM lo w M k n rb F) (o : Obj) : RefM lo (w.alloc o) M k n rb F := h.below ((Below.refl _ _).alloc (Nat.le_refl _) _)
theorem RefM.drew {lo : Nat} {w : World} {M : Value} {k n : Nat} {rb : Nat → Nat} {F : Nat → Nat → Bool} (h : RefM lo w M k n rb F) : RefM lo w.drew M k n rb F := h.below (Below.refl _ _).drew
theorem RefM.drewN {lo : Nat} {w : World} {M : Value} {k n : Nat} {rb : Nat → Nat} {F : Nat → Nat → Bool} (h : RefM lo w M k n rb F) (m : Nat) : RefM lo (w.drewN m) M k n rb F := h.below (below_drewN (Below.refl _ _) m)
theorem RefM.at_ {lo : Nat} {w : World} {M : Value} {k n : Nat} {rb : Nat → Nat} {F : Nat → Nat → Bool} (h : RefM lo w M k n rb F) {p q : Nat} (hp : p < k) (hq : q < n) :
    ∃ g cap, M = .slice (some ⟨g, 0, none⟩) k cap ∧ g < w.heap.size ∧ lo ≤ g ∧ rb p ≠ g ∧ w.cell? ⟨g, p, none⟩ = some (hdr n (rb p)) ∧ w.cell? ⟨rb p, q, none⟩ = some (.bool (F p q)) ∧ w.frozen? ⟨rb p, q, none⟩ = false ∧ rb p < w.heap.size := by
  have h2 := h.apart p hp
  have h3 := (h.row p hp).2
  rcases h.own.2 with ⟨_, e⟩ | ⟨g, cap, cur, rfl, e2, e3, _, _, _, e4⟩
  · omega
  · refine ⟨g, cap, rfl, (Array.getElem?_eq_some_iff.1 e3).1, e2, fun e => h2 (by rw [e]; rfl), ?_, h3.cell (rowL_at hq), h3.frozen q, h3.lt⟩
    have hb : Blk w g 65 cur := e3
    apply hb.cell
    rw [← Array.getElem?_toList]
    have : (cur.toList.take (k * 1))[p]? = some (hdr n (rb p)) := by rw [e4]; simp [hp]
    rw [List.getElem?_take] at this
    split at this
    · exact this
    · cases this
theorem RefM.put {lo : Nat} {w : World} {M : Value} {k n : Nat} {rb : Nat → Nat} {F : Nat → Nat → Bool} (h : RefM lo w M k n rb F) {p q : Nat} (hp : p < k) (hq : q < n) (b : Bool) :
    RefM lo (w.setCell ⟨rb p, q, none⟩ (.bool b)) M k n rb (upd F p q b) := by
  refine ⟨?_, fun x hx => ⟨(h.row x hx).1, ?_⟩, h.apart, h.inj⟩
  · obtain ⟨h1, h2⟩ := h.own
    refine ⟨h1, ?_⟩
    rcases h2 with h2 | ⟨g, cap, cur, e1, e2, e3, e4⟩
    · exact .inl h2
    · have hg : g ≠ rb p := fun e => h.apart p hp (by rw [e1, ← e]; rfl)
      exact .inr ⟨g, cap, cur, e1, e2, (Below.heap_setCell w ⟨rb p, q, none⟩ (.bool b) g hg).trans e3, e4⟩
  · by_cases e : x = p
    · subst e
      have := (h.row x hx).2.set q (.bool b)
      rw [rowL_set b hq] at this
      have e2 : (fun y => if y = q then b else F x y) = upd F x q b x := by
        funext y
        unfold upd
        simp
      rwa [e2] at this
    · have e2 : upd F p q b x = F x := by
        funext y
        unfold upd
        simp [e]
      rw [e2]
      exact (h.row x hx).2.setOther (fun h2 => e (h.inj x p hx hp h2)) _
theorem RefM.slice {lo : Nat} {w : World} {M : Value} {k n : Nat} {rb : Nat → Nat} {F : Nat → Nat → Bool} (h : RefM lo w M k n rb F) : ∃ x y z, M = .slice x y z := by
  rcases h.own.2 with ⟨e, _⟩ | ⟨g, cap, cur, e, _⟩
  · exact ⟨_, _, _, e⟩
  · exact ⟨_, _, _, e⟩
theorem RefM.congr {lo : Nat} {w : World} {M : Value} {k n : Nat} {rb : Nat → Nat} {F G : Nat → Nat → Bool} (h : RefM lo w M k n rb F) (hfg : ∀ p q, p < k → q < n → F p q = G p q) : RefM lo w M k n rb G :=
  ⟨h.own, fun p hp => ⟨(h.row p hp).1, by rw [← rowL_congr (fun q hq => hfg p q hp hq)]; exact (h.row p hp).2⟩, h.apart, h.inj⟩
theorem RefM.nil (lo : Nat) (w : World) (n : Nat) (rb : Nat → Nat) (F : Nat → Nat → Bool) : RefM lo w (.slice none 0 0) 0 n rb F :=
  ⟨World.ownsRow_nil _ _ _ _, fun p hp => by omega, fun p hp => by omega, fun p q hp => by omega⟩
theorem RefM.more {lo : Nat} {w w' : World} {M M' : Value} {k n r : Nat} {rb : Nat → Nat} {F : Nat → Nat → Bool} (h : RefM lo w M k n rb F) (hr : Blk w r 4 (arrB (rowL n (F k)))) (hlo : lo ≤ r) (hnew : ∀ p, p < k → rb p ≠ r) (hM : M.ownBlock ≠ some r)
    (hown : w'.ownsRow lo 65 1 M' (k + 1) ((List.range k).map (fun p => hdr n (rb p)) ++ [hdr n r])) (hg : w.grownBy w' M.ownBlock) (hat : M'.ownBlock = M.ownBlock ∨ ∃ g, M'.ownBlock = some g ∧ w.heap.size ≤ g) :
    RefM lo w' M' (k + 1) n (fun p => if p = k then r else rb p) F := by
  have hkeep : ∀ (x : Nat) (cs : Array Value), Blk w x 4 cs → M.ownBlock ≠ some x → Blk w' x 4 cs := fun x cs hb hx => (hg.block x hb.lt (fun e => hx e.symm)).trans hb
  refine ⟨?_, ?_, ?_, ?_⟩
  · have e : (List.range (k + 1)).map (fun p => hdr n (if p = k then r else rb p)) = (List.range k).map (fun p => hdr n (rb p)) ++ [hdr n r] := by
      rw [List.range_succ, List.map_append]
      congr 1
      · apply List.map_congr_left
        intro p hp
        have := List.mem_range.1 hp
        rw [if_neg (by omega)]
      · simp
    rw [e]
    exact hown
  · intro p hp
    by_cases e : p = k
    · subst e
      rw [if_pos rfl]
      exact ⟨hlo, hkeep r _ hr hM⟩
    · rw [if_neg e]
      exact ⟨(h.row p (by omega)).1, hkeep _ _ (h.row p (by omega)).2 (h.apart p (by omega))⟩
  · intro p hp
    have hb : M.ownBlock ≠ some (if p = k then r else rb p) ∧ (if p = k then r else rb p) < w.heap.size := by
      by_cases e : p = k
      · rw [if_pos e]; exact ⟨hM, hr.lt⟩
      · rw [if_neg e]; exact ⟨h.apart p (by omega), (h.row p (by omega)).2.lt⟩
    rcases hat with hat | ⟨g, e1, e2⟩
    · rw [hat]; exact hb.1
    · rw [e1]
      intro e
      have := Option.some.inj e
      omega
  · intro p q hp hq he
    by_cases e1 : p = k <;> by_cases e2 : q = k
    · omega
    · rw [if_pos e1, if_neg e2] at he
      exact absurd he.symm (hnew q (by omega))
    · rw [if_neg e1, if_pos e2] at he
      exact absurd he (hnew p (by omega))
    · rw [if_neg e1, if_neg e2] at he
      exact h.inj p q (by omega) (by omega) he
end Go.Proofs.YtmmadkghojoniaaGreatDoor
namespace Go.Proofs.YtmmadkghojoniaaGreatDoor
open Go.RowKit Go.Shelf Sx
structure RefMid (w W : World) (M : Value) (k n : Nat) (rb : Nat → Nat) : Prop where
  below : Below w.heap.size w W
  res : Blk W w.heap.size 51 #[.int .i64 0, .slice none 0 0]
  box : Blk W (w.heap.size + 1) 51 #[.int .i64 ((n : Nat) : Int), M]
  ref : RefM (w.heap.size + 2) W M k n rb (fun _ _ => false)
theorem RefMid.kept {w W W' : World} {M : Value} {k n : Nat} {rb : Nat → Nat} (h : RefMid w W M k n rb)
    (hg : ((W.drew.alloc (.cells (arrB (List.replicate n false)) 4)).alloc (.cells #[hdr n W.heap.size] 65)).grownBy W' M.ownBlock) : Blk W' (w.heap.size + 1) 51 #[.int .i64 ((n : Nat) : Int), M] :=
  (hg.block _ (by have := h.box.lt; simp; omega) (fun e => by have := (h.ref.own.lt _ e.symm).1; omega)).trans ((h.box.drew.alloc _).alloc _)
theorem RefMid.next {w W W' : World} {M M' : Value} {k n : Nat} {rb : Nat → Nat} (h : RefMid w W M k n rb)
    (hown : W'.ownsRow (w.heap.size + 2) 65 1 M' (k + 1) ((List.range k).map (fun p => hdr n (rb p)) ++ [hdr n W.heap.size]))
    (hg : ((W.drew.alloc (.cells (arrB (List.replicate n false)) 4)).alloc (.cells #[hdr n W.heap.size] 65)).grownBy W' M.ownBlock)
    (hat : M'.ownBlock = M.ownBlock ∨ M'.ownBlock = some ((W.drew.alloc (.cells (arrB (List.replicate n false)) 4)).alloc (.cells #[hdr n W.heap.size] 65)).heap.size) :
    RefMid w (W'.setCell ⟨w.heap.size + 1, 1, none⟩ M') M' (k + 1) n (fun p => if p = k then W.heap.size else rb p) := by
  have hx := h.box.lt
  have hge : ∀ g, M.ownBlock = some g → w.heap.size + 2 ≤ g := fun g e => (h.ref.own.lt g e).1
  have hlt : ∀ g, M.ownBlock = some g → g < W.heap.size := fun g e => (h.ref.own.lt g e).2
  have hB : Below w.heap.size w W' := ((h.below.drew.alloc (by have := h.below.size; simpa using this) _).alloc (by simp; omega) _).grown hg (by simp; omega) (fun g e => by have := hge g e; omega)
  have keep : ∀ (x : Nat) (t : TypeId) (cs : Array Value), Blk W x t cs → x < w.heap.size + 2 → Blk W' x t cs := fun x t cs hb hx2 =>
    (hg.block x (by have := hb.lt; simp; omega) (fun e => by have := hge x e.symm; omega)).trans ((hb.drew.alloc _).alloc _)
  have hR : RefM (w.heap.size + 2) W' M' (k + 1) n (fun p => if p = k then W.heap.size else rb p) (fun _ _ => false) := by
    refine ((h.ref.drew.alloc _).alloc _).more ?_ (by omega) ?_ ?_ hown hg ?_
    · rw [rowL_false]
      exact (Blk.new W.drew _ _).alloc _
    · intro p hp e
      have := (h.ref.row p hp).2.lt
      omega
    · intro e
      have := hlt _ e
      omega
    · rcases hat with hat | hat
      · exact .inl hat
      · exact .inr ⟨_, hat, Nat.le_refl _⟩
  refine ⟨hB.setCell (by simp) _, (keep _ _ _ h.res (by omega)).setOther (by simp) _, ?_, ?_⟩
  · have := (keep _ _ _ h.box (by omega)).set 1 M'
    simpa using this
  · exact hR.below' fun x hx _ => Below.heap_setCell W' ⟨w.heap.size + 1, 1, none⟩ M' x (by simp; omega)
end Go.Proofs.YtmmadkghojoniaaGreatDoor
